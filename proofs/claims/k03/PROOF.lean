import PyProof.Rows.All
import Wide.All
import OpenK.AllK
import Wide.FinOn
import KE.KExcSuper
import KE.GoesMore
import KE.KExcIs
import KE.RegKSuper
import HandS.ForMost
import HandS.EndBits
import HandS.Wide
import HandS.Star
import HandS.IsInst
import HandS.Codes
import HandS.More
import HandS.StrMore
import HandS.ClsMeth
import HandS.SlotsOwn
import HandS.FStrTup
import HandS.FStr
import HandS.ExcInit
import HandS.ExcField
import PySem.Challenge.RW_quietprobes_k03_lines_of_things
set_option Elab.async false
set_option maxRecDepth 100000
set_option maxHeartbeats 4000000
set_option linter.all false
namespace Qp
open PySem L2
def top (i : Nat) : Stmt := PySem.Challenge.pw_quietprobes_k03_lines_of_things.main.body.getD i (.Pass ⟨0, 0, 0, 0⟩)
abbrev sIsName : Stmt := top 7
abbrev sNames : Stmt := top 8
abbrev sUnlike : Stmt := top 9
abbrev sCls : Stmt := top 12
abbrev sPool : Stmt := top 14
abbrev sDraw : Stmt := top 15
abbrev sWord : Stmt := top 16
abbrev sThing : Stmt := top 17
abbrev sSame : Stmt := top 18
abbrev sTable : Stmt := top 19
abbrev sLaw : Stmt := top 20
abbrev me (i : Nat) : Stmt := (C8.clsBody sCls).getD i (.Pass ⟨0, 0, 0, 0⟩)
/-! ### the pool of drawn numbers -/
/-- all objects but the two of the pool stay -/
def Keeps (p q : Addr) (H H' : Hp) : Prop := ∀ x o, x ≠ p → x ≠ q → H x = some o → H' x = some o
theorem Keeps.refl (p q : Addr) (H : Hp) : Keeps p q H H := fun _ _ _ _ e => e
theorem Keeps.trans {p q : Addr} {H H1 H2 : Hp} (a : Keeps p q H H1) (b : Keeps p q H1 H2) : Keeps p q H H2 := fun x o h1 h2 e => b x o h1 h2 (a x o h1 h2 e)
theorem Keeps.of_same {p q : Addr} {H H1 : Hp} (a : Same H H1) : Keeps p q H H1 := fun x o _ _ e => a x o e
theorem Keeps.upd_p {p q : Addr} {H : Hp} {o : HO} : Keeps p q H (upd H p o) := fun x u h1 _ e => by
  rw [upd_ne h1]; exact e
theorem Keeps.upd_q {p q : Addr} {H : Hp} {o : HO} : Keeps p q H (upd H q o) := fun x u _ h2 e => by
  rw [upd_ne h2]; exact e
theorem Keeps.upd_new {p q a : Addr} {H : Hp} {o : HO} (n : H a = none) : Keeps p q H (upd H a o) := fun x u _ _ e => by
  rw [upd_ne (ne_of_none e n)]; exact e
theorem Keeps.free {p q a : Addr} {H H1 : Hp} (k : Keeps p q H H1) (n : H1 a = none) (hp : a ≠ p) (hq : a ≠ q) : H a = none := by
  cases e : H a with
  | none => rfl
  | some o => rw [k a o hp hq e] at n; cases n
/-- the pool's two lists: how many numbers were drawn is n -/
structure PoolAt (H : Hp) (p q : Addr) (n : Nat) : Prop where
  ne : p ≠ q
  ex : ∃ (cs : List Int) (b c : Int), H p = some (.lst [.ref q, .int b, .int (n : Int), .int c]) ∧ H q = some (.lst (cs.map V.int)) ∧ cs.length ≤ 1000 ∧ 0 ≤ b ∧ 0 ≤ c ∧ c < 2147483629
theorem PoolAt.p_some {H : Hp} {p q : Addr} {n : Nat} (h : PoolAt H p q n) : ∃ o, H p = some o := let ⟨_, _, _, e, _⟩ := h.ex; ⟨_, e⟩
theorem PoolAt.q_some {H : Hp} {p q : Addr} {n : Nat} (h : PoolAt H p q n) : ∃ o, H q = some o := let ⟨_, _, _, _, e, _⟩ := h.ex; ⟨_, e⟩
theorem PoolAt.same {H H' : Hp} {p q : Addr} {n : Nat} (h : PoolAt H p q n) (s : Same H H') : PoolAt H' p q n := by
  obtain ⟨ne, cs, b, c, e1, e2, r⟩ := h
  exact ⟨ne, cs, b, c, s _ _ e1, s _ _ e2, r⟩
theorem PoolAt.new {H : Hp} {p q a : Addr} {n : Nat} {o : HO} (h : PoolAt H p q n) (na : H a = none) : PoolAt (upd H a o) p q n :=
  h.same fun x u e => by rw [upd_ne (ne_of_none e na)]; exact e
section
variable {X : Cx}
theorem get_list : PGet X (rIxL X.K) := by
  intro pins s σ H o i ov iv Q I ro ri h
  obtain ⟨p, xs, k, z, rfl, rfl, hq, he, q⟩ := h
  cases ro
  obtain ⟨t, rfl⟩ := ri
  obtain ⟨its, r, pl, hz⟩ := I.list hq
  obtain ⟨j, h1, h2, h3, h4, h5⟩ := atI_get he
  obtain ⟨w, ew, rw'⟩ := r.get h2
  have hl := r.length
  have hn := line63
  have fin : EP X pins σ Q w s := ⟨z, H, I, rw', q⟩
  by_cases h0 : 0 ≤ k
  · have hj : k.toNat = j := by
      rw [seqIndex_of h0 h5] at h1
      exact Option.some.inj h1
    exact wpAny_getItem_list pl.isList h0 (by omega) (by rw [hj]; simpa using ew) fin
  · have hj : (k + (its.toArray.size : Int)).toNat = j := by
      rw [seqIndex_neg (by omega) h4] at h1
      rw [List.size_toArray, ← hl]
      exact Option.some.inj h1
    exact wpAny_getItem_list_neg pl.isList (by omega) (by rw [List.size_toArray] <;> omega) (by omega) (by rw [hj]; simpa using ew) fin
end
theorem div_many {b m : Int} (h0 : 0 < m) (h1 : m ≤ 10 ^ 40) : CDivW b m := by
  refine wide_div (b := 200) h0 ?_ (by decide) (by decide)
  have h : m.natAbs ≤ 10 ^ 40 := by omega
  exact Nat.lt_of_le_of_lt h (by decide)
def spDraw : Sp := fun vs H Q _ => ∃ (p q : Addr) (n : Nat) (m : Int), vs = [.ref p, .int m] ∧ PoolAt H p q n ∧ n < 1000000 ∧ 0 < m ∧ m ≤ 10 ^ 40 ∧
  ∀ (d : Int) (H' : Hp), 0 ≤ d → d < m → PoolAt H' p q (n + 1) → Keeps p q H H' → Q (.int d) H'
section
variable {P : Program} {w : World} {K : PySem.W.Frag} {mg : Str → Option Value} {base : Heap}
theorem scD : FnScope ["pool", "many", "cell", "code", "digit", "far", "mixed"] ["pool", "many"] (defScope sDraw) := ⟨rfl, rfl, rfl, by decide +kernel, rfl, by decide +kernel, by decide +kernel⟩
theorem ok_draw {f : Addr} {fd : FuncData} {k : Nat} (F : Fun K "_law_draw" "_law_draw" sDraw f fd) (mi : mg "int" = none) : FnOk P w K mg base CX0 (k + 1) f fd ["pool", "many"] spDraw := by
  refine F.ok scD (fun vs H Q E h => ?_) (fun cdv A outer s H vs Q E hr h => ?_)
  · obtain ⟨p, q, n, m, rfl, _⟩ := h
    rfl
  · obtain ⟨p, q, n, m, rfl, ⟨npq, cs, b, c, hp, hq, hcs, hb, hc0, hc1⟩, hn, hm0, hm1, kk⟩ := h
    refine ⟨_,
      pss_cons (ps_augS (pv 0) pe_int get_list pe_int ip_add set_list)
      (C8.pss_cut (ps_if (PW.pt (pw_and (pt_cmpR op_eq (pe_ix ix_list (pv 0) pe_int (fun _ _ => rfl)) pe_int (nomark _)) (pw_and1 (pt_truth (pe_ix ix_list (pv 0) pe_int (fun _ _ => rfl)) (by intro _; rfl)))))
        (pss_cons (ps_set (i := 2) scD.nd rfl (.inl rfl) (pe_callTy call_int1 (by rfl) mi (by decide +kernel) (pa_cons (pe_bm PySem.F.plainAttrs_list PySem.F.slot_list_pop PySem.F.type_list_pop mt_popAt (pe_ix ix_list (pv 0) pe_int (fun _ _ => rfl)) (pa_cons pe_int pa_nil)) pa_nil)))
        (C8.pss_cut (ps_set (i := 3) scD.nd rfl (.inl rfl) (pe_ifExp (pt_cmpR op_ge (pv 2) pe_int (nomark _)) (pe_op op_mul pe_int (pv 2)) (pe_op op_sub (pe_un un_neg pe_int) (pe_op op_mul pe_int (pv 2)))))
        (pss_one (ps_if (pt_cmpR op_ge (pv 3) (pe_op op_pow pe_int pe_int) (nomark _))
          (pss_one (ps_asg (pv 3) (pg_sub (pv 0) pe_int set_list)))
          (pss_one (ps_asg (pe_op op_mod (pe_callTy call_int1 (by rfl) mi (by decide +kernel) (pa_cons (pe_op op_add (pe_op op_add (pe_op op_mul (pe_ix ix_list (pv 0) pe_int (fun _ _ => rfl)) pe_int) (pe_op op_mul (pv 3) pe_int)) pe_int) pa_nil)) pe_int) (pg_sub (pv 0) pe_int set_list)))))))
        pss_nil)
      (pss_cons (ps_if (pt_cmpR op_gt (pe_ix ix_list (pv 0) pe_int (fun _ _ => rfl)) pe_int (nomark _))
        (pss_cons (ps_set (i := 4) scD.nd rfl (.inl rfl) (pe_op op_mod (pe_callTy call_int1 (by rfl) mi (by decide +kernel) (pa_cons (pe_ix ix_list (pv 0) pe_int (fun _ _ => rfl)) pa_nil)) (pv 1)))
        (pss_cons (ps_asg (pe_op op_fdivW (pe_ix ix_list (pv 0) pe_int (fun _ _ => rfl)) (pv 1)) (pg_sub (pv 0) pe_int set_list))
        (pss_one (ps_ret (pv 4)))))
        pss_nil)
      (pss_cons (ps_if (pt_cmpR op_eq (pe_ix ix_list (pv 0) pe_int (fun _ _ => rfl)) pe_int (nomark _)) (pss_one (ps_ret pe_int)) pss_nil)
      (pss_cons (ps_set (i := 5) scD.nd rfl (.inl rfl) (pe_op op_add (pe_op op_mul (pe_ix ix_list (pv 0) pe_int (fun _ _ => rfl)) pe_int) (pe_op op_mul (pe_op op_mul (pe_ix ix_list (pv 0) pe_int (fun _ _ => rfl)) (pe_ix ix_list (pv 0) pe_int (fun _ _ => rfl))) pe_int)))
      (pss_cons (ps_set (i := 6) scD.nd rfl (.inl rfl) (pe_op op_mod (pe_callTy call_int1 (by rfl) mi (by decide +kernel) (pa_cons (pe_op op_add (pe_op op_mul (pe_ix ix_list (pv 0) pe_int (fun _ _ => rfl)) pe_int) (pv 5)) pa_nil)) pe_int))
      (pss_one (ps_ret (pe_op op_mod (pe_op op_mod (pe_callTy call_int1 (by rfl) mi (by decide +kernel) (pa_cons (pe_op op_fdiv (pe_op op_mul (pv 6) pe_int) pe_int) pa_nil)) pe_int) (pv 1))))))))), ?_⟩
    -- pool[2] += 1
    have g : ∀ {H : Hp} {x y z t : V}, H p = some (.lst [x, y, z, t]) → SqL K H p [x, y, z, t] := fun e => SqL.of e
    refine ⟨_, rfl, p, _, 2, _, rfl, rfl, g hp, atI_nat (j := 2) rfl, n, 1, rfl, rfl, p, _, 2, 2, rfl, rfl, hp, rfl, ?_⟩
    have K1 : Keeps p q H (upd H p (.lst [.ref q, .int b, .int ((n : Int) + 1), .int c])) := Keeps.upd_p
    have hp1 : (upd H p (.lst [.ref q, .int b, .int ((n : Int) + 1), .int c])) p = some (.lst [.ref q, .int b, .int ((n : Int) + 1), .int c]) := upd_same
    have hq1 : (upd H p (.lst [.ref q, .int b, .int ((n : Int) + 1), .int c])) q = some (.lst (cs.map V.int)) := by rw [upd_ne npq.symm]; exact hq
    refine ⟨fun σ H1 => ∃ (cs b c : _) (y2 y3 : Option V), σ = [some (.ref p), some (.int m), y2, y3, none, none, none] ∧ Keeps p q H H1 ∧
      H1 p = some (.lst [.ref q, .int b, .int ((n : Int) + 1), .int c]) ∧ H1 q = some (.lst (List.map V.int cs)) ∧ cs.length ≤ 1000 ∧ 0 ≤ b ∧ 0 ≤ c ∧ c < 2147483629, ?_, ?_⟩
    · -- if pool[1] == 0 and pool[0]
      refine ⟨_, rfl, p, _, 1, _, rfl, rfl, g hp1, atI_nat (j := 1) rfl, rfl, _, rfl, ?_⟩
      refine ite2 (fun _ => ?_) (fun _ => ?_)
      · refine ⟨_, rfl, p, _, 0, _, rfl, rfl, g hp1, atI_nat (j := 0) rfl, _, .inl ⟨_, SqL.of hq1, rfl⟩, ?_⟩
        cases cs with
        | nil =>
          refine iteF ?_
          exact ⟨[], b, c, none, none, rfl, K1, hp1, hq1, Nat.zero_le _, hb, hc0, hc1⟩
        | cons z r =>
          refine iteT ?_
          -- cell = int(pool[0].pop(0))
          refine ⟨_, rfl, p, _, 0, _, rfl, rfl, g hp1, atI_nat (j := 0) rfl, .inl ⟨rfl, _, SqL.of hq1⟩, q, _, 0, 0, _, rfl, rfl, hq1, by decide, by decide, seqIndex_of (by decide) (by simp), rfl, ?_⟩
          have hq2 : (upd (upd H p (.lst [.ref q, .int b, .int ((n : Int) + 1), .int c])) q (.lst (r.map V.int))) q = some (.lst (r.map V.int)) := upd_same
          have hp2 : (upd (upd H p (.lst [.ref q, .int b, .int ((n : Int) + 1), .int c])) q (.lst (r.map V.int))) p = some (.lst [.ref q, .int b, .int ((n : Int) + 1), .int c]) := by
            rw [upd_ne npq, hp1]
          have K2 : Keeps p q H (upd (upd H p (.lst [.ref q, .int b, .int ((n : Int) + 1), .int c])) q (.lst (r.map V.int))) := K1.trans .upd_q
          refine .inl ⟨z, rfl, ?_⟩
          have hr1 : r.length ≤ 1000 := Nat.le_of_succ_le hcs
          -- code
          refine ⟨fun σ H1 => ∃ code : Int, σ = [some (.ref p), some (.int m), some (.int z), some (.int code), none, none, none] ∧ 0 ≤ code ∧ H1 = upd (upd H p (.lst [.ref q, .int b, .int ((n : Int) + 1), .int c])) q (.lst (r.map V.int)), ?_, ?_⟩
          · refine ⟨_, rfl, _, _, rfl, rfl, _, rfl, ?_⟩
            refine ite2 (fun hz => ?_) (fun hz => ?_)
            · have hz' : 0 ≤ z := of_decide_eq_true hz
              exact ⟨_, rfl, _, _, rfl, rfl, .inl (by decide), 2 * z, rfl, by omega, rfl⟩
            · have hz' : ¬ 0 ≤ z := fun e => hz (decide_eq_true e)
              exact ⟨_, rfl, _, rfl, _, _, rfl, rfl, .inl (by decide), _, _, rfl, rfl, -1 - 2 * z, rfl, by omega, rfl⟩
          · rintro σ H1 ⟨code, rfl, hcode, rfl⟩
            refine ⟨_, rfl, _, _, rfl, rfl, ⟨by decide, by decide, by decide⟩, _, _, rfl, rfl, _, rfl, ?_⟩
            refine ite2 (fun hz => ?_) (fun hz => ?_)
            · refine ⟨_, rfl, _, rfl, p, _, 1, 1, rfl, rfl, hp2, rfl, ?_⟩
              exact ⟨r, code, c, _, _, rfl, K2.trans .upd_p, upd_same, by rw [upd_ne npq.symm]; exact hq2, hr1, hcode, hc0, hc1⟩
            · have hz' : ¬ ((10 : Int) ^ (18 : Int).toNat ≤ code) := fun e => hz (decide_eq_true e)
              refine ⟨_, rfl, p, _, 3, _, rfl, rfl, g hp2, atI_nat (j := 3) rfl, _, _, rfl, rfl, .inl ⟨by omega, by omega⟩, _, rfl, _, _, rfl, rfl, .inr (by decide), _, _, rfl, rfl, _, _, rfl, rfl, .inl ⟨_, rfl, _, _, rfl, rfl, (by show (0 : Int) < 2147483629; decide), _, rfl, p, _, 3, 3, rfl, rfl, hp2, rfl, ?_⟩⟩
              refine ⟨r, b, _, _, _, rfl, K2.trans .upd_p, upd_same, by rw [upd_ne npq.symm]; exact hq2, hr1, hb, Int.emod_nonneg _ (by decide), Int.emod_lt_of_pos _ (by decide)⟩
      · exact ⟨cs, b, c, none, none, rfl, K1, hp1, hq1, hcs, hb, hc0, hc1⟩
    · rintro σ H1 ⟨cs, b, c, y2, y3, rfl, K1, hp1, hq1, hcs, hb, hc0, hc1⟩
      have en : ((n : Int) + 1) = ((n + 1 : Nat) : Int) := by omega
      rw [en] at hp1
      -- if pool[1] > 0
      refine ⟨_, rfl, p, _, 1, _, rfl, rfl, g hp1, atI_nat (j := 1) rfl, _, _, rfl, rfl, _, rfl, ?_⟩
      refine ite2 (fun h1 => ?_) (fun h1 => ?_)
      · have hdm : (0 : Int) < m := hm0
        refine ⟨_, rfl, p, _, 1, _, rfl, rfl, g hp1, atI_nat (j := 1) rfl, .inl ⟨_, rfl, _, rfl, _, _, rfl, rfl, hm0, ?_⟩⟩
        refine ⟨_, rfl, p, _, 1, _, rfl, rfl, g hp1, atI_nat (j := 1) rfl, _, rfl, _, _, rfl, rfl, div_many hm0 hm1, ?_⟩
        refine ⟨_, rfl, p, _, 1, 1, rfl, rfl, hp1, rfl, ?_⟩
        refine ⟨_, rfl, ?_⟩
        exact kk _ _ (Int.emod_nonneg _ (by omega)) (Int.emod_lt_of_pos _ hm0) ⟨npq, cs, b / m, c, upd_same, by rw [upd_ne npq.symm]; exact hq1, hcs, Int.ediv_nonneg hb (by omega), hc0, hc1⟩ (K1.trans .upd_p)
      · -- if pool[3] == 0
        refine ⟨_, rfl, p, _, 3, _, rfl, rfl, g hp1, atI_nat (j := 3) rfl, rfl, _, rfl, ?_⟩
        refine ite2 (fun h3 => ?_) (fun h3 => ?_)
        · exact kk 0 _ (by decide) hm0 ⟨npq, cs, b, c, hp1, hq1, hcs, hb, hc0, hc1⟩ K1
        · refine ⟨_, rfl, p, _, 2, _, rfl, rfl, g hp1, atI_nat (j := 2) rfl, _, _, rfl, rfl, .inr (by decide), _, rfl, p, _, 2, _, rfl, rfl, g hp1, atI_nat (j := 2) rfl, _, rfl, p, _, 2, _, rfl, rfl, g hp1, atI_nat (j := 2) rfl, _, _, rfl, rfl, .inl ⟨by omega, by omega⟩, _, _, rfl, rfl, .inr (by decide), _, _, rfl, rfl, ?_⟩
          refine ⟨_, rfl, p, _, 3, _, rfl, rfl, g hp1, atI_nat (j := 3) rfl, _, _, rfl, rfl, .inl ⟨by omega, by omega⟩, _, rfl, _, _, rfl, rfl, .inl ⟨_, rfl, _, _, rfl, rfl, (by show (0 : Int) < 2147483647; decide), ?_⟩⟩
          refine ⟨_, rfl, _, _, rfl, rfl, .inr (by decide), _, _, rfl, rfl, ⟨by decide, by decide⟩, .inl ⟨_, rfl, _, _, rfl, rfl, (by show (0 : Int) < 2147483629; decide), _, rfl, _, _, rfl, rfl, hm0, ?_⟩⟩
          exact kk _ _ (Int.emod_nonneg _ (by omega)) (Int.emod_lt_of_pos _ hm0) ⟨npq, cs, b, c, hp1, hq1, hcs, hb, hc0, hc1⟩ K1
end
/-! ### the pool made, a word drawn -/
theorem cut_take (xs : List V) (k : Nat) : cutV xs none (some (k : Int)) = xs.take k := by
  unfold cutV
  rw [HT.sIx_nat, HT.sIx_none]
  show (xs.drop 0).take (min k xs.length - 0) = xs.take k
  rw [List.drop_zero, Nat.sub_zero]
  by_cases h : k ≤ xs.length
  · rw [Nat.min_eq_left h]
  · rw [Nat.min_eq_right (by omega), List.take_of_length_le (Nat.le_refl _), List.take_of_length_le (by omega)]
def spPool (K : PySem.W.Frag) : Sp := fun vs H Q _ => ∃ (a : Addr) (ns : List Int), vs = [.ref a] ∧ SqL K H a (ns.map V.int) ∧ ns.length ≤ 63 ∧ ∀ (p q : Addr) (H' : Hp), H p = none → H q = none → PoolAt H' p q 0 → Same H H' → Q (.ref p) H'
/-- one to eight letters -/
def IsWord (z : Str) : Prop := 1 ≤ z.length ∧ z.length ≤ 8 ∧ ∀ c ∈ z.cps.toList, 97 ≤ c ∧ c ≤ 122
def spWord : Sp := fun vs H Q _ => ∃ (p q : Addr) (n : Nat), vs = [.ref p] ∧ PoolAt H p q n ∧ n < 900000 ∧
  ∀ (z : Str) (n' : Nat) (H' : Hp), IsWord z → n ≤ n' → n' ≤ n + 9 → PoolAt H' p q n' → Keeps p q H H' → Q (.str z) H'
theorem sum_ones : ∀ ys : List Str, (∀ y ∈ ys, y.length = 1) → (ys.map (·.length)).sum = ys.length
  | [], _ => rfl
  | x :: r, h => by
    rw [List.map_cons, List.sum_cons, h x List.mem_cons_self, sum_ones r fun y hy => h y (List.mem_cons_of_mem _ hy), List.length_cons]
    omega
theorem join_letters {sep : Str} (hs : sep.cps.toList = []) : ∀ ys : List Str, (∀ y ∈ ys, ∃ c, y = ⟨#[c]⟩ ∧ 97 ≤ c ∧ c ≤ 122) → (Str.join sep ys).length = ys.length ∧ ∀ c ∈ (Str.join sep ys).cps.toList, 97 ≤ c ∧ c ≤ 122
  | [], _ => ⟨rfl, fun c h => by cases h⟩
  | [x], h => by
    obtain ⟨c, rfl, h1, h2⟩ := h x List.mem_cons_self
    exact ⟨rfl, fun d hd => by
      have e : d = c := List.mem_singleton.mp hd
      rw [e]; exact ⟨h1, h2⟩⟩
  | x :: y :: r, h => by
    obtain ⟨c, rfl, h1, h2⟩ := h x List.mem_cons_self
    obtain ⟨i1, i2⟩ := join_letters hs (y :: r) fun z hz => h z (List.mem_cons_of_mem _ hz)
    have sl : sep.length = 0 := by
      show sep.cps.size = 0
      rw [← Array.length_toList, hs]; rfl
    have e : (Str.join sep ((⟨#[c]⟩ : Str) :: y :: r)) = (⟨#[c]⟩ : Str) ++ sep ++ Str.join sep (y :: r) := rfl
    rw [e]
    refine ⟨?_, fun d hd => ?_⟩
    · rw [strLen_append, strLen_append, i1, sl]
      show 1 + 0 + (y :: r).length = _
      simp only [List.length_cons]; omega
    · rcases PyProof.Rows.mem_cps_append.mp hd with hd | hd
      · rcases PyProof.Rows.mem_cps_append.mp hd with hd | hd
        · have e : d = c := List.mem_singleton.mp hd
          rw [e]; exact ⟨h1, h2⟩
        · rw [hs] at hd; cases hd
      · exact i2 d hd
def abc : Str := "abcdefghijklmnopqrstuvwxyz"
theorem abc_len : abc.length = 26 := by decide +kernel
theorem abc_at (d : Int) (h0 : 0 ≤ d) (h1 : d < 26) : ∃ c, atI abc.cps.toList d = some c ∧ 97 ≤ c ∧ c ≤ 122 := by
  obtain ⟨k, rfl⟩ : ∃ k : Nat, d = (k : Int) := ⟨d.toNat, by omega⟩
  have hk : k < 26 := by omega
  have all : ∀ k : Fin 26, ∃ c, abc.cps.toList[k.val]? = some c ∧ 97 ≤ c ∧ c ≤ 122 := by
    have h : ∀ k : Fin 26, (match abc.cps.toList[k.val]? with | some c => decide (97 ≤ c ∧ c ≤ 122) | none => false) = true := by decide +kernel
    intro k
    have := h k
    cases e : abc.cps.toList[k.val]? with
    | none => rw [e] at this; cases this
    | some c =>
      rw [e] at this
      exact ⟨c, rfl, of_decide_eq_true this⟩
  obtain ⟨c, e, r⟩ := all ⟨k, hk⟩
  exact ⟨c, atI_nat e, r⟩
section
variable {P : Program} {w : World} {K : PySem.W.Frag} {mg : Str → Option Value} {base : Heap}
theorem scP : FnScope ["script"] ["script"] (defScope sPool) := ⟨rfl, rfl, rfl, by decide +kernel, rfl, by decide +kernel, by decide +kernel⟩
theorem ok_pool {f : Addr} {fd : FuncData} {k : Nat} (F : Fun K "_law_pool" "_law_pool" sPool f fd) (ml : mg "list" = none) : FnOk P w K mg base CX0 (k + 1) f fd ["script"] (spPool K) := by
  refine F.ok scP (fun vs H Q E h => ?_) (fun cdv A outer s H vs Q E hr h => ?_)
  · obtain ⟨a, ns, rfl, _⟩ := h
    rfl
  · obtain ⟨a, ns, rfl, hS, hl, kk⟩ := h
    refine ⟨_, pss_one (ps_ret (pe_lst (pa_cons (pe_callTy call_list_of (by rfl) ml (by decide +kernel) (pa_cons (pe_slice sl_list (pv 0) po_none (po_some pe_int)) pa_nil)) (pa_cons pe_int (pa_cons pe_int (pa_cons pe_int pa_nil)))))), ?_⟩
    refine ⟨.ref a, rfl, 63, rfl, a, _, rfl, hS, fun c nc => ?_⟩
    have e : cutV (ns.map V.int) none (some 63) = (ns.take 63).map V.int := by
      rw [List.map_take]; exact cut_take _ 63
    rw [e]
    refine ⟨c, _, rfl, .inl (SqL.of upd_same), fun q nq => ?_⟩
    refine ⟨by show 4 ≤ sizeLine; decide, fun p np => ?_⟩
    have hc : (upd H c (.lst ((ns.take 63).map V.int))) c = some (.lst ((ns.take 63).map V.int)) := upd_same
    have s1 : Same H (upd H c (.lst ((ns.take 63).map V.int))) := fun b o z => by rw [upd_ne (ne_of_none z nc)]; exact z
    have s2 : Same (upd H c (.lst ((ns.take 63).map V.int))) (upd (upd H c (.lst ((ns.take 63).map V.int))) q (.lst ((ns.take 63).map V.int))) := fun b o z => by rw [upd_ne (ne_of_none z nq)]; exact z
    have hq : (upd (upd H c (.lst ((ns.take 63).map V.int))) q (.lst ((ns.take 63).map V.int))) q = some (.lst ((ns.take 63).map V.int)) := upd_same
    have s3 := fun o => (fun b u z => by rw [upd_ne (ne_of_none z np)]; exact z : Same (upd (upd H c (.lst ((ns.take 63).map V.int))) q (.lst ((ns.take 63).map V.int))) (upd _ p o))
    refine kk p q _ ((s1.trans s2).free np) (s1.free nq) ⟨(ne_of_none hq np).symm, ns.take 63, 0, 0, upd_same, s3 _ _ _ hq, by rw [List.length_take]; omega, by decide, by decide, by decide⟩ ((s1.trans s2).trans (s3 _))
theorem scW : FnScope ["pool", "letters", "k"] ["pool"] (defScope sWord) := ⟨rfl, rfl, rfl, by decide +kernel, rfl, by decide +kernel, by decide +kernel⟩
theorem ok_word {f fD : Addr} {fd fdD : FuncData} (F : Fun K "_law_word" "_law_word" sWord f fd) (GD : FnOk P w K mg base CX0 1 fD fdD ["pool", "many"] spDraw) (mD : mg "_law_draw" = some (.ref fD)) (kD : PySem.W.keepIn K (.ref fD) = true)
    (bD : Binds K fdD ["pool", "many"] []) (mr : mg "range" = none) : FnOk P w K mg base CX0 2 f fd ["pool"] spWord := by
  refine F.ok scW (fun vs H Q E h => ?_) (fun cdv A outer s H vs Q E hr h => ?_)
  · obtain ⟨p, q, n, rfl, _⟩ := h
    rfl
  · obtain ⟨p, q, n, rfl, hP, hn, kk⟩ := h
    refine ⟨_, pss_cons (ps_set (i := 1) scW.nd rfl (.inr rfl) pe_str)
      (pss_one (ps_ret (pe_join pe_str (pe_lc (own := [("k", 2)]) (g := gName 2) (tt := tYes) rfl scW.nd
        (pi_range1 (by rfl) mr (pa_cons (pe_op op_add pe_int (pe_call GD hr (by rfl) mD kD bD .nil pass0 (pa_cons (pv 0) (pa_cons pe_int pa_nil)))) pa_nil))
        (blkOk_by (N := ["pool", "letters", "k"]) (sc := defScope sWord) (by decide +kernel))
        (fun _ _ _ _ _ => pg_name (i := 2) scW.nd rfl (.inl rfl)) (fun _ _ _ _ _ => pts_nil)
        (fun _ _ _ _ _ => pe_ix ix_str (pv 1) (pe_call GD hr (by rfl) mD kD bD .nil pass0 (pa_cons (pv 0) (pa_cons pe_int pa_nil))) (fun _ _ => rfl)))))), ?_⟩
    refine ⟨⟨_, rfl⟩, .ref p, rfl, p, q, n, 8, rfl, hP, by omega, by decide, by decide, fun d H1 h0 h1 P1 K1 => ?_⟩
    refine ⟨1, d, rfl, rfl, 1 + d, rfl, (by omega), (by omega), fun D nD => ?_⟩
    obtain ⟨op, ep⟩ := P1.p_some
    obtain ⟨oq, eq⟩ := P1.q_some
    have nDp : D ≠ p := (ne_of_none ep nD).symm
    have nDq : D ≠ q := (ne_of_none eq nD).symm
    have em : (1 + d).toNat ≤ 8 := by omega
    refine lc_range (lo := 0) (n := (1 + d).toNat) (fun i H2 => ∃ ys : List Str, H2 D = some (.lst (ys.map V.str)) ∧ ys.length = i ∧ (∀ y ∈ ys, ∃ c, y = ⟨#[c]⟩ ∧ 97 ≤ c ∧ c ≤ 122) ∧ PoolAt H2 p q (n + 1 + i) ∧ Keeps p q H H2)
      ⟨[], upd_same, rfl, fun y hy => (by cases hy), P1.new nD, K1.trans (.upd_new nD)⟩ (fun i H2 hi hI => ?_) (fun H2 hI => ?_)
    · obtain ⟨ys, eD, el, hy, P2, K2⟩ := hI
      refine ⟨rfl, ?_⟩
      refine ⟨_, rfl, _, rfl, p, q, n + 1 + i, 26, rfl, P2, by omega, by decide, by decide, fun d2 H3 h02 h12 P3 K3 => ?_⟩
      obtain ⟨c, ec, hc1, hc2⟩ := abc_at d2 h02 h12
      have eD3 : H3 D = some (.lst (ys.map V.str)) := K3 D _ nDp nDq eD
      refine ⟨abc, d2, c, rfl, rfl, by rw [abc_len]; decide, ec, _, eD3, small1000 (by rw [List.length_map]; omega), ys ++ [⟨#[c]⟩], ?_, by simp [el], fun y hm => ?_, ?_, ?_⟩
      · rw [upd_same, List.map_append]; rfl
      · rcases List.mem_append.mp hm with hm | hm
        · exact hy y hm
        · exact ⟨c, List.mem_singleton.mp hm, hc1, hc2⟩
      · have e : n + 1 + (i + 1) = n + 1 + i + 1 := by omega
        rw [e]
        obtain ⟨npq, cs, b, c0, e1, e2, r⟩ := P3
        exact ⟨npq, cs, b, c0, by rw [upd_ne nDp.symm]; exact e1, by rw [upd_ne nDq.symm]; exact e2, r⟩
      · intro x o hx1 hx2 nH
        have ex := K3 x o hx1 hx2 (K2 x o hx1 hx2 nH)
        by_cases hxD : x = D
        · subst hxD
          rw [K1.free nD nDp nDq] at nH
          cases nH
        · rw [upd_ne hxD]; exact ex
    · obtain ⟨ys, eD, el, hy, P2, K2⟩ := hI
      obtain ⟨j1, j2⟩ := join_letters (sep := "") (by decide +kernel) ys hy
      have e1 : ∀ y ∈ ys, y.length = 1 := fun y hm => by
        obtain ⟨c, rfl, _⟩ := hy y hm
        rfl
      have e2 : (ys.map (·.length)).sum = ys.length := sum_ones _ e1
      refine ⟨_, D, ys, rfl, rfl, .inl (SqL.of eD), ?_, ?_⟩
      · rw [e2, show (Str.ofString "").length = 0 by decide +kernel]; omega
      · rw [show Txt.join _ ys = Str.join _ ys from StrLaws.glued_eq_join _ _]
        exact kk _ (n + 1 + (1 + d).toNat) H2 ⟨by rw [j1]; omega, by rw [j1]; omega, j2⟩ (by omega) (by omega) P2 K2
end
/-! ### two data are the same -/
/-- no deeper than that -/
def dp : Nat → PyData → Prop
  | 0, _ => False
  | _ + 1, .none => True
  | _ + 1, .bool _ => True
  | _ + 1, .int _ => True
  | _ + 1, .str _ => True
  | m + 1, .list xs => xs.length ≤ 1000000 ∧ ∀ x ∈ xs, dp m x
  | m + 1, .tuple xs => xs.length ≤ 1000000 ∧ ∀ x ∈ xs, dp m x
  | _ + 1, .dict _ => False
theorem dp_mono : ∀ {m n : Nat} {d : PyData}, m ≤ n → dp m d → dp n d
  | 0, _, _, _, h => by simp [dp] at h
  | m + 1, 0, _, h, _ => by omega
  | m + 1, n + 1, d, h, hd => by
    cases d with
    | none => simp [dp]
    | bool b => simp [dp]
    | int i => simp [dp]
    | str s => simp [dp]
    | list xs =>
      simp only [dp] at hd ⊢
      exact ⟨hd.1, fun x hx => dp_mono (Nat.le_of_succ_le_succ h) (hd.2 x hx)⟩
    | tuple xs =>
      simp only [dp] at hd ⊢
      exact ⟨hd.1, fun x hx => dp_mono (Nat.le_of_succ_le_succ h) (hd.2 x hx)⟩
    | dict xs => simp [dp] at hd
def tyName : PyData → String
  | .none => "NoneType"
  | .bool _ => "bool"
  | .int _ => "int"
  | .str _ => "str"
  | .list _ => "list"
  | .tuple _ => "tuple"
  | .dict _ => "dict"
theorem ty_of {K : PySem.W.Frag} {H : Hp} {v : V} {d : PyData} (h : Dp K H v d) : TyX K H v (.type (tyName d)) := by
  cases h with
  | non => exact .base .non
  | bl b => exact .base (.bl b)
  | int i => exact .base (.int i)
  | str x => exact .base (.str x)
  | lst hs _ =>
    rcases hs with (h | ⟨o, h⟩) | ⟨o, its, n, hk, hc, _⟩
    · exact .base (.lst h)
    · exact .base (.frz h)
    · exact .kList hk hc
  | tup hs _ =>
    rcases hs with (h | ⟨o, h⟩) | ⟨o, its, n, hk, hc, _⟩
    · exact .base (.tup h)
    · exact .fTuple h
    · exact .kTuple hk hc
theorem isi {K : PySem.W.Frag} {H : Hp} {v : V} {d : PyData} {T : String} {b : Bool} {Q : VK} (h : Dp K H v d) (e : kitB (tyName d) T = some b) (q : Q (.bl b) H) : rIsi K [v, .ty T] H Q :=
  ⟨v, .ty T, _, _, b, rfl, ClsV.ty T, ty_of h, kit_ty e, q⟩
theorem dpAll_len {K : PySem.W.Frag} {H : Hp} : ∀ {vs : List V} {ds : List PyData}, DpAll K H vs ds → vs.length = ds.length
  | _, _, .nil => rfl
  | _, _, .cons _ t => by rw [List.length_cons, List.length_cons, dpAll_len t]
theorem dpAll_get {K : PySem.W.Frag} {H : Hp} : ∀ {vs : List V} {ds : List PyData} {i : Nat} {d : PyData}, DpAll K H vs ds → ds[i]? = some d → ∃ v, vs[i]? = some v ∧ Dp K H v d
  | _, _, _, _, .nil, e => by simp at e
  | _, _, 0, _, .cons h _, e => by
    have e' := Option.some.inj e
    subst e'
    exact ⟨_, rfl, h⟩
  | _, _, i + 1, _, .cons _ t, e => dpAll_get (i := i) t e
def spSame (K : PySem.W.Frag) (m : Nat) : Sp := fun vs H Q _ => ∃ (v u : V) (d : PyData), vs = [v, u] ∧ Dp K H v d ∧ Dp K H u d ∧ dp m d ∧ Q (.bl true) H
/-- what the names of classes and of len, range stand for -/
structure Bts (mg : Str → Option Value) : Prop where
  isinstance : mg "isinstance" = none
  bool : mg "bool" = none
  str : mg "str" = none
  int : mg "int" = none
  list : mg "list" = none
  tuple : mg "tuple" = none
  len : mg "len" = none
  range : mg "range" = none
section
variable {P : Program} {w : World} {K : PySem.W.Frag} {mg : Str → Option Value} {base : Heap}
theorem fn_never {f : Addr} {fd : FuncData} {ps : List Str} : FnOk P w K mg base CX0 0 f fd ps (fun _ _ _ _ => False) :=
  ⟨fun _ _ _ _ h => h.elim, fun _ _ _ _ _ _ _ _ _ _ _ _ _ h => h.elim⟩
theorem scS : FnScope ["actual", "due", "k"] ["actual", "due"] (defScope sSame) := ⟨rfl, rfl, rfl, by decide +kernel, rfl, by decide +kernel, by decide +kernel⟩
theorem ok_same {f : Addr} {fd : FuncData} (F : Fun K "_law_same" "_law_same" sSame f fd) (B : Bts mg) (mS : mg "_law_same" = some (.ref f)) (bS : Binds K fd ["actual", "due"] []) : ∀ m : Nat, FnOk P w K mg base CX0 m f fd ["actual", "due"] (spSame K m)
  | 0 => fn_never.imp fun vs H Q E h => by
    obtain ⟨v, u, d, _, _, _, h, _⟩ := h
    simp [dp] at h
  | m + 1 => by
    have IH := ok_same F B mS bS m
    refine F.ok scS (fun vs H Q E h => ?_) (fun cdv A outer s H vs Q E hr h => ?_)
    · obtain ⟨v, u, d, rfl, _⟩ := h
      rfl
    · obtain ⟨v, u, d, rfl, hv, hu, hd, kk⟩ := h
      refine ⟨_,
        pss_cons (ps_if (pt_cmpR op_isN (pv 1) pe_non (nomark _)) (pss_one (ps_ret (pe_cmp (pc_isN (pv 0)) rfl))) pss_nil)
        (pss_cons (ps_if (PW.pt (pw_or (pt_val (pe_callB call_isi (by rfl) B.isinstance (by decide +kernel) (pa_cons (pv 1) (pa_cons (pe_bltn (v := .ty "bool") (by rfl) B.bool (by decide +kernel) rfl) pa_nil))))
              (pw_or1 (pt_val (pe_callB call_isi (by rfl) B.isinstance (by decide +kernel) (pa_cons (pv 1) (pa_cons (pe_bltn (v := .ty "str") (by rfl) B.str (by decide +kernel) rfl) pa_nil)))))))
            (pss_cons (ps_if (PW.pt (pw_or
                (pt_cmpR op_ne (pe_callB call_isi (by rfl) B.isinstance (by decide +kernel) (pa_cons (pv 0) (pa_cons (pe_bltn (v := .ty "bool") (by rfl) B.bool (by decide +kernel) rfl) pa_nil)))
                  (pe_callB call_isi (by rfl) B.isinstance (by decide +kernel) (pa_cons (pv 1) (pa_cons (pe_bltn (v := .ty "bool") (by rfl) B.bool (by decide +kernel) rfl) pa_nil))) (nomark _))
                (pw_or1 (pt_cmpR op_ne (pe_callB call_isi (by rfl) B.isinstance (by decide +kernel) (pa_cons (pv 0) (pa_cons (pe_bltn (v := .ty "str") (by rfl) B.str (by decide +kernel) rfl) pa_nil)))
                  (pe_callB call_isi (by rfl) B.isinstance (by decide +kernel) (pa_cons (pv 1) (pa_cons (pe_bltn (v := .ty "str") (by rfl) B.str (by decide +kernel) rfl) pa_nil))) (nomark _)))))
                (pss_one (ps_ret pe_bl)) pss_nil)
              (pss_one (ps_ret (pe_cmpR op_eq (pv 0) (pv 1) (nomark _)))))
            pss_nil)
        (pss_cons (ps_if (pt_val (pe_callB call_isi (by rfl) B.isinstance (by decide +kernel) (pa_cons (pv 1) (pa_cons (pe_bltn (v := .ty "int") (by rfl) B.int (by decide +kernel) rfl) pa_nil))))
            (pss_one (ps_ret (pe_and (pe_callB call_isi (by rfl) B.isinstance (by decide +kernel) (pa_cons (pv 0) (pa_cons (pe_bltn (v := .ty "int") (by rfl) B.int (by decide +kernel) rfl) pa_nil)))
              (pe_and (pe_not (pe_callB call_isi (by rfl) B.isinstance (by decide +kernel) (pa_cons (pv 0) (pa_cons (pe_bltn (v := .ty "bool") (by rfl) B.bool (by decide +kernel) rfl) pa_nil))))
                (pe_one (pe_cmpR op_eq (pv 0) (pv 1) (nomark _)))))))
            pss_nil)
        (pss_cons (ps_if (PW.pt (pw_and (pt_val (pe_callB call_isi (by rfl) B.isinstance (by decide +kernel) (pa_cons (pv 1) (pa_cons (pe_bltn (v := .ty "list") (by rfl) B.list (by decide +kernel) rfl) pa_nil))))
              (pw_and1 (pt_not (pt_val (pe_callB call_isi (by rfl) B.isinstance (by decide +kernel) (pa_cons (pv 0) (pa_cons (pe_bltn (v := .ty "list") (by rfl) B.list (by decide +kernel) rfl) pa_nil))))))))
            (pss_one (ps_ret pe_bl)) pss_nil)
        (pss_cons (ps_if (PW.pt (pw_and (pt_val (pe_callB call_isi (by rfl) B.isinstance (by decide +kernel) (pa_cons (pv 1) (pa_cons (pe_bltn (v := .ty "tuple") (by rfl) B.tuple (by decide +kernel) rfl) pa_nil))))
              (pw_and1 (pt_not (pt_val (pe_callB call_isi (by rfl) B.isinstance (by decide +kernel) (pa_cons (pv 0) (pa_cons (pe_bltn (v := .ty "tuple") (by rfl) B.tuple (by decide +kernel) rfl) pa_nil))))))))
            (pss_one (ps_ret pe_bl)) pss_nil)
        (pss_cons (ps_if (pt_cmpR op_ne (pe_callB call_len_seq (by rfl) B.len PySem.boot_len (pa_cons (pv 0) pa_nil)) (pe_callB call_len_seq (by rfl) B.len PySem.boot_len (pa_cons (pv 1) pa_nil)) (nomark _)) (pss_one (ps_ret pe_bl)) pss_nil)
        (pss_cons (ps_for PassesOwn.never rfl (pi_range1 rfl B.range (pa_cons (pe_callB call_len_seq (by rfl) B.len PySem.boot_len (pa_cons (pv 1) pa_nil)) pa_nil)) (pg_name (i := 2) scS.nd rfl (.inl rfl))
            (pss_one (ps_if (pt_not (pt_val (pe_call IH hr (by rfl) mS F.kp bS .nil pass0 (pa_cons (pe_ix ix_seq (pv 0) (pv 2) (fun _ _ => rfl)) (pa_cons (pe_ix ix_seq (pv 1) (pv 2) (fun _ _ => rfl)) pa_nil))))) (pss_one (ps_ret pe_bl)) pss_nil)))
        (pss_one (ps_ret pe_bl)))))))), ?_⟩
      cases d with
      | none =>
        cases hu; cases hv
        exact ⟨_, rfl, rfl, _, rfl, iteT ⟨_, rfl, kk⟩⟩
      | bool b =>
        cases hu; cases hv
        refine ⟨_, rfl, rfl, _, rfl, iteF ?_⟩
        refine ⟨_, rfl, _, _, _, _, true, rfl, .ty _, TyX.base (TyOf.bl b), kit_ty (by decide +kernel), _, rfl, iteT (iteT ?_)⟩
        refine ⟨_, rfl, _, _, _, _, true, rfl, .ty _, TyX.base (TyOf.bl b), kit_ty (by decide +kernel), _, rfl, _, _, _, _, true, rfl, .ty _, TyX.base (TyOf.bl b), kit_ty (by decide +kernel), rfl, _, rfl, ?_⟩
        refine iteF ⟨_, rfl, _, _, _, _, false, rfl, .ty _, TyX.base (TyOf.bl b), kit_ty (by decide +kernel), _, rfl, _, _, _, _, false, rfl, .ty _, TyX.base (TyOf.bl b), kit_ty (by decide +kernel), rfl, _, rfl, ?_⟩
        refine iteF ⟨_, rfl, _, rfl, rfl, ?_⟩
        rw [decide_eq_true rfl]
        exact kk
      | str x =>
        cases hu; cases hv
        refine ⟨_, rfl, rfl, _, rfl, iteF ?_⟩
        refine ⟨_, rfl, _, _, _, _, false, rfl, .ty _, TyX.base (TyOf.str x), kit_ty (by decide +kernel), _, rfl, iteF ?_⟩
        refine ⟨_, rfl, _, _, _, _, true, rfl, .ty _, TyX.base (TyOf.str x), kit_ty (by decide +kernel), _, rfl, iteT ?_⟩
        refine ⟨_, rfl, _, _, _, _, false, rfl, .ty _, TyX.base (TyOf.str x), kit_ty (by decide +kernel), _, rfl, _, _, _, _, false, rfl, .ty _, TyX.base (TyOf.str x), kit_ty (by decide +kernel), rfl, _, rfl, ?_⟩
        refine iteF ⟨_, rfl, _, _, _, _, true, rfl, .ty _, TyX.base (TyOf.str x), kit_ty (by decide +kernel), _, rfl, _, _, _, _, true, rfl, .ty _, TyX.base (TyOf.str x), kit_ty (by decide +kernel), rfl, _, rfl, ?_⟩
        refine iteF ⟨_, rfl, _, rfl, rfl, ?_⟩
        rw [decide_eq_true rfl]
        exact kk
      | int i =>
        cases hu; cases hv
        refine ⟨_, rfl, rfl, _, rfl, iteF ?_⟩
        refine ⟨_, rfl, _, _, _, _, false, rfl, .ty _, TyX.base (TyOf.int i), kit_ty (by decide +kernel), _, rfl, iteF ?_⟩
        refine ⟨_, rfl, _, _, _, _, false, rfl, .ty _, TyX.base (TyOf.int i), kit_ty (by decide +kernel), _, rfl, iteF ?_⟩
        refine ⟨_, rfl, _, _, _, _, true, rfl, .ty _, TyX.base (TyOf.int i), kit_ty (by decide +kernel), _, rfl, iteT ?_⟩
        refine ⟨_, rfl, _, _, _, _, true, rfl, .ty _, TyX.base (TyOf.int i), kit_ty (by decide +kernel), _, rfl, iteT ?_⟩
        refine ⟨_, rfl, _, _, _, _, false, rfl, .ty _, TyX.base (TyOf.int i), kit_ty (by decide +kernel), _, rfl, _, rfl, iteT ?_⟩
        refine ⟨_, rfl, _, rfl, rfl, ?_⟩
        rw [decide_eq_true rfl]
        exact kk
      | list ds =>
        obtain ⟨a2, xs2, rfl, hs2, ha2⟩ : ∃ a xs, u = .ref a ∧ SqL K H a xs ∧ DpAll K H xs ds := by
          cases hu with
          | lst h1 h2 => exact ⟨_, _, rfl, h1, h2⟩
        obtain ⟨a1, xs1, rfl, hs1, ha1⟩ : ∃ a xs, v = .ref a ∧ SqL K H a xs ∧ DpAll K H xs ds := by
          cases hv with
          | lst h1 h2 => exact ⟨_, _, rfl, h1, h2⟩
        have tyU : TyX K H (.ref a2) (.type "list") := ty_of (.lst hs2 ha2)
        have tyV : TyX K H (.ref a1) (.type "list") := ty_of (.lst hs1 ha1)
        have e1 := dpAll_len ha1
        have e2 := dpAll_len ha2
        refine ⟨_, rfl, rfl, _, rfl, iteF ?_⟩
        refine ⟨_, rfl, _, _, _, _, false, rfl, .ty _, tyU, kit_ty (by decide +kernel), _, rfl, iteF ?_⟩
        refine ⟨_, rfl, _, _, _, _, false, rfl, .ty _, tyU, kit_ty (by decide +kernel), _, rfl, iteF ?_⟩
        refine ⟨_, rfl, _, _, _, _, false, rfl, .ty _, tyU, kit_ty (by decide +kernel), _, rfl, iteF ?_⟩
        refine ⟨_, rfl, _, _, _, _, true, rfl, .ty _, tyU, kit_ty (by decide +kernel), _, rfl, iteT ?_⟩
        refine ⟨_, rfl, _, _, _, _, true, rfl, .ty _, tyV, kit_ty (by decide +kernel), _, rfl, iteF ?_⟩
        refine ⟨_, rfl, _, _, _, _, false, rfl, .ty _, tyU, kit_ty (by decide +kernel), _, rfl, iteF (iteF ?_)⟩
        refine ⟨_, rfl, a1, xs1, rfl, .inl hs1, _, rfl, a2, xs2, rfl, .inl hs2, rfl, _, rfl, iteNS (by rw [e1, e2]) ?_⟩
        simp only [dp] at hd
        have hz2 : (xs2.length : Int) < 2 ^ 62 := by have := hd.1; omega
        refine ⟨_, rfl, a2, xs2, rfl, .inl hs2, _, rfl, (by omega), hz2, ?_⟩
        refine for_range (lo := 0) (n := (xs2.length : Int).toNat) (fun i σ H2 => ∃ y, σ = [some (.ref a1), some (.ref a2), y] ∧ H2 = H) ⟨none, rfl, rfl⟩ ?_ ?_
        · rintro i σ H2 hi ⟨y, rfl, rfl⟩
          have hi2 : i < ds.length := by omega
          obtain ⟨x1, g1, d1⟩ := dpAll_get ha1 (List.getElem?_eq_getElem hi2)
          obtain ⟨x2, g2, d2⟩ := dpAll_get ha2 (List.getElem?_eq_getElem hi2)
          have ei : (0 : Int) + (i : Int) = ((i : Nat) : Int) := by omega
          rw [ei]
          refine ⟨_, rfl, _, rfl, .inl ⟨_, _, _, _, rfl, rfl, hs1, atI_nat g1, _, rfl, _, rfl, .inl ⟨_, _, _, _, rfl, rfl, hs2, atI_nat g2, ?_⟩⟩⟩
          refine ⟨x1, x2, _, rfl, d1, d2, hd.2 _ (List.getElem_mem hi2), _, rfl, iteF ?_⟩
          exact ⟨_, rfl, rfl⟩
        · rintro σ H2 ⟨y, rfl, rfl⟩
          exact kk
      | tuple ds =>
        obtain ⟨a2, xs2, rfl, hs2, ha2⟩ : ∃ a xs, u = .ref a ∧ SqT K H a xs ∧ DpAll K H xs ds := by
          cases hu with
          | tup h1 h2 => exact ⟨_, _, rfl, h1, h2⟩
        obtain ⟨a1, xs1, rfl, hs1, ha1⟩ : ∃ a xs, v = .ref a ∧ SqT K H a xs ∧ DpAll K H xs ds := by
          cases hv with
          | tup h1 h2 => exact ⟨_, _, rfl, h1, h2⟩
        have tyU : TyX K H (.ref a2) (.type "tuple") := ty_of (.tup hs2 ha2)
        have tyV : TyX K H (.ref a1) (.type "tuple") := ty_of (.tup hs1 ha1)
        have e1 := dpAll_len ha1
        have e2 := dpAll_len ha2
        refine ⟨_, rfl, rfl, _, rfl, iteF ?_⟩
        refine ⟨_, rfl, _, _, _, _, false, rfl, .ty _, tyU, kit_ty (by decide +kernel), _, rfl, iteF ?_⟩
        refine ⟨_, rfl, _, _, _, _, false, rfl, .ty _, tyU, kit_ty (by decide +kernel), _, rfl, iteF ?_⟩
        refine ⟨_, rfl, _, _, _, _, false, rfl, .ty _, tyU, kit_ty (by decide +kernel), _, rfl, iteF ?_⟩
        refine ⟨_, rfl, _, _, _, _, false, rfl, .ty _, tyU, kit_ty (by decide +kernel), _, rfl, iteF (iteF ?_)⟩
        refine ⟨_, rfl, _, _, _, _, true, rfl, .ty _, tyU, kit_ty (by decide +kernel), _, rfl, iteT ?_⟩
        refine ⟨_, rfl, _, _, _, _, true, rfl, .ty _, tyV, kit_ty (by decide +kernel), _, rfl, iteF ?_⟩
        refine ⟨_, rfl, a1, xs1, rfl, .inr hs1, _, rfl, a2, xs2, rfl, .inr hs2, rfl, _, rfl, iteNS (by rw [e1, e2]) ?_⟩
        simp only [dp] at hd
        have hz2 : (xs2.length : Int) < 2 ^ 62 := by have := hd.1; omega
        refine ⟨_, rfl, a2, xs2, rfl, .inr hs2, _, rfl, (by omega), hz2, ?_⟩
        refine for_range (lo := 0) (n := (xs2.length : Int).toNat) (fun i σ H2 => ∃ y, σ = [some (.ref a1), some (.ref a2), y] ∧ H2 = H) ⟨none, rfl, rfl⟩ ?_ ?_
        · rintro i σ H2 hi ⟨y, rfl, rfl⟩
          have hi2 : i < ds.length := by omega
          obtain ⟨x1, g1, d1⟩ := dpAll_get ha1 (List.getElem?_eq_getElem hi2)
          obtain ⟨x2, g2, d2⟩ := dpAll_get ha2 (List.getElem?_eq_getElem hi2)
          have ei : (0 : Int) + (i : Int) = ((i : Nat) : Int) := by omega
          rw [ei]
          refine ⟨_, rfl, _, rfl, .inr (.inl ⟨_, _, _, _, rfl, rfl, hs1, atI_nat g1, _, rfl, _, rfl, .inr (.inl ⟨_, _, _, _, rfl, rfl, hs2, atI_nat g2, ?_⟩)⟩)⟩
          refine ⟨x1, x2, _, rfl, d1, d2, hd.2 _ (List.getElem_mem hi2), _, rfl, iteF ?_⟩
          exact ⟨_, rfl, rfl⟩
        · rintro σ H2 ⟨y, rfl, rfl⟩
          exact kk
      | dict ds => simp [dp] at hd
end
/-! ### data in the heap, and displays of data -/
theorem Same.seqT {K : PySem.W.Frag} {H H' : Hp} {a : Addr} {xs : List V} (e : Same H H') (h : SqT K H a xs) : SqT K H' a xs := by
  rcases h with h1 | h3
  · rcases h1 with h1 | h2
    · exact .inl (.inl (e _ _ h1))
    · obtain ⟨o, h2⟩ := h2
      exact .inl (.inr ⟨o, e _ _ h2⟩)
  · exact .inr h3
mutual
theorem dp_same {K : PySem.W.Frag} {H H' : Hp} (s : Same H H') : ∀ (d : PyData) (v : V), Dp K H v d → Dp K H' v d
  | .none, _, h => by cases h; exact .non
  | .bool b, _, h => by cases h; exact .bl b
  | .int i, _, h => by cases h; exact .int i
  | .str x, _, h => by cases h; exact .str x
  | .list ds, _, h => by
    cases h with
    | lst h1 h2 => exact .lst (s.seq h1) (dpAll_same s ds _ h2)
  | .tuple ds, _, h => by
    cases h with
    | tup h1 h2 => exact .tup (Same.seqT s h1) (dpAll_same s ds _ h2)
  | .dict kvs, _, h => by cases h
theorem dpAll_same {K : PySem.W.Frag} {H H' : Hp} (s : Same H H') : ∀ (ds : List PyData) (vs : List V), DpAll K H vs ds → DpAll K H' vs ds
  | [], _, h => by cases h; exact .nil
  | d :: ds, _, h => by
    cases h with
    | cons h1 h2 => exact .cons (dp_same s d _ h1) (dpAll_same s ds _ h2)
end
theorem same_new {H : Hp} {p : Addr} {o : HO} (n : H p = none) : Same H (upd H p o) := fun b x e => by
  rw [upd_ne (ne_of_none e n)]; exact e
/-- the heap without some objects -/
def mask (l : List Addr) (H : Hp) : Hp := fun a => if a ∈ l then none else H a
theorem mask_in {l : List Addr} {H : Hp} {a : Addr} (h : a ∈ l) : mask l H a = none := if_pos h
theorem mask_out {l : List Addr} {H : Hp} {a : Addr} (h : a ∉ l) : mask l H a = H a := if_neg h
theorem mask_sub (l : List Addr) (H : Hp) : Same (mask l H) H := fun a o e => by
  by_cases h : a ∈ l
  · rw [mask_in h] at e; cases e
  · rw [mask_out h] at e; exact e
theorem mask_same {l : List Addr} {H H' : Hp} (s : Same H H') : Same (mask l H) (mask l H') := fun a o e => by
  by_cases h : a ∈ l
  · rw [mask_in h] at e; cases e
  · rw [mask_out h] at e ⊢; exact s a o e
theorem mask_nil (H : Hp) : mask [] H = H := rfl
/-- what stands in H is there -/
abbrev Alive (l : List Addr) (H : Hp) : Prop := ∀ a ∈ l, ∃ o, H a = some o
theorem Alive.same {l : List Addr} {H H' : Hp} (h : Alive l H) (s : Same H H') : Alive l H' := fun a m => let ⟨o, e⟩ := h a m; ⟨o, s a o e⟩
theorem Alive.not {l : List Addr} {H : Hp} {p : Addr} (h : Alive l H) (n : H p = none) : p ∉ l := fun m => by
  obtain ⟨o, e⟩ := h p m
  rw [n] at e; cases e
theorem alive_nil {H : Hp} : Alive [] H := fun _ m => nomatch m
theorem mask_upd {l : List Addr} {H : Hp} {p : Addr} {o : HO} (h : p ∉ l) : mask l (upd H p o) p = some o := by
  rw [mask_out h, upd_same]
theorem Keeps.mask {p q : Addr} {H H' : Hp} (k : Keeps p q H H') : Same (mask [p, q] H) (mask [p, q] H') := fun a o e => by
  by_cases h : a ∈ [p, q]
  · rw [mask_in h] at e; cases e
  · rw [mask_out h] at e ⊢
    refine k a o (fun z => h ?_) (fun z => h ?_) e
    · rw [z]; exact List.mem_cons_self
    · rw [z]; exact List.mem_cons_of_mem _ List.mem_cons_self
theorem PoolAt.alive {H : Hp} {p q : Addr} {n : Nat} (h : PoolAt H p q n) : Alive [p, q] H := fun a m => by
  rcases List.mem_cons.mp m with rfl | m
  · exact h.p_some
  · rw [List.mem_singleton.mp m]; exact h.q_some
/-- which data an expression gives; it stays so when objects are added -/
abbrev DS := St → Hp → PyData → Prop
abbrev DSs := St → Hp → List PyData → Prop
def tDat (K : PySem.W.Frag) (D : DS) : TE := fun σ H Q => ∃ (l : List Addr) (d : PyData), Alive l H ∧ D σ (mask l H) d ∧ ∀ v H', Same H H' → Dp K (mask l H') v d → Q v H'
def tDats (K : PySem.W.Frag) (D : DSs) : TA := fun σ H Q => ∃ (l : List Addr) (ds : List PyData), Alive l H ∧ D σ (mask l H) ds ∧ ∀ vs H', Same H H' → DpAll K (mask l H') vs ds → Q vs H'
structure DE (X : Cx) (e : Expr) (D : DS) : Prop where
  pe : PE X e (tDat X.K D)
  mono : ∀ σ H H' d, Same H H' → D σ H d → D σ H' d
structure DA (X : Cx) (es : List Expr) (D : DSs) : Prop where
  pa : PA X es (tDats X.K D)
  mono : ∀ σ H H' ds, Same H H' → D σ H ds → D σ H' ds
def dNil : DSs := fun _ _ ds => ds = []
def dCons (D : DS) (Ds : DSs) : DSs := fun σ H ds => ∃ d r, ds = d :: r ∧ D σ H d ∧ Ds σ H r
def dTup (Ds : DSs) : DS := fun σ H d => ∃ ds, d = .tuple ds ∧ ds.length ≤ 1000 ∧ Ds σ H ds
def dLst (Ds : DSs) : DS := fun σ H d => ∃ ds, d = .list ds ∧ ds.length ≤ 1000 ∧ Ds σ H ds
def dVar (K : PySem.W.Frag) (i : Nat) : DS := fun σ H d => ∃ v, σ[i]? = some (some v) ∧ Dp K H v d
def dIs (d0 : PyData) : DS := fun _ _ d => d = d0
section
variable {X : Cx} {e : Expr} {es : List Expr} {t : TE} {D : DS} {Ds : DSs} {pos : Pos}
theorem de_of (h : PE X e t) (w : ∀ σ H Q, tDat X.K D σ H Q → t σ H Q) (m : ∀ σ H H' d, Same H H' → D σ H d → D σ H' d) : DE X e D :=
  ⟨⟨fun pins s σ H Q I q => h.run pins s σ H Q I (w σ H Q q)⟩, m⟩
theorem de_str {x : Str} {j} : DE X (.Constant (.str x) j pos) (dIs (.str x)) :=
  de_of pe_str (fun _ H _ ⟨_, _, _, e, q⟩ => by cases e; exact q _ H (Same.refl H) (.str x)) fun _ _ _ _ _ h => h
theorem de_int {i : Int} {j} : DE X (.Constant (.int i) j pos) (dIs (.int i)) :=
  de_of pe_int (fun _ H _ ⟨_, _, _, e, q⟩ => by cases e; exact q _ H (Same.refl H) (.int i)) fun _ _ _ _ _ h => h
theorem de_bl {b : Bool} {j} : DE X (.Constant (.bool b) j pos) (dIs (.bool b)) :=
  de_of pe_bl (fun _ H _ ⟨_, _, _, e, q⟩ => by cases e; exact q _ H (Same.refl H) (.bl b)) fun _ _ _ _ _ h => h
theorem de_non {j} : DE X (.Constant .none j pos) (dIs .none) :=
  de_of pe_non (fun _ H _ ⟨_, _, _, e, q⟩ => by cases e; exact q _ H (Same.refl H) .non) fun _ _ _ _ _ h => h
theorem dv (i : Nat) {x : Str} (h : PE X (.Name x pos) (tVar i)) : DE X (.Name x pos) (dVar X.K i) :=
  de_of h (fun _ H _ ⟨_, _, _, ⟨v, e, hd⟩, q⟩ => ⟨v, e, q v H (Same.refl H) hd⟩) fun _ _ _ d s ⟨v, e, hd⟩ => ⟨v, e, dp_same s d v hd⟩
theorem da_nil : DA X [] dNil :=
  ⟨⟨fun pos pins s σ H Q I h => by
    obtain ⟨l, ds, _, e, q⟩ := h
    cases e
    exact pa_nil.run pos pins s σ H Q I (q [] H (Same.refl H) .nil)⟩, fun _ _ _ _ _ h => h⟩
theorem da_cons (h : DE X e D) (r : DA X es Ds) (hs : starEach (e :: es) X.env = (false, eval e X.env) :: starEach es X.env := by rfl) : DA X (e :: es) (dCons D Ds) :=
  ⟨⟨fun pos pins s σ H Q I hq => by
    obtain ⟨l, _, al, ⟨d, ds, rfl, h1, h2⟩, q⟩ := hq
    refine (pa_cons h.pe r.pa hs).run pos pins s σ H Q I ⟨l, d, al, h1, fun v H1 s1 hv => ⟨l, ds, al.same s1, r.mono _ _ _ _ (mask_same s1) h2, fun vs H2 s2 hvs => ?_⟩⟩
    exact q _ H2 (s1.trans s2) (.cons (dp_same (mask_same s2) d v hv) hvs)⟩,
   fun σ H H' ds s ⟨d, r', e, h1, h2⟩ => ⟨d, r', e, h.mono _ _ _ _ s h1, r.mono _ _ _ _ s h2⟩⟩
theorem len1000 {n : Nat} (h : n ≤ 1000) : n ≤ sizeLine := Nat.le_of_lt (small1000 h)
theorem de_tup {k} (h : DA X es Ds) : DE X (.Tuple es k pos) (dTup Ds) :=
  ⟨⟨fun pins s σ H Q I hq => by
    obtain ⟨l, _, al, ⟨ds, rfl, hl, h1⟩, q⟩ := hq
    refine (pe_tup h.pa).run pins s σ H Q I ⟨l, ds, al, h1, fun vs H1 s1 hv => ⟨by rw [dpAll_len hv]; exact len1000 hl, fun p np => ?_⟩⟩
    exact q _ _ (s1.trans (same_new np)) (.tup (SqT.of (mask_upd ((al.same s1).not np))) (dpAll_same (mask_same (same_new np)) _ _ hv))⟩,
   fun σ H H' d s ⟨ds, e, hl, h1⟩ => ⟨ds, e, hl, h.mono _ _ _ _ s h1⟩⟩
theorem de_lst (h : DA X es Ds) : DE X (.List es pos) (dLst Ds) :=
  ⟨⟨fun pins s σ H Q I hq => by
    obtain ⟨l, _, al, ⟨ds, rfl, hl, h1⟩, q⟩ := hq
    refine (pe_lst h.pa).run pins s σ H Q I ⟨l, ds, al, h1, fun vs H1 s1 hv => ⟨by rw [dpAll_len hv]; exact len1000 hl, fun p np => ?_⟩⟩
    exact q _ _ (s1.trans (same_new np)) (.lst (SqL.of (mask_upd ((al.same s1).not np))) (dpAll_same (mask_same (same_new np)) _ _ hv))⟩,
   fun σ H H' d s ⟨ds, e, hl, h1⟩ => ⟨ds, e, hl, h.mono _ _ _ _ s h1⟩⟩
end
theorem mask_new {l : List Addr} {H : Hp} {D : Addr} (n : H D = none) : Same (mask l H) (mask (D :: l) H) := fun a o e => by
  by_cases h : a ∈ D :: l
  · rcases List.mem_cons.mp h with rfl | h
    · have := mask_sub l H _ _ e
      rw [n] at this; cases this
    · rw [mask_in h] at e; cases e
  · rw [mask_out h]
    exact mask_sub l H _ _ e
theorem mask_less {l : List Addr} {H : Hp} {D : Addr} : Same (mask (D :: l) H) (mask l H) := fun a o e => by
  by_cases h : a ∈ D :: l
  · rw [mask_in h] at e; cases e
  · rw [mask_out h] at e
    rw [mask_out fun z => h (List.mem_cons_of_mem _ z)]
    exact e
theorem mask_at {l : List Addr} {H : Hp} {D : Addr} {o : HO} (m : D ∈ l) : Same (mask l H) (mask l (upd H D o)) := fun a u e => by
  by_cases h : a ∈ l
  · rw [mask_in h] at e; cases e
  · rw [mask_out h] at e ⊢
    rw [upd_ne fun z => h (by rw [z]; exact m)]
    exact e
theorem dpAll_app {K : PySem.W.Frag} {H : Hp} : ∀ {vs ws : List V} {ds es : List PyData}, DpAll K H vs ds → DpAll K H ws es → DpAll K H (vs ++ ws) (ds ++ es)
  | _, _, _, _, .nil, h => h
  | _, _, _, _, .cons h t, r => .cons h (dpAll_app t r)
theorem dpAll_drop {K : PySem.W.Frag} {H : Hp} : ∀ (n : Nat) {vs : List V} {ds : List PyData}, DpAll K H vs ds → DpAll K H (vs.drop n) (ds.drop n)
  | 0, _, _, h => h
  | n + 1, _, _, .nil => .nil
  | n + 1, _, _, .cons _ t => dpAll_drop n t
theorem dpAll_take {K : PySem.W.Frag} {H : Hp} : ∀ (n : Nat) {vs : List V} {ds : List PyData}, DpAll K H vs ds → DpAll K H (vs.take n) (ds.take n)
  | 0, _, _, _ => .nil
  | n + 1, _, _, .nil => .nil
  | n + 1, _, _, .cons h t => .cons h (dpAll_take n t)
theorem dpAll_at {K : PySem.W.Frag} {H : Hp} : ∀ {vs : List V} {ds : List PyData} {i : Nat} {v : V}, DpAll K H vs ds → vs[i]? = some v → ∃ d, ds[i]? = some d ∧ Dp K H v d
  | _, _, _, _, .nil, e => by simp at e
  | _, _, 0, _, .cons h _, e => by
    obtain rfl := Option.some.inj e
    exact ⟨_, rfl, h⟩
  | _, _, i + 1, _, .cons _ t, e => dpAll_at (i := i) t e
theorem dp_tup {K : PySem.W.Frag} {H : Hp} {v : V} {ds : List PyData} (h : Dp K H v (.tuple ds)) : ∃ a xs, v = .ref a ∧ SqT K H a xs ∧ DpAll K H xs ds := by
  cases h with
  | tup h1 h2 => exact ⟨_, _, rfl, h1, h2⟩
theorem dp_lst {K : PySem.W.Frag} {H : Hp} {v : V} {ds : List PyData} (h : Dp K H v (.list ds)) : ∃ a xs, v = .ref a ∧ SqL K H a xs ∧ DpAll K H xs ds := by
  cases h with
  | lst h1 h2 => exact ⟨_, _, rfl, h1, h2⟩
theorem dpAll_cons {K : PySem.W.Frag} {H : Hp} {vs : List V} {d : PyData} {ds : List PyData} (h : DpAll K H vs (d :: ds)) : ∃ v r, vs = v :: r ∧ Dp K H v d ∧ DpAll K H r ds := by
  cases h with
  | cons h1 h2 => exact ⟨_, _, rfl, h1, h2⟩
theorem dpAll_nil {K : PySem.W.Frag} {H : Hp} {vs : List V} (h : DpAll K H vs []) : vs = [] := by
  cases h; rfl
theorem dp_str {K : PySem.W.Frag} {H : Hp} {v : V} {x : Str} (h : Dp K H v (.str x)) : v = .str x := by
  cases h; rfl
theorem cut_tail {x : V} {r : List V} : cutV (x :: r) (some 1) none = r := by
  unfold cutV
  rw [show HT.sIx (x :: r).length 0 (some 1) = min 1 (x :: r).length from HT.sIx_nat _ 0 1, HT.sIx_none, List.length_cons, Nat.min_eq_left (by omega)]
  show List.take (r.length + 1 - 1) r = r
  rw [Nat.add_sub_cancel, List.take_length]
theorem cut_drop (xs : List V) (k : Nat) : cutV xs (some (k : Int)) none = xs.drop k := by
  unfold cutV
  rw [HT.sIx_nat, HT.sIx_none]
  by_cases h : k ≤ xs.length
  · rw [Nat.min_eq_left h]
    exact List.take_of_length_le (by rw [List.length_drop]; omega)
  · rw [Nat.min_eq_right (by omega), List.drop_of_length_le (Nat.le_refl _), List.drop_of_length_le (by omega)]; simp
theorem Keeps.maskL {p q : Addr} {l : List Addr} {H H' : Hp} (hp : p ∈ l) (hq : q ∈ l) (k : Keeps p q H H') : Same (Qp.mask l H) (Qp.mask l H') := fun a o e => by
  by_cases h : a ∈ l
  · rw [mask_in h] at e; cases e
  · rw [mask_out h] at e ⊢
    exact k a o (fun z => h (by rw [z]; exact hp)) (fun z => h (by rw [z]; exact hq)) e
theorem Keeps.alive {p q : Addr} {n : Nat} {l : List Addr} {H H' : Hp} (al : Alive l H) (k : Keeps p q H H') (P : PoolAt H' p q n) : Alive l H' := fun a m => by
  obtain ⟨o, e⟩ := al a m
  by_cases h1 : a = p
  · rw [h1]; exact P.p_some
  · by_cases h2 : a = q
    · rw [h2]; exact P.q_some
    · exact ⟨o, k a o h1 h2 e⟩
/-! ### for i, x in enumerate(t), t a tuple -/
theorem meets_enum_tup (l : Addr) (items : Array Value) :
    Meets (Builtin.«enumerate.__new__» ⟨[.type "enumerate", .ref l], []⟩) (fun _ R s => s.heap.IsTuple l items ∧
      R (.ok (.ret (.ref (s.heap.push { cls := .type "tuple_iterator", data := .fields #[.ref l, .int 0 0] }).objs.size)))
        { s with heap := (s.heap.push { cls := .type "tuple_iterator", data := .fields #[.ref l, .int 0 0] }).push { cls := .type "enumerate", data := .fields #[.none, .bool false, .ref s.heap.objs.size, rawInt 0, .none, .none] } }) :=
  .of_wp fun prog w A R s h => by
    obtain ⟨hp, g, d, tk, os⟩ := s; obtain ⟨hl, h⟩ := h
    have hsub := sub_enumerate
    wp_walk
    refine wpAny_stack_any fun st => wpAny_pure ?_
    split
    · rename_i c _ _ _ _ _
      cases (c == Value.type "enumerate")
      · wp_walk using wpAny_pyIter_tuple hl
        exact ⟨_, rfl, h⟩
      · wp_walk using wpAny_pyIter_tuple hl
        exact ⟨_, rfl, h⟩
    · wp_walk using wpAny_pyIter_tuple hl
      exact ⟨_, rfl, h⟩
theorem call_enum_tup {prog : Program} {w : World} {A : Around} {E : Value → Shared → Prop} {s : Shared} {l : Addr} {items : Array Value} {Q : Value → Shared → Prop} (hL : s.heap.IsTuple l items)
    (h : ∀ h', IsEnum h' (s.heap.objs.size + 1) s.heap.objs.size 0 .none → h'.IsTupleIter s.heap.objs.size l 0 → h'.objs.size = s.heap.objs.size + 2 →
      (∀ b o, s.heap.get? b = some o → h'.get? b = some o) → Q (.ref (s.heap.objs.size + 1)) { s with heap := h' }) :
    wpAny (model prog w) A (call (.type "enumerate") [.ref l]) Q E s := by
  refine callType_new F.called_enumerate (by decide) (F.typeCall_enumerate_1 _) (F.newCall_enumerate_1 _) (fun obj => F.args_object_init_2 obj _) F.entry_enumerate_new
    (meets_enum_tup l items) ⟨hL, ?_⟩
  have hz : (s.heap.push { cls := .type "tuple_iterator", data := .fields #[.ref l, .int 0 0] }).objs.size = s.heap.objs.size + 1 := Heap.size_push ..
  show _ ∧ _
  rw [hz]
  have he : IsEnum ((s.heap.push { cls := .type "tuple_iterator", data := .fields #[.ref l, .int 0 0] }).push
      { cls := .type "enumerate", data := .fields #[.none, .bool false, .ref s.heap.objs.size, rawInt 0, .none, .none] }) (s.heap.objs.size + 1) s.heap.objs.size 0 .none := by
    have := Heap.get?_push_size (s.heap.push { cls := .type "tuple_iterator", data := .fields #[.ref l, .int 0 0] })
      (o := { cls := .type "enumerate", data := .fields #[.none, .bool false, .ref s.heap.objs.size, rawInt 0, .none, .none] }) rfl
    rw [hz] at this; exact this
  refine ⟨⟨_, he, rfl⟩, h _ he ⟨_, Heap.get?_push_of_some _ (Heap.get?_push_size _ rfl), rfl, rfl⟩ (by rw [Heap.size_push, hz]) fun b o x => Heap.get?_push_of_some _ (Heap.get?_push_of_some _ x)⟩
theorem enum_endT {prog : Program} {w : World} {A : Around} {E : Value → Shared → Prop} {s : Shared} {e it l : Addr} {i : Nat} {items : Array Value} {old : Value} {Q : Option Value → Shared → Prop} (hh : A.in1.handled = none)
    (he : IsEnum s.heap e it i old) (hit : s.heap.IsTupleIter it l i) (hl : s.heap.IsTuple l items) (hx : items[i]? = none) (hQ : ∀ h', Heap.ExtBut it s.heap h' → Q none { s with heap := h' }) : wpAny (model prog w) A (pyNext (.ref e)) Q E s := by
  have hT : s.TypeIs (.ref e) "enumerate" := ⟨_, he, rfl⟩
  unfold pyNext
  refine wpAny_bind (wpAny_attempt (wpAny_callSpecial?_slot (name := Str.ofString "__next__") hT F.slot_enumerate_next
    (wpAny_call_entry F.slot_enumerate_next hT F.entry_enumerate_next ?_ (F.args_enumerate_next_1 _))))
  show wpAny _ _ (field (.ref e) 2 >>= _) _ _ _
  refine wpAny_bind (wpAny_field he rfl (x := .ref it) rfl ?_)
  refine wpAny_bind (wpAny_nextOf_tuple_end hh hit hl hx fun h' x he' hx' => ?_)
  obtain ⟨o, ho, hc⟩ := hx'
  refine wpAny_bind (wpAny_isInstance (T := "StopIteration") (b := true) ⟨o, ho, hc⟩ isSubtype_stop ?_)
  exact wpAny_pure (hQ _ he')
/-- the tuple at a, each item in a new pair -/
def IteT (K : PySem.W.Frag) (a : Addr) : It :=
  ⟨fun i H => ∃ (xs : List V) (x : V), SqT K H a xs ∧ xs[i]? = some x, fun i H v H' => ∃ T x, v = .ref T ∧ H T = none ∧ H' = upd H T (.tup [.int (i : Nat), x]) ∧ ∀ xs, SqT K H a xs → xs[i]? = some x, fun i H => ∃ xs : List V, SqT K H a xs ∧ xs.length ≤ i⟩
theorem turn_enumT {P : Program} {w : World} {K : PySem.W.Frag} {elts : List Expr} {kk : Nat} {tpos : Pos} (a e it : Addr) (hai : a ≠ it) (hae : e ≠ a) :
    Turn P w K (.Tuple elts kk tpos) (IteT K a) [e, it] e (fun i h => (∃ old, IsEnum h e it ((i : Nat) : Int) old) ∧ h.IsTupleIter it a i ∧ e ≠ it) where
  mem := by simp
  obj := fun i h st b hb => by
    obtain ⟨⟨old, he⟩, ⟨o, ho, hc, hd⟩, _⟩ := st
    have e' : b = e ∨ b = it := by simpa using hb
    rcases e' with z | z
    · rw [z]; exact ⟨_, he, fun v q => nomatch q⟩
    · rw [z]; exact ⟨o, ho, fun v q => by rw [hd] at q; cases q⟩
  keep := fun i h h' st k => let ⟨⟨old, he⟩, hi, hne⟩ := st; ⟨⟨old, k e (by simp) _ he⟩, hi.at fun o q => k it (by simp) o q, hne⟩
  item := by
    intro X hP hw hK hc i pins s σ H E I hf st hg
    subst hP hw hK
    obtain ⟨⟨old, he⟩, hit, hne⟩ := st
    obtain ⟨xs, x, hq, hx⟩ := hg
    obtain ⟨its, rv, p, hz⟩ := I.tuple hq
    obtain ⟨u, hu, ru⟩ := rv.get hx
    have hel : e < s.heap.objs.size := Heap.lt_size he
    have hil : it < s.heap.objs.size := by obtain ⟨_, q, _⟩ := hit; exact Heap.lt_size q
    have hh : X.A.in1.handled = none := I.ok.hd hc
    have hsz : i < its.toArray.size := by
      have := (List.getElem?_eq_some_iff.mp hu).1
      simpa using this
    refine wpAny_pyNext_enum_itemD (Draws.tuple (prog := X.prog) (w := X.w) (A := X.A.in1) hh it a hai its.toArray) he ⟨hit, p⟩ hsz hne (by simp [hne, hae]) fun y h' tk hy ho hst' hT hsz' hk => ?_
    have ey : y = u := by
      have h1 : its[i]? = some y := by simpa using hy
      rw [hu] at h1
      exact (Option.some.inj h1).symm
    subst ey
    refine ⟨_, rfl, wpAny_letOwnedTupleGo_enum (s := { s with heap := h', toks := tk + 1 }) ho fun h'' he' sb => ?_⟩
    have hT2 : h''.get? s.heap.objs.size = some { cls := .type "tuple", data := .seq #[.int i tk, y] } := (sb.2 _ (Nat.ne_of_gt hel)).trans hT
    have new : ObjOk X.prog X.w (upd H s.heap.objs.size (.tup [.int (i : Nat), x])) h'' s.heap.objs.size (.tup [.int (i : Nat), x]) :=
      ⟨by show 2 ≤ sizeLine; decide, [.int i tk, y], .cons ⟨_, rfl⟩ (.cons ru .nil), ⟨_, hT2, rfl, _, rfl⟩⟩
    have I1 : Inv X pins σ (upd H s.heap.objs.size (.tup [.int (i : Nat), x])) { s with heap := h'', toks := tk + 1 } :=
      I.turnedNew (ch := [e, it]) (fun b ob hb q => (sb.2 b (fun z => hb (by simp [z]))).trans (hk b ob (fun z => hb (by simp [z])) (fun z => hb (by simp [z])) q)) hf (Nat.le_refl _) new
    refine ⟨.ref s.heap.objs.size, _, I1, rfl, ⟨_, x, rfl, I.hok.fresh (Nat.le_refl _), rfl, fun ys hy' => by rw [I.tuple_inj hy' hq]; exact hx⟩, ⟨⟨y, ?_⟩, hst'.1.at fun o q => (sb.2 it (Ne.symm hne)).trans q, hne⟩, fun b hb => ?_⟩
    · have e1 : ((i + 1 : Nat) : Int) = (i : Int) + 1 := by omega
      rw [e1]; exact he'
    · have hb' : b < s.heap.objs.size := by
        have e' : b = e ∨ b = it := by simpa using hb
        rcases e' with z | z
        · rw [z]; exact hel
        · rw [z]; exact hil
      rw [upd_ne (Nat.ne_of_lt hb')]
      exact (hf b hb).1
  done := by
    intro X hP hw hK hc i pins s σ H E I hf st hg
    subst hP hw hK
    obtain ⟨⟨old, he⟩, hit, hne⟩ := st
    obtain ⟨xs, hq, hx⟩ := hg
    obtain ⟨its, rv, p, hz⟩ := I.tuple hq
    obtain ⟨f0, f1, f2, f3, f4, f5⟩ := hf it (by simp)
    have hl := rv.length
    have hh : X.A.in1.handled = none := I.ok.hd hc
    exact enum_endT hh he hit p (by simp; omega) fun h' eb => ⟨rfl, I.turned (t' := s.toks) (fun b o hb q => eb b o hb q) f0 f1 f3 f4 f5⟩
  self := fun A i s Q E st h => let ⟨⟨_, he⟩, _⟩ := st; wpAny_pyIter_enum he h
def iEnumT (K : PySem.W.Frag) (ta : TA) : TI := fun σ H R => ta σ H fun vs H1 => ∃ a xs, vs = [.ref a] ∧ SqT K H1 a xs ∧ R (IteT K a) H1
theorem pi_enumT {X : Cx} {e : Expr} {ta : TA} {p pos tpos : Pos} {elts : List Expr} {kk : Nat} (hg : Gl X "enumerate") (hm : X.mg "enumerate" = none) (ha : PA X [e] ta) (hs : starEach [e] X.env = [(false, eval e X.env)] := by rfl) :
    PI X (.Tuple elts kk tpos) (.Call (.Name "enumerate" p) [e] [] pos) (iEnumT X.K ta) := by
  refine ⟨fun pins s σ H R I h => ?_⟩
  refine PyProof.Rows.Call_ (ld_blt I hg hm PyProof.Rows.Boot.«enumerate» (PyProof.Rows.callWith_type1 (thn (ha.run pos pins s σ H _ I h) fun us s1 ⟨vs, H1, I1, r1, q1⟩ => ?_) hs rfl))
  obtain ⟨a, xs, ex, hq, q⟩ := q1
  subst ex
  cases r1 with
  | cons r rr =>
    cases rr
    cases r
    obtain ⟨its, rv, p', hz⟩ := I1.tuple hq
    have hal : a < s1.heap.objs.size := by obtain ⟨o, g, _⟩ := p'; exact Heap.lt_size g
    refine call_enum_tup p' fun h' he hit hsz hk => wpAny_pyIter_enum he ?_
    have I2 : Inv X pins σ H1 { s1 with heap := h' } := I1.kept (t' := s1.toks) hk
    refine ⟨s1.heap.objs.size + 1, [s1.heap.objs.size + 1, s1.heap.objs.size], _, _, H1, rfl, I2, turn_enumT a (s1.heap.objs.size + 1) s1.heap.objs.size (Nat.ne_of_lt hal) (Nat.ne_of_gt (Nat.lt_succ_of_lt hal)), ⟨⟨.none, he⟩, hit, Nat.succ_ne_self _⟩, fun b hb => ?_, q⟩
    have e' : b = s1.heap.objs.size + 1 ∨ b = s1.heap.objs.size := by simpa using hb
    have hle : s1.heap.objs.size ≤ b := by
      rcases e' with z | z
      · rw [z]; exact Nat.le_add_right _ _
      · rw [z]; exact Nat.le_refl _
    exact I1.fpOk hle (I1.hok.fresh hle)
/-- a loop over it -/
theorem for_enumT {K : PySem.W.Frag} {a : Addr} {xs : List V} {g : TG} {tb : TS} {D : Ends} {σ : L2.St} {H : Hp} (Pv : Nat → L2.St → Hp → Prop) (h0 : Pv 0 σ H) (hl : ∀ i σ H, i ≤ xs.length → Pv i σ H → SqT K H a xs)
    (hs : ∀ i x T σ H, xs[i]? = some x → H T = none → Pv i σ H → g (.ref T) σ (upd H T (.tup [.int (i : Nat), x])) fun σ2 H2 => tb { D with nx := Pv (i + 1), ct := Pv (i + 1), bk := D.nx } σ2 H2) (hd : ∀ σ H, Pv xs.length σ H → D.nx σ H) :
    ∃ W : Nat → Nat → L2.St → Hp → Prop, (∃ m, W 0 m σ H) ∧ ∀ i m σ H, W i m σ H →
      ((IteT K a).stop i H ∧ D.nx σ H) ∨ ((IteT K a).go i H ∧ ∃ N : L2.St → Hp → Prop, (∀ σ' H', N σ' H' → ∃ m', m' < m ∧ W (i + 1) m' σ' H') ∧ ∀ x H', (IteT K a).yld i H x H' → g x σ H' fun σ2 H2 => tb { D with nx := N, ct := N, bk := D.nx } σ2 H2) := by
  refine ⟨fun i m σ H => m = xs.length - i ∧ i ≤ xs.length ∧ Pv i σ H, ⟨xs.length, by simp, Nat.zero_le _, h0⟩, ?_⟩
  rintro i m σ H ⟨rfl, hi, p⟩
  have q := hl i σ H hi p
  by_cases hlt : i < xs.length
  · refine .inr ⟨⟨xs, xs[i], q, by simp [hlt]⟩, Pv (i + 1), fun σ' H' p' => ⟨xs.length - (i + 1), by omega, rfl, hlt, p'⟩, fun v H' y => ?_⟩
    obtain ⟨T, x, rfl, nT, rfl, y⟩ := y
    exact hs i x T σ _ (y xs q) nT p
  · have e : i = xs.length := by omega
    subst e
    exact .inl ⟨⟨xs, q, Nat.le_refl _⟩, hd σ H p⟩
/-! ### names -/
theorem low_ok : ∀ c, 97 ≤ c → c ≤ 122 → Unicode.isAlpha c = true ∧ Unicode.isLower c = true ∧ Unicode.isUpper c = false ∧ Unicode.isTitle c = false := by
  have h : ∀ k : Fin 26, Unicode.isAlpha (97 + k.val) = true ∧ Unicode.isLower (97 + k.val) = true ∧ Unicode.isUpper (97 + k.val) = false ∧ Unicode.isTitle (97 + k.val) = false := by decide +kernel
  intro c h1 h2
  have := h ⟨c - 97, by omega⟩
  rw [show 97 + (c - 97) = c by omega] at this
  exact this
/-- what is_name tells of a text -/
def nmS (z : Str) : Bool := !decide (8 < z.length) && (Txt.isascii z && (Txt.isalpha z && Txt.islower z))
def nmD : PyData → Bool
  | .str z => nmS z
  | _ => false
theorem IsWord.nm {z : Str} (h : IsWord z) : nmS z = true := by
  obtain ⟨h1, h2, h3⟩ := h
  have hm : ∀ c, c ∈ z.cps → 97 ≤ c ∧ c ≤ 122 := fun c hc => h3 c (Array.mem_toList_iff.mpr hc)
  have e1 : (!decide (8 < z.length)) = true := by simp; omega
  have e2 : Txt.isascii z = true := by
    unfold Txt.isascii
    rw [Array.all_eq_true_iff_forall_mem]
    intro c hc
    have := hm c hc
    exact decide_eq_true (by omega)
  have e3 : Txt.isalpha z = true := by
    unfold Txt.isalpha
    rw [Bool.and_eq_true]
    refine ⟨decide_eq_true (by omega), ?_⟩
    rw [Array.all_eq_true_iff_forall_mem]
    intro c hc
    exact (low_ok c (hm c hc).1 (hm c hc).2).1
  have e4 : Txt.islower z = true := by
    unfold Txt.islower
    rw [Bool.and_eq_true]
    have hz : 0 < z.cps.size := h1
    refine ⟨?_, ?_⟩
    · rw [← Array.any_toList, List.any_eq_true]
      exact ⟨z.cps[0], Array.mem_toList_iff.mpr (Array.getElem_mem hz), (low_ok _ (hm _ (Array.getElem_mem hz)).1 (hm _ (Array.getElem_mem hz)).2).2.1⟩
    · rw [Bool.not_eq_true', ← Array.any_toList, List.any_eq_false]
      intro c hc
      have hc := Array.mem_toList_iff.mp hc
      have := low_ok c (hm c hc).1 (hm c hc).2
      rw [this.2.2.1, this.2.2.2]
      simp
  unfold nmS
  rw [e1, e2, e3, e4]
  rfl
def spIsName (K : PySem.W.Frag) : Sp := fun vs H Q _ => ∃ (v : V) (d : PyData), vs = [v] ∧ Dp K H v d ∧ (∀ z, d = .str z → z.length ≤ 1000) ∧ Q (.bl (nmD d)) H
/-- never reached -/
theorem ps_never {X : Cx} {st : Stmt} : PS X st (fun _ _ _ => False) := ⟨fun _ _ _ _ _ _ h => h.elim⟩
section
variable {P : Program} {w : World} {K : PySem.W.Frag} {mg : Str → Option Value} {base : Heap}
theorem scIN : FnScope ["thing"] ["thing"] (defScope sIsName) := ⟨rfl, rfl, rfl, by decide +kernel, rfl, by decide +kernel, by decide +kernel⟩
theorem ok_isname {f : Addr} {fd : FuncData} {k : Nat} {tk : Tok} (F : Fun K "is_name" "is_name" sIsName f fd) (B : Bts mg) (mL : mg "LONGEST_NAME" = some (.int 8 tk)) : FnOk P w K mg base CX0 (k + 1) f fd ["thing"] (spIsName K) := by
  refine F.ok scIN (fun vs H Q E h => ?_) (fun cdv A outer s H vs Q E hr h => ?_)
  · obtain ⟨v, d, rfl, _⟩ := h
    rfl
  · obtain ⟨v, d, rfl, hv, hz, kk⟩ := h
    refine ⟨_, pss_cons (ps_if (PW.pt (pw_or (pt_not (pt_val (pe_callB call_isi (by rfl) B.isinstance (by decide +kernel) (pa_cons (pv 0) (pa_cons (pe_bltn (v := .ty "str") (by rfl) B.str (by decide +kernel) rfl) pa_nil)))))
          (pw_or1 (pt_cmpR op_gt (pe_callB call_len_str (by rfl) B.len PySem.boot_len (pa_cons (pv 0) pa_nil)) (pe_glob (v := .int 8) rfl mL ⟨tk, rfl⟩) (by rfl)))))
        (pss_one (ps_ret pe_bl)) pss_nil)
      (pss_one (ps_ret (pe_and (pe_bm0 PySem.F.plainAttrs_str PySem.F.slot_str_isascii PySem.F.type_str_isascii mt_isascii (pv 0))
        (pe_and (pe_bm0 PySem.F.plainAttrs_str PySem.F.slot_str_isalpha PySem.F.type_str_isalpha mt_isalpha (pv 0))
        (pe_one (pe_bm0 PySem.F.plainAttrs_str PySem.F.slot_str_islower PySem.F.type_str_islower mt_islower (pv 0))))))), ?_⟩
    by_cases hs : ∃ z, d = .str z
    · obtain ⟨z, rfl⟩ := hs
      have hl := hz z rfl
      cases hv
      refine ⟨_, rfl, _, _, _, _, true, rfl, .ty _, TyX.base (TyOf.str z), kit_ty (by decide +kernel), _, rfl, iteF ?_⟩
      refine ⟨_, rfl, z, rfl, len1000 hl, _, _, rfl, rfl, _, rfl, ite2 (fun h => ?_) (fun h => ?_)⟩
      · have h8 : 8 < z.length := by have := of_decide_eq_true h; omega
        have e : nmS z = false := by unfold nmS; rw [decide_eq_true h8]; rfl
        show Q (.bl false) H
        have kk : Q (.bl (nmS z)) H := kk
        rw [e] at kk
        exact kk
      · have h8 : ¬ 8 < z.length := fun q => h (decide_eq_true (by omega))
        have e : nmS z = (Txt.isascii z && (Txt.isalpha z && Txt.islower z)) := by unfold nmS; rw [decide_eq_false h8]; rfl
        have kk : Q (.bl (nmS z)) H := kk
        rw [e] at kk
        refine ⟨_, rfl, rfl, z, rfl, rfl, True.intro, _, rfl, ite2 (fun ha => ?_) (fun ha => ?_)⟩
        · rw [ha, Bool.true_and] at kk
          refine ⟨_, rfl, rfl, z, rfl, rfl, True.intro, _, rfl, ite2 (fun hb => ?_) (fun hb => ?_)⟩
          · rw [hb, Bool.true_and] at kk
            exact ⟨_, rfl, rfl, z, rfl, rfl, True.intro, kk⟩
          · rw [Bool.eq_false_iff.mpr hb, Bool.false_and] at kk
            exact kk
        · rw [Bool.eq_false_iff.mpr ha, Bool.false_and] at kk
          exact kk
    · have e : nmD d = false := by
        cases d with
        | str z => exact absurd ⟨z, rfl⟩ hs
        | _ => rfl
      have kt : kitB (tyName d) "str" = some false := by
        cases d with
        | str z => exact absurd ⟨z, rfl⟩ hs
        | none => exact (by decide +kernel : kitB "NoneType" "str" = some false)
        | bool b => exact (by decide +kernel : kitB "bool" "str" = some false)
        | int i => exact (by decide +kernel : kitB "int" "str" = some false)
        | list l => exact (by decide +kernel : kitB "list" "str" = some false)
        | tuple l => exact (by decide +kernel : kitB "tuple" "str" = some false)
        | dict l => cases hv
      rw [e] at kk
      exact ⟨_, rfl, _, _, _, _, false, rfl, .ty _, ty_of hv, kit_ty kt, _, rfl, iteT (iteT kk)⟩
/-- check_names(t): all are names -/
def spNames0 (K : PySem.W.Frag) : Sp := fun vs H Q _ => ∃ (t : Addr) (xs : List Str), vs = [.ref t] ∧ SqT K H t (xs.map V.str) ∧ (∀ x ∈ xs, IsWord x) ∧ Q .non H
theorem scCN : FnScope ["things", "thing"] ["things"] (defScope sNames) := ⟨rfl, rfl, rfl, by decide +kernel, rfl, by decide +kernel, by decide +kernel⟩
theorem ok_names0 {f fI : Addr} {fd fdI : FuncData} (F : Fun K "check_names" "check_names" sNames f fd) (GI : FnOk P w K mg base CX0 1 fI fdI ["thing"] (spIsName K)) (mI : mg "is_name" = some (.ref fI)) (kI : PySem.W.keepIn K (.ref fI) = true) (bI : Binds K fdI ["thing"] []) :
    FnOk P w K mg base CX0 2 f fd ["things"] (spNames0 K) := by
  refine F.ok scCN (fun vs H Q E h => ?_) (fun cdv A outer s H vs Q E hr h => ?_)
  · obtain ⟨t, xs, rfl, _⟩ := h
    rfl
  · obtain ⟨t, xs, rfl, ht, hw, kk⟩ := h
    refine ⟨_, pss_one (ps_for PassesOwn.never rfl (pi_tup (pv 0)) (pg_name (i := 1) scCN.nd rfl (.inl rfl))
      (pss_one (ps_if (pt_not (pt_val (pe_call GI hr (by rfl) mI kI bI .nil pass0 (pa_cons (pv 1) pa_nil)))) (pss_one ps_never) pss_nil))), ?_⟩
    refine ⟨_, rfl, t, rfl, ⟨_, ht⟩, for_tup (K := K) (a := t) (xs := xs.map V.str) (fun i σ H2 => ∃ y, σ = [some (.ref t), y] ∧ H2 = H) ⟨none, rfl, rfl⟩ (fun i σ H2 _ ⟨_, _, e⟩ => by rw [e]; exact ht) ?_ ?_⟩
    · rintro i x σ H2 hx ⟨y, rfl, rfl⟩
      rw [List.getElem?_map] at hx
      obtain ⟨z, hz, rfl⟩ := Option.map_eq_some_iff.mp hx
      have hwz := hw z (List.mem_of_getElem? hz)
      refine ⟨_, rfl, .str z, .str z, rfl, .str z, fun z' e => ?_, _, rfl, ?_⟩
      · cases e; have := hwz.2.1; omega
      · have e : nmD (.str z) = true := hwz.nm
        rw [e]
        exact iteF ⟨_, rfl, rfl⟩
    · rintro σ H2 ⟨y, rfl, rfl⟩
      exact kk
/-- check_unlike(t): all unlike -/
def spUnlike0 (K : PySem.W.Frag) : Sp := fun vs H Q _ => ∃ (t : Addr) (xs : List Str), vs = [.ref t] ∧ SqT K H t (xs.map V.str) ∧ xs.Nodup ∧ xs.length ≤ 1000 ∧ ∀ H', Same H H' → Q .non H'
theorem scCU : FnScope ["names", "at", "name"] ["names"] (defScope sUnlike) := ⟨rfl, rfl, rfl, by decide +kernel, rfl, by decide +kernel, by decide +kernel⟩
theorem ok_unlike0 {f : Addr} {fd : FuncData} {k : Nat} (F : Fun K "check_unlike" "check_unlike" sUnlike f fd) (me : mg "enumerate" = none) : FnOk P w K mg base CX0 (k + 1) f fd ["names"] (spUnlike0 K) := by
  refine F.ok scCU (fun vs H Q E h => ?_) (fun cdv A outer s H vs Q E hr h => ?_)
  · obtain ⟨t, xs, rfl, _⟩ := h
    rfl
  · obtain ⟨t, xs, rfl, ht, hn, hl, kk⟩ := h
    refine ⟨_, pss_one (ps_for PassesOwn.never rfl (pi_enumT (by rfl) me (pa_cons (pv 0) pa_nil)) (pg_tup rfl (pgs_cons (pg_name (i := 1) scCU.nd rfl (.inl rfl)) (pgs_cons (pg_name (i := 2) scCU.nd rfl (.inl rfl)) pgs_nil)))
      (pss_one (ps_if (pt_cmpR op_in_seq (pv 2) (pe_slice sl_tup (pv 0) po_none (po_some (pv 1))) (by rfl)) (pss_one ps_never) pss_nil))), ?_⟩
    refine ⟨_, rfl, t, _, rfl, ht, for_enumT (K := K) (a := t) (xs := xs.map V.str) (fun i σ H2 => ∃ y z, σ = [some (.ref t), y, z] ∧ Same H H2) ⟨none, none, rfl, Same.refl _⟩ (fun i σ H2 _ ⟨_, _, _, e⟩ => Same.seqT e ht) ?_ ?_⟩
    · rintro i x T σ H2 hx nT ⟨y, z, rfl, s2⟩
      rw [List.getElem?_map] at hx
      obtain ⟨u, hu, rfl⟩ := Option.map_eq_some_iff.mp hx
      have hi : i < xs.length := (List.getElem?_eq_some_iff.mp hu).1
      have s3 := s2.trans (same_new (o := .tup [.int (i : Nat), .str u]) nT)
      have ht3 := Same.seqT s3 ht
      refine ⟨T, [.int (i : Nat), .str u], rfl, SqT.of upd_same, rfl, .int (i : Nat), [.str u], rfl, .str u, [], rfl, rfl, ?_⟩
      refine ⟨_, rfl, _, rfl, _, rfl, i, rfl, t, _, rfl, ht3, ?_, fun p np => ?_⟩
      · rintro ⟨_, h2⟩
        rw [HT.sIx_nat, List.length_map] at h2
        omega
      · rw [cut_take]
        refine ⟨p, _, rfl, .inr (SqT.of upd_same), rfl, ?_, _, rfl, ?_⟩
        · rw [List.all_eq_true]
          intro v hv
          obtain ⟨w', _, rfl⟩ := List.mem_map.mp (List.mem_of_mem_take hv)
          rfl
        · have e : inV (.str u) ((xs.map V.str).take i) = false := by
            unfold inV
            rw [List.any_eq_false]
            intro v hv
            rw [← List.map_take] at hv
            obtain ⟨w', hw', rfl⟩ := List.mem_map.mp hv
            obtain ⟨j, hj⟩ := List.getElem?_of_mem hw'
            intro q
            have q' : w' = u := beq_iff_eq.mp q
            subst q'
            rw [List.getElem?_take] at hj
            split at hj
            · rename_i hji
              obtain ⟨h1, e1⟩ := List.getElem?_eq_some_iff.mp hj
              obtain ⟨h2, e2⟩ := List.getElem?_eq_some_iff.mp hu
              exact (List.pairwise_iff_getElem.mp hn) j i h1 h2 hji (e1.trans e2.symm)
            · cases hj
          rw [e]
          exact iteF ⟨_, _, rfl, s3.trans (same_new np)⟩
    · rintro σ H2 ⟨y, z, rfl, s2⟩
      exact kk H2 s2
end
/-! ### a static method called through its class; own == and str -/
structure SMet (K : PySem.W.Frag) (C : Addr) (m : Str) (p g : Addr) : Prop where
  at_ : PySem.W.findCls K (.ref C) (.type "type") m = some (.get (.builtin "staticmethod.__get__") (.ref p) .none (.ref C))
  rc : ∃ rest, PySem.W.recIn K p "staticmethod" = some (.ref g :: rest)
  kp : PySem.W.keepIn K (.ref g) = true
def tSMeth (C : Addr) (sp : Sp) (E : XK) (ta : TE) (t : TA) : TE := fun σ H Q => ta σ H fun x H1 => x = .ref C ∧ t σ H1 fun vs H2 => sp vs H2 Q E
section
variable {X : Cx} {CX : CXT} {k : Nat} {C p g : Addr} {sp : Sp} {E : XK} {o e : Expr} {es : List Expr} {m : Str} {pos apos : Pos} {ta : TE} {t : TA} {pl : Sem Bool}
theorem pe_smeth (he : PE X o ta) (r : ClX.CRead X.K C (.type "type")) (c : SMet X.K C m p g) (F : FnR X.prog X.w X.K X.mg X.base CX k g sp) (hr : Room k X.A) (hx : Passes CX X E) (ha : PA X (e :: es) t)
    (hst : starEach (e :: es) X.env = (false, eval e X.env) :: starEach es X.env := by rfl) (hpl : (backTo pos (starEach es X.env)).any (·.1) = false := by rfl)
    (ht : eval (.Call (.Attribute o m apos) (e :: es) [] pos) X.env = (do
      let ov ← eval o X.env
      standAt apos.atName
      let (f, first) ← holding [ov] (getMethod ov m pl)
      callWith pos f first (backTo pos (starEach (e :: es) X.env)) (backToKw pos (keywordEach [] X.env))) := by rfl) :
    PE X (.Call (.Attribute o m apos) (e :: es) [] pos) (tSMeth C sp E ta t) := by
  refine ⟨fun pins s σ H Q I h => ?_⟩
  refine PySem.W.methodCall_KW (pl := pl) (thn (he.run pins s σ H _ I h) fun u s1 ⟨x, H1, I1, rx, ex, q⟩ => ?_) ht
  subst ex
  obtain rfl : u = Value.ref C := rx
  obtain ⟨rest, hp⟩ := c.rc
  refine PySem.W.method_cls I1.kIn r.ga (PySem.W.cls_bind I1.kIn r.rd c.at_ (wpAny_call (PySem.W.sm_get I1.kIn hp (PySem.W.handed_on rfl ?_))))
  refine PySem.W.callWith_K (h₀ := X.base) (first := []) I.ok.mod.kin c.kp (thn (ha.run pos pins _ σ H1 _ (I1.tok _) q) fun us s2 ⟨vs, H2, I2, rv, q2⟩ => ⟨I2.kIn, ?_⟩) hst hpl
  exact wpAny_call (run_fnR F hr hx I2 rv q2)
/-- x == y by C's own __eq__, both of the class at C -/
def rEqOwn (C : Addr) (sp : Sp) (E : XK) : R2 := fun x y H Q => ∃ a dx fs b dy gs, x = .ref a ∧ y = .ref b ∧ H a = some (.ins C dx fs) ∧ H b = some (.ins C dy gs) ∧ sp [x, y] H Q E
theorem op_eqOwn (hs : PySem.W.findIn X.K (.ref C) "__eq__" = some (some (.ref g))) (hf : PySem.W.isFn X.K (.ref g) = true) (F : FnR X.prog X.w X.K X.mg X.base CX k g sp) (hr : Room k X.A) (hx : Passes CX X E) : OpR X (compareOp .Eq) (rEqOwn C sp E) := by
  intro pins s σ H x y v u Q I rx ry h
  obtain ⟨a, dx, fs, b, dy, gs, rfl, rfl, ha, hb, q⟩ := h
  cases (show v = Value.ref a from rx)
  cases (show u = Value.ref b from ry)
  obtain ⟨mA, O, _⟩ := ins_get I.hok ha
  obtain ⟨mB, O', _⟩ := ins_get I.hok hb
  obtain ⟨od, J, _⟩ := O.look
  obtain ⟨od', J', _⟩ := O'.look
  obtain ⟨m, hF⟩ := I.fr
  have hn : PySem.W.notFirst X.K C (.ref C) = true := by unfold PySem.W.notFirst; simp
  show wpAny _ _ (richCompare .Eq (.ref a) (.ref b)) _ _ _
  refine PySem.W.cmp_K (op := .Eq) (tb := .ref C) hr.units0 hF I.ok.mod.kin J J'.type hn hs hf ?_
  refine wpAny_mono (wpAny_call (run_fnR (us := [.ref a, .ref b]) (vs := [.ref a, .ref b]) F hr hx I (.cons rfl (.cons rfl .nil)) q)) (fun w s' z => ?_) fun _ _ x => x
  obtain ⟨z', H', I', rz, qz⟩ := z
  exact SlX.cmpback rz ⟨z', H', I', rz, qz⟩
/-- str(x) by C's own __str__ -/
def rStrOwn (C : Addr) (sp : Sp) (E : XK) : List V → Hp → VK → Prop := fun xs H Q => ∃ a dx fs, xs = [.ref a] ∧ H a = some (.ins C dx fs) ∧ sp [.ref a] H (fun z H' => ∃ x, z = .str x ∧ Q z H') E
theorem call_strOwn (hs : PySem.W.findIn X.K (.ref C) "__str__" = some (some (.ref g))) (hf : PySem.W.isFn X.K (.ref g) = true) (F : FnR X.prog X.w X.K X.mg X.base CX k g sp) (hr : Room (k + 2) X.A) (hx : Passes CX X E) : CallR X (.type "str") (rStrOwn C sp E) := by
  intro pins s σ H xs us Q I r h
  obtain ⟨a, dx, fs, rfl, ha, q⟩ := h
  obtain ⟨u, rfl, ru⟩ := r.one
  cases (show u = Value.ref a from ru)
  obtain ⟨mA, O, _⟩ := ins_get I.hok ha
  obtain ⟨od, J, _⟩ := O.look
  have hr2 : Room k X.A.in1.in1 := (show Room (k + 1) X.A.in1 from Room.in1 hr).in1
  refine PySem.W.kso_call hr2.units0 I.kIn J hs hf (wpAny_mono (wpAny_call (SlX.run_at (us := [.ref a]) (ws := [.ref a]) F hr2 I.env0.in1.in1 hx I (.cons rfl .nil) q)) (fun w s' z => ?_) fun _ _ x => x)
  obtain ⟨z', H', I', rz, x, ex, qz⟩ := z
  subst ex
  obtain ⟨t, rfl⟩ := (show ∃ t, w = Value.str x t from rz)
  exact ⟨.str x, H', I', ⟨t, rfl⟩, qz⟩
end
/-! ### things -/
/-- what the written part says of Thing -/
structure ThIn (K : PySem.W.Frag) (mg : Str → Option Value) (C : Addr) : Prop where
  m : mg "Thing" = some (.ref C)
  cls : Cls K C
  nk : NoAttr K C "kind"
  nn : NoAttr K C "name"
  np : NoAttr K C "parts"
  rd : ClX.CRead K C (.type "type")
  ca : PySem.W.findIn K (.ref C) "__class__" = some (some (.builtin "object.__class__"))
  cn : PySem.W.specialIn K (.builtin "object.__class__") "__get__" = some (some (.builtin "getset_descriptor.__get__"))
  ct : PySem.W.takesIn K (.builtin "object.__class__") = some true
  cm : PySem.W.mroIn K C (.type "object") = some true
/-- a thing at a -/
def ThingAt (K : PySem.W.Frag) (H : Hp) (C a : Addr) (kind name : Str) (parts : List Str) : Prop :=
  ∃ dx fs t, H a = some (.ins C dx fs) ∧ fs.lookup ("kind" : Str) = some (.str kind) ∧ fs.lookup ("name" : Str) = some (.str name) ∧ fs.lookup ("parts" : Str) = some (.ref t) ∧ SqT K H t (parts.map V.str)
theorem ThingAt.same {K : PySem.W.Frag} {H H' : Hp} {C a : Addr} {kind name : Str} {parts : List Str} (s : Same H H') (h : ThingAt K H C a kind name parts) : ThingAt K H' C a kind name parts := by
  obtain ⟨dx, fs, t, h1, h2, h3, h4, h5⟩ := h
  exact ⟨dx, fs, t, s _ _ h1, h2, h3, h4, Same.seqT s h5⟩
def spInit (K : PySem.W.Frag) (C : Addr) : Sp := fun vs H Q _ => ∃ (a dx : Addr) (kind name : Str) (t : Addr) (parts : List Str), vs = [.ref a, .str kind, .str name, .ref t] ∧ H a = some (.ins C dx []) ∧ SqT K H t (parts.map V.str) ∧ IsWord name ∧ (∀ x ∈ parts, IsWord x) ∧ parts.length ≤ 900 ∧
  ∀ H', (∀ b o, b ≠ a → H b = some o → H' b = some o) → ThingAt K H' C a kind name parts → Q .non H'
/-- Thing.feed(name) and the like -/
def spMk (K : PySem.W.Frag) (C : Addr) (kind : Str) : Sp := fun vs H Q _ => ∃ (name : Str), vs = [.str name] ∧ IsWord name ∧ ∀ a H', Same H H' → ThingAt K H' C a kind name [] → Q (.ref a) H'
def spFieldM (K : PySem.W.Frag) (C : Addr) : Sp := fun vs H Q _ => ∃ (name over : Str), vs = [.str name, .str over] ∧ IsWord name ∧ IsWord over ∧ ∀ a H', Same H H' → ThingAt K H' C a "field" name [over] → Q (.ref a) H'
def spTableM (K : PySem.W.Frag) (C : Addr) : Sp := fun vs H Q _ => ∃ (name : Str) (keys : List Str), vs = .str name :: keys.map V.str ∧ IsWord name ∧ (∀ x ∈ keys, IsWord x) ∧ keys.Nodup ∧ keys.length ≤ 4 ∧ ∀ a H', Same H H' → ThingAt K H' C a "table" name keys → Q (.ref a) H'
section
variable {P : Program} {w : World} {K : PySem.W.Frag} {mg : Str → Option Value} {base : Heap}
theorem scTI : FnScope ["self", "kind", "name", "parts"] ["self", "kind", "name", "parts"] (defScope (me 1)) := ⟨rfl, rfl, rfl, by decide +kernel, rfl, by decide +kernel, by decide +kernel⟩
theorem fs_look (kind name : Str) (t : Addr) : (putF "parts" (.ref t) (putF "name" (.str name) (putF "kind" (.str kind) []))).lookup ("kind" : Str) = some (.str kind) ∧ (putF "parts" (.ref t) (putF "name" (.str name) (putF "kind" (.str kind) []))).lookup ("name" : Str) = some (.str name) ∧
    (putF "parts" (.ref t) (putF "name" (.str name) (putF "kind" (.str kind) []))).lookup ("parts" : Str) = some (.ref t) := by
  refine ⟨?_, ?_, ?_⟩ <;> simp only [lookup_putF] <;> rfl
theorem ok_init {f fN C : Addr} {fd fdN : FuncData} (T : ThIn K mg C) (F : Fun K "__init__" "Thing.__init__" (me 1) f fd) (GN : FnOk P w K mg base CX0 2 fN fdN ["things"] (spNames0 K)) (mN : mg "check_names" = some (.ref fN)) (kN : PySem.W.keepIn K (.ref fN) = true) (bN : Binds K fdN ["things"] []) :
    FnOk P w K mg base CX0 3 f fd ["self", "kind", "name", "parts"] (spInit K C) := by
  refine F.ok scTI (fun vs H Q E h => ?_) (fun cdv A outer s H vs Q E hr h => ?_)
  · obtain ⟨a, dx, kind, name, t, parts, rfl, _⟩ := h
    rfl
  · obtain ⟨a, dx, kind, name, t, parts, rfl, ha, ht, hn, hp, hl, kk⟩ := h
    refine ⟨_, pss_cons (ps_expr (pe_call GN hr (by rfl) mN kN bN .nil pass0 (pa_cons (pe_tup (pa_cons (pv 2) (StX.pa_star (pv 3) pa_nil))) pa_nil)))
      (pss_cons (ps_fld (pv 0) (pv 1) rfl) (pss_cons (ps_fld (pv 0) (pv 2) rfl) (pss_one (ps_fld (pv 0) (pv 3) rfl)))), ?_⟩
    refine ⟨_, rfl, _, rfl, t, _, rfl, .inl ht, len1000 (by simp only [List.length_cons, List.length_append, List.length_map, List.length_nil]; omega), fun p np => ?_⟩
    have npa : p ≠ a := (ne_of_none ha np).symm
    refine ⟨p, name :: parts, rfl, ?_, fun x hx => ?_, ?_⟩
    · rw [List.map_cons]
      have : (V.str name :: (parts.map V.str ++ [])) = V.str name :: parts.map V.str := by rw [List.append_nil]
      rw [← this]
      exact SqT.of upd_same
    · rcases List.mem_cons.mp hx with rfl | hx
      · exact hn
      · exact hp x hx
    · have ha1 := same_new (o := .tup (V.str name :: (parts.map V.str ++ []))) np _ _ ha
      refine ⟨_, rfl, _, rfl, a, C, dx, _, rfl, ha1, T.cls, T.nk, by decide, ?_⟩
      refine ⟨_, rfl, _, rfl, a, C, dx, _, rfl, upd_same, T.cls, T.nn, by simp [putF], ?_⟩
      refine ⟨_, rfl, _, rfl, a, C, dx, _, rfl, upd_same, T.cls, T.np, ?_, ?_⟩
      · have h2 : ∀ fs : List (Str × V), ∀ f v, (putF f v fs).length ≤ fs.length + 1 := fun fs f v => by
          induction fs with
          | nil => simp [putF]
          | cons p r ih =>
            obtain ⟨g, x⟩ := p
            unfold putF
            split
            · simp
            · simp only [List.length_cons]; omega
        have := h2 (putF "kind" (.str kind) []) "name" (.str name)
        have := h2 [] "kind" (.str kind)
        simp only [List.length_nil] at this
        omega
      · have kp : ∀ b o, b ≠ a → H b = some o → (upd (upd (upd (upd H p (.tup (V.str name :: (parts.map V.str ++ [])))) a (.ins C dx (putF "kind" (.str kind) []))) a (.ins C dx (putF "name" (.str name) (putF "kind" (.str kind) [])))) a (.ins C dx (putF "parts" (.ref t) (putF "name" (.str name) (putF "kind" (.str kind) []))))) b = some o := fun b o nb e => by
          rw [upd_ne nb, upd_ne nb, upd_ne nb]
          exact same_new np _ _ e
        refine kk _ kp ⟨dx, _, t, upd_same, (fs_look kind name t).1, (fs_look kind name t).2.1, (fs_look kind name t).2.2, ?_⟩
        rcases ht with (h1 | ⟨o, h1⟩) | h3
        · refine .inl (.inl (kp _ _ (fun e => ?_) h1))
          rw [e, ha] at h1; cases h1
        · refine .inl (.inr ⟨o, kp _ _ (fun e => ?_) h1⟩)
          rw [e, ha] at h1; cases h1
        · exact .inr h3
/-- Thing(kind, name, parts) -/
theorem make_at {C t0 x dx : Addr} {H1 : Hp} {kind name : Str} {parts : List Str} {R : Hp → Prop} (ht : SqT K H1 t0 (parts.map V.str)) (hn : IsWord name) (hp : ∀ x ∈ parts, IsWord x) (hl : parts.length ≤ 900) (nx : H1 x = none) (ndx : H1 dx = none) (q : ∀ H', Same H1 H' → ThingAt K H' C x kind name parts → R H') :
    spInit K C (.ref x :: ([.str kind, .str name, .ref t0] ++ [])) (upd (upd H1 dx (.own x)) x (.ins C dx [])) (fun v H2 => v = .non ∧ R H2) E0 := by
  have s1 : Same H1 (upd (upd H1 dx (.own x)) x (.ins C dx [])) := fun b o e => by
    rw [upd_ne (ne_of_none e nx), upd_ne (ne_of_none e ndx)]; exact e
  exact ⟨x, dx, kind, name, t0, parts, rfl, upd_same, Same.seqT s1 ht, hn, hp, hl, fun H' kp th => ⟨rfl, q H' (fun b o e => kp b o (ne_of_none e nx) (s1 b o e)) th⟩⟩
theorem ok_mk {i : Nat} {f fI C : Addr} {fd fdI : FuncData} {m qual kind : Str} (T : ThIn K mg C) (M : Mk K C fI) (F : Fun K m qual (me i) f fd) (GI : FnOk P w K mg base CX0 3 fI fdI ["self", "kind", "name", "parts"] (spInit K C)) (bI : Binds K fdI ["self", "kind", "name", "parts"] [])
    (S : FnScope ["name"] ["name"] (defScope (me i))) (hg : ∀ cdv A outer s H E, Gl (cxOf CX0 P w K mg base ["name"] qual (defScope (me i)) f cdv A outer s H E).nox "Thing") (hv : Vis (defScope (me i)) "name")
    {p1 p2 p3 p4 p5 p6 : Pos} {j k : Nat} (hb : defBody (me i) = [.Return (some (.Call (.Name "Thing" p1) [.Constant (.str kind) j p2, .Name "name" p3, .Tuple [] k p4] [] p5)) p6]) : FnOk P w K mg base CX0 5 f fd ["name"] (spMk K C kind) := by
  refine F.ok S (fun vs H Q E h => ?_) (fun cdv A outer s H vs Q E hr h => ?_)
  · obtain ⟨name, rfl, _⟩ := h
    rfl
  · obtain ⟨name, rfl, hn, kk⟩ := h
    rw [hb]
    refine ⟨_, pss_one (ps_ret (pe_make M GI hr (hg _ _ _ _ _ _) T.m bI .nil pass0 (pa_cons pe_str (pa_cons (pe_var (i := 0) rfl hv (by decide) (by decide)) (pa_cons (pe_tup pa_nil) pa_nil))))), ?_⟩
    refine ⟨_, rfl, by show 0 ≤ sizeLine; decide, fun t0 nt => ?_⟩
    intro x dx nx ndx _
    exact make_at (parts := []) (SqT.of upd_same) hn (fun x hx => by cases hx) (by simp) nx ndx fun H' s th => kk x H' ((same_new nt).trans s) th
end
section
variable {P : Program} {w : World} {K : PySem.W.Frag} {mg : Str → Option Value} {base : Heap}
theorem scF2 : FnScope ["name", "over"] ["name", "over"] (defScope (me 6)) := ⟨rfl, rfl, rfl, by decide +kernel, rfl, by decide +kernel, by decide +kernel⟩
theorem ok_field {f fI C : Addr} {fd fdI : FuncData} (T : ThIn K mg C) (M : Mk K C fI) (F : Fun K "field" "Thing.field" (me 6) f fd) (GI : FnOk P w K mg base CX0 3 fI fdI ["self", "kind", "name", "parts"] (spInit K C)) (bI : Binds K fdI ["self", "kind", "name", "parts"] []) : FnOk P w K mg base CX0 5 f fd ["name", "over"] (spFieldM K C) := by
  refine F.ok scF2 (fun vs H Q E h => ?_) (fun cdv A outer s H vs Q E hr h => ?_)
  · obtain ⟨name, over, rfl, _⟩ := h
    rfl
  · obtain ⟨name, over, rfl, hn, ho, kk⟩ := h
    refine ⟨_, pss_one (ps_ret (pe_make M GI hr (by rfl) T.m bI .nil pass0 (pa_cons pe_str (pa_cons (pv 0) (pa_cons (pe_tup (pa_cons (pv 1) pa_nil)) pa_nil))))), ?_⟩
    refine ⟨_, rfl, _, rfl, by show 1 ≤ sizeLine; decide, fun t0 nt => ?_⟩
    intro x dx nx ndx _
    exact make_at (parts := [over]) (SqT.of upd_same) hn (fun x hx => by rw [List.mem_singleton.mp hx]; exact ho) (by simp) nx ndx fun H' s th => kk x H' ((same_new nt).trans s) th
theorem scTb : FnScope ["name", "keys", "made"] ([("name" : Str)] ++ [("keys" : Str)]) (defScope (me 4)) := ⟨rfl, rfl, rfl, by decide +kernel, rfl, by decide +kernel, by decide +kernel⟩
theorem ok_tableM {f fI fU C : Addr} {fd fdI fdU : FuncData} {tk : Tok} (T : ThIn K mg C) (M : Mk K C fI) (F : Fun K "table" "Thing.table" (me 4) f fd) (GI : FnOk P w K mg base CX0 3 fI fdI ["self", "kind", "name", "parts"] (spInit K C)) (bI : Binds K fdI ["self", "kind", "name", "parts"] [])
    (GU : FnOk P w K mg base CX0 2 fU fdU ["names"] (spUnlike0 K)) (mU : mg "check_unlike" = some (.ref fU)) (kU : PySem.W.keepIn K (.ref fU) = true) (bU : Binds K fdU ["names"] []) (mlen : mg "len" = none) (mM : mg "MOST_KEYS" = some (.int 4 tk)) : FnR P w K mg base CX0 5 f (spTableM K C) := by
  obtain ⟨oc, od, kV, doc, pm, an, cdv, ct, osl, rfl, lk, hcd⟩ := F.ex
  have G := StX.fn_star (CX := CX0) (P := P) (w := w) (mg := mg) (base := base) (k := 4) (ps := ["name"]) (pv := "keys") (N := ["name", "keys", "made"])
    (sp := fun vs H Q _ => ∃ (name : Str) (t : Addr) (keys : List Str), vs = [.str name, .ref t] ∧ SqT K H t (keys.map V.str) ∧ IsWord name ∧ (∀ x ∈ keys, IsWord x) ∧ keys.Nodup ∧ keys.length ≤ 4 ∧ ∀ a H', Same H H' → ThingAt K H' C a "table" name keys → Q (.ref a) H')
    lk hcd scTb StX.cxUp_none (StX.bind_star1 (B := fun us => bindArgs (PySem.W.fnOf "table" "Thing.table" (defArgs (me 4)) (defBody (me 4)) (defScope (me 4)) .none kV doc pm an cdv ct) ⟨us, []⟩) (p1 := "name") (pv := "keys") (fun a => rfl) (fun a r rs => rfl)) (fun A outer s H vs Q E hr h => ?_)
  · intro A outer s H us vs Q E hr e0 rv hsp
    obtain ⟨name, keys, rfl, hn, hk, hd, hl, kk⟩ := hsp
    refine G A outer s H us _ Q E hr e0 rv ⟨[.str name], keys.map V.str, rfl, rfl, by rw [List.length_map]; exact len1000 (by omega), fun p np => ⟨name, p, keys, rfl, SqT.of upd_same, hn, hk, hd, hl, fun a H' s th => kk a H' ((same_new np).trans s) th⟩⟩
  · obtain ⟨name, t, keys, rfl, ht, hn, hk, hd, hl, kk⟩ := h
    have hr2 : Room 2 _ := hr.mono (by decide)
    refine ⟨_, PSs.nox (pss_cons (ps_set (i := 2) scTb.nd rfl (.inl rfl) (pe_make M GI hr (by rfl) T.m bI .nil pass0 (pa_cons pe_str (pa_cons (pv 0) (pa_cons (pv 1) pa_nil)))))
      (pss_cons (ps_expr (pe_call GU hr2 (by rfl) mU kU bU .nil pass0 (pa_cons (pv 1) pa_nil)))
      (pss_cons (ps_if (pt_cmpR op_gt (pe_callB call_len_seq (by rfl) mlen PySem.boot_len (pa_cons (pv 1) pa_nil)) (pe_glob (v := .int 4) rfl mM ⟨tk, rfl⟩) (by rfl)) (pss_one ps_never) pss_nil)
      (pss_one (ps_ret (pv 2)))))), ?_⟩
    refine ⟨_, rfl, _, rfl, ?_⟩
    intro a dx nx ndx _
    refine make_at (parts := keys) ht hn hk (by omega) nx ndx fun H' s th => ?_
    refine ⟨_, rfl, t, keys, rfl, Same.seqT s ht, hd, by omega, fun H2 s2 => ?_⟩
    refine ⟨_, rfl, t, _, rfl, .inr (Same.seqT (s.trans s2) ht), _, _, rfl, rfl, _, rfl, ?_⟩
    rw [decide_eq_false (by rw [List.length_map]; omega)]
    exact iteF ⟨_, rfl, kk a H2 (s.trans s2) (th.same s2)⟩
/-! ### == and str of things -/
theorem eqv_strs (xs ys : List Str) : PyData.eqv (.tuple (xs.map .str)) (.tuple (ys.map .str)) = decide (xs = ys) := by
  show PyData.eqvAll (xs.map .str) (ys.map .str) = _
  induction xs generalizing ys with
  | nil => cases ys with
    | nil => simp [PyData.eqvAll]
    | cons y ys => simp [PyData.eqvAll]
  | cons x xs ih => cases ys with
    | nil => simp [PyData.eqvAll]
    | cons y ys =>
      simp only [List.map_cons, PyData.eqvAll, ih, PyData.eqv]
      by_cases h : x = y
      · subst h; simp
      · simp [h]
theorem word_str {x : Str} (h : IsWord x) : PyData.strOk x = true := by
  unfold PyData.strOk
  rw [Array.all_eq_true_iff_forall_mem]
  intro c hc
  have := (h.2.2 c (Array.mem_toList_iff.mpr hc)).2
  exact decide_eq_true (by omega)
theorem strs_dp {K : PySem.W.Frag} {H : Hp} : ∀ xs : List Str, DpAll K H (xs.map V.str) (xs.map PyData.str)
  | [] => .nil
  | _ :: r => .cons (.str _) (strs_dp r)
theorem strs_shaped {xs : List Str} (h : ∀ x ∈ xs, IsWord x) : SeqAt.shaped (.tuple (xs.map .str)) = true := by
  have h1 : PyData.canLayAll0 (xs.map .str) = true := by
    induction xs with
    | nil => rfl
    | cons x r ih =>
      simp only [List.map_cons, PyData.canLayAll0, PyData.canLay0, Bool.and_eq_true]
      exact ⟨word_str (h x List.mem_cons_self), ih fun y hy => h y (List.mem_cons_of_mem _ hy)⟩
  have h2 : PyData.depthAll (xs.map .str) ≤ 1 := by
    induction xs with
    | nil => simp [PyData.depthAll]
    | cons x r ih =>
      simp only [List.map_cons, PyData.depthAll, PyData.depth]
      have := ih (fun y hy => h y (List.mem_cons_of_mem _ hy)) (by
        simp only [List.map_cons, PyData.canLayAll0, Bool.and_eq_true] at h1
        exact h1.2)
      omega
  unfold SeqAt.shaped
  simp only [PyData.canLay0, h1, PyData.depth, Bool.true_and]
  exact decide_eq_true (by omega)
def spEq (K : PySem.W.Frag) (C : Addr) : Sp := fun vs H Q _ => ∃ (a b : Addr) (k n k' n' : Str) (p p' : List Str), vs = [.ref a, .ref b] ∧ ThingAt K H C a k n p ∧ ThingAt K H C b k' n' p' ∧ (∀ x ∈ p, IsWord x) ∧ (∀ x ∈ p', IsWord x) ∧ Q (.bl (decide (k = k' ∧ n = n' ∧ p = p'))) H
theorem scE : FnScope ["self", "other"] ["self", "other"] (defScope (me 9)) := ⟨rfl, rfl, rfl, by decide +kernel, rfl, by decide +kernel, by decide +kernel⟩
theorem ok_eq {f C : Addr} {fd : FuncData} {k : Nat} (T : ThIn K mg C) (F : Fun K "__eq__" "Thing.__eq__" (me 9) f fd) (mi : mg "isinstance" = none) : FnOk P w K mg base CX0 (k + 1) f fd ["self", "other"] (spEq K C) := by
  refine F.ok scE (fun vs H Q E h => ?_) (fun cdv A outer s H vs Q E hr h => ?_)
  · obtain ⟨a, b, k, n, k', n', p, p', rfl, _⟩ := h
    rfl
  · obtain ⟨a, b, k, n, k', n', p, p', rfl, ⟨dx, fs, t, a1, a2, a3, a4, a5⟩, ⟨dy, gs, u, b1, b2, b3, b4, b5⟩, hp, hp', kk⟩ := h
    refine ⟨_, pss_one (ps_ret (pe_and (pe_callB call_isi (by rfl) mi (by decide +kernel) (pa_cons (pv 1) (pa_cons (pe_glob (v := .ref C) rfl T.m rfl) pa_nil)))
      (pe_and (pe_cmpR op_eq (pe_fld (pv 0) rfl) (pe_fld (pv 1) rfl) (by rfl)) (pe_and (pe_cmpR op_eq (pe_fld (pv 0) rfl) (pe_fld (pv 1) rfl) (by rfl))
        (pe_one (pe_cmpR (op_eqD hr.units) (pe_fld (pv 0) rfl) (pe_fld (pv 1) rfl) (by rfl))))))), ?_⟩
    have kc : PySem.W.kitOne K (.ref C) (.ref C) = some true := by unfold PySem.W.kitOne; rw [if_pos (by simp)]
    refine ⟨_, rfl, _, _, _, _, true, rfl, .own C, TyX.base (TyOf.ins b1 T.cls T.ca T.cn T.ct T.cm), kc, _, rfl, iteT ?_⟩
    refine ⟨_, rfl, a, C, dx, fs, _, rfl, a1, T.cls, T.nk, a2, _, rfl, b, C, dy, gs, _, rfl, b1, T.cls, T.nk, b2, rfl, _, rfl, ite2 (fun h => ?_) (fun h => ?_)⟩
    · have e1 : k = k' := V.str.inj (of_decide_eq_true h)
      refine ⟨_, rfl, a, C, dx, fs, _, rfl, a1, T.cls, T.nn, a3, _, rfl, b, C, dy, gs, _, rfl, b1, T.cls, T.nn, b3, rfl, _, rfl, ite2 (fun h2 => ?_) (fun h2 => ?_)⟩
      · have e2 : n = n' := V.str.inj (of_decide_eq_true h2)
        refine ⟨_, rfl, a, C, dx, fs, _, rfl, a1, T.cls, T.np, a4, _, rfl, b, C, dy, gs, _, rfl, b1, T.cls, T.np, b4, ?_⟩
        refine ⟨.tuple (p.map .str), .tuple (p'.map .str), .tup a5 (strs_dp p), .tup b5 (strs_dp p'), strs_shaped hp, strs_shaped hp', ?_⟩
        rw [eqv_strs]
        have : decide (k = k' ∧ n = n' ∧ p = p') = decide (p = p') := by simp [e1, e2]
        rw [this] at kk
        exact kk
      · have : decide (k = k' ∧ n = n' ∧ p = p') = false := decide_eq_false fun e => h2 (decide_eq_true (by rw [e.2.1]))
        rw [this] at kk
        exact kk
    · have : decide (k = k' ∧ n = n' ∧ p = p') = false := decide_eq_false fun e => h (decide_eq_true (by rw [e.1]))
      rw [this] at kk
      exact kk
def spStr (K : PySem.W.Frag) (C : Addr) : Sp := fun vs H Q _ => ∃ (a : Addr) (k n : Str) (p : List Str), vs = [.ref a] ∧ ThingAt K H C a k n p ∧ k.length ≤ 100 ∧ n.length ≤ 100 ∧ (∀ x ∈ p, x.length ≤ 100) ∧ p.length ≤ 100 ∧ ∀ H', Same H H' → Q (.str (Str.join " " (k :: n :: p))) H'
theorem sum_le {B : Nat} : ∀ xs : List Str, (∀ x ∈ xs, x.length ≤ B) → (xs.map (·.length)).sum ≤ B * xs.length
  | [], _ => by simp
  | x :: r, h => by
    have h1 := h x List.mem_cons_self
    have h2 := sum_le r fun y hy => h y (List.mem_cons_of_mem _ hy)
    simp only [List.map_cons, List.sum_cons, List.length_cons, Nat.mul_succ]
    omega
theorem scS2 : FnScope ["self"] ["self"] (defScope (me 10)) := ⟨rfl, rfl, rfl, by decide +kernel, rfl, by decide +kernel, by decide +kernel⟩
theorem ok_str {f C : Addr} {fd : FuncData} {k : Nat} (T : ThIn K mg C) (F : Fun K "__str__" "Thing.__str__" (me 10) f fd) : FnOk P w K mg base CX0 (k + 1) f fd ["self"] (spStr K C) := by
  refine F.ok scS2 (fun vs H Q E h => ?_) (fun cdv A outer s H vs Q E hr h => ?_)
  · obtain ⟨a, k, n, p, rfl, _⟩ := h
    rfl
  · obtain ⟨a, k, n, p, rfl, ⟨dx, fs, t, a1, a2, a3, a4, a5⟩, hk, hn, hp, hl, kk⟩ := h
    refine ⟨_, pss_one (ps_ret (pe_join pe_str (pe_lst (pa_cons (pe_fld (pv 0) rfl) (pa_cons (pe_fld (pv 0) rfl) (StX.pa_star (pe_fld (pv 0) rfl) pa_nil)))))), ?_⟩
    refine ⟨⟨_, rfl⟩, _, rfl, a, C, dx, fs, _, rfl, a1, T.cls, T.nk, a2, _, rfl, a, C, dx, fs, _, rfl, a1, T.cls, T.nn, a3, _, rfl, a, C, dx, fs, _, rfl, a1, T.cls, T.np, a4, t, _, rfl, .inl a5, ?_, fun r nr => ?_⟩
    · simp only [List.length_cons, List.length_append, List.length_map, List.length_nil]
      exact len1000 (by omega)
    · have e : (V.str k :: V.str n :: (p.map V.str ++ [])) = (k :: n :: p).map V.str := by rw [List.append_nil]; rfl
      rw [e]
      refine ⟨_, r, k :: n :: p, rfl, rfl, .inl (SqL.of upd_same), ?_, ?_⟩
      · have := sum_le (B := 100) (k :: n :: p) fun x hx => by
          rcases List.mem_cons.mp hx with rfl | hx
          · exact hk
          · rcases List.mem_cons.mp hx with rfl | hx
            · exact hn
            · exact hp x hx
        simp only [List.length_cons] at this ⊢
        have l1 : (Str.ofString " ").length = 1 := by decide +kernel
        rw [l1]
        have line : (20000 : Nat) ≤ sizeLine := by decide
        omega
      · rw [show Txt.join _ (k :: n :: p) = Str.join _ (k :: n :: p) from StrLaws.glued_eq_join _ _]
        exact kk _ (same_new nr)
end
/-! ### the law's own makers -/
/-- the promises of Thing's methods -/
structure Tdefs (P : Program) (w : World) (K : PySem.W.Frag) (mg : Str → Option Value) (base : Heap) (C : Addr) : Prop where
  one : ∀ m ∈ [("feed" : Str), "dice", "source", "flag", "slot"], ∃ p g, SMet K C m p g ∧ FnR P w K mg base CX0 5 g (spMk K C m)
  field : ∃ p g, SMet K C "field" p g ∧ FnR P w K mg base CX0 5 g (spFieldM K C)
  table : ∃ p g, SMet K C "table" p g ∧ FnR P w K mg base CX0 5 g (spTableM K C)
/-- a thing's data are good -/
structure Good (kind name : Str) (parts : List Str) : Prop where
  k : kind = "field" ∧ (∃ over, parts = [over]) ∨ kind ∈ [("feed" : Str), "dice", "source", "flag", "slot"] ∧ parts = [] ∨ kind = "table"
  n : IsWord name
  p : ∀ x ∈ parts, IsWord x
  d : parts.Nodup
  l : parts.length ≤ 4
def spLThing (K : PySem.W.Frag) (C : Addr) : Sp := fun vs H Q _ => ∃ (tt pt : Addr) (kind name : Str) (parts : List Str), vs = [.ref tt] ∧ SqT K H tt [.str kind, .str name, .ref pt] ∧ SqT K H pt (parts.map V.str) ∧ Good kind name parts ∧ kind ≠ "table" ∧
  ∀ a H', Same H H' → ThingAt K H' C a kind name parts → Q (.ref a) H'
def spLTable (K : PySem.W.Frag) (C : Addr) : Sp := fun vs H Q _ => ∃ (name : Str) (kt : Addr) (keys : List Str), vs = [.str name, .ref kt] ∧ SqL K H kt (keys.map V.str) ∧ IsWord name ∧ (∀ x ∈ keys, IsWord x) ∧ keys.Nodup ∧ keys.length ≤ 4 ∧
  ∀ a H', Same H H' → ThingAt K H' C a "table" name keys → Q (.ref a) H'
theorem dec_str (a b : Str) : decide (V.str a = V.str b) = decide (a = b) := by
  by_cases h : a = b
  · subst h; simp
  · rw [decide_eq_false h, decide_eq_false fun e => h (V.str.inj e)]
section
variable {P : Program} {w : World} {K : PySem.W.Frag} {mg : Str → Option Value} {base : Heap}
theorem scLT : FnScope ["thing", "kind", "name", "parts"] ["thing"] (defScope sThing) := ⟨rfl, rfl, rfl, by decide +kernel, rfl, by decide +kernel, by decide +kernel⟩
theorem ok_lthing {f C : Addr} {fd : FuncData} (T : ThIn K mg C) (D : Tdefs P w K mg base C) (F : Fun K "_law_thing" "_law_thing" sThing f fd) : FnOk P w K mg base CX0 6 f fd ["thing"] (spLThing K C) := by
  refine F.ok scLT (fun vs H Q E h => ?_) (fun cdv A outer s H vs Q E hr h => ?_)
  · obtain ⟨tt, pt, kind, name, parts, rfl, _⟩ := h
    rfl
  · obtain ⟨tt, pt, kind, name, parts, rfl, ht, hp, g, hne, kk⟩ := h
    obtain ⟨p1, g1, s1, r1⟩ := D.one "feed" (by simp)
    obtain ⟨p2, g2, s2, r2⟩ := D.one "dice" (by simp)
    obtain ⟨p3, g3, s3, r3⟩ := D.one "source" (by simp)
    obtain ⟨p4, g4, s4, r4⟩ := D.one "flag" (by simp)
    obtain ⟨p5, g5, s5, r5⟩ := D.one "slot" (by simp)
    obtain ⟨p6, g6, s6, r6⟩ := D.field
    refine ⟨_, pss_cons (ps_asg (pv 0) (pg_tup rfl (pgs_cons (pg_name (i := 1) scLT.nd rfl (.inl rfl)) (pgs_cons (pg_name (i := 2) scLT.nd rfl (.inl rfl)) (pgs_cons (pg_name (i := 3) scLT.nd rfl (.inl rfl)) pgs_nil)))))
      (pss_cons (ps_if (pt_cmpR op_eq (pv 1) pe_str (nomark _)) (pss_one (ps_ret (pe_smeth (pe_glob (v := .ref C) rfl T.m rfl) T.rd s1 r1 hr pass0 (pa_cons (pv 2) pa_nil)))) pss_nil)
      (pss_cons (ps_if (pt_cmpR op_eq (pv 1) pe_str (nomark _)) (pss_one (ps_ret (pe_smeth (pe_glob (v := .ref C) rfl T.m rfl) T.rd s2 r2 hr pass0 (pa_cons (pv 2) pa_nil)))) pss_nil)
      (pss_cons (ps_if (pt_cmpR op_eq (pv 1) pe_str (nomark _)) (pss_one (ps_ret (pe_smeth (pe_glob (v := .ref C) rfl T.m rfl) T.rd s3 r3 hr pass0 (pa_cons (pv 2) pa_nil)))) pss_nil)
      (pss_cons (ps_if (pt_cmpR op_eq (pv 1) pe_str (nomark _)) (pss_one (ps_ret (pe_smeth (pe_glob (v := .ref C) rfl T.m rfl) T.rd s4 r4 hr pass0 (pa_cons (pv 2) pa_nil)))) pss_nil)
      (pss_cons (ps_if (pt_cmpR op_eq (pv 1) pe_str (nomark _)) (pss_one (ps_ret (pe_smeth (pe_glob (v := .ref C) rfl T.m rfl) T.rd s5 r5 hr pass0 (pa_cons (pv 2) pa_nil)))) pss_nil)
      (pss_cons (ps_if (pt_cmpR op_eq (pv 1) pe_str (nomark _)) (pss_one (ps_ret (pe_smeth (pe_glob (v := .ref C) rfl T.m rfl) T.rd s6 r6 hr pass0 (pa_cons (pv 2) (pa_cons (pe_ix ix_tup (pv 3) pe_int (fun _ _ => rfl)) pa_nil))))) pss_nil)
      (pss_cons ps_never (pss_one ps_never)))))))), ?_⟩
    refine ⟨_, rfl, tt, _, rfl, ht, rfl, .str kind, _, rfl, .str name, _, rfl, .ref pt, _, rfl, rfl, ?_⟩
    have go : ∀ (m : Str), kind = m → m ∈ [("feed" : Str), "dice", "source", "flag", "slot"] → spMk K C m ([.str name] ++ []) H Q E0 := fun m e hm => by
      subst e
      have hp0 : parts = [] := by
        rcases g.k with ⟨e, _⟩ | ⟨_, e⟩ | e
        · subst e; exact absurd hm (by decide)
        · exact e
        · exact absurd e hne
      subst hp0
      exact ⟨name, rfl, g.n, kk⟩
    have step : ∀ {A B : Prop} (m : Str), (kind = m → A) → (kind ≠ m → B) → if decide (V.str kind = V.str m) = true then A else B := fun {A B} m h1 h2 => by
      rw [dec_str]
      by_cases e : kind = m
      · rw [decide_eq_true e]; exact iteT (h1 e)
      · rw [decide_eq_false e]; exact iteF (h2 e)
    refine ⟨_, rfl, rfl, _, rfl, step "feed" (fun e => ⟨rfl, _, rfl, go _ e (by simp)⟩) fun n1 => ?_⟩
    refine ⟨_, rfl, rfl, _, rfl, step "dice" (fun e => ⟨rfl, _, rfl, go _ e (by simp)⟩) fun n2 => ?_⟩
    refine ⟨_, rfl, rfl, _, rfl, step "source" (fun e => ⟨rfl, _, rfl, go _ e (by simp)⟩) fun n3 => ?_⟩
    refine ⟨_, rfl, rfl, _, rfl, step "flag" (fun e => ⟨rfl, _, rfl, go _ e (by simp)⟩) fun n4 => ?_⟩
    refine ⟨_, rfl, rfl, _, rfl, step "slot" (fun e => ⟨rfl, _, rfl, go _ e (by simp)⟩) fun n5 => ?_⟩
    refine ⟨_, rfl, rfl, _, rfl, step "field" (fun e => ?_) fun n6 => ?_⟩
    · rcases g.k with ⟨_, over, rfl⟩ | ⟨h, _⟩ | h
      · subst e
        exact ⟨rfl, _, rfl, _, rfl, pt, _, 0, _, rfl, rfl, hp, atI_nat (j := 0) rfl, name, over, rfl, g.n, g.p over List.mem_cons_self, kk⟩
      · subst e; exact absurd h (by decide)
      · exact absurd h hne
    · rcases g.k with ⟨h, _⟩ | ⟨h, _⟩ | h
      · exact absurd h n6
      · simp [n1, n2, n3, n4, n5] at h
      · exact absurd h hne
theorem scLTb : FnScope ["name", "keys"] ["name", "keys"] (defScope sTable) := ⟨rfl, rfl, rfl, by decide +kernel, rfl, by decide +kernel, by decide +kernel⟩
theorem ok_ltable {f C : Addr} {fd : FuncData} (T : ThIn K mg C) (D : Tdefs P w K mg base C) (F : Fun K "_law_table" "_law_table" sTable f fd) (ml : mg "len" = none) : FnOk P w K mg base CX0 6 f fd ["name", "keys"] (spLTable K C) := by
  refine F.ok scLTb (fun vs H Q E h => ?_) (fun cdv A outer s H vs Q E hr h => ?_)
  · obtain ⟨name, kt, keys, rfl, _⟩ := h
    rfl
  · obtain ⟨name, kt, keys, rfl, ht, hn, hp, hd, hl, kk⟩ := h
    obtain ⟨p1, g1, s1, r1⟩ := D.table
    refine ⟨_, pss_cons (ps_if (pt_cmpR op_eq (pe_callB call_len_seq (by rfl) ml PySem.boot_len (pa_cons (pv 1) pa_nil)) pe_int (nomark _)) (pss_one (ps_ret (pe_smeth (pe_glob (v := .ref C) rfl T.m rfl) T.rd s1 r1 hr pass0 (pa_cons (pv 0) pa_nil)))) pss_nil)
      (pss_cons (ps_if (pt_cmpR op_eq (pe_callB call_len_seq (by rfl) ml PySem.boot_len (pa_cons (pv 1) pa_nil)) pe_int (nomark _)) (pss_one (ps_ret (pe_smeth (pe_glob (v := .ref C) rfl T.m rfl) T.rd s1 r1 hr pass0 (pa_cons (pv 0) (pa_cons (pe_ix ix_list (pv 1) pe_int (fun _ _ => rfl)) pa_nil))))) pss_nil)
      (pss_cons (ps_if (pt_cmpR op_eq (pe_callB call_len_seq (by rfl) ml PySem.boot_len (pa_cons (pv 1) pa_nil)) pe_int (nomark _)) (pss_one (ps_ret (pe_smeth (pe_glob (v := .ref C) rfl T.m rfl) T.rd s1 r1 hr pass0 (pa_cons (pv 0) (pa_cons (pe_ix ix_list (pv 1) pe_int (fun _ _ => rfl)) (pa_cons (pe_ix ix_list (pv 1) pe_int (fun _ _ => rfl)) pa_nil)))))) pss_nil)
      (pss_cons (ps_if (pt_cmpR op_eq (pe_callB call_len_seq (by rfl) ml PySem.boot_len (pa_cons (pv 1) pa_nil)) pe_int (nomark _)) (pss_one (ps_ret (pe_smeth (pe_glob (v := .ref C) rfl T.m rfl) T.rd s1 r1 hr pass0 (pa_cons (pv 0) (pa_cons (pe_ix ix_list (pv 1) pe_int (fun _ _ => rfl)) (pa_cons (pe_ix ix_list (pv 1) pe_int (fun _ _ => rfl)) (pa_cons (pe_ix ix_list (pv 1) pe_int (fun _ _ => rfl)) pa_nil))))))) pss_nil)
      (pss_one (ps_ret (pe_smeth (pe_glob (v := .ref C) rfl T.m rfl) T.rd s1 r1 hr pass0 (pa_cons (pv 0) (pa_cons (pe_ix ix_list (pv 1) pe_int (fun _ _ => rfl)) (pa_cons (pe_ix ix_list (pv 1) pe_int (fun _ _ => rfl)) (pa_cons (pe_ix ix_list (pv 1) pe_int (fun _ _ => rfl)) (pa_cons (pe_ix ix_list (pv 1) pe_int (fun _ _ => rfl)) pa_nil))))))))))), ?_⟩
    match keys, hl, ht, hp, hd, kk with
    | [], _, ht, hp, hd, kk =>
      exact ⟨_, rfl, kt, _, rfl, .inl ht, rfl, _, rfl, iteT ⟨rfl, _, rfl, name, [], rfl, hn, hp, hd, by simp, kk⟩⟩
    | [x], _, ht, hp, hd, kk =>
      refine ⟨_, rfl, kt, _, rfl, .inl ht, rfl, _, rfl, iteF ?_⟩
      exact ⟨_, rfl, kt, _, rfl, .inl ht, rfl, _, rfl, iteT ⟨rfl, _, rfl, _, rfl, kt, _, 0, _, rfl, rfl, ht, atI_nat (j := 0) rfl, name, [x], rfl, hn, hp, hd, by simp, kk⟩⟩
    | [x, y], _, ht, hp, hd, kk =>
      refine ⟨_, rfl, kt, _, rfl, .inl ht, rfl, _, rfl, iteF ?_⟩
      refine ⟨_, rfl, kt, _, rfl, .inl ht, rfl, _, rfl, iteF ?_⟩
      exact ⟨_, rfl, kt, _, rfl, .inl ht, rfl, _, rfl, iteT ⟨rfl, _, rfl, _, rfl, kt, _, 0, _, rfl, rfl, ht, atI_nat (j := 0) rfl, _, rfl, kt, _, 1, _, rfl, rfl, ht, atI_nat (j := 1) rfl, name, [x, y], rfl, hn, hp, hd, by simp, kk⟩⟩
    | [x, y, z], _, ht, hp, hd, kk =>
      refine ⟨_, rfl, kt, _, rfl, .inl ht, rfl, _, rfl, iteF ?_⟩
      refine ⟨_, rfl, kt, _, rfl, .inl ht, rfl, _, rfl, iteF ?_⟩
      refine ⟨_, rfl, kt, _, rfl, .inl ht, rfl, _, rfl, iteF ?_⟩
      exact ⟨_, rfl, kt, _, rfl, .inl ht, rfl, _, rfl, iteT ⟨rfl, _, rfl, _, rfl, kt, _, 0, _, rfl, rfl, ht, atI_nat (j := 0) rfl, _, rfl, kt, _, 1, _, rfl, rfl, ht, atI_nat (j := 1) rfl, _, rfl, kt, _, 2, _, rfl, rfl, ht, atI_nat (j := 2) rfl, name, [x, y, z], rfl, hn, hp, hd, by simp, kk⟩⟩
    | [x, y, z, u], _, ht, hp, hd, kk =>
      refine ⟨_, rfl, kt, _, rfl, .inl ht, rfl, _, rfl, iteF ?_⟩
      refine ⟨_, rfl, kt, _, rfl, .inl ht, rfl, _, rfl, iteF ?_⟩
      refine ⟨_, rfl, kt, _, rfl, .inl ht, rfl, _, rfl, iteF ?_⟩
      refine ⟨_, rfl, kt, _, rfl, .inl ht, rfl, _, rfl, iteF ?_⟩
      exact ⟨rfl, _, rfl, _, rfl, kt, _, 0, _, rfl, rfl, ht, atI_nat (j := 0) rfl, _, rfl, kt, _, 1, _, rfl, rfl, ht, atI_nat (j := 1) rfl, _, rfl, kt, _, 2, _, rfl, rfl, ht, atI_nat (j := 2) rfl, _, rfl, kt, _, 3, _, rfl, rfl, ht, atI_nat (j := 3) rfl, name, [x, y, z, u], rfl, hn, hp, hd, by simp, kk⟩
    | _ :: _ :: _ :: _ :: _ :: _, hl, _, _, _, _ => exact absurd hl (by simp)
end
/-! ### lines of things -/
theorem cut_at : ∀ {a b s t : List Nat}, 32 ∉ a → 32 ∉ b → a ++ 32 :: s = b ++ 32 :: t → a = b ∧ s = t
  | [], [], _, _, _, _, h => ⟨rfl, (List.cons.inj h).2⟩
  | [], y :: b, _, _, _, hb, h => absurd (List.cons.inj h).1 fun e => hb (by rw [e]; exact List.mem_cons_self)
  | x :: a, [], _, _, ha, _, h => absurd (List.cons.inj h).1 fun e => ha (by rw [← e]; exact List.mem_cons_self)
  | x :: a, y :: b, s, t, ha, hb, h => by
    obtain ⟨e1, e2⟩ := List.cons.inj h
    obtain ⟨e3, e4⟩ := cut_at (fun m => ha (List.mem_cons_of_mem _ m)) (fun m => hb (List.mem_cons_of_mem _ m)) e2
    exact ⟨by rw [e1, e3], e4⟩
theorem word_cps {x : Str} (h : IsWord x) : 32 ∉ x.cps.toList := fun m => by have := (h.2.2 32 m).1; omega
theorem str_ext {x y : Str} (h : x.cps.toList = y.cps.toList) : x = y := by
  obtain ⟨a⟩ := x
  obtain ⟨b⟩ := y
  congr 1
  exact Array.toList_inj.mp h
theorem join_cps (x y : Str) (r : List Str) : (Str.join " " (x :: y :: r)).cps.toList = x.cps.toList ++ 32 :: (Str.join " " (y :: r)).cps.toList := by
  have e : Str.join " " (x :: y :: r) = x ++ (" " : Str) ++ Str.join " " (y :: r) := rfl
  have e1 : ∀ a b : Str, (a ++ b).cps.toList = a.cps.toList ++ b.cps.toList := fun a b => by
    show (a.cps ++ b.cps).toList = _
    simp
  rw [e, e1, e1]
  have e2 : (Str.ofString " ").cps.toList = [32] := by decide +kernel
  rw [e2, List.append_assoc]
  rfl
theorem join_inj : ∀ xs ys : List Str, xs ≠ [] → ys ≠ [] → (∀ x ∈ xs, IsWord x) → (∀ y ∈ ys, IsWord y) → Str.join " " xs = Str.join " " ys → xs = ys
  | [], _, h, _, _, _, _ => absurd rfl h
  | _ :: _, [], _, h, _, _, _ => absurd rfl h
  | [x], [y], _, _, _, _, h => by
    have : x = y := h
    rw [this]
  | [x], y :: z :: r, _, _, hx, _, h => by
    have e := congrArg (fun s : Str => s.cps.toList) h
    have e : x.cps.toList = (Str.join " " (y :: z :: r)).cps.toList := e
    rw [join_cps] at e
    exact absurd (by rw [e]; simp) (word_cps (hx x List.mem_cons_self))
  | x :: z :: r, [y], _, _, _, hy, h => by
    have e := congrArg (fun s : Str => s.cps.toList) h
    have e : (Str.join " " (x :: z :: r)).cps.toList = y.cps.toList := e
    rw [join_cps] at e
    exact absurd (by rw [← e]; simp) (word_cps (hy y List.mem_cons_self))
  | x :: z :: r, y :: u :: q, _, _, hx, hy, h => by
    have e := congrArg (fun s : Str => s.cps.toList) h
    have e : (Str.join " " (x :: z :: r)).cps.toList = (Str.join " " (y :: u :: q)).cps.toList := e
    rw [join_cps, join_cps] at e
    obtain ⟨e1, e2⟩ := cut_at (word_cps (hx x List.mem_cons_self)) (word_cps (hy y List.mem_cons_self)) e
    rw [str_ext e1, join_inj (z :: r) (u :: q) (by simp) (by simp) (fun a m => hx a (List.mem_cons_of_mem _ m)) (fun a m => hy a (List.mem_cons_of_mem _ m)) (str_ext e2)]
/-- a row: kind, name, parts -/
structure Rw where
  (k n : Str)
  p : List Str
def Rw.line (r : Rw) : Str := Str.join " " (r.k :: r.n :: r.p)
structure Rw.ok (r : Rw) : Prop where
  k : IsWord r.k
  n : IsWord r.n
  p : ∀ x ∈ r.p, IsWord x
  l : r.p.length ≤ 4
theorem line_inj {r r' : Rw} (h : r.ok) (h' : r'.ok) : r.line = r'.line ↔ (r.k = r'.k ∧ r.n = r'.n ∧ r.p = r'.p) := by
  constructor
  · intro e
    have := join_inj (r.k :: r.n :: r.p) (r'.k :: r'.n :: r'.p) (by simp) (by simp) (fun x hx => by
      rcases List.mem_cons.mp hx with rfl | hx
      · exact h.k
      · rcases List.mem_cons.mp hx with rfl | hx
        · exact h.n
        · exact h.p x hx) (fun x hx => by
      rcases List.mem_cons.mp hx with rfl | hx
      · exact h'.k
      · rcases List.mem_cons.mp hx with rfl | hx
        · exact h'.n
        · exact h'.p x hx) e
    obtain ⟨e1, e2⟩ := List.cons.inj this
    obtain ⟨e2, e3⟩ := List.cons.inj e2
    exact ⟨e1, e2, e3⟩
  · rintro ⟨e1, e2, e3⟩
    unfold Rw.line
    rw [e1, e2, e3]
theorem is_word {z : Str} (h : (decide (1 ≤ z.length) && decide (z.length ≤ 8) && z.cps.toList.all fun c => decide (97 ≤ c ∧ c ≤ 122)) = true) : IsWord z := by
  obtain ⟨h12, h3⟩ := Bool.and_eq_true_iff.mp h
  obtain ⟨h1, h2⟩ := Bool.and_eq_true_iff.mp h12
  exact ⟨of_decide_eq_true h1, of_decide_eq_true h2, fun c hc => of_decide_eq_true (List.all_eq_true.mp h3 c hc)⟩
theorem seven_at (d : Int) (h0 : 0 ≤ d) (h1 : d < 7) : ∃ s, atI [V.str "table", .str "feed", .str "dice", .str "source", .str "field", .str "flag", .str "slot"] d = some (.str s) ∧ IsWord s ∧ (s = "table" ∨ s = "field" ∨ s ∈ [("feed" : Str), "dice", "source", "flag", "slot"]) := by
  obtain rfl | rfl | rfl | rfl | rfl | rfl | rfl : d = 0 ∨ d = 1 ∨ d = 2 ∨ d = 3 ∨ d = 4 ∨ d = 5 ∨ d = 6 := by omega
  · exact ⟨"table", atI_nat (j := 0) rfl, is_word (by decide +kernel), by simp⟩
  · exact ⟨"feed", atI_nat (j := 1) rfl, is_word (by decide +kernel), by simp⟩
  · exact ⟨"dice", atI_nat (j := 2) rfl, is_word (by decide +kernel), by simp⟩
  · exact ⟨"source", atI_nat (j := 3) rfl, is_word (by decide +kernel), by simp⟩
  · exact ⟨"field", atI_nat (j := 4) rfl, is_word (by decide +kernel), by simp⟩
  · exact ⟨"flag", atI_nat (j := 5) rfl, is_word (by decide +kernel), by simp⟩
  · exact ⟨"slot", atI_nat (j := 6) rfl, is_word (by decide +kernel), by simp⟩
/-! ### what the loops keep -/
def AllLst (l : List Addr) (H : Hp) : Prop := ∀ b ∈ l, ∃ xs, H b = some (.lst xs)
theorem ThingAt.mask {K : PySem.W.Frag} {H : Hp} {C a : Addr} {kind name : Str} {parts : List Str} {l : List Addr} (al : AllLst l H) (h : ThingAt K H C a kind name parts) : ThingAt K (Qp.mask l H) C a kind name parts := by
  obtain ⟨dx, fs, t, h1, h2, h3, h4, h5⟩ := h
  have no : ∀ b o, H b = some o → (∀ xs, o ≠ .lst xs) → b ∉ l := fun b o e n m => by
    obtain ⟨xs, e2⟩ := al b m
    rw [e] at e2
    exact n xs (Option.some.inj e2)
  refine ⟨dx, fs, t, by rw [mask_out (no a _ h1 fun xs z => nomatch z)]; exact h1, h2, h3, h4, ?_⟩
  rcases h5 with (h | ⟨o, h⟩) | h
  · exact .inl (.inl (by rw [mask_out (no t _ h fun xs z => nomatch z)]; exact h))
  · exact .inl (.inr ⟨o, by rw [mask_out (no t _ h fun xs z => nomatch z)]; exact h⟩)
  · exact .inr h
/-- a row of the list: a thing and its line -/
def RecAt (K : PySem.W.Frag) (H : Hp) (C t : Addr) (r : Rw) : Prop := ∃ a, H t = some (.tup [.ref a, .str r.line]) ∧ ThingAt K H C a r.k r.n r.p
theorem RecAt.same {K : PySem.W.Frag} {H H' : Hp} {C t : Addr} {r : Rw} (s : Same H H') (h : RecAt K H C t r) : RecAt K H' C t r := by
  obtain ⟨a, h1, h2⟩ := h
  exact ⟨a, s _ _ h1, h2.same s⟩
structure St3 (K : PySem.W.Frag) (H : Hp) (C p q M N : Addr) (n : Nat) (ts : List Addr) (rs : List Rw) (ns : List Str) : Prop where
  P : PoolAt H p q n
  hN : H N = some (.lst (ns.map V.str))
  hM : H M = some (.lst (ts.map V.ref))
  pM : p ≠ M
  pN : p ≠ N
  qM : q ≠ M
  qN : q ≠ N
  MN : M ≠ N
  wn : ∀ x ∈ ns, IsWord x
  nn : ns ≠ []
  ln : ts.length = rs.length
  rc : ∀ (j : Nat) (r : Rw) (t : Addr), rs[j]? = some r → ts[j]? = some t → RecAt K (mask [p, q, M, N] H) C t r
  ok : ∀ r ∈ rs, r.ok
section
variable {K : PySem.W.Frag} {H H' : Hp} {C p q M N : Addr} {n n' : Nat} {ts : List Addr} {rs : List Rw} {ns : List Str}
theorem St3.keeps (S : St3 K H C p q M N n ts rs ns) (k : Keeps p q H H') (P : PoolAt H' p q n') : St3 K H' C p q M N n' ts rs ns :=
  ⟨P, k _ _ S.pN.symm S.qN.symm S.hN, k _ _ S.pM.symm S.qM.symm S.hM, S.pM, S.pN, S.qM, S.qN, S.MN, S.wn, S.nn, S.ln, fun j r t h1 h2 => (S.rc j r t h1 h2).same (Keeps.maskL (by simp) (by simp) k), S.ok⟩
theorem St3.same (S : St3 K H C p q M N n ts rs ns) (s : Same H H') : St3 K H' C p q M N n ts rs ns := S.keeps (Keeps.of_same s) (S.P.same s)
theorem St3.all (S : St3 K H C p q M N n ts rs ns) : AllLst [p, q, M, N] H := by
  obtain ⟨_, cs, b, c, e1, e2, _⟩ := S.P
  intro x hx
  simp only [List.mem_cons, List.not_mem_nil, or_false] at hx
  rcases hx with rfl | rfl | rfl | rfl
  · exact ⟨_, e1⟩
  · exact ⟨_, e2⟩
  · exact ⟨_, S.hM⟩
  · exact ⟨_, S.hN⟩
theorem St3.alive (S : St3 K H C p q M N n ts rs ns) : Alive [p, q, M, N] H := fun x hx => let ⟨_, e⟩ := S.all x hx; ⟨_, e⟩
theorem PoolAt.at {a : Addr} {o : HO} (P : PoolAt H p q n) (h1 : p ≠ a) (h2 : q ≠ a) : PoolAt (upd H a o) p q n := by
  obtain ⟨npq, cs, b, c0, e1, e2, r⟩ := P
  exact ⟨npq, cs, b, c0, by rw [upd_ne h1]; exact e1, by rw [upd_ne h2]; exact e2, r⟩
theorem St3.name (S : St3 K H C p q M N n ts rs ns) {x : Str} (hx : IsWord x) : St3 K (upd H N (.lst (ns.map V.str ++ [.str x]))) C p q M N n ts rs (ns ++ [x]) :=
  ⟨S.P.at S.pN S.qN, by rw [upd_same, List.map_append]; rfl, by rw [upd_ne S.MN]; exact S.hM, S.pM, S.pN, S.qM, S.qN, S.MN, fun y hy => by
    rcases List.mem_append.mp hy with hy | hy
    · exact S.wn y hy
    · rw [List.mem_singleton.mp hy]; exact hx, by simp, S.ln, fun j r t h1 h2 => (S.rc j r t h1 h2).same (mask_at (by simp)), S.ok⟩
theorem St3.add (S : St3 K H C p q M N n ts rs ns) {t : Addr} {r : Rw} (hr : RecAt K (mask [p, q, M, N] H) C t r) (ok : r.ok) : St3 K (upd H M (.lst (ts.map V.ref ++ [.ref t]))) C p q M N n (ts ++ [t]) (rs ++ [r]) ns := by
  refine ⟨S.P.at S.pM S.qM, by rw [upd_ne S.MN.symm]; exact S.hN, by rw [upd_same, List.map_append]; rfl, S.pM, S.pN, S.qM, S.qN, S.MN, S.wn, S.nn, by rw [List.length_append, List.length_append, S.ln]; rfl, fun j r' t' h1 h2 => ?_, fun r' hr' => ?_⟩
  · by_cases hj : j < rs.length
    · rw [List.getElem?_append_left hj] at h1
      rw [List.getElem?_append_left (by rw [S.ln]; exact hj)] at h2
      exact (S.rc j r' t' h1 h2).same (mask_at (by simp))
    · have hj' : rs.length ≤ j := by omega
      rw [List.getElem?_append_right hj'] at h1
      rw [List.getElem?_append_right (by rw [S.ln]; exact hj'), S.ln] at h2
      have z : j - rs.length = 0 := by
        have := (List.getElem?_eq_some_iff.mp h1).1
        simp at this
        omega
      rw [z] at h1 h2
      obtain rfl := Option.some.inj h1
      obtain rfl := Option.some.inj h2
      exact hr.same (mask_at (by simp))
  · rcases List.mem_append.mp hr' with h | h
    · exact S.ok r' h
    · rw [List.mem_singleton.mp h]; exact ok
theorem St3.pick (S : St3 K H C p q M N n ts rs ns) {d : Int} (h0 : 0 ≤ d) (h1 : d < ((ns.map V.str).length : Int)) : ∃ z, IsWord z ∧ atI (ns.map V.str) d = some (.str z) := by
  obtain ⟨k, rfl⟩ : ∃ k : Nat, d = (k : Int) := ⟨d.toNat, by omega⟩
  rw [List.length_map] at h1
  have hk : k < ns.length := by omega
  refine ⟨ns[k], S.wn _ (List.getElem_mem hk), atI_nat ?_⟩
  rw [List.getElem?_map, List.getElem?_eq_getElem hk]
  rfl
theorem RecAt.nl {H H' : Hp} {t : Addr} {r : Rw} (s : ∀ b o, H b = some o → (∀ xs, o ≠ .lst xs) → H' b = some o) (h : RecAt K H C t r) : RecAt K H' C t r := by
  obtain ⟨a, h1, dx, fs, u, g1, g2, g3, g4, g5⟩ := h
  refine ⟨a, s _ _ h1 (fun xs z => nomatch z), dx, fs, u, s _ _ g1 (fun xs z => nomatch z), g2, g3, g4, ?_⟩
  rcases g5 with (h | ⟨o, h⟩) | h
  · exact .inl (.inl (s _ _ h (fun xs z => nomatch z)))
  · exact .inl (.inr ⟨o, s _ _ h (fun xs z => nomatch z)⟩)
  · exact .inr h
theorem St3.put (S : St3 K H C p q M N n ts rs ns) {a : Addr} {xs ys : List V} (ha : H a = some (.lst xs)) (hl : a ∉ [p, q, M, N]) : St3 K (upd H a (.lst ys)) C p q M N n ts rs ns := by
  have h : ∀ x ∈ [p, q, M, N], x ≠ a := fun x hx e => hl (by rw [← e]; exact hx)
  refine ⟨S.P.at (h p (by simp)) (h q (by simp)), by rw [upd_ne (h N (by simp))]; exact S.hN, by rw [upd_ne (h M (by simp))]; exact S.hM, S.pM, S.pN, S.qM, S.qN, S.MN, S.wn, S.nn, S.ln, fun j r t h1 h2 => (S.rc j r t h1 h2).nl fun b o e nl => ?_, S.ok⟩
  by_cases hb : b ∈ [p, q, M, N]
  · rw [mask_in hb] at e; cases e
  · rw [mask_out hb] at e ⊢
    by_cases hba : b = a
    · subst hba
      rw [ha] at e
      exact absurd (Option.some.inj e).symm (nl xs)
    · rw [upd_ne hba]; exact e
end
/-! ### the law -/
def spLaw (K : PySem.W.Frag) : Sp := fun vs H Q _ => ∃ (a : Addr) (ns : List Int), vs = [.ref a] ∧ SqL K H a (ns.map V.int) ∧ ns.length ≤ 63 ∧ ∀ H', Q (.bl true) H'
section
variable {P : Program} {w : World} {K : PySem.W.Frag} {mg : Str → Option Value} {base : Heap}
theorem scL : FnScope ["script", "pool", "made", "names", "turn", "kind", "name", "parts", "k", "key", "thing", "line", "other", "heard"] ["script"] (defScope sLaw) := ⟨rfl, rfl, rfl, by decide +kernel, rfl, by decide +kernel, by decide +kernel⟩
/-- the defs that the law calls -/
structure Defs (P : Program) (w : World) (K : PySem.W.Frag) (mg : Str → Option Value) (base : Heap) (C : Addr) where
  (fP fD fW fS fT fU fE fG : Addr)
  (dP dD dW dS dT dU : FuncData)
  gP : FnOk P w K mg base CX0 1 fP dP ["script"] (spPool K)
  gD : FnOk P w K mg base CX0 1 fD dD ["pool", "many"] spDraw
  gW : FnOk P w K mg base CX0 2 fW dW ["pool"] spWord
  gS : FnOk P w K mg base CX0 2 fS dS ["actual", "due"] (spSame K 2)
  gT : FnOk P w K mg base CX0 6 fT dT ["thing"] (spLThing K C)
  gU : FnOk P w K mg base CX0 6 fU dU ["name", "keys"] (spLTable K C)
  gE : FnR P w K mg base CX0 1 fE (spEq K C)
  gG : FnR P w K mg base CX0 1 fG (spStr K C)
  bP : Binds K dP ["script"] []
  bD : Binds K dD ["pool", "many"] []
  bW : Binds K dW ["pool"] []
  bS : Binds K dS ["actual", "due"] []
  bT : Binds K dT ["thing"] []
  bU : Binds K dU ["name", "keys"] []
  mP : mg "_law_pool" = some (.ref fP)
  mD : mg "_law_draw" = some (.ref fD)
  mW : mg "_law_word" = some (.ref fW)
  mS : mg "_law_same" = some (.ref fS)
  mT : mg "_law_thing" = some (.ref fT)
  mU : mg "_law_table" = some (.ref fU)
  kP : PySem.W.keepIn K (.ref fP) = true
  kD : PySem.W.keepIn K (.ref fD) = true
  kW : PySem.W.keepIn K (.ref fW) = true
  kS : PySem.W.keepIn K (.ref fS) = true
  kT : PySem.W.keepIn K (.ref fT) = true
  kU : PySem.W.keepIn K (.ref fU) = true
  eq : PySem.W.findIn K (.ref C) "__eq__" = some (some (.ref fE))
  eqf : PySem.W.isFn K (.ref fE) = true
  st : PySem.W.findIn K (.ref C) "__str__" = some (some (.ref fG))
  stf : PySem.W.isFn K (.ref fG) = true
theorem ok_law {f C : Addr} {fd : FuncData} (F : Fun K "law" "law" sLaw f fd) (G : Defs P w K mg base C) (B : Bts mg) : FnOk P w K mg base CX0 7 f fd ["script"] (spLaw K) := by
  refine F.ok scL (fun vs H Q E h => ?_) (fun cdv A outer s H vs Q E hr h => ?_)
  · obtain ⟨a, ns, rfl, _⟩ := h
    rfl
  · obtain ⟨a, ns, rfl, hS, hlen, kk⟩ := h
    have hr1 : Room 1 _ := hr.mono (by decide)
    have hr2 : Room 2 _ := hr.mono (by decide)
    have hr3 : Room 3 _ := hr.mono (by decide)
    refine ⟨_, pss_cons (ps_set (i := 1) scL.nd rfl (.inl rfl) (pe_call G.gP hr1 (by rfl) G.mP G.kP G.bP .nil pass0 (pa_cons (pv 0) pa_nil)))
      (pss_cons (ps_set (i := 2) scL.nd rfl (.inl rfl) (pe_lst pa_nil))
      (pss_cons (ps_set (i := 3) scL.nd rfl (.inl rfl) (pe_lst (pa_cons pe_str pa_nil)))
      (pss_cons (ps_for PassesOwn.never rfl (pi_range1 rfl B.range (pa_cons pe_int pa_nil)) (pg_name (i := 4) scL.nd rfl (.inl rfl))
        (pss_cons (ps_set (i := 5) scL.nd rfl (.inl rfl) (pe_ix ix_list (pe_lst (pa_cons pe_str (pa_cons pe_str (pa_cons pe_str (pa_cons pe_str (pa_cons pe_str (pa_cons pe_str (pa_cons pe_str pa_nil)))))))) (pe_call G.gD hr1 (by rfl) G.mD G.kD G.bD .nil pass0 (pa_cons (pv 1) (pa_cons pe_int pa_nil))) (fun _ _ => rfl)))
        (pss_cons (ps_set (i := 6) scL.nd rfl (.inl rfl) (pe_call G.gW hr2 (by rfl) G.mW G.kW G.bW .nil pass0 (pa_cons (pv 1) pa_nil)))
        (C8.pss_cut (ps_if (pt_cmpR op_eq (pe_call G.gD hr1 (by rfl) G.mD G.kD G.bD .nil pass0 (pa_cons (pv 1) (pa_cons pe_int pa_nil))) pe_int (nomark _))
            (pss_one (ps_set (i := 6) scL.nd rfl (.inl rfl) (pe_ix ix_list (pv 3) (pe_call G.gD hr1 (by rfl) G.mD G.kD G.bD .nil pass0 (pa_cons (pv 1) (pa_cons (pe_callB call_len_seq (by rfl) B.len PySem.boot_len (pa_cons (pv 3) pa_nil)) pa_nil))) (fun _ _ => rfl)))) pss_nil)
        (pss_cons (ps_expr (pe_bm PySem.F.plainAttrs_list PySem.F.slot_list_append PySem.F.type_list_append mt_append (pv 3) (pa_cons (pv 6) pa_nil)))
        (pss_cons (ps_set (i := 7) scL.nd rfl (.inl rfl) (pe_lst pa_nil))
        (C8.pss_cut (ps_if (pt_cmpR op_eq (pv 5) pe_str (nomark _))
            (pss_cons (ps_for PassesOwn.never rfl (pi_range1 rfl B.range (pa_cons (pe_call G.gD hr1 (by rfl) G.mD G.kD G.bD .nil pass0 (pa_cons (pv 1) (pa_cons pe_int pa_nil))) pa_nil)) (pg_name (i := 8) scL.nd rfl (.inl rfl))
                (C8.pss_cut (ps_set (i := 9) scL.nd rfl (.inl rfl) (pe_ifExp (pt_cmpR op_eq (pe_call G.gD hr1 (by rfl) G.mD G.kD G.bD .nil pass0 (pa_cons (pv 1) (pa_cons pe_int pa_nil))) pe_int (nomark _))
                    (pe_ix ix_list (pv 3) (pe_call G.gD hr1 (by rfl) G.mD G.kD G.bD .nil pass0 (pa_cons (pv 1) (pa_cons (pe_callB call_len_seq (by rfl) B.len PySem.boot_len (pa_cons (pv 3) pa_nil)) pa_nil))) (fun _ _ => rfl))
                    (pe_call G.gW hr2 (by rfl) G.mW G.kW G.bW .nil pass0 (pa_cons (pv 1) pa_nil))))
                (pss_one (ps_if (pt_cmpR op_notIn_seq (pv 9) (pv 7) (by rfl)) (pss_one (ps_expr (pe_bm PySem.F.plainAttrs_list PySem.F.slot_list_append PySem.F.type_list_append mt_append (pv 7) (pa_cons (pv 9) pa_nil)))) pss_nil))))
            (pss_one (ps_set (i := 10) scL.nd rfl (.inl rfl) (pe_call G.gU hr (by rfl) G.mU G.kU G.bU .nil pass0 (pa_cons (pv 6) (pa_cons (pv 7) pa_nil))))))
            (C8.pss_cut (ps_if (pt_cmpR op_eq (pv 5) pe_str (nomark _))
                (pss_one (ps_set (i := 7) scL.nd rfl (.inl rfl) (pe_lst (pa_cons (pe_ix ix_list (pv 3) (pe_call G.gD hr1 (by rfl) G.mD G.kD G.bD .nil pass0 (pa_cons (pv 1) (pa_cons (pe_callB call_len_seq (by rfl) B.len PySem.boot_len (pa_cons (pv 3) pa_nil)) pa_nil))) (fun _ _ => rfl)) pa_nil)))) pss_nil)
            (pss_one (ps_set (i := 10) scL.nd rfl (.inl rfl) (pe_call G.gT hr (by rfl) G.mT G.kT G.bT .nil pass0 (pa_cons (pe_tup (pa_cons (pv 5) (pa_cons (pv 6) (pa_cons (pe_callTy call_tuple_of (by rfl) B.tuple (by decide +kernel) (pa_cons (pv 7) pa_nil)) pa_nil)))) pa_nil))))))
        (pss_one (ps_expr (pe_bm PySem.F.plainAttrs_list PySem.F.slot_list_append PySem.F.type_list_append mt_append (pv 2) (pa_cons (pe_tup (pa_cons (pv 10) (pa_cons (pe_join pe_str (pe_op op_cat (pe_lst (pa_cons (pv 5) (pa_cons (pv 6) pa_nil))) (pv 7))) pa_nil))) pa_nil)))))))))))
      (pss_cons (ps_for PassesOwn.never rfl (pi_list (pv 2)) (pg_tup rfl (pgs_cons (pg_name (i := 10) scL.nd rfl (.inl rfl)) (pgs_cons (pg_name (i := 11) scL.nd rfl (.inl rfl)) pgs_nil)))
        (pss_cons (ps_if (pt_not (pt_val (pe_call G.gS hr2 (by rfl) G.mS G.kS G.bS .nil pass0 (pa_cons (pe_callTy (call_strOwn G.st G.stf G.gG hr3 pass0) (by rfl) B.str (by decide +kernel) (pa_cons (pv 10) pa_nil)) (pa_cons (pv 11) pa_nil))))) (pss_one (ps_ret pe_bl)) pss_nil)
        (pss_one (ps_for PassesOwn.never rfl (pi_list (pv 2)) (pg_tup rfl (pgs_cons (pg_name (i := 12) scL.nd rfl (.inl rfl)) (pgs_cons (pg_name (i := 13) scL.nd rfl (.inl rfl)) pgs_nil)))
          (pss_one (ps_if (pt_not (pt_val (pe_call G.gS hr2 (by rfl) G.mS G.kS G.bS .nil pass0 (pa_cons (pe_cmpR (op_eqOwn G.eq G.eqf G.gE hr1 pass0) (pv 10) (pv 12) (by rfl)) (pa_cons (pe_cmpR op_eq (pv 11) (pv 13) (by rfl)) pa_nil))))) (pss_one (ps_ret pe_bl)) pss_nil))))))
      (pss_one (ps_ret pe_bl)))))), ?_⟩
    refine ⟨.ref a, rfl, a, ns, rfl, hS, hlen, fun p q H1 np nq P1 s1 => ?_⟩
    refine ⟨by show 0 ≤ sizeLine; decide, fun M nM => ?_⟩
    refine ⟨by show 1 ≤ sizeLine; decide, fun N nN => ?_⟩
    obtain ⟨op, ep⟩ := P1.p_some
    obtain ⟨oq, eq⟩ := P1.q_some
    have eM : (upd H1 M (.lst [])) M = some (.lst []) := upd_same
    have S0 : St3 K (upd (upd H1 M (.lst [])) N (.lst [.str "feed"])) C p q M N 0 [] [] ["feed"] :=
      ⟨(P1.new nM).new nN, upd_same, by rw [upd_ne (ne_of_none eM nN)]; exact eM, ne_of_none ep nM, ne_of_none (same_new nM _ _ ep) nN, ne_of_none eq nM, ne_of_none (same_new nM _ _ eq) nN, ne_of_none eM nN,
        fun x hx => by rw [List.mem_singleton.mp hx]; exact is_word (by decide +kernel), by simp, rfl, fun j r t h1 => by simp at h1, fun r hr => by cases hr⟩
    generalize upd (upd H1 M (.lst [])) N (.lst [.str "feed"]) = H0 at S0
    refine ⟨10, rfl, by decide, by decide, for_range (lo := 0) (n := 10) (fun i σ H2 => ∃ (n : Nat) (ts : List Addr) (rs : List Rw) (ns : List Str) (y4 y5 y6 y7 y8 y9 y10 : Option V), σ = [some (.ref a), some (.ref p), some (.ref M), some (.ref N), y4, y5, y6, y7, y8, y9, y10, none, none, none] ∧ n ≤ 100 * i ∧ ts.length = i ∧ ns.length ≤ i + 1 ∧ St3 K H2 C p q M N n ts rs ns)
      ⟨0, [], [], ["feed"], none, none, none, none, none, none, none, rfl, by omega, rfl, by simp, S0⟩ ?_ ?_⟩
    · rintro i σ H2 hi ⟨n, ts, rs, ns, y4, y5, y6, y7, y8, y9, y10, rfl, hn, hts, hns, S2⟩
      -- kind
      refine ⟨by show 7 ≤ sizeLine; decide, fun r nr => ?_⟩
      have S3 := S2.same (same_new (o := .lst [.str "table", .str "feed", .str "dice", .str "source", .str "field", .str "flag", .str "slot"]) nr)
      have er : (upd H2 r (.lst [.str "table", .str "feed", .str "dice", .str "source", .str "field", .str "flag", .str "slot"])) r = some (.lst [.str "table", .str "feed", .str "dice", .str "source", .str "field", .str "flag", .str "slot"]) := upd_same
      generalize upd H2 r (.lst [.str "table", .str "feed", .str "dice", .str "source", .str "field", .str "flag", .str "slot"]) = H3 at S3 er
      have rp : r ≠ p := by obtain ⟨o, e⟩ := S2.P.p_some; exact (ne_of_none e nr).symm
      have rq : r ≠ q := by obtain ⟨o, e⟩ := S2.P.q_some; exact (ne_of_none e nr).symm
      refine ⟨_, rfl, p, q, n, 7, rfl, S3.P, by omega, by decide, by decide, fun d H4 d0 d1 P4 K4 => ?_⟩
      obtain ⟨kind, ek, wk, ck⟩ := seven_at d d0 d1
      refine ⟨r, _, _, _, rfl, rfl, SqL.of (K4 r _ rp rq er), ek, ?_⟩
      have S4 := S3.keeps K4 P4
      -- name
      refine ⟨_, rfl, p, q, n + 1, rfl, S4.P, by omega, fun name0 n5 H5 hw0 a5 b5 P5 K5 => ?_⟩
      have S5 := S4.keeps K5 P5
      refine ⟨fun σ H6 => ∃ (n6 : Nat) (name : Str), σ = [some (.ref a), some (.ref p), some (.ref M), some (.ref N), some (.int (0 + (i : Int))), some (.str kind), some (.str name), y7, y8, y9, y10, none, none, none] ∧ IsWord name ∧ n6 ≤ n + 12 ∧ St3 K H6 C p q M N n6 ts rs ns, ?_, ?_⟩
      · refine ⟨_, rfl, p, q, n5, 3, rfl, P5, by omega, by decide, by decide, fun d6 H6 d60 d61 P6 K6 => ⟨rfl, _, rfl, ?_⟩⟩
        have S6 := S5.keeps K6 P6
        refine ite2 (fun _ => ?_) (fun _ => ?_)
        · refine ⟨_, rfl, _, rfl, _, rfl, N, _, rfl, .inl (SqL.of S6.hN), p, q, n5 + 1, _, rfl, P6, by omega, by
              have := List.length_pos_iff.mpr S6.nn
              rw [List.length_map]; omega, by
              rw [List.length_map]
              exact Int.le_trans (by omega) (by decide : (100 : Int) ≤ 10 ^ 40), fun d7 H7 d70 d71 P7 K7 => ?_⟩
          have S7 := S6.keeps K7 P7
          obtain ⟨z, wz, ez⟩ := S7.pick d70 d71
          exact ⟨N, _, _, _, rfl, rfl, SqL.of S7.hN, ez, n5 + 1 + 1, z, rfl, wz, by omega, S7⟩
        · exact ⟨n5 + 1, name0, rfl, hw0, by omega, S6⟩
      rintro σ H6 ⟨n6, name, rfl, wname, hn6, S6⟩
      -- names.append(name)
      refine ⟨_, rfl, .inl ⟨rfl, _, SqL.of S6.hN⟩, _, rfl, N, _, _, rfl, rfl, S6.hN, small1000 (by rw [List.length_map]; omega), ?_⟩
      have S7 := S6.name wname
      generalize upd H6 N (.lst (ns.map V.str ++ [.str name])) = H7 at S7
      -- parts = []
      refine ⟨by show 0 ≤ sizeLine; decide, fun Pt nPt => ?_⟩
      have S8 := S7.same (same_new (o := .lst []) nPt)
      have hPt : (upd H7 Pt (.lst [])) Pt = some (.lst (([] : List Str).map V.str)) := upd_same
      have nPl : Pt ∉ [p, q, M, N] := S7.alive.not nPt
      generalize upd H7 Pt (.lst []) = H8 at S8 hPt
      refine ⟨fun σ H9 => ∃ (n9 : Nat) (Pt th : Addr) (ps : List Str) (z8 z9 : Option V), σ = [some (.ref a), some (.ref p), some (.ref M), some (.ref N), some (.int (0 + (i : Int))), some (.str kind), some (.str name), some (.ref Pt), z8, z9, some (.ref th), none, none, none] ∧ n9 ≤ n + 70 ∧
        St3 K H9 C p q M N n9 ts rs (ns ++ [name]) ∧ H9 Pt = some (.lst (ps.map V.str)) ∧ ThingAt K H9 C th kind name ps ∧ (∀ x ∈ ps, IsWord x) ∧ ps.length ≤ 4, ?_, ?_⟩
      · have Pp : Pt ≠ p := fun e => nPl (by simp [e])
        have Pq : Pt ≠ q := fun e => nPl (by simp [e])
        have line40 : (100 : Int) ≤ 10 ^ 40 := by decide
        have l1 : (ns ++ [name]).length ≤ 12 := by simp only [List.length_append, List.length_singleton]; omega
        have l0 : 0 < (ns ++ [name]).length := by simp
        refine ⟨_, rfl, rfl, _, rfl, ite2 (fun hk => ?_) (fun hk => ?_)⟩
        · have ek : kind = "table" := by
            rw [dec_str] at hk
            exact of_decide_eq_true hk
          refine ⟨_, rfl, p, q, n6, 5, rfl, S8.P, by omega, by decide, by decide, fun c H9 c0 c1 P9 K9 => ?_⟩
          have S9 := S8.keeps K9 P9
          have hPt9 := K9 Pt _ Pp Pq hPt
          refine ⟨c, rfl, by omega, by omega, for_range (lo := 0) (n := c.toNat) (fun j σ H2 => ∃ (n' : Nat) (ps : List Str) (z8 z9 : Option V), σ = [some (.ref a), some (.ref p), some (.ref M), some (.ref N), some (.int (0 + (i : Int))), some (.str kind), some (.str name), some (.ref Pt), z8, z9, y10, none, none, none] ∧
              n' ≤ n6 + 1 + 11 * j ∧ St3 K H2 C p q M N n' ts rs (ns ++ [name]) ∧ H2 Pt = some (.lst (ps.map V.str)) ∧ (∀ x ∈ ps, IsWord x) ∧ ps.Nodup ∧ ps.length ≤ j)
            ⟨n6 + 1, [], y8, y9, rfl, by omega, S9, hPt9, fun x hx => (by cases hx), List.nodup_nil, by simp⟩ ?_ ?_⟩
          · rintro j σ H10 hj ⟨n', ps, z8, z9, rfl, hn', S10, hPt10, wps, dps, lps⟩
            refine ⟨fun σ H11 => ∃ (key : Str) (n'' : Nat), σ = [some (.ref a), some (.ref p), some (.ref M), some (.ref N), some (.int (0 + (i : Int))), some (.str kind), some (.str name), some (.ref Pt), some (.int (0 + (j : Int))), some (.str key), y10, none, none, none] ∧ IsWord key ∧ n'' ≤ n' + 11 ∧
              St3 K H11 C p q M N n'' ts rs (ns ++ [name]) ∧ H11 Pt = some (.lst (ps.map V.str)), ?_, ?_⟩
            · refine ⟨_, rfl, p, q, n', 2, rfl, S10.P, by omega, by decide, by decide, fun d H11 d0 d1 P11 K11 => ⟨rfl, _, rfl, ?_⟩⟩
              have S11 := S10.keeps K11 P11
              have hPt11 := K11 Pt _ Pp Pq hPt10
              refine ite2 (fun _ => ?_) (fun _ => ?_)
              · refine ⟨_, rfl, _, rfl, _, rfl, N, _, rfl, .inl (SqL.of S11.hN), p, q, n' + 1, _, rfl, P11, by omega, by rw [List.length_map]; omega, by
                  rw [List.length_map]
                  exact Int.le_trans (by omega) line40, fun d7 H12 d70 d71 P12 K12 => ?_⟩
                have S12 := S11.keeps K12 P12
                obtain ⟨z, wz, ez⟩ := S12.pick d70 d71
                exact ⟨N, _, _, _, rfl, rfl, SqL.of S12.hN, ez, z, n' + 1 + 1, rfl, wz, by omega, S12, K12 Pt _ Pp Pq hPt11⟩
              · exact ⟨_, rfl, p, q, n' + 1, rfl, P11, by omega, fun z n12 H12 wz a12 b12 P12 K12 => ⟨z, n12, rfl, wz, by omega, S11.keeps K12 P12, K12 Pt _ Pp Pq hPt11⟩⟩
            · rintro σ H11 ⟨key, n'', rfl, wkey, hn'', S11, hPt11⟩
              refine ⟨_, rfl, _, rfl, Pt, _, rfl, .inl (SqL.of hPt11), rfl, ?_, _, rfl, ite2 (fun hin => ?_) (fun hin => ?_)⟩
              · rw [List.all_eq_true]
                intro v hv
                obtain ⟨w', _, rfl⟩ := List.mem_map.mp hv
                rfl
              · have nin : key ∉ ps := fun m => by
                  have e : inV (.str key) (ps.map V.str) = true := by
                    unfold inV
                    rw [List.any_eq_true]
                    exact ⟨.str key, List.mem_map_of_mem m, by simp [eqV]⟩
                  have hin : (!inV (.str key) (ps.map V.str)) = true := hin
                  rw [e] at hin
                  cases hin
                refine ⟨_, rfl, .inl ⟨rfl, _, SqL.of hPt11⟩, _, rfl, Pt, _, _, rfl, rfl, hPt11, small1000 (by rw [List.length_map]; omega), ?_⟩
                refine ⟨n'', ps ++ [key], _, _, rfl, by omega, S11.put hPt11 nPl, by rw [upd_same, List.map_append]; rfl, fun x hx => ?_, ?_, by rw [List.length_append]; simp only [List.length_singleton]; omega⟩
                · rcases List.mem_append.mp hx with hx | hx
                  · exact wps x hx
                  · rw [List.mem_singleton.mp hx]; exact wkey
                · rw [List.nodup_append]
                  exact ⟨dps, by simp, fun x hx y hy e => nin (by rw [← List.mem_singleton.mp hy, ← e]; exact hx)⟩
              · exact ⟨n'', ps, _, _, rfl, by omega, S11, hPt11, wps, dps, by omega⟩
          · rintro σ H10 ⟨n', ps, z8, z9, rfl, hn', S10, hPt10, wps, dps, lps⟩
            have c4 : c.toNat ≤ 4 := by omega
            refine ⟨_, rfl, _, rfl, name, Pt, ps, rfl, SqL.of hPt10, wname, wps, dps, by omega, fun th H11 s11 hth => ?_⟩
            exact ⟨n', Pt, th, ps, _, _, rfl, by omega, S10.same s11, s11 _ _ hPt10, by rw [ek]; exact hth, wps, by omega⟩
        · have nk : kind ≠ "table" := fun e => hk (by rw [e]; simp)
          refine ⟨fun σ H9 => ∃ (n' : Nat) (Pt : Addr) (ps : List Str), σ = [some (.ref a), some (.ref p), some (.ref M), some (.ref N), some (.int (0 + (i : Int))), some (.str kind), some (.str name), some (.ref Pt), y8, y9, y10, none, none, none] ∧ n' ≤ n6 + 2 ∧
            St3 K H9 C p q M N n' ts rs (ns ++ [name]) ∧ H9 Pt = some (.lst (ps.map V.str)) ∧ Good kind name ps, ?_, ?_⟩
          · refine ⟨_, rfl, rfl, _, rfl, ite2 (fun hf => ?_) (fun hf => ?_)⟩
            · have ef : kind = "field" := by
                rw [dec_str] at hf
                exact of_decide_eq_true hf
              refine ⟨_, rfl, _, rfl, _, rfl, N, _, rfl, .inl (SqL.of S8.hN), p, q, n6, _, rfl, S8.P, by omega, by rw [List.length_map]; omega, by
                  rw [List.length_map]
                  exact Int.le_trans (by omega) line40, fun d7 H12 d70 d71 P12 K12 => ?_⟩
              have S12 := S8.keeps K12 P12
              obtain ⟨z, wz, ez⟩ := S12.pick d70 d71
              refine ⟨N, _, _, _, rfl, rfl, SqL.of S12.hN, ez, by show 1 ≤ sizeLine; decide, fun r nr => ?_⟩
              exact ⟨n6 + 1, r, [z], rfl, by omega, S12.same (same_new nr), upd_same, .inl ⟨ef, z, rfl⟩, wname, fun x hx => by rw [List.mem_singleton.mp hx]; exact wz, by simp, by simp⟩
            · have nf : kind ≠ "field" := fun e => hf (by rw [e]; simp)
              have kin : kind ∈ [("feed" : Str), "dice", "source", "flag", "slot"] := by
                rcases ck with e | e | e
                · exact absurd e nk
                · exact absurd e nf
                · exact e
              exact ⟨n6, Pt, [], rfl, by omega, S8, hPt, .inr (.inl ⟨kin, rfl⟩), wname, fun x hx => (by cases hx), by simp, by simp⟩
          · rintro σ H9 ⟨n', Pt, ps, rfl, hn', S9, hPt9, good⟩
            refine ⟨_, rfl, _, rfl, _, rfl, Pt, _, rfl, .inl ⟨SqL.of hPt9, fun l nl => ?_⟩⟩
            refine ⟨by show 3 ≤ sizeLine; decide, fun tt ntt => ?_⟩
            have el : (upd (upd H9 l (.tup (ps.map V.str))) tt (.tup [.str kind, .str name, .ref l])) l = some (.tup (ps.map V.str)) := same_new ntt _ _ upd_same
            have s9 : Same H9 (upd (upd H9 l (.tup (ps.map V.str))) tt (.tup [.str kind, .str name, .ref l])) := (same_new nl).trans (same_new ntt)
            refine ⟨tt, l, kind, name, ps, rfl, SqT.of upd_same, SqT.of el, good, nk, fun th H11 s11 hth => ?_⟩
            have s12 := s9.trans s11
            exact ⟨n', Pt, th, ps, _, _, rfl, by omega, S9.same s12, s12 _ _ hPt9, hth, good.p, good.l⟩
      rintro σ H9 ⟨n9, Pt, th, ps, z8, z9, rfl, hn9, S9, hPt, hth, wps, lps⟩
      -- made.append(..)
      refine ⟨_, rfl, .inl ⟨rfl, _, SqL.of S9.hM⟩, _, rfl, ⟨_, rfl⟩, _, rfl, _, rfl, by show 2 ≤ sizeLine; decide, fun r1 nr1 => ?_⟩
      have hPt1 := same_new (o := .lst [.str kind, .str name]) nr1 _ _ hPt
      refine ⟨_, rfl, r1, Pt, _, _, rfl, rfl, upd_same, hPt1, by rw [List.length_map]; exact len1000 (by show 2 + ps.length ≤ 1000; omega), fun r2 nr2 => ?_⟩
      have s92 : Same H9 (upd (upd H9 r1 (.lst [.str kind, .str name])) r2 (.lst ([.str kind, .str name] ++ ps.map V.str))) := (same_new nr1).trans (same_new nr2)
      have er2 : (upd (upd H9 r1 (.lst [.str kind, .str name])) r2 (.lst ([.str kind, .str name] ++ ps.map V.str))) r2 = some (.lst ((kind :: name :: ps).map V.str)) := upd_same
      generalize upd (upd H9 r1 (.lst [.str kind, .str name])) r2 (.lst ([.str kind, .str name] ++ ps.map V.str)) = H10 at s92 er2
      have rok : Rw.ok ⟨kind, name, ps⟩ := ⟨wk, wname, wps, lps⟩
      refine ⟨_, r2, kind :: name :: ps, rfl, rfl, .inl (SqL.of er2), ?_, ?_⟩
      · have := sum_le (B := 8) (kind :: name :: ps) fun x hx => by
          rcases List.mem_cons.mp hx with rfl | hx
          · exact wk.2.1
          · rcases List.mem_cons.mp hx with rfl | hx
            · exact wname.2.1
            · exact (wps x hx).2.1
        simp only [List.length_cons] at this ⊢
        have l1 : (Str.ofString " ").length = 1 := by decide +kernel
        rw [l1]
        have line : (20000 : Nat) ≤ sizeLine := by decide
        omega
      rw [show Txt.join _ (kind :: name :: ps) = Str.join _ (kind :: name :: ps) from StrLaws.glued_eq_join _ _]
      refine ⟨by show 2 ≤ sizeLine; decide, fun t nt => ?_⟩
      have S11 := (S9.same s92).same (same_new (o := .tup [.ref th, .str (Rw.line ⟨kind, name, ps⟩)]) nt)
      have et : (upd H10 t (.tup [.ref th, .str (Rw.line ⟨kind, name, ps⟩)])) t = some (.tup [.ref th, .str (Rw.line ⟨kind, name, ps⟩)]) := upd_same
      have hth11 := (hth.same s92).same (same_new (o := .tup [.ref th, .str (Rw.line ⟨kind, name, ps⟩)]) nt)
      have ntl : t ∉ [p, q, M, N] := ((S9.same s92).alive).not nt
      refine ⟨M, _, _, rfl, rfl, S11.hM, small1000 (by rw [List.length_map]; omega), ?_⟩
      refine ⟨n9, ts ++ [t], rs ++ [⟨kind, name, ps⟩], ns ++ [name], _, _, _, _, _, _, _, rfl, by omega, by rw [List.length_append, hts]; rfl, by simp only [List.length_append, List.length_singleton]; omega, ?_⟩
      exact S11.add ⟨th, by rw [mask_out ntl]; exact et, hth11.mask S11.all⟩ rok
    · rintro σ H2 ⟨n, ts, rs, ns, y4, y5, y6, y7, y8, y9, y10, rfl, hn, hts, hns, S2⟩
      have rcs : ∀ (H3 : Hp), Same H2 H3 → ∀ (j : Nat) (v : V), (ts.map V.ref)[j]? = some v → ∃ t r, v = .ref t ∧ r.ok ∧ RecAt K H3 C t r := fun H3 s3 j v hv => by
        rw [List.getElem?_map] at hv
        obtain ⟨t, ht, rfl⟩ := Option.map_eq_some_iff.mp hv
        have hj : j < rs.length := by rw [← S2.ln]; exact (List.getElem?_eq_some_iff.mp ht).1
        exact ⟨t, rs[j], rfl, S2.ok _ (List.getElem_mem hj), ((S2.rc j _ t (List.getElem?_eq_getElem hj) ht).same (mask_sub _ _)).same s3⟩
      refine ⟨_, rfl, M, rfl, ⟨_, SqL.of S2.hM⟩, for_list (K := K) (a := M) (xs := ts.map V.ref) (fun j σ H => ∃ (x10 x11 x12 x13 : Option V), σ = [some (.ref a), some (.ref p), some (.ref M), some (.ref N), y4, y5, y6, y7, y8, y9, x10, x11, x12, x13] ∧ Same H2 H)
        ⟨_, _, _, _, rfl, Same.refl _⟩ (fun _ _ H _ ⟨_, _, _, _, _, s⟩ => SqL.of (s _ _ S2.hM)) ?_ ?_⟩
      · rintro j v σ H3 hv ⟨x10, x11, x12, x13, rfl, s3⟩
        obtain ⟨t, r, rfl, rok, th, et, hth⟩ := rcs H3 s3 j v hv
        refine ⟨t, _, rfl, SqT.of et, rfl, .ref th, _, rfl, .str r.line, [], rfl, rfl, ?_⟩
        -- str(thing)
        obtain ⟨dx, fs, pt, h1, h2, h3, h4, h5⟩ := id hth
        refine ⟨_, rfl, th, dx, fs, rfl, h1, th, r.k, r.n, r.p, rfl, hth, by have := rok.k.2.1; omega, by have := rok.n.2.1; omega, fun x hx => by have := (rok.p x hx).2.1; omega, by have := rok.l; omega, fun H4 s4 => ?_⟩
        refine ⟨_, rfl, _, rfl, .str r.line, .str r.line, .str r.line, rfl, .str _, .str _, by simp [dp], _, rfl, iteF ?_⟩
        have s34 := s3.trans s4
        refine ⟨_, rfl, M, rfl, ⟨_, SqL.of (s34 _ _ S2.hM)⟩, for_list (K := K) (a := M) (xs := ts.map V.ref) (fun j σ H => ∃ (x12 x13 : Option V), σ = [some (.ref a), some (.ref p), some (.ref M), some (.ref N), y4, y5, y6, y7, y8, y9, some (.ref th), some (.str r.line), x12, x13] ∧ Same H4 H)
          ⟨_, _, rfl, Same.refl _⟩ (fun _ _ H _ ⟨_, _, _, s⟩ => SqL.of (s _ _ (s34 _ _ S2.hM))) ?_ ?_⟩
        · rintro j2 v2 σ H5 hv2 ⟨z12, z13, rfl, s5⟩
          obtain ⟨t2, r2, rfl, rok2, th2, et2, hth2⟩ := rcs H5 (s34.trans s5) j2 v2 hv2
          refine ⟨t2, _, rfl, SqT.of et2, rfl, .ref th2, _, rfl, .str r2.line, [], rfl, rfl, ?_⟩
          have hth5 := (hth.same s4).same s5
          obtain ⟨dy, gs, pt2, g1, g2, g3, g4, g5⟩ := id hth2
          refine ⟨_, rfl, _, rfl, th, dx, fs, th2, dy, gs, rfl, rfl, s5 _ _ (s4 _ _ h1), g1, th, th2, _, _, _, _, _, _, rfl, hth5, hth2, rok.p, rok2.p, ?_⟩
          refine ⟨_, rfl, _, rfl, rfl, ?_⟩
          have e : decide (V.str r.line = V.str r2.line) = decide (r.k = r2.k ∧ r.n = r2.n ∧ r.p = r2.p) := by
            rw [dec_str]
            exact decide_eq_decide.mpr (line_inj rok rok2)
          rw [e]
          exact ⟨_, _, .bool _, rfl, .bl _, .bl _, by simp [dp], _, rfl, iteF ⟨_, _, rfl, s5⟩⟩
        · rintro σ H5 ⟨z12, z13, rfl, s5⟩
          exact ⟨_, _, _, _, rfl, s34.trans s5⟩
      · rintro σ H3 _
        exact kk H3
end
/-! ### what the top says of Thing -/
def SmAll (K : PySem.W.Frag) (C : Addr) (m qual : Str) (i : Nat) : Prop := ∃ p g fd, SMet K C m p g ∧ Fun K m qual (me i) g fd
theorem sm_in {K : PySem.W.Frag} {C p g : Addr} {m qual : Str} {i : Nat} {rest : List Value} {oc : Value} {od an : Option Addr} {osl : Array (Option Value)} {kV doc pm cdv ct : Value}
    (at_ : PySem.W.findCls K (.ref C) (.type "type") m = some (.get (.builtin "staticmethod.__get__") (.ref p) .none (.ref C))) (rc : PySem.W.recIn K p "staticmethod" = some (.ref g :: rest)) (kp : PySem.W.keepIn K (.ref g) = true)
    (l : K.lookup g = some ⟨oc, od, .func (PySem.W.fnOf m qual (defArgs (me i)) (defBody (me i)) (defScope (me i)) .none kV doc pm an cdv ct), osl⟩) (c : PySem.W.codeIn K cdv qual = true) : SmAll K C m qual i :=
  ⟨p, g, _, ⟨at_, ⟨rest, rc⟩, kp⟩, fun_mk l c kp⟩
def MeAll (K : PySem.W.Frag) (C : Addr) (m qual : Str) (i : Nat) : Prop := ∃ g fd, PySem.W.findIn K (.ref C) m = some (some (.ref g)) ∧ PySem.W.isFn K (.ref g) = true ∧ Fun K m qual (me i) g fd
theorem me_in {K : PySem.W.Frag} {C g : Addr} {m qual : Str} {i : Nat} {oc : Value} {od an : Option Addr} {osl : Array (Option Value)} {kV doc pm cdv ct : Value}
    (at_ : PySem.W.findIn K (.ref C) m = some (some (.ref g))) (fn : PySem.W.isFn K (.ref g) = true) (kp : PySem.W.keepIn K (.ref g) = true)
    (l : K.lookup g = some ⟨oc, od, .func (PySem.W.fnOf m qual (defArgs (me i)) (defBody (me i)) (defScope (me i)) .none kV doc pm an cdv ct), osl⟩) (c : PySem.W.codeIn K cdv qual = true) : MeAll K C m qual i :=
  ⟨g, _, at_, fn, fun_mk l c kp⟩
theorem mg_int {K : PySem.W.Frag} {h : Heap} {mg : Str → Option Value} {n : Str} {i : Int} {tk : Tok} (X : K.In h) (G : h.Ns mainGlobals mg) (e : PySem.W.nsIn K mainGlobals n = some (some (.int i tk))) : ∃ tk, mg n = some (.int i tk) := ⟨tk, PySem.W.mg_of X G e⟩
structure ThAll (K : PySem.W.Frag) (mg : Str → Option Value) (C : Addr) : Prop where
  T : ThIn K mg C
  mkC : PySem.W.makesIn K C = true
  kpC : PySem.W.keepIn K (.ref C) = true
  ini : MeAll K C "__init__" "Thing.__init__" 1
  feed : SmAll K C "feed" "Thing.feed" 2
  dice : SmAll K C "dice" "Thing.dice" 3
  table : SmAll K C "table" "Thing.table" 4
  source : SmAll K C "source" "Thing.source" 5
  field : SmAll K C "field" "Thing.field" 6
  flag : SmAll K C "flag" "Thing.flag" 7
  slot : SmAll K C "slot" "Thing.slot" 8
  eq : MeAll K C "__eq__" "Thing.__eq__" 9
  str : MeAll K C "__str__" "Thing.__str__" 10
theorem th_in {K : PySem.W.Frag} {h : Heap} {mg : Str → Option Value} {C : Addr} (X : K.In h) (G : h.Ns mainGlobals mg) (a : PySem.W.nsIn K mainGlobals "Thing" = some (some (.ref C)))
    (pg : PySem.W.plainGet K C Str.empty = true) (hd : PySem.W.hasDictIn K C = true) (po : PySem.W.plainOver K C = true) (sa : PySem.W.findIn K (.ref C) "__setattr__" = some (some (.builtin "object.__setattr__")))
    (nk : PySem.W.findIn K (.ref C) "kind" = some none) (nn : PySem.W.findIn K (.ref C) "name" = some none) (np : PySem.W.findIn K (.ref C) "parts" = some none)
    (rd : PySem.W.readsIn K C (.type "type") = true) (ga : PySem.W.specialIn K (.ref C) "__getattribute__" = some (some (.builtin "type.__getattribute__")))
    (ca : PySem.W.findIn K (.ref C) "__class__" = some (some (.builtin "object.__class__"))) (cn : PySem.W.specialIn K (.builtin "object.__class__") "__get__" = some (some (.builtin "getset_descriptor.__get__"))) (ct : PySem.W.takesIn K (.builtin "object.__class__") = some true) (cm : PySem.W.mroIn K C (.type "object") = some true)
    (mk : PySem.W.makesIn K C = true) (kp : PySem.W.keepIn K (.ref C) = true)
    (ini : MeAll K C "__init__" "Thing.__init__" 1) (m1 : SmAll K C "feed" "Thing.feed" 2) (m2 : SmAll K C "dice" "Thing.dice" 3) (m3 : SmAll K C "table" "Thing.table" 4) (m4 : SmAll K C "source" "Thing.source" 5) (m5 : SmAll K C "field" "Thing.field" 6) (m6 : SmAll K C "flag" "Thing.flag" 7) (m7 : SmAll K C "slot" "Thing.slot" 8)
    (eq : MeAll K C "__eq__" "Thing.__eq__" 9) (str : MeAll K C "__str__" "Thing.__str__" 10) : ∃ C, ThAll K mg C :=
  ⟨C, ⟨PySem.W.mg_of X G a, ⟨pg, hd, po, sa⟩, nk, nn, np, ⟨rd, ga⟩, ca, cn, ct, cm⟩, mk, kp, ini, m1, m2, m3, m4, m5, m6, m7, eq, str⟩
section
variable {P : Program} {w : World} {K : PySem.W.Frag} {mg : Str → Option Value} {base : Heap}
theorem scMs (i : Nat) (h : i = 2 ∨ i = 3 ∨ i = 5 ∨ i = 7 ∨ i = 8) : FnScope ["name"] ["name"] (defScope (me i)) := by
  rcases h with rfl | rfl | rfl | rfl | rfl <;> exact ⟨rfl, rfl, rfl, by decide +kernel, rfl, by decide +kernel, by decide +kernel⟩
theorem th_raw {C f : Addr} {fd : FuncData} {m qual kind : Str} {i : Nat} (F : Fun K m qual (me i) f fd) (G : FnOk P w K mg base CX0 5 f fd ["name"] (spMk K C kind)) (hb : ∀ (kV doc pm : Value) (an : Option Addr) (cdv ct : Value) (us : List Value), us.length = 1 → bindArgs (PySem.W.fnOf m qual (defArgs (me i)) (defBody (me i)) (defScope (me i)) .none kV doc pm an cdv ct) ⟨us, []⟩ = pure ([("name" : Str)].zip us)) : FnR P w K mg base CX0 5 f (spMk K C kind) := by
  have := G.raw (F.binds (ps := ["name"]) hb) .nil
  intro A outer s H us vs Q E hr e0 r h
  exact this A outer s H us vs Q E hr e0 r (by show spMk K C kind (vs ++ []) H Q E; rw [List.append_nil]; exact h)
theorem t_defs {C fN fU : Addr} {fdN fdU : FuncData} {tk : Tok} (T : ThAll K mg C) (GN : FnOk P w K mg base CX0 2 fN fdN ["things"] (spNames0 K)) (mN : mg "check_names" = some (.ref fN)) (kN : PySem.W.keepIn K (.ref fN) = true) (bN : Binds K fdN ["things"] [])
    (GU : FnOk P w K mg base CX0 2 fU fdU ["names"] (spUnlike0 K)) (mU : mg "check_unlike" = some (.ref fU)) (kU : PySem.W.keepIn K (.ref fU) = true) (bU : Binds K fdU ["names"] []) (mlen : mg "len" = none) (mM : mg "MOST_KEYS" = some (.int 4 tk)) : Tdefs P w K mg base C := by
  obtain ⟨fI, fdI, aI, nI, FI⟩ := T.ini
  have bI : Binds K fdI ["self", "kind", "name", "parts"] [] := FI.binds (ps := ["self", "kind", "name", "parts"]) fun _ _ _ _ _ _ us hl => match us, hl with | [_, _, _, _], _ => rfl
  have GI := ok_init (base := base) (P := P) (w := w) T.T FI GN mN kN bN
  have M : Mk K C fI := ⟨T.mkC, aI, nI, T.kpC⟩
  refine ⟨fun m hm => ?_, ?_, ?_⟩
  · simp only [List.mem_cons, List.not_mem_nil, or_false] at hm
    rcases hm with rfl | rfl | rfl | rfl | rfl
    · obtain ⟨p, g, fd, s, F⟩ := T.feed
      exact ⟨p, g, s, th_raw F (ok_mk T.T M F GI bI (scMs 2 (by simp)) (fun _ _ _ _ _ _ => rfl) (.inl rfl) rfl) fun _ _ _ _ _ _ us hl => match us, hl with | [_], _ => rfl⟩
    · obtain ⟨p, g, fd, s, F⟩ := T.dice
      exact ⟨p, g, s, th_raw F (ok_mk T.T M F GI bI (scMs 3 (by simp)) (fun _ _ _ _ _ _ => rfl) (.inl rfl) rfl) fun _ _ _ _ _ _ us hl => match us, hl with | [_], _ => rfl⟩
    · obtain ⟨p, g, fd, s, F⟩ := T.source
      exact ⟨p, g, s, th_raw F (ok_mk T.T M F GI bI (scMs 5 (by simp)) (fun _ _ _ _ _ _ => rfl) (.inl rfl) rfl) fun _ _ _ _ _ _ us hl => match us, hl with | [_], _ => rfl⟩
    · obtain ⟨p, g, fd, s, F⟩ := T.flag
      exact ⟨p, g, s, th_raw F (ok_mk T.T M F GI bI (scMs 7 (by simp)) (fun _ _ _ _ _ _ => rfl) (.inl rfl) rfl) fun _ _ _ _ _ _ us hl => match us, hl with | [_], _ => rfl⟩
    · obtain ⟨p, g, fd, s, F⟩ := T.slot
      exact ⟨p, g, s, th_raw F (ok_mk T.T M F GI bI (scMs 8 (by simp)) (fun _ _ _ _ _ _ => rfl) (.inl rfl) rfl) fun _ _ _ _ _ _ us hl => match us, hl with | [_], _ => rfl⟩
  · obtain ⟨p, g, fd, s, F⟩ := T.field
    refine ⟨p, g, s, ?_⟩
    have := (ok_field (P := P) (w := w) (base := base) T.T M F GI bI).raw (F.binds (ps := ["name", "over"]) fun _ _ _ _ _ _ us hl => match us, hl with | [_, _], _ => rfl) .nil
    intro A outer s H us vs Q E hr e0 r h
    exact this A outer s H us vs Q E hr e0 r (by show spFieldM K C (vs ++ []) H Q E; rw [List.append_nil]; exact h)
  · obtain ⟨p, g, fd, s, F⟩ := T.table
    exact ⟨p, g, s, ok_tableM T.T M F GI bI GU mU kU bU mlen mM⟩
theorem fnR0 {f : Addr} {fd : FuncData} {ps : List Str} {k : Nat} {sp : Sp} (F : FnOk P w K mg base CX0 k f fd ps sp) (b : Binds K fd ps []) : FnR P w K mg base CX0 k f sp := by
  have := F.raw b .nil
  intro A outer s H us vs Q E hr e0 r h
  exact this A outer s H us vs Q E hr e0 r (by show sp (vs ++ []) H Q E; rw [List.append_nil]; exact h)
end
/-! ### what the top has written -/
structure FunIn (K : PySem.W.Frag) (mg : Str → Option Value) (x : Str) (st : Stmt) (f : Addr) (fd : FuncData) : Prop where
  F : Fun K x x st f fd
  m : mg x = some (.ref f)
theorem fun_in {K : PySem.W.Frag} {h : Heap} {mg : Str → Option Value} {x : Str} {st : Stmt} {f : Addr} {oc : Value} {od an : Option Addr} {osl : Array (Option Value)} {kV doc pm cdv ct : Value} (X : K.In h) (G : h.Ns mainGlobals mg)
    (a : PySem.W.nsIn K mainGlobals x = some (some (.ref f))) (l : K.lookup f = some ⟨oc, od, .func (PySem.W.fnOf x x (defArgs st) (defBody st) (defScope st) .none kV doc pm an cdv ct), osl⟩)
    (c : PySem.W.codeIn K cdv x = true) (k : PySem.W.keepIn K (.ref f) = true) : ∃ f fd, FunIn K mg x st f fd :=
  ⟨f, _, fun_mk l c k, PySem.W.mg_of X G a⟩
theorem bts_in {K : PySem.W.Frag} {h : Heap} {mg : Str → Option Value} (X : K.In h) (G : h.Ns mainGlobals mg) (z1 : PySem.W.nsIn K mainGlobals "isinstance" = some none) (z2 : PySem.W.nsIn K mainGlobals "bool" = some none) (z3 : PySem.W.nsIn K mainGlobals "str" = some none)
    (z4 : PySem.W.nsIn K mainGlobals "int" = some none) (z5 : PySem.W.nsIn K mainGlobals "list" = some none) (z6 : PySem.W.nsIn K mainGlobals "tuple" = some none) (z7 : PySem.W.nsIn K mainGlobals "len" = some none) (z8 : PySem.W.nsIn K mainGlobals "range" = some none) : Bts mg :=
  ⟨PySem.W.mg_none_of X G z1, PySem.W.mg_none_of X G z2, PySem.W.mg_none_of X G z3, PySem.W.mg_none_of X G z4, PySem.W.mg_none_of X G z5, PySem.W.mg_none_of X G z6, PySem.W.mg_none_of X G z7, PySem.W.mg_none_of X G z8⟩
end Qp
open PySem PySem.W PyProof.Rows
set_option maxRecDepth 100000 in
set_option maxHeartbeats 0 in
theorem PySem.Challenge.cw_quietprobes_k03_lines_of_things_holds : PySem.Challenge.rw_quietprobes_k03_lines_of_things.Holds := by
  w_on; o_law; k_head; (case hw => w_witness2)
  k_fill
  refine L2.walk_of (l := PySem.Challenge.rw_quietprobes_k03_lines_of_things) (n := 63) (k := 7) (x := "script") (CX := fun _ => L2.CX0) (sp := fun w => Qp.spLaw _) rfl (by decide) rfl ⟨rfl, by decide, by decide⟩ (fun w h Y => PySem.W.kIn_of Y) ?F (fun _ _ a ns hl _ hS => ⟨a, ns, rfl, hS, hl, fun _ => rfl⟩) (fun _ _ _ _ _ h => h)
  case F =>
    intro w mg fa h KX G hmg
    obtain ⟨f1, fd1, F1⟩ : ∃ f fd, Qp.FunIn _ mg "_law_pool" Qp.sPool f fd := by
      refine' Qp.fun_in KX G ?a ?l ?c ?k
      (case a => k_is); (case l => k_is); (case c => k_is); (case k => k_is)
    obtain ⟨f2, fd2, F2⟩ : ∃ f fd, Qp.FunIn _ mg "_law_draw" Qp.sDraw f fd := by
      refine' Qp.fun_in KX G ?a ?l ?c ?k
      (case a => k_is); (case l => k_is); (case c => k_is); (case k => k_is)
    obtain ⟨f3, fd3, F3⟩ : ∃ f fd, Qp.FunIn _ mg "_law_word" Qp.sWord f fd := by
      refine' Qp.fun_in KX G ?a ?l ?c ?k
      (case a => k_is); (case l => k_is); (case c => k_is); (case k => k_is)
    obtain ⟨f4, fd4, F4⟩ : ∃ f fd, Qp.FunIn _ mg "_law_same" Qp.sSame f fd := by
      refine' Qp.fun_in KX G ?a ?l ?c ?k
      (case a => k_is); (case l => k_is); (case c => k_is); (case k => k_is)
    obtain ⟨f5, fd5, F5⟩ : ∃ f fd, Qp.FunIn _ mg "is_name" Qp.sIsName f fd := by
      refine' Qp.fun_in KX G ?a ?l ?c ?k
      (case a => k_is); (case l => k_is); (case c => k_is); (case k => k_is)
    obtain ⟨f6, fd6, F6⟩ : ∃ f fd, Qp.FunIn _ mg "check_names" Qp.sNames f fd := by
      refine' Qp.fun_in KX G ?a ?l ?c ?k
      (case a => k_is); (case l => k_is); (case c => k_is); (case k => k_is)
    obtain ⟨f7, fd7, F7⟩ : ∃ f fd, Qp.FunIn _ mg "check_unlike" Qp.sUnlike f fd := by
      refine' Qp.fun_in KX G ?a ?l ?c ?k
      (case a => k_is); (case l => k_is); (case c => k_is); (case k => k_is)
    obtain ⟨f8, fd8, F8⟩ : ∃ f fd, Qp.FunIn _ mg "_law_thing" Qp.sThing f fd := by
      refine' Qp.fun_in KX G ?a ?l ?c ?k
      (case a => k_is); (case l => k_is); (case c => k_is); (case k => k_is)
    obtain ⟨f9, fd9, F9⟩ : ∃ f fd, Qp.FunIn _ mg "_law_table" Qp.sTable f fd := by
      refine' Qp.fun_in KX G ?a ?l ?c ?k
      (case a => k_is); (case l => k_is); (case c => k_is); (case k => k_is)
    obtain ⟨f10, fd10, F10⟩ : ∃ f fd, Qp.FunIn _ mg "law" Qp.sLaw f fd := by
      refine' Qp.fun_in KX G ?a ?l ?c ?k
      (case a => k_is); (case l => k_is); (case c => k_is); (case k => k_is)

    have B : Qp.Bts mg := by
      refine' Qp.bts_in KX G ?z1 ?z2 ?z3 ?z4 ?z5 ?z6 ?z7 ?z8
      (case z1 => k_is); (case z2 => k_is); (case z3 => k_is); (case z4 => k_is); (case z5 => k_is); (case z6 => k_is); (case z7 => k_is); (case z8 => k_is)
    obtain ⟨tk1, mL⟩ : ∃ tk, mg "LONGEST_NAME" = some (.int 8 tk) := by
      refine' Qp.mg_int KX G ?zL
      (case zL => k_is)
    obtain ⟨tk2, mM⟩ : ∃ tk, mg "MOST_KEYS" = some (.int 4 tk) := by
      refine' Qp.mg_int KX G ?zM
      (case zM => k_is)
    have mE : mg "enumerate" = none := by
      refine' PySem.W.mg_none_of KX G ?zE
      (case zE => k_is)
    obtain ⟨C, T⟩ : ∃ C, Qp.ThAll _ mg C := by
      refine' Qp.th_in KX G ?th_a ?th_pg ?th_hd ?th_po ?th_sa ?th_nk ?th_nn ?th_np ?th_rd ?th_ga ?th_ca ?th_cn ?th_ct ?th_cm ?th_mk ?th_kp ?th_ini ?th_m1 ?th_m2 ?th_m3 ?th_m4 ?th_m5 ?th_m6 ?th_m7 ?th_eq ?th_str
      (case th_a => k_is)
      (case th_pg => k_is)
      (case th_hd => k_is)
      (case th_po => k_is)
      (case th_sa => k_is)
      (case th_nk => k_is)
      (case th_nn => k_is)
      (case th_np => k_is)
      (case th_rd => k_is)
      (case th_ga => k_is)
      (case th_ca => k_is)
      (case th_cn => k_is)
      (case th_ct => k_is)
      (case th_cm => k_is)
      (case th_mk => k_is)
      (case th_kp => k_is)
      (case th_ini => (refine' Qp.me_in ?a_tini ?f_tini ?k_tini ?l_tini ?c_tini; (case a_tini => k_is); (case f_tini => k_is); (case k_tini => k_is); (case l_tini => k_is); (case c_tini => k_is)))
      (case th_m1 => (refine' Qp.sm_in ?a_tm1 ?r_tm1 ?k_tm1 ?l_tm1 ?c_tm1; (case a_tm1 => k_is); (case r_tm1 => k_is); (case k_tm1 => k_is); (case l_tm1 => k_is); (case c_tm1 => k_is)))
      (case th_m2 => (refine' Qp.sm_in ?a_tm2 ?r_tm2 ?k_tm2 ?l_tm2 ?c_tm2; (case a_tm2 => k_is); (case r_tm2 => k_is); (case k_tm2 => k_is); (case l_tm2 => k_is); (case c_tm2 => k_is)))
      (case th_m3 => (refine' Qp.sm_in ?a_tm3 ?r_tm3 ?k_tm3 ?l_tm3 ?c_tm3; (case a_tm3 => k_is); (case r_tm3 => k_is); (case k_tm3 => k_is); (case l_tm3 => k_is); (case c_tm3 => k_is)))
      (case th_m4 => (refine' Qp.sm_in ?a_tm4 ?r_tm4 ?k_tm4 ?l_tm4 ?c_tm4; (case a_tm4 => k_is); (case r_tm4 => k_is); (case k_tm4 => k_is); (case l_tm4 => k_is); (case c_tm4 => k_is)))
      (case th_m5 => (refine' Qp.sm_in ?a_tm5 ?r_tm5 ?k_tm5 ?l_tm5 ?c_tm5; (case a_tm5 => k_is); (case r_tm5 => k_is); (case k_tm5 => k_is); (case l_tm5 => k_is); (case c_tm5 => k_is)))
      (case th_m6 => (refine' Qp.sm_in ?a_tm6 ?r_tm6 ?k_tm6 ?l_tm6 ?c_tm6; (case a_tm6 => k_is); (case r_tm6 => k_is); (case k_tm6 => k_is); (case l_tm6 => k_is); (case c_tm6 => k_is)))
      (case th_m7 => (refine' Qp.sm_in ?a_tm7 ?r_tm7 ?k_tm7 ?l_tm7 ?c_tm7; (case a_tm7 => k_is); (case r_tm7 => k_is); (case k_tm7 => k_is); (case l_tm7 => k_is); (case c_tm7 => k_is)))
      (case th_eq => (refine' Qp.me_in ?a_teq ?f_teq ?k_teq ?l_teq ?c_teq; (case a_teq => k_is); (case f_teq => k_is); (case k_teq => k_is); (case l_teq => k_is); (case c_teq => k_is)))
      (case th_str => (refine' Qp.me_in ?a_tstr ?f_tstr ?k_tstr ?l_tstr ?c_tstr; (case a_tstr => k_is); (case f_tstr => k_is); (case k_tstr => k_is); (case l_tstr => k_is); (case c_tstr => k_is)))
    have bP := F1.F.binds (ps := ["script"]) fun _ _ _ _ _ _ us hl => match us, hl with | [_], _ => rfl
    have bD := F2.F.binds (ps := ["pool", "many"]) fun _ _ _ _ _ _ us hl => match us, hl with | [_, _], _ => rfl
    have bW := F3.F.binds (ps := ["pool"]) fun _ _ _ _ _ _ us hl => match us, hl with | [_], _ => rfl
    have bS := F4.F.binds (ps := ["actual", "due"]) fun _ _ _ _ _ _ us hl => match us, hl with | [_, _], _ => rfl
    have bI := F5.F.binds (ps := ["thing"]) fun _ _ _ _ _ _ us hl => match us, hl with | [_], _ => rfl
    have bN := F6.F.binds (ps := ["things"]) fun _ _ _ _ _ _ us hl => match us, hl with | [_], _ => rfl
    have bU := F7.F.binds (ps := ["names"]) fun _ _ _ _ _ _ us hl => match us, hl with | [_], _ => rfl
    have bT := F8.F.binds (ps := ["thing"]) fun _ _ _ _ _ _ us hl => match us, hl with | [_], _ => rfl
    have bTb := F9.F.binds (ps := ["name", "keys"]) fun _ _ _ _ _ _ us hl => match us, hl with | [_, _], _ => rfl
    have e := hmg.symm.trans F10.m
    cases e
    obtain ⟨oc, od, kV, doc, pm, an, cdv, ct, osl, rfl, lk, hcd⟩ := F10.F.ex
    obtain ⟨fE, fdE, aE, nE, FE⟩ := T.eq
    obtain ⟨fG, fdG, aG, nG, FG⟩ := T.str
    have bE := FE.binds (ps := ["self", "other"]) fun _ _ _ _ _ _ us hl => match us, hl with | [_, _], _ => rfl
    have bG := FG.binds (ps := ["self"]) fun _ _ _ _ _ _ us hl => match us, hl with | [_], _ => rfl
    refine ⟨_, fun s v => .of_eq rfl, fun base _ _ => Qp.ok_law (C := C) F10.F ?_ B⟩
    have gD := Qp.ok_draw (P := PySem.Challenge.rw_quietprobes_k03_lines_of_things.prog) (w := w) (base := base) (k := 0) F2.F B.int
    have gI := Qp.ok_isname (P := PySem.Challenge.rw_quietprobes_k03_lines_of_things.prog) (w := w) (base := base) (k := 0) F5.F B mL
    have gN := Qp.ok_names0 F6.F gI F5.m F5.F.kp bI
    have gU := Qp.ok_unlike0 (P := PySem.Challenge.rw_quietprobes_k03_lines_of_things.prog) (w := w) (base := base) (k := 1) F7.F mE
    have D := Qp.t_defs T gN F6.m F6.F.kp bN gU F7.m F7.F.kp bU B.len mM
    exact ⟨f1, f2, f3, f4, f8, f9, fE, fG, fd1, fd2, fd3, fd4, fd8, fd9, Qp.ok_pool F1.F B.list, gD, Qp.ok_word F3.F gD F2.m F2.F.kp bD B.range, Qp.ok_same F4.F B F4.m bS 2, Qp.ok_lthing T.T D F8.F, Qp.ok_ltable T.T D F9.F B.len,
      Qp.fnR0 (Qp.ok_eq T.T FE B.isinstance) bE, Qp.fnR0 (Qp.ok_str T.T FG) bG, bP, bD, bW, bS, bT, bTb, F1.m, F2.m, F3.m, F4.m, F8.m, F9.m, F1.F.kp, F2.F.kp, F3.F.kp, F4.F.kp, F8.F.kp, F9.F.kp, aE, nE, aG, nG⟩
