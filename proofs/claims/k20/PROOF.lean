import PyProof.Rows.All
import Wide.All
import OpenK.AllK
import Wide.FinOn
import KE.KExcSuper
import KE.KExcIs
import KE.RegKSuper
import KE.GoesMore
import HandS.ForMost
import HandS.EndBits
import HandS.Wide
import HandS.Star
import HandS.IsInst
import HandS.Codes
import HandS.More
import HandS.StrMore
import HandS.ClsMeth
import HandS.SlotsOwn
import HandS.Steps
import HandS.Walk
import HandS.FStrTup
import HandS.FStr
import HandS.ExcInit
import HandS.ExcField
import HandS.ExcIs
import HandS.ExcOwn
import HandS.WordsExc
import HandS.DictComp
import HandS.CallLocal
import HandS.Zip
import HandS.Property
import HandS.MethStar
import PySem.Challenge.RW_quietprobes_k20_rows_and_looks_told
set_option Elab.async false
set_option maxRecDepth 100000
set_option maxHeartbeats 4000000
set_option linter.all false
namespace Qp
open PySem L2
def top (i : Nat) : Stmt := PySem.Challenge.pw_quietprobes_k20_rows_and_looks_told.main.body.getD i (.Pass ⟨0, 0, 0, 0⟩)
abbrev sIsName : Stmt := top 2
abbrev sIsLook : Stmt := top 14
abbrev sIsRow : Stmt := top 15
abbrev sOne : Stmt := top 16
abbrev sHasP : Stmt := top 17
abbrev sAre : Stmt := top 18
abbrev sIsProbe : Stmt := top 19
abbrev sPool : Stmt := top 21
abbrev sDraw : Stmt := top 22
abbrev sWord : Stmt := top 23
abbrev sFLook : Stmt := top 24
abbrev sFProbe : Stmt := top 25
abbrev sFRow : Stmt := top 26
abbrev sSame : Stmt := top 27
abbrev sLaw : Stmt := top 28
/-! ### the pool of drawn numbers -/
/-- all objects but the two of the pool stay -/
def Keeps (p q : Addr) (H H' : Hp) : Prop := ∀ x o, x ≠ p → x ≠ q → H x = some o → H' x = some o
theorem Keeps.refl (p q : Addr) (H : Hp) : Keeps p q H H := fun _ _ _ _ e => e
theorem Keeps.trans {p q : Addr} {H H1 H2 : Hp} (a : Keeps p q H H1) (b : Keeps p q H1 H2) : Keeps p q H H2 := fun x o h1 h2 e => b x o h1 h2 (a x o h1 h2 e)
theorem Keeps.of_same {p q : Addr} {H H1 : Hp} (a : Same H H1) : Keeps p q H H1 := fun x o _ _ e => a x o e
theorem Keeps.upd_p {p q : Addr} {H : Hp} {o : HO} : Keeps p q H (upd H p o) := fun x u h1 _ e => by
  rw [upd_ne h1]; exact e
theorem Keeps.upd_q {p q : Addr} {H : Hp} {o : HO} : Keeps p q H (upd H q o) := fun x u _ h2 e => by
  rw [upd_ne h2]; exact e
theorem Keeps.upd_new {p q a : Addr} {H : Hp} {o : HO} (n : H a = none) : Keeps p q H (upd H a o) := fun x u _ _ e => by
  rw [upd_ne (ne_of_none e n)]; exact e
theorem Keeps.free {p q a : Addr} {H H1 : Hp} (k : Keeps p q H H1) (n : H1 a = none) (hp : a ≠ p) (hq : a ≠ q) : H a = none := by
  cases e : H a with
  | none => rfl
  | some o => rw [k a o hp hq e] at n; cases n
/-- the pool's two lists: how many numbers were drawn is n -/
structure PoolAt (H : Hp) (p q : Addr) (n : Nat) : Prop where
  ne : p ≠ q
  ex : ∃ (cs : List Int) (b c : Int), H p = some (.lst [.ref q, .int b, .int (n : Int), .int c]) ∧ H q = some (.lst (cs.map V.int)) ∧ cs.length ≤ 1000 ∧ 0 ≤ b ∧ 0 ≤ c ∧ c < 2147483629
theorem PoolAt.p_some {H : Hp} {p q : Addr} {n : Nat} (h : PoolAt H p q n) : ∃ o, H p = some o := let ⟨_, _, _, e, _⟩ := h.ex; ⟨_, e⟩
theorem PoolAt.q_some {H : Hp} {p q : Addr} {n : Nat} (h : PoolAt H p q n) : ∃ o, H q = some o := let ⟨_, _, _, _, e, _⟩ := h.ex; ⟨_, e⟩
theorem PoolAt.same {H H' : Hp} {p q : Addr} {n : Nat} (h : PoolAt H p q n) (s : Same H H') : PoolAt H' p q n := by
  obtain ⟨ne, cs, b, c, e1, e2, r⟩ := h
  exact ⟨ne, cs, b, c, s _ _ e1, s _ _ e2, r⟩
theorem PoolAt.new {H : Hp} {p q a : Addr} {n : Nat} {o : HO} (h : PoolAt H p q n) (na : H a = none) : PoolAt (upd H a o) p q n :=
  h.same fun x u e => by rw [upd_ne (ne_of_none e na)]; exact e
section
variable {X : Cx}
theorem get_list : PGet X (rIxL X.K) := by
  intro pins s σ H o i ov iv Q I ro ri h
  obtain ⟨p, xs, k, z, rfl, rfl, hq, he, q⟩ := h
  cases ro
  obtain ⟨t, rfl⟩ := ri
  obtain ⟨its, r, pl, hz⟩ := I.list hq
  obtain ⟨j, h1, h2, h3, h4, h5⟩ := atI_get he
  obtain ⟨w, ew, rw'⟩ := r.get h2
  have hl := r.length
  have hn := line63
  have fin : EP X pins σ Q w s := ⟨z, H, I, rw', q⟩
  by_cases h0 : 0 ≤ k
  · have hj : k.toNat = j := by
      rw [seqIndex_of h0 h5] at h1
      exact Option.some.inj h1
    exact wpAny_getItem_list pl.isList h0 (by omega) (by rw [hj]; simpa using ew) fin
  · have hj : (k + (its.toArray.size : Int)).toNat = j := by
      rw [seqIndex_neg (by omega) h4] at h1
      rw [List.size_toArray, ← hl]
      exact Option.some.inj h1
    exact wpAny_getItem_list_neg pl.isList (by omega) (by rw [List.size_toArray] <;> omega) (by omega) (by rw [hj]; simpa using ew) fin
end
theorem div_many {b m : Int} (h0 : 0 < m) (h1 : m ≤ 10 ^ 40) : CDivW b m := by
  refine wide_div (b := 200) h0 ?_ (by decide) (by decide)
  have h : m.natAbs ≤ 10 ^ 40 := by omega
  exact Nat.lt_of_le_of_lt h (by decide)
def spDraw : Sp := fun vs H Q _ => ∃ (p q : Addr) (n : Nat) (m : Int), vs = [.ref p, .int m] ∧ PoolAt H p q n ∧ n < 1000000 ∧ 0 < m ∧ m ≤ 10 ^ 40 ∧
  ∀ (d : Int) (H' : Hp), 0 ≤ d → d < m → PoolAt H' p q (n + 1) → Keeps p q H H' → Q (.int d) H'
section
variable {P : Program} {w : World} {K : PySem.W.Frag} {mg : Str → Option Value} {base : Heap}
theorem scD : FnScope ["pool", "many", "cell", "code", "digit", "far", "mixed"] ["pool", "many"] (defScope sDraw) := ⟨rfl, rfl, rfl, by decide +kernel, rfl, by decide +kernel, by decide +kernel⟩
theorem ok_draw {f : Addr} {fd : FuncData} {k : Nat} (F : Fun K "_law_draw" "_law_draw" sDraw f fd) (mi : mg "int" = none) : FnOk P w K mg base CX0 (k + 1) f fd ["pool", "many"] spDraw := by
  refine F.ok scD (fun vs H Q E h => ?_) (fun cdv A outer s H vs Q E hr h => ?_)
  · obtain ⟨p, q, n, m, rfl, _⟩ := h
    rfl
  · obtain ⟨p, q, n, m, rfl, ⟨npq, cs, b, c, hp, hq, hcs, hb, hc0, hc1⟩, hn, hm0, hm1, kk⟩ := h
    refine ⟨_,
      pss_cons (ps_augS (pv 0) pe_int get_list pe_int ip_add set_list)
      (C8.pss_cut (ps_if (PW.pt (pw_and (pt_cmpR op_eq (pe_ix ix_list (pv 0) pe_int (fun _ _ => rfl)) pe_int (nomark _)) (pw_and1 (pt_truth (pe_ix ix_list (pv 0) pe_int (fun _ _ => rfl)) (by intro _; rfl)))))
        (pss_cons (ps_set (i := 2) scD.nd rfl (.inl rfl) (pe_callTy call_int1 (by rfl) mi (by decide +kernel) (pa_cons (pe_bm PySem.F.plainAttrs_list PySem.F.slot_list_pop PySem.F.type_list_pop mt_popAt (pe_ix ix_list (pv 0) pe_int (fun _ _ => rfl)) (pa_cons pe_int pa_nil)) pa_nil)))
        (C8.pss_cut (ps_set (i := 3) scD.nd rfl (.inl rfl) (pe_ifExp (pt_cmpR op_ge (pv 2) pe_int (nomark _)) (pe_op op_mul pe_int (pv 2)) (pe_op op_sub (pe_un un_neg pe_int) (pe_op op_mul pe_int (pv 2)))))
        (pss_one (ps_if (pt_cmpR op_ge (pv 3) (pe_op op_pow pe_int pe_int) (nomark _))
          (pss_one (ps_asg (pv 3) (pg_sub (pv 0) pe_int set_list)))
          (pss_one (ps_asg (pe_op op_mod (pe_callTy call_int1 (by rfl) mi (by decide +kernel) (pa_cons (pe_op op_add (pe_op op_add (pe_op op_mul (pe_ix ix_list (pv 0) pe_int (fun _ _ => rfl)) pe_int) (pe_op op_mul (pv 3) pe_int)) pe_int) pa_nil)) pe_int) (pg_sub (pv 0) pe_int set_list)))))))
        pss_nil)
      (pss_cons (ps_if (pt_cmpR op_gt (pe_ix ix_list (pv 0) pe_int (fun _ _ => rfl)) pe_int (nomark _))
        (pss_cons (ps_set (i := 4) scD.nd rfl (.inl rfl) (pe_op op_mod (pe_callTy call_int1 (by rfl) mi (by decide +kernel) (pa_cons (pe_ix ix_list (pv 0) pe_int (fun _ _ => rfl)) pa_nil)) (pv 1)))
        (pss_cons (ps_asg (pe_op op_fdivW (pe_ix ix_list (pv 0) pe_int (fun _ _ => rfl)) (pv 1)) (pg_sub (pv 0) pe_int set_list))
        (pss_one (ps_ret (pv 4)))))
        pss_nil)
      (pss_cons (ps_if (pt_cmpR op_eq (pe_ix ix_list (pv 0) pe_int (fun _ _ => rfl)) pe_int (nomark _)) (pss_one (ps_ret pe_int)) pss_nil)
      (pss_cons (ps_set (i := 5) scD.nd rfl (.inl rfl) (pe_op op_add (pe_op op_mul (pe_ix ix_list (pv 0) pe_int (fun _ _ => rfl)) pe_int) (pe_op op_mul (pe_op op_mul (pe_ix ix_list (pv 0) pe_int (fun _ _ => rfl)) (pe_ix ix_list (pv 0) pe_int (fun _ _ => rfl))) pe_int)))
      (pss_cons (ps_set (i := 6) scD.nd rfl (.inl rfl) (pe_op op_mod (pe_callTy call_int1 (by rfl) mi (by decide +kernel) (pa_cons (pe_op op_add (pe_op op_mul (pe_ix ix_list (pv 0) pe_int (fun _ _ => rfl)) pe_int) (pv 5)) pa_nil)) pe_int))
      (pss_one (ps_ret (pe_op op_mod (pe_op op_mod (pe_callTy call_int1 (by rfl) mi (by decide +kernel) (pa_cons (pe_op op_fdiv (pe_op op_mul (pv 6) pe_int) pe_int) pa_nil)) pe_int) (pv 1))))))))), ?_⟩
    -- pool[2] += 1
    have g : ∀ {H : Hp} {x y z t : V}, H p = some (.lst [x, y, z, t]) → SqL K H p [x, y, z, t] := fun e => SqL.of e
    refine ⟨_, rfl, p, _, 2, _, rfl, rfl, g hp, atI_nat (j := 2) rfl, n, 1, rfl, rfl, p, _, 2, 2, rfl, rfl, hp, rfl, ?_⟩
    have K1 : Keeps p q H (upd H p (.lst [.ref q, .int b, .int ((n : Int) + 1), .int c])) := Keeps.upd_p
    have hp1 : (upd H p (.lst [.ref q, .int b, .int ((n : Int) + 1), .int c])) p = some (.lst [.ref q, .int b, .int ((n : Int) + 1), .int c]) := upd_same
    have hq1 : (upd H p (.lst [.ref q, .int b, .int ((n : Int) + 1), .int c])) q = some (.lst (cs.map V.int)) := by rw [upd_ne npq.symm]; exact hq
    refine ⟨fun σ H1 => ∃ (cs b c : _) (y2 y3 : Option V), σ = [some (.ref p), some (.int m), y2, y3, none, none, none] ∧ Keeps p q H H1 ∧
      H1 p = some (.lst [.ref q, .int b, .int ((n : Int) + 1), .int c]) ∧ H1 q = some (.lst (List.map V.int cs)) ∧ cs.length ≤ 1000 ∧ 0 ≤ b ∧ 0 ≤ c ∧ c < 2147483629, ?_, ?_⟩
    · -- if pool[1] == 0 and pool[0]
      refine ⟨_, rfl, p, _, 1, _, rfl, rfl, g hp1, atI_nat (j := 1) rfl, rfl, _, rfl, ?_⟩
      refine ite2 (fun _ => ?_) (fun _ => ?_)
      · refine ⟨_, rfl, p, _, 0, _, rfl, rfl, g hp1, atI_nat (j := 0) rfl, _, .inl ⟨_, SqL.of hq1, rfl⟩, ?_⟩
        cases cs with
        | nil =>
          refine iteF ?_
          exact ⟨[], b, c, none, none, rfl, K1, hp1, hq1, Nat.zero_le _, hb, hc0, hc1⟩
        | cons z r =>
          refine iteT ?_
          -- cell = int(pool[0].pop(0))
          refine ⟨_, rfl, p, _, 0, _, rfl, rfl, g hp1, atI_nat (j := 0) rfl, .inl ⟨rfl, _, SqL.of hq1⟩, q, _, 0, 0, _, rfl, rfl, hq1, by decide, by decide, seqIndex_of (by decide) (by simp), rfl, ?_⟩
          have hq2 : (upd (upd H p (.lst [.ref q, .int b, .int ((n : Int) + 1), .int c])) q (.lst (r.map V.int))) q = some (.lst (r.map V.int)) := upd_same
          have hp2 : (upd (upd H p (.lst [.ref q, .int b, .int ((n : Int) + 1), .int c])) q (.lst (r.map V.int))) p = some (.lst [.ref q, .int b, .int ((n : Int) + 1), .int c]) := by
            rw [upd_ne npq, hp1]
          have K2 : Keeps p q H (upd (upd H p (.lst [.ref q, .int b, .int ((n : Int) + 1), .int c])) q (.lst (r.map V.int))) := K1.trans .upd_q
          refine .inl ⟨z, rfl, ?_⟩
          have hr1 : r.length ≤ 1000 := Nat.le_of_succ_le hcs
          -- code
          refine ⟨fun σ H1 => ∃ code : Int, σ = [some (.ref p), some (.int m), some (.int z), some (.int code), none, none, none] ∧ 0 ≤ code ∧ H1 = upd (upd H p (.lst [.ref q, .int b, .int ((n : Int) + 1), .int c])) q (.lst (r.map V.int)), ?_, ?_⟩
          · refine ⟨_, rfl, _, _, rfl, rfl, _, rfl, ?_⟩
            refine ite2 (fun hz => ?_) (fun hz => ?_)
            · have hz' : 0 ≤ z := of_decide_eq_true hz
              exact ⟨_, rfl, _, _, rfl, rfl, .inl (by decide), 2 * z, rfl, by omega, rfl⟩
            · have hz' : ¬ 0 ≤ z := fun e => hz (decide_eq_true e)
              exact ⟨_, rfl, _, rfl, _, _, rfl, rfl, .inl (by decide), _, _, rfl, rfl, -1 - 2 * z, rfl, by omega, rfl⟩
          · rintro σ H1 ⟨code, rfl, hcode, rfl⟩
            refine ⟨_, rfl, _, _, rfl, rfl, ⟨by decide, by decide, by decide⟩, _, _, rfl, rfl, _, rfl, ?_⟩
            refine ite2 (fun hz => ?_) (fun hz => ?_)
            · refine ⟨_, rfl, _, rfl, p, _, 1, 1, rfl, rfl, hp2, rfl, ?_⟩
              exact ⟨r, code, c, _, _, rfl, K2.trans .upd_p, upd_same, by rw [upd_ne npq.symm]; exact hq2, hr1, hcode, hc0, hc1⟩
            · have hz' : ¬ ((10 : Int) ^ (18 : Int).toNat ≤ code) := fun e => hz (decide_eq_true e)
              refine ⟨_, rfl, p, _, 3, _, rfl, rfl, g hp2, atI_nat (j := 3) rfl, _, _, rfl, rfl, .inl ⟨by omega, by omega⟩, _, rfl, _, _, rfl, rfl, .inr (by decide), _, _, rfl, rfl, _, _, rfl, rfl, .inl ⟨_, rfl, _, _, rfl, rfl, (by show (0 : Int) < 2147483629; decide), _, rfl, p, _, 3, 3, rfl, rfl, hp2, rfl, ?_⟩⟩
              refine ⟨r, b, _, _, _, rfl, K2.trans .upd_p, upd_same, by rw [upd_ne npq.symm]; exact hq2, hr1, hb, Int.emod_nonneg _ (by decide), Int.emod_lt_of_pos _ (by decide)⟩
      · exact ⟨cs, b, c, none, none, rfl, K1, hp1, hq1, hcs, hb, hc0, hc1⟩
    · rintro σ H1 ⟨cs, b, c, y2, y3, rfl, K1, hp1, hq1, hcs, hb, hc0, hc1⟩
      have en : ((n : Int) + 1) = ((n + 1 : Nat) : Int) := by omega
      rw [en] at hp1
      -- if pool[1] > 0
      refine ⟨_, rfl, p, _, 1, _, rfl, rfl, g hp1, atI_nat (j := 1) rfl, _, _, rfl, rfl, _, rfl, ?_⟩
      refine ite2 (fun h1 => ?_) (fun h1 => ?_)
      · have hdm : (0 : Int) < m := hm0
        refine ⟨_, rfl, p, _, 1, _, rfl, rfl, g hp1, atI_nat (j := 1) rfl, .inl ⟨_, rfl, _, rfl, _, _, rfl, rfl, hm0, ?_⟩⟩
        refine ⟨_, rfl, p, _, 1, _, rfl, rfl, g hp1, atI_nat (j := 1) rfl, _, rfl, _, _, rfl, rfl, div_many hm0 hm1, ?_⟩
        refine ⟨_, rfl, p, _, 1, 1, rfl, rfl, hp1, rfl, ?_⟩
        refine ⟨_, rfl, ?_⟩
        exact kk _ _ (Int.emod_nonneg _ (by omega)) (Int.emod_lt_of_pos _ hm0) ⟨npq, cs, b / m, c, upd_same, by rw [upd_ne npq.symm]; exact hq1, hcs, Int.ediv_nonneg hb (by omega), hc0, hc1⟩ (K1.trans .upd_p)
      · -- if pool[3] == 0
        refine ⟨_, rfl, p, _, 3, _, rfl, rfl, g hp1, atI_nat (j := 3) rfl, rfl, _, rfl, ?_⟩
        refine ite2 (fun h3 => ?_) (fun h3 => ?_)
        · exact kk 0 _ (by decide) hm0 ⟨npq, cs, b, c, hp1, hq1, hcs, hb, hc0, hc1⟩ K1
        · refine ⟨_, rfl, p, _, 2, _, rfl, rfl, g hp1, atI_nat (j := 2) rfl, _, _, rfl, rfl, .inr (by decide), _, rfl, p, _, 2, _, rfl, rfl, g hp1, atI_nat (j := 2) rfl, _, rfl, p, _, 2, _, rfl, rfl, g hp1, atI_nat (j := 2) rfl, _, _, rfl, rfl, .inl ⟨by omega, by omega⟩, _, _, rfl, rfl, .inr (by decide), _, _, rfl, rfl, ?_⟩
          refine ⟨_, rfl, p, _, 3, _, rfl, rfl, g hp1, atI_nat (j := 3) rfl, _, _, rfl, rfl, .inl ⟨by omega, by omega⟩, _, rfl, _, _, rfl, rfl, .inl ⟨_, rfl, _, _, rfl, rfl, (by show (0 : Int) < 2147483647; decide), ?_⟩⟩
          refine ⟨_, rfl, _, _, rfl, rfl, .inr (by decide), _, _, rfl, rfl, ⟨by decide, by decide⟩, .inl ⟨_, rfl, _, _, rfl, rfl, (by show (0 : Int) < 2147483629; decide), _, rfl, _, _, rfl, rfl, hm0, ?_⟩⟩
          exact kk _ _ (Int.emod_nonneg _ (by omega)) (Int.emod_lt_of_pos _ hm0) ⟨npq, cs, b, c, hp1, hq1, hcs, hb, hc0, hc1⟩ K1
end
/-! ### the pool made, a word drawn -/
theorem cut_take (xs : List V) (k : Nat) : cutV xs none (some (k : Int)) = xs.take k := by
  unfold cutV
  rw [HT.sIx_nat, HT.sIx_none]
  show (xs.drop 0).take (min k xs.length - 0) = xs.take k
  rw [List.drop_zero, Nat.sub_zero]
  by_cases h : k ≤ xs.length
  · rw [Nat.min_eq_left h]
  · rw [Nat.min_eq_right (by omega), List.take_of_length_le (Nat.le_refl _), List.take_of_length_le (by omega)]
def spPool (K : PySem.W.Frag) : Sp := fun vs H Q _ => ∃ (a : Addr) (ns : List Int), vs = [.ref a] ∧ SqL K H a (ns.map V.int) ∧ ns.length ≤ 63 ∧ ∀ (p q : Addr) (H' : Hp), H p = none → H q = none → PoolAt H' p q 0 → Same H H' → Q (.ref p) H'
/-- one to eight letters -/
def IsWord (z : Str) : Prop := 1 ≤ z.length ∧ z.length ≤ 8 ∧ ∀ c ∈ z.cps.toList, 97 ≤ c ∧ c ≤ 122
def spWord : Sp := fun vs H Q _ => ∃ (p q : Addr) (n : Nat), vs = [.ref p] ∧ PoolAt H p q n ∧ n < 900000 ∧
  ∀ (z : Str) (n' : Nat) (H' : Hp), IsWord z → n ≤ n' → n' ≤ n + 9 → PoolAt H' p q n' → Keeps p q H H' → Q (.str z) H'
theorem sum_ones : ∀ ys : List Str, (∀ y ∈ ys, y.length = 1) → (ys.map (·.length)).sum = ys.length
  | [], _ => rfl
  | x :: r, h => by
    rw [List.map_cons, List.sum_cons, h x List.mem_cons_self, sum_ones r fun y hy => h y (List.mem_cons_of_mem _ hy), List.length_cons]
    omega
theorem join_letters {sep : Str} (hs : sep.cps.toList = []) : ∀ ys : List Str, (∀ y ∈ ys, ∃ c, y = ⟨#[c]⟩ ∧ 97 ≤ c ∧ c ≤ 122) → (Str.join sep ys).length = ys.length ∧ ∀ c ∈ (Str.join sep ys).cps.toList, 97 ≤ c ∧ c ≤ 122
  | [], _ => ⟨rfl, fun c h => by cases h⟩
  | [x], h => by
    obtain ⟨c, rfl, h1, h2⟩ := h x List.mem_cons_self
    exact ⟨rfl, fun d hd => by
      have e : d = c := List.mem_singleton.mp hd
      rw [e]; exact ⟨h1, h2⟩⟩
  | x :: y :: r, h => by
    obtain ⟨c, rfl, h1, h2⟩ := h x List.mem_cons_self
    obtain ⟨i1, i2⟩ := join_letters hs (y :: r) fun z hz => h z (List.mem_cons_of_mem _ hz)
    have sl : sep.length = 0 := by
      show sep.cps.size = 0
      rw [← Array.length_toList, hs]; rfl
    have e : (Str.join sep ((⟨#[c]⟩ : Str) :: y :: r)) = (⟨#[c]⟩ : Str) ++ sep ++ Str.join sep (y :: r) := rfl
    rw [e]
    refine ⟨?_, fun d hd => ?_⟩
    · rw [strLen_append, strLen_append, i1, sl]
      show 1 + 0 + (y :: r).length = _
      simp only [List.length_cons]; omega
    · rcases PyProof.Rows.mem_cps_append.mp hd with hd | hd
      · rcases PyProof.Rows.mem_cps_append.mp hd with hd | hd
        · have e : d = c := List.mem_singleton.mp hd
          rw [e]; exact ⟨h1, h2⟩
        · rw [hs] at hd; cases hd
      · exact i2 d hd
def abc : Str := "abcdefghijklmnopqrstuvwxyz"
theorem abc_len : abc.length = 26 := by decide +kernel
theorem abc_at (d : Int) (h0 : 0 ≤ d) (h1 : d < 26) : ∃ c, atI abc.cps.toList d = some c ∧ 97 ≤ c ∧ c ≤ 122 := by
  obtain ⟨k, rfl⟩ : ∃ k : Nat, d = (k : Int) := ⟨d.toNat, by omega⟩
  have hk : k < 26 := by omega
  have all : ∀ k : Fin 26, ∃ c, abc.cps.toList[k.val]? = some c ∧ 97 ≤ c ∧ c ≤ 122 := by
    have h : ∀ k : Fin 26, (match abc.cps.toList[k.val]? with | some c => decide (97 ≤ c ∧ c ≤ 122) | none => false) = true := by decide +kernel
    intro k
    have := h k
    cases e : abc.cps.toList[k.val]? with
    | none => rw [e] at this; cases this
    | some c =>
      rw [e] at this
      exact ⟨c, rfl, of_decide_eq_true this⟩
  obtain ⟨c, e, r⟩ := all ⟨k, hk⟩
  exact ⟨c, atI_nat e, r⟩
section
variable {P : Program} {w : World} {K : PySem.W.Frag} {mg : Str → Option Value} {base : Heap}
theorem scP : FnScope ["script"] ["script"] (defScope sPool) := ⟨rfl, rfl, rfl, by decide +kernel, rfl, by decide +kernel, by decide +kernel⟩
theorem ok_pool {f : Addr} {fd : FuncData} {k : Nat} (F : Fun K "_law_pool" "_law_pool" sPool f fd) (ml : mg "list" = none) : FnOk P w K mg base CX0 (k + 1) f fd ["script"] (spPool K) := by
  refine F.ok scP (fun vs H Q E h => ?_) (fun cdv A outer s H vs Q E hr h => ?_)
  · obtain ⟨a, ns, rfl, _⟩ := h
    rfl
  · obtain ⟨a, ns, rfl, hS, hl, kk⟩ := h
    refine ⟨_, pss_one (ps_ret (pe_lst (pa_cons (pe_callTy call_list_of (by rfl) ml (by decide +kernel) (pa_cons (pe_slice sl_list (pv 0) po_none (po_some pe_int)) pa_nil)) (pa_cons pe_int (pa_cons pe_int (pa_cons pe_int pa_nil)))))), ?_⟩
    refine ⟨.ref a, rfl, 63, rfl, a, _, rfl, hS, fun c nc => ?_⟩
    have e : cutV (ns.map V.int) none (some 63) = (ns.take 63).map V.int := by
      rw [List.map_take]; exact cut_take _ 63
    rw [e]
    refine ⟨c, _, rfl, .inl (SqL.of upd_same), fun q nq => ?_⟩
    refine ⟨by show 4 ≤ sizeLine; decide, fun p np => ?_⟩
    have hc : (upd H c (.lst ((ns.take 63).map V.int))) c = some (.lst ((ns.take 63).map V.int)) := upd_same
    have s1 : Same H (upd H c (.lst ((ns.take 63).map V.int))) := fun b o z => by rw [upd_ne (ne_of_none z nc)]; exact z
    have s2 : Same (upd H c (.lst ((ns.take 63).map V.int))) (upd (upd H c (.lst ((ns.take 63).map V.int))) q (.lst ((ns.take 63).map V.int))) := fun b o z => by rw [upd_ne (ne_of_none z nq)]; exact z
    have hq : (upd (upd H c (.lst ((ns.take 63).map V.int))) q (.lst ((ns.take 63).map V.int))) q = some (.lst ((ns.take 63).map V.int)) := upd_same
    have s3 := fun o => (fun b u z => by rw [upd_ne (ne_of_none z np)]; exact z : Same (upd (upd H c (.lst ((ns.take 63).map V.int))) q (.lst ((ns.take 63).map V.int))) (upd _ p o))
    refine kk p q _ ((s1.trans s2).free np) (s1.free nq) ⟨(ne_of_none hq np).symm, ns.take 63, 0, 0, upd_same, s3 _ _ _ hq, by rw [List.length_take]; omega, by decide, by decide, by decide⟩ ((s1.trans s2).trans (s3 _))
theorem scW : FnScope ["pool", "letters", "k"] ["pool"] (defScope sWord) := ⟨rfl, rfl, rfl, by decide +kernel, rfl, by decide +kernel, by decide +kernel⟩
theorem ok_word {f fD : Addr} {fd fdD : FuncData} (F : Fun K "_law_word" "_law_word" sWord f fd) (GD : FnOk P w K mg base CX0 1 fD fdD ["pool", "many"] spDraw) (mD : mg "_law_draw" = some (.ref fD)) (kD : PySem.W.keepIn K (.ref fD) = true)
    (bD : Binds K fdD ["pool", "many"] []) (mr : mg "range" = none) : FnOk P w K mg base CX0 2 f fd ["pool"] spWord := by
  refine F.ok scW (fun vs H Q E h => ?_) (fun cdv A outer s H vs Q E hr h => ?_)
  · obtain ⟨p, q, n, rfl, _⟩ := h
    rfl
  · obtain ⟨p, q, n, rfl, hP, hn, kk⟩ := h
    refine ⟨_, pss_cons (ps_set (i := 1) scW.nd rfl (.inr rfl) pe_str)
      (pss_one (ps_ret (pe_join pe_str (pe_lc (own := [("k", 2)]) (g := gName 2) (tt := tYes) rfl scW.nd
        (pi_range1 (by rfl) mr (pa_cons (pe_op op_add pe_int (pe_call GD hr (by rfl) mD kD bD .nil pass0 (pa_cons (pv 0) (pa_cons pe_int pa_nil)))) pa_nil))
        (blkOk_by (N := ["pool", "letters", "k"]) (sc := defScope sWord) (by decide +kernel))
        (fun _ _ _ _ _ => pg_name (i := 2) scW.nd rfl (.inl rfl)) (fun _ _ _ _ _ => pts_nil)
        (fun _ _ _ _ _ => pe_ix ix_str (pv 1) (pe_call GD hr (by rfl) mD kD bD .nil pass0 (pa_cons (pv 0) (pa_cons pe_int pa_nil))) (fun _ _ => rfl)))))), ?_⟩
    refine ⟨⟨_, rfl⟩, .ref p, rfl, p, q, n, 8, rfl, hP, by omega, by decide, by decide, fun d H1 h0 h1 P1 K1 => ?_⟩
    refine ⟨1, d, rfl, rfl, 1 + d, rfl, (by omega), (by omega), fun D nD => ?_⟩
    obtain ⟨op, ep⟩ := P1.p_some
    obtain ⟨oq, eq⟩ := P1.q_some
    have nDp : D ≠ p := (ne_of_none ep nD).symm
    have nDq : D ≠ q := (ne_of_none eq nD).symm
    have em : (1 + d).toNat ≤ 8 := by omega
    refine lc_range (lo := 0) (n := (1 + d).toNat) (fun i H2 => ∃ ys : List Str, H2 D = some (.lst (ys.map V.str)) ∧ ys.length = i ∧ (∀ y ∈ ys, ∃ c, y = ⟨#[c]⟩ ∧ 97 ≤ c ∧ c ≤ 122) ∧ PoolAt H2 p q (n + 1 + i) ∧ Keeps p q H H2)
      ⟨[], upd_same, rfl, fun y hy => (by cases hy), P1.new nD, K1.trans (.upd_new nD)⟩ (fun i H2 hi hI => ?_) (fun H2 hI => ?_)
    · obtain ⟨ys, eD, el, hy, P2, K2⟩ := hI
      refine ⟨rfl, ?_⟩
      refine ⟨_, rfl, _, rfl, p, q, n + 1 + i, 26, rfl, P2, by omega, by decide, by decide, fun d2 H3 h02 h12 P3 K3 => ?_⟩
      obtain ⟨c, ec, hc1, hc2⟩ := abc_at d2 h02 h12
      have eD3 : H3 D = some (.lst (ys.map V.str)) := K3 D _ nDp nDq eD
      refine ⟨abc, d2, c, rfl, rfl, by rw [abc_len]; decide, ec, _, eD3, small1000 (by rw [List.length_map]; omega), ys ++ [⟨#[c]⟩], ?_, by simp [el], fun y hm => ?_, ?_, ?_⟩
      · rw [upd_same, List.map_append]; rfl
      · rcases List.mem_append.mp hm with hm | hm
        · exact hy y hm
        · exact ⟨c, List.mem_singleton.mp hm, hc1, hc2⟩
      · have e : n + 1 + (i + 1) = n + 1 + i + 1 := by omega
        rw [e]
        obtain ⟨npq, cs, b, c0, e1, e2, r⟩ := P3
        exact ⟨npq, cs, b, c0, by rw [upd_ne nDp.symm]; exact e1, by rw [upd_ne nDq.symm]; exact e2, r⟩
      · intro x o hx1 hx2 nH
        have ex := K3 x o hx1 hx2 (K2 x o hx1 hx2 nH)
        by_cases hxD : x = D
        · subst hxD
          rw [K1.free nD nDp nDq] at nH
          cases nH
        · rw [upd_ne hxD]; exact ex
    · obtain ⟨ys, eD, el, hy, P2, K2⟩ := hI
      obtain ⟨j1, j2⟩ := join_letters (sep := "") (by decide +kernel) ys hy
      have e1 : ∀ y ∈ ys, y.length = 1 := fun y hm => by
        obtain ⟨c, rfl, _⟩ := hy y hm
        rfl
      have e2 : (ys.map (·.length)).sum = ys.length := sum_ones _ e1
      refine ⟨_, D, ys, rfl, rfl, .inl (SqL.of eD), ?_, ?_⟩
      · rw [e2, show (Str.ofString "").length = 0 by decide +kernel]; omega
      · rw [show Txt.join _ ys = Str.join _ ys from StrLaws.glued_eq_join _ _]
        exact kk _ (n + 1 + (1 + d).toNat) H2 ⟨by rw [j1]; omega, by rw [j1]; omega, j2⟩ (by omega) (by omega) P2 K2
end
/-! ### two data are the same -/
/-- no deeper than that -/
def dp : Nat → PyData → Prop
  | 0, _ => False
  | _ + 1, .none => True
  | _ + 1, .bool _ => True
  | _ + 1, .int _ => True
  | _ + 1, .str _ => True
  | m + 1, .list xs => xs.length ≤ 1000000 ∧ ∀ x ∈ xs, dp m x
  | m + 1, .tuple xs => xs.length ≤ 1000000 ∧ ∀ x ∈ xs, dp m x
  | _ + 1, .dict _ => False
theorem dp_mono : ∀ {m n : Nat} {d : PyData}, m ≤ n → dp m d → dp n d
  | 0, _, _, _, h => by simp [dp] at h
  | m + 1, 0, _, h, _ => by omega
  | m + 1, n + 1, d, h, hd => by
    cases d with
    | none => simp [dp]
    | bool b => simp [dp]
    | int i => simp [dp]
    | str s => simp [dp]
    | list xs =>
      simp only [dp] at hd ⊢
      exact ⟨hd.1, fun x hx => dp_mono (Nat.le_of_succ_le_succ h) (hd.2 x hx)⟩
    | tuple xs =>
      simp only [dp] at hd ⊢
      exact ⟨hd.1, fun x hx => dp_mono (Nat.le_of_succ_le_succ h) (hd.2 x hx)⟩
    | dict xs => simp [dp] at hd
def tyName : PyData → String
  | .none => "NoneType"
  | .bool _ => "bool"
  | .int _ => "int"
  | .str _ => "str"
  | .list _ => "list"
  | .tuple _ => "tuple"
  | .dict _ => "dict"
theorem ty_of {K : PySem.W.Frag} {H : Hp} {v : V} {d : PyData} (h : Dp K H v d) : TyX K H v (.type (tyName d)) := by
  cases h with
  | non => exact .base .non
  | bl b => exact .base (.bl b)
  | int i => exact .base (.int i)
  | str x => exact .base (.str x)
  | lst hs _ =>
    rcases hs with (h | ⟨o, h⟩) | ⟨o, its, n, hk, hc, _⟩
    · exact .base (.lst h)
    · exact .base (.frz h)
    · exact .kList hk hc
  | tup hs _ =>
    rcases hs with (h | ⟨o, h⟩) | ⟨o, its, n, hk, hc, _⟩
    · exact .base (.tup h)
    · exact .fTuple h
    · exact .kTuple hk hc
theorem isi {K : PySem.W.Frag} {H : Hp} {v : V} {d : PyData} {T : String} {b : Bool} {Q : VK} (h : Dp K H v d) (e : kitB (tyName d) T = some b) (q : Q (.bl b) H) : rIsi K [v, .ty T] H Q :=
  ⟨v, .ty T, _, _, b, rfl, ClsV.ty T, ty_of h, kit_ty e, q⟩
theorem dpAll_len {K : PySem.W.Frag} {H : Hp} : ∀ {vs : List V} {ds : List PyData}, DpAll K H vs ds → vs.length = ds.length
  | _, _, .nil => rfl
  | _, _, .cons _ t => by rw [List.length_cons, List.length_cons, dpAll_len t]
theorem dpAll_get {K : PySem.W.Frag} {H : Hp} : ∀ {vs : List V} {ds : List PyData} {i : Nat} {d : PyData}, DpAll K H vs ds → ds[i]? = some d → ∃ v, vs[i]? = some v ∧ Dp K H v d
  | _, _, _, _, .nil, e => by simp at e
  | _, _, 0, _, .cons h _, e => by
    have e' := Option.some.inj e
    subst e'
    exact ⟨_, rfl, h⟩
  | _, _, i + 1, _, .cons _ t, e => dpAll_get (i := i) t e
def spSame (K : PySem.W.Frag) (m : Nat) : Sp := fun vs H Q _ => ∃ (v u : V) (d : PyData), vs = [v, u] ∧ Dp K H v d ∧ Dp K H u d ∧ dp m d ∧ Q (.bl true) H
/-- what the names of classes and of len, range stand for -/
structure Bts (mg : Str → Option Value) : Prop where
  isinstance : mg "isinstance" = none
  bool : mg "bool" = none
  str : mg "str" = none
  int : mg "int" = none
  list : mg "list" = none
  tuple : mg "tuple" = none
  len : mg "len" = none
  range : mg "range" = none
section
variable {P : Program} {w : World} {K : PySem.W.Frag} {mg : Str → Option Value} {base : Heap}
theorem fn_never {f : Addr} {fd : FuncData} {ps : List Str} : FnOk P w K mg base CX0 0 f fd ps (fun _ _ _ _ => False) :=
  ⟨fun _ _ _ _ h => h.elim, fun _ _ _ _ _ _ _ _ _ _ _ _ _ h => h.elim⟩
theorem scS : FnScope ["actual", "due", "k"] ["actual", "due"] (defScope sSame) := ⟨rfl, rfl, rfl, by decide +kernel, rfl, by decide +kernel, by decide +kernel⟩
theorem ok_same {f : Addr} {fd : FuncData} (F : Fun K "_law_same" "_law_same" sSame f fd) (B : Bts mg) (mS : mg "_law_same" = some (.ref f)) (bS : Binds K fd ["actual", "due"] []) : ∀ m : Nat, FnOk P w K mg base CX0 m f fd ["actual", "due"] (spSame K m)
  | 0 => fn_never.imp fun vs H Q E h => by
    obtain ⟨v, u, d, _, _, _, h, _⟩ := h
    simp [dp] at h
  | m + 1 => by
    have IH := ok_same F B mS bS m
    refine F.ok scS (fun vs H Q E h => ?_) (fun cdv A outer s H vs Q E hr h => ?_)
    · obtain ⟨v, u, d, rfl, _⟩ := h
      rfl
    · obtain ⟨v, u, d, rfl, hv, hu, hd, kk⟩ := h
      refine ⟨_,
        pss_cons (ps_if (pt_cmpR op_isN (pv 1) pe_non (nomark _)) (pss_one (ps_ret (pe_cmp (pc_isN (pv 0)) rfl))) pss_nil)
        (pss_cons (ps_if (PW.pt (pw_or (pt_val (pe_callB call_isi (by rfl) B.isinstance (by decide +kernel) (pa_cons (pv 1) (pa_cons (pe_bltn (v := .ty "bool") (by rfl) B.bool (by decide +kernel) rfl) pa_nil))))
              (pw_or1 (pt_val (pe_callB call_isi (by rfl) B.isinstance (by decide +kernel) (pa_cons (pv 1) (pa_cons (pe_bltn (v := .ty "str") (by rfl) B.str (by decide +kernel) rfl) pa_nil)))))))
            (pss_cons (ps_if (PW.pt (pw_or
                (pt_cmpR op_ne (pe_callB call_isi (by rfl) B.isinstance (by decide +kernel) (pa_cons (pv 0) (pa_cons (pe_bltn (v := .ty "bool") (by rfl) B.bool (by decide +kernel) rfl) pa_nil)))
                  (pe_callB call_isi (by rfl) B.isinstance (by decide +kernel) (pa_cons (pv 1) (pa_cons (pe_bltn (v := .ty "bool") (by rfl) B.bool (by decide +kernel) rfl) pa_nil))) (nomark _))
                (pw_or1 (pt_cmpR op_ne (pe_callB call_isi (by rfl) B.isinstance (by decide +kernel) (pa_cons (pv 0) (pa_cons (pe_bltn (v := .ty "str") (by rfl) B.str (by decide +kernel) rfl) pa_nil)))
                  (pe_callB call_isi (by rfl) B.isinstance (by decide +kernel) (pa_cons (pv 1) (pa_cons (pe_bltn (v := .ty "str") (by rfl) B.str (by decide +kernel) rfl) pa_nil))) (nomark _)))))
                (pss_one (ps_ret pe_bl)) pss_nil)
              (pss_one (ps_ret (pe_cmpR op_eq (pv 0) (pv 1) (nomark _)))))
            pss_nil)
        (pss_cons (ps_if (pt_val (pe_callB call_isi (by rfl) B.isinstance (by decide +kernel) (pa_cons (pv 1) (pa_cons (pe_bltn (v := .ty "int") (by rfl) B.int (by decide +kernel) rfl) pa_nil))))
            (pss_one (ps_ret (pe_and (pe_callB call_isi (by rfl) B.isinstance (by decide +kernel) (pa_cons (pv 0) (pa_cons (pe_bltn (v := .ty "int") (by rfl) B.int (by decide +kernel) rfl) pa_nil)))
              (pe_and (pe_not (pe_callB call_isi (by rfl) B.isinstance (by decide +kernel) (pa_cons (pv 0) (pa_cons (pe_bltn (v := .ty "bool") (by rfl) B.bool (by decide +kernel) rfl) pa_nil))))
                (pe_one (pe_cmpR op_eq (pv 0) (pv 1) (nomark _)))))))
            pss_nil)
        (pss_cons (ps_if (PW.pt (pw_and (pt_val (pe_callB call_isi (by rfl) B.isinstance (by decide +kernel) (pa_cons (pv 1) (pa_cons (pe_bltn (v := .ty "list") (by rfl) B.list (by decide +kernel) rfl) pa_nil))))
              (pw_and1 (pt_not (pt_val (pe_callB call_isi (by rfl) B.isinstance (by decide +kernel) (pa_cons (pv 0) (pa_cons (pe_bltn (v := .ty "list") (by rfl) B.list (by decide +kernel) rfl) pa_nil))))))))
            (pss_one (ps_ret pe_bl)) pss_nil)
        (pss_cons (ps_if (PW.pt (pw_and (pt_val (pe_callB call_isi (by rfl) B.isinstance (by decide +kernel) (pa_cons (pv 1) (pa_cons (pe_bltn (v := .ty "tuple") (by rfl) B.tuple (by decide +kernel) rfl) pa_nil))))
              (pw_and1 (pt_not (pt_val (pe_callB call_isi (by rfl) B.isinstance (by decide +kernel) (pa_cons (pv 0) (pa_cons (pe_bltn (v := .ty "tuple") (by rfl) B.tuple (by decide +kernel) rfl) pa_nil))))))))
            (pss_one (ps_ret pe_bl)) pss_nil)
        (pss_cons (ps_if (pt_cmpR op_ne (pe_callB call_len_seq (by rfl) B.len PySem.boot_len (pa_cons (pv 0) pa_nil)) (pe_callB call_len_seq (by rfl) B.len PySem.boot_len (pa_cons (pv 1) pa_nil)) (nomark _)) (pss_one (ps_ret pe_bl)) pss_nil)
        (pss_cons (ps_for PassesOwn.never rfl (pi_range1 rfl B.range (pa_cons (pe_callB call_len_seq (by rfl) B.len PySem.boot_len (pa_cons (pv 1) pa_nil)) pa_nil)) (pg_name (i := 2) scS.nd rfl (.inl rfl))
            (pss_one (ps_if (pt_not (pt_val (pe_call IH hr (by rfl) mS F.kp bS .nil pass0 (pa_cons (pe_ix ix_seq (pv 0) (pv 2) (fun _ _ => rfl)) (pa_cons (pe_ix ix_seq (pv 1) (pv 2) (fun _ _ => rfl)) pa_nil))))) (pss_one (ps_ret pe_bl)) pss_nil)))
        (pss_one (ps_ret pe_bl)))))))), ?_⟩
      cases d with
      | none =>
        cases hu; cases hv
        exact ⟨_, rfl, rfl, _, rfl, iteT ⟨_, rfl, kk⟩⟩
      | bool b =>
        cases hu; cases hv
        refine ⟨_, rfl, rfl, _, rfl, iteF ?_⟩
        refine ⟨_, rfl, _, _, _, _, true, rfl, .ty _, TyX.base (TyOf.bl b), kit_ty (by decide +kernel), _, rfl, iteT (iteT ?_)⟩
        refine ⟨_, rfl, _, _, _, _, true, rfl, .ty _, TyX.base (TyOf.bl b), kit_ty (by decide +kernel), _, rfl, _, _, _, _, true, rfl, .ty _, TyX.base (TyOf.bl b), kit_ty (by decide +kernel), rfl, _, rfl, ?_⟩
        refine iteF ⟨_, rfl, _, _, _, _, false, rfl, .ty _, TyX.base (TyOf.bl b), kit_ty (by decide +kernel), _, rfl, _, _, _, _, false, rfl, .ty _, TyX.base (TyOf.bl b), kit_ty (by decide +kernel), rfl, _, rfl, ?_⟩
        refine iteF ⟨_, rfl, _, rfl, rfl, ?_⟩
        rw [decide_eq_true rfl]
        exact kk
      | str x =>
        cases hu; cases hv
        refine ⟨_, rfl, rfl, _, rfl, iteF ?_⟩
        refine ⟨_, rfl, _, _, _, _, false, rfl, .ty _, TyX.base (TyOf.str x), kit_ty (by decide +kernel), _, rfl, iteF ?_⟩
        refine ⟨_, rfl, _, _, _, _, true, rfl, .ty _, TyX.base (TyOf.str x), kit_ty (by decide +kernel), _, rfl, iteT ?_⟩
        refine ⟨_, rfl, _, _, _, _, false, rfl, .ty _, TyX.base (TyOf.str x), kit_ty (by decide +kernel), _, rfl, _, _, _, _, false, rfl, .ty _, TyX.base (TyOf.str x), kit_ty (by decide +kernel), rfl, _, rfl, ?_⟩
        refine iteF ⟨_, rfl, _, _, _, _, true, rfl, .ty _, TyX.base (TyOf.str x), kit_ty (by decide +kernel), _, rfl, _, _, _, _, true, rfl, .ty _, TyX.base (TyOf.str x), kit_ty (by decide +kernel), rfl, _, rfl, ?_⟩
        refine iteF ⟨_, rfl, _, rfl, rfl, ?_⟩
        rw [decide_eq_true rfl]
        exact kk
      | int i =>
        cases hu; cases hv
        refine ⟨_, rfl, rfl, _, rfl, iteF ?_⟩
        refine ⟨_, rfl, _, _, _, _, false, rfl, .ty _, TyX.base (TyOf.int i), kit_ty (by decide +kernel), _, rfl, iteF ?_⟩
        refine ⟨_, rfl, _, _, _, _, false, rfl, .ty _, TyX.base (TyOf.int i), kit_ty (by decide +kernel), _, rfl, iteF ?_⟩
        refine ⟨_, rfl, _, _, _, _, true, rfl, .ty _, TyX.base (TyOf.int i), kit_ty (by decide +kernel), _, rfl, iteT ?_⟩
        refine ⟨_, rfl, _, _, _, _, true, rfl, .ty _, TyX.base (TyOf.int i), kit_ty (by decide +kernel), _, rfl, iteT ?_⟩
        refine ⟨_, rfl, _, _, _, _, false, rfl, .ty _, TyX.base (TyOf.int i), kit_ty (by decide +kernel), _, rfl, _, rfl, iteT ?_⟩
        refine ⟨_, rfl, _, rfl, rfl, ?_⟩
        rw [decide_eq_true rfl]
        exact kk
      | list ds =>
        obtain ⟨a2, xs2, rfl, hs2, ha2⟩ : ∃ a xs, u = .ref a ∧ SqL K H a xs ∧ DpAll K H xs ds := by
          cases hu with
          | lst h1 h2 => exact ⟨_, _, rfl, h1, h2⟩
        obtain ⟨a1, xs1, rfl, hs1, ha1⟩ : ∃ a xs, v = .ref a ∧ SqL K H a xs ∧ DpAll K H xs ds := by
          cases hv with
          | lst h1 h2 => exact ⟨_, _, rfl, h1, h2⟩
        have tyU : TyX K H (.ref a2) (.type "list") := ty_of (.lst hs2 ha2)
        have tyV : TyX K H (.ref a1) (.type "list") := ty_of (.lst hs1 ha1)
        have e1 := dpAll_len ha1
        have e2 := dpAll_len ha2
        refine ⟨_, rfl, rfl, _, rfl, iteF ?_⟩
        refine ⟨_, rfl, _, _, _, _, false, rfl, .ty _, tyU, kit_ty (by decide +kernel), _, rfl, iteF ?_⟩
        refine ⟨_, rfl, _, _, _, _, false, rfl, .ty _, tyU, kit_ty (by decide +kernel), _, rfl, iteF ?_⟩
        refine ⟨_, rfl, _, _, _, _, false, rfl, .ty _, tyU, kit_ty (by decide +kernel), _, rfl, iteF ?_⟩
        refine ⟨_, rfl, _, _, _, _, true, rfl, .ty _, tyU, kit_ty (by decide +kernel), _, rfl, iteT ?_⟩
        refine ⟨_, rfl, _, _, _, _, true, rfl, .ty _, tyV, kit_ty (by decide +kernel), _, rfl, iteF ?_⟩
        refine ⟨_, rfl, _, _, _, _, false, rfl, .ty _, tyU, kit_ty (by decide +kernel), _, rfl, iteF (iteF ?_)⟩
        refine ⟨_, rfl, a1, xs1, rfl, .inl hs1, _, rfl, a2, xs2, rfl, .inl hs2, rfl, _, rfl, iteNS (by rw [e1, e2]) ?_⟩
        simp only [dp] at hd
        have hz2 : (xs2.length : Int) < 2 ^ 62 := by have := hd.1; omega
        refine ⟨_, rfl, a2, xs2, rfl, .inl hs2, _, rfl, (by omega), hz2, ?_⟩
        refine for_range (lo := 0) (n := (xs2.length : Int).toNat) (fun i σ H2 => ∃ y, σ = [some (.ref a1), some (.ref a2), y] ∧ H2 = H) ⟨none, rfl, rfl⟩ ?_ ?_
        · rintro i σ H2 hi ⟨y, rfl, rfl⟩
          have hi2 : i < ds.length := by omega
          obtain ⟨x1, g1, d1⟩ := dpAll_get ha1 (List.getElem?_eq_getElem hi2)
          obtain ⟨x2, g2, d2⟩ := dpAll_get ha2 (List.getElem?_eq_getElem hi2)
          have ei : (0 : Int) + (i : Int) = ((i : Nat) : Int) := by omega
          rw [ei]
          refine ⟨_, rfl, _, rfl, .inl ⟨_, _, _, _, rfl, rfl, hs1, atI_nat g1, _, rfl, _, rfl, .inl ⟨_, _, _, _, rfl, rfl, hs2, atI_nat g2, ?_⟩⟩⟩
          refine ⟨x1, x2, _, rfl, d1, d2, hd.2 _ (List.getElem_mem hi2), _, rfl, iteF ?_⟩
          exact ⟨_, rfl, rfl⟩
        · rintro σ H2 ⟨y, rfl, rfl⟩
          exact kk
      | tuple ds =>
        obtain ⟨a2, xs2, rfl, hs2, ha2⟩ : ∃ a xs, u = .ref a ∧ SqT K H a xs ∧ DpAll K H xs ds := by
          cases hu with
          | tup h1 h2 => exact ⟨_, _, rfl, h1, h2⟩
        obtain ⟨a1, xs1, rfl, hs1, ha1⟩ : ∃ a xs, v = .ref a ∧ SqT K H a xs ∧ DpAll K H xs ds := by
          cases hv with
          | tup h1 h2 => exact ⟨_, _, rfl, h1, h2⟩
        have tyU : TyX K H (.ref a2) (.type "tuple") := ty_of (.tup hs2 ha2)
        have tyV : TyX K H (.ref a1) (.type "tuple") := ty_of (.tup hs1 ha1)
        have e1 := dpAll_len ha1
        have e2 := dpAll_len ha2
        refine ⟨_, rfl, rfl, _, rfl, iteF ?_⟩
        refine ⟨_, rfl, _, _, _, _, false, rfl, .ty _, tyU, kit_ty (by decide +kernel), _, rfl, iteF ?_⟩
        refine ⟨_, rfl, _, _, _, _, false, rfl, .ty _, tyU, kit_ty (by decide +kernel), _, rfl, iteF ?_⟩
        refine ⟨_, rfl, _, _, _, _, false, rfl, .ty _, tyU, kit_ty (by decide +kernel), _, rfl, iteF ?_⟩
        refine ⟨_, rfl, _, _, _, _, false, rfl, .ty _, tyU, kit_ty (by decide +kernel), _, rfl, iteF (iteF ?_)⟩
        refine ⟨_, rfl, _, _, _, _, true, rfl, .ty _, tyU, kit_ty (by decide +kernel), _, rfl, iteT ?_⟩
        refine ⟨_, rfl, _, _, _, _, true, rfl, .ty _, tyV, kit_ty (by decide +kernel), _, rfl, iteF ?_⟩
        refine ⟨_, rfl, a1, xs1, rfl, .inr hs1, _, rfl, a2, xs2, rfl, .inr hs2, rfl, _, rfl, iteNS (by rw [e1, e2]) ?_⟩
        simp only [dp] at hd
        have hz2 : (xs2.length : Int) < 2 ^ 62 := by have := hd.1; omega
        refine ⟨_, rfl, a2, xs2, rfl, .inr hs2, _, rfl, (by omega), hz2, ?_⟩
        refine for_range (lo := 0) (n := (xs2.length : Int).toNat) (fun i σ H2 => ∃ y, σ = [some (.ref a1), some (.ref a2), y] ∧ H2 = H) ⟨none, rfl, rfl⟩ ?_ ?_
        · rintro i σ H2 hi ⟨y, rfl, rfl⟩
          have hi2 : i < ds.length := by omega
          obtain ⟨x1, g1, d1⟩ := dpAll_get ha1 (List.getElem?_eq_getElem hi2)
          obtain ⟨x2, g2, d2⟩ := dpAll_get ha2 (List.getElem?_eq_getElem hi2)
          have ei : (0 : Int) + (i : Int) = ((i : Nat) : Int) := by omega
          rw [ei]
          refine ⟨_, rfl, _, rfl, .inr (.inl ⟨_, _, _, _, rfl, rfl, hs1, atI_nat g1, _, rfl, _, rfl, .inr (.inl ⟨_, _, _, _, rfl, rfl, hs2, atI_nat g2, ?_⟩)⟩)⟩
          refine ⟨x1, x2, _, rfl, d1, d2, hd.2 _ (List.getElem_mem hi2), _, rfl, iteF ?_⟩
          exact ⟨_, rfl, rfl⟩
        · rintro σ H2 ⟨y, rfl, rfl⟩
          exact kk
      | dict ds => simp [dp] at hd
end
/-! ### data in the heap, and displays of data -/
theorem Same.seqT {K : PySem.W.Frag} {H H' : Hp} {a : Addr} {xs : List V} (e : Same H H') (h : SqT K H a xs) : SqT K H' a xs := by
  rcases h with h1 | h3
  · rcases h1 with h1 | h2
    · exact .inl (.inl (e _ _ h1))
    · obtain ⟨o, h2⟩ := h2
      exact .inl (.inr ⟨o, e _ _ h2⟩)
  · exact .inr h3
mutual
theorem dp_same {K : PySem.W.Frag} {H H' : Hp} (s : Same H H') : ∀ (d : PyData) (v : V), Dp K H v d → Dp K H' v d
  | .none, _, h => by cases h; exact .non
  | .bool b, _, h => by cases h; exact .bl b
  | .int i, _, h => by cases h; exact .int i
  | .str x, _, h => by cases h; exact .str x
  | .list ds, _, h => by
    cases h with
    | lst h1 h2 => exact .lst (s.seq h1) (dpAll_same s ds _ h2)
  | .tuple ds, _, h => by
    cases h with
    | tup h1 h2 => exact .tup (Same.seqT s h1) (dpAll_same s ds _ h2)
  | .dict kvs, _, h => by cases h
theorem dpAll_same {K : PySem.W.Frag} {H H' : Hp} (s : Same H H') : ∀ (ds : List PyData) (vs : List V), DpAll K H vs ds → DpAll K H' vs ds
  | [], _, h => by cases h; exact .nil
  | d :: ds, _, h => by
    cases h with
    | cons h1 h2 => exact .cons (dp_same s d _ h1) (dpAll_same s ds _ h2)
end
theorem same_new {H : Hp} {p : Addr} {o : HO} (n : H p = none) : Same H (upd H p o) := fun b x e => by
  rw [upd_ne (ne_of_none e n)]; exact e
/-- the heap without some objects -/
def mask (l : List Addr) (H : Hp) : Hp := fun a => if a ∈ l then none else H a
theorem mask_in {l : List Addr} {H : Hp} {a : Addr} (h : a ∈ l) : mask l H a = none := if_pos h
theorem mask_out {l : List Addr} {H : Hp} {a : Addr} (h : a ∉ l) : mask l H a = H a := if_neg h
theorem mask_sub (l : List Addr) (H : Hp) : Same (mask l H) H := fun a o e => by
  by_cases h : a ∈ l
  · rw [mask_in h] at e; cases e
  · rw [mask_out h] at e; exact e
theorem mask_same {l : List Addr} {H H' : Hp} (s : Same H H') : Same (mask l H) (mask l H') := fun a o e => by
  by_cases h : a ∈ l
  · rw [mask_in h] at e; cases e
  · rw [mask_out h] at e ⊢; exact s a o e
theorem mask_nil (H : Hp) : mask [] H = H := rfl
/-- what stands in H is there -/
abbrev Alive (l : List Addr) (H : Hp) : Prop := ∀ a ∈ l, ∃ o, H a = some o
theorem Alive.same {l : List Addr} {H H' : Hp} (h : Alive l H) (s : Same H H') : Alive l H' := fun a m => let ⟨o, e⟩ := h a m; ⟨o, s a o e⟩
theorem Alive.not {l : List Addr} {H : Hp} {p : Addr} (h : Alive l H) (n : H p = none) : p ∉ l := fun m => by
  obtain ⟨o, e⟩ := h p m
  rw [n] at e; cases e
theorem alive_nil {H : Hp} : Alive [] H := fun _ m => nomatch m
theorem mask_upd {l : List Addr} {H : Hp} {p : Addr} {o : HO} (h : p ∉ l) : mask l (upd H p o) p = some o := by
  rw [mask_out h, upd_same]
theorem Keeps.mask {p q : Addr} {H H' : Hp} (k : Keeps p q H H') : Same (mask [p, q] H) (mask [p, q] H') := fun a o e => by
  by_cases h : a ∈ [p, q]
  · rw [mask_in h] at e; cases e
  · rw [mask_out h] at e ⊢
    refine k a o (fun z => h ?_) (fun z => h ?_) e
    · rw [z]; exact List.mem_cons_self
    · rw [z]; exact List.mem_cons_of_mem _ List.mem_cons_self
theorem PoolAt.alive {H : Hp} {p q : Addr} {n : Nat} (h : PoolAt H p q n) : Alive [p, q] H := fun a m => by
  rcases List.mem_cons.mp m with rfl | m
  · exact h.p_some
  · rw [List.mem_singleton.mp m]; exact h.q_some
/-- which data an expression gives; it stays so when objects are added -/
abbrev DS := St → Hp → PyData → Prop
abbrev DSs := St → Hp → List PyData → Prop
def tDat (K : PySem.W.Frag) (D : DS) : TE := fun σ H Q => ∃ (l : List Addr) (d : PyData), Alive l H ∧ D σ (mask l H) d ∧ ∀ v H', Same H H' → Dp K (mask l H') v d → Q v H'
def tDats (K : PySem.W.Frag) (D : DSs) : TA := fun σ H Q => ∃ (l : List Addr) (ds : List PyData), Alive l H ∧ D σ (mask l H) ds ∧ ∀ vs H', Same H H' → DpAll K (mask l H') vs ds → Q vs H'
structure DE (X : Cx) (e : Expr) (D : DS) : Prop where
  pe : PE X e (tDat X.K D)
  mono : ∀ σ H H' d, Same H H' → D σ H d → D σ H' d
structure DA (X : Cx) (es : List Expr) (D : DSs) : Prop where
  pa : PA X es (tDats X.K D)
  mono : ∀ σ H H' ds, Same H H' → D σ H ds → D σ H' ds
def dNil : DSs := fun _ _ ds => ds = []
def dCons (D : DS) (Ds : DSs) : DSs := fun σ H ds => ∃ d r, ds = d :: r ∧ D σ H d ∧ Ds σ H r
def dTup (Ds : DSs) : DS := fun σ H d => ∃ ds, d = .tuple ds ∧ ds.length ≤ 1000 ∧ Ds σ H ds
def dLst (Ds : DSs) : DS := fun σ H d => ∃ ds, d = .list ds ∧ ds.length ≤ 1000 ∧ Ds σ H ds
def dVar (K : PySem.W.Frag) (i : Nat) : DS := fun σ H d => ∃ v, σ[i]? = some (some v) ∧ Dp K H v d
def dIs (d0 : PyData) : DS := fun _ _ d => d = d0
section
variable {X : Cx} {e : Expr} {es : List Expr} {t : TE} {D : DS} {Ds : DSs} {pos : Pos}
theorem de_of (h : PE X e t) (w : ∀ σ H Q, tDat X.K D σ H Q → t σ H Q) (m : ∀ σ H H' d, Same H H' → D σ H d → D σ H' d) : DE X e D :=
  ⟨⟨fun pins s σ H Q I q => h.run pins s σ H Q I (w σ H Q q)⟩, m⟩
theorem de_str {x : Str} {j} : DE X (.Constant (.str x) j pos) (dIs (.str x)) :=
  de_of pe_str (fun _ H _ ⟨_, _, _, e, q⟩ => by cases e; exact q _ H (Same.refl H) (.str x)) fun _ _ _ _ _ h => h
theorem de_int {i : Int} {j} : DE X (.Constant (.int i) j pos) (dIs (.int i)) :=
  de_of pe_int (fun _ H _ ⟨_, _, _, e, q⟩ => by cases e; exact q _ H (Same.refl H) (.int i)) fun _ _ _ _ _ h => h
theorem de_bl {b : Bool} {j} : DE X (.Constant (.bool b) j pos) (dIs (.bool b)) :=
  de_of pe_bl (fun _ H _ ⟨_, _, _, e, q⟩ => by cases e; exact q _ H (Same.refl H) (.bl b)) fun _ _ _ _ _ h => h
theorem de_non {j} : DE X (.Constant .none j pos) (dIs .none) :=
  de_of pe_non (fun _ H _ ⟨_, _, _, e, q⟩ => by cases e; exact q _ H (Same.refl H) .non) fun _ _ _ _ _ h => h
theorem dv (i : Nat) {x : Str} (h : PE X (.Name x pos) (tVar i)) : DE X (.Name x pos) (dVar X.K i) :=
  de_of h (fun _ H _ ⟨_, _, _, ⟨v, e, hd⟩, q⟩ => ⟨v, e, q v H (Same.refl H) hd⟩) fun _ _ _ d s ⟨v, e, hd⟩ => ⟨v, e, dp_same s d v hd⟩
theorem da_nil : DA X [] dNil :=
  ⟨⟨fun pos pins s σ H Q I h => by
    obtain ⟨l, ds, _, e, q⟩ := h
    cases e
    exact pa_nil.run pos pins s σ H Q I (q [] H (Same.refl H) .nil)⟩, fun _ _ _ _ _ h => h⟩
theorem da_cons (h : DE X e D) (r : DA X es Ds) (hs : starEach (e :: es) X.env = (false, eval e X.env) :: starEach es X.env := by rfl) : DA X (e :: es) (dCons D Ds) :=
  ⟨⟨fun pos pins s σ H Q I hq => by
    obtain ⟨l, _, al, ⟨d, ds, rfl, h1, h2⟩, q⟩ := hq
    refine (pa_cons h.pe r.pa hs).run pos pins s σ H Q I ⟨l, d, al, h1, fun v H1 s1 hv => ⟨l, ds, al.same s1, r.mono _ _ _ _ (mask_same s1) h2, fun vs H2 s2 hvs => ?_⟩⟩
    exact q _ H2 (s1.trans s2) (.cons (dp_same (mask_same s2) d v hv) hvs)⟩,
   fun σ H H' ds s ⟨d, r', e, h1, h2⟩ => ⟨d, r', e, h.mono _ _ _ _ s h1, r.mono _ _ _ _ s h2⟩⟩
theorem len1000 {n : Nat} (h : n ≤ 1000) : n ≤ sizeLine := Nat.le_of_lt (small1000 h)
theorem de_tup {k} (h : DA X es Ds) : DE X (.Tuple es k pos) (dTup Ds) :=
  ⟨⟨fun pins s σ H Q I hq => by
    obtain ⟨l, _, al, ⟨ds, rfl, hl, h1⟩, q⟩ := hq
    refine (pe_tup h.pa).run pins s σ H Q I ⟨l, ds, al, h1, fun vs H1 s1 hv => ⟨by rw [dpAll_len hv]; exact len1000 hl, fun p np => ?_⟩⟩
    exact q _ _ (s1.trans (same_new np)) (.tup (SqT.of (mask_upd ((al.same s1).not np))) (dpAll_same (mask_same (same_new np)) _ _ hv))⟩,
   fun σ H H' d s ⟨ds, e, hl, h1⟩ => ⟨ds, e, hl, h.mono _ _ _ _ s h1⟩⟩
theorem de_lst (h : DA X es Ds) : DE X (.List es pos) (dLst Ds) :=
  ⟨⟨fun pins s σ H Q I hq => by
    obtain ⟨l, _, al, ⟨ds, rfl, hl, h1⟩, q⟩ := hq
    refine (pe_lst h.pa).run pins s σ H Q I ⟨l, ds, al, h1, fun vs H1 s1 hv => ⟨by rw [dpAll_len hv]; exact len1000 hl, fun p np => ?_⟩⟩
    exact q _ _ (s1.trans (same_new np)) (.lst (SqL.of (mask_upd ((al.same s1).not np))) (dpAll_same (mask_same (same_new np)) _ _ hv))⟩,
   fun σ H H' d s ⟨ds, e, hl, h1⟩ => ⟨ds, e, hl, h.mono _ _ _ _ s h1⟩⟩
end
theorem mask_new {l : List Addr} {H : Hp} {D : Addr} (n : H D = none) : Same (mask l H) (mask (D :: l) H) := fun a o e => by
  by_cases h : a ∈ D :: l
  · rcases List.mem_cons.mp h with rfl | h
    · have := mask_sub l H _ _ e
      rw [n] at this; cases this
    · rw [mask_in h] at e; cases e
  · rw [mask_out h]
    exact mask_sub l H _ _ e
theorem mask_less {l : List Addr} {H : Hp} {D : Addr} : Same (mask (D :: l) H) (mask l H) := fun a o e => by
  by_cases h : a ∈ D :: l
  · rw [mask_in h] at e; cases e
  · rw [mask_out h] at e
    rw [mask_out fun z => h (List.mem_cons_of_mem _ z)]
    exact e
theorem mask_at {l : List Addr} {H : Hp} {D : Addr} {o : HO} (m : D ∈ l) : Same (mask l H) (mask l (upd H D o)) := fun a u e => by
  by_cases h : a ∈ l
  · rw [mask_in h] at e; cases e
  · rw [mask_out h] at e ⊢
    rw [upd_ne fun z => h (by rw [z]; exact m)]
    exact e
theorem dpAll_app {K : PySem.W.Frag} {H : Hp} : ∀ {vs ws : List V} {ds es : List PyData}, DpAll K H vs ds → DpAll K H ws es → DpAll K H (vs ++ ws) (ds ++ es)
  | _, _, _, _, .nil, h => h
  | _, _, _, _, .cons h t, r => .cons h (dpAll_app t r)
theorem dpAll_drop {K : PySem.W.Frag} {H : Hp} : ∀ (n : Nat) {vs : List V} {ds : List PyData}, DpAll K H vs ds → DpAll K H (vs.drop n) (ds.drop n)
  | 0, _, _, h => h
  | n + 1, _, _, .nil => .nil
  | n + 1, _, _, .cons _ t => dpAll_drop n t
theorem dpAll_take {K : PySem.W.Frag} {H : Hp} : ∀ (n : Nat) {vs : List V} {ds : List PyData}, DpAll K H vs ds → DpAll K H (vs.take n) (ds.take n)
  | 0, _, _, _ => .nil
  | n + 1, _, _, .nil => .nil
  | n + 1, _, _, .cons h t => .cons h (dpAll_take n t)
theorem dpAll_at {K : PySem.W.Frag} {H : Hp} : ∀ {vs : List V} {ds : List PyData} {i : Nat} {v : V}, DpAll K H vs ds → vs[i]? = some v → ∃ d, ds[i]? = some d ∧ Dp K H v d
  | _, _, _, _, .nil, e => by simp at e
  | _, _, 0, _, .cons h _, e => by
    obtain rfl := Option.some.inj e
    exact ⟨_, rfl, h⟩
  | _, _, i + 1, _, .cons _ t, e => dpAll_at (i := i) t e
theorem dp_tup {K : PySem.W.Frag} {H : Hp} {v : V} {ds : List PyData} (h : Dp K H v (.tuple ds)) : ∃ a xs, v = .ref a ∧ SqT K H a xs ∧ DpAll K H xs ds := by
  cases h with
  | tup h1 h2 => exact ⟨_, _, rfl, h1, h2⟩
theorem dp_lst {K : PySem.W.Frag} {H : Hp} {v : V} {ds : List PyData} (h : Dp K H v (.list ds)) : ∃ a xs, v = .ref a ∧ SqL K H a xs ∧ DpAll K H xs ds := by
  cases h with
  | lst h1 h2 => exact ⟨_, _, rfl, h1, h2⟩
theorem dpAll_cons {K : PySem.W.Frag} {H : Hp} {vs : List V} {d : PyData} {ds : List PyData} (h : DpAll K H vs (d :: ds)) : ∃ v r, vs = v :: r ∧ Dp K H v d ∧ DpAll K H r ds := by
  cases h with
  | cons h1 h2 => exact ⟨_, _, rfl, h1, h2⟩
theorem dpAll_nil {K : PySem.W.Frag} {H : Hp} {vs : List V} (h : DpAll K H vs []) : vs = [] := by
  cases h; rfl
theorem dp_str {K : PySem.W.Frag} {H : Hp} {v : V} {x : Str} (h : Dp K H v (.str x)) : v = .str x := by
  cases h; rfl
theorem cut_tail {x : V} {r : List V} : cutV (x :: r) (some 1) none = r := by
  unfold cutV
  rw [show HT.sIx (x :: r).length 0 (some 1) = min 1 (x :: r).length from HT.sIx_nat _ 0 1, HT.sIx_none, List.length_cons, Nat.min_eq_left (by omega)]
  show List.take (r.length + 1 - 1) r = r
  rw [Nat.add_sub_cancel, List.take_length]
theorem cut_drop (xs : List V) (k : Nat) : cutV xs (some (k : Int)) none = xs.drop k := by
  unfold cutV
  rw [HT.sIx_nat, HT.sIx_none]
  by_cases h : k ≤ xs.length
  · rw [Nat.min_eq_left h]
    exact List.take_of_length_le (by rw [List.length_drop]; omega)
  · rw [Nat.min_eq_right (by omega), List.drop_of_length_le (Nat.le_refl _), List.drop_of_length_le (by omega)]; simp
theorem Keeps.maskL {p q : Addr} {l : List Addr} {H H' : Hp} (hp : p ∈ l) (hq : q ∈ l) (k : Keeps p q H H') : Same (Qp.mask l H) (Qp.mask l H') := fun a o e => by
  by_cases h : a ∈ l
  · rw [mask_in h] at e; cases e
  · rw [mask_out h] at e ⊢
    exact k a o (fun z => h (by rw [z]; exact hp)) (fun z => h (by rw [z]; exact hq)) e
theorem Keeps.alive {p q : Addr} {n : Nat} {l : List Addr} {H H' : Hp} (al : Alive l H) (k : Keeps p q H H') (P : PoolAt H' p q n) : Alive l H' := fun a m => by
  obtain ⟨o, e⟩ := al a m
  by_cases h1 : a = p
  · rw [h1]; exact P.p_some
  · by_cases h2 : a = q
    · rw [h2]; exact P.q_some
    · exact ⟨o, k a o h1 h2 e⟩
/-! ### names -/
theorem low_ok : ∀ c, 97 ≤ c → c ≤ 122 → Unicode.isAlpha c = true ∧ Unicode.isLower c = true ∧ Unicode.isUpper c = false ∧ Unicode.isTitle c = false := by
  have h : ∀ k : Fin 26, Unicode.isAlpha (97 + k.val) = true ∧ Unicode.isLower (97 + k.val) = true ∧ Unicode.isUpper (97 + k.val) = false ∧ Unicode.isTitle (97 + k.val) = false := by decide +kernel
  intro c h1 h2
  have := h ⟨c - 97, by omega⟩
  rw [show 97 + (c - 97) = c by omega] at this
  exact this
/-- what is_name tells of a text -/
def nmS (z : Str) : Bool := !decide (8 < z.length) && (Txt.isascii z && (Txt.isalpha z && Txt.islower z))
def nmD : PyData → Bool
  | .str z => nmS z
  | _ => false
theorem IsWord.nm {z : Str} (h : IsWord z) : nmS z = true := by
  obtain ⟨h1, h2, h3⟩ := h
  have hm : ∀ c, c ∈ z.cps → 97 ≤ c ∧ c ≤ 122 := fun c hc => h3 c (Array.mem_toList_iff.mpr hc)
  have e1 : (!decide (8 < z.length)) = true := by simp; omega
  have e2 : Txt.isascii z = true := by
    unfold Txt.isascii
    rw [Array.all_eq_true_iff_forall_mem]
    intro c hc
    have := hm c hc
    exact decide_eq_true (by omega)
  have e3 : Txt.isalpha z = true := by
    unfold Txt.isalpha
    rw [Bool.and_eq_true]
    refine ⟨decide_eq_true (by omega), ?_⟩
    rw [Array.all_eq_true_iff_forall_mem]
    intro c hc
    exact (low_ok c (hm c hc).1 (hm c hc).2).1
  have e4 : Txt.islower z = true := by
    unfold Txt.islower
    rw [Bool.and_eq_true]
    have hz : 0 < z.cps.size := h1
    refine ⟨?_, ?_⟩
    · rw [← Array.any_toList, List.any_eq_true]
      exact ⟨z.cps[0], Array.mem_toList_iff.mpr (Array.getElem_mem hz), (low_ok _ (hm _ (Array.getElem_mem hz)).1 (hm _ (Array.getElem_mem hz)).2).2.1⟩
    · rw [Bool.not_eq_true', ← Array.any_toList, List.any_eq_false]
      intro c hc
      have hc := Array.mem_toList_iff.mp hc
      have := low_ok c (hm c hc).1 (hm c hc).2
      rw [this.2.2.1, this.2.2.2]
      simp
  unfold nmS
  rw [e1, e2, e3, e4]
  rfl
def spIsName (K : PySem.W.Frag) : Sp := fun vs H Q _ => ∃ (v : V) (d : PyData), vs = [v] ∧ Dp K H v d ∧ (∀ z, d = .str z → z.length ≤ 1000) ∧ Q (.bl (nmD d)) H
/-- never reached -/
theorem ps_never {X : Cx} {st : Stmt} : PS X st (fun _ _ _ => False) := ⟨fun _ _ _ _ _ _ h => h.elim⟩
section
variable {P : Program} {w : World} {K : PySem.W.Frag} {mg : Str → Option Value} {base : Heap}
theorem scIN : FnScope ["thing"] ["thing"] (defScope sIsName) := ⟨rfl, rfl, rfl, by decide +kernel, rfl, by decide +kernel, by decide +kernel⟩
theorem ok_isname {f : Addr} {fd : FuncData} {k : Nat} {tk : Tok} (F : Fun K "is_name" "is_name" sIsName f fd) (B : Bts mg) (mL : mg "LONGEST_NAME" = some (.int 8 tk)) : FnOk P w K mg base CX0 (k + 1) f fd ["thing"] (spIsName K) := by
  refine F.ok scIN (fun vs H Q E h => ?_) (fun cdv A outer s H vs Q E hr h => ?_)
  · obtain ⟨v, d, rfl, _⟩ := h
    rfl
  · obtain ⟨v, d, rfl, hv, hz, kk⟩ := h
    refine ⟨_, pss_cons (ps_if (PW.pt (pw_or (pt_not (pt_val (pe_callB call_isi (by rfl) B.isinstance (by decide +kernel) (pa_cons (pv 0) (pa_cons (pe_bltn (v := .ty "str") (by rfl) B.str (by decide +kernel) rfl) pa_nil)))))
          (pw_or1 (pt_cmpR op_gt (pe_callB call_len_str (by rfl) B.len PySem.boot_len (pa_cons (pv 0) pa_nil)) (pe_glob (v := .int 8) rfl mL ⟨tk, rfl⟩) (by rfl)))))
        (pss_one (ps_ret pe_bl)) pss_nil)
      (pss_one (ps_ret (pe_and (pe_bm0 PySem.F.plainAttrs_str PySem.F.slot_str_isascii PySem.F.type_str_isascii mt_isascii (pv 0))
        (pe_and (pe_bm0 PySem.F.plainAttrs_str PySem.F.slot_str_isalpha PySem.F.type_str_isalpha mt_isalpha (pv 0))
        (pe_one (pe_bm0 PySem.F.plainAttrs_str PySem.F.slot_str_islower PySem.F.type_str_islower mt_islower (pv 0))))))), ?_⟩
    by_cases hs : ∃ z, d = .str z
    · obtain ⟨z, rfl⟩ := hs
      have hl := hz z rfl
      cases hv
      refine ⟨_, rfl, _, _, _, _, true, rfl, .ty _, TyX.base (TyOf.str z), kit_ty (by decide +kernel), _, rfl, iteF ?_⟩
      refine ⟨_, rfl, z, rfl, len1000 hl, _, _, rfl, rfl, _, rfl, ite2 (fun h => ?_) (fun h => ?_)⟩
      · have h8 : 8 < z.length := by have := of_decide_eq_true h; omega
        have e : nmS z = false := by unfold nmS; rw [decide_eq_true h8]; rfl
        show Q (.bl false) H
        have kk : Q (.bl (nmS z)) H := kk
        rw [e] at kk
        exact kk
      · have h8 : ¬ 8 < z.length := fun q => h (decide_eq_true (by omega))
        have e : nmS z = (Txt.isascii z && (Txt.isalpha z && Txt.islower z)) := by unfold nmS; rw [decide_eq_false h8]; rfl
        have kk : Q (.bl (nmS z)) H := kk
        rw [e] at kk
        refine ⟨_, rfl, rfl, z, rfl, rfl, True.intro, _, rfl, ite2 (fun ha => ?_) (fun ha => ?_)⟩
        · rw [ha, Bool.true_and] at kk
          refine ⟨_, rfl, rfl, z, rfl, rfl, True.intro, _, rfl, ite2 (fun hb => ?_) (fun hb => ?_)⟩
          · rw [hb, Bool.true_and] at kk
            exact ⟨_, rfl, rfl, z, rfl, rfl, True.intro, kk⟩
          · rw [Bool.eq_false_iff.mpr hb, Bool.false_and] at kk
            exact kk
        · rw [Bool.eq_false_iff.mpr ha, Bool.false_and] at kk
          exact kk
    · have e : nmD d = false := by
        cases d with
        | str z => exact absurd ⟨z, rfl⟩ hs
        | _ => rfl
      have kt : kitB (tyName d) "str" = some false := by
        cases d with
        | str z => exact absurd ⟨z, rfl⟩ hs
        | none => exact (by decide +kernel : kitB "NoneType" "str" = some false)
        | bool b => exact (by decide +kernel : kitB "bool" "str" = some false)
        | int i => exact (by decide +kernel : kitB "int" "str" = some false)
        | list l => exact (by decide +kernel : kitB "list" "str" = some false)
        | tuple l => exact (by decide +kernel : kitB "tuple" "str" = some false)
        | dict l => cases hv
      rw [e] at kk
      exact ⟨_, rfl, _, _, _, _, false, rfl, .ty _, ty_of hv, kit_ty kt, _, rfl, iteT (iteT kk)⟩
/-- check_names(t): all are names -/
def spNames0 (K : PySem.W.Frag) : Sp := fun vs H Q _ => ∃ (t : Addr) (xs : List Str), vs = [.ref t] ∧ SqT K H t (xs.map V.str) ∧ (∀ x ∈ xs, IsWord x) ∧ Q .non H
end
/-! ### rows of a program: words and names -/
theorem inV_str {x : Str} {xs : List Str} : inV (.str x) (xs.map V.str) = decide (x ∈ xs) := by
  unfold inV
  by_cases h : x ∈ xs
  · rw [decide_eq_true h, List.any_eq_true]
    exact ⟨.str x, List.mem_map.mpr ⟨x, h, rfl⟩, by show (x == x) = true; simp⟩
  · rw [decide_eq_false h, List.any_eq_false]
    intro v hv
    obtain ⟨y, hy, rfl⟩ := List.mem_map.mp hv
    intro q
    have q' : y = x := beq_iff_eq.mp q
    exact h (q' ▸ hy)
theorem flat_strs (xs : List Str) : (xs.map V.str).all flatV = true := by
  rw [List.all_eq_true]
  intro v hv
  obtain ⟨y, _, rfl⟩ := List.mem_map.mp hv
  rfl
theorem ntup {K : PySem.W.Frag} {H : Hp} {v : V} {ds : List PyData} (h : Dp K H v (.tuple ds)) : ∃ t ys, v = .ref t ∧ SqT K H t ys ∧ DpAll K H ys ds := by
  cases h with
  | tup h1 h2 => exact ⟨_, _, rfl, h1, h2⟩
theorem nuncons {K : PySem.W.Frag} {H : Hp} {ys : List V} {d : PyData} {ds : List PyData} (h : DpAll K H ys (d :: ds)) : ∃ v r, ys = v :: r ∧ Dp K H v d ∧ DpAll K H r ds := by
  cases h with
  | cons h1 h2 => exact ⟨_, _, rfl, h1, h2⟩
theorem nnil {K : PySem.W.Frag} {H : Hp} {ys : List V} (h : DpAll K H ys []) : ys = [] := by cases h; rfl
theorem strs_of {K : PySem.W.Frag} {H : Hp} : ∀ {ys : List V} {xs : List Str}, DpAll K H ys (xs.map .str) → ys = xs.map V.str
  | _, [], h => nnil h
  | _, x :: r, h => by
    obtain ⟨v, r', rfl, h1, h2⟩ := nuncons h
    cases h1
    rw [strs_of h2]; rfl
theorem strs_dp {K : PySem.W.Frag} {H : Hp} : ∀ xs : List Str, DpAll K H (xs.map V.str) (xs.map .str)
  | [] => .nil
  | x :: r => .cons (.str x) (strs_dp r)
/-- a written tuple of words -/
def TupW (K : PySem.W.Frag) (t : Addr) (ws : List Str) : Prop := ∀ H, SqT K H t (ws.map V.str)
/-- is one of these words, with its names behind -/
def spOne (K : PySem.W.Frag) (w : World) (dN : Addr) : Sp := fun vs H Q _ => ∃ (tw : Addr) (ws : List Str) (v : V) (x : Str) (ds : List PyData), vs = [.ref tw, v] ∧ TupW K tw ws ∧ Dp K H v (.tuple (.str x :: ds)) ∧
  (x ∈ ws → ∃ xs : List Str, ds = xs.map .str ∧ (∀ z ∈ xs, IsWord z) ∧ xs.length ≤ 100 ∧ KDct K w dN x (.int (xs.length : Int))) ∧ ∀ H', Same H H' → Q (.bl (decide (x ∈ ws))) H'
section
variable {P : Program} {w : World} {K : PySem.W.Frag} {mg : Str → Option Value} {base : Heap}
theorem scOne : FnScope ["words", "row", "part"] ["words", "row"] (defScope sOne) := ⟨rfl, rfl, rfl, by decide +kernel, rfl, by decide +kernel, by decide +kernel⟩
theorem ok_one {f fN dN : Addr} {fd fdN : FuncData} (F : Fun K "_is_one_of" "_is_one_of" sOne f fd) (B : Bts mg) (mA : mg "all" = none) (mN : mg "NAMES_BEHIND" = some (.ref dN)) (GN : FnOk P w K mg base CX0 1 fN fdN ["thing"] (spIsName K)) (mI : mg "is_name" = some (.ref fN)) (kN : PySem.W.keepIn K (.ref fN) = true) (bN : Binds K fdN ["thing"] []) :
    FnOk P w K mg base CX0 2 f fd ["words", "row"] (spOne K w dN) := by
  refine F.ok scOne (fun vs H Q E h => ?_) (fun cdv A outer s H vs Q E hr h => ?_)
  · obtain ⟨tw, ws, v, x, ds, rfl, _⟩ := h
    rfl
  · obtain ⟨tw, ws, v, x, ds, rfl, hw, hv, hx, kk⟩ := h
    refine ⟨_, pss_cons (ps_if (PW.pt (pw_or (pt_not (pt_val (pe_callB call_isi (by rfl) B.isinstance (by decide +kernel) (pa_cons (pv 1) (pa_cons (pe_bltn (v := .ty "tuple") (by rfl) B.tuple (by decide +kernel) rfl) pa_nil)))))
          (pw_or (pt_not (pt_truth (pv 1) (by intro _; rfl))) (pw_or1 (pt_cmpR op_notIn_seq (pe_ix ix_tup (pv 1) pe_int (fun _ _ => rfl)) (pv 0) (by rfl))))))
        (pss_one (ps_ret pe_bl)) pss_nil)
      (pss_one (ps_ret (pe_and (pe_cmpR op_eq (pe_callB call_len_seq (by rfl) B.len PySem.boot_len (pa_cons (pv 1) pa_nil)) (pe_op op_add (pe_ix ix_kdict (pe_glob (v := .ref dN) rfl mN rfl) (pe_ix ix_tup (pv 1) pe_int (fun _ _ => rfl)) (fun _ _ => rfl)) pe_int) (nomark _))
        (pe_one (pe_callB (cr_all rfl) (by rfl) mA (by decide +kernel) (pa_cons (pe_lc (own := [("part", 2)]) (g := gName 2) (tt := tYes) rfl scOne.nd (pi_tup (pe_slice sl_tup (pv 1) (po_some pe_int) po_none)) (blkOk_by (N := ["words", "row", "part"]) (sc := defScope sOne) (by decide +kernel))
          (fun _ _ _ _ _ => pg_name (i := 2) scOne.nd rfl (.inl rfl)) (fun _ _ _ _ _ => pts_nil) (fun _ _ _ _ _ => pe_call GN hr (by rfl) mI kN bN .nil pass0 (pa_cons (pv 2) pa_nil))) pa_nil)))))), ?_⟩
    obtain ⟨t, ys, rfl, ht, hys⟩ := ntup hv
    obtain ⟨v0, args, rfl, h0, hargs⟩ := nuncons hys
    cases h0
    have a0 : atI (V.str x :: args) 0 = some (.str x) := atI_nat (j := 0) rfl
    refine ⟨_, rfl, _, _, _, _, true, rfl, .ty _, ty_of hv, kit_ty (by decide +kernel : kitB "tuple" "tuple" = some true), _, rfl, iteF ?_⟩
    refine ⟨_, rfl, true, .inr (.inl ⟨_, ht, rfl⟩), iteF ?_⟩
    refine ⟨_, rfl, t, _, 0, _, rfl, rfl, ht, a0, _, rfl, tw, _, rfl, .inr (hw H), rfl, flat_strs ws, _, rfl, ?_⟩
    show (if (!inV (V.str x) (ws.map V.str)) = true then _ else _)
    rw [inV_str]
    by_cases hm : x ∈ ws
    · obtain ⟨xs, rfl, hxs, hl, hk⟩ := hx hm
      obtain rfl := strs_of hargs
      rw [decide_eq_true hm] at kk ⊢
      have e1 : ((V.str x :: xs.map V.str).length : Int) = (xs.length : Int) + 1 := by rw [List.length_cons, List.length_map]; omega
      refine iteF ⟨_, rfl, t, _, rfl, .inr ht, _, rfl, t, _, 0, _, rfl, rfl, ht, a0, dN, x, _, rfl, rfl, hk, (xs.length : Int), 1, rfl, rfl, rfl, _, rfl, ?_⟩
      show (if decide (V.int ((V.str x :: xs.map V.str).length : Int) = V.int ((xs.length : Int) + 1)) = true then _ else _)
      rw [e1, decide_eq_true rfl]
      refine iteT ⟨_, rfl, 1, rfl, t, _, rfl, ht, ?_, fun c nc => ?_⟩
      · rintro ⟨h2, _⟩
        rw [show HT.sIx (V.str x :: xs.map V.str).length 0 (some 1) = min 1 (V.str x :: xs.map V.str).length from HT.sIx_nat _ 0 1, List.length_cons] at h2
        omega
      · rw [cut_tail]
        have sc := same_new (o := .tup (xs.map V.str)) nc
        have hc1 : SqT K (upd H c (.tup (xs.map V.str))) c (xs.map V.str) := SqT.of upd_same
        generalize upd H c (.tup (xs.map V.str)) = H1 at *
        refine ⟨c, rfl, ⟨_, hc1⟩, fun D nD => ?_⟩
        refine lc_tup (K := K) (a := c) (xs := xs.map V.str) (fun i H2 => ∃ acc : List Bool, H2 D = some (.lst (acc.map V.bl)) ∧ acc.length = i ∧ (∀ b ∈ acc, b = true) ∧ Same H1 H2)
          ⟨[], upd_same, rfl, fun _ h => (by cases h), same_new nD⟩ (fun i H2 _ ⟨_, _, _, _, s⟩ => Same.seqT s hc1) (fun i y H2 hy hI => ?_) (fun H2 hI => ?_)
        · obtain ⟨acc, eD, el, hac, s2⟩ := hI
          rw [List.getElem?_map] at hy
          obtain ⟨z, ez, rfl⟩ := Option.map_eq_some_iff.mp hy
          have hz := hxs z (List.mem_of_getElem? ez)
          have hi : i < xs.length := (List.getElem?_eq_some_iff.mp ez).1
          refine ⟨rfl, _, rfl, .str z, .str z, rfl, .str z, fun z' e => by cases e; have := hz.2.1; omega, ?_⟩
          refine ⟨acc.map V.bl, eD, small1000 (by rw [List.length_map]; omega), acc ++ [nmD (.str z)], by rw [upd_same, List.map_append]; rfl, by rw [List.length_append, el]; rfl, fun b hb => ?_, fun b o e => ?_⟩
          · rcases List.mem_append.mp hb with hb | hb
            · exact hac b hb
            · rw [List.mem_singleton.mp hb]; exact hz.nm
          · rw [upd_ne (ne_of_none e nD)]; exact s2 b o e
        · obtain ⟨acc, eD, el, hac, s2⟩ := hI
          refine ⟨D, acc, rfl, SqL.of eD, ?_⟩
          rw [show acc.all id = true from List.all_eq_true.mpr fun b hb => hac b hb]
          exact kk H2 (sc.trans s2)
    · rw [decide_eq_false hm] at kk ⊢
      exact iteT (kk H (.refl H))
end
def looksW : List Str := ["take", "drain", "roll", "get", "drop", "look", "renew", "read", "mark", "peek", "has", "size", "keys", "glance", "watch", "tell", "bound", "spy"]
def deedsW : List Str := ["take", "skip", "drain", "fetch", "bind", "roll", "seed", "get", "peek", "put", "fill", "drop", "size", "keys", "load", "wipe", "change", "look", "glance", "renew", "lift", "read", "watch", "keep", "copy", "tell"]
def stepsW : List Str := ["say", "stop", "call", "else", "end"]
def ifW : List Str := ["ask", "take", "has", "read", "bound"]
def whileW : List Str := ["ask", "take"]
def assertW : List Str := ["has", "bound", "read", "watch"]
def probesW : List Str := ["probe", "assert"]
def gatesW : List Str := ["always", "first", "later", "second"]
/-- a word with its names -/
structure WordsD (K : PySem.W.Frag) (w : World) (dN : Addr) (x : Str) (ds : List PyData) : Prop where
  ex : ∃ xs : List Str, ds = xs.map .str ∧ (∀ z ∈ xs, IsWord z) ∧ xs.length ≤ 100 ∧ KDct K w dN x (.int (xs.length : Int))
def LookD (K : PySem.W.Frag) (w : World) (dN : Addr) (d : PyData) : Prop := ∃ x ds, d = .tuple (.str x :: ds) ∧ x ∈ looksW ∧ WordsD K w dN x ds
structure Consts (K : PySem.W.Frag) (mg : Str → Option Value) where
  (tL tD tS tI tW tA tP tG : Addr)
  tk : Tok
  mL : mg "LOOKS" = some (.ref tL)
  hL : TupW K tL looksW
  mD : mg "DEEDS" = some (.ref tD)
  hD : TupW K tD deedsW
  mS : mg "STEPS" = some (.ref tS)
  hS : TupW K tS stepsW
  mI : mg "IF_TESTS" = some (.ref tI)
  hI : TupW K tI ifW
  mW : mg "WHILE_TESTS" = some (.ref tW)
  hW : TupW K tW whileW
  mA : mg "ASSERT_TESTS" = some (.ref tA)
  hA : TupW K tA assertW
  mP : mg "PROBES" = some (.ref tP)
  hP : TupW K tP probesW
  mG : mg "GATES" = some (.ref tG)
  hG : TupW K tG gatesW
  mM : mg "MOST_LOOKS" = some (.int 6 tk)
def spIsLook (K : PySem.W.Frag) (w : World) (dN : Addr) : Sp := fun vs H Q _ => ∃ (v : V) (x : Str) (ds : List PyData), vs = [v] ∧ Dp K H v (.tuple (.str x :: ds)) ∧ (x ∈ looksW → WordsD K w dN x ds) ∧ ∀ H', Same H H' → Q (.bl (decide (x ∈ looksW))) H'
def spIsProbe (K : PySem.W.Frag) : Sp := fun vs H Q _ => ∃ (v : V) (x : Str) (ds : List PyData), vs = [v] ∧ Dp K H v (.tuple (.str x :: ds)) ∧ Q (.bl (decide (x ∈ probesW))) H
def spAre (K : PySem.W.Frag) (w : World) (dN : Addr) : Sp := fun vs H Q _ => ∃ (v : V) (ls : List PyData), vs = [v] ∧ Dp K H v (.tuple ls) ∧ (∀ d ∈ ls, LookD K w dN d) ∧ ls.length ≤ 100 ∧ ∀ H', Same H H' → Q (.bl true) H'
/-- the parts of a probe -/
inductive PartsD (K : PySem.W.Frag) (w : World) (dN : Addr) : PyData → Prop where
  | probe {x g : Str} {as bs : List PyData} (hx : IsWord x) (hg : g ∈ gatesW) (ha : ∀ d ∈ as, LookD K w dN d) (hb : ∀ d ∈ bs, LookD K w dN d) (hl : as.length + bs.length ≤ 6) : PartsD K w dN (.tuple [.str "probe", .str x, .str g, .tuple as, .tuple bs])
  | assert {x g y : Str} {as ds : List PyData} (hx : IsWord x) (hg : g ∈ gatesW) (ha : ∀ d ∈ as, LookD K w dN d) (hl : as.length ≤ 6) (hy : y ∈ assertW) (hd : WordsD K w dN y ds) : PartsD K w dN (.tuple [.str "assert", .str x, .str g, .tuple as, .tuple (.str y :: ds)])
def spHas (K : PySem.W.Frag) (w : World) (dN : Addr) : Sp := fun vs H Q _ => ∃ (v : V) (d : PyData), vs = [v] ∧ Dp K H v d ∧ PartsD K w dN d ∧ ∀ H', Same H H' → Q (.bl true) H'
inductive RowD (K : PySem.W.Frag) (w : World) (dN : Addr) : PyData → Bool → Prop where
  | no {x : Str} {ds : List PyData} (hx : x ∈ looksW) (hd : x ∉ deedsW) : RowD K w dN (.tuple (.str x :: ds)) false
  | deed {x : Str} {ds : List PyData} (hx : x ∈ deedsW ∨ x ∈ stepsW) (hd : WordsD K w dN x ds) : RowD K w dN (.tuple (.str x :: ds)) true
  | iff {x : Str} {ds : List PyData} (hx : x ∈ ifW) (hd : WordsD K w dN x ds) : RowD K w dN (.tuple (.str "if" :: .str x :: ds)) true
  | loop {x : Str} {ds : List PyData} (hx : x ∈ whileW) (hd : WordsD K w dN x ds) : RowD K w dN (.tuple (.str "while" :: .str x :: ds)) true
  | probe {d : PyData} (h : PartsD K w dN d) : RowD K w dN d true
def spIsRow (K : PySem.W.Frag) (w : World) (dN : Addr) : Sp := fun vs H Q _ => ∃ (v : V) (d : PyData) (b : Bool), vs = [v] ∧ Dp K H v d ∧ RowD K w dN d b ∧ ∀ H', Same H H' → Q (.bl b) H'
section
variable {P : Program} {w : World} {K : PySem.W.Frag} {mg : Str → Option Value} {base : Heap}
theorem scLk : FnScope ["row"] ["row"] (defScope sIsLook) := ⟨rfl, rfl, rfl, by decide +kernel, rfl, by decide +kernel, by decide +kernel⟩
theorem ok_islook {f fO dN : Addr} {fd fdO : FuncData} (F : Fun K "is_look" "is_look" sIsLook f fd) (C : Consts K mg) (GO : FnOk P w K mg base CX0 2 fO fdO ["words", "row"] (spOne K w dN)) (mO : mg "_is_one_of" = some (.ref fO)) (kO : PySem.W.keepIn K (.ref fO) = true) (bO : Binds K fdO ["words", "row"] []) :
    FnOk P w K mg base CX0 3 f fd ["row"] (spIsLook K w dN) := by
  refine F.ok scLk (fun vs H Q E h => ?_) (fun cdv A outer s H vs Q E hr h => ?_)
  · obtain ⟨v, x, ds, rfl, _⟩ := h
    rfl
  · obtain ⟨v, x, ds, rfl, hv, hx, kk⟩ := h
    refine ⟨_, pss_one (ps_ret (pe_call GO hr (by rfl) mO kO bO .nil pass0 (pa_cons (pe_glob (v := .ref C.tL) rfl C.mL rfl) (pa_cons (pv 0) pa_nil)))), ?_⟩
    exact ⟨v, rfl, C.tL, looksW, v, x, ds, rfl, C.hL, hv, fun h => (hx h).ex, fun H' s => kk H' s⟩
theorem scPb : FnScope ["row"] ["row"] (defScope sIsProbe) := ⟨rfl, rfl, rfl, by decide +kernel, rfl, by decide +kernel, by decide +kernel⟩
theorem ok_isprobe {f : Addr} {fd : FuncData} {k : Nat} (F : Fun K "is_probe" "is_probe" sIsProbe f fd) (C : Consts K mg) : FnOk P w K mg base CX0 (k + 1) f fd ["row"] (spIsProbe K) := by
  refine F.ok scPb (fun vs H Q E h => ?_) (fun cdv A outer s H vs Q E hr h => ?_)
  · obtain ⟨v, x, ds, rfl, _⟩ := h
    rfl
  · obtain ⟨v, x, ds, rfl, hv, kk⟩ := h
    refine ⟨_, pss_one (ps_ret (pe_cmpR op_in_seq (pe_ix ix_tup (pv 0) pe_int (fun _ _ => rfl)) (pe_glob (v := .ref C.tP) rfl C.mP rfl) (by rfl))), ?_⟩
    obtain ⟨t, ys, rfl, ht, hys⟩ := ntup hv
    obtain ⟨v0, args, rfl, h0, hargs⟩ := nuncons hys
    cases h0
    refine ⟨_, rfl, t, _, 0, _, rfl, rfl, ht, atI_nat (j := 0) rfl, C.tP, _, rfl, .inr (C.hP H), rfl, flat_strs _, ?_⟩
    show Q (.bl (inV (V.str x) (probesW.map V.str))) H
    rw [inV_str]
    exact kk
theorem scAr : FnScope ["looks", "look"] ["looks"] (defScope sAre) := ⟨rfl, rfl, rfl, by decide +kernel, rfl, by decide +kernel, by decide +kernel⟩
theorem ok_are {f fL dN : Addr} {fd fdL : FuncData} (F : Fun K "_are_looks" "_are_looks" sAre f fd) (B : Bts mg) (mA : mg "all" = none) (GL : FnOk P w K mg base CX0 3 fL fdL ["row"] (spIsLook K w dN)) (mL : mg "is_look" = some (.ref fL)) (kL : PySem.W.keepIn K (.ref fL) = true) (bL : Binds K fdL ["row"] []) :
    FnOk P w K mg base CX0 4 f fd ["looks"] (spAre K w dN) := by
  refine F.ok scAr (fun vs H Q E h => ?_) (fun cdv A outer s H vs Q E hr h => ?_)
  · obtain ⟨v, ls, rfl, _⟩ := h
    rfl
  · obtain ⟨v, ls, rfl, hv, hls, hl, kk⟩ := h
    refine ⟨_, pss_one (ps_ret (pe_and (pe_callB call_isi (by rfl) B.isinstance (by decide +kernel) (pa_cons (pv 0) (pa_cons (pe_bltn (v := .ty "tuple") (by rfl) B.tuple (by decide +kernel) rfl) pa_nil)))
        (pe_one (pe_callB (cr_all rfl) (by rfl) mA (by decide +kernel) (pa_cons (pe_lc (own := [("look", 1)]) (g := gName 1) (tt := tYes) rfl scAr.nd (pi_tup (pv 0)) (blkOk_by (N := ["looks", "look"]) (sc := defScope sAre) (by decide +kernel))
          (fun _ _ _ _ _ => pg_name (i := 1) scAr.nd rfl (.inl rfl)) (fun _ _ _ _ _ => pts_nil) (fun _ _ _ _ _ => pe_call GL hr (by rfl) mL kL bL .nil pass0 (pa_cons (pv 1) pa_nil))) pa_nil))))), ?_⟩
    obtain ⟨t, ys, rfl, ht, hys⟩ := ntup hv
    refine ⟨_, rfl, _, _, _, _, true, rfl, .ty _, ty_of hv, kit_ty (by decide +kernel : kitB "tuple" "tuple" = some true), _, rfl, iteT ?_⟩
    refine ⟨_, rfl, t, rfl, ⟨_, ht⟩, fun D nD => ?_⟩
    have ly := dpAll_len hys
    refine lc_tup (K := K) (a := t) (xs := ys) (fun i H2 => ∃ acc : List Bool, H2 D = some (.lst (acc.map V.bl)) ∧ acc.length = i ∧ (∀ b ∈ acc, b = true) ∧ Same H H2)
      ⟨[], upd_same, rfl, fun _ h => (by cases h), same_new nD⟩ (fun i H2 _ ⟨_, _, _, _, s⟩ => Same.seqT s ht) (fun i y H2 hy hI => ?_) (fun H2 hI => ?_)
    · obtain ⟨acc, eD, el, ha, s2⟩ := hI
      obtain ⟨d, ed, hd⟩ := dpAll_at hys hy
      obtain ⟨x, ds, rfl, hx, hw⟩ := hls d (List.mem_of_getElem? ed)
      have hi : i < ls.length := (List.getElem?_eq_some_iff.mp ed).1
      refine ⟨rfl, _, rfl, y, x, ds, rfl, dp_same s2 _ _ hd, fun _ => hw, fun H3 s3 => ?_⟩
      refine ⟨acc.map V.bl, s3 _ _ eD, small1000 (by rw [List.length_map]; omega), acc ++ [decide (x ∈ looksW)], by rw [upd_same, List.map_append]; rfl, by rw [List.length_append, el]; rfl, fun b hb => ?_, fun b o e => ?_⟩
      · rcases List.mem_append.mp hb with hb | hb
        · exact ha b hb
        · rw [List.mem_singleton.mp hb]; exact decide_eq_true hx
      · rw [upd_ne (ne_of_none e nD)]; exact s3 _ _ (s2 b o e)
    · obtain ⟨acc, eD, el, ha, s2⟩ := hI
      refine ⟨D, acc, rfl, SqL.of eD, ?_⟩
      rw [show acc.all id = true from List.all_eq_true.mpr fun b hb => ha b hb]
      exact kk H2 s2
end
section
variable {P : Program} {w : World} {K : PySem.W.Frag} {mg : Str → Option Value} {base : Heap}
theorem scHs : FnScope ["row", "word", "name", "gate", "args", "rest"] ["row"] (defScope sHasP) := ⟨rfl, rfl, rfl, by decide +kernel, rfl, by decide +kernel, by decide +kernel⟩
theorem ok_has {f fN fO fA dN : Addr} {fd fdN fdO fdA : FuncData} (F : Fun K "_has_probe_parts" "_has_probe_parts" sHasP f fd) (B : Bts mg) (C : Consts K mg) (GN : FnOk P w K mg base CX0 1 fN fdN ["thing"] (spIsName K)) (mN : mg "is_name" = some (.ref fN)) (kN : PySem.W.keepIn K (.ref fN) = true) (bN : Binds K fdN ["thing"] [])
    (GO : FnOk P w K mg base CX0 2 fO fdO ["words", "row"] (spOne K w dN)) (mO : mg "_is_one_of" = some (.ref fO)) (kO : PySem.W.keepIn K (.ref fO) = true) (bO : Binds K fdO ["words", "row"] []) (GA : FnOk P w K mg base CX0 4 fA fdA ["looks"] (spAre K w dN)) (mA : mg "_are_looks" = some (.ref fA)) (kA : PySem.W.keepIn K (.ref fA) = true) (bA : Binds K fdA ["looks"] []) :
    FnOk P w K mg base CX0 5 f fd ["row"] (spHas K w dN) := by
  refine F.ok scHs (fun vs H Q E h => ?_) (fun cdv A outer s H vs Q E hr h => ?_)
  · obtain ⟨v, d, rfl, _⟩ := h
    rfl
  · obtain ⟨v, d, rfl, hv, hd, kk⟩ := h
    have hr1 : Room 1 _ := hr.mono (by decide)
    have hr2 : Room 2 _ := hr.mono (by decide)
    refine ⟨_, pss_cons (ps_asg (pv 0) (pg_tup rfl (pgs_cons (pg_name (i := 1) scHs.nd rfl (.inl rfl)) (pgs_cons (pg_name (i := 2) scHs.nd rfl (.inl rfl)) (pgs_cons (pg_name (i := 3) scHs.nd rfl (.inl rfl)) (pgs_cons (pg_name (i := 4) scHs.nd rfl (.inl rfl)) (pgs_cons (pg_name (i := 5) scHs.nd rfl (.inl rfl)) pgs_nil)))))))
      (pss_cons (ps_if (PW.pt (pw_or (pt_not (pt_val (pe_call GN hr1 (by rfl) mN kN bN .nil pass0 (pa_cons (pv 2) pa_nil)))) (pw_or (pt_cmpR op_notIn_seq (pv 3) (pe_glob (v := .ref C.tG) rfl C.mG rfl) (by rfl)) (pw_or1 (pt_not (pt_val (pe_call GA hr (by rfl) mA kA bA .nil pass0 (pa_cons (pv 4) pa_nil))))))))
        (pss_one (ps_ret pe_bl)) pss_nil)
      (pss_cons (ps_if (pt_cmpR op_eq (pv 1) pe_str (nomark _))
        (pss_one (ps_ret (pe_and (pe_cmpR op_le (pe_callB call_len_seq (by rfl) B.len PySem.boot_len (pa_cons (pv 4) pa_nil)) (pe_glob (v := .int 6) rfl C.mM ⟨C.tk, rfl⟩) (nomark _)) (pe_one (pe_call GO hr2 (by rfl) mO kO bO .nil pass0 (pa_cons (pe_glob (v := .ref C.tA) rfl C.mA rfl) (pa_cons (pv 5) pa_nil))))))) pss_nil)
      (pss_one (ps_ret (pe_and (pe_call GA hr (by rfl) mA kA bA .nil pass0 (pa_cons (pv 5) pa_nil)) (pe_one (pe_cmpR op_le (pe_op op_add (pe_callB call_len_seq (by rfl) B.len PySem.boot_len (pa_cons (pv 4) pa_nil)) (pe_callB call_len_seq (by rfl) B.len PySem.boot_len (pa_cons (pv 5) pa_nil))) (pe_glob (v := .int 6) rfl C.mM ⟨C.tk, rfl⟩) (nomark _)))))))), ?_⟩
    cases hd with
    | @probe x g as bs hx hg ha hb hl =>
      obtain ⟨t, ys, rfl, ht, hys⟩ := ntup hv
      obtain ⟨v0, r, rfl, h0, hys⟩ := nuncons hys
      obtain ⟨v1, r, rfl, h1, hys⟩ := nuncons hys
      obtain ⟨v2, r, rfl, h2, hys⟩ := nuncons hys
      obtain ⟨v3, r, rfl, h3, hys⟩ := nuncons hys
      obtain ⟨v4, r, rfl, h4, hys⟩ := nuncons hys
      obtain rfl := nnil hys
      cases h0; cases h1; cases h2
      refine ⟨_, rfl, t, _, rfl, ht, rfl, _, _, rfl, _, _, rfl, _, _, rfl, _, _, rfl, _, _, rfl, rfl, ?_⟩
      refine ⟨_, rfl, .str x, .str x, rfl, .str x, fun z e => by cases e; have := hx.2.1; omega, ?_⟩
      have en : nmD (.str x) = true := hx.nm
      rw [en]
      refine ⟨_, rfl, iteF ?_⟩
      refine ⟨_, rfl, C.tG, _, rfl, .inr (C.hG H), rfl, flat_strs _, _, rfl, ?_⟩
      show (if (!inV (V.str g) (gatesW.map V.str)) = true then _ else _)
      rw [inV_str, decide_eq_true hg]
      refine iteF ⟨_, rfl, v3, as, rfl, h3, ha, by omega, fun H1 s1 => ⟨_, rfl, iteF ?_⟩⟩
      refine ⟨_, rfl, rfl, _, rfl, iteF ?_⟩
      refine ⟨_, rfl, v4, bs, rfl, dp_same s1 _ _ h4, hb, by omega, fun H2 s2 => ⟨_, rfl, iteT ?_⟩⟩
      obtain ⟨t3, y3, rfl, ht3, hy3⟩ := ntup (dp_same (s1.trans s2) _ _ h3)
      obtain ⟨t4, y4, rfl, ht4, hy4⟩ := ntup (dp_same (s1.trans s2) _ _ h4)
      refine ⟨_, rfl, t3, _, rfl, .inr ht3, _, rfl, t4, _, rfl, .inr ht4, _, _, rfl, rfl, _, _, rfl, rfl, ?_⟩
      have e6 : decide (((y3.length : Int) + (y4.length : Int)) ≤ 6) = true := decide_eq_true (by rw [dpAll_len hy3, dpAll_len hy4]; omega)
      show Q (.bl (decide (((y3.length : Int) + (y4.length : Int)) ≤ 6))) H2
      rw [e6]
      exact kk H2 (s1.trans s2)
    | @assert x g y as ds hx hg ha hl hy hd =>
      obtain ⟨t, ys, rfl, ht, hys⟩ := ntup hv
      obtain ⟨v0, r, rfl, h0, hys⟩ := nuncons hys
      obtain ⟨v1, r, rfl, h1, hys⟩ := nuncons hys
      obtain ⟨v2, r, rfl, h2, hys⟩ := nuncons hys
      obtain ⟨v3, r, rfl, h3, hys⟩ := nuncons hys
      obtain ⟨v4, r, rfl, h4, hys⟩ := nuncons hys
      obtain rfl := nnil hys
      cases h0; cases h1; cases h2
      refine ⟨_, rfl, t, _, rfl, ht, rfl, _, _, rfl, _, _, rfl, _, _, rfl, _, _, rfl, _, _, rfl, rfl, ?_⟩
      refine ⟨_, rfl, .str x, .str x, rfl, .str x, fun z e => by cases e; have := hx.2.1; omega, ?_⟩
      have en : nmD (.str x) = true := hx.nm
      rw [en]
      refine ⟨_, rfl, iteF ?_⟩
      refine ⟨_, rfl, C.tG, _, rfl, .inr (C.hG H), rfl, flat_strs _, _, rfl, ?_⟩
      show (if (!inV (V.str g) (gatesW.map V.str)) = true then _ else _)
      rw [inV_str, decide_eq_true hg]
      refine iteF ⟨_, rfl, v3, as, rfl, h3, ha, by omega, fun H1 s1 => ⟨_, rfl, iteF ?_⟩⟩
      refine ⟨_, rfl, rfl, _, rfl, iteT ?_⟩
      obtain ⟨t3, y3, rfl, ht3, hy3⟩ := ntup (dp_same s1 _ _ h3)
      refine ⟨_, rfl, t3, _, rfl, .inr ht3, _, _, rfl, rfl, _, rfl, ?_⟩
      have e6 : decide ((y3.length : Int) ≤ 6) = true := decide_eq_true (by rw [dpAll_len hy3]; omega)
      show (if decide ((y3.length : Int) ≤ 6) = true then _ else _)
      rw [e6]
      refine iteT ⟨_, rfl, C.tA, assertW, v4, y, ds, rfl, C.hA, dp_same s1 _ _ h4, fun _ => hd.ex, fun H2 s2 => ?_⟩
      rw [decide_eq_true hy]
      exact kk H2 (s1.trans s2)
theorem scRw : FnScope ["row"] ["row"] (defScope sIsRow) := ⟨rfl, rfl, rfl, by decide +kernel, rfl, by decide +kernel, by decide +kernel⟩
theorem ok_isrow {f fO fH dN : Addr} {fd fdO fdH : FuncData} (F : Fun K "is_row" "is_row" sIsRow f fd) (B : Bts mg) (C : Consts K mg)
    (GO : FnOk P w K mg base CX0 2 fO fdO ["words", "row"] (spOne K w dN)) (mO : mg "_is_one_of" = some (.ref fO)) (kO : PySem.W.keepIn K (.ref fO) = true) (bO : Binds K fdO ["words", "row"] []) (GH : FnOk P w K mg base CX0 5 fH fdH ["row"] (spHas K w dN)) (mH : mg "_has_probe_parts" = some (.ref fH)) (kH : PySem.W.keepIn K (.ref fH) = true) (bH : Binds K fdH ["row"] []) :
    FnOk P w K mg base CX0 6 f fd ["row"] (spIsRow K w dN) := by
  refine F.ok scRw (fun vs H Q E h => ?_) (fun cdv A outer s H vs Q E hr h => ?_)
  · obtain ⟨v, d, b, rfl, _⟩ := h
    rfl
  · obtain ⟨v, d, b, rfl, hv, hd, kk⟩ := h
    have hr2 : Room 2 _ := hr.mono (by decide)
    refine ⟨_, pss_cons (ps_if (PW.pt (pw_or (pt_not (pt_val (pe_callB call_isi (by rfl) B.isinstance (by decide +kernel) (pa_cons (pv 0) (pa_cons (pe_bltn (v := .ty "tuple") (by rfl) B.tuple (by decide +kernel) rfl) pa_nil))))) (pw_or1 (pt_not (pt_truth (pv 0) (by intro _; rfl))))))
        (pss_one (ps_ret pe_bl)) pss_nil)
      (pss_cons (ps_if (pt_cmpR op_eq (pe_ix ix_tup (pv 0) pe_int (fun _ _ => rfl)) pe_str (nomark _)) (pss_one (ps_ret (pe_call GO hr2 (by rfl) mO kO bO .nil pass0 (pa_cons (pe_glob (v := .ref C.tI) rfl C.mI rfl) (pa_cons (pe_slice sl_tup (pv 0) (po_some pe_int) po_none) pa_nil))))) pss_nil)
      (pss_cons (ps_if (pt_cmpR op_eq (pe_ix ix_tup (pv 0) pe_int (fun _ _ => rfl)) pe_str (nomark _)) (pss_one (ps_ret (pe_call GO hr2 (by rfl) mO kO bO .nil pass0 (pa_cons (pe_glob (v := .ref C.tW) rfl C.mW rfl) (pa_cons (pe_slice sl_tup (pv 0) (po_some pe_int) po_none) pa_nil))))) pss_nil)
      (pss_cons (ps_if (pt_cmpR op_in_seq (pe_ix ix_tup (pv 0) pe_int (fun _ _ => rfl)) (pe_glob (v := .ref C.tP) rfl C.mP rfl) (by rfl))
        (pss_one (ps_ret (pe_and (pe_cmpR op_eq (pe_callB call_len_seq (by rfl) B.len PySem.boot_len (pa_cons (pv 0) pa_nil)) pe_int (nomark _)) (pe_one (pe_call GH hr (by rfl) mH kH bH .nil pass0 (pa_cons (pv 0) pa_nil)))))) pss_nil)
      (pss_one (ps_ret (pe_or (pe_call GO hr2 (by rfl) mO kO bO .nil pass0 (pa_cons (pe_glob (v := .ref C.tD) rfl C.mD rfl) (pa_cons (pv 0) pa_nil))) (pe_one (pe_call GO hr2 (by rfl) mO kO bO .nil pass0 (pa_cons (pe_glob (v := .ref C.tS) rfl C.mS rfl) (pa_cons (pv 0) pa_nil)))))))))), ?_⟩
    -- the head of any row
    have head : ∀ {x : Str} {ds : List PyData}, d = .tuple (.str x :: ds) → ∃ t args, v = .ref t ∧ SqT K H t (.str x :: args) ∧ DpAll K H args ds := by
      intro x ds e
      rw [e] at hv
      obtain ⟨t, ys, rfl, ht, hys⟩ := ntup hv
      obtain ⟨v0, r, rfl, h0, hys2⟩ := nuncons hys
      cases h0
      exact ⟨t, r, rfl, ht, hys2⟩
    have a0 : ∀ {x : Str} {args : List V}, atI (V.str x :: args) 0 = some (.str x) := fun {x args} => atI_nat (j := 0) rfl
    cases hd with
    | @no x ds hx hd =>
      obtain ⟨t, args, rfl, ht, hargs⟩ := head rfl
      have hne : ∀ z ∈ looksW, z ∉ deedsW → z ≠ ("if" : Str) ∧ z ≠ ("while" : Str) ∧ z ∉ probesW ∧ z ∉ stepsW := by decide +kernel
      have hn := hne x hx hd
      refine ⟨_, rfl, _, _, _, _, true, rfl, .ty _, ty_of hv, kit_ty (by decide +kernel : kitB "tuple" "tuple" = some true), _, rfl, iteF ?_⟩
      refine ⟨_, rfl, true, .inr (.inl ⟨_, ht, rfl⟩), iteF ?_⟩
      refine ⟨_, rfl, t, _, 0, _, rfl, rfl, ht, a0, rfl, _, rfl, ?_⟩
      show (if decide (V.str x = V.str "if") = true then _ else _)
      rw [decide_eq_false fun e => hn.1 (V.str.inj e)]
      refine iteF ⟨_, rfl, t, _, 0, _, rfl, rfl, ht, a0, rfl, _, rfl, ?_⟩
      show (if decide (V.str x = V.str "while") = true then _ else _)
      rw [decide_eq_false fun e => hn.2.1 (V.str.inj e)]
      refine iteF ⟨_, rfl, t, _, 0, _, rfl, rfl, ht, a0, C.tP, _, rfl, .inr (C.hP H), rfl, flat_strs _, _, rfl, ?_⟩
      show (if inV (V.str x) (probesW.map V.str) = true then _ else _)
      rw [inV_str, decide_eq_false hn.2.2.1]
      refine iteF ⟨_, rfl, C.tD, deedsW, .ref t, x, ds, rfl, C.hD, hv, fun h => absurd h hd, fun H1 s1 => ?_⟩
      rw [decide_eq_false hd]
      refine ⟨_, rfl, iteF ⟨_, rfl, C.tS, stepsW, .ref t, x, ds, rfl, C.hS, dp_same s1 _ _ hv, fun h => absurd h hn.2.2.2, fun H2 s2 => ?_⟩⟩
      rw [decide_eq_false hn.2.2.2]
      exact kk H2 (s1.trans s2)
    | @deed x ds hx hd =>
      obtain ⟨t, args, rfl, ht, hargs⟩ := head rfl
      have hne : ∀ z ∈ deedsW ++ stepsW, z ≠ ("if" : Str) ∧ z ≠ ("while" : Str) ∧ z ∉ probesW := by decide +kernel
      have hn := hne x (List.mem_append.mpr hx)
      refine ⟨_, rfl, _, _, _, _, true, rfl, .ty _, ty_of hv, kit_ty (by decide +kernel : kitB "tuple" "tuple" = some true), _, rfl, iteF ?_⟩
      refine ⟨_, rfl, true, .inr (.inl ⟨_, ht, rfl⟩), iteF ?_⟩
      refine ⟨_, rfl, t, _, 0, _, rfl, rfl, ht, a0, rfl, _, rfl, ?_⟩
      show (if decide (V.str x = V.str "if") = true then _ else _)
      rw [decide_eq_false fun e => hn.1 (V.str.inj e)]
      refine iteF ⟨_, rfl, t, _, 0, _, rfl, rfl, ht, a0, rfl, _, rfl, ?_⟩
      show (if decide (V.str x = V.str "while") = true then _ else _)
      rw [decide_eq_false fun e => hn.2.1 (V.str.inj e)]
      refine iteF ⟨_, rfl, t, _, 0, _, rfl, rfl, ht, a0, C.tP, _, rfl, .inr (C.hP H), rfl, flat_strs _, _, rfl, ?_⟩
      show (if inV (V.str x) (probesW.map V.str) = true then _ else _)
      rw [inV_str, decide_eq_false hn.2.2]
      refine iteF ⟨_, rfl, C.tD, deedsW, .ref t, x, ds, rfl, C.hD, hv, fun _ => hd.ex, fun H1 s1 => ?_⟩
      by_cases hxd : x ∈ deedsW
      · rw [decide_eq_true hxd]
        exact ⟨_, rfl, iteT (kk H1 s1)⟩
      · have hxs : x ∈ stepsW := hx.resolve_left hxd
        rw [decide_eq_false hxd]
        refine ⟨_, rfl, iteF ⟨_, rfl, C.tS, stepsW, .ref t, x, ds, rfl, C.hS, dp_same s1 _ _ hv, fun _ => hd.ex, fun H2 s2 => ?_⟩⟩
        rw [decide_eq_true hxs]
        exact kk H2 (s1.trans s2)
    | @iff x ds hx hd =>
      obtain ⟨t, args, rfl, ht, hargs⟩ := head rfl
      refine ⟨_, rfl, _, _, _, _, true, rfl, .ty _, ty_of hv, kit_ty (by decide +kernel : kitB "tuple" "tuple" = some true), _, rfl, iteF ?_⟩
      refine ⟨_, rfl, true, .inr (.inl ⟨_, ht, rfl⟩), iteF ?_⟩
      refine ⟨_, rfl, t, _, 0, _, rfl, rfl, ht, a0, rfl, _, rfl, iteT ?_⟩
      refine ⟨_, rfl, 1, rfl, t, _, rfl, ht, ?_, fun c nc => ?_⟩
      · rintro ⟨h2, _⟩
        rw [show HT.sIx (V.str "if" :: args).length 0 (some 1) = min 1 (V.str "if" :: args).length from HT.sIx_nat _ 0 1, List.length_cons] at h2
        omega
      · rw [cut_tail]
        have sc := same_new (o := .tup args) nc
        refine ⟨C.tI, ifW, .ref c, x, ds, rfl, C.hI, .tup (SqT.of upd_same) (dpAll_same sc _ _ hargs), fun _ => hd.ex, fun H1 s1 => ?_⟩
        rw [decide_eq_true hx]
        exact kk H1 (sc.trans s1)
    | @loop x ds hx hd =>
      obtain ⟨t, args, rfl, ht, hargs⟩ := head rfl
      refine ⟨_, rfl, _, _, _, _, true, rfl, .ty _, ty_of hv, kit_ty (by decide +kernel : kitB "tuple" "tuple" = some true), _, rfl, iteF ?_⟩
      refine ⟨_, rfl, true, .inr (.inl ⟨_, ht, rfl⟩), iteF ?_⟩
      refine ⟨_, rfl, t, _, 0, _, rfl, rfl, ht, a0, rfl, _, rfl, iteF ?_⟩
      refine ⟨_, rfl, t, _, 0, _, rfl, rfl, ht, a0, rfl, _, rfl, iteT ?_⟩
      refine ⟨_, rfl, 1, rfl, t, _, rfl, ht, ?_, fun c nc => ?_⟩
      · rintro ⟨h2, _⟩
        rw [show HT.sIx (V.str "while" :: args).length 0 (some 1) = min 1 (V.str "while" :: args).length from HT.sIx_nat _ 0 1, List.length_cons] at h2
        omega
      · rw [cut_tail]
        have sc := same_new (o := .tup args) nc
        refine ⟨C.tW, whileW, .ref c, x, ds, rfl, C.hW, .tup (SqT.of upd_same) (dpAll_same sc _ _ hargs), fun _ => hd.ex, fun H1 s1 => ?_⟩
        rw [decide_eq_true hx]
        exact kk H1 (sc.trans s1)
    | probe h =>
      obtain ⟨x, ds, e, hx, hx1, hx2, hl⟩ : ∃ x ds, d = .tuple (.str x :: ds) ∧ x ∈ probesW ∧ x ≠ "if" ∧ x ≠ "while" ∧ ds.length = 4 := by
        cases h with
        | probe => exact ⟨_, _, rfl, by decide +kernel, by decide +kernel, by decide +kernel, rfl⟩
        | assert => exact ⟨_, _, rfl, by decide +kernel, by decide +kernel, by decide +kernel, rfl⟩
      obtain ⟨t, args, rfl, ht, hargs⟩ := head e
      have hv2 := hv
      rw [e] at hv2
      refine ⟨_, rfl, _, _, _, _, true, rfl, .ty _, ty_of hv2, kit_ty (by decide +kernel : kitB "tuple" "tuple" = some true), _, rfl, iteF ?_⟩
      refine ⟨_, rfl, true, .inr (.inl ⟨_, ht, rfl⟩), iteF ?_⟩
      refine ⟨_, rfl, t, _, 0, _, rfl, rfl, ht, a0, rfl, _, rfl, ?_⟩
      show (if decide (V.str x = V.str "if") = true then _ else _)
      rw [decide_eq_false fun e => hx1 (V.str.inj e)]
      refine iteF ⟨_, rfl, t, _, 0, _, rfl, rfl, ht, a0, rfl, _, rfl, ?_⟩
      show (if decide (V.str x = V.str "while") = true then _ else _)
      rw [decide_eq_false fun e => hx2 (V.str.inj e)]
      refine iteF ⟨_, rfl, t, _, 0, _, rfl, rfl, ht, a0, C.tP, _, rfl, .inr (C.hP H), rfl, flat_strs _, _, rfl, ?_⟩
      show (if inV (V.str x) (probesW.map V.str) = true then _ else _)
      rw [inV_str, decide_eq_true hx]
      refine iteT ⟨_, rfl, t, _, rfl, .inr ht, rfl, _, rfl, ?_⟩
      have e5 : ((V.str x :: args).length : Int) = 5 := by rw [List.length_cons, dpAll_len hargs, hl]; rfl
      show (if decide (V.int ((V.str x :: args).length : Int) = V.int 5) = true then _ else _)
      rw [e5, decide_eq_true rfl]
      exact iteT ⟨_, rfl, .ref t, d, rfl, hv, h, kk⟩
end
/-! ### rows drawn -/
theorem PoolAt.upd {H : Hp} {p q b : Addr} {n : Nat} {o : HO} (h : PoolAt H p q n) (n1 : b ≠ p) (n2 : b ≠ q) : PoolAt (L2.upd H b o) p q n := by
  obtain ⟨npq, cs, x, c0, e1, e2, r⟩ := h
  exact ⟨npq, cs, x, c0, by rw [upd_ne n1.symm]; exact e1, by rw [upd_ne n2.symm]; exact e2, r⟩
def nbW : List (Str × Nat) := [(("take" : Str), 1), (("skip" : Str), 1), (("drain" : Str), 1), (("fetch" : Str), 1), (("bind" : Str), 2), (("roll" : Str), 1), (("seed" : Str), 1), (("get" : Str), 2), (("peek" : Str), 2), (("has" : Str), 2), (("put" : Str), 2), (("fill" : Str), 2), (("drop" : Str), 2), (("size" : Str), 1), (("keys" : Str), 1), (("load" : Str), 1), (("wipe" : Str), 1), (("change" : Str), 1), (("look" : Str), 1), (("glance" : Str), 1), (("renew" : Str), 1), (("lift" : Str), 1), (("read" : Str), 1), (("watch" : Str), 1), (("keep" : Str), 1), (("copy" : Str), 2), (("tell" : Str), 1), (("bound" : Str), 1), (("mark" : Str), 1), (("spy" : Str), 1), (("say" : Str), 1), (("stop" : Str), 0), (("call" : Str), 1), (("else" : Str), 0), (("end" : Str), 0), (("ask" : Str), 1)]
def NbK (K : PySem.W.Frag) (w : World) (dN : Addr) : Prop := ∀ (x : Str) (k : Nat), (x, k) ∈ nbW → KDct K w dN x (.int (k : Int))
section
variable {K : PySem.W.Frag} {w : World} {dN : Addr} {x a b : Str}
theorem words0 (N : NbK K w dN) (h : (x, 0) ∈ nbW) : WordsD K w dN x [] := ⟨⟨([] : List Str), rfl, (fun z hz => nomatch hz), Nat.zero_le _, N x 0 h⟩⟩
theorem words1 (N : NbK K w dN) (h : (x, 1) ∈ nbW) (ha : IsWord a) : WordsD K w dN x [.str a] := ⟨⟨[a], rfl, (fun z hz => by rw [List.mem_singleton.mp hz]; exact ha), by show 1 ≤ 100; decide, N x 1 h⟩⟩
theorem words2 (N : NbK K w dN) (h : (x, 2) ∈ nbW) (ha : IsWord a) (hb : IsWord b) : WordsD K w dN x [.str a, .str b] := ⟨⟨[a, b], rfl, (fun z hz => by
  rcases List.mem_cons.mp hz with rfl | hz
  · exact ha
  · rw [List.mem_singleton.mp hz]; exact hb), by show 2 ≤ 100; decide, N x 2 h⟩⟩
end
def spGen (K : PySem.W.Frag) (R : PyData → Prop) (c : Nat) : Sp := fun vs H Q _ => ∃ (p q : Addr) (n : Nat) (L : List Addr), vs = [.ref p] ∧ PoolAt H p q n ∧ n + c < 800000 ∧ Alive L H ∧ p ∈ L ∧ q ∈ L ∧
  ∀ (v : V) (d : PyData) (n' : Nat) (H' : Hp), Dp K (mask L H') v d → R d → n ≤ n' → n' ≤ n + c → PoolAt H' p q n' → Keeps p q H H' → Q v H'
def flW : List Str := ["take", "drain", "roll", "look", "renew", "read", "mark", "size", "keys", "glance", "watch", "tell", "bound", "spy", "get", "drop", "peek", "has"]
theorem flW_ok : ∀ k : Fin 18, flW.getD k.val ("" : Str) ∈ looksW ∧ (flW.getD k.val ("" : Str), if k.val < 14 then 1 else 2) ∈ nbW := by decide +kernel
theorem flW_at (k : Nat) (h : k < 18) : ∃ x, flW[k]? = some x ∧ x ∈ looksW ∧ (x, if k < 14 then 1 else 2) ∈ nbW := by
  have := flW_ok ⟨k, h⟩
  refine ⟨flW.getD k ("" : Str), ?_, this.1, this.2⟩
  rw [List.getD_eq_getElem?_getD, List.getElem?_eq_getElem (show k < flW.length from h)]
  rfl
section
variable {P : Program} {w : World} {K : PySem.W.Frag} {mg : Str → Option Value} {base : Heap}
theorem scFL : FnScope ["pool", "words", "pick"] ["pool"] (defScope sFLook) := ⟨rfl, rfl, rfl, by decide +kernel, rfl, by decide +kernel, by decide +kernel⟩
theorem ok_flook {f fD fW dN : Addr} {fd fdD fdW : FuncData} (F : Fun K "_law_free_look" "_law_free_look" sFLook f fd) (N : NbK K w dN) (GD : FnOk P w K mg base CX0 1 fD fdD ["pool", "many"] spDraw) (mD : mg "_law_draw" = some (.ref fD)) (kD : PySem.W.keepIn K (.ref fD) = true) (bD : Binds K fdD ["pool", "many"] [])
    (GW : FnOk P w K mg base CX0 2 fW fdW ["pool"] spWord) (mW : mg "_law_word" = some (.ref fW)) (kW : PySem.W.keepIn K (.ref fW) = true) (bW : Binds K fdW ["pool"] []) : FnOk P w K mg base CX0 3 f fd ["pool"] (spGen K (LookD K w dN) 20) := by
  refine F.ok scFL (fun vs H Q E h => ?_) (fun cdv A outer s H vs Q E hr h => ?_)
  · obtain ⟨p, q, n, L, rfl, _⟩ := h
    rfl
  · obtain ⟨p, q, n, L, rfl, hP, hn, al, mp, mq, kk⟩ := h
    have hr1 : Room 1 _ := hr.mono (by decide)
    refine ⟨_, pss_cons (ps_set (i := 1) scFL.nd rfl (.inl rfl) (pe_lst (pa_cons pe_str (pa_cons pe_str (pa_cons pe_str (pa_cons pe_str (pa_cons pe_str (pa_cons pe_str (pa_cons pe_str (pa_cons pe_str (pa_cons pe_str (pa_cons pe_str (pa_cons pe_str (pa_cons pe_str (pa_cons pe_str (pa_cons pe_str (pa_cons pe_str (pa_cons pe_str (pa_cons pe_str (pa_cons pe_str pa_nil))))))))))))))))))))
      (pss_cons (ps_set (i := 2) scFL.nd rfl (.inl rfl) (pe_call GD hr1 (by rfl) mD kD bD .nil pass0 (pa_cons (pv 0) (pa_cons pe_int pa_nil))))
      (pss_cons (ps_if (pt_cmpR op_lt (pv 2) pe_int (nomark _)) (pss_one (ps_ret (pe_tup (pa_cons (pe_ix ix_list (pv 1) (pv 2) (fun _ _ => rfl)) (pa_cons (pe_call GW hr (by rfl) mW kW bW .nil pass0 (pa_cons (pv 0) pa_nil)) pa_nil))))) pss_nil)
      (pss_one (ps_ret (pe_tup (pa_cons (pe_ix ix_list (pv 1) (pv 2) (fun _ _ => rfl)) (pa_cons (pe_call GW hr (by rfl) mW kW bW .nil pass0 (pa_cons (pv 0) pa_nil)) (pa_cons (pe_call GW hr (by rfl) mW kW bW .nil pass0 (pa_cons (pv 0) pa_nil)) pa_nil)))))))), ?_⟩
    refine ⟨by show 18 ≤ sizeLine; decide, fun wl nwl => ?_⟩
    have P1 := hP.new (o := .lst (flW.map V.str)) nwl
    have k1 : Keeps p q H (upd H wl (.lst (flW.map V.str))) := .upd_new nwl
    have ewl : (upd H wl (.lst (flW.map V.str))) wl = some (.lst (flW.map V.str)) := upd_same
    have wlL := al.not nwl
    have wlp : wl ≠ p ∧ wl ≠ q := ⟨fun e => wlL (by rw [e]; exact mp), fun e => wlL (by rw [e]; exact mq)⟩
    have al1 : Alive L (upd H wl (.lst (flW.map V.str))) := k1.alive al P1
    refine ⟨_, rfl, p, q, n, 18, rfl, P1, by omega, by decide, by decide, fun d H2 d0 d1 P2 k2 => ?_⟩
    have ewl2 := k2 _ _ wlp.1 wlp.2 ewl
    have al2 := k2.alive al1 P2
    obtain ⟨k, rfl⟩ : ∃ k : Nat, d = (k : Int) := ⟨d.toNat, by omega⟩
    obtain ⟨x, ex, hx, hnb⟩ := flW_at k (by omega)
    have exV : atI (flW.map V.str) (k : Int) = some (.str x) := atI_nat (by rw [List.getElem?_map, ex]; rfl)
    refine ⟨_, rfl, _, _, rfl, rfl, _, rfl, ?_⟩
    show (if decide ((k : Int) < 14) = true then _ else _)
    by_cases hk : k < 14
    · rw [decide_eq_true (by omega : (k : Int) < 14)]
      rw [if_pos hk] at hnb
      refine iteT ⟨_, rfl, _, rfl, wl, _, _, _, rfl, rfl, SqL.of ewl2, exV, ?_⟩
      refine ⟨_, rfl, p, q, n + 1, rfl, P2, by omega, fun a n3 H3 ha h31 h32 P3 k3 => ⟨by show 2 ≤ sizeLine; decide, fun t nt => ?_⟩⟩
      have al3 := k3.alive al2 P3
      exact kk (.ref t) (.tuple [.str x, .str a]) n3 _ (.tup (SqT.of (mask_upd (al3.not nt))) (.cons (.str x) (.cons (.str a) .nil))) ⟨x, _, rfl, hx, words1 N hnb ha⟩ (by omega) (by omega) (P3.new nt) (((k1.trans k2).trans k3).trans (.upd_new nt))
    · rw [decide_eq_false (by omega : ¬ (k : Int) < 14)]
      rw [if_neg hk] at hnb
      refine iteF ⟨_, rfl, _, rfl, wl, _, _, _, rfl, rfl, SqL.of ewl2, exV, ?_⟩
      refine ⟨_, rfl, p, q, n + 1, rfl, P2, by omega, fun a n3 H3 ha h31 h32 P3 k3 => ?_⟩
      refine ⟨_, rfl, p, q, n3, rfl, P3, by omega, fun b n4 H4 hb h41 h42 P4 k4 => ⟨by show 3 ≤ sizeLine; decide, fun t nt => ?_⟩⟩
      have al4 := k4.alive (k3.alive al2 P3) P4
      exact kk (.ref t) (.tuple [.str x, .str a, .str b]) n4 _ (.tup (SqT.of (mask_upd (al4.not nt))) (.cons (.str x) (.cons (.str a) (.cons (.str b) .nil)))) ⟨x, _, rfl, hx, words2 N hnb ha hb⟩ (by omega) (by omega) (P4.new nt) ((((k1.trans k2).trans k3).trans k4).trans (.upd_new nt))
theorem scFP : FnScope ["pool", "gate", "many", "k", "args", "x", "test", "body"] ["pool"] (defScope sFProbe) := ⟨rfl, rfl, rfl, by decide +kernel, rfl, by decide +kernel, by decide +kernel⟩
theorem gates_at (k : Nat) (h : k < 4) : ∃ x, gatesW[k]? = some x ∧ x ∈ gatesW := ⟨gatesW[k]'h, List.getElem?_eq_getElem _, List.getElem_mem _⟩
theorem ok_fprobe {f fD fW fL dN : Addr} {fd fdD fdW fdL : FuncData} (F : Fun K "_law_free_probe" "_law_free_probe" sFProbe f fd) (B : Bts mg) (N : NbK K w dN) (GD : FnOk P w K mg base CX0 1 fD fdD ["pool", "many"] spDraw) (mD : mg "_law_draw" = some (.ref fD)) (kD : PySem.W.keepIn K (.ref fD) = true) (bD : Binds K fdD ["pool", "many"] [])
    (GW : FnOk P w K mg base CX0 2 fW fdW ["pool"] spWord) (mW : mg "_law_word" = some (.ref fW)) (kW : PySem.W.keepIn K (.ref fW) = true) (bW : Binds K fdW ["pool"] [])
    (GL : FnOk P w K mg base CX0 3 fL fdL ["pool"] (spGen K (LookD K w dN) 20)) (mL : mg "_law_free_look" = some (.ref fL)) (kL : PySem.W.keepIn K (.ref fL) = true) (bL : Binds K fdL ["pool"] []) : FnOk P w K mg base CX0 4 f fd ["pool"] (spGen K (PartsD K w dN) 300) := by
  refine F.ok scFP (fun vs H Q E h => ?_) (fun cdv A outer s H vs Q E hr h => ?_)
  · obtain ⟨p, q, n, L, rfl, _⟩ := h
    rfl
  · obtain ⟨p, q, n, L, rfl, hP, hn, al, mp, mq, kk⟩ := h
    have hr1 : Room 1 _ := hr.mono (by decide)
    have hr2 : Room 2 _ := hr.mono (by decide)
    refine ⟨_, pss_cons (ps_set (i := 1) scFP.nd rfl (.inl rfl) (pe_ix ix_list (pe_lst (pa_cons pe_str (pa_cons pe_str (pa_cons pe_str (pa_cons pe_str pa_nil))))) (pe_call GD hr1 (by rfl) mD kD bD .nil pass0 (pa_cons (pv 0) (pa_cons pe_int pa_nil))) (fun _ _ => rfl)))
      (pss_cons (ps_set (i := 2) scFP.nd rfl (.inl rfl) (pe_call GD hr1 (by rfl) mD kD bD .nil pass0 (pa_cons (pv 0) (pa_cons pe_int pa_nil))))
      (pss_cons (ps_set (i := 4) scFP.nd rfl (.inl rfl) (pe_callTy call_tuple_of (by rfl) B.tuple (by decide +kernel) (pa_cons (pe_lc (own := [("k", 3)]) (g := gName 3) (tt := tYes) rfl scFP.nd (pi_range1 (by rfl) B.range (pa_cons (pv 2) pa_nil)) (blkOk_by (N := ["pool", "gate", "many", "k", "args", "x", "test", "body"]) (sc := defScope sFProbe) (by decide +kernel))
          (fun _ _ _ _ _ => pg_name (i := 3) scFP.nd rfl (.inl rfl)) (fun _ _ _ _ _ => pts_nil) (fun _ _ _ _ _ => pe_call GL hr (by rfl) mL kL bL .nil pass0 (pa_cons (pv 0) pa_nil))) pa_nil)))
      (pss_cons (ps_set (i := 5) scFP.nd rfl (.inl rfl) (pe_call GW hr2 (by rfl) mW kW bW .nil pass0 (pa_cons (pv 0) pa_nil)))
      (pss_cons (ps_if (pt_cmpR op_eq (pe_call GD hr1 (by rfl) mD kD bD .nil pass0 (pa_cons (pv 0) (pa_cons pe_int pa_nil))) pe_int (nomark _))
        (pss_cons (ps_set (i := 6) scFP.nd rfl (.inl rfl) (pe_ix ix_list (pe_lst (pa_cons (pe_tup (pa_cons pe_str (pa_cons (pv 5) (pa_cons (pe_call GW hr2 (by rfl) mW kW bW .nil pass0 (pa_cons (pv 0) pa_nil)) pa_nil)))) (pa_cons (pe_tup (pa_cons pe_str (pa_cons (pv 5) pa_nil))) (pa_cons (pe_tup (pa_cons pe_str (pa_cons (pv 5) pa_nil))) (pa_cons (pe_tup (pa_cons pe_str (pa_cons (pv 5) pa_nil))) pa_nil)))))
            (pe_call GD hr1 (by rfl) mD kD bD .nil pass0 (pa_cons (pv 0) (pa_cons pe_int pa_nil))) (fun _ _ => rfl)))
          (pss_one (ps_ret (pe_tup (pa_cons pe_str (pa_cons (pe_call GW hr2 (by rfl) mW kW bW .nil pass0 (pa_cons (pv 0) pa_nil)) (pa_cons (pv 1) (pa_cons (pv 4) (pa_cons (pv 6) pa_nil))))))))) pss_nil)
      (pss_cons (ps_set (i := 7) scFP.nd rfl (.inl rfl) (pe_callTy call_tuple_of (by rfl) B.tuple (by decide +kernel) (pa_cons (pe_lc (own := [("k", 3)]) (g := gName 3) (tt := tYes) rfl scFP.nd (pi_range1 (by rfl) B.range (pa_cons (pe_call GD hr1 (by rfl) mD kD bD .nil pass0 (pa_cons (pv 0) (pa_cons (pe_op op_sub pe_int (pv 2)) pa_nil))) pa_nil)) (blkOk_by (N := ["pool", "gate", "many", "k", "args", "x", "test", "body"]) (sc := defScope sFProbe) (by decide +kernel))
          (fun _ _ _ _ _ => pg_name (i := 3) scFP.nd rfl (.inl rfl)) (fun _ _ _ _ _ => pts_nil) (fun _ _ _ _ _ => pe_call GL hr (by rfl) mL kL bL .nil pass0 (pa_cons (pv 0) pa_nil))) pa_nil)))
      (pss_one (ps_ret (pe_tup (pa_cons pe_str (pa_cons (pv 5) (pa_cons (pv 1) (pa_cons (pv 4) (pa_cons (pv 7) pa_nil))))))))))))), ?_⟩
    -- gate
    refine ⟨by show 4 ≤ sizeLine; decide, fun gl ngl => ?_⟩
    have P1 := hP.new (o := .lst (gatesW.map V.str)) ngl
    have k1 : Keeps p q H (upd H gl (.lst (gatesW.map V.str))) := .upd_new ngl
    have egl : (upd H gl (.lst (gatesW.map V.str))) gl = some (.lst (gatesW.map V.str)) := upd_same
    have glL := al.not ngl
    have glp : gl ≠ p ∧ gl ≠ q := ⟨fun e => glL (by rw [e]; exact mp), fun e => glL (by rw [e]; exact mq)⟩
    have al1 : Alive L (upd H gl (.lst (gatesW.map V.str))) := k1.alive al P1
    refine ⟨_, rfl, p, q, n, 4, rfl, P1, by omega, by decide, by decide, fun d H2 d0 d1 P2 k2 => ?_⟩
    obtain ⟨gk, rfl⟩ : ∃ k : Nat, d = (k : Int) := ⟨d.toNat, by omega⟩
    obtain ⟨g, eg, hg⟩ := gates_at gk (by omega)
    refine ⟨gl, _, _, _, rfl, rfl, SqL.of (k2 _ _ glp.1 glp.2 egl), atI_nat (by rw [List.getElem?_map, eg]; rfl), ?_⟩
    have k12 := k1.trans k2
    have al2 := k12.alive al P2
    -- many, args
    refine ⟨_, rfl, p, q, n + 1, 7, rfl, P2, by omega, by decide, by decide, fun d H3 d0' d1' P3 k3 => ?_⟩
    obtain ⟨m, rfl⟩ : ∃ k : Nat, d = (k : Int) := ⟨d.toNat, by omega⟩
    have k13 := k12.trans k3
    have al3 := k13.alive al P3
    refine ⟨_, rfl, m, rfl, by omega, by omega, fun D nD => ?_⟩
    have DL := al3.not nD
    have nDp : D ≠ p ∧ D ≠ q := ⟨fun e => DL (by rw [e]; exact mp), fun e => DL (by rw [e]; exact mq)⟩
    refine lc_range (lo := 0) (n := (m : Int).toNat) (fun j H5 => ∃ (vs : List V) (ds : List PyData) (n5 : Nat), H5 D = some (.lst vs) ∧ vs.length = j ∧ DpAll K (mask (D :: L) H5) vs ds ∧ (∀ d ∈ ds, LookD K w dN d) ∧ (n + 2) ≤ n5 ∧ n5 ≤ (n + 2) + 20 * j ∧ PoolAt H5 p q n5 ∧ Keeps p q H3 H5)
      ⟨[], [], (n + 2), upd_same, rfl, .nil, fun _ h => (by cases h), by omega, by omega, P3.new nD, .upd_new nD⟩ (fun j H5 hj hI => ?_) (fun H5 hI => ?_)
    · obtain ⟨vs, ds, n5, eD, el, hds, hls, h51, h52, P5, k5⟩ := hI
      have al5 : Alive (D :: L) H5 := fun z hz => by
        rcases List.mem_cons.mp hz with rfl | hz
        · exact ⟨_, eD⟩
        · exact k5.alive al3 P5 z hz
      refine ⟨rfl, _, rfl, p, q, n5, D :: L, rfl, P5, by omega, al5, List.mem_cons_of_mem _ mp, List.mem_cons_of_mem _ mq, fun v d n6 H6 hd hR h61 h62 P6 k6 => ?_⟩
      refine ⟨vs, k6 _ _ nDp.1 nDp.2 eD, small1000 (by omega), vs ++ [v], ds ++ [d], n6, upd_same, by rw [List.length_append, el]; rfl, ?_, fun d' hd' => ?_, by omega, by omega, P6.upd nDp.1 nDp.2, ?_⟩
      · exact dpAll_app (dpAll_same ((Keeps.maskL (List.mem_cons_of_mem _ mp) (List.mem_cons_of_mem _ mq) k6).trans (mask_at List.mem_cons_self)) _ _ hds) (.cons (dp_same (mask_at List.mem_cons_self) _ _ hd) .nil)
      · rcases List.mem_append.mp hd' with hd' | hd'
        · exact hls d' hd'
        · rw [List.mem_singleton.mp hd']; exact hR
      · intro z o z1 z2 e
        have e6 := k6 z o z1 z2 (k5 z o z1 z2 e)
        rw [upd_ne fun h => by rw [h, nD] at e; cases e]
        exact e6
    obtain ⟨avs, as, n5, eD, el, hds, has, h51, h52, P5, k5⟩ := hI
    refine ⟨D, avs, rfl, .inl ⟨SqL.of eD, fun ta nta => ?_⟩⟩
    have al5 := k5.alive al3 P5
    have hA : Dp K (mask L (upd H5 ta (.tup avs))) (.ref ta) (.tuple as) := .tup (SqT.of (mask_upd (al5.not nta))) (dpAll_same (mask_same (same_new nta)) _ _ (dpAll_same mask_less _ _ hds))
    have P6 := P5.new (o := .tup avs) nta
    have k16 : Keeps p q H (upd H5 ta (.tup avs)) := (k13.trans k5).trans (.upd_new nta)
    have al6 := k16.alive al P6
    have hla : as.length = m := by rw [← dpAll_len hds, el]; omega
    generalize upd H5 ta (.tup avs) = H6 at *
    clear eD hds k5 k13 k12 k1 k2 k3 al5 al3 al2 al1
    -- x, which
    refine ⟨_, rfl, p, q, n5, rfl, P6, by omega, fun x n7 H7 hx h71 h72 P7 k7 => ?_⟩
    refine ⟨_, rfl, p, q, n7, 2, rfl, P7, by omega, by decide, by decide, fun dd H8 e0 e1 P8 k8 => ?_⟩
    have k68 := k7.trans k8
    have al8 := k68.alive al6 P8
    have hA8 := dp_same (Keeps.maskL mp mq k68) _ _ hA
    have k18 := k16.trans k68
    refine ⟨rfl, _, rfl, ?_⟩
    have hdd : dd = 1 ∨ dd = 0 := by omega
    rcases hdd with rfl | rfl
    · refine iteT ⟨_, rfl, _, rfl, p, q, n7 + 1, rfl, P8, by omega, fun y n9 H9 hy h91 h92 P9 k9 => ⟨by show 3 ≤ sizeLine; decide, fun t1 nt1 => ?_⟩⟩
      have al9 := k9.alive al8 P9
      have s10 := same_new (o := .tup [.str "has", .str x, .str y]) nt1
      have hd1 : Dp K (mask L (upd H9 t1 (.tup [.str "has", .str x, .str y]))) (.ref t1) (.tuple [.str "has", .str x, .str y]) := .tup (SqT.of (mask_upd (al9.not nt1))) (.cons (.str _) (.cons (.str _) (.cons (.str _) .nil)))
      have al10 := al9.same s10
      have P10 := P9.new (o := .tup [.str "has", .str x, .str y]) nt1
      generalize upd H9 t1 (.tup [.str "has", .str x, .str y]) = H10 at *
      refine ⟨_, rfl, by show 2 ≤ sizeLine; decide, fun t2 nt2 => ?_⟩
      have s11 := same_new (o := .tup [.str "bound", .str x]) nt2
      have hd2 : Dp K (mask L (upd H10 t2 (.tup [.str "bound", .str x]))) (.ref t2) (.tuple [.str "bound", .str x]) := .tup (SqT.of (mask_upd (al10.not nt2))) (.cons (.str _) (.cons (.str _) .nil))
      have al11 := al10.same s11
      have P11 := P10.new (o := .tup [.str "bound", .str x]) nt2
      generalize upd H10 t2 (.tup [.str "bound", .str x]) = H11 at *
      refine ⟨_, rfl, by show 2 ≤ sizeLine; decide, fun t3 nt3 => ?_⟩
      have s12 := same_new (o := .tup [.str "read", .str x]) nt3
      have hd3 : Dp K (mask L (upd H11 t3 (.tup [.str "read", .str x]))) (.ref t3) (.tuple [.str "read", .str x]) := .tup (SqT.of (mask_upd (al11.not nt3))) (.cons (.str _) (.cons (.str _) .nil))
      have al12 := al11.same s12
      have P12 := P11.new (o := .tup [.str "read", .str x]) nt3
      generalize upd H11 t3 (.tup [.str "read", .str x]) = H12 at *
      refine ⟨_, rfl, by show 2 ≤ sizeLine; decide, fun t4 nt4 => ?_⟩
      have s13 := same_new (o := .tup [.str "watch", .str x]) nt4
      have hd4 : Dp K (mask L (upd H12 t4 (.tup [.str "watch", .str x]))) (.ref t4) (.tuple [.str "watch", .str x]) := .tup (SqT.of (mask_upd (al12.not nt4))) (.cons (.str _) (.cons (.str _) .nil))
      have al13 := al12.same s13
      have P13 := P12.new (o := .tup [.str "watch", .str x]) nt4
      generalize upd H12 t4 (.tup [.str "watch", .str x]) = H13 at *
      refine ⟨by show 4 ≤ sizeLine; decide, fun tl ntl => ?_⟩
      have s14 := same_new (o := .lst [.ref t1, .ref t2, .ref t3, .ref t4]) ntl
      have etl : (upd H13 tl (.lst [.ref t1, .ref t2, .ref t3, .ref t4])) tl = some (.lst [.ref t1, .ref t2, .ref t3, .ref t4]) := upd_same
      have tlL := al13.not ntl
      have al14 := al13.same s14
      have P14 := P13.new (o := .lst [.ref t1, .ref t2, .ref t3, .ref t4]) ntl
      generalize upd H13 tl (.lst [.ref t1, .ref t2, .ref t3, .ref t4]) = H14 at *
      refine ⟨_, rfl, p, q, n9, 4, rfl, P14, by omega, by decide, by decide, fun d4 H15 f0 f1 P15 k15 => ?_⟩
      have tlp : tl ≠ p ∧ tl ≠ q := ⟨fun e => tlL (by rw [e]; exact mp), fun e => tlL (by rw [e]; exact mq)⟩
      have k15m := Keeps.maskL mp mq k15
      have s1014 := ((s11.trans s12).trans s13).trans s14
      obtain ⟨tk, y', ds', etk, hdk, hy', hw'⟩ : ∃ tk y' ds', atI [V.ref t1, .ref t2, .ref t3, .ref t4] d4 = some (.ref tk) ∧ Dp K (mask L H15) (.ref tk) (.tuple (.str y' :: ds')) ∧ y' ∈ assertW ∧ WordsD K w dN y' ds' := by
        have hd4' : d4 = 0 ∨ d4 = 1 ∨ d4 = 2 ∨ d4 = 3 := by omega
        rcases hd4' with rfl | rfl | rfl | rfl
        · exact ⟨t1, _, _, atI_nat (j := 0) rfl, dp_same ((mask_same s1014).trans k15m) _ _ hd1, by decide +kernel, words2 N (by decide +kernel) hx hy⟩
        · exact ⟨t2, _, _, atI_nat (j := 1) rfl, dp_same ((mask_same ((s12.trans s13).trans s14)).trans k15m) _ _ hd2, by decide +kernel, words1 N (by decide +kernel) hx⟩
        · exact ⟨t3, _, _, atI_nat (j := 2) rfl, dp_same ((mask_same (s13.trans s14)).trans k15m) _ _ hd3, by decide +kernel, words1 N (by decide +kernel) hx⟩
        · exact ⟨t4, _, _, atI_nat (j := 3) rfl, dp_same ((mask_same s14).trans k15m) _ _ hd4, by decide +kernel, words1 N (by decide +kernel) hx⟩
      refine ⟨tl, _, d4, _, rfl, rfl, SqL.of (k15 _ _ tlp.1 tlp.2 etl), etk, ?_⟩
      have al15 := k15.alive al14 P15
      refine ⟨_, rfl, p, q, n9 + 1, rfl, P15, by omega, fun z n16 H16 hz h161 h162 P16 k16' => ⟨_, rfl, _, rfl, _, rfl, by show 5 ≤ sizeLine; decide, fun tr ntr => ?_⟩⟩
      have al16 := k16'.alive al15 P16
      have k16m := Keeps.maskL mp mq k16'
      have sr := mask_same (l := L) (same_new (o := .tup [.str "assert", .str z, .str g, .ref ta, .ref tk]) ntr)
      have hA16 := dp_same (((Keeps.maskL mp mq k9).trans (mask_same (s10.trans s1014))).trans (k15m.trans (k16m.trans sr))) _ _ hA8
      have hK16 := dp_same (k16m.trans sr) _ _ hdk
      refine kk (.ref tr) (.tuple [.str "assert", .str z, .str g, .tuple as, .tuple (.str y' :: ds')]) n16 _ (.tup (SqT.of (mask_upd (al16.not ntr))) (.cons (.str _) (.cons (.str _) (.cons (.str _) (.cons hA16 (.cons hK16 .nil)))))) (.assert hz hg has (by omega) hy' hw') (by omega) (by omega) (P16.new ntr) ?_
      exact ((((k18.trans k9).trans (.of_same (s10.trans s1014))).trans k15).trans k16').trans (.upd_new ntr)
    · refine iteF ⟨_, rfl, _, rfl, 7, m, rfl, rfl, p, q, n7 + 1, _, rfl, P8, by omega, by omega, by omega, fun d9 H9 f0 f1 P9 k9 => ?_⟩
      obtain ⟨m2, rfl⟩ : ∃ k : Nat, d9 = (k : Int) := ⟨d9.toNat, by omega⟩
      have al9 := k9.alive al8 P9
      refine ⟨m2, rfl, by omega, by omega, fun D nD => ?_⟩
      have DL := al9.not nD
      have nDp : D ≠ p ∧ D ≠ q := ⟨fun e => DL (by rw [e]; exact mp), fun e => DL (by rw [e]; exact mq)⟩
      refine lc_range (lo := 0) (n := (m2 : Int).toNat) (fun j H5 => ∃ (vs : List V) (ds : List PyData) (n5 : Nat), H5 D = some (.lst vs) ∧ vs.length = j ∧ DpAll K (mask (D :: L) H5) vs ds ∧ (∀ d ∈ ds, LookD K w dN d) ∧ (n7 + 2) ≤ n5 ∧ n5 ≤ (n7 + 2) + 20 * j ∧ PoolAt H5 p q n5 ∧ Keeps p q H9 H5)
        ⟨[], [], (n7 + 2), upd_same, rfl, .nil, fun _ h => (by cases h), by omega, by omega, P9.new nD, .upd_new nD⟩ (fun j H5 hj hI => ?_) (fun H5 hI => ?_)
      · obtain ⟨vs, ds, n5, eD, el, hds, hls, h51, h52, P5, k5⟩ := hI
        have al5 : Alive (D :: L) H5 := fun z hz => by
          rcases List.mem_cons.mp hz with rfl | hz
          · exact ⟨_, eD⟩
          · exact k5.alive al9 P5 z hz
        refine ⟨rfl, _, rfl, p, q, n5, D :: L, rfl, P5, by omega, al5, List.mem_cons_of_mem _ mp, List.mem_cons_of_mem _ mq, fun v d n6 H6 hd hR h61 h62 P6 k6 => ?_⟩
        refine ⟨vs, k6 _ _ nDp.1 nDp.2 eD, small1000 (by omega), vs ++ [v], ds ++ [d], n6, upd_same, by rw [List.length_append, el]; rfl, ?_, fun d' hd' => ?_, by omega, by omega, P6.upd nDp.1 nDp.2, ?_⟩
        · exact dpAll_app (dpAll_same ((Keeps.maskL (List.mem_cons_of_mem _ mp) (List.mem_cons_of_mem _ mq) k6).trans (mask_at List.mem_cons_self)) _ _ hds) (.cons (dp_same (mask_at List.mem_cons_self) _ _ hd) .nil)
        · rcases List.mem_append.mp hd' with hd' | hd'
          · exact hls d' hd'
          · rw [List.mem_singleton.mp hd']; exact hR
        · intro z o z1 z2 e
          have e6 := k6 z o z1 z2 (k5 z o z1 z2 e)
          rw [upd_ne fun h => by rw [h, nD] at e; cases e]
          exact e6
      · obtain ⟨bvs, bs, n15, eD, el, hds, hbs, h151, h152, P15, k15⟩ := hI
        refine ⟨D, bvs, rfl, .inl ⟨SqL.of eD, fun tb ntb => ?_⟩⟩
        have al15 := k15.alive al9 P15
        have stb := mask_same (l := L) (same_new (o := .tup bvs) ntb)
        have hB : Dp K (mask L (upd H5 tb (.tup bvs))) (.ref tb) (.tuple bs) := .tup (SqT.of (mask_upd (al15.not ntb))) (dpAll_same stb _ _ (dpAll_same mask_less _ _ hds))
        have hA15 := dp_same ((Keeps.maskL mp mq (k9.trans k15)).trans stb) _ _ hA8
        have P16 := P15.new (o := .tup bvs) ntb
        have k16' : Keeps p q H (upd H5 tb (.tup bvs)) := ((k18.trans k9).trans k15).trans (.upd_new ntb)
        have al16 := k16'.alive al P16
        have hlb : bs.length = m2 := by rw [← dpAll_len hds, el]; omega
        generalize upd H5 tb (.tup bvs) = H16 at *
        refine ⟨_, rfl, _, rfl, _, rfl, _, rfl, by show 5 ≤ sizeLine; decide, fun tr ntr => ?_⟩
        have sr := mask_same (l := L) (same_new (o := .tup [.str "probe", .str x, .str g, .ref ta, .ref tb]) ntr)
        exact kk (.ref tr) (.tuple [.str "probe", .str x, .str g, .tuple as, .tuple bs]) n15 _ (.tup (SqT.of (mask_upd (al16.not ntr))) (.cons (.str _) (.cons (.str _) (.cons (.str _) (.cons (dp_same sr _ _ hA15) (.cons (dp_same sr _ _ hB) .nil)))))) (.probe hx hg has hbs (by omega)) (by omega) (by omega) (P16.new ntr) (k16'.trans (.upd_new ntr))
end
theorem list_pick {K : PySem.W.Frag} {L : List Addr} {p q : Addr} {H H' : Hp} {v : V} {ds : List PyData} (hv : Dp K (mask L H) v (.list ds)) (k : Keeps p q H H') (mp : p ∈ L) (mq : q ∈ L) : ∃ a vs, v = .ref a ∧ SqL K H' a vs ∧ DpAll K (mask L H') vs ds := by
  have h := dp_same (Keeps.maskL mp mq k) _ _ hv
  cases h with
  | lst h1 h2 => exact ⟨_, _, rfl, (mask_sub _ _).seq h1, h2⟩
def rows0 (x : Str) : List PyData := [.tuple [.str "say", .str x], .tuple [.str "stop"], .tuple [.str "call", .str x], .tuple [.str "else"], .tuple [.str "end"]]
def rows1 (x y : Str) : List PyData := [.tuple [.str "if", .str "ask", .str x], .tuple [.str "if", .str "take", .str x], .tuple [.str "if", .str "has", .str x, .str y], .tuple [.str "if", .str "read", .str x], .tuple [.str "if", .str "bound", .str x], .tuple [.str "while", .str "ask", .str x], .tuple [.str "while", .str "take", .str x]]
section
variable {K : PySem.W.Frag} {w : World} {dN : Addr} {x y : Str}
theorem rows0_ok (N : NbK K w dN) (hx : IsWord x) {i : Nat} (h : i < 5) : ∃ d, (rows0 x)[i]? = some d ∧ RowD K w dN d true := by
  match i with
  | 0 => exact ⟨_, rfl, .deed (.inr (by decide +kernel)) (words1 N (by decide +kernel) hx)⟩
  | 1 => exact ⟨_, rfl, .deed (.inr (by decide +kernel)) (words0 N (by decide +kernel))⟩
  | 2 => exact ⟨_, rfl, .deed (.inr (by decide +kernel)) (words1 N (by decide +kernel) hx)⟩
  | 3 => exact ⟨_, rfl, .deed (.inr (by decide +kernel)) (words0 N (by decide +kernel))⟩
  | 4 => exact ⟨_, rfl, .deed (.inr (by decide +kernel)) (words0 N (by decide +kernel))⟩
  | i + 5 => omega
theorem rows1_ok (N : NbK K w dN) (hx : IsWord x) (hy : IsWord y) {i : Nat} (h : i < 7) : ∃ d, (rows1 x y)[i]? = some d ∧ RowD K w dN d true := by
  match i with
  | 0 => exact ⟨_, rfl, .iff (by decide +kernel) (words1 N (by decide +kernel) hx)⟩
  | 1 => exact ⟨_, rfl, .iff (by decide +kernel) (words1 N (by decide +kernel) hx)⟩
  | 2 => exact ⟨_, rfl, .iff (by decide +kernel) (words2 N (by decide +kernel) hx hy)⟩
  | 3 => exact ⟨_, rfl, .iff (by decide +kernel) (words1 N (by decide +kernel) hx)⟩
  | 4 => exact ⟨_, rfl, .iff (by decide +kernel) (words1 N (by decide +kernel) hx)⟩
  | 5 => exact ⟨_, rfl, .loop (by decide +kernel) (words1 N (by decide +kernel) hx)⟩
  | 6 => exact ⟨_, rfl, .loop (by decide +kernel) (words1 N (by decide +kernel) hx)⟩
  | i + 7 => omega
end
def frW : List Str := ["take", "skip", "drain", "fetch", "roll", "seed", "size", "keys", "load", "wipe", "change", "look", "glance", "renew", "lift", "read", "watch", "keep", "tell", "bind", "copy", "get", "peek", "put", "fill", "drop"]
theorem frW_ok : ∀ k : Fin 26, frW.getD k.val ("" : Str) ∈ deedsW ∧ (frW.getD k.val ("" : Str), if k.val < 19 then 1 else 2) ∈ nbW := by decide +kernel
theorem frW_at (k : Nat) (h : k < 26) : ∃ x, frW[k]? = some x ∧ x ∈ deedsW ∧ (x, if k < 19 then 1 else 2) ∈ nbW := by
  have := frW_ok ⟨k, h⟩
  refine ⟨frW.getD k ("" : Str), ?_, this.1, this.2⟩
  rw [List.getD_eq_getElem?_getD, List.getElem?_eq_getElem (show k < frW.length from h)]
  rfl
section
variable {P : Program} {w : World} {K : PySem.W.Frag} {mg : Str → Option Value} {base : Heap}
theorem scFR : FnScope ["pool", "pick", "x", "y", "words", "k"] ["pool"] (defScope sFRow) := ⟨rfl, rfl, rfl, by decide +kernel, rfl, by decide +kernel, by decide +kernel⟩
theorem ok_frow {f fD fW fB dN : Addr} {fd fdD fdW fdB : FuncData} (F : Fun K "_law_free_row" "_law_free_row" sFRow f fd) (N : NbK K w dN) (GD : FnOk P w K mg base CX0 1 fD fdD ["pool", "many"] spDraw) (mD : mg "_law_draw" = some (.ref fD)) (kD : PySem.W.keepIn K (.ref fD) = true) (bD : Binds K fdD ["pool", "many"] [])
    (GW : FnOk P w K mg base CX0 2 fW fdW ["pool"] spWord) (mW : mg "_law_word" = some (.ref fW)) (kW : PySem.W.keepIn K (.ref fW) = true) (bW : Binds K fdW ["pool"] [])
    (GB : FnOk P w K mg base CX0 4 fB fdB ["pool"] (spGen K (PartsD K w dN) 300)) (mB : mg "_law_free_probe" = some (.ref fB)) (kB : PySem.W.keepIn K (.ref fB) = true) (bB : Binds K fdB ["pool"] []) : FnOk P w K mg base CX0 5 f fd ["pool"] (spGen K (fun d => RowD K w dN d true) 400) := by
  refine F.ok scFR (fun vs H Q E h => ?_) (fun cdv A outer s H vs Q E hr h => ?_)
  · obtain ⟨p, q, n, L, rfl, _⟩ := h
    rfl
  · obtain ⟨p, q, n, L, rfl, hP, hn, al, mp, mq, kk⟩ := h
    have hr1 : Room 1 _ := hr.mono (by decide)
    have hr2 : Room 2 _ := hr.mono (by decide)
    refine ⟨_, pss_cons (ps_set (i := 1) scFR.nd rfl (.inl rfl) (pe_call GD hr1 (by rfl) mD kD bD .nil pass0 (pa_cons (pv 0) (pa_cons pe_int pa_nil))))
      (pss_cons (ps_set (i := 2) scFR.nd rfl (.inl rfl) (pe_call GW hr2 (by rfl) mW kW bW .nil pass0 (pa_cons (pv 0) pa_nil)))
      (pss_cons (ps_set (i := 3) scFR.nd rfl (.inl rfl) (pe_call GW hr2 (by rfl) mW kW bW .nil pass0 (pa_cons (pv 0) pa_nil)))
      (pss_cons (ps_if (pt_cmpR op_eq (pv 1) pe_int (nomark _)) (pss_one (ps_ret (pe_ix ix_list (de_lst (da_cons (de_tup (da_cons de_str (da_cons (dv 2 (pv 2)) da_nil))) (da_cons (de_tup (da_cons de_str da_nil)) (da_cons (de_tup (da_cons de_str (da_cons (dv 2 (pv 2)) da_nil))) (da_cons (de_tup (da_cons de_str da_nil)) (da_cons (de_tup (da_cons de_str da_nil)) da_nil)))))).pe
          (pe_call GD hr1 (by rfl) mD kD bD .nil pass0 (pa_cons (pv 0) (pa_cons pe_int pa_nil))) (fun _ _ => rfl)))) pss_nil)
      (pss_cons (ps_if (pt_cmpR op_eq (pv 1) pe_int (nomark _)) (pss_one (ps_ret (pe_ix ix_list (de_lst (da_cons (de_tup (da_cons de_str (da_cons de_str (da_cons (dv 2 (pv 2)) da_nil)))) (da_cons (de_tup (da_cons de_str (da_cons de_str (da_cons (dv 2 (pv 2)) da_nil)))) (da_cons (de_tup (da_cons de_str (da_cons de_str (da_cons (dv 2 (pv 2)) (da_cons (dv 3 (pv 3)) da_nil))))) (da_cons (de_tup (da_cons de_str (da_cons de_str (da_cons (dv 2 (pv 2)) da_nil)))) (da_cons (de_tup (da_cons de_str (da_cons de_str (da_cons (dv 2 (pv 2)) da_nil)))) (da_cons (de_tup (da_cons de_str (da_cons de_str (da_cons (dv 2 (pv 2)) da_nil)))) (da_cons (de_tup (da_cons de_str (da_cons de_str (da_cons (dv 2 (pv 2)) da_nil)))) da_nil)))))))).pe
          (pe_call GD hr1 (by rfl) mD kD bD .nil pass0 (pa_cons (pv 0) (pa_cons pe_int pa_nil))) (fun _ _ => rfl)))) pss_nil)
      (pss_cons (ps_if (pt_cmpR op_lt (pv 1) pe_int (nomark _)) (pss_one (ps_ret (pe_call GB hr (by rfl) mB kB bB .nil pass0 (pa_cons (pv 0) pa_nil)))) pss_nil)
      (pss_cons (ps_set (i := 4) scFR.nd rfl (.inl rfl) (pe_lst (pa_cons pe_str (pa_cons pe_str (pa_cons pe_str (pa_cons pe_str (pa_cons pe_str (pa_cons pe_str (pa_cons pe_str (pa_cons pe_str (pa_cons pe_str (pa_cons pe_str (pa_cons pe_str (pa_cons pe_str (pa_cons pe_str (pa_cons pe_str (pa_cons pe_str (pa_cons pe_str (pa_cons pe_str (pa_cons pe_str (pa_cons pe_str (pa_cons pe_str (pa_cons pe_str (pa_cons pe_str (pa_cons pe_str (pa_cons pe_str (pa_cons pe_str (pa_cons pe_str pa_nil))))))))))))))))))))))))))))
      (pss_cons (ps_set (i := 5) scFR.nd rfl (.inl rfl) (pe_call GD hr1 (by rfl) mD kD bD .nil pass0 (pa_cons (pv 0) (pa_cons pe_int pa_nil))))
      (pss_one (ps_ret (pe_ifExp (pt_cmpR op_lt (pv 5) pe_int (nomark _)) (pe_tup (pa_cons (pe_ix ix_list (pv 4) (pv 5) (fun _ _ => rfl)) (pa_cons (pv 2) pa_nil))) (pe_tup (pa_cons (pe_ix ix_list (pv 4) (pv 5) (fun _ _ => rfl)) (pa_cons (pv 2) (pa_cons (pv 3) pa_nil)))))))))))))), ?_⟩
    refine ⟨_, rfl, p, q, n, 8, rfl, hP, by omega, by decide, by decide, fun d H1 d0 d1 P1 k1 => ?_⟩
    refine ⟨_, rfl, p, q, n + 1, rfl, P1, by omega, fun x n2 H2 hx h21 h22 P2 k2 => ?_⟩
    refine ⟨_, rfl, p, q, n2, rfl, P2, by omega, fun y n3 H3 hy h31 h32 P3 k3 => ?_⟩
    have k13 := (k1.trans k2).trans k3
    have al3 := k13.alive al P3
    obtain ⟨pk, rfl⟩ : ∃ k : Nat, d = (k : Int) := ⟨d.toNat, by omega⟩
    refine ⟨_, rfl, rfl, _, rfl, ?_⟩
    show (if decide (V.int (pk : Int) = V.int 0) = true then _ else _)
    by_cases h0 : pk = 0
    · rw [decide_eq_true (by rw [h0]; rfl)]
      refine iteT ⟨L, .list (rows0 x), al3, ⟨rows0 x, rfl, by show 5 ≤ 1000; decide, _, _, rfl, ⟨_, rfl, by show 2 ≤ 1000; decide, _, _, rfl, rfl, _, _, rfl, ⟨_, rfl, .str x⟩, rfl⟩, _, _, rfl, ⟨_, rfl, by show 1 ≤ 1000; decide, _, _, rfl, rfl, rfl⟩, _, _, rfl, ⟨_, rfl, by show 2 ≤ 1000; decide, _, _, rfl, rfl, _, _, rfl, ⟨_, rfl, .str x⟩, rfl⟩, _, _, rfl, ⟨_, rfl, by show 1 ≤ 1000; decide, _, _, rfl, rfl, rfl⟩, _, _, rfl, ⟨_, rfl, by show 1 ≤ 1000; decide, _, _, rfl, rfl, rfl⟩, rfl⟩, fun v H4 s4 hv => ?_⟩
      have P4 := P3.same s4
      refine ⟨_, rfl, p, q, n3, 5, rfl, P4, by omega, by decide, by decide, fun d5 H5 e0 e1 P5 k5 => ?_⟩
      obtain ⟨a, vs, rfl, ha, hvs⟩ := list_pick hv k5 mp mq
      obtain ⟨i, rfl⟩ : ∃ k : Nat, d5 = (k : Int) := ⟨d5.toNat, by omega⟩
      obtain ⟨dr, edr, hdr⟩ := rows0_ok N hx (i := i) (by omega)
      obtain ⟨vr, evr, hvr⟩ := dpAll_get hvs edr
      exact ⟨a, _, _, _, rfl, rfl, ha, atI_nat evr, kk vr dr (n3 + 1) H5 hvr hdr (by omega) (by omega) P5 ((k13.trans (.of_same s4)).trans k5)⟩
    · rw [decide_eq_false (fun e => by injection e with e; omega)]
      refine iteF ⟨_, rfl, rfl, _, rfl, ?_⟩
      show (if decide (V.int (pk : Int) = V.int 1) = true then _ else _)
      by_cases h1 : pk = 1
      · rw [decide_eq_true (by rw [h1]; rfl)]
        refine iteT ⟨L, .list (rows1 x y), al3, ⟨rows1 x y, rfl, by show 7 ≤ 1000; decide, _, _, rfl, ⟨_, rfl, by show 3 ≤ 1000; decide, _, _, rfl, rfl, _, _, rfl, rfl, _, _, rfl, ⟨_, rfl, .str x⟩, rfl⟩, _, _, rfl, ⟨_, rfl, by show 3 ≤ 1000; decide, _, _, rfl, rfl, _, _, rfl, rfl, _, _, rfl, ⟨_, rfl, .str x⟩, rfl⟩, _, _, rfl, ⟨_, rfl, by show 4 ≤ 1000; decide, _, _, rfl, rfl, _, _, rfl, rfl, _, _, rfl, ⟨_, rfl, .str x⟩, _, _, rfl, ⟨_, rfl, .str y⟩, rfl⟩, _, _, rfl, ⟨_, rfl, by show 3 ≤ 1000; decide, _, _, rfl, rfl, _, _, rfl, rfl, _, _, rfl, ⟨_, rfl, .str x⟩, rfl⟩, _, _, rfl, ⟨_, rfl, by show 3 ≤ 1000; decide, _, _, rfl, rfl, _, _, rfl, rfl, _, _, rfl, ⟨_, rfl, .str x⟩, rfl⟩, _, _, rfl, ⟨_, rfl, by show 3 ≤ 1000; decide, _, _, rfl, rfl, _, _, rfl, rfl, _, _, rfl, ⟨_, rfl, .str x⟩, rfl⟩, _, _, rfl, ⟨_, rfl, by show 3 ≤ 1000; decide, _, _, rfl, rfl, _, _, rfl, rfl, _, _, rfl, ⟨_, rfl, .str x⟩, rfl⟩, rfl⟩, fun v H4 s4 hv => ?_⟩
        have P4 := P3.same s4
        refine ⟨_, rfl, p, q, n3, 7, rfl, P4, by omega, by decide, by decide, fun d5 H5 e0 e1 P5 k5 => ?_⟩
        obtain ⟨a, vs, rfl, ha, hvs⟩ := list_pick hv k5 mp mq
        obtain ⟨i, rfl⟩ : ∃ k : Nat, d5 = (k : Int) := ⟨d5.toNat, by omega⟩
        obtain ⟨dr, edr, hdr⟩ := rows1_ok N hx hy (i := i) (by omega)
        obtain ⟨vr, evr, hvr⟩ := dpAll_get hvs edr
        exact ⟨a, _, _, _, rfl, rfl, ha, atI_nat evr, kk vr dr (n3 + 1) H5 hvr hdr (by omega) (by omega) P5 ((k13.trans (.of_same s4)).trans k5)⟩
      · rw [decide_eq_false (fun e => by injection e with e; omega)]
        refine iteF ⟨_, rfl, _, _, rfl, rfl, _, rfl, ?_⟩
        show (if decide ((pk : Int) < 5) = true then _ else _)
        by_cases h5 : pk < 5
        · rw [decide_eq_true (by omega : (pk : Int) < 5)]
          exact iteT ⟨_, rfl, p, q, n3, L, rfl, P3, by omega, al3, mp, mq, fun v d n4 H4 hd hR h41 h42 P4 k4 => kk v d n4 H4 hd (.probe hR) (by omega) (by omega) P4 (k13.trans k4)⟩
        · rw [decide_eq_false (by omega : ¬ (pk : Int) < 5)]
          refine iteF ⟨by show 26 ≤ sizeLine; decide, fun wl nwl => ?_⟩
          have P4 := P3.new (o := .lst (frW.map V.str)) nwl
          have k4 : Keeps p q H3 (upd H3 wl (.lst (frW.map V.str))) := .upd_new nwl
          have ewl : (upd H3 wl (.lst (frW.map V.str))) wl = some (.lst (frW.map V.str)) := upd_same
          have wlL := al3.not nwl
          have wlp : wl ≠ p ∧ wl ≠ q := ⟨fun e => wlL (by rw [e]; exact mp), fun e => wlL (by rw [e]; exact mq)⟩
          refine ⟨_, rfl, p, q, n3, 26, rfl, P4, by omega, by decide, by decide, fun d5 H5 e0 e1 P5 k5 => ?_⟩
          have k15 := (k13.trans k4).trans k5
          have al5 := k15.alive al P5
          have ewl5 := k5 _ _ wlp.1 wlp.2 ewl
          obtain ⟨i, rfl⟩ : ∃ k : Nat, d5 = (k : Int) := ⟨d5.toNat, by omega⟩
          obtain ⟨z, ez, hz, hnb⟩ := frW_at i (by omega)
          have ezV : atI (frW.map V.str) (i : Int) = some (.str z) := atI_nat (by rw [List.getElem?_map, ez]; rfl)
          refine ⟨_, rfl, _, _, rfl, rfl, _, rfl, ?_⟩
          show (if decide ((i : Int) < 19) = true then _ else _)
          by_cases hk : i < 19
          · rw [decide_eq_true (by omega : (i : Int) < 19)]
            rw [if_pos hk] at hnb
            refine iteT ⟨_, rfl, _, rfl, wl, _, _, _, rfl, rfl, SqL.of ewl5, ezV, _, rfl, by show 2 ≤ sizeLine; decide, fun t nt => ?_⟩
            exact kk (.ref t) (.tuple [.str z, .str x]) (n3 + 1) _ (.tup (SqT.of (mask_upd (al5.not nt))) (.cons (.str _) (.cons (.str _) .nil))) (.deed (.inl hz) (words1 N hnb hx)) (by omega) (by omega) (P5.new nt) (k15.trans (.upd_new nt))
          · rw [decide_eq_false (by omega : ¬ (i : Int) < 19)]
            rw [if_neg hk] at hnb
            refine iteF ⟨_, rfl, _, rfl, wl, _, _, _, rfl, rfl, SqL.of ewl5, ezV, _, rfl, _, rfl, by show 3 ≤ sizeLine; decide, fun t nt => ?_⟩
            exact kk (.ref t) (.tuple [.str z, .str x, .str y]) (n3 + 1) _ (.tup (SqT.of (mask_upd (al5.not nt))) (.cons (.str _) (.cons (.str _) (.cons (.str _) .nil)))) (.deed (.inl hz) (words2 N hnb hx hy)) (by omega) (by omega) (P5.new nt) (k15.trans (.upd_new nt))
end
/-! ### the law -/
def lawLooks : List Str := ["take", "drain", "roll", "get", "drop", "look", "renew", "read", "peek", "size", "keys", "glance", "watch", "tell"]
theorem row_head {K : PySem.W.Frag} {w : World} {dN : Addr} {d : PyData} (h : RowD K w dN d true) : ∃ x ds, d = .tuple (.str x :: ds) ∧ (x ∈ looksW ↔ x ∈ lawLooks) ∧ (x ∈ looksW → WordsD K w dN x ds) := by
  have h1 : ∀ z ∈ deedsW ++ stepsW, (z ∈ looksW ↔ z ∈ lawLooks) := by decide +kernel
  have no : ∀ z ∈ [("if" : Str), "while", "probe", "assert"], z ∉ looksW ∧ z ∉ lawLooks := by decide +kernel
  cases h with
  | @deed x ds hx hd => exact ⟨x, ds, rfl, h1 x (List.mem_append.mpr hx), fun _ => hd⟩
  | iff hx hd => exact ⟨_, _, rfl, ⟨fun e => absurd e (no "if" (by decide +kernel)).1, fun e => absurd e (no "if" (by decide +kernel)).2⟩, fun e => absurd e (no "if" (by decide +kernel)).1⟩
  | loop hx hd => exact ⟨_, _, rfl, ⟨fun e => absurd e (no "while" (by decide +kernel)).1, fun e => absurd e (no "while" (by decide +kernel)).2⟩, fun e => absurd e (no "while" (by decide +kernel)).1⟩
  | probe h =>
    cases h with
    | probe => exact ⟨_, _, rfl, ⟨fun e => absurd e (no "probe" (by decide +kernel)).1, fun e => absurd e (no "probe" (by decide +kernel)).2⟩, fun e => absurd e (no "probe" (by decide +kernel)).1⟩
    | assert => exact ⟨_, _, rfl, ⟨fun e => absurd e (no "assert" (by decide +kernel)).1, fun e => absurd e (no "assert" (by decide +kernel)).2⟩, fun e => absurd e (no "assert" (by decide +kernel)).1⟩
theorem look_row {K : PySem.W.Frag} {w : World} {dN : Addr} {d : PyData} (h : LookD K w dN d) : ∃ x ds, d = .tuple (.str x :: ds) ∧ x ∈ looksW ∧ WordsD K w dN x ds ∧ RowD K w dN d (decide (x ∈ lawLooks)) := by
  have h1 : ∀ z ∈ looksW, (z ∈ deedsW ↔ z ∈ lawLooks) := by decide +kernel
  obtain ⟨x, ds, rfl, hx, hd⟩ := h
  refine ⟨x, ds, rfl, hx, hd, ?_⟩
  by_cases hq : x ∈ lawLooks
  · rw [decide_eq_true hq]
    exact .deed (.inl ((h1 x hx).mpr hq)) hd
  · rw [decide_eq_false hq]
    exact .no hx fun e => hq ((h1 x hx).mp e)
structure Law20 (P : Program) (w : World) (K : PySem.W.Frag) (mg : Str → Option Value) (base : Heap) where
  dN : Addr
  B : Bts mg
  (fP fL fR fI fK fB fS : Addr)
  (xP xL xR xI xK xB xS : FuncData)
  gP : FnOk P w K mg base CX0 1 fP xP ["script"] (spPool K)
  gL : FnOk P w K mg base CX0 3 fL xL ["pool"] (spGen K (LookD K w dN) 20)
  gR : FnOk P w K mg base CX0 5 fR xR ["pool"] (spGen K (fun d => RowD K w dN d true) 400)
  gI : FnOk P w K mg base CX0 6 fI xI ["row"] (spIsRow K w dN)
  gK : FnOk P w K mg base CX0 3 fK xK ["row"] (spIsLook K w dN)
  gB : FnOk P w K mg base CX0 1 fB xB ["row"] (spIsProbe K)
  gS : FnOk P w K mg base CX0 3 fS xS ["actual", "due"] (spSame K 3)
  bP : Binds K xP ["script"] []
  bL : Binds K xL ["pool"] []
  bR : Binds K xR ["pool"] []
  bI : Binds K xI ["row"] []
  bK : Binds K xK ["row"] []
  bB : Binds K xB ["row"] []
  bS : Binds K xS ["actual", "due"] []
  mP : mg "_law_pool" = some (.ref fP)
  mL : mg "_law_free_look" = some (.ref fL)
  mR : mg "_law_free_row" = some (.ref fR)
  mI : mg "is_row" = some (.ref fI)
  mK : mg "is_look" = some (.ref fK)
  mB : mg "is_probe" = some (.ref fB)
  mS : mg "_law_same" = some (.ref fS)
  kP : PySem.W.keepIn K (.ref fP) = true
  kL : PySem.W.keepIn K (.ref fL) = true
  kR : PySem.W.keepIn K (.ref fR) = true
  kI : PySem.W.keepIn K (.ref fI) = true
  kK : PySem.W.keepIn K (.ref fK) = true
  kB : PySem.W.keepIn K (.ref fB) = true
  kS : PySem.W.keepIn K (.ref fS) = true
def spLaw (K : PySem.W.Frag) : Sp := fun vs H Q _ => ∃ (a : Addr) (ns : List Int), vs = [.ref a] ∧ SqL K H a (ns.map V.int) ∧ ns.length ≤ 63 ∧ ∀ H', Q (.bl true) H'
theorem two_bl {K : PySem.W.Frag} {H : Hp} {a : Addr} {b c : Bool} (h : H a = some (.lst [.bl b, .bl c])) : Dp K H (.ref a) (.list [.bool b, .bool c]) := .lst (SqL.of h) (.cons (.bl b) (.cons (.bl c) .nil))
section
variable {P : Program} {w : World} {K : PySem.W.Frag} {mg : Str → Option Value} {base : Heap}
theorem scL : FnScope ["script", "pool", "looks", "turn", "row", "look"] ["script"] (defScope sLaw) := ⟨rfl, rfl, rfl, by decide +kernel, rfl, by decide +kernel, by decide +kernel⟩
theorem ok_law {f : Addr} {fd : FuncData} (F : Fun K "law" "law" sLaw f fd) (G : Law20 P w K mg base) : FnOk P w K mg base CX0 7 f fd ["script"] (spLaw K) := by
  refine F.ok scL (fun vs H Q E h => ?_) (fun cdv A outer s0 H vs Q E hr h => ?_)
  · obtain ⟨a, ns, rfl, _⟩ := h
    rfl
  · obtain ⟨a, ns, rfl, hS0, hlen, kk⟩ := h
    have hr1 : Room 1 _ := hr.mono (by decide)
    have hr3 : Room 3 _ := hr.mono (by decide)
    have hr5 : Room 5 _ := hr.mono (by decide)
    refine ⟨_, pss_cons (ps_set (i := 1) scL.nd rfl (.inl rfl) (pe_call G.gP hr1 (by rfl) G.mP G.kP G.bP .nil pass0 (pa_cons (pv 0) pa_nil)))
      (pss_cons (ps_set (i := 2) scL.nd rfl (.inl rfl) (pe_tup (pa_cons pe_str (pa_cons pe_str (pa_cons pe_str (pa_cons pe_str (pa_cons pe_str (pa_cons pe_str (pa_cons pe_str (pa_cons pe_str (pa_cons pe_str (pa_cons pe_str (pa_cons pe_str (pa_cons pe_str (pa_cons pe_str (pa_cons pe_str pa_nil))))))))))))))))
      (pss_cons (ps_for PassesOwn.never rfl (pi_range1 (by rfl) G.B.range (pa_cons pe_int pa_nil)) (pg_name (i := 3) scL.nd rfl (.inl rfl))
        (pss_cons (ps_set (i := 4) scL.nd rfl (.inl rfl) (pe_call G.gR hr5 (by rfl) G.mR G.kR G.bR .nil pass0 (pa_cons (pv 1) pa_nil)))
        (pss_cons (ps_if (pt_not (pt_val (pe_call G.gS hr3 (by rfl) G.mS G.kS G.bS .nil pass0 (pa_cons (pe_lst (pa_cons (pe_call G.gI hr (by rfl) G.mI G.kI G.bI .nil pass0 (pa_cons (pv 4) pa_nil)) (pa_cons (pe_call G.gK hr3 (by rfl) G.mK G.kK G.bK .nil pass0 (pa_cons (pv 4) pa_nil)) pa_nil)))
            (pa_cons (pe_lst (pa_cons pe_bl (pa_cons (pe_cmpR op_in_seq (pe_ix ix_tup (pv 4) pe_int (fun _ _ => rfl)) (pv 2) (by rfl)) pa_nil))) pa_nil))))) (pss_one (ps_ret pe_bl)) pss_nil)
        (pss_cons (ps_if (pt_not (pt_val (pe_call G.gS hr3 (by rfl) G.mS G.kS G.bS .nil pass0 (pa_cons (pe_call G.gB hr1 (by rfl) G.mB G.kB G.bB .nil pass0 (pa_cons (pv 4) pa_nil))
            (pa_cons (pe_cmpR op_in_seq (pe_ix ix_tup (pv 4) pe_int (fun _ _ => rfl)) (pe_tup (pa_cons pe_str (pa_cons pe_str pa_nil))) (by rfl)) pa_nil))))) (pss_one (ps_ret pe_bl)) pss_nil)
        (pss_cons (ps_set (i := 5) scL.nd rfl (.inl rfl) (pe_call G.gL hr3 (by rfl) G.mL G.kL G.bL .nil pass0 (pa_cons (pv 1) pa_nil)))
        (pss_one (ps_if (pt_not (pt_val (pe_call G.gS hr3 (by rfl) G.mS G.kS G.bS .nil pass0 (pa_cons (pe_lst (pa_cons (pe_call G.gI hr (by rfl) G.mI G.kI G.bI .nil pass0 (pa_cons (pv 5) pa_nil)) (pa_cons (pe_call G.gK hr3 (by rfl) G.mK G.kK G.bK .nil pass0 (pa_cons (pv 5) pa_nil)) pa_nil)))
            (pa_cons (pe_lst (pa_cons (pe_cmpR op_in_seq (pe_ix ix_tup (pv 5) pe_int (fun _ _ => rfl)) (pv 2) (by rfl)) (pa_cons pe_bl pa_nil))) pa_nil))))) (pss_one (ps_ret pe_bl)) pss_nil)))))))
      (pss_one (ps_ret pe_bl)))), ?_⟩
    refine ⟨.ref a, rfl, a, ns, rfl, hS0, hlen, fun p q H1 np nq P1 s1 => ?_⟩
    refine ⟨by show 14 ≤ sizeLine; decide, fun tw ntw => ?_⟩
    have P2 := P1.new (o := .tup (lawLooks.map V.str)) ntw
    have etw2 : (upd H1 tw (.tup (lawLooks.map V.str))) tw = some (.tup (lawLooks.map V.str)) := upd_same
    have twL := P1.alive.not ntw
    have twp : tw ≠ p ∧ tw ≠ q := ⟨fun e => twL (by rw [e]; exact List.mem_cons_self), fun e => twL (by rw [e]; exact List.mem_cons_of_mem _ List.mem_cons_self)⟩
    have mp : p ∈ [p, q] := List.mem_cons_self
    have mq : q ∈ [p, q] := List.mem_cons_of_mem _ List.mem_cons_self
    refine ⟨30, rfl, by decide, by decide, for_range (lo := 0) (n := 30) (fun i σ H => ∃ (n : Nat) (y3 y4 y5 : Option V), σ = [some (.ref a), some (.ref p), some (.ref tw), y3, y4, y5] ∧ n ≤ 500 * i ∧ PoolAt H p q n ∧ H tw = some (.tup (lawLooks.map V.str)))
      ⟨0, none, none, none, rfl, by omega, P2, etw2⟩ ?_ ?_⟩
    · rintro i σ H3 hi ⟨n, y3, y4, y5, rfl, hn, P3, etw3⟩
      refine ⟨_, rfl, p, q, n, [p, q], rfl, P3, by omega, P3.alive, mp, mq, fun v d n4 H4 hd hR h41 h42 P4 k4 => ?_⟩
      have etw4 := k4 _ _ twp.1 twp.2 etw3
      have hd4 := dp_same (mask_sub _ _) _ _ hd
      obtain ⟨x, ds, rfl, hxl, hxw⟩ := row_head hR
      -- is_row, is_look
      refine ⟨_, rfl, v, _, true, rfl, hd4, hR, fun H5 s5 => ?_⟩
      refine ⟨_, rfl, v, x, ds, rfl, dp_same s5 _ _ hd4, hxw, fun H6 s6 => ⟨by show 2 ≤ sizeLine; decide, fun l1 nl1 => ?_⟩⟩
      have s46 := s5.trans s6
      have el1 : (upd H6 l1 (.lst [.bl true, .bl (decide (x ∈ looksW))])) l1 = some (.lst [.bl true, .bl (decide (x ∈ looksW))]) := upd_same
      have s47 := s46.trans (same_new (o := .lst [.bl true, .bl (decide (x ∈ looksW))]) nl1)
      generalize upd H6 l1 (.lst [.bl true, .bl (decide (x ∈ looksW))]) = H7 at *
      obtain ⟨t, ys, rfl, ht, hys⟩ := ntup (dp_same s47 _ _ hd4)
      obtain ⟨v0, args, rfl, h0, hargs⟩ := nuncons hys
      cases h0
      refine ⟨_, rfl, t, _, 0, _, rfl, rfl, ht, atI_nat (j := 0) rfl, _, rfl, tw, _, rfl, .inr (SqT.of (s47 _ _ etw4)), rfl, flat_strs _, ?_⟩
      have ein : inV (V.str x) (lawLooks.map V.str) = decide (x ∈ looksW) := by rw [inV_str]; exact decide_eq_decide.mpr hxl.symm
      refine ⟨by show 2 ≤ sizeLine; decide, fun l2 nl2 => ?_⟩
      have el2 : (upd H7 l2 (.lst [.bl true, .bl (inV (V.str x) (lawLooks.map V.str))])) l2 = some (.lst [.bl true, .bl (decide (x ∈ looksW))]) := by rw [upd_same, ein]
      have s78 := same_new (o := .lst [.bl true, .bl (inV (V.str x) (lawLooks.map V.str))]) nl2
      have s48 := s47.trans s78
      have el18 := s78 _ _ el1
      have ht8 := Same.seqT s78 ht
      refine ⟨.ref l1, .ref l2, .list [.bool true, .bool (decide (x ∈ looksW))], rfl, two_bl el18, two_bl el2, by simp [Qp.dp], _, rfl, iteF ?_⟩
      -- is_probe
      refine ⟨_, rfl, .ref t, x, ds, rfl, dp_same s48 _ _ hd4, ?_⟩
      refine ⟨_, rfl, t, _, 0, _, rfl, rfl, ht8, atI_nat (j := 0) rfl, by show 2 ≤ sizeLine; decide, fun t2 nt2 => ?_⟩
      have ein2 : inV (V.str x) (probesW.map V.str) = decide (x ∈ probesW) := inV_str
      have s49 := s48.trans (same_new (o := .tup [.str "probe", .str "assert"]) nt2)
      have et2 : (upd (upd H7 l2 (.lst [.bl true, .bl (inV (V.str x) (lawLooks.map V.str))])) t2 (.tup [.str "probe", .str "assert"])) t2 = some (.tup [.str "probe", .str "assert"]) := upd_same
      refine ⟨t2, _, rfl, .inr (SqT.of et2), rfl, rfl, ?_⟩
      refine ⟨.bl (decide (x ∈ probesW)), _, .bool (decide (x ∈ probesW)), rfl, .bl _, (by
        show Dp K _ (.bl (inV (V.str x) (probesW.map V.str))) _
        rw [ein2]; exact .bl _), by simp [Qp.dp], _, rfl, iteF ?_⟩
      -- a look
      have P9 := P4.same s49
      have etw9 := s49 _ _ etw4
      refine ⟨_, rfl, p, q, n4, [p, q], rfl, P9, by omega, P9.alive, mp, mq, fun v2 d2 n10 H10 hd hR2 h101 h102 P10 k10 => ?_⟩
      have etw10 := k10 _ _ twp.1 twp.2 etw9
      have hd10 := dp_same (mask_sub _ _) _ _ hd
      obtain ⟨z, dz, rfl, hz, hzw, hzr⟩ := look_row hR2
      refine ⟨_, rfl, v2, _, _, rfl, hd10, hzr, fun H11 s11 => ?_⟩
      refine ⟨_, rfl, v2, z, dz, rfl, dp_same s11 _ _ hd10, fun _ => hzw, fun H12 s12 => ?_⟩
      rw [decide_eq_true hz]
      refine ⟨by show 2 ≤ sizeLine; decide, fun l3 nl3 => ?_⟩
      have s1012 := s11.trans s12
      have el3 : (upd H12 l3 (.lst [.bl (decide (z ∈ lawLooks)), .bl true])) l3 = some (.lst [.bl (decide (z ∈ lawLooks)), .bl true]) := upd_same
      have s1013 := s1012.trans (same_new (o := .lst [.bl (decide (z ∈ lawLooks)), .bl true]) nl3)
      have P13 := (P10.same s1013)
      generalize upd H12 l3 (.lst [.bl (decide (z ∈ lawLooks)), .bl true]) = H13 at *
      obtain ⟨t3, ys3, rfl, ht3, hys3⟩ := ntup (dp_same s1013 _ _ hd10)
      obtain ⟨v3, args3, rfl, h3, hargs3⟩ := nuncons hys3
      cases h3
      have ein3 : inV (V.str z) (lawLooks.map V.str) = decide (z ∈ lawLooks) := inV_str
      refine ⟨_, rfl, t3, _, 0, _, rfl, rfl, ht3, atI_nat (j := 0) rfl, _, rfl, tw, _, rfl, .inr (SqT.of (s1013 _ _ etw10)), rfl, flat_strs _, by show 2 ≤ sizeLine; decide, fun l4 nl4 => ?_⟩
      have el4 : (upd H13 l4 (.lst [.bl (inV (V.str z) (lawLooks.map V.str)), .bl true])) l4 = some (.lst [.bl (decide (z ∈ lawLooks)), .bl true]) := by rw [upd_same, ein3]
      have s14 := same_new (o := .lst [.bl (inV (V.str z) (lawLooks.map V.str)), .bl true]) nl4
      refine ⟨.ref l3, .ref l4, .list [.bool (decide (z ∈ lawLooks)), .bool true], rfl, two_bl (s14 _ _ el3), two_bl el4, by simp [Qp.dp], _, rfl, iteF ?_⟩
      exact ⟨n10, _, _, _, rfl, by omega, P13.same s14, s14 _ _ (s1013 _ _ etw10)⟩
    · rintro σ H3 _
      exact kk H3
end
theorem ok_law_ne {P : Program} {w : World} {K : PySem.W.Frag} {mg : Str → Option Value} {base : Heap} {f : Addr} {fd : FuncData} (F : Fun K "law" "law" sLaw f fd) (h : Nonempty (Law20 P w K mg base)) : FnOk P w K mg base CX0 7 f fd ["script"] (spLaw K) := h.elim fun G => ok_law F G
/-! ### what the top has written -/
structure FunIn (K : PySem.W.Frag) (mg : Str → Option Value) (x : Str) (st : Stmt) (f : Addr) (fd : FuncData) : Prop where
  F : Fun K x x st f fd
  m : mg x = some (.ref f)
theorem fun_in {K : PySem.W.Frag} {h : Heap} {mg : Str → Option Value} {x : Str} {st : Stmt} {f : Addr} {oc : Value} {od an : Option Addr} {osl : Array (Option Value)} {kV doc pm cdv ct : Value} (X : K.In h) (G : h.Ns mainGlobals mg)
    (a : PySem.W.nsIn K mainGlobals x = some (some (.ref f))) (l : K.lookup f = some ⟨oc, od, .func (PySem.W.fnOf x x (defArgs st) (defBody st) (defScope st) .none kV doc pm an cdv ct), osl⟩)
    (c : PySem.W.codeIn K cdv x = true) (k : PySem.W.keepIn K (.ref f) = true) : ∃ f fd, FunIn K mg x st f fd :=
  ⟨f, _, fun_mk l c k, PySem.W.mg_of X G a⟩
theorem bts_in {K : PySem.W.Frag} {h : Heap} {mg : Str → Option Value} (X : K.In h) (G : h.Ns mainGlobals mg) (z1 : PySem.W.nsIn K mainGlobals "isinstance" = some none) (z2 : PySem.W.nsIn K mainGlobals "bool" = some none) (z3 : PySem.W.nsIn K mainGlobals "str" = some none)
    (z4 : PySem.W.nsIn K mainGlobals "int" = some none) (z5 : PySem.W.nsIn K mainGlobals "list" = some none) (z6 : PySem.W.nsIn K mainGlobals "tuple" = some none) (z7 : PySem.W.nsIn K mainGlobals "len" = some none) (z8 : PySem.W.nsIn K mainGlobals "range" = some none) : Bts mg :=
  ⟨PySem.W.mg_none_of X G z1, PySem.W.mg_none_of X G z2, PySem.W.mg_none_of X G z3, PySem.W.mg_none_of X G z4, PySem.W.mg_none_of X G z5, PySem.W.mg_none_of X G z6, PySem.W.mg_none_of X G z7, PySem.W.mg_none_of X G z8⟩
/-! ### what the top says of rows -/
section
variable {K : PySem.W.Frag} {h : Heap} {mg : Str → Option Value} {w : World}
theorem kdct_of {d : Addr} {es : Array DictEntry} {n : Nat} (D : KDict K w d es n) {x : Str} {u : Value} {v : V} (e : PySem.W.nsIn K d x = some (some u)) (r : RelV v u) : KDct K w d x v := ⟨es, n, u, D.at_, D.lit, e, r⟩
theorem sqt_of {t : Addr} {dd : Option Addr} {its : Array Value} {n : Nat} {sl : Array (Option Value)} {xs : List V} (l : K.lookup t = some ⟨.type "tuple", dd, .seq its n, sl⟩) (z : its.size ≤ sizeLine) (v : Vals xs its.toList) (H : Hp) : SqT K H t xs := .inr ⟨_, its, n, l, rfl, rfl, z, v⟩
theorem mg_int {K : PySem.W.Frag} {h : Heap} {mg : Str → Option Value} {n : Str} {i : Int} {tk : Tok} (X : K.In h) (G : h.Ns mainGlobals mg) (e : PySem.W.nsIn K mainGlobals n = some (some (.int i tk))) : ∃ tk, mg n = some (.int i tk) := ⟨tk, PySem.W.mg_of X G e⟩
def KdTop (K : PySem.W.Frag) (w : World) (mg : Str → Option Value) (x : Str) (R : PySem.W.Frag → World → Addr → Prop) : Prop := ∃ d es n, mg x = some (.ref d) ∧ KDict K w d es n ∧ R K w d
theorem kd_with {x : Str} {d : Addr} {es : Array DictEntry} {n : Nat} {R : PySem.W.Frag → World → Addr → Prop} (X : K.In h) (G : h.Ns mainGlobals mg) (a : PySem.W.nsIn K mainGlobals x = some (some (.ref d))) (l : K.lookup d = some ⟨.type "dict", none, .dict es n, #[]⟩) (k : PySem.W.KeysLit w.params es.toList) (z : (d == sysModules) = false)
    (more : KDict K w d es n → R K w d) : KdTop K w mg x R := ⟨d, es, n, PySem.W.mg_of X G a, ⟨l, k, z⟩, more ⟨l, k, z⟩⟩
theorem tup_LOOKS {t : Addr} {dd : Option Addr} {n : Nat} {sl : Array (Option Value)} {t0 t1 t2 t3 t4 t5 t6 t7 t8 t9 t10 t11 t12 t13 t14 t15 t16 t17 : Tok} (X : K.In h) (G : h.Ns mainGlobals mg) (a : PySem.W.nsIn K mainGlobals "LOOKS" = some (some (.ref t))) (l : K.lookup t = some ⟨.type "tuple", dd, .seq #[.str "take" t0, .str "drain" t1, .str "roll" t2, .str "get" t3, .str "drop" t4, .str "look" t5, .str "renew" t6, .str "read" t7, .str "mark" t8, .str "peek" t9, .str "has" t10, .str "size" t11, .str "keys" t12, .str "glance" t13, .str "watch" t14, .str "tell" t15, .str "bound" t16, .str "spy" t17] n, sl⟩) : ∃ t, mg "LOOKS" = some (.ref t) ∧ TupW K t looksW :=
  ⟨t, PySem.W.mg_of X G a, fun H => sqt_of (xs := looksW.map V.str) l (by show 18 ≤ sizeLine; decide) (.cons ⟨_, rfl⟩ (.cons ⟨_, rfl⟩ (.cons ⟨_, rfl⟩ (.cons ⟨_, rfl⟩ (.cons ⟨_, rfl⟩ (.cons ⟨_, rfl⟩ (.cons ⟨_, rfl⟩ (.cons ⟨_, rfl⟩ (.cons ⟨_, rfl⟩ (.cons ⟨_, rfl⟩ (.cons ⟨_, rfl⟩ (.cons ⟨_, rfl⟩ (.cons ⟨_, rfl⟩ (.cons ⟨_, rfl⟩ (.cons ⟨_, rfl⟩ (.cons ⟨_, rfl⟩ (.cons ⟨_, rfl⟩ (.cons ⟨_, rfl⟩ .nil)))))))))))))))))) H⟩
theorem tup_DEEDS {t : Addr} {dd : Option Addr} {n : Nat} {sl : Array (Option Value)} {t0 t1 t2 t3 t4 t5 t6 t7 t8 t9 t10 t11 t12 t13 t14 t15 t16 t17 t18 t19 t20 t21 t22 t23 t24 t25 : Tok} (X : K.In h) (G : h.Ns mainGlobals mg) (a : PySem.W.nsIn K mainGlobals "DEEDS" = some (some (.ref t))) (l : K.lookup t = some ⟨.type "tuple", dd, .seq #[.str "take" t0, .str "skip" t1, .str "drain" t2, .str "fetch" t3, .str "bind" t4, .str "roll" t5, .str "seed" t6, .str "get" t7, .str "peek" t8, .str "put" t9, .str "fill" t10, .str "drop" t11, .str "size" t12, .str "keys" t13, .str "load" t14, .str "wipe" t15, .str "change" t16, .str "look" t17, .str "glance" t18, .str "renew" t19, .str "lift" t20, .str "read" t21, .str "watch" t22, .str "keep" t23, .str "copy" t24, .str "tell" t25] n, sl⟩) : ∃ t, mg "DEEDS" = some (.ref t) ∧ TupW K t deedsW :=
  ⟨t, PySem.W.mg_of X G a, fun H => sqt_of (xs := deedsW.map V.str) l (by show 26 ≤ sizeLine; decide) (.cons ⟨_, rfl⟩ (.cons ⟨_, rfl⟩ (.cons ⟨_, rfl⟩ (.cons ⟨_, rfl⟩ (.cons ⟨_, rfl⟩ (.cons ⟨_, rfl⟩ (.cons ⟨_, rfl⟩ (.cons ⟨_, rfl⟩ (.cons ⟨_, rfl⟩ (.cons ⟨_, rfl⟩ (.cons ⟨_, rfl⟩ (.cons ⟨_, rfl⟩ (.cons ⟨_, rfl⟩ (.cons ⟨_, rfl⟩ (.cons ⟨_, rfl⟩ (.cons ⟨_, rfl⟩ (.cons ⟨_, rfl⟩ (.cons ⟨_, rfl⟩ (.cons ⟨_, rfl⟩ (.cons ⟨_, rfl⟩ (.cons ⟨_, rfl⟩ (.cons ⟨_, rfl⟩ (.cons ⟨_, rfl⟩ (.cons ⟨_, rfl⟩ (.cons ⟨_, rfl⟩ (.cons ⟨_, rfl⟩ .nil)))))))))))))))))))))))))) H⟩
theorem tup_STEPS {t : Addr} {dd : Option Addr} {n : Nat} {sl : Array (Option Value)} {t0 t1 t2 t3 t4 : Tok} (X : K.In h) (G : h.Ns mainGlobals mg) (a : PySem.W.nsIn K mainGlobals "STEPS" = some (some (.ref t))) (l : K.lookup t = some ⟨.type "tuple", dd, .seq #[.str "say" t0, .str "stop" t1, .str "call" t2, .str "else" t3, .str "end" t4] n, sl⟩) : ∃ t, mg "STEPS" = some (.ref t) ∧ TupW K t stepsW :=
  ⟨t, PySem.W.mg_of X G a, fun H => sqt_of (xs := stepsW.map V.str) l (by show 5 ≤ sizeLine; decide) (.cons ⟨_, rfl⟩ (.cons ⟨_, rfl⟩ (.cons ⟨_, rfl⟩ (.cons ⟨_, rfl⟩ (.cons ⟨_, rfl⟩ .nil))))) H⟩
theorem tup_IF_TESTS {t : Addr} {dd : Option Addr} {n : Nat} {sl : Array (Option Value)} {t0 t1 t2 t3 t4 : Tok} (X : K.In h) (G : h.Ns mainGlobals mg) (a : PySem.W.nsIn K mainGlobals "IF_TESTS" = some (some (.ref t))) (l : K.lookup t = some ⟨.type "tuple", dd, .seq #[.str "ask" t0, .str "take" t1, .str "has" t2, .str "read" t3, .str "bound" t4] n, sl⟩) : ∃ t, mg "IF_TESTS" = some (.ref t) ∧ TupW K t ifW :=
  ⟨t, PySem.W.mg_of X G a, fun H => sqt_of (xs := ifW.map V.str) l (by show 5 ≤ sizeLine; decide) (.cons ⟨_, rfl⟩ (.cons ⟨_, rfl⟩ (.cons ⟨_, rfl⟩ (.cons ⟨_, rfl⟩ (.cons ⟨_, rfl⟩ .nil))))) H⟩
theorem tup_WHILE_TESTS {t : Addr} {dd : Option Addr} {n : Nat} {sl : Array (Option Value)} {t0 t1 : Tok} (X : K.In h) (G : h.Ns mainGlobals mg) (a : PySem.W.nsIn K mainGlobals "WHILE_TESTS" = some (some (.ref t))) (l : K.lookup t = some ⟨.type "tuple", dd, .seq #[.str "ask" t0, .str "take" t1] n, sl⟩) : ∃ t, mg "WHILE_TESTS" = some (.ref t) ∧ TupW K t whileW :=
  ⟨t, PySem.W.mg_of X G a, fun H => sqt_of (xs := whileW.map V.str) l (by show 2 ≤ sizeLine; decide) (.cons ⟨_, rfl⟩ (.cons ⟨_, rfl⟩ .nil)) H⟩
theorem tup_ASSERT_TESTS {t : Addr} {dd : Option Addr} {n : Nat} {sl : Array (Option Value)} {t0 t1 t2 t3 : Tok} (X : K.In h) (G : h.Ns mainGlobals mg) (a : PySem.W.nsIn K mainGlobals "ASSERT_TESTS" = some (some (.ref t))) (l : K.lookup t = some ⟨.type "tuple", dd, .seq #[.str "has" t0, .str "bound" t1, .str "read" t2, .str "watch" t3] n, sl⟩) : ∃ t, mg "ASSERT_TESTS" = some (.ref t) ∧ TupW K t assertW :=
  ⟨t, PySem.W.mg_of X G a, fun H => sqt_of (xs := assertW.map V.str) l (by show 4 ≤ sizeLine; decide) (.cons ⟨_, rfl⟩ (.cons ⟨_, rfl⟩ (.cons ⟨_, rfl⟩ (.cons ⟨_, rfl⟩ .nil)))) H⟩
theorem tup_PROBES {t : Addr} {dd : Option Addr} {n : Nat} {sl : Array (Option Value)} {t0 t1 : Tok} (X : K.In h) (G : h.Ns mainGlobals mg) (a : PySem.W.nsIn K mainGlobals "PROBES" = some (some (.ref t))) (l : K.lookup t = some ⟨.type "tuple", dd, .seq #[.str "probe" t0, .str "assert" t1] n, sl⟩) : ∃ t, mg "PROBES" = some (.ref t) ∧ TupW K t probesW :=
  ⟨t, PySem.W.mg_of X G a, fun H => sqt_of (xs := probesW.map V.str) l (by show 2 ≤ sizeLine; decide) (.cons ⟨_, rfl⟩ (.cons ⟨_, rfl⟩ .nil)) H⟩
theorem tup_GATES {t : Addr} {dd : Option Addr} {n : Nat} {sl : Array (Option Value)} {t0 t1 t2 t3 : Tok} (X : K.In h) (G : h.Ns mainGlobals mg) (a : PySem.W.nsIn K mainGlobals "GATES" = some (some (.ref t))) (l : K.lookup t = some ⟨.type "tuple", dd, .seq #[.str "always" t0, .str "first" t1, .str "later" t2, .str "second" t3] n, sl⟩) : ∃ t, mg "GATES" = some (.ref t) ∧ TupW K t gatesW :=
  ⟨t, PySem.W.mg_of X G a, fun H => sqt_of (xs := gatesW.map V.str) l (by show 4 ≤ sizeLine; decide) (.cons ⟨_, rfl⟩ (.cons ⟨_, rfl⟩ (.cons ⟨_, rfl⟩ (.cons ⟨_, rfl⟩ .nil)))) H⟩
theorem nb_in {d : Addr} {es : Array DictEntry} {n : Nat} {t0 t1 t2 t3 t4 t5 t6 t7 t8 t9 t10 t11 t12 t13 t14 t15 t16 t17 t18 t19 t20 t21 t22 t23 t24 t25 t26 t27 t28 t29 t30 t31 t32 t33 t34 t35 : Tok} (D : KDict K w d es n)
    (e0 : PySem.W.nsIn K d "take" = some (some (.int 1 t0)))
    (e1 : PySem.W.nsIn K d "skip" = some (some (.int 1 t1)))
    (e2 : PySem.W.nsIn K d "drain" = some (some (.int 1 t2)))
    (e3 : PySem.W.nsIn K d "fetch" = some (some (.int 1 t3)))
    (e4 : PySem.W.nsIn K d "bind" = some (some (.int 2 t4)))
    (e5 : PySem.W.nsIn K d "roll" = some (some (.int 1 t5)))
    (e6 : PySem.W.nsIn K d "seed" = some (some (.int 1 t6)))
    (e7 : PySem.W.nsIn K d "get" = some (some (.int 2 t7)))
    (e8 : PySem.W.nsIn K d "peek" = some (some (.int 2 t8)))
    (e9 : PySem.W.nsIn K d "has" = some (some (.int 2 t9)))
    (e10 : PySem.W.nsIn K d "put" = some (some (.int 2 t10)))
    (e11 : PySem.W.nsIn K d "fill" = some (some (.int 2 t11)))
    (e12 : PySem.W.nsIn K d "drop" = some (some (.int 2 t12)))
    (e13 : PySem.W.nsIn K d "size" = some (some (.int 1 t13)))
    (e14 : PySem.W.nsIn K d "keys" = some (some (.int 1 t14)))
    (e15 : PySem.W.nsIn K d "load" = some (some (.int 1 t15)))
    (e16 : PySem.W.nsIn K d "wipe" = some (some (.int 1 t16)))
    (e17 : PySem.W.nsIn K d "change" = some (some (.int 1 t17)))
    (e18 : PySem.W.nsIn K d "look" = some (some (.int 1 t18)))
    (e19 : PySem.W.nsIn K d "glance" = some (some (.int 1 t19)))
    (e20 : PySem.W.nsIn K d "renew" = some (some (.int 1 t20)))
    (e21 : PySem.W.nsIn K d "lift" = some (some (.int 1 t21)))
    (e22 : PySem.W.nsIn K d "read" = some (some (.int 1 t22)))
    (e23 : PySem.W.nsIn K d "watch" = some (some (.int 1 t23)))
    (e24 : PySem.W.nsIn K d "keep" = some (some (.int 1 t24)))
    (e25 : PySem.W.nsIn K d "copy" = some (some (.int 2 t25)))
    (e26 : PySem.W.nsIn K d "tell" = some (some (.int 1 t26)))
    (e27 : PySem.W.nsIn K d "bound" = some (some (.int 1 t27)))
    (e28 : PySem.W.nsIn K d "mark" = some (some (.int 1 t28)))
    (e29 : PySem.W.nsIn K d "spy" = some (some (.int 1 t29)))
    (e30 : PySem.W.nsIn K d "say" = some (some (.int 1 t30)))
    (e31 : PySem.W.nsIn K d "stop" = some (some (.int 0 t31)))
    (e32 : PySem.W.nsIn K d "call" = some (some (.int 1 t32)))
    (e33 : PySem.W.nsIn K d "else" = some (some (.int 0 t33)))
    (e34 : PySem.W.nsIn K d "end" = some (some (.int 0 t34)))
    (e35 : PySem.W.nsIn K d "ask" = some (some (.int 1 t35))) : NbK K w d := by
  intro x k h
  simp only [nbW, List.mem_cons, List.not_mem_nil, or_false, Prod.mk.injEq] at h
  rcases h with ⟨rfl, rfl⟩ | ⟨rfl, rfl⟩ | ⟨rfl, rfl⟩ | ⟨rfl, rfl⟩ | ⟨rfl, rfl⟩ | ⟨rfl, rfl⟩ | ⟨rfl, rfl⟩ | ⟨rfl, rfl⟩ | ⟨rfl, rfl⟩ | ⟨rfl, rfl⟩ | ⟨rfl, rfl⟩ | ⟨rfl, rfl⟩ | ⟨rfl, rfl⟩ | ⟨rfl, rfl⟩ | ⟨rfl, rfl⟩ | ⟨rfl, rfl⟩ | ⟨rfl, rfl⟩ | ⟨rfl, rfl⟩ | ⟨rfl, rfl⟩ | ⟨rfl, rfl⟩ | ⟨rfl, rfl⟩ | ⟨rfl, rfl⟩ | ⟨rfl, rfl⟩ | ⟨rfl, rfl⟩ | ⟨rfl, rfl⟩ | ⟨rfl, rfl⟩ | ⟨rfl, rfl⟩ | ⟨rfl, rfl⟩ | ⟨rfl, rfl⟩ | ⟨rfl, rfl⟩ | ⟨rfl, rfl⟩ | ⟨rfl, rfl⟩ | ⟨rfl, rfl⟩ | ⟨rfl, rfl⟩ | ⟨rfl, rfl⟩ | ⟨rfl, rfl⟩
  · exact kdct_of D e0 ⟨_, rfl⟩
  · exact kdct_of D e1 ⟨_, rfl⟩
  · exact kdct_of D e2 ⟨_, rfl⟩
  · exact kdct_of D e3 ⟨_, rfl⟩
  · exact kdct_of D e4 ⟨_, rfl⟩
  · exact kdct_of D e5 ⟨_, rfl⟩
  · exact kdct_of D e6 ⟨_, rfl⟩
  · exact kdct_of D e7 ⟨_, rfl⟩
  · exact kdct_of D e8 ⟨_, rfl⟩
  · exact kdct_of D e9 ⟨_, rfl⟩
  · exact kdct_of D e10 ⟨_, rfl⟩
  · exact kdct_of D e11 ⟨_, rfl⟩
  · exact kdct_of D e12 ⟨_, rfl⟩
  · exact kdct_of D e13 ⟨_, rfl⟩
  · exact kdct_of D e14 ⟨_, rfl⟩
  · exact kdct_of D e15 ⟨_, rfl⟩
  · exact kdct_of D e16 ⟨_, rfl⟩
  · exact kdct_of D e17 ⟨_, rfl⟩
  · exact kdct_of D e18 ⟨_, rfl⟩
  · exact kdct_of D e19 ⟨_, rfl⟩
  · exact kdct_of D e20 ⟨_, rfl⟩
  · exact kdct_of D e21 ⟨_, rfl⟩
  · exact kdct_of D e22 ⟨_, rfl⟩
  · exact kdct_of D e23 ⟨_, rfl⟩
  · exact kdct_of D e24 ⟨_, rfl⟩
  · exact kdct_of D e25 ⟨_, rfl⟩
  · exact kdct_of D e26 ⟨_, rfl⟩
  · exact kdct_of D e27 ⟨_, rfl⟩
  · exact kdct_of D e28 ⟨_, rfl⟩
  · exact kdct_of D e29 ⟨_, rfl⟩
  · exact kdct_of D e30 ⟨_, rfl⟩
  · exact kdct_of D e31 ⟨_, rfl⟩
  · exact kdct_of D e32 ⟨_, rfl⟩
  · exact kdct_of D e33 ⟨_, rfl⟩
  · exact kdct_of D e34 ⟨_, rfl⟩
  · exact kdct_of D e35 ⟨_, rfl⟩
end
end Qp
open PySem PySem.W PyProof.Rows
set_option maxRecDepth 100000 in
set_option maxHeartbeats 0 in
theorem PySem.Challenge.cw_quietprobes_k20_rows_and_looks_told_holds : PySem.Challenge.rw_quietprobes_k20_rows_and_looks_told.Holds := by
  w_on; o_law; k_head; (case hw => w_witness2)
  k_fill
  refine L2.walk_of (l := PySem.Challenge.rw_quietprobes_k20_rows_and_looks_told) (n := 63) (k := 7) (x := "script") (CX := fun _ => L2.CX0) (sp := fun w => Qp.spLaw _) rfl (by decide) rfl ⟨rfl, by decide, by decide⟩ (fun w h Y => PySem.W.kIn_of Y) ?F (fun _ _ a ns hl _ hS => ⟨a, ns, rfl, hS, hl, fun _ => rfl⟩) (fun _ _ _ _ _ h => h)
  case F =>
    intro w mg fa h KX G hmg
    obtain ⟨f1, fd1, F1⟩ : ∃ f fd, Qp.FunIn _ mg "is_name" Qp.sIsName f fd := by
      refine' Qp.fun_in KX G ?a ?l ?c ?k
      (case a => k_is); (case l => k_is); (case c => k_is); (case k => k_is)
    obtain ⟨f2, fd2, F2⟩ : ∃ f fd, Qp.FunIn _ mg "is_look" Qp.sIsLook f fd := by
      refine' Qp.fun_in KX G ?a ?l ?c ?k
      (case a => k_is); (case l => k_is); (case c => k_is); (case k => k_is)
    obtain ⟨f3, fd3, F3⟩ : ∃ f fd, Qp.FunIn _ mg "is_row" Qp.sIsRow f fd := by
      refine' Qp.fun_in KX G ?a ?l ?c ?k
      (case a => k_is); (case l => k_is); (case c => k_is); (case k => k_is)
    obtain ⟨f4, fd4, F4⟩ : ∃ f fd, Qp.FunIn _ mg "_is_one_of" Qp.sOne f fd := by
      refine' Qp.fun_in KX G ?a ?l ?c ?k
      (case a => k_is); (case l => k_is); (case c => k_is); (case k => k_is)
    obtain ⟨f5, fd5, F5⟩ : ∃ f fd, Qp.FunIn _ mg "_has_probe_parts" Qp.sHasP f fd := by
      refine' Qp.fun_in KX G ?a ?l ?c ?k
      (case a => k_is); (case l => k_is); (case c => k_is); (case k => k_is)
    obtain ⟨f6, fd6, F6⟩ : ∃ f fd, Qp.FunIn _ mg "_are_looks" Qp.sAre f fd := by
      refine' Qp.fun_in KX G ?a ?l ?c ?k
      (case a => k_is); (case l => k_is); (case c => k_is); (case k => k_is)
    obtain ⟨f7, fd7, F7⟩ : ∃ f fd, Qp.FunIn _ mg "is_probe" Qp.sIsProbe f fd := by
      refine' Qp.fun_in KX G ?a ?l ?c ?k
      (case a => k_is); (case l => k_is); (case c => k_is); (case k => k_is)
    obtain ⟨f8, fd8, F8⟩ : ∃ f fd, Qp.FunIn _ mg "_law_pool" Qp.sPool f fd := by
      refine' Qp.fun_in KX G ?a ?l ?c ?k
      (case a => k_is); (case l => k_is); (case c => k_is); (case k => k_is)
    obtain ⟨f9, fd9, F9⟩ : ∃ f fd, Qp.FunIn _ mg "_law_draw" Qp.sDraw f fd := by
      refine' Qp.fun_in KX G ?a ?l ?c ?k
      (case a => k_is); (case l => k_is); (case c => k_is); (case k => k_is)
    obtain ⟨f10, fd10, F10⟩ : ∃ f fd, Qp.FunIn _ mg "_law_word" Qp.sWord f fd := by
      refine' Qp.fun_in KX G ?a ?l ?c ?k
      (case a => k_is); (case l => k_is); (case c => k_is); (case k => k_is)
    obtain ⟨f11, fd11, F11⟩ : ∃ f fd, Qp.FunIn _ mg "_law_free_look" Qp.sFLook f fd := by
      refine' Qp.fun_in KX G ?a ?l ?c ?k
      (case a => k_is); (case l => k_is); (case c => k_is); (case k => k_is)
    obtain ⟨f12, fd12, F12⟩ : ∃ f fd, Qp.FunIn _ mg "_law_free_probe" Qp.sFProbe f fd := by
      refine' Qp.fun_in KX G ?a ?l ?c ?k
      (case a => k_is); (case l => k_is); (case c => k_is); (case k => k_is)
    obtain ⟨f13, fd13, F13⟩ : ∃ f fd, Qp.FunIn _ mg "_law_free_row" Qp.sFRow f fd := by
      refine' Qp.fun_in KX G ?a ?l ?c ?k
      (case a => k_is); (case l => k_is); (case c => k_is); (case k => k_is)
    obtain ⟨f14, fd14, F14⟩ : ∃ f fd, Qp.FunIn _ mg "_law_same" Qp.sSame f fd := by
      refine' Qp.fun_in KX G ?a ?l ?c ?k
      (case a => k_is); (case l => k_is); (case c => k_is); (case k => k_is)
    obtain ⟨f15, fd15, F15⟩ : ∃ f fd, Qp.FunIn _ mg "law" Qp.sLaw f fd := by
      refine' Qp.fun_in KX G ?a ?l ?c ?k
      (case a => k_is); (case l => k_is); (case c => k_is); (case k => k_is)
    have B : Qp.Bts mg := by
      refine' Qp.bts_in KX G ?z1 ?z2 ?z3 ?z4 ?z5 ?z6 ?z7 ?z8
      (case z1 => k_is); (case z2 => k_is); (case z3 => k_is); (case z4 => k_is); (case z5 => k_is); (case z6 => k_is); (case z7 => k_is); (case z8 => k_is)
    obtain ⟨tk1, mL⟩ : ∃ tk, mg "LONGEST_NAME" = some (.int 8 tk) := by
      refine' Qp.mg_int KX G ?zL
      (case zL => k_is)
    obtain ⟨tk2, mM⟩ : ∃ tk, mg "MOST_LOOKS" = some (.int 6 tk) := by
      refine' Qp.mg_int KX G ?zM
      (case zM => k_is)
    have mA : mg "all" = none := by
      refine' PySem.W.mg_none_of KX G ?zA
      (case zA => k_is)
    obtain ⟨t_looksW, m_looksW, h_looksW⟩ : ∃ t, mg "LOOKS" = some (.ref t) ∧ Qp.TupW _ t Qp.looksW := by
      refine' Qp.tup_LOOKS KX G ?ta ?tl
      (case ta => k_is); (case tl => k_is)
    obtain ⟨t_deedsW, m_deedsW, h_deedsW⟩ : ∃ t, mg "DEEDS" = some (.ref t) ∧ Qp.TupW _ t Qp.deedsW := by
      refine' Qp.tup_DEEDS KX G ?ta ?tl
      (case ta => k_is); (case tl => k_is)
    obtain ⟨t_stepsW, m_stepsW, h_stepsW⟩ : ∃ t, mg "STEPS" = some (.ref t) ∧ Qp.TupW _ t Qp.stepsW := by
      refine' Qp.tup_STEPS KX G ?ta ?tl
      (case ta => k_is); (case tl => k_is)
    obtain ⟨t_ifW, m_ifW, h_ifW⟩ : ∃ t, mg "IF_TESTS" = some (.ref t) ∧ Qp.TupW _ t Qp.ifW := by
      refine' Qp.tup_IF_TESTS KX G ?ta ?tl
      (case ta => k_is); (case tl => k_is)
    obtain ⟨t_whileW, m_whileW, h_whileW⟩ : ∃ t, mg "WHILE_TESTS" = some (.ref t) ∧ Qp.TupW _ t Qp.whileW := by
      refine' Qp.tup_WHILE_TESTS KX G ?ta ?tl
      (case ta => k_is); (case tl => k_is)
    obtain ⟨t_assertW, m_assertW, h_assertW⟩ : ∃ t, mg "ASSERT_TESTS" = some (.ref t) ∧ Qp.TupW _ t Qp.assertW := by
      refine' Qp.tup_ASSERT_TESTS KX G ?ta ?tl
      (case ta => k_is); (case tl => k_is)
    obtain ⟨t_probesW, m_probesW, h_probesW⟩ : ∃ t, mg "PROBES" = some (.ref t) ∧ Qp.TupW _ t Qp.probesW := by
      refine' Qp.tup_PROBES KX G ?ta ?tl
      (case ta => k_is); (case tl => k_is)
    obtain ⟨t_gatesW, m_gatesW, h_gatesW⟩ : ∃ t, mg "GATES" = some (.ref t) ∧ Qp.TupW _ t Qp.gatesW := by
      refine' Qp.tup_GATES KX G ?ta ?tl
      (case ta => k_is); (case tl => k_is)
    obtain ⟨dN, eN, nN, mN, DN, NB⟩ : Qp.KdTop _ w mg "NAMES_BEHIND" (fun K w d => Qp.NbK K w d) := by
      refine' Qp.kd_with KX G ?a ?l ?kk ?z ?more
      (case a => k_is); (case l => k_is)
      (case kk => repeat (first | exact trivial | refine ⟨⟨_, _, rfl, rfl⟩, ?_⟩))
      (case z => decide)
      (case more =>
        intro D
        refine' Qp.nb_in D ?e0 ?e1 ?e2 ?e3 ?e4 ?e5 ?e6 ?e7 ?e8 ?e9 ?e10 ?e11 ?e12 ?e13 ?e14 ?e15 ?e16 ?e17 ?e18 ?e19 ?e20 ?e21 ?e22 ?e23 ?e24 ?e25 ?e26 ?e27 ?e28 ?e29 ?e30 ?e31 ?e32 ?e33 ?e34 ?e35
        (case e0 => k_is); (case e1 => k_is); (case e2 => k_is); (case e3 => k_is); (case e4 => k_is); (case e5 => k_is); (case e6 => k_is); (case e7 => k_is); (case e8 => k_is); (case e9 => k_is); (case e10 => k_is); (case e11 => k_is); (case e12 => k_is); (case e13 => k_is); (case e14 => k_is); (case e15 => k_is); (case e16 => k_is); (case e17 => k_is); (case e18 => k_is); (case e19 => k_is); (case e20 => k_is); (case e21 => k_is); (case e22 => k_is); (case e23 => k_is); (case e24 => k_is); (case e25 => k_is); (case e26 => k_is); (case e27 => k_is); (case e28 => k_is); (case e29 => k_is); (case e30 => k_is); (case e31 => k_is); (case e32 => k_is); (case e33 => k_is); (case e34 => k_is); (case e35 => k_is))
    have e := hmg.symm.trans F15.m
    cases e
    obtain ⟨oc, od, kV, doc, pm, an, cdv, ct, osl, rfl, lk, hcd⟩ := F15.F.ex
    have b1 := F1.F.binds (ps := ["thing"]) fun _ _ _ _ _ _ us hl => match us, hl with | [_], _ => rfl
    have b2 := F2.F.binds (ps := ["row"]) fun _ _ _ _ _ _ us hl => match us, hl with | [_], _ => rfl
    have b3 := F3.F.binds (ps := ["row"]) fun _ _ _ _ _ _ us hl => match us, hl with | [_], _ => rfl
    have b4 := F4.F.binds (ps := ["words", "row"]) fun _ _ _ _ _ _ us hl => match us, hl with | [_, _], _ => rfl
    have b5 := F5.F.binds (ps := ["row"]) fun _ _ _ _ _ _ us hl => match us, hl with | [_], _ => rfl
    have b6 := F6.F.binds (ps := ["looks"]) fun _ _ _ _ _ _ us hl => match us, hl with | [_], _ => rfl
    have b7 := F7.F.binds (ps := ["row"]) fun _ _ _ _ _ _ us hl => match us, hl with | [_], _ => rfl
    have b8 := F8.F.binds (ps := ["script"]) fun _ _ _ _ _ _ us hl => match us, hl with | [_], _ => rfl
    have b9 := F9.F.binds (ps := ["pool", "many"]) fun _ _ _ _ _ _ us hl => match us, hl with | [_, _], _ => rfl
    have b10 := F10.F.binds (ps := ["pool"]) fun _ _ _ _ _ _ us hl => match us, hl with | [_], _ => rfl
    have b11 := F11.F.binds (ps := ["pool"]) fun _ _ _ _ _ _ us hl => match us, hl with | [_], _ => rfl
    have b12 := F12.F.binds (ps := ["pool"]) fun _ _ _ _ _ _ us hl => match us, hl with | [_], _ => rfl
    have b13 := F13.F.binds (ps := ["pool"]) fun _ _ _ _ _ _ us hl => match us, hl with | [_], _ => rfl
    have b14 := F14.F.binds (ps := ["actual", "due"]) fun _ _ _ _ _ _ us hl => match us, hl with | [_, _], _ => rfl
    refine ⟨_, fun s v => .of_eq rfl, fun base _ _ => Qp.ok_law_ne F15.F ?_⟩
    have C : Qp.Consts _ mg := { tL := t_looksW, tD := t_deedsW, tS := t_stepsW, tI := t_ifW, tW := t_whileW, tA := t_assertW, tP := t_probesW, tG := t_gatesW, tk := tk2, mL := m_looksW, hL := h_looksW, mD := m_deedsW, hD := h_deedsW, mS := m_stepsW, hS := h_stepsW, mI := m_ifW, hI := h_ifW, mW := m_whileW, hW := h_whileW, mA := m_assertW, hA := h_assertW, mP := m_probesW, hP := h_probesW, mG := m_gatesW, hG := h_gatesW, mM := mM }
    have gN := Qp.ok_isname (P := PySem.Challenge.rw_quietprobes_k20_rows_and_looks_told.prog) (w := w) (base := base) (k := 0) F1.F B mL
    have gO := Qp.ok_one (P := PySem.Challenge.rw_quietprobes_k20_rows_and_looks_told.prog) (w := w) (base := base) F4.F B mA mN gN F1.m F1.F.kp b1
    have gK := Qp.ok_islook F2.F C gO F4.m F4.F.kp b4
    have gA := Qp.ok_are F6.F B mA gK F2.m F2.F.kp b2
    have gH := Qp.ok_has F5.F B C gN F1.m F1.F.kp b1 gO F4.m F4.F.kp b4 gA F6.m F6.F.kp b6
    have gI := Qp.ok_isrow F3.F B C gO F4.m F4.F.kp b4 gH F5.m F5.F.kp b5
    have gB := Qp.ok_isprobe (P := PySem.Challenge.rw_quietprobes_k20_rows_and_looks_told.prog) (w := w) (base := base) (k := 0) F7.F C
    have gD := Qp.ok_draw (P := PySem.Challenge.rw_quietprobes_k20_rows_and_looks_told.prog) (w := w) (base := base) (k := 0) F9.F B.int
    have gW := Qp.ok_word F10.F gD F9.m F9.F.kp b9 B.range
    have gL := Qp.ok_flook F11.F NB gD F9.m F9.F.kp b9 gW F10.m F10.F.kp b10
    have gP := Qp.ok_fprobe F12.F B NB gD F9.m F9.F.kp b9 gW F10.m F10.F.kp b10 gL F11.m F11.F.kp b11
    have gR := Qp.ok_frow F13.F NB gD F9.m F9.F.kp b9 gW F10.m F10.F.kp b10 gP F12.m F12.F.kp b12
    exact ⟨{ dN := dN, B := B, fP := f8, fL := f11, fR := f13, fI := f3, fK := f2, fB := f7, fS := f14, xP := fd8, xL := fd11, xR := fd13, xI := fd3, xK := fd2, xB := fd7, xS := fd14, gP := Qp.ok_pool F8.F B.list, gL := gL, gR := gR, gI := gI, gK := gK, gB := gB, gS := Qp.ok_same F14.F B F14.m b14 3, bP := b8, bL := b11, bR := b13, bI := b3, bK := b2, bB := b7, bS := b14, mP := F8.m, mL := F11.m, mR := F13.m, mI := F3.m, mK := F2.m, mB := F7.m, mS := F14.m, kP := F8.F.kp, kL := F11.F.kp, kR := F13.F.kp, kI := F3.F.kp, kK := F2.F.kp, kB := F7.F.kp, kS := F14.F.kp }⟩
