import PyProof.Rows.All
import Wide.All
import OpenK.AllK
import Wide.FinOn
import KE.KExcSuper
import KE.KExcIs
import KE.RegKSuper
import KE.GoesMore
import HandS.ForMost
import HandS.EndBits
import HandS.Wide
import HandS.Star
import HandS.IsInst
import HandS.Codes
import HandS.More
import HandS.StrMore
import HandS.ClsMeth
import HandS.SlotsOwn
import HandS.Steps
import HandS.Walk
import HandS.FStrTup
import HandS.FStr
import HandS.ExcInit
import HandS.ExcField
import HandS.ExcIs
import HandS.ExcOwn
import HandS.WordsExc
import HandS.DictComp
import HandS.CallLocal
import HandS.Zip
import HandS.Property
import HandS.MethStar
import HandS.Defaults
import HandS.MakeKw
import HandS.MakeKwOnly
import HandS.TupAny
import HandS.TryOnly
import PyProof.SeqIndex
import PySem.Challenge.RW_quietprobes_k22_lines_of_rows
set_option Elab.async false
set_option maxRecDepth 100000
set_option maxHeartbeats 4000000
set_option linter.all false
namespace Qp
open PySem L2
def top (i : Nat) : Stmt := PySem.Challenge.pw_quietprobes_k22_lines_of_rows.main.body.getD i (.Pass ⟨0, 0, 0, 0⟩)
abbrev sIsName : Stmt := top 2
abbrev sIsLook : Stmt := top 14
abbrev sIsRow : Stmt := top 15
abbrev sOne : Stmt := top 16
abbrev sHasP : Stmt := top 17
abbrev sAre : Stmt := top 18
abbrev sIsProbe : Stmt := top 19
abbrev sRowText : Stmt := top 20
abbrev sLooksText : Stmt := top 21
abbrev sReadRow : Stmt := top 22
abbrev sReadProbe : Stmt := top 23
abbrev sReadLooks : Stmt := top 24
abbrev sPool : Stmt := top 26
abbrev sDraw : Stmt := top 27
abbrev sWord : Stmt := top 28
abbrev sFLook : Stmt := top 29
abbrev sFProbe : Stmt := top 30
abbrev sFRow : Stmt := top 31
abbrev sLLooks : Stmt := top 32
abbrev sLLine : Stmt := top 33
abbrev sSame : Stmt := top 34
abbrev sLaw : Stmt := top 35
/-! ### the pool of drawn numbers -/
/-- all objects but the two of the pool stay -/
def Keeps (p q : Addr) (H H' : Hp) : Prop := ∀ x o, x ≠ p → x ≠ q → H x = some o → H' x = some o
theorem Keeps.refl (p q : Addr) (H : Hp) : Keeps p q H H := fun _ _ _ _ e => e
theorem Keeps.trans {p q : Addr} {H H1 H2 : Hp} (a : Keeps p q H H1) (b : Keeps p q H1 H2) : Keeps p q H H2 := fun x o h1 h2 e => b x o h1 h2 (a x o h1 h2 e)
theorem Keeps.of_same {p q : Addr} {H H1 : Hp} (a : Same H H1) : Keeps p q H H1 := fun x o _ _ e => a x o e
theorem Keeps.upd_p {p q : Addr} {H : Hp} {o : HO} : Keeps p q H (upd H p o) := fun x u h1 _ e => by
  rw [upd_ne h1]; exact e
theorem Keeps.upd_q {p q : Addr} {H : Hp} {o : HO} : Keeps p q H (upd H q o) := fun x u _ h2 e => by
  rw [upd_ne h2]; exact e
theorem Keeps.upd_new {p q a : Addr} {H : Hp} {o : HO} (n : H a = none) : Keeps p q H (upd H a o) := fun x u _ _ e => by
  rw [upd_ne (ne_of_none e n)]; exact e
theorem Keeps.free {p q a : Addr} {H H1 : Hp} (k : Keeps p q H H1) (n : H1 a = none) (hp : a ≠ p) (hq : a ≠ q) : H a = none := by
  cases e : H a with
  | none => rfl
  | some o => rw [k a o hp hq e] at n; cases n
/-- the pool's two lists: how many numbers were drawn is n -/
structure PoolAt (H : Hp) (p q : Addr) (n : Nat) : Prop where
  ne : p ≠ q
  ex : ∃ (cs : List Int) (b c : Int), H p = some (.lst [.ref q, .int b, .int (n : Int), .int c]) ∧ H q = some (.lst (cs.map V.int)) ∧ cs.length ≤ 1000 ∧ 0 ≤ b ∧ 0 ≤ c ∧ c < 2147483629
theorem PoolAt.p_some {H : Hp} {p q : Addr} {n : Nat} (h : PoolAt H p q n) : ∃ o, H p = some o := let ⟨_, _, _, e, _⟩ := h.ex; ⟨_, e⟩
theorem PoolAt.q_some {H : Hp} {p q : Addr} {n : Nat} (h : PoolAt H p q n) : ∃ o, H q = some o := let ⟨_, _, _, _, e, _⟩ := h.ex; ⟨_, e⟩
theorem PoolAt.same {H H' : Hp} {p q : Addr} {n : Nat} (h : PoolAt H p q n) (s : Same H H') : PoolAt H' p q n := by
  obtain ⟨ne, cs, b, c, e1, e2, r⟩ := h
  exact ⟨ne, cs, b, c, s _ _ e1, s _ _ e2, r⟩
theorem PoolAt.new {H : Hp} {p q a : Addr} {n : Nat} {o : HO} (h : PoolAt H p q n) (na : H a = none) : PoolAt (upd H a o) p q n :=
  h.same fun x u e => by rw [upd_ne (ne_of_none e na)]; exact e
section
variable {X : Cx}
theorem get_list : PGet X (rIxL X.K) := by
  intro pins s σ H o i ov iv Q I ro ri h
  obtain ⟨p, xs, k, z, rfl, rfl, hq, he, q⟩ := h
  cases ro
  obtain ⟨t, rfl⟩ := ri
  obtain ⟨its, r, pl, hz⟩ := I.list hq
  obtain ⟨j, h1, h2, h3, h4, h5⟩ := atI_get he
  obtain ⟨w, ew, rw'⟩ := r.get h2
  have hl := r.length
  have hn := line63
  have fin : EP X pins σ Q w s := ⟨z, H, I, rw', q⟩
  by_cases h0 : 0 ≤ k
  · have hj : k.toNat = j := by
      rw [seqIndex_of h0 h5] at h1
      exact Option.some.inj h1
    exact wpAny_getItem_list pl.isList h0 (by omega) (by rw [hj]; simpa using ew) fin
  · have hj : (k + (its.toArray.size : Int)).toNat = j := by
      rw [seqIndex_neg (by omega) h4] at h1
      rw [List.size_toArray, ← hl]
      exact Option.some.inj h1
    exact wpAny_getItem_list_neg pl.isList (by omega) (by rw [List.size_toArray] <;> omega) (by omega) (by rw [hj]; simpa using ew) fin
end
theorem div_many {b m : Int} (h0 : 0 < m) (h1 : m ≤ 10 ^ 40) : CDivW b m := by
  refine wide_div (b := 200) h0 ?_ (by decide) (by decide)
  have h : m.natAbs ≤ 10 ^ 40 := by omega
  exact Nat.lt_of_le_of_lt h (by decide)
def spDraw : Sp := fun vs H Q _ => ∃ (p q : Addr) (n : Nat) (m : Int), vs = [.ref p, .int m] ∧ PoolAt H p q n ∧ n < 1000000 ∧ 0 < m ∧ m ≤ 10 ^ 40 ∧
  ∀ (d : Int) (H' : Hp), 0 ≤ d → d < m → PoolAt H' p q (n + 1) → Keeps p q H H' → Q (.int d) H'
section
variable {P : Program} {w : World} {K : PySem.W.Frag} {mg : Str → Option Value} {base : Heap}
theorem scD : FnScope ["pool", "many", "cell", "code", "digit", "far", "mixed"] ["pool", "many"] (defScope sDraw) := ⟨rfl, rfl, rfl, by decide +kernel, rfl, by decide +kernel, by decide +kernel⟩
theorem ok_draw {f : Addr} {fd : FuncData} {k : Nat} (F : Fun K "_law_draw" "_law_draw" sDraw f fd) (mi : mg "int" = none) : FnOk P w K mg base CX0 (k + 1) f fd ["pool", "many"] spDraw := by
  refine F.ok scD (fun vs H Q E h => ?_) (fun cdv A outer s H vs Q E hr h => ?_)
  · obtain ⟨p, q, n, m, rfl, _⟩ := h
    rfl
  · obtain ⟨p, q, n, m, rfl, ⟨npq, cs, b, c, hp, hq, hcs, hb, hc0, hc1⟩, hn, hm0, hm1, kk⟩ := h
    refine ⟨_,
      pss_cons (ps_augS (pv 0) pe_int get_list pe_int ip_add set_list)
      (C8.pss_cut (ps_if (PW.pt (pw_and (pt_cmpR op_eq (pe_ix ix_list (pv 0) pe_int (fun _ _ => rfl)) pe_int (nomark _)) (pw_and1 (pt_truth (pe_ix ix_list (pv 0) pe_int (fun _ _ => rfl)) (by intro _; rfl)))))
        (pss_cons (ps_set (i := 2) scD.nd rfl (.inl rfl) (pe_callTy call_int1 (by rfl) mi (by decide +kernel) (pa_cons (pe_bm PySem.F.plainAttrs_list PySem.F.slot_list_pop PySem.F.type_list_pop mt_popAt (pe_ix ix_list (pv 0) pe_int (fun _ _ => rfl)) (pa_cons pe_int pa_nil)) pa_nil)))
        (C8.pss_cut (ps_set (i := 3) scD.nd rfl (.inl rfl) (pe_ifExp (pt_cmpR op_ge (pv 2) pe_int (nomark _)) (pe_op op_mul pe_int (pv 2)) (pe_op op_sub (pe_un un_neg pe_int) (pe_op op_mul pe_int (pv 2)))))
        (pss_one (ps_if (pt_cmpR op_ge (pv 3) (pe_op op_pow pe_int pe_int) (nomark _))
          (pss_one (ps_asg (pv 3) (pg_sub (pv 0) pe_int set_list)))
          (pss_one (ps_asg (pe_op op_mod (pe_callTy call_int1 (by rfl) mi (by decide +kernel) (pa_cons (pe_op op_add (pe_op op_add (pe_op op_mul (pe_ix ix_list (pv 0) pe_int (fun _ _ => rfl)) pe_int) (pe_op op_mul (pv 3) pe_int)) pe_int) pa_nil)) pe_int) (pg_sub (pv 0) pe_int set_list)))))))
        pss_nil)
      (pss_cons (ps_if (pt_cmpR op_gt (pe_ix ix_list (pv 0) pe_int (fun _ _ => rfl)) pe_int (nomark _))
        (pss_cons (ps_set (i := 4) scD.nd rfl (.inl rfl) (pe_op op_mod (pe_callTy call_int1 (by rfl) mi (by decide +kernel) (pa_cons (pe_ix ix_list (pv 0) pe_int (fun _ _ => rfl)) pa_nil)) (pv 1)))
        (pss_cons (ps_asg (pe_op op_fdivW (pe_ix ix_list (pv 0) pe_int (fun _ _ => rfl)) (pv 1)) (pg_sub (pv 0) pe_int set_list))
        (pss_one (ps_ret (pv 4)))))
        pss_nil)
      (pss_cons (ps_if (pt_cmpR op_eq (pe_ix ix_list (pv 0) pe_int (fun _ _ => rfl)) pe_int (nomark _)) (pss_one (ps_ret pe_int)) pss_nil)
      (pss_cons (ps_set (i := 5) scD.nd rfl (.inl rfl) (pe_op op_add (pe_op op_mul (pe_ix ix_list (pv 0) pe_int (fun _ _ => rfl)) pe_int) (pe_op op_mul (pe_op op_mul (pe_ix ix_list (pv 0) pe_int (fun _ _ => rfl)) (pe_ix ix_list (pv 0) pe_int (fun _ _ => rfl))) pe_int)))
      (pss_cons (ps_set (i := 6) scD.nd rfl (.inl rfl) (pe_op op_mod (pe_callTy call_int1 (by rfl) mi (by decide +kernel) (pa_cons (pe_op op_add (pe_op op_mul (pe_ix ix_list (pv 0) pe_int (fun _ _ => rfl)) pe_int) (pv 5)) pa_nil)) pe_int))
      (pss_one (ps_ret (pe_op op_mod (pe_op op_mod (pe_callTy call_int1 (by rfl) mi (by decide +kernel) (pa_cons (pe_op op_fdiv (pe_op op_mul (pv 6) pe_int) pe_int) pa_nil)) pe_int) (pv 1))))))))), ?_⟩
    -- pool[2] += 1
    have g : ∀ {H : Hp} {x y z t : V}, H p = some (.lst [x, y, z, t]) → SqL K H p [x, y, z, t] := fun e => SqL.of e
    refine ⟨_, rfl, p, _, 2, _, rfl, rfl, g hp, atI_nat (j := 2) rfl, n, 1, rfl, rfl, p, _, 2, 2, rfl, rfl, hp, rfl, ?_⟩
    have K1 : Keeps p q H (upd H p (.lst [.ref q, .int b, .int ((n : Int) + 1), .int c])) := Keeps.upd_p
    have hp1 : (upd H p (.lst [.ref q, .int b, .int ((n : Int) + 1), .int c])) p = some (.lst [.ref q, .int b, .int ((n : Int) + 1), .int c]) := upd_same
    have hq1 : (upd H p (.lst [.ref q, .int b, .int ((n : Int) + 1), .int c])) q = some (.lst (cs.map V.int)) := by rw [upd_ne npq.symm]; exact hq
    refine ⟨fun σ H1 => ∃ (cs b c : _) (y2 y3 : Option V), σ = [some (.ref p), some (.int m), y2, y3, none, none, none] ∧ Keeps p q H H1 ∧
      H1 p = some (.lst [.ref q, .int b, .int ((n : Int) + 1), .int c]) ∧ H1 q = some (.lst (List.map V.int cs)) ∧ cs.length ≤ 1000 ∧ 0 ≤ b ∧ 0 ≤ c ∧ c < 2147483629, ?_, ?_⟩
    · -- if pool[1] == 0 and pool[0]
      refine ⟨_, rfl, p, _, 1, _, rfl, rfl, g hp1, atI_nat (j := 1) rfl, rfl, _, rfl, ?_⟩
      refine ite2 (fun _ => ?_) (fun _ => ?_)
      · refine ⟨_, rfl, p, _, 0, _, rfl, rfl, g hp1, atI_nat (j := 0) rfl, _, .inl ⟨_, SqL.of hq1, rfl⟩, ?_⟩
        cases cs with
        | nil =>
          refine iteF ?_
          exact ⟨[], b, c, none, none, rfl, K1, hp1, hq1, Nat.zero_le _, hb, hc0, hc1⟩
        | cons z r =>
          refine iteT ?_
          -- cell = int(pool[0].pop(0))
          refine ⟨_, rfl, p, _, 0, _, rfl, rfl, g hp1, atI_nat (j := 0) rfl, .inl ⟨rfl, _, SqL.of hq1⟩, q, _, 0, 0, _, rfl, rfl, hq1, by decide, by decide, seqIndex_of (by decide) (by simp), rfl, ?_⟩
          have hq2 : (upd (upd H p (.lst [.ref q, .int b, .int ((n : Int) + 1), .int c])) q (.lst (r.map V.int))) q = some (.lst (r.map V.int)) := upd_same
          have hp2 : (upd (upd H p (.lst [.ref q, .int b, .int ((n : Int) + 1), .int c])) q (.lst (r.map V.int))) p = some (.lst [.ref q, .int b, .int ((n : Int) + 1), .int c]) := by
            rw [upd_ne npq, hp1]
          have K2 : Keeps p q H (upd (upd H p (.lst [.ref q, .int b, .int ((n : Int) + 1), .int c])) q (.lst (r.map V.int))) := K1.trans .upd_q
          refine .inl ⟨z, rfl, ?_⟩
          have hr1 : r.length ≤ 1000 := Nat.le_of_succ_le hcs
          -- code
          refine ⟨fun σ H1 => ∃ code : Int, σ = [some (.ref p), some (.int m), some (.int z), some (.int code), none, none, none] ∧ 0 ≤ code ∧ H1 = upd (upd H p (.lst [.ref q, .int b, .int ((n : Int) + 1), .int c])) q (.lst (r.map V.int)), ?_, ?_⟩
          · refine ⟨_, rfl, _, _, rfl, rfl, _, rfl, ?_⟩
            refine ite2 (fun hz => ?_) (fun hz => ?_)
            · have hz' : 0 ≤ z := of_decide_eq_true hz
              exact ⟨_, rfl, _, _, rfl, rfl, .inl (by decide), 2 * z, rfl, by omega, rfl⟩
            · have hz' : ¬ 0 ≤ z := fun e => hz (decide_eq_true e)
              exact ⟨_, rfl, _, rfl, _, _, rfl, rfl, .inl (by decide), _, _, rfl, rfl, -1 - 2 * z, rfl, by omega, rfl⟩
          · rintro σ H1 ⟨code, rfl, hcode, rfl⟩
            refine ⟨_, rfl, _, _, rfl, rfl, ⟨by decide, by decide, by decide⟩, _, _, rfl, rfl, _, rfl, ?_⟩
            refine ite2 (fun hz => ?_) (fun hz => ?_)
            · refine ⟨_, rfl, _, rfl, p, _, 1, 1, rfl, rfl, hp2, rfl, ?_⟩
              exact ⟨r, code, c, _, _, rfl, K2.trans .upd_p, upd_same, by rw [upd_ne npq.symm]; exact hq2, hr1, hcode, hc0, hc1⟩
            · have hz' : ¬ ((10 : Int) ^ (18 : Int).toNat ≤ code) := fun e => hz (decide_eq_true e)
              refine ⟨_, rfl, p, _, 3, _, rfl, rfl, g hp2, atI_nat (j := 3) rfl, _, _, rfl, rfl, .inl ⟨by omega, by omega⟩, _, rfl, _, _, rfl, rfl, .inr (by decide), _, _, rfl, rfl, _, _, rfl, rfl, .inl ⟨_, rfl, _, _, rfl, rfl, (by show (0 : Int) < 2147483629; decide), _, rfl, p, _, 3, 3, rfl, rfl, hp2, rfl, ?_⟩⟩
              refine ⟨r, b, _, _, _, rfl, K2.trans .upd_p, upd_same, by rw [upd_ne npq.symm]; exact hq2, hr1, hb, Int.emod_nonneg _ (by decide), Int.emod_lt_of_pos _ (by decide)⟩
      · exact ⟨cs, b, c, none, none, rfl, K1, hp1, hq1, hcs, hb, hc0, hc1⟩
    · rintro σ H1 ⟨cs, b, c, y2, y3, rfl, K1, hp1, hq1, hcs, hb, hc0, hc1⟩
      have en : ((n : Int) + 1) = ((n + 1 : Nat) : Int) := by omega
      rw [en] at hp1
      -- if pool[1] > 0
      refine ⟨_, rfl, p, _, 1, _, rfl, rfl, g hp1, atI_nat (j := 1) rfl, _, _, rfl, rfl, _, rfl, ?_⟩
      refine ite2 (fun h1 => ?_) (fun h1 => ?_)
      · have hdm : (0 : Int) < m := hm0
        refine ⟨_, rfl, p, _, 1, _, rfl, rfl, g hp1, atI_nat (j := 1) rfl, .inl ⟨_, rfl, _, rfl, _, _, rfl, rfl, hm0, ?_⟩⟩
        refine ⟨_, rfl, p, _, 1, _, rfl, rfl, g hp1, atI_nat (j := 1) rfl, _, rfl, _, _, rfl, rfl, div_many hm0 hm1, ?_⟩
        refine ⟨_, rfl, p, _, 1, 1, rfl, rfl, hp1, rfl, ?_⟩
        refine ⟨_, rfl, ?_⟩
        exact kk _ _ (Int.emod_nonneg _ (by omega)) (Int.emod_lt_of_pos _ hm0) ⟨npq, cs, b / m, c, upd_same, by rw [upd_ne npq.symm]; exact hq1, hcs, Int.ediv_nonneg hb (by omega), hc0, hc1⟩ (K1.trans .upd_p)
      · -- if pool[3] == 0
        refine ⟨_, rfl, p, _, 3, _, rfl, rfl, g hp1, atI_nat (j := 3) rfl, rfl, _, rfl, ?_⟩
        refine ite2 (fun h3 => ?_) (fun h3 => ?_)
        · exact kk 0 _ (by decide) hm0 ⟨npq, cs, b, c, hp1, hq1, hcs, hb, hc0, hc1⟩ K1
        · refine ⟨_, rfl, p, _, 2, _, rfl, rfl, g hp1, atI_nat (j := 2) rfl, _, _, rfl, rfl, .inr (by decide), _, rfl, p, _, 2, _, rfl, rfl, g hp1, atI_nat (j := 2) rfl, _, rfl, p, _, 2, _, rfl, rfl, g hp1, atI_nat (j := 2) rfl, _, _, rfl, rfl, .inl ⟨by omega, by omega⟩, _, _, rfl, rfl, .inr (by decide), _, _, rfl, rfl, ?_⟩
          refine ⟨_, rfl, p, _, 3, _, rfl, rfl, g hp1, atI_nat (j := 3) rfl, _, _, rfl, rfl, .inl ⟨by omega, by omega⟩, _, rfl, _, _, rfl, rfl, .inl ⟨_, rfl, _, _, rfl, rfl, (by show (0 : Int) < 2147483647; decide), ?_⟩⟩
          refine ⟨_, rfl, _, _, rfl, rfl, .inr (by decide), _, _, rfl, rfl, ⟨by decide, by decide⟩, .inl ⟨_, rfl, _, _, rfl, rfl, (by show (0 : Int) < 2147483629; decide), _, rfl, _, _, rfl, rfl, hm0, ?_⟩⟩
          exact kk _ _ (Int.emod_nonneg _ (by omega)) (Int.emod_lt_of_pos _ hm0) ⟨npq, cs, b, c, hp1, hq1, hcs, hb, hc0, hc1⟩ K1
end
/-! ### the pool made, a word drawn -/
theorem cut_take (xs : List V) (k : Nat) : cutV xs none (some (k : Int)) = xs.take k := by
  unfold cutV
  rw [HT.sIx_nat, HT.sIx_none]
  show (xs.drop 0).take (min k xs.length - 0) = xs.take k
  rw [List.drop_zero, Nat.sub_zero]
  by_cases h : k ≤ xs.length
  · rw [Nat.min_eq_left h]
  · rw [Nat.min_eq_right (by omega), List.take_of_length_le (Nat.le_refl _), List.take_of_length_le (by omega)]
def spPool (K : PySem.W.Frag) : Sp := fun vs H Q _ => ∃ (a : Addr) (ns : List Int), vs = [.ref a] ∧ SqL K H a (ns.map V.int) ∧ ns.length ≤ 63 ∧ ∀ (p q : Addr) (H' : Hp), H p = none → H q = none → PoolAt H' p q 0 → Same H H' → Q (.ref p) H'
/-- one to eight letters -/
def IsWord (z : Str) : Prop := 1 ≤ z.length ∧ z.length ≤ 8 ∧ ∀ c ∈ z.cps.toList, 97 ≤ c ∧ c ≤ 122
def spWord : Sp := fun vs H Q _ => ∃ (p q : Addr) (n : Nat), vs = [.ref p] ∧ PoolAt H p q n ∧ n < 900000 ∧
  ∀ (z : Str) (n' : Nat) (H' : Hp), IsWord z → n ≤ n' → n' ≤ n + 9 → PoolAt H' p q n' → Keeps p q H H' → Q (.str z) H'
theorem sum_ones : ∀ ys : List Str, (∀ y ∈ ys, y.length = 1) → (ys.map (·.length)).sum = ys.length
  | [], _ => rfl
  | x :: r, h => by
    rw [List.map_cons, List.sum_cons, h x List.mem_cons_self, sum_ones r fun y hy => h y (List.mem_cons_of_mem _ hy), List.length_cons]
    omega
theorem join_letters {sep : Str} (hs : sep.cps.toList = []) : ∀ ys : List Str, (∀ y ∈ ys, ∃ c, y = ⟨#[c]⟩ ∧ 97 ≤ c ∧ c ≤ 122) → (Str.join sep ys).length = ys.length ∧ ∀ c ∈ (Str.join sep ys).cps.toList, 97 ≤ c ∧ c ≤ 122
  | [], _ => ⟨rfl, fun c h => by cases h⟩
  | [x], h => by
    obtain ⟨c, rfl, h1, h2⟩ := h x List.mem_cons_self
    exact ⟨rfl, fun d hd => by
      have e : d = c := List.mem_singleton.mp hd
      rw [e]; exact ⟨h1, h2⟩⟩
  | x :: y :: r, h => by
    obtain ⟨c, rfl, h1, h2⟩ := h x List.mem_cons_self
    obtain ⟨i1, i2⟩ := join_letters hs (y :: r) fun z hz => h z (List.mem_cons_of_mem _ hz)
    have sl : sep.length = 0 := by
      show sep.cps.size = 0
      rw [← Array.length_toList, hs]; rfl
    have e : (Str.join sep ((⟨#[c]⟩ : Str) :: y :: r)) = (⟨#[c]⟩ : Str) ++ sep ++ Str.join sep (y :: r) := rfl
    rw [e]
    refine ⟨?_, fun d hd => ?_⟩
    · rw [strLen_append, strLen_append, i1, sl]
      show 1 + 0 + (y :: r).length = _
      simp only [List.length_cons]; omega
    · rcases PyProof.Rows.mem_cps_append.mp hd with hd | hd
      · rcases PyProof.Rows.mem_cps_append.mp hd with hd | hd
        · have e : d = c := List.mem_singleton.mp hd
          rw [e]; exact ⟨h1, h2⟩
        · rw [hs] at hd; cases hd
      · exact i2 d hd
def abc : Str := "abcdefghijklmnopqrstuvwxyz"
theorem abc_len : abc.length = 26 := by decide +kernel
theorem abc_at (d : Int) (h0 : 0 ≤ d) (h1 : d < 26) : ∃ c, atI abc.cps.toList d = some c ∧ 97 ≤ c ∧ c ≤ 122 := by
  obtain ⟨k, rfl⟩ : ∃ k : Nat, d = (k : Int) := ⟨d.toNat, by omega⟩
  have hk : k < 26 := by omega
  have all : ∀ k : Fin 26, ∃ c, abc.cps.toList[k.val]? = some c ∧ 97 ≤ c ∧ c ≤ 122 := by
    have h : ∀ k : Fin 26, (match abc.cps.toList[k.val]? with | some c => decide (97 ≤ c ∧ c ≤ 122) | none => false) = true := by decide +kernel
    intro k
    have := h k
    cases e : abc.cps.toList[k.val]? with
    | none => rw [e] at this; cases this
    | some c =>
      rw [e] at this
      exact ⟨c, rfl, of_decide_eq_true this⟩
  obtain ⟨c, e, r⟩ := all ⟨k, hk⟩
  exact ⟨c, atI_nat e, r⟩
section
variable {P : Program} {w : World} {K : PySem.W.Frag} {mg : Str → Option Value} {base : Heap}
theorem scP : FnScope ["script"] ["script"] (defScope sPool) := ⟨rfl, rfl, rfl, by decide +kernel, rfl, by decide +kernel, by decide +kernel⟩
theorem ok_pool {f : Addr} {fd : FuncData} {k : Nat} (F : Fun K "_law_pool" "_law_pool" sPool f fd) (ml : mg "list" = none) : FnOk P w K mg base CX0 (k + 1) f fd ["script"] (spPool K) := by
  refine F.ok scP (fun vs H Q E h => ?_) (fun cdv A outer s H vs Q E hr h => ?_)
  · obtain ⟨a, ns, rfl, _⟩ := h
    rfl
  · obtain ⟨a, ns, rfl, hS, hl, kk⟩ := h
    refine ⟨_, pss_one (ps_ret (pe_lst (pa_cons (pe_callTy call_list_of (by rfl) ml (by decide +kernel) (pa_cons (pe_slice sl_list (pv 0) po_none (po_some pe_int)) pa_nil)) (pa_cons pe_int (pa_cons pe_int (pa_cons pe_int pa_nil)))))), ?_⟩
    refine ⟨.ref a, rfl, 63, rfl, a, _, rfl, hS, fun c nc => ?_⟩
    have e : cutV (ns.map V.int) none (some 63) = (ns.take 63).map V.int := by
      rw [List.map_take]; exact cut_take _ 63
    rw [e]
    refine ⟨c, _, rfl, .inl (SqL.of upd_same), fun q nq => ?_⟩
    refine ⟨by show 4 ≤ sizeLine; decide, fun p np => ?_⟩
    have hc : (upd H c (.lst ((ns.take 63).map V.int))) c = some (.lst ((ns.take 63).map V.int)) := upd_same
    have s1 : Same H (upd H c (.lst ((ns.take 63).map V.int))) := fun b o z => by rw [upd_ne (ne_of_none z nc)]; exact z
    have s2 : Same (upd H c (.lst ((ns.take 63).map V.int))) (upd (upd H c (.lst ((ns.take 63).map V.int))) q (.lst ((ns.take 63).map V.int))) := fun b o z => by rw [upd_ne (ne_of_none z nq)]; exact z
    have hq : (upd (upd H c (.lst ((ns.take 63).map V.int))) q (.lst ((ns.take 63).map V.int))) q = some (.lst ((ns.take 63).map V.int)) := upd_same
    have s3 := fun o => (fun b u z => by rw [upd_ne (ne_of_none z np)]; exact z : Same (upd (upd H c (.lst ((ns.take 63).map V.int))) q (.lst ((ns.take 63).map V.int))) (upd _ p o))
    refine kk p q _ ((s1.trans s2).free np) (s1.free nq) ⟨(ne_of_none hq np).symm, ns.take 63, 0, 0, upd_same, s3 _ _ _ hq, by rw [List.length_take]; omega, by decide, by decide, by decide⟩ ((s1.trans s2).trans (s3 _))
theorem scW : FnScope ["pool", "letters", "k"] ["pool"] (defScope sWord) := ⟨rfl, rfl, rfl, by decide +kernel, rfl, by decide +kernel, by decide +kernel⟩
theorem ok_word {f fD : Addr} {fd fdD : FuncData} (F : Fun K "_law_word" "_law_word" sWord f fd) (GD : FnOk P w K mg base CX0 1 fD fdD ["pool", "many"] spDraw) (mD : mg "_law_draw" = some (.ref fD)) (kD : PySem.W.keepIn K (.ref fD) = true)
    (bD : Binds K fdD ["pool", "many"] []) (mr : mg "range" = none) : FnOk P w K mg base CX0 2 f fd ["pool"] spWord := by
  refine F.ok scW (fun vs H Q E h => ?_) (fun cdv A outer s H vs Q E hr h => ?_)
  · obtain ⟨p, q, n, rfl, _⟩ := h
    rfl
  · obtain ⟨p, q, n, rfl, hP, hn, kk⟩ := h
    refine ⟨_, pss_cons (ps_set (i := 1) scW.nd rfl (.inr rfl) pe_str)
      (pss_one (ps_ret (pe_join pe_str (pe_lc (own := [("k", 2)]) (g := gName 2) (tt := tYes) rfl scW.nd
        (pi_range1 (by rfl) mr (pa_cons (pe_op op_add pe_int (pe_call GD hr (by rfl) mD kD bD .nil pass0 (pa_cons (pv 0) (pa_cons pe_int pa_nil)))) pa_nil))
        (blkOk_by (N := ["pool", "letters", "k"]) (sc := defScope sWord) (by decide +kernel))
        (fun _ _ _ _ _ => pg_name (i := 2) scW.nd rfl (.inl rfl)) (fun _ _ _ _ _ => pts_nil)
        (fun _ _ _ _ _ => pe_ix ix_str (pv 1) (pe_call GD hr (by rfl) mD kD bD .nil pass0 (pa_cons (pv 0) (pa_cons pe_int pa_nil))) (fun _ _ => rfl)))))), ?_⟩
    refine ⟨⟨_, rfl⟩, .ref p, rfl, p, q, n, 8, rfl, hP, by omega, by decide, by decide, fun d H1 h0 h1 P1 K1 => ?_⟩
    refine ⟨1, d, rfl, rfl, 1 + d, rfl, (by omega), (by omega), fun D nD => ?_⟩
    obtain ⟨op, ep⟩ := P1.p_some
    obtain ⟨oq, eq⟩ := P1.q_some
    have nDp : D ≠ p := (ne_of_none ep nD).symm
    have nDq : D ≠ q := (ne_of_none eq nD).symm
    have em : (1 + d).toNat ≤ 8 := by omega
    refine lc_range (lo := 0) (n := (1 + d).toNat) (fun i H2 => ∃ ys : List Str, H2 D = some (.lst (ys.map V.str)) ∧ ys.length = i ∧ (∀ y ∈ ys, ∃ c, y = ⟨#[c]⟩ ∧ 97 ≤ c ∧ c ≤ 122) ∧ PoolAt H2 p q (n + 1 + i) ∧ Keeps p q H H2)
      ⟨[], upd_same, rfl, fun y hy => (by cases hy), P1.new nD, K1.trans (.upd_new nD)⟩ (fun i H2 hi hI => ?_) (fun H2 hI => ?_)
    · obtain ⟨ys, eD, el, hy, P2, K2⟩ := hI
      refine ⟨rfl, ?_⟩
      refine ⟨_, rfl, _, rfl, p, q, n + 1 + i, 26, rfl, P2, by omega, by decide, by decide, fun d2 H3 h02 h12 P3 K3 => ?_⟩
      obtain ⟨c, ec, hc1, hc2⟩ := abc_at d2 h02 h12
      have eD3 : H3 D = some (.lst (ys.map V.str)) := K3 D _ nDp nDq eD
      refine ⟨abc, d2, c, rfl, rfl, by rw [abc_len]; decide, ec, _, eD3, small1000 (by rw [List.length_map]; omega), ys ++ [⟨#[c]⟩], ?_, by simp [el], fun y hm => ?_, ?_, ?_⟩
      · rw [upd_same, List.map_append]; rfl
      · rcases List.mem_append.mp hm with hm | hm
        · exact hy y hm
        · exact ⟨c, List.mem_singleton.mp hm, hc1, hc2⟩
      · have e : n + 1 + (i + 1) = n + 1 + i + 1 := by omega
        rw [e]
        obtain ⟨npq, cs, b, c0, e1, e2, r⟩ := P3
        exact ⟨npq, cs, b, c0, by rw [upd_ne nDp.symm]; exact e1, by rw [upd_ne nDq.symm]; exact e2, r⟩
      · intro x o hx1 hx2 nH
        have ex := K3 x o hx1 hx2 (K2 x o hx1 hx2 nH)
        by_cases hxD : x = D
        · subst hxD
          rw [K1.free nD nDp nDq] at nH
          cases nH
        · rw [upd_ne hxD]; exact ex
    · obtain ⟨ys, eD, el, hy, P2, K2⟩ := hI
      obtain ⟨j1, j2⟩ := join_letters (sep := "") (by decide +kernel) ys hy
      have e1 : ∀ y ∈ ys, y.length = 1 := fun y hm => by
        obtain ⟨c, rfl, _⟩ := hy y hm
        rfl
      have e2 : (ys.map (·.length)).sum = ys.length := sum_ones _ e1
      refine ⟨_, D, ys, rfl, rfl, .inl (SqL.of eD), ?_, ?_⟩
      · rw [e2, show (Str.ofString "").length = 0 by decide +kernel]; omega
      · rw [show Txt.join _ ys = Str.join _ ys from StrLaws.glued_eq_join _ _]
        exact kk _ (n + 1 + (1 + d).toNat) H2 ⟨by rw [j1]; omega, by rw [j1]; omega, j2⟩ (by omega) (by omega) P2 K2
end
/-! ### two data are the same -/
/-- no deeper than that -/
def dp : Nat → PyData → Prop
  | 0, _ => False
  | _ + 1, .none => True
  | _ + 1, .bool _ => True
  | _ + 1, .int _ => True
  | _ + 1, .str _ => True
  | m + 1, .list xs => xs.length ≤ 1000000 ∧ ∀ x ∈ xs, dp m x
  | m + 1, .tuple xs => xs.length ≤ 1000000 ∧ ∀ x ∈ xs, dp m x
  | _ + 1, .dict _ => False
theorem dp_mono : ∀ {m n : Nat} {d : PyData}, m ≤ n → dp m d → dp n d
  | 0, _, _, _, h => by simp [dp] at h
  | m + 1, 0, _, h, _ => by omega
  | m + 1, n + 1, d, h, hd => by
    cases d with
    | none => simp [dp]
    | bool b => simp [dp]
    | int i => simp [dp]
    | str s => simp [dp]
    | list xs =>
      simp only [dp] at hd ⊢
      exact ⟨hd.1, fun x hx => dp_mono (Nat.le_of_succ_le_succ h) (hd.2 x hx)⟩
    | tuple xs =>
      simp only [dp] at hd ⊢
      exact ⟨hd.1, fun x hx => dp_mono (Nat.le_of_succ_le_succ h) (hd.2 x hx)⟩
    | dict xs => simp [dp] at hd
def tyName : PyData → String
  | .none => "NoneType"
  | .bool _ => "bool"
  | .int _ => "int"
  | .str _ => "str"
  | .list _ => "list"
  | .tuple _ => "tuple"
  | .dict _ => "dict"
theorem ty_of {K : PySem.W.Frag} {H : Hp} {v : V} {d : PyData} (h : Dp K H v d) : TyX K H v (.type (tyName d)) := by
  cases h with
  | non => exact .base .non
  | bl b => exact .base (.bl b)
  | int i => exact .base (.int i)
  | str x => exact .base (.str x)
  | lst hs _ =>
    rcases hs with (h | ⟨o, h⟩) | ⟨o, its, n, hk, hc, _⟩
    · exact .base (.lst h)
    · exact .base (.frz h)
    · exact .kList hk hc
  | tup hs _ =>
    rcases hs with (h | ⟨o, h⟩) | ⟨o, its, n, hk, hc, _⟩
    · exact .base (.tup h)
    · exact .fTuple h
    · exact .kTuple hk hc
theorem isi {K : PySem.W.Frag} {H : Hp} {v : V} {d : PyData} {T : String} {b : Bool} {Q : VK} (h : Dp K H v d) (e : kitB (tyName d) T = some b) (q : Q (.bl b) H) : rIsi K [v, .ty T] H Q :=
  ⟨v, .ty T, _, _, b, rfl, ClsV.ty T, ty_of h, kit_ty e, q⟩
theorem dpAll_len {K : PySem.W.Frag} {H : Hp} : ∀ {vs : List V} {ds : List PyData}, DpAll K H vs ds → vs.length = ds.length
  | _, _, .nil => rfl
  | _, _, .cons _ t => by rw [List.length_cons, List.length_cons, dpAll_len t]
theorem dpAll_get {K : PySem.W.Frag} {H : Hp} : ∀ {vs : List V} {ds : List PyData} {i : Nat} {d : PyData}, DpAll K H vs ds → ds[i]? = some d → ∃ v, vs[i]? = some v ∧ Dp K H v d
  | _, _, _, _, .nil, e => by simp at e
  | _, _, 0, _, .cons h _, e => by
    have e' := Option.some.inj e
    subst e'
    exact ⟨_, rfl, h⟩
  | _, _, i + 1, _, .cons _ t, e => dpAll_get (i := i) t e
def spSame (K : PySem.W.Frag) (m : Nat) : Sp := fun vs H Q _ => ∃ (v u : V) (d : PyData), vs = [v, u] ∧ Dp K H v d ∧ Dp K H u d ∧ dp m d ∧ Q (.bl true) H
/-- what the names of classes and of len, range stand for -/
structure Bts (mg : Str → Option Value) : Prop where
  isinstance : mg "isinstance" = none
  bool : mg "bool" = none
  str : mg "str" = none
  int : mg "int" = none
  list : mg "list" = none
  tuple : mg "tuple" = none
  len : mg "len" = none
  range : mg "range" = none
section
variable {P : Program} {w : World} {K : PySem.W.Frag} {mg : Str → Option Value} {base : Heap}
theorem fn_never {f : Addr} {fd : FuncData} {ps : List Str} : FnOk P w K mg base CX0 0 f fd ps (fun _ _ _ _ => False) :=
  ⟨fun _ _ _ _ h => h.elim, fun _ _ _ _ _ _ _ _ _ _ _ _ _ h => h.elim⟩
theorem scS : FnScope ["actual", "due", "k"] ["actual", "due"] (defScope sSame) := ⟨rfl, rfl, rfl, by decide +kernel, rfl, by decide +kernel, by decide +kernel⟩
theorem ok_same {f : Addr} {fd : FuncData} (F : Fun K "_law_same" "_law_same" sSame f fd) (B : Bts mg) (mS : mg "_law_same" = some (.ref f)) (bS : Binds K fd ["actual", "due"] []) : ∀ m : Nat, FnOk P w K mg base CX0 m f fd ["actual", "due"] (spSame K m)
  | 0 => fn_never.imp fun vs H Q E h => by
    obtain ⟨v, u, d, _, _, _, h, _⟩ := h
    simp [dp] at h
  | m + 1 => by
    have IH := ok_same F B mS bS m
    refine F.ok scS (fun vs H Q E h => ?_) (fun cdv A outer s H vs Q E hr h => ?_)
    · obtain ⟨v, u, d, rfl, _⟩ := h
      rfl
    · obtain ⟨v, u, d, rfl, hv, hu, hd, kk⟩ := h
      refine ⟨_,
        pss_cons (ps_if (pt_cmpR op_isN (pv 1) pe_non (nomark _)) (pss_one (ps_ret (pe_cmp (pc_isN (pv 0)) rfl))) pss_nil)
        (pss_cons (ps_if (PW.pt (pw_or (pt_val (pe_callB call_isi (by rfl) B.isinstance (by decide +kernel) (pa_cons (pv 1) (pa_cons (pe_bltn (v := .ty "bool") (by rfl) B.bool (by decide +kernel) rfl) pa_nil))))
              (pw_or1 (pt_val (pe_callB call_isi (by rfl) B.isinstance (by decide +kernel) (pa_cons (pv 1) (pa_cons (pe_bltn (v := .ty "str") (by rfl) B.str (by decide +kernel) rfl) pa_nil)))))))
            (pss_cons (ps_if (PW.pt (pw_or
                (pt_cmpR op_ne (pe_callB call_isi (by rfl) B.isinstance (by decide +kernel) (pa_cons (pv 0) (pa_cons (pe_bltn (v := .ty "bool") (by rfl) B.bool (by decide +kernel) rfl) pa_nil)))
                  (pe_callB call_isi (by rfl) B.isinstance (by decide +kernel) (pa_cons (pv 1) (pa_cons (pe_bltn (v := .ty "bool") (by rfl) B.bool (by decide +kernel) rfl) pa_nil))) (nomark _))
                (pw_or1 (pt_cmpR op_ne (pe_callB call_isi (by rfl) B.isinstance (by decide +kernel) (pa_cons (pv 0) (pa_cons (pe_bltn (v := .ty "str") (by rfl) B.str (by decide +kernel) rfl) pa_nil)))
                  (pe_callB call_isi (by rfl) B.isinstance (by decide +kernel) (pa_cons (pv 1) (pa_cons (pe_bltn (v := .ty "str") (by rfl) B.str (by decide +kernel) rfl) pa_nil))) (nomark _)))))
                (pss_one (ps_ret pe_bl)) pss_nil)
              (pss_one (ps_ret (pe_cmpR op_eq (pv 0) (pv 1) (nomark _)))))
            pss_nil)
        (pss_cons (ps_if (pt_val (pe_callB call_isi (by rfl) B.isinstance (by decide +kernel) (pa_cons (pv 1) (pa_cons (pe_bltn (v := .ty "int") (by rfl) B.int (by decide +kernel) rfl) pa_nil))))
            (pss_one (ps_ret (pe_and (pe_callB call_isi (by rfl) B.isinstance (by decide +kernel) (pa_cons (pv 0) (pa_cons (pe_bltn (v := .ty "int") (by rfl) B.int (by decide +kernel) rfl) pa_nil)))
              (pe_and (pe_not (pe_callB call_isi (by rfl) B.isinstance (by decide +kernel) (pa_cons (pv 0) (pa_cons (pe_bltn (v := .ty "bool") (by rfl) B.bool (by decide +kernel) rfl) pa_nil))))
                (pe_one (pe_cmpR op_eq (pv 0) (pv 1) (nomark _)))))))
            pss_nil)
        (pss_cons (ps_if (PW.pt (pw_and (pt_val (pe_callB call_isi (by rfl) B.isinstance (by decide +kernel) (pa_cons (pv 1) (pa_cons (pe_bltn (v := .ty "list") (by rfl) B.list (by decide +kernel) rfl) pa_nil))))
              (pw_and1 (pt_not (pt_val (pe_callB call_isi (by rfl) B.isinstance (by decide +kernel) (pa_cons (pv 0) (pa_cons (pe_bltn (v := .ty "list") (by rfl) B.list (by decide +kernel) rfl) pa_nil))))))))
            (pss_one (ps_ret pe_bl)) pss_nil)
        (pss_cons (ps_if (PW.pt (pw_and (pt_val (pe_callB call_isi (by rfl) B.isinstance (by decide +kernel) (pa_cons (pv 1) (pa_cons (pe_bltn (v := .ty "tuple") (by rfl) B.tuple (by decide +kernel) rfl) pa_nil))))
              (pw_and1 (pt_not (pt_val (pe_callB call_isi (by rfl) B.isinstance (by decide +kernel) (pa_cons (pv 0) (pa_cons (pe_bltn (v := .ty "tuple") (by rfl) B.tuple (by decide +kernel) rfl) pa_nil))))))))
            (pss_one (ps_ret pe_bl)) pss_nil)
        (pss_cons (ps_if (pt_cmpR op_ne (pe_callB call_len_seq (by rfl) B.len PySem.boot_len (pa_cons (pv 0) pa_nil)) (pe_callB call_len_seq (by rfl) B.len PySem.boot_len (pa_cons (pv 1) pa_nil)) (nomark _)) (pss_one (ps_ret pe_bl)) pss_nil)
        (pss_cons (ps_for PassesOwn.never rfl (pi_range1 rfl B.range (pa_cons (pe_callB call_len_seq (by rfl) B.len PySem.boot_len (pa_cons (pv 1) pa_nil)) pa_nil)) (pg_name (i := 2) scS.nd rfl (.inl rfl))
            (pss_one (ps_if (pt_not (pt_val (pe_call IH hr (by rfl) mS F.kp bS .nil pass0 (pa_cons (pe_ix ix_seq (pv 0) (pv 2) (fun _ _ => rfl)) (pa_cons (pe_ix ix_seq (pv 1) (pv 2) (fun _ _ => rfl)) pa_nil))))) (pss_one (ps_ret pe_bl)) pss_nil)))
        (pss_one (ps_ret pe_bl)))))))), ?_⟩
      cases d with
      | none =>
        cases hu; cases hv
        exact ⟨_, rfl, rfl, _, rfl, iteT ⟨_, rfl, kk⟩⟩
      | bool b =>
        cases hu; cases hv
        refine ⟨_, rfl, rfl, _, rfl, iteF ?_⟩
        refine ⟨_, rfl, _, _, _, _, true, rfl, .ty _, TyX.base (TyOf.bl b), kit_ty (by decide +kernel), _, rfl, iteT (iteT ?_)⟩
        refine ⟨_, rfl, _, _, _, _, true, rfl, .ty _, TyX.base (TyOf.bl b), kit_ty (by decide +kernel), _, rfl, _, _, _, _, true, rfl, .ty _, TyX.base (TyOf.bl b), kit_ty (by decide +kernel), rfl, _, rfl, ?_⟩
        refine iteF ⟨_, rfl, _, _, _, _, false, rfl, .ty _, TyX.base (TyOf.bl b), kit_ty (by decide +kernel), _, rfl, _, _, _, _, false, rfl, .ty _, TyX.base (TyOf.bl b), kit_ty (by decide +kernel), rfl, _, rfl, ?_⟩
        refine iteF ⟨_, rfl, _, rfl, rfl, ?_⟩
        rw [decide_eq_true rfl]
        exact kk
      | str x =>
        cases hu; cases hv
        refine ⟨_, rfl, rfl, _, rfl, iteF ?_⟩
        refine ⟨_, rfl, _, _, _, _, false, rfl, .ty _, TyX.base (TyOf.str x), kit_ty (by decide +kernel), _, rfl, iteF ?_⟩
        refine ⟨_, rfl, _, _, _, _, true, rfl, .ty _, TyX.base (TyOf.str x), kit_ty (by decide +kernel), _, rfl, iteT ?_⟩
        refine ⟨_, rfl, _, _, _, _, false, rfl, .ty _, TyX.base (TyOf.str x), kit_ty (by decide +kernel), _, rfl, _, _, _, _, false, rfl, .ty _, TyX.base (TyOf.str x), kit_ty (by decide +kernel), rfl, _, rfl, ?_⟩
        refine iteF ⟨_, rfl, _, _, _, _, true, rfl, .ty _, TyX.base (TyOf.str x), kit_ty (by decide +kernel), _, rfl, _, _, _, _, true, rfl, .ty _, TyX.base (TyOf.str x), kit_ty (by decide +kernel), rfl, _, rfl, ?_⟩
        refine iteF ⟨_, rfl, _, rfl, rfl, ?_⟩
        rw [decide_eq_true rfl]
        exact kk
      | int i =>
        cases hu; cases hv
        refine ⟨_, rfl, rfl, _, rfl, iteF ?_⟩
        refine ⟨_, rfl, _, _, _, _, false, rfl, .ty _, TyX.base (TyOf.int i), kit_ty (by decide +kernel), _, rfl, iteF ?_⟩
        refine ⟨_, rfl, _, _, _, _, false, rfl, .ty _, TyX.base (TyOf.int i), kit_ty (by decide +kernel), _, rfl, iteF ?_⟩
        refine ⟨_, rfl, _, _, _, _, true, rfl, .ty _, TyX.base (TyOf.int i), kit_ty (by decide +kernel), _, rfl, iteT ?_⟩
        refine ⟨_, rfl, _, _, _, _, true, rfl, .ty _, TyX.base (TyOf.int i), kit_ty (by decide +kernel), _, rfl, iteT ?_⟩
        refine ⟨_, rfl, _, _, _, _, false, rfl, .ty _, TyX.base (TyOf.int i), kit_ty (by decide +kernel), _, rfl, _, rfl, iteT ?_⟩
        refine ⟨_, rfl, _, rfl, rfl, ?_⟩
        rw [decide_eq_true rfl]
        exact kk
      | list ds =>
        obtain ⟨a2, xs2, rfl, hs2, ha2⟩ : ∃ a xs, u = .ref a ∧ SqL K H a xs ∧ DpAll K H xs ds := by
          cases hu with
          | lst h1 h2 => exact ⟨_, _, rfl, h1, h2⟩
        obtain ⟨a1, xs1, rfl, hs1, ha1⟩ : ∃ a xs, v = .ref a ∧ SqL K H a xs ∧ DpAll K H xs ds := by
          cases hv with
          | lst h1 h2 => exact ⟨_, _, rfl, h1, h2⟩
        have tyU : TyX K H (.ref a2) (.type "list") := ty_of (.lst hs2 ha2)
        have tyV : TyX K H (.ref a1) (.type "list") := ty_of (.lst hs1 ha1)
        have e1 := dpAll_len ha1
        have e2 := dpAll_len ha2
        refine ⟨_, rfl, rfl, _, rfl, iteF ?_⟩
        refine ⟨_, rfl, _, _, _, _, false, rfl, .ty _, tyU, kit_ty (by decide +kernel), _, rfl, iteF ?_⟩
        refine ⟨_, rfl, _, _, _, _, false, rfl, .ty _, tyU, kit_ty (by decide +kernel), _, rfl, iteF ?_⟩
        refine ⟨_, rfl, _, _, _, _, false, rfl, .ty _, tyU, kit_ty (by decide +kernel), _, rfl, iteF ?_⟩
        refine ⟨_, rfl, _, _, _, _, true, rfl, .ty _, tyU, kit_ty (by decide +kernel), _, rfl, iteT ?_⟩
        refine ⟨_, rfl, _, _, _, _, true, rfl, .ty _, tyV, kit_ty (by decide +kernel), _, rfl, iteF ?_⟩
        refine ⟨_, rfl, _, _, _, _, false, rfl, .ty _, tyU, kit_ty (by decide +kernel), _, rfl, iteF (iteF ?_)⟩
        refine ⟨_, rfl, a1, xs1, rfl, .inl hs1, _, rfl, a2, xs2, rfl, .inl hs2, rfl, _, rfl, iteNS (by rw [e1, e2]) ?_⟩
        simp only [dp] at hd
        have hz2 : (xs2.length : Int) < 2 ^ 62 := by have := hd.1; omega
        refine ⟨_, rfl, a2, xs2, rfl, .inl hs2, _, rfl, (by omega), hz2, ?_⟩
        refine for_range (lo := 0) (n := (xs2.length : Int).toNat) (fun i σ H2 => ∃ y, σ = [some (.ref a1), some (.ref a2), y] ∧ H2 = H) ⟨none, rfl, rfl⟩ ?_ ?_
        · rintro i σ H2 hi ⟨y, rfl, rfl⟩
          have hi2 : i < ds.length := by omega
          obtain ⟨x1, g1, d1⟩ := dpAll_get ha1 (List.getElem?_eq_getElem hi2)
          obtain ⟨x2, g2, d2⟩ := dpAll_get ha2 (List.getElem?_eq_getElem hi2)
          have ei : (0 : Int) + (i : Int) = ((i : Nat) : Int) := by omega
          rw [ei]
          refine ⟨_, rfl, _, rfl, .inl ⟨_, _, _, _, rfl, rfl, hs1, atI_nat g1, _, rfl, _, rfl, .inl ⟨_, _, _, _, rfl, rfl, hs2, atI_nat g2, ?_⟩⟩⟩
          refine ⟨x1, x2, _, rfl, d1, d2, hd.2 _ (List.getElem_mem hi2), _, rfl, iteF ?_⟩
          exact ⟨_, rfl, rfl⟩
        · rintro σ H2 ⟨y, rfl, rfl⟩
          exact kk
      | tuple ds =>
        obtain ⟨a2, xs2, rfl, hs2, ha2⟩ : ∃ a xs, u = .ref a ∧ SqT K H a xs ∧ DpAll K H xs ds := by
          cases hu with
          | tup h1 h2 => exact ⟨_, _, rfl, h1, h2⟩
        obtain ⟨a1, xs1, rfl, hs1, ha1⟩ : ∃ a xs, v = .ref a ∧ SqT K H a xs ∧ DpAll K H xs ds := by
          cases hv with
          | tup h1 h2 => exact ⟨_, _, rfl, h1, h2⟩
        have tyU : TyX K H (.ref a2) (.type "tuple") := ty_of (.tup hs2 ha2)
        have tyV : TyX K H (.ref a1) (.type "tuple") := ty_of (.tup hs1 ha1)
        have e1 := dpAll_len ha1
        have e2 := dpAll_len ha2
        refine ⟨_, rfl, rfl, _, rfl, iteF ?_⟩
        refine ⟨_, rfl, _, _, _, _, false, rfl, .ty _, tyU, kit_ty (by decide +kernel), _, rfl, iteF ?_⟩
        refine ⟨_, rfl, _, _, _, _, false, rfl, .ty _, tyU, kit_ty (by decide +kernel), _, rfl, iteF ?_⟩
        refine ⟨_, rfl, _, _, _, _, false, rfl, .ty _, tyU, kit_ty (by decide +kernel), _, rfl, iteF ?_⟩
        refine ⟨_, rfl, _, _, _, _, false, rfl, .ty _, tyU, kit_ty (by decide +kernel), _, rfl, iteF (iteF ?_)⟩
        refine ⟨_, rfl, _, _, _, _, true, rfl, .ty _, tyU, kit_ty (by decide +kernel), _, rfl, iteT ?_⟩
        refine ⟨_, rfl, _, _, _, _, true, rfl, .ty _, tyV, kit_ty (by decide +kernel), _, rfl, iteF ?_⟩
        refine ⟨_, rfl, a1, xs1, rfl, .inr hs1, _, rfl, a2, xs2, rfl, .inr hs2, rfl, _, rfl, iteNS (by rw [e1, e2]) ?_⟩
        simp only [dp] at hd
        have hz2 : (xs2.length : Int) < 2 ^ 62 := by have := hd.1; omega
        refine ⟨_, rfl, a2, xs2, rfl, .inr hs2, _, rfl, (by omega), hz2, ?_⟩
        refine for_range (lo := 0) (n := (xs2.length : Int).toNat) (fun i σ H2 => ∃ y, σ = [some (.ref a1), some (.ref a2), y] ∧ H2 = H) ⟨none, rfl, rfl⟩ ?_ ?_
        · rintro i σ H2 hi ⟨y, rfl, rfl⟩
          have hi2 : i < ds.length := by omega
          obtain ⟨x1, g1, d1⟩ := dpAll_get ha1 (List.getElem?_eq_getElem hi2)
          obtain ⟨x2, g2, d2⟩ := dpAll_get ha2 (List.getElem?_eq_getElem hi2)
          have ei : (0 : Int) + (i : Int) = ((i : Nat) : Int) := by omega
          rw [ei]
          refine ⟨_, rfl, _, rfl, .inr (.inl ⟨_, _, _, _, rfl, rfl, hs1, atI_nat g1, _, rfl, _, rfl, .inr (.inl ⟨_, _, _, _, rfl, rfl, hs2, atI_nat g2, ?_⟩)⟩)⟩
          refine ⟨x1, x2, _, rfl, d1, d2, hd.2 _ (List.getElem_mem hi2), _, rfl, iteF ?_⟩
          exact ⟨_, rfl, rfl⟩
        · rintro σ H2 ⟨y, rfl, rfl⟩
          exact kk
      | dict ds => simp [dp] at hd
end
/-! ### data in the heap, and displays of data -/
theorem Same.seqT {K : PySem.W.Frag} {H H' : Hp} {a : Addr} {xs : List V} (e : Same H H') (h : SqT K H a xs) : SqT K H' a xs := by
  rcases h with h1 | h3
  · rcases h1 with h1 | h2
    · exact .inl (.inl (e _ _ h1))
    · obtain ⟨o, h2⟩ := h2
      exact .inl (.inr ⟨o, e _ _ h2⟩)
  · exact .inr h3
mutual
theorem dp_same {K : PySem.W.Frag} {H H' : Hp} (s : Same H H') : ∀ (d : PyData) (v : V), Dp K H v d → Dp K H' v d
  | .none, _, h => by cases h; exact .non
  | .bool b, _, h => by cases h; exact .bl b
  | .int i, _, h => by cases h; exact .int i
  | .str x, _, h => by cases h; exact .str x
  | .list ds, _, h => by
    cases h with
    | lst h1 h2 => exact .lst (s.seq h1) (dpAll_same s ds _ h2)
  | .tuple ds, _, h => by
    cases h with
    | tup h1 h2 => exact .tup (Same.seqT s h1) (dpAll_same s ds _ h2)
  | .dict kvs, _, h => by cases h
theorem dpAll_same {K : PySem.W.Frag} {H H' : Hp} (s : Same H H') : ∀ (ds : List PyData) (vs : List V), DpAll K H vs ds → DpAll K H' vs ds
  | [], _, h => by cases h; exact .nil
  | d :: ds, _, h => by
    cases h with
    | cons h1 h2 => exact .cons (dp_same s d _ h1) (dpAll_same s ds _ h2)
end
theorem same_new {H : Hp} {p : Addr} {o : HO} (n : H p = none) : Same H (upd H p o) := fun b x e => by
  rw [upd_ne (ne_of_none e n)]; exact e
/-- the heap without some objects -/
def mask (l : List Addr) (H : Hp) : Hp := fun a => if a ∈ l then none else H a
theorem mask_in {l : List Addr} {H : Hp} {a : Addr} (h : a ∈ l) : mask l H a = none := if_pos h
theorem mask_out {l : List Addr} {H : Hp} {a : Addr} (h : a ∉ l) : mask l H a = H a := if_neg h
theorem mask_sub (l : List Addr) (H : Hp) : Same (mask l H) H := fun a o e => by
  by_cases h : a ∈ l
  · rw [mask_in h] at e; cases e
  · rw [mask_out h] at e; exact e
theorem mask_same {l : List Addr} {H H' : Hp} (s : Same H H') : Same (mask l H) (mask l H') := fun a o e => by
  by_cases h : a ∈ l
  · rw [mask_in h] at e; cases e
  · rw [mask_out h] at e ⊢; exact s a o e
theorem mask_nil (H : Hp) : mask [] H = H := rfl
/-- what stands in H is there -/
abbrev Alive (l : List Addr) (H : Hp) : Prop := ∀ a ∈ l, ∃ o, H a = some o
theorem Alive.same {l : List Addr} {H H' : Hp} (h : Alive l H) (s : Same H H') : Alive l H' := fun a m => let ⟨o, e⟩ := h a m; ⟨o, s a o e⟩
theorem Alive.not {l : List Addr} {H : Hp} {p : Addr} (h : Alive l H) (n : H p = none) : p ∉ l := fun m => by
  obtain ⟨o, e⟩ := h p m
  rw [n] at e; cases e
theorem alive_nil {H : Hp} : Alive [] H := fun _ m => nomatch m
theorem mask_upd {l : List Addr} {H : Hp} {p : Addr} {o : HO} (h : p ∉ l) : mask l (upd H p o) p = some o := by
  rw [mask_out h, upd_same]
theorem Keeps.mask {p q : Addr} {H H' : Hp} (k : Keeps p q H H') : Same (mask [p, q] H) (mask [p, q] H') := fun a o e => by
  by_cases h : a ∈ [p, q]
  · rw [mask_in h] at e; cases e
  · rw [mask_out h] at e ⊢
    refine k a o (fun z => h ?_) (fun z => h ?_) e
    · rw [z]; exact List.mem_cons_self
    · rw [z]; exact List.mem_cons_of_mem _ List.mem_cons_self
theorem PoolAt.alive {H : Hp} {p q : Addr} {n : Nat} (h : PoolAt H p q n) : Alive [p, q] H := fun a m => by
  rcases List.mem_cons.mp m with rfl | m
  · exact h.p_some
  · rw [List.mem_singleton.mp m]; exact h.q_some
/-- which data an expression gives; it stays so when objects are added -/
abbrev DS := St → Hp → PyData → Prop
abbrev DSs := St → Hp → List PyData → Prop
def tDat (K : PySem.W.Frag) (D : DS) : TE := fun σ H Q => ∃ (l : List Addr) (d : PyData), Alive l H ∧ D σ (mask l H) d ∧ ∀ v H', Same H H' → Dp K (mask l H') v d → Q v H'
def tDats (K : PySem.W.Frag) (D : DSs) : TA := fun σ H Q => ∃ (l : List Addr) (ds : List PyData), Alive l H ∧ D σ (mask l H) ds ∧ ∀ vs H', Same H H' → DpAll K (mask l H') vs ds → Q vs H'
structure DE (X : Cx) (e : Expr) (D : DS) : Prop where
  pe : PE X e (tDat X.K D)
  mono : ∀ σ H H' d, Same H H' → D σ H d → D σ H' d
structure DA (X : Cx) (es : List Expr) (D : DSs) : Prop where
  pa : PA X es (tDats X.K D)
  mono : ∀ σ H H' ds, Same H H' → D σ H ds → D σ H' ds
def dNil : DSs := fun _ _ ds => ds = []
def dCons (D : DS) (Ds : DSs) : DSs := fun σ H ds => ∃ d r, ds = d :: r ∧ D σ H d ∧ Ds σ H r
def dTup (Ds : DSs) : DS := fun σ H d => ∃ ds, d = .tuple ds ∧ ds.length ≤ 1000 ∧ Ds σ H ds
def dLst (Ds : DSs) : DS := fun σ H d => ∃ ds, d = .list ds ∧ ds.length ≤ 1000 ∧ Ds σ H ds
def dVar (K : PySem.W.Frag) (i : Nat) : DS := fun σ H d => ∃ v, σ[i]? = some (some v) ∧ Dp K H v d
def dIs (d0 : PyData) : DS := fun _ _ d => d = d0
section
variable {X : Cx} {e : Expr} {es : List Expr} {t : TE} {D : DS} {Ds : DSs} {pos : Pos}
theorem de_of (h : PE X e t) (w : ∀ σ H Q, tDat X.K D σ H Q → t σ H Q) (m : ∀ σ H H' d, Same H H' → D σ H d → D σ H' d) : DE X e D :=
  ⟨⟨fun pins s σ H Q I q => h.run pins s σ H Q I (w σ H Q q)⟩, m⟩
theorem de_str {x : Str} {j} : DE X (.Constant (.str x) j pos) (dIs (.str x)) :=
  de_of pe_str (fun _ H _ ⟨_, _, _, e, q⟩ => by cases e; exact q _ H (Same.refl H) (.str x)) fun _ _ _ _ _ h => h
theorem de_int {i : Int} {j} : DE X (.Constant (.int i) j pos) (dIs (.int i)) :=
  de_of pe_int (fun _ H _ ⟨_, _, _, e, q⟩ => by cases e; exact q _ H (Same.refl H) (.int i)) fun _ _ _ _ _ h => h
theorem de_bl {b : Bool} {j} : DE X (.Constant (.bool b) j pos) (dIs (.bool b)) :=
  de_of pe_bl (fun _ H _ ⟨_, _, _, e, q⟩ => by cases e; exact q _ H (Same.refl H) (.bl b)) fun _ _ _ _ _ h => h
theorem de_non {j} : DE X (.Constant .none j pos) (dIs .none) :=
  de_of pe_non (fun _ H _ ⟨_, _, _, e, q⟩ => by cases e; exact q _ H (Same.refl H) .non) fun _ _ _ _ _ h => h
theorem dv (i : Nat) {x : Str} (h : PE X (.Name x pos) (tVar i)) : DE X (.Name x pos) (dVar X.K i) :=
  de_of h (fun _ H _ ⟨_, _, _, ⟨v, e, hd⟩, q⟩ => ⟨v, e, q v H (Same.refl H) hd⟩) fun _ _ _ d s ⟨v, e, hd⟩ => ⟨v, e, dp_same s d v hd⟩
theorem da_nil : DA X [] dNil :=
  ⟨⟨fun pos pins s σ H Q I h => by
    obtain ⟨l, ds, _, e, q⟩ := h
    cases e
    exact pa_nil.run pos pins s σ H Q I (q [] H (Same.refl H) .nil)⟩, fun _ _ _ _ _ h => h⟩
theorem da_cons (h : DE X e D) (r : DA X es Ds) (hs : starEach (e :: es) X.env = (false, eval e X.env) :: starEach es X.env := by rfl) : DA X (e :: es) (dCons D Ds) :=
  ⟨⟨fun pos pins s σ H Q I hq => by
    obtain ⟨l, _, al, ⟨d, ds, rfl, h1, h2⟩, q⟩ := hq
    refine (pa_cons h.pe r.pa hs).run pos pins s σ H Q I ⟨l, d, al, h1, fun v H1 s1 hv => ⟨l, ds, al.same s1, r.mono _ _ _ _ (mask_same s1) h2, fun vs H2 s2 hvs => ?_⟩⟩
    exact q _ H2 (s1.trans s2) (.cons (dp_same (mask_same s2) d v hv) hvs)⟩,
   fun σ H H' ds s ⟨d, r', e, h1, h2⟩ => ⟨d, r', e, h.mono _ _ _ _ s h1, r.mono _ _ _ _ s h2⟩⟩
theorem len1000 {n : Nat} (h : n ≤ 1000) : n ≤ sizeLine := Nat.le_of_lt (small1000 h)
theorem de_tup {k} (h : DA X es Ds) : DE X (.Tuple es k pos) (dTup Ds) :=
  ⟨⟨fun pins s σ H Q I hq => by
    obtain ⟨l, _, al, ⟨ds, rfl, hl, h1⟩, q⟩ := hq
    refine (pe_tup h.pa).run pins s σ H Q I ⟨l, ds, al, h1, fun vs H1 s1 hv => ⟨by rw [dpAll_len hv]; exact len1000 hl, fun p np => ?_⟩⟩
    exact q _ _ (s1.trans (same_new np)) (.tup (SqT.of (mask_upd ((al.same s1).not np))) (dpAll_same (mask_same (same_new np)) _ _ hv))⟩,
   fun σ H H' d s ⟨ds, e, hl, h1⟩ => ⟨ds, e, hl, h.mono _ _ _ _ s h1⟩⟩
theorem de_lst (h : DA X es Ds) : DE X (.List es pos) (dLst Ds) :=
  ⟨⟨fun pins s σ H Q I hq => by
    obtain ⟨l, _, al, ⟨ds, rfl, hl, h1⟩, q⟩ := hq
    refine (pe_lst h.pa).run pins s σ H Q I ⟨l, ds, al, h1, fun vs H1 s1 hv => ⟨by rw [dpAll_len hv]; exact len1000 hl, fun p np => ?_⟩⟩
    exact q _ _ (s1.trans (same_new np)) (.lst (SqL.of (mask_upd ((al.same s1).not np))) (dpAll_same (mask_same (same_new np)) _ _ hv))⟩,
   fun σ H H' d s ⟨ds, e, hl, h1⟩ => ⟨ds, e, hl, h.mono _ _ _ _ s h1⟩⟩
end
theorem mask_new {l : List Addr} {H : Hp} {D : Addr} (n : H D = none) : Same (mask l H) (mask (D :: l) H) := fun a o e => by
  by_cases h : a ∈ D :: l
  · rcases List.mem_cons.mp h with rfl | h
    · have := mask_sub l H _ _ e
      rw [n] at this; cases this
    · rw [mask_in h] at e; cases e
  · rw [mask_out h]
    exact mask_sub l H _ _ e
theorem mask_less {l : List Addr} {H : Hp} {D : Addr} : Same (mask (D :: l) H) (mask l H) := fun a o e => by
  by_cases h : a ∈ D :: l
  · rw [mask_in h] at e; cases e
  · rw [mask_out h] at e
    rw [mask_out fun z => h (List.mem_cons_of_mem _ z)]
    exact e
theorem mask_at {l : List Addr} {H : Hp} {D : Addr} {o : HO} (m : D ∈ l) : Same (mask l H) (mask l (upd H D o)) := fun a u e => by
  by_cases h : a ∈ l
  · rw [mask_in h] at e; cases e
  · rw [mask_out h] at e ⊢
    rw [upd_ne fun z => h (by rw [z]; exact m)]
    exact e
theorem dpAll_app {K : PySem.W.Frag} {H : Hp} : ∀ {vs ws : List V} {ds es : List PyData}, DpAll K H vs ds → DpAll K H ws es → DpAll K H (vs ++ ws) (ds ++ es)
  | _, _, _, _, .nil, h => h
  | _, _, _, _, .cons h t, r => .cons h (dpAll_app t r)
theorem dpAll_drop {K : PySem.W.Frag} {H : Hp} : ∀ (n : Nat) {vs : List V} {ds : List PyData}, DpAll K H vs ds → DpAll K H (vs.drop n) (ds.drop n)
  | 0, _, _, h => h
  | n + 1, _, _, .nil => .nil
  | n + 1, _, _, .cons _ t => dpAll_drop n t
theorem dpAll_take {K : PySem.W.Frag} {H : Hp} : ∀ (n : Nat) {vs : List V} {ds : List PyData}, DpAll K H vs ds → DpAll K H (vs.take n) (ds.take n)
  | 0, _, _, _ => .nil
  | n + 1, _, _, .nil => .nil
  | n + 1, _, _, .cons h t => .cons h (dpAll_take n t)
theorem dpAll_at {K : PySem.W.Frag} {H : Hp} : ∀ {vs : List V} {ds : List PyData} {i : Nat} {v : V}, DpAll K H vs ds → vs[i]? = some v → ∃ d, ds[i]? = some d ∧ Dp K H v d
  | _, _, _, _, .nil, e => by simp at e
  | _, _, 0, _, .cons h _, e => by
    obtain rfl := Option.some.inj e
    exact ⟨_, rfl, h⟩
  | _, _, i + 1, _, .cons _ t, e => dpAll_at (i := i) t e
theorem dp_tup {K : PySem.W.Frag} {H : Hp} {v : V} {ds : List PyData} (h : Dp K H v (.tuple ds)) : ∃ a xs, v = .ref a ∧ SqT K H a xs ∧ DpAll K H xs ds := by
  cases h with
  | tup h1 h2 => exact ⟨_, _, rfl, h1, h2⟩
theorem dp_lst {K : PySem.W.Frag} {H : Hp} {v : V} {ds : List PyData} (h : Dp K H v (.list ds)) : ∃ a xs, v = .ref a ∧ SqL K H a xs ∧ DpAll K H xs ds := by
  cases h with
  | lst h1 h2 => exact ⟨_, _, rfl, h1, h2⟩
theorem dpAll_cons {K : PySem.W.Frag} {H : Hp} {vs : List V} {d : PyData} {ds : List PyData} (h : DpAll K H vs (d :: ds)) : ∃ v r, vs = v :: r ∧ Dp K H v d ∧ DpAll K H r ds := by
  cases h with
  | cons h1 h2 => exact ⟨_, _, rfl, h1, h2⟩
theorem dpAll_nil {K : PySem.W.Frag} {H : Hp} {vs : List V} (h : DpAll K H vs []) : vs = [] := by
  cases h; rfl
theorem dp_str {K : PySem.W.Frag} {H : Hp} {v : V} {x : Str} (h : Dp K H v (.str x)) : v = .str x := by
  cases h; rfl
theorem cut_tail {x : V} {r : List V} : cutV (x :: r) (some 1) none = r := by
  unfold cutV
  rw [show HT.sIx (x :: r).length 0 (some 1) = min 1 (x :: r).length from HT.sIx_nat _ 0 1, HT.sIx_none, List.length_cons, Nat.min_eq_left (by omega)]
  show List.take (r.length + 1 - 1) r = r
  rw [Nat.add_sub_cancel, List.take_length]
theorem cut_drop (xs : List V) (k : Nat) : cutV xs (some (k : Int)) none = xs.drop k := by
  unfold cutV
  rw [HT.sIx_nat, HT.sIx_none]
  by_cases h : k ≤ xs.length
  · rw [Nat.min_eq_left h]
    exact List.take_of_length_le (by rw [List.length_drop]; omega)
  · rw [Nat.min_eq_right (by omega), List.drop_of_length_le (Nat.le_refl _), List.drop_of_length_le (by omega)]; simp
theorem Keeps.maskL {p q : Addr} {l : List Addr} {H H' : Hp} (hp : p ∈ l) (hq : q ∈ l) (k : Keeps p q H H') : Same (Qp.mask l H) (Qp.mask l H') := fun a o e => by
  by_cases h : a ∈ l
  · rw [mask_in h] at e; cases e
  · rw [mask_out h] at e ⊢
    exact k a o (fun z => h (by rw [z]; exact hp)) (fun z => h (by rw [z]; exact hq)) e
theorem Keeps.alive {p q : Addr} {n : Nat} {l : List Addr} {H H' : Hp} (al : Alive l H) (k : Keeps p q H H') (P : PoolAt H' p q n) : Alive l H' := fun a m => by
  obtain ⟨o, e⟩ := al a m
  by_cases h1 : a = p
  · rw [h1]; exact P.p_some
  · by_cases h2 : a = q
    · rw [h2]; exact P.q_some
    · exact ⟨o, k a o h1 h2 e⟩
/-! ### names -/
theorem low_ok : ∀ c, 97 ≤ c → c ≤ 122 → Unicode.isAlpha c = true ∧ Unicode.isLower c = true ∧ Unicode.isUpper c = false ∧ Unicode.isTitle c = false := by
  have h : ∀ k : Fin 26, Unicode.isAlpha (97 + k.val) = true ∧ Unicode.isLower (97 + k.val) = true ∧ Unicode.isUpper (97 + k.val) = false ∧ Unicode.isTitle (97 + k.val) = false := by decide +kernel
  intro c h1 h2
  have := h ⟨c - 97, by omega⟩
  rw [show 97 + (c - 97) = c by omega] at this
  exact this
/-- what is_name tells of a text -/
def nmS (z : Str) : Bool := !decide (8 < z.length) && (Txt.isascii z && (Txt.isalpha z && Txt.islower z))
def nmD : PyData → Bool
  | .str z => nmS z
  | _ => false
theorem IsWord.nm {z : Str} (h : IsWord z) : nmS z = true := by
  obtain ⟨h1, h2, h3⟩ := h
  have hm : ∀ c, c ∈ z.cps → 97 ≤ c ∧ c ≤ 122 := fun c hc => h3 c (Array.mem_toList_iff.mpr hc)
  have e1 : (!decide (8 < z.length)) = true := by simp; omega
  have e2 : Txt.isascii z = true := by
    unfold Txt.isascii
    rw [Array.all_eq_true_iff_forall_mem]
    intro c hc
    have := hm c hc
    exact decide_eq_true (by omega)
  have e3 : Txt.isalpha z = true := by
    unfold Txt.isalpha
    rw [Bool.and_eq_true]
    refine ⟨decide_eq_true (by omega), ?_⟩
    rw [Array.all_eq_true_iff_forall_mem]
    intro c hc
    exact (low_ok c (hm c hc).1 (hm c hc).2).1
  have e4 : Txt.islower z = true := by
    unfold Txt.islower
    rw [Bool.and_eq_true]
    have hz : 0 < z.cps.size := h1
    refine ⟨?_, ?_⟩
    · rw [← Array.any_toList, List.any_eq_true]
      exact ⟨z.cps[0], Array.mem_toList_iff.mpr (Array.getElem_mem hz), (low_ok _ (hm _ (Array.getElem_mem hz)).1 (hm _ (Array.getElem_mem hz)).2).2.1⟩
    · rw [Bool.not_eq_true', ← Array.any_toList, List.any_eq_false]
      intro c hc
      have hc := Array.mem_toList_iff.mp hc
      have := low_ok c (hm c hc).1 (hm c hc).2
      rw [this.2.2.1, this.2.2.2]
      simp
  unfold nmS
  rw [e1, e2, e3, e4]
  rfl
def spIsName (K : PySem.W.Frag) : Sp := fun vs H Q _ => ∃ (v : V) (d : PyData), vs = [v] ∧ Dp K H v d ∧ (∀ z, d = .str z → z.length ≤ 1000) ∧ Q (.bl (nmD d)) H
/-- never reached -/
theorem ps_never {X : Cx} {st : Stmt} : PS X st (fun _ _ _ => False) := ⟨fun _ _ _ _ _ _ h => h.elim⟩
section
variable {P : Program} {w : World} {K : PySem.W.Frag} {mg : Str → Option Value} {base : Heap}
theorem scIN : FnScope ["thing"] ["thing"] (defScope sIsName) := ⟨rfl, rfl, rfl, by decide +kernel, rfl, by decide +kernel, by decide +kernel⟩
theorem ok_isname {f : Addr} {fd : FuncData} {k : Nat} {tk : Tok} (F : Fun K "is_name" "is_name" sIsName f fd) (B : Bts mg) (mL : mg "LONGEST_NAME" = some (.int 8 tk)) : FnOk P w K mg base CX0 (k + 1) f fd ["thing"] (spIsName K) := by
  refine F.ok scIN (fun vs H Q E h => ?_) (fun cdv A outer s H vs Q E hr h => ?_)
  · obtain ⟨v, d, rfl, _⟩ := h
    rfl
  · obtain ⟨v, d, rfl, hv, hz, kk⟩ := h
    refine ⟨_, pss_cons (ps_if (PW.pt (pw_or (pt_not (pt_val (pe_callB call_isi (by rfl) B.isinstance (by decide +kernel) (pa_cons (pv 0) (pa_cons (pe_bltn (v := .ty "str") (by rfl) B.str (by decide +kernel) rfl) pa_nil)))))
          (pw_or1 (pt_cmpR op_gt (pe_callB call_len_str (by rfl) B.len PySem.boot_len (pa_cons (pv 0) pa_nil)) (pe_glob (v := .int 8) rfl mL ⟨tk, rfl⟩) (by rfl)))))
        (pss_one (ps_ret pe_bl)) pss_nil)
      (pss_one (ps_ret (pe_and (pe_bm0 PySem.F.plainAttrs_str PySem.F.slot_str_isascii PySem.F.type_str_isascii mt_isascii (pv 0))
        (pe_and (pe_bm0 PySem.F.plainAttrs_str PySem.F.slot_str_isalpha PySem.F.type_str_isalpha mt_isalpha (pv 0))
        (pe_one (pe_bm0 PySem.F.plainAttrs_str PySem.F.slot_str_islower PySem.F.type_str_islower mt_islower (pv 0))))))), ?_⟩
    by_cases hs : ∃ z, d = .str z
    · obtain ⟨z, rfl⟩ := hs
      have hl := hz z rfl
      cases hv
      refine ⟨_, rfl, _, _, _, _, true, rfl, .ty _, TyX.base (TyOf.str z), kit_ty (by decide +kernel), _, rfl, iteF ?_⟩
      refine ⟨_, rfl, z, rfl, len1000 hl, _, _, rfl, rfl, _, rfl, ite2 (fun h => ?_) (fun h => ?_)⟩
      · have h8 : 8 < z.length := by have := of_decide_eq_true h; omega
        have e : nmS z = false := by unfold nmS; rw [decide_eq_true h8]; rfl
        show Q (.bl false) H
        have kk : Q (.bl (nmS z)) H := kk
        rw [e] at kk
        exact kk
      · have h8 : ¬ 8 < z.length := fun q => h (decide_eq_true (by omega))
        have e : nmS z = (Txt.isascii z && (Txt.isalpha z && Txt.islower z)) := by unfold nmS; rw [decide_eq_false h8]; rfl
        have kk : Q (.bl (nmS z)) H := kk
        rw [e] at kk
        refine ⟨_, rfl, rfl, z, rfl, rfl, True.intro, _, rfl, ite2 (fun ha => ?_) (fun ha => ?_)⟩
        · rw [ha, Bool.true_and] at kk
          refine ⟨_, rfl, rfl, z, rfl, rfl, True.intro, _, rfl, ite2 (fun hb => ?_) (fun hb => ?_)⟩
          · rw [hb, Bool.true_and] at kk
            exact ⟨_, rfl, rfl, z, rfl, rfl, True.intro, kk⟩
          · rw [Bool.eq_false_iff.mpr hb, Bool.false_and] at kk
            exact kk
        · rw [Bool.eq_false_iff.mpr ha, Bool.false_and] at kk
          exact kk
    · have e : nmD d = false := by
        cases d with
        | str z => exact absurd ⟨z, rfl⟩ hs
        | _ => rfl
      have kt : kitB (tyName d) "str" = some false := by
        cases d with
        | str z => exact absurd ⟨z, rfl⟩ hs
        | none => exact (by decide +kernel : kitB "NoneType" "str" = some false)
        | bool b => exact (by decide +kernel : kitB "bool" "str" = some false)
        | int i => exact (by decide +kernel : kitB "int" "str" = some false)
        | list l => exact (by decide +kernel : kitB "list" "str" = some false)
        | tuple l => exact (by decide +kernel : kitB "tuple" "str" = some false)
        | dict l => cases hv
      rw [e] at kk
      exact ⟨_, rfl, _, _, _, _, false, rfl, .ty _, ty_of hv, kit_ty kt, _, rfl, iteT (iteT kk)⟩
/-- check_names(t): all are names -/
def spNames0 (K : PySem.W.Frag) : Sp := fun vs H Q _ => ∃ (t : Addr) (xs : List Str), vs = [.ref t] ∧ SqT K H t (xs.map V.str) ∧ (∀ x ∈ xs, IsWord x) ∧ Q .non H
end
/-! ### rows of a program: words and names -/
theorem inV_str {x : Str} {xs : List Str} : inV (.str x) (xs.map V.str) = decide (x ∈ xs) := by
  unfold inV
  by_cases h : x ∈ xs
  · rw [decide_eq_true h, List.any_eq_true]
    exact ⟨.str x, List.mem_map.mpr ⟨x, h, rfl⟩, by show (x == x) = true; simp⟩
  · rw [decide_eq_false h, List.any_eq_false]
    intro v hv
    obtain ⟨y, hy, rfl⟩ := List.mem_map.mp hv
    intro q
    have q' : y = x := beq_iff_eq.mp q
    exact h (q' ▸ hy)
theorem flat_strs (xs : List Str) : (xs.map V.str).all flatV = true := by
  rw [List.all_eq_true]
  intro v hv
  obtain ⟨y, _, rfl⟩ := List.mem_map.mp hv
  rfl
theorem ntup {K : PySem.W.Frag} {H : Hp} {v : V} {ds : List PyData} (h : Dp K H v (.tuple ds)) : ∃ t ys, v = .ref t ∧ SqT K H t ys ∧ DpAll K H ys ds := by
  cases h with
  | tup h1 h2 => exact ⟨_, _, rfl, h1, h2⟩
theorem nuncons {K : PySem.W.Frag} {H : Hp} {ys : List V} {d : PyData} {ds : List PyData} (h : DpAll K H ys (d :: ds)) : ∃ v r, ys = v :: r ∧ Dp K H v d ∧ DpAll K H r ds := by
  cases h with
  | cons h1 h2 => exact ⟨_, _, rfl, h1, h2⟩
theorem nnil {K : PySem.W.Frag} {H : Hp} {ys : List V} (h : DpAll K H ys []) : ys = [] := by cases h; rfl
theorem strs_of {K : PySem.W.Frag} {H : Hp} : ∀ {ys : List V} {xs : List Str}, DpAll K H ys (xs.map .str) → ys = xs.map V.str
  | _, [], h => nnil h
  | _, x :: r, h => by
    obtain ⟨v, r', rfl, h1, h2⟩ := nuncons h
    cases h1
    rw [strs_of h2]; rfl
theorem strs_dp {K : PySem.W.Frag} {H : Hp} : ∀ xs : List Str, DpAll K H (xs.map V.str) (xs.map .str)
  | [] => .nil
  | x :: r => .cons (.str x) (strs_dp r)
/-- a written tuple of words -/
def TupW (K : PySem.W.Frag) (t : Addr) (ws : List Str) : Prop := ∀ H, SqT K H t (ws.map V.str)
/-- is one of these words, with its names behind -/
def spOne (K : PySem.W.Frag) (w : World) (dN : Addr) : Sp := fun vs H Q _ => ∃ (tw : Addr) (ws : List Str) (v : V) (x : Str) (ds : List PyData), vs = [.ref tw, v] ∧ TupW K tw ws ∧ Dp K H v (.tuple (.str x :: ds)) ∧
  (x ∈ ws → ∃ xs : List Str, ds = xs.map .str ∧ (∀ z ∈ xs, IsWord z) ∧ xs.length ≤ 100 ∧ KDct K w dN x (.int (xs.length : Int))) ∧ ∀ H', Same H H' → Q (.bl (decide (x ∈ ws))) H'
section
variable {P : Program} {w : World} {K : PySem.W.Frag} {mg : Str → Option Value} {base : Heap}
theorem scOne : FnScope ["words", "row", "part"] ["words", "row"] (defScope sOne) := ⟨rfl, rfl, rfl, by decide +kernel, rfl, by decide +kernel, by decide +kernel⟩
theorem ok_one {f fN dN : Addr} {fd fdN : FuncData} (F : Fun K "_is_one_of" "_is_one_of" sOne f fd) (B : Bts mg) (mA : mg "all" = none) (mN : mg "NAMES_BEHIND" = some (.ref dN)) (GN : FnOk P w K mg base CX0 1 fN fdN ["thing"] (spIsName K)) (mI : mg "is_name" = some (.ref fN)) (kN : PySem.W.keepIn K (.ref fN) = true) (bN : Binds K fdN ["thing"] []) :
    FnOk P w K mg base CX0 2 f fd ["words", "row"] (spOne K w dN) := by
  refine F.ok scOne (fun vs H Q E h => ?_) (fun cdv A outer s H vs Q E hr h => ?_)
  · obtain ⟨tw, ws, v, x, ds, rfl, _⟩ := h
    rfl
  · obtain ⟨tw, ws, v, x, ds, rfl, hw, hv, hx, kk⟩ := h
    refine ⟨_, pss_cons (ps_if (PW.pt (pw_or (pt_not (pt_val (pe_callB call_isi (by rfl) B.isinstance (by decide +kernel) (pa_cons (pv 1) (pa_cons (pe_bltn (v := .ty "tuple") (by rfl) B.tuple (by decide +kernel) rfl) pa_nil)))))
          (pw_or (pt_not (pt_truth (pv 1) (by intro _; rfl))) (pw_or1 (pt_cmpR op_notIn_seq (pe_ix ix_tup (pv 1) pe_int (fun _ _ => rfl)) (pv 0) (by rfl))))))
        (pss_one (ps_ret pe_bl)) pss_nil)
      (pss_one (ps_ret (pe_and (pe_cmpR op_eq (pe_callB call_len_seq (by rfl) B.len PySem.boot_len (pa_cons (pv 1) pa_nil)) (pe_op op_add (pe_ix ix_kdict (pe_glob (v := .ref dN) rfl mN rfl) (pe_ix ix_tup (pv 1) pe_int (fun _ _ => rfl)) (fun _ _ => rfl)) pe_int) (nomark _))
        (pe_one (pe_callB (cr_all rfl) (by rfl) mA (by decide +kernel) (pa_cons (pe_lc (own := [("part", 2)]) (g := gName 2) (tt := tYes) rfl scOne.nd (pi_tup (pe_slice sl_tup (pv 1) (po_some pe_int) po_none)) (blkOk_by (N := ["words", "row", "part"]) (sc := defScope sOne) (by decide +kernel))
          (fun _ _ _ _ _ => pg_name (i := 2) scOne.nd rfl (.inl rfl)) (fun _ _ _ _ _ => pts_nil) (fun _ _ _ _ _ => pe_call GN hr (by rfl) mI kN bN .nil pass0 (pa_cons (pv 2) pa_nil))) pa_nil)))))), ?_⟩
    obtain ⟨t, ys, rfl, ht, hys⟩ := ntup hv
    obtain ⟨v0, args, rfl, h0, hargs⟩ := nuncons hys
    cases h0
    have a0 : atI (V.str x :: args) 0 = some (.str x) := atI_nat (j := 0) rfl
    refine ⟨_, rfl, _, _, _, _, true, rfl, .ty _, ty_of hv, kit_ty (by decide +kernel : kitB "tuple" "tuple" = some true), _, rfl, iteF ?_⟩
    refine ⟨_, rfl, true, .inr (.inl ⟨_, ht, rfl⟩), iteF ?_⟩
    refine ⟨_, rfl, t, _, 0, _, rfl, rfl, ht, a0, _, rfl, tw, _, rfl, .inr (hw H), rfl, flat_strs ws, _, rfl, ?_⟩
    show (if (!inV (V.str x) (ws.map V.str)) = true then _ else _)
    rw [inV_str]
    by_cases hm : x ∈ ws
    · obtain ⟨xs, rfl, hxs, hl, hk⟩ := hx hm
      obtain rfl := strs_of hargs
      rw [decide_eq_true hm] at kk ⊢
      have e1 : ((V.str x :: xs.map V.str).length : Int) = (xs.length : Int) + 1 := by rw [List.length_cons, List.length_map]; omega
      refine iteF ⟨_, rfl, t, _, rfl, .inr ht, _, rfl, t, _, 0, _, rfl, rfl, ht, a0, dN, x, _, rfl, rfl, hk, (xs.length : Int), 1, rfl, rfl, rfl, _, rfl, ?_⟩
      show (if decide (V.int ((V.str x :: xs.map V.str).length : Int) = V.int ((xs.length : Int) + 1)) = true then _ else _)
      rw [e1, decide_eq_true rfl]
      refine iteT ⟨_, rfl, 1, rfl, t, _, rfl, ht, ?_, fun c nc => ?_⟩
      · rintro ⟨h2, _⟩
        rw [show HT.sIx (V.str x :: xs.map V.str).length 0 (some 1) = min 1 (V.str x :: xs.map V.str).length from HT.sIx_nat _ 0 1, List.length_cons] at h2
        omega
      · rw [cut_tail]
        have sc := same_new (o := .tup (xs.map V.str)) nc
        have hc1 : SqT K (upd H c (.tup (xs.map V.str))) c (xs.map V.str) := SqT.of upd_same
        generalize upd H c (.tup (xs.map V.str)) = H1 at *
        refine ⟨c, rfl, ⟨_, hc1⟩, fun D nD => ?_⟩
        refine lc_tup (K := K) (a := c) (xs := xs.map V.str) (fun i H2 => ∃ acc : List Bool, H2 D = some (.lst (acc.map V.bl)) ∧ acc.length = i ∧ (∀ b ∈ acc, b = true) ∧ Same H1 H2)
          ⟨[], upd_same, rfl, fun _ h => (by cases h), same_new nD⟩ (fun i H2 _ ⟨_, _, _, _, s⟩ => Same.seqT s hc1) (fun i y H2 hy hI => ?_) (fun H2 hI => ?_)
        · obtain ⟨acc, eD, el, hac, s2⟩ := hI
          rw [List.getElem?_map] at hy
          obtain ⟨z, ez, rfl⟩ := Option.map_eq_some_iff.mp hy
          have hz := hxs z (List.mem_of_getElem? ez)
          have hi : i < xs.length := (List.getElem?_eq_some_iff.mp ez).1
          refine ⟨rfl, _, rfl, .str z, .str z, rfl, .str z, fun z' e => by cases e; have := hz.2.1; omega, ?_⟩
          refine ⟨acc.map V.bl, eD, small1000 (by rw [List.length_map]; omega), acc ++ [nmD (.str z)], by rw [upd_same, List.map_append]; rfl, by rw [List.length_append, el]; rfl, fun b hb => ?_, fun b o e => ?_⟩
          · rcases List.mem_append.mp hb with hb | hb
            · exact hac b hb
            · rw [List.mem_singleton.mp hb]; exact hz.nm
          · rw [upd_ne (ne_of_none e nD)]; exact s2 b o e
        · obtain ⟨acc, eD, el, hac, s2⟩ := hI
          refine ⟨D, acc, rfl, SqL.of eD, ?_⟩
          rw [show acc.all id = true from List.all_eq_true.mpr fun b hb => hac b hb]
          exact kk H2 (sc.trans s2)
    · rw [decide_eq_false hm] at kk ⊢
      exact iteT (kk H (.refl H))
end
def looksW : List Str := ["take", "drain", "roll", "get", "drop", "look", "renew", "read", "mark", "peek", "has", "size", "keys", "glance", "watch", "tell", "bound", "spy"]
def deedsW : List Str := ["take", "skip", "drain", "fetch", "bind", "roll", "seed", "get", "peek", "put", "fill", "drop", "size", "keys", "load", "wipe", "change", "look", "glance", "renew", "lift", "read", "watch", "keep", "copy", "tell"]
def stepsW : List Str := ["say", "stop", "call", "else", "end"]
def ifW : List Str := ["ask", "take", "has", "read", "bound"]
def whileW : List Str := ["ask", "take"]
def assertW : List Str := ["has", "bound", "read", "watch"]
def probesW : List Str := ["probe", "assert"]
def gatesW : List Str := ["always", "first", "later", "second"]
/-- a word with its names -/
structure WordsD (K : PySem.W.Frag) (w : World) (dN : Addr) (x : Str) (ds : List PyData) : Prop where
  ex : ∃ xs : List Str, ds = xs.map .str ∧ (∀ z ∈ xs, IsWord z) ∧ xs.length ≤ 100 ∧ KDct K w dN x (.int (xs.length : Int))
def LookD (K : PySem.W.Frag) (w : World) (dN : Addr) (d : PyData) : Prop := ∃ x ds, d = .tuple (.str x :: ds) ∧ x ∈ looksW ∧ WordsD K w dN x ds
structure Consts (K : PySem.W.Frag) (mg : Str → Option Value) where
  (tL tD tS tI tW tA tP tG : Addr)
  tk : Tok
  mL : mg "LOOKS" = some (.ref tL)
  hL : TupW K tL looksW
  mD : mg "DEEDS" = some (.ref tD)
  hD : TupW K tD deedsW
  mS : mg "STEPS" = some (.ref tS)
  hS : TupW K tS stepsW
  mI : mg "IF_TESTS" = some (.ref tI)
  hI : TupW K tI ifW
  mW : mg "WHILE_TESTS" = some (.ref tW)
  hW : TupW K tW whileW
  mA : mg "ASSERT_TESTS" = some (.ref tA)
  hA : TupW K tA assertW
  mP : mg "PROBES" = some (.ref tP)
  hP : TupW K tP probesW
  mG : mg "GATES" = some (.ref tG)
  hG : TupW K tG gatesW
  mM : mg "MOST_LOOKS" = some (.int 6 tk)
def spIsLook (K : PySem.W.Frag) (w : World) (dN : Addr) : Sp := fun vs H Q _ => ∃ (v : V) (x : Str) (ds : List PyData), vs = [v] ∧ Dp K H v (.tuple (.str x :: ds)) ∧ (x ∈ looksW → WordsD K w dN x ds) ∧ ∀ H', Same H H' → Q (.bl (decide (x ∈ looksW))) H'
def spIsProbe (K : PySem.W.Frag) : Sp := fun vs H Q _ => ∃ (v : V) (x : Str) (ds : List PyData), vs = [v] ∧ Dp K H v (.tuple (.str x :: ds)) ∧ Q (.bl (decide (x ∈ probesW))) H
def spAre (K : PySem.W.Frag) (w : World) (dN : Addr) : Sp := fun vs H Q _ => ∃ (v : V) (ls : List PyData), vs = [v] ∧ Dp K H v (.tuple ls) ∧ (∀ d ∈ ls, LookD K w dN d) ∧ ls.length ≤ 100 ∧ ∀ H', Same H H' → Q (.bl true) H'
/-- the parts of a probe -/
inductive PartsD (K : PySem.W.Frag) (w : World) (dN : Addr) : PyData → Prop where
  | probe {x g : Str} {as bs : List PyData} (hx : IsWord x) (hg : g ∈ gatesW) (ha : ∀ d ∈ as, LookD K w dN d) (hb : ∀ d ∈ bs, LookD K w dN d) (hl : as.length + bs.length ≤ 6) : PartsD K w dN (.tuple [.str "probe", .str x, .str g, .tuple as, .tuple bs])
  | assert {x g y : Str} {as ds : List PyData} (hx : IsWord x) (hg : g ∈ gatesW) (ha : ∀ d ∈ as, LookD K w dN d) (hl : as.length ≤ 6) (hy : y ∈ assertW) (hd : WordsD K w dN y ds) : PartsD K w dN (.tuple [.str "assert", .str x, .str g, .tuple as, .tuple (.str y :: ds)])
def spHas (K : PySem.W.Frag) (w : World) (dN : Addr) : Sp := fun vs H Q _ => ∃ (v : V) (d : PyData), vs = [v] ∧ Dp K H v d ∧ PartsD K w dN d ∧ ∀ H', Same H H' → Q (.bl true) H'
inductive RowD (K : PySem.W.Frag) (w : World) (dN : Addr) : PyData → Bool → Prop where
  | no {x : Str} {ds : List PyData} (hx : x ∈ looksW) (hd : x ∉ deedsW) : RowD K w dN (.tuple (.str x :: ds)) false
  | deed {x : Str} {ds : List PyData} (hx : x ∈ deedsW ∨ x ∈ stepsW) (hd : WordsD K w dN x ds) : RowD K w dN (.tuple (.str x :: ds)) true
  | iff {x : Str} {ds : List PyData} (hx : x ∈ ifW) (hd : WordsD K w dN x ds) : RowD K w dN (.tuple (.str "if" :: .str x :: ds)) true
  | loop {x : Str} {ds : List PyData} (hx : x ∈ whileW) (hd : WordsD K w dN x ds) : RowD K w dN (.tuple (.str "while" :: .str x :: ds)) true
  | probe {d : PyData} (h : PartsD K w dN d) : RowD K w dN d true
def spIsRow (K : PySem.W.Frag) (w : World) (dN : Addr) : Sp := fun vs H Q _ => ∃ (v : V) (d : PyData) (b : Bool), vs = [v] ∧ Dp K H v d ∧ RowD K w dN d b ∧ ∀ H', Same H H' → Q (.bl b) H'
section
variable {P : Program} {w : World} {K : PySem.W.Frag} {mg : Str → Option Value} {base : Heap}
theorem scLk : FnScope ["row"] ["row"] (defScope sIsLook) := ⟨rfl, rfl, rfl, by decide +kernel, rfl, by decide +kernel, by decide +kernel⟩
theorem ok_islook {f fO dN : Addr} {fd fdO : FuncData} (F : Fun K "is_look" "is_look" sIsLook f fd) (C : Consts K mg) (GO : FnOk P w K mg base CX0 2 fO fdO ["words", "row"] (spOne K w dN)) (mO : mg "_is_one_of" = some (.ref fO)) (kO : PySem.W.keepIn K (.ref fO) = true) (bO : Binds K fdO ["words", "row"] []) :
    FnOk P w K mg base CX0 3 f fd ["row"] (spIsLook K w dN) := by
  refine F.ok scLk (fun vs H Q E h => ?_) (fun cdv A outer s H vs Q E hr h => ?_)
  · obtain ⟨v, x, ds, rfl, _⟩ := h
    rfl
  · obtain ⟨v, x, ds, rfl, hv, hx, kk⟩ := h
    refine ⟨_, pss_one (ps_ret (pe_call GO hr (by rfl) mO kO bO .nil pass0 (pa_cons (pe_glob (v := .ref C.tL) rfl C.mL rfl) (pa_cons (pv 0) pa_nil)))), ?_⟩
    exact ⟨v, rfl, C.tL, looksW, v, x, ds, rfl, C.hL, hv, fun h => (hx h).ex, fun H' s => kk H' s⟩
theorem scPb : FnScope ["row"] ["row"] (defScope sIsProbe) := ⟨rfl, rfl, rfl, by decide +kernel, rfl, by decide +kernel, by decide +kernel⟩
theorem ok_isprobe {f : Addr} {fd : FuncData} {k : Nat} (F : Fun K "is_probe" "is_probe" sIsProbe f fd) (C : Consts K mg) : FnOk P w K mg base CX0 (k + 1) f fd ["row"] (spIsProbe K) := by
  refine F.ok scPb (fun vs H Q E h => ?_) (fun cdv A outer s H vs Q E hr h => ?_)
  · obtain ⟨v, x, ds, rfl, _⟩ := h
    rfl
  · obtain ⟨v, x, ds, rfl, hv, kk⟩ := h
    refine ⟨_, pss_one (ps_ret (pe_cmpR op_in_seq (pe_ix ix_tup (pv 0) pe_int (fun _ _ => rfl)) (pe_glob (v := .ref C.tP) rfl C.mP rfl) (by rfl))), ?_⟩
    obtain ⟨t, ys, rfl, ht, hys⟩ := ntup hv
    obtain ⟨v0, args, rfl, h0, hargs⟩ := nuncons hys
    cases h0
    refine ⟨_, rfl, t, _, 0, _, rfl, rfl, ht, atI_nat (j := 0) rfl, C.tP, _, rfl, .inr (C.hP H), rfl, flat_strs _, ?_⟩
    show Q (.bl (inV (V.str x) (probesW.map V.str))) H
    rw [inV_str]
    exact kk
theorem scAr : FnScope ["looks", "look"] ["looks"] (defScope sAre) := ⟨rfl, rfl, rfl, by decide +kernel, rfl, by decide +kernel, by decide +kernel⟩
theorem ok_are {f fL dN : Addr} {fd fdL : FuncData} (F : Fun K "_are_looks" "_are_looks" sAre f fd) (B : Bts mg) (mA : mg "all" = none) (GL : FnOk P w K mg base CX0 3 fL fdL ["row"] (spIsLook K w dN)) (mL : mg "is_look" = some (.ref fL)) (kL : PySem.W.keepIn K (.ref fL) = true) (bL : Binds K fdL ["row"] []) :
    FnOk P w K mg base CX0 4 f fd ["looks"] (spAre K w dN) := by
  refine F.ok scAr (fun vs H Q E h => ?_) (fun cdv A outer s H vs Q E hr h => ?_)
  · obtain ⟨v, ls, rfl, _⟩ := h
    rfl
  · obtain ⟨v, ls, rfl, hv, hls, hl, kk⟩ := h
    refine ⟨_, pss_one (ps_ret (pe_and (pe_callB call_isi (by rfl) B.isinstance (by decide +kernel) (pa_cons (pv 0) (pa_cons (pe_bltn (v := .ty "tuple") (by rfl) B.tuple (by decide +kernel) rfl) pa_nil)))
        (pe_one (pe_callB (cr_all rfl) (by rfl) mA (by decide +kernel) (pa_cons (pe_lc (own := [("look", 1)]) (g := gName 1) (tt := tYes) rfl scAr.nd (pi_tup (pv 0)) (blkOk_by (N := ["looks", "look"]) (sc := defScope sAre) (by decide +kernel))
          (fun _ _ _ _ _ => pg_name (i := 1) scAr.nd rfl (.inl rfl)) (fun _ _ _ _ _ => pts_nil) (fun _ _ _ _ _ => pe_call GL hr (by rfl) mL kL bL .nil pass0 (pa_cons (pv 1) pa_nil))) pa_nil))))), ?_⟩
    obtain ⟨t, ys, rfl, ht, hys⟩ := ntup hv
    refine ⟨_, rfl, _, _, _, _, true, rfl, .ty _, ty_of hv, kit_ty (by decide +kernel : kitB "tuple" "tuple" = some true), _, rfl, iteT ?_⟩
    refine ⟨_, rfl, t, rfl, ⟨_, ht⟩, fun D nD => ?_⟩
    have ly := dpAll_len hys
    refine lc_tup (K := K) (a := t) (xs := ys) (fun i H2 => ∃ acc : List Bool, H2 D = some (.lst (acc.map V.bl)) ∧ acc.length = i ∧ (∀ b ∈ acc, b = true) ∧ Same H H2)
      ⟨[], upd_same, rfl, fun _ h => (by cases h), same_new nD⟩ (fun i H2 _ ⟨_, _, _, _, s⟩ => Same.seqT s ht) (fun i y H2 hy hI => ?_) (fun H2 hI => ?_)
    · obtain ⟨acc, eD, el, ha, s2⟩ := hI
      obtain ⟨d, ed, hd⟩ := dpAll_at hys hy
      obtain ⟨x, ds, rfl, hx, hw⟩ := hls d (List.mem_of_getElem? ed)
      have hi : i < ls.length := (List.getElem?_eq_some_iff.mp ed).1
      refine ⟨rfl, _, rfl, y, x, ds, rfl, dp_same s2 _ _ hd, fun _ => hw, fun H3 s3 => ?_⟩
      refine ⟨acc.map V.bl, s3 _ _ eD, small1000 (by rw [List.length_map]; omega), acc ++ [decide (x ∈ looksW)], by rw [upd_same, List.map_append]; rfl, by rw [List.length_append, el]; rfl, fun b hb => ?_, fun b o e => ?_⟩
      · rcases List.mem_append.mp hb with hb | hb
        · exact ha b hb
        · rw [List.mem_singleton.mp hb]; exact decide_eq_true hx
      · rw [upd_ne (ne_of_none e nD)]; exact s3 _ _ (s2 b o e)
    · obtain ⟨acc, eD, el, ha, s2⟩ := hI
      refine ⟨D, acc, rfl, SqL.of eD, ?_⟩
      rw [show acc.all id = true from List.all_eq_true.mpr fun b hb => ha b hb]
      exact kk H2 s2
end
section
variable {P : Program} {w : World} {K : PySem.W.Frag} {mg : Str → Option Value} {base : Heap}
theorem scHs : FnScope ["row", "word", "name", "gate", "args", "rest"] ["row"] (defScope sHasP) := ⟨rfl, rfl, rfl, by decide +kernel, rfl, by decide +kernel, by decide +kernel⟩
theorem ok_has {f fN fO fA dN : Addr} {fd fdN fdO fdA : FuncData} (F : Fun K "_has_probe_parts" "_has_probe_parts" sHasP f fd) (B : Bts mg) (C : Consts K mg) (GN : FnOk P w K mg base CX0 1 fN fdN ["thing"] (spIsName K)) (mN : mg "is_name" = some (.ref fN)) (kN : PySem.W.keepIn K (.ref fN) = true) (bN : Binds K fdN ["thing"] [])
    (GO : FnOk P w K mg base CX0 2 fO fdO ["words", "row"] (spOne K w dN)) (mO : mg "_is_one_of" = some (.ref fO)) (kO : PySem.W.keepIn K (.ref fO) = true) (bO : Binds K fdO ["words", "row"] []) (GA : FnOk P w K mg base CX0 4 fA fdA ["looks"] (spAre K w dN)) (mA : mg "_are_looks" = some (.ref fA)) (kA : PySem.W.keepIn K (.ref fA) = true) (bA : Binds K fdA ["looks"] []) :
    FnOk P w K mg base CX0 5 f fd ["row"] (spHas K w dN) := by
  refine F.ok scHs (fun vs H Q E h => ?_) (fun cdv A outer s H vs Q E hr h => ?_)
  · obtain ⟨v, d, rfl, _⟩ := h
    rfl
  · obtain ⟨v, d, rfl, hv, hd, kk⟩ := h
    have hr1 : Room 1 _ := hr.mono (by decide)
    have hr2 : Room 2 _ := hr.mono (by decide)
    refine ⟨_, pss_cons (ps_asg (pv 0) (pg_tup rfl (pgs_cons (pg_name (i := 1) scHs.nd rfl (.inl rfl)) (pgs_cons (pg_name (i := 2) scHs.nd rfl (.inl rfl)) (pgs_cons (pg_name (i := 3) scHs.nd rfl (.inl rfl)) (pgs_cons (pg_name (i := 4) scHs.nd rfl (.inl rfl)) (pgs_cons (pg_name (i := 5) scHs.nd rfl (.inl rfl)) pgs_nil)))))))
      (pss_cons (ps_if (PW.pt (pw_or (pt_not (pt_val (pe_call GN hr1 (by rfl) mN kN bN .nil pass0 (pa_cons (pv 2) pa_nil)))) (pw_or (pt_cmpR op_notIn_seq (pv 3) (pe_glob (v := .ref C.tG) rfl C.mG rfl) (by rfl)) (pw_or1 (pt_not (pt_val (pe_call GA hr (by rfl) mA kA bA .nil pass0 (pa_cons (pv 4) pa_nil))))))))
        (pss_one (ps_ret pe_bl)) pss_nil)
      (pss_cons (ps_if (pt_cmpR op_eq (pv 1) pe_str (nomark _))
        (pss_one (ps_ret (pe_and (pe_cmpR op_le (pe_callB call_len_seq (by rfl) B.len PySem.boot_len (pa_cons (pv 4) pa_nil)) (pe_glob (v := .int 6) rfl C.mM ⟨C.tk, rfl⟩) (nomark _)) (pe_one (pe_call GO hr2 (by rfl) mO kO bO .nil pass0 (pa_cons (pe_glob (v := .ref C.tA) rfl C.mA rfl) (pa_cons (pv 5) pa_nil))))))) pss_nil)
      (pss_one (ps_ret (pe_and (pe_call GA hr (by rfl) mA kA bA .nil pass0 (pa_cons (pv 5) pa_nil)) (pe_one (pe_cmpR op_le (pe_op op_add (pe_callB call_len_seq (by rfl) B.len PySem.boot_len (pa_cons (pv 4) pa_nil)) (pe_callB call_len_seq (by rfl) B.len PySem.boot_len (pa_cons (pv 5) pa_nil))) (pe_glob (v := .int 6) rfl C.mM ⟨C.tk, rfl⟩) (nomark _)))))))), ?_⟩
    cases hd with
    | @probe x g as bs hx hg ha hb hl =>
      obtain ⟨t, ys, rfl, ht, hys⟩ := ntup hv
      obtain ⟨v0, r, rfl, h0, hys⟩ := nuncons hys
      obtain ⟨v1, r, rfl, h1, hys⟩ := nuncons hys
      obtain ⟨v2, r, rfl, h2, hys⟩ := nuncons hys
      obtain ⟨v3, r, rfl, h3, hys⟩ := nuncons hys
      obtain ⟨v4, r, rfl, h4, hys⟩ := nuncons hys
      obtain rfl := nnil hys
      cases h0; cases h1; cases h2
      refine ⟨_, rfl, t, _, rfl, ht, rfl, _, _, rfl, _, _, rfl, _, _, rfl, _, _, rfl, _, _, rfl, rfl, ?_⟩
      refine ⟨_, rfl, .str x, .str x, rfl, .str x, fun z e => by cases e; have := hx.2.1; omega, ?_⟩
      have en : nmD (.str x) = true := hx.nm
      rw [en]
      refine ⟨_, rfl, iteF ?_⟩
      refine ⟨_, rfl, C.tG, _, rfl, .inr (C.hG H), rfl, flat_strs _, _, rfl, ?_⟩
      show (if (!inV (V.str g) (gatesW.map V.str)) = true then _ else _)
      rw [inV_str, decide_eq_true hg]
      refine iteF ⟨_, rfl, v3, as, rfl, h3, ha, by omega, fun H1 s1 => ⟨_, rfl, iteF ?_⟩⟩
      refine ⟨_, rfl, rfl, _, rfl, iteF ?_⟩
      refine ⟨_, rfl, v4, bs, rfl, dp_same s1 _ _ h4, hb, by omega, fun H2 s2 => ⟨_, rfl, iteT ?_⟩⟩
      obtain ⟨t3, y3, rfl, ht3, hy3⟩ := ntup (dp_same (s1.trans s2) _ _ h3)
      obtain ⟨t4, y4, rfl, ht4, hy4⟩ := ntup (dp_same (s1.trans s2) _ _ h4)
      refine ⟨_, rfl, t3, _, rfl, .inr ht3, _, rfl, t4, _, rfl, .inr ht4, _, _, rfl, rfl, _, _, rfl, rfl, ?_⟩
      have e6 : decide (((y3.length : Int) + (y4.length : Int)) ≤ 6) = true := decide_eq_true (by rw [dpAll_len hy3, dpAll_len hy4]; omega)
      show Q (.bl (decide (((y3.length : Int) + (y4.length : Int)) ≤ 6))) H2
      rw [e6]
      exact kk H2 (s1.trans s2)
    | @assert x g y as ds hx hg ha hl hy hd =>
      obtain ⟨t, ys, rfl, ht, hys⟩ := ntup hv
      obtain ⟨v0, r, rfl, h0, hys⟩ := nuncons hys
      obtain ⟨v1, r, rfl, h1, hys⟩ := nuncons hys
      obtain ⟨v2, r, rfl, h2, hys⟩ := nuncons hys
      obtain ⟨v3, r, rfl, h3, hys⟩ := nuncons hys
      obtain ⟨v4, r, rfl, h4, hys⟩ := nuncons hys
      obtain rfl := nnil hys
      cases h0; cases h1; cases h2
      refine ⟨_, rfl, t, _, rfl, ht, rfl, _, _, rfl, _, _, rfl, _, _, rfl, _, _, rfl, _, _, rfl, rfl, ?_⟩
      refine ⟨_, rfl, .str x, .str x, rfl, .str x, fun z e => by cases e; have := hx.2.1; omega, ?_⟩
      have en : nmD (.str x) = true := hx.nm
      rw [en]
      refine ⟨_, rfl, iteF ?_⟩
      refine ⟨_, rfl, C.tG, _, rfl, .inr (C.hG H), rfl, flat_strs _, _, rfl, ?_⟩
      show (if (!inV (V.str g) (gatesW.map V.str)) = true then _ else _)
      rw [inV_str, decide_eq_true hg]
      refine iteF ⟨_, rfl, v3, as, rfl, h3, ha, by omega, fun H1 s1 => ⟨_, rfl, iteF ?_⟩⟩
      refine ⟨_, rfl, rfl, _, rfl, iteT ?_⟩
      obtain ⟨t3, y3, rfl, ht3, hy3⟩ := ntup (dp_same s1 _ _ h3)
      refine ⟨_, rfl, t3, _, rfl, .inr ht3, _, _, rfl, rfl, _, rfl, ?_⟩
      have e6 : decide ((y3.length : Int) ≤ 6) = true := decide_eq_true (by rw [dpAll_len hy3]; omega)
      show (if decide ((y3.length : Int) ≤ 6) = true then _ else _)
      rw [e6]
      refine iteT ⟨_, rfl, C.tA, assertW, v4, y, ds, rfl, C.hA, dp_same s1 _ _ h4, fun _ => hd.ex, fun H2 s2 => ?_⟩
      rw [decide_eq_true hy]
      exact kk H2 (s1.trans s2)
theorem scRw : FnScope ["row"] ["row"] (defScope sIsRow) := ⟨rfl, rfl, rfl, by decide +kernel, rfl, by decide +kernel, by decide +kernel⟩
theorem ok_isrow {f fO fH dN : Addr} {fd fdO fdH : FuncData} (F : Fun K "is_row" "is_row" sIsRow f fd) (B : Bts mg) (C : Consts K mg)
    (GO : FnOk P w K mg base CX0 2 fO fdO ["words", "row"] (spOne K w dN)) (mO : mg "_is_one_of" = some (.ref fO)) (kO : PySem.W.keepIn K (.ref fO) = true) (bO : Binds K fdO ["words", "row"] []) (GH : FnOk P w K mg base CX0 5 fH fdH ["row"] (spHas K w dN)) (mH : mg "_has_probe_parts" = some (.ref fH)) (kH : PySem.W.keepIn K (.ref fH) = true) (bH : Binds K fdH ["row"] []) :
    FnOk P w K mg base CX0 6 f fd ["row"] (spIsRow K w dN) := by
  refine F.ok scRw (fun vs H Q E h => ?_) (fun cdv A outer s H vs Q E hr h => ?_)
  · obtain ⟨v, d, b, rfl, _⟩ := h
    rfl
  · obtain ⟨v, d, b, rfl, hv, hd, kk⟩ := h
    have hr2 : Room 2 _ := hr.mono (by decide)
    refine ⟨_, pss_cons (ps_if (PW.pt (pw_or (pt_not (pt_val (pe_callB call_isi (by rfl) B.isinstance (by decide +kernel) (pa_cons (pv 0) (pa_cons (pe_bltn (v := .ty "tuple") (by rfl) B.tuple (by decide +kernel) rfl) pa_nil))))) (pw_or1 (pt_not (pt_truth (pv 0) (by intro _; rfl))))))
        (pss_one (ps_ret pe_bl)) pss_nil)
      (pss_cons (ps_if (pt_cmpR op_eq (pe_ix ix_tup (pv 0) pe_int (fun _ _ => rfl)) pe_str (nomark _)) (pss_one (ps_ret (pe_call GO hr2 (by rfl) mO kO bO .nil pass0 (pa_cons (pe_glob (v := .ref C.tI) rfl C.mI rfl) (pa_cons (pe_slice sl_tup (pv 0) (po_some pe_int) po_none) pa_nil))))) pss_nil)
      (pss_cons (ps_if (pt_cmpR op_eq (pe_ix ix_tup (pv 0) pe_int (fun _ _ => rfl)) pe_str (nomark _)) (pss_one (ps_ret (pe_call GO hr2 (by rfl) mO kO bO .nil pass0 (pa_cons (pe_glob (v := .ref C.tW) rfl C.mW rfl) (pa_cons (pe_slice sl_tup (pv 0) (po_some pe_int) po_none) pa_nil))))) pss_nil)
      (pss_cons (ps_if (pt_cmpR op_in_seq (pe_ix ix_tup (pv 0) pe_int (fun _ _ => rfl)) (pe_glob (v := .ref C.tP) rfl C.mP rfl) (by rfl))
        (pss_one (ps_ret (pe_and (pe_cmpR op_eq (pe_callB call_len_seq (by rfl) B.len PySem.boot_len (pa_cons (pv 0) pa_nil)) pe_int (nomark _)) (pe_one (pe_call GH hr (by rfl) mH kH bH .nil pass0 (pa_cons (pv 0) pa_nil)))))) pss_nil)
      (pss_one (ps_ret (pe_or (pe_call GO hr2 (by rfl) mO kO bO .nil pass0 (pa_cons (pe_glob (v := .ref C.tD) rfl C.mD rfl) (pa_cons (pv 0) pa_nil))) (pe_one (pe_call GO hr2 (by rfl) mO kO bO .nil pass0 (pa_cons (pe_glob (v := .ref C.tS) rfl C.mS rfl) (pa_cons (pv 0) pa_nil)))))))))), ?_⟩
    -- the head of any row
    have head : ∀ {x : Str} {ds : List PyData}, d = .tuple (.str x :: ds) → ∃ t args, v = .ref t ∧ SqT K H t (.str x :: args) ∧ DpAll K H args ds := by
      intro x ds e
      rw [e] at hv
      obtain ⟨t, ys, rfl, ht, hys⟩ := ntup hv
      obtain ⟨v0, r, rfl, h0, hys2⟩ := nuncons hys
      cases h0
      exact ⟨t, r, rfl, ht, hys2⟩
    have a0 : ∀ {x : Str} {args : List V}, atI (V.str x :: args) 0 = some (.str x) := fun {x args} => atI_nat (j := 0) rfl
    cases hd with
    | @no x ds hx hd =>
      obtain ⟨t, args, rfl, ht, hargs⟩ := head rfl
      have hne : ∀ z ∈ looksW, z ∉ deedsW → z ≠ ("if" : Str) ∧ z ≠ ("while" : Str) ∧ z ∉ probesW ∧ z ∉ stepsW := by decide +kernel
      have hn := hne x hx hd
      refine ⟨_, rfl, _, _, _, _, true, rfl, .ty _, ty_of hv, kit_ty (by decide +kernel : kitB "tuple" "tuple" = some true), _, rfl, iteF ?_⟩
      refine ⟨_, rfl, true, .inr (.inl ⟨_, ht, rfl⟩), iteF ?_⟩
      refine ⟨_, rfl, t, _, 0, _, rfl, rfl, ht, a0, rfl, _, rfl, ?_⟩
      show (if decide (V.str x = V.str "if") = true then _ else _)
      rw [decide_eq_false fun e => hn.1 (V.str.inj e)]
      refine iteF ⟨_, rfl, t, _, 0, _, rfl, rfl, ht, a0, rfl, _, rfl, ?_⟩
      show (if decide (V.str x = V.str "while") = true then _ else _)
      rw [decide_eq_false fun e => hn.2.1 (V.str.inj e)]
      refine iteF ⟨_, rfl, t, _, 0, _, rfl, rfl, ht, a0, C.tP, _, rfl, .inr (C.hP H), rfl, flat_strs _, _, rfl, ?_⟩
      show (if inV (V.str x) (probesW.map V.str) = true then _ else _)
      rw [inV_str, decide_eq_false hn.2.2.1]
      refine iteF ⟨_, rfl, C.tD, deedsW, .ref t, x, ds, rfl, C.hD, hv, fun h => absurd h hd, fun H1 s1 => ?_⟩
      rw [decide_eq_false hd]
      refine ⟨_, rfl, iteF ⟨_, rfl, C.tS, stepsW, .ref t, x, ds, rfl, C.hS, dp_same s1 _ _ hv, fun h => absurd h hn.2.2.2, fun H2 s2 => ?_⟩⟩
      rw [decide_eq_false hn.2.2.2]
      exact kk H2 (s1.trans s2)
    | @deed x ds hx hd =>
      obtain ⟨t, args, rfl, ht, hargs⟩ := head rfl
      have hne : ∀ z ∈ deedsW ++ stepsW, z ≠ ("if" : Str) ∧ z ≠ ("while" : Str) ∧ z ∉ probesW := by decide +kernel
      have hn := hne x (List.mem_append.mpr hx)
      refine ⟨_, rfl, _, _, _, _, true, rfl, .ty _, ty_of hv, kit_ty (by decide +kernel : kitB "tuple" "tuple" = some true), _, rfl, iteF ?_⟩
      refine ⟨_, rfl, true, .inr (.inl ⟨_, ht, rfl⟩), iteF ?_⟩
      refine ⟨_, rfl, t, _, 0, _, rfl, rfl, ht, a0, rfl, _, rfl, ?_⟩
      show (if decide (V.str x = V.str "if") = true then _ else _)
      rw [decide_eq_false fun e => hn.1 (V.str.inj e)]
      refine iteF ⟨_, rfl, t, _, 0, _, rfl, rfl, ht, a0, rfl, _, rfl, ?_⟩
      show (if decide (V.str x = V.str "while") = true then _ else _)
      rw [decide_eq_false fun e => hn.2.1 (V.str.inj e)]
      refine iteF ⟨_, rfl, t, _, 0, _, rfl, rfl, ht, a0, C.tP, _, rfl, .inr (C.hP H), rfl, flat_strs _, _, rfl, ?_⟩
      show (if inV (V.str x) (probesW.map V.str) = true then _ else _)
      rw [inV_str, decide_eq_false hn.2.2]
      refine iteF ⟨_, rfl, C.tD, deedsW, .ref t, x, ds, rfl, C.hD, hv, fun _ => hd.ex, fun H1 s1 => ?_⟩
      by_cases hxd : x ∈ deedsW
      · rw [decide_eq_true hxd]
        exact ⟨_, rfl, iteT (kk H1 s1)⟩
      · have hxs : x ∈ stepsW := hx.resolve_left hxd
        rw [decide_eq_false hxd]
        refine ⟨_, rfl, iteF ⟨_, rfl, C.tS, stepsW, .ref t, x, ds, rfl, C.hS, dp_same s1 _ _ hv, fun _ => hd.ex, fun H2 s2 => ?_⟩⟩
        rw [decide_eq_true hxs]
        exact kk H2 (s1.trans s2)
    | @iff x ds hx hd =>
      obtain ⟨t, args, rfl, ht, hargs⟩ := head rfl
      refine ⟨_, rfl, _, _, _, _, true, rfl, .ty _, ty_of hv, kit_ty (by decide +kernel : kitB "tuple" "tuple" = some true), _, rfl, iteF ?_⟩
      refine ⟨_, rfl, true, .inr (.inl ⟨_, ht, rfl⟩), iteF ?_⟩
      refine ⟨_, rfl, t, _, 0, _, rfl, rfl, ht, a0, rfl, _, rfl, iteT ?_⟩
      refine ⟨_, rfl, 1, rfl, t, _, rfl, ht, ?_, fun c nc => ?_⟩
      · rintro ⟨h2, _⟩
        rw [show HT.sIx (V.str "if" :: args).length 0 (some 1) = min 1 (V.str "if" :: args).length from HT.sIx_nat _ 0 1, List.length_cons] at h2
        omega
      · rw [cut_tail]
        have sc := same_new (o := .tup args) nc
        refine ⟨C.tI, ifW, .ref c, x, ds, rfl, C.hI, .tup (SqT.of upd_same) (dpAll_same sc _ _ hargs), fun _ => hd.ex, fun H1 s1 => ?_⟩
        rw [decide_eq_true hx]
        exact kk H1 (sc.trans s1)
    | @loop x ds hx hd =>
      obtain ⟨t, args, rfl, ht, hargs⟩ := head rfl
      refine ⟨_, rfl, _, _, _, _, true, rfl, .ty _, ty_of hv, kit_ty (by decide +kernel : kitB "tuple" "tuple" = some true), _, rfl, iteF ?_⟩
      refine ⟨_, rfl, true, .inr (.inl ⟨_, ht, rfl⟩), iteF ?_⟩
      refine ⟨_, rfl, t, _, 0, _, rfl, rfl, ht, a0, rfl, _, rfl, iteF ?_⟩
      refine ⟨_, rfl, t, _, 0, _, rfl, rfl, ht, a0, rfl, _, rfl, iteT ?_⟩
      refine ⟨_, rfl, 1, rfl, t, _, rfl, ht, ?_, fun c nc => ?_⟩
      · rintro ⟨h2, _⟩
        rw [show HT.sIx (V.str "while" :: args).length 0 (some 1) = min 1 (V.str "while" :: args).length from HT.sIx_nat _ 0 1, List.length_cons] at h2
        omega
      · rw [cut_tail]
        have sc := same_new (o := .tup args) nc
        refine ⟨C.tW, whileW, .ref c, x, ds, rfl, C.hW, .tup (SqT.of upd_same) (dpAll_same sc _ _ hargs), fun _ => hd.ex, fun H1 s1 => ?_⟩
        rw [decide_eq_true hx]
        exact kk H1 (sc.trans s1)
    | probe h =>
      obtain ⟨x, ds, e, hx, hx1, hx2, hl⟩ : ∃ x ds, d = .tuple (.str x :: ds) ∧ x ∈ probesW ∧ x ≠ "if" ∧ x ≠ "while" ∧ ds.length = 4 := by
        cases h with
        | probe => exact ⟨_, _, rfl, by decide +kernel, by decide +kernel, by decide +kernel, rfl⟩
        | assert => exact ⟨_, _, rfl, by decide +kernel, by decide +kernel, by decide +kernel, rfl⟩
      obtain ⟨t, args, rfl, ht, hargs⟩ := head e
      have hv2 := hv
      rw [e] at hv2
      refine ⟨_, rfl, _, _, _, _, true, rfl, .ty _, ty_of hv2, kit_ty (by decide +kernel : kitB "tuple" "tuple" = some true), _, rfl, iteF ?_⟩
      refine ⟨_, rfl, true, .inr (.inl ⟨_, ht, rfl⟩), iteF ?_⟩
      refine ⟨_, rfl, t, _, 0, _, rfl, rfl, ht, a0, rfl, _, rfl, ?_⟩
      show (if decide (V.str x = V.str "if") = true then _ else _)
      rw [decide_eq_false fun e => hx1 (V.str.inj e)]
      refine iteF ⟨_, rfl, t, _, 0, _, rfl, rfl, ht, a0, rfl, _, rfl, ?_⟩
      show (if decide (V.str x = V.str "while") = true then _ else _)
      rw [decide_eq_false fun e => hx2 (V.str.inj e)]
      refine iteF ⟨_, rfl, t, _, 0, _, rfl, rfl, ht, a0, C.tP, _, rfl, .inr (C.hP H), rfl, flat_strs _, _, rfl, ?_⟩
      show (if inV (V.str x) (probesW.map V.str) = true then _ else _)
      rw [inV_str, decide_eq_true hx]
      refine iteT ⟨_, rfl, t, _, rfl, .inr ht, rfl, _, rfl, ?_⟩
      have e5 : ((V.str x :: args).length : Int) = 5 := by rw [List.length_cons, dpAll_len hargs, hl]; rfl
      show (if decide (V.int ((V.str x :: args).length : Int) = V.int 5) = true then _ else _)
      rw [e5, decide_eq_true rfl]
      exact iteT ⟨_, rfl, .ref t, d, rfl, hv, h, kk⟩
end
/-! ### rows drawn -/
theorem PoolAt.upd {H : Hp} {p q b : Addr} {n : Nat} {o : HO} (h : PoolAt H p q n) (n1 : b ≠ p) (n2 : b ≠ q) : PoolAt (L2.upd H b o) p q n := by
  obtain ⟨npq, cs, x, c0, e1, e2, r⟩ := h
  exact ⟨npq, cs, x, c0, by rw [upd_ne n1.symm]; exact e1, by rw [upd_ne n2.symm]; exact e2, r⟩
def nbW : List (Str × Nat) := [(("take" : Str), 1), (("skip" : Str), 1), (("drain" : Str), 1), (("fetch" : Str), 1), (("bind" : Str), 2), (("roll" : Str), 1), (("seed" : Str), 1), (("get" : Str), 2), (("peek" : Str), 2), (("has" : Str), 2), (("put" : Str), 2), (("fill" : Str), 2), (("drop" : Str), 2), (("size" : Str), 1), (("keys" : Str), 1), (("load" : Str), 1), (("wipe" : Str), 1), (("change" : Str), 1), (("look" : Str), 1), (("glance" : Str), 1), (("renew" : Str), 1), (("lift" : Str), 1), (("read" : Str), 1), (("watch" : Str), 1), (("keep" : Str), 1), (("copy" : Str), 2), (("tell" : Str), 1), (("bound" : Str), 1), (("mark" : Str), 1), (("spy" : Str), 1), (("say" : Str), 1), (("stop" : Str), 0), (("call" : Str), 1), (("else" : Str), 0), (("end" : Str), 0), (("ask" : Str), 1)]
def NbK (K : PySem.W.Frag) (w : World) (dN : Addr) : Prop := ∀ (x : Str) (k : Nat), (x, k) ∈ nbW → KDct K w dN x (.int (k : Int))
section
variable {K : PySem.W.Frag} {w : World} {dN : Addr} {x a b : Str}
theorem words0 (N : NbK K w dN) (h : (x, 0) ∈ nbW) : WordsD K w dN x [] := ⟨⟨([] : List Str), rfl, (fun z hz => nomatch hz), Nat.zero_le _, N x 0 h⟩⟩
theorem words1 (N : NbK K w dN) (h : (x, 1) ∈ nbW) (ha : IsWord a) : WordsD K w dN x [.str a] := ⟨⟨[a], rfl, (fun z hz => by rw [List.mem_singleton.mp hz]; exact ha), by show 1 ≤ 100; decide, N x 1 h⟩⟩
theorem words2 (N : NbK K w dN) (h : (x, 2) ∈ nbW) (ha : IsWord a) (hb : IsWord b) : WordsD K w dN x [.str a, .str b] := ⟨⟨[a, b], rfl, (fun z hz => by
  rcases List.mem_cons.mp hz with rfl | hz
  · exact ha
  · rw [List.mem_singleton.mp hz]; exact hb), by show 2 ≤ 100; decide, N x 2 h⟩⟩
end
def spGen (K : PySem.W.Frag) (R : PyData → Prop) (c : Nat) : Sp := fun vs H Q _ => ∃ (p q : Addr) (n : Nat) (L : List Addr), vs = [.ref p] ∧ PoolAt H p q n ∧ n + c < 800000 ∧ Alive L H ∧ p ∈ L ∧ q ∈ L ∧
  ∀ (v : V) (d : PyData) (n' : Nat) (H' : Hp), Dp K (mask L H') v d → R d → n ≤ n' → n' ≤ n + c → PoolAt H' p q n' → Keeps p q H H' → Q v H'
def flW : List Str := ["take", "drain", "roll", "look", "renew", "read", "mark", "size", "keys", "glance", "watch", "tell", "bound", "spy", "get", "drop", "peek", "has"]
theorem flW_ok : ∀ k : Fin 18, flW.getD k.val ("" : Str) ∈ looksW ∧ (flW.getD k.val ("" : Str), if k.val < 14 then 1 else 2) ∈ nbW := by decide +kernel
theorem flW_at (k : Nat) (h : k < 18) : ∃ x, flW[k]? = some x ∧ x ∈ looksW ∧ (x, if k < 14 then 1 else 2) ∈ nbW := by
  have := flW_ok ⟨k, h⟩
  refine ⟨flW.getD k ("" : Str), ?_, this.1, this.2⟩
  rw [List.getD_eq_getElem?_getD, List.getElem?_eq_getElem (show k < flW.length from h)]
  rfl
section
variable {P : Program} {w : World} {K : PySem.W.Frag} {mg : Str → Option Value} {base : Heap}
theorem scFL : FnScope ["pool", "words", "pick"] ["pool"] (defScope sFLook) := ⟨rfl, rfl, rfl, by decide +kernel, rfl, by decide +kernel, by decide +kernel⟩
theorem ok_flook {f fD fW dN : Addr} {fd fdD fdW : FuncData} (F : Fun K "_law_free_look" "_law_free_look" sFLook f fd) (N : NbK K w dN) (GD : FnOk P w K mg base CX0 1 fD fdD ["pool", "many"] spDraw) (mD : mg "_law_draw" = some (.ref fD)) (kD : PySem.W.keepIn K (.ref fD) = true) (bD : Binds K fdD ["pool", "many"] [])
    (GW : FnOk P w K mg base CX0 2 fW fdW ["pool"] spWord) (mW : mg "_law_word" = some (.ref fW)) (kW : PySem.W.keepIn K (.ref fW) = true) (bW : Binds K fdW ["pool"] []) : FnOk P w K mg base CX0 3 f fd ["pool"] (spGen K (LookD K w dN) 20) := by
  refine F.ok scFL (fun vs H Q E h => ?_) (fun cdv A outer s H vs Q E hr h => ?_)
  · obtain ⟨p, q, n, L, rfl, _⟩ := h
    rfl
  · obtain ⟨p, q, n, L, rfl, hP, hn, al, mp, mq, kk⟩ := h
    have hr1 : Room 1 _ := hr.mono (by decide)
    refine ⟨_, pss_cons (ps_set (i := 1) scFL.nd rfl (.inl rfl) (pe_lst (pa_cons pe_str (pa_cons pe_str (pa_cons pe_str (pa_cons pe_str (pa_cons pe_str (pa_cons pe_str (pa_cons pe_str (pa_cons pe_str (pa_cons pe_str (pa_cons pe_str (pa_cons pe_str (pa_cons pe_str (pa_cons pe_str (pa_cons pe_str (pa_cons pe_str (pa_cons pe_str (pa_cons pe_str (pa_cons pe_str pa_nil))))))))))))))))))))
      (pss_cons (ps_set (i := 2) scFL.nd rfl (.inl rfl) (pe_call GD hr1 (by rfl) mD kD bD .nil pass0 (pa_cons (pv 0) (pa_cons pe_int pa_nil))))
      (pss_cons (ps_if (pt_cmpR op_lt (pv 2) pe_int (nomark _)) (pss_one (ps_ret (pe_tup (pa_cons (pe_ix ix_list (pv 1) (pv 2) (fun _ _ => rfl)) (pa_cons (pe_call GW hr (by rfl) mW kW bW .nil pass0 (pa_cons (pv 0) pa_nil)) pa_nil))))) pss_nil)
      (pss_one (ps_ret (pe_tup (pa_cons (pe_ix ix_list (pv 1) (pv 2) (fun _ _ => rfl)) (pa_cons (pe_call GW hr (by rfl) mW kW bW .nil pass0 (pa_cons (pv 0) pa_nil)) (pa_cons (pe_call GW hr (by rfl) mW kW bW .nil pass0 (pa_cons (pv 0) pa_nil)) pa_nil)))))))), ?_⟩
    refine ⟨by show 18 ≤ sizeLine; decide, fun wl nwl => ?_⟩
    have P1 := hP.new (o := .lst (flW.map V.str)) nwl
    have k1 : Keeps p q H (upd H wl (.lst (flW.map V.str))) := .upd_new nwl
    have ewl : (upd H wl (.lst (flW.map V.str))) wl = some (.lst (flW.map V.str)) := upd_same
    have wlL := al.not nwl
    have wlp : wl ≠ p ∧ wl ≠ q := ⟨fun e => wlL (by rw [e]; exact mp), fun e => wlL (by rw [e]; exact mq)⟩
    have al1 : Alive L (upd H wl (.lst (flW.map V.str))) := k1.alive al P1
    refine ⟨_, rfl, p, q, n, 18, rfl, P1, by omega, by decide, by decide, fun d H2 d0 d1 P2 k2 => ?_⟩
    have ewl2 := k2 _ _ wlp.1 wlp.2 ewl
    have al2 := k2.alive al1 P2
    obtain ⟨k, rfl⟩ : ∃ k : Nat, d = (k : Int) := ⟨d.toNat, by omega⟩
    obtain ⟨x, ex, hx, hnb⟩ := flW_at k (by omega)
    have exV : atI (flW.map V.str) (k : Int) = some (.str x) := atI_nat (by rw [List.getElem?_map, ex]; rfl)
    refine ⟨_, rfl, _, _, rfl, rfl, _, rfl, ?_⟩
    show (if decide ((k : Int) < 14) = true then _ else _)
    by_cases hk : k < 14
    · rw [decide_eq_true (by omega : (k : Int) < 14)]
      rw [if_pos hk] at hnb
      refine iteT ⟨_, rfl, _, rfl, wl, _, _, _, rfl, rfl, SqL.of ewl2, exV, ?_⟩
      refine ⟨_, rfl, p, q, n + 1, rfl, P2, by omega, fun a n3 H3 ha h31 h32 P3 k3 => ⟨by show 2 ≤ sizeLine; decide, fun t nt => ?_⟩⟩
      have al3 := k3.alive al2 P3
      exact kk (.ref t) (.tuple [.str x, .str a]) n3 _ (.tup (SqT.of (mask_upd (al3.not nt))) (.cons (.str x) (.cons (.str a) .nil))) ⟨x, _, rfl, hx, words1 N hnb ha⟩ (by omega) (by omega) (P3.new nt) (((k1.trans k2).trans k3).trans (.upd_new nt))
    · rw [decide_eq_false (by omega : ¬ (k : Int) < 14)]
      rw [if_neg hk] at hnb
      refine iteF ⟨_, rfl, _, rfl, wl, _, _, _, rfl, rfl, SqL.of ewl2, exV, ?_⟩
      refine ⟨_, rfl, p, q, n + 1, rfl, P2, by omega, fun a n3 H3 ha h31 h32 P3 k3 => ?_⟩
      refine ⟨_, rfl, p, q, n3, rfl, P3, by omega, fun b n4 H4 hb h41 h42 P4 k4 => ⟨by show 3 ≤ sizeLine; decide, fun t nt => ?_⟩⟩
      have al4 := k4.alive (k3.alive al2 P3) P4
      exact kk (.ref t) (.tuple [.str x, .str a, .str b]) n4 _ (.tup (SqT.of (mask_upd (al4.not nt))) (.cons (.str x) (.cons (.str a) (.cons (.str b) .nil)))) ⟨x, _, rfl, hx, words2 N hnb ha hb⟩ (by omega) (by omega) (P4.new nt) ((((k1.trans k2).trans k3).trans k4).trans (.upd_new nt))
theorem scFP : FnScope ["pool", "gate", "many", "k", "args", "x", "test", "body"] ["pool"] (defScope sFProbe) := ⟨rfl, rfl, rfl, by decide +kernel, rfl, by decide +kernel, by decide +kernel⟩
theorem gates_at (k : Nat) (h : k < 4) : ∃ x, gatesW[k]? = some x ∧ x ∈ gatesW := ⟨gatesW[k]'h, List.getElem?_eq_getElem _, List.getElem_mem _⟩
theorem ok_fprobe {f fD fW fL dN : Addr} {fd fdD fdW fdL : FuncData} (F : Fun K "_law_free_probe" "_law_free_probe" sFProbe f fd) (B : Bts mg) (N : NbK K w dN) (GD : FnOk P w K mg base CX0 1 fD fdD ["pool", "many"] spDraw) (mD : mg "_law_draw" = some (.ref fD)) (kD : PySem.W.keepIn K (.ref fD) = true) (bD : Binds K fdD ["pool", "many"] [])
    (GW : FnOk P w K mg base CX0 2 fW fdW ["pool"] spWord) (mW : mg "_law_word" = some (.ref fW)) (kW : PySem.W.keepIn K (.ref fW) = true) (bW : Binds K fdW ["pool"] [])
    (GL : FnOk P w K mg base CX0 3 fL fdL ["pool"] (spGen K (LookD K w dN) 20)) (mL : mg "_law_free_look" = some (.ref fL)) (kL : PySem.W.keepIn K (.ref fL) = true) (bL : Binds K fdL ["pool"] []) : FnOk P w K mg base CX0 4 f fd ["pool"] (spGen K (PartsD K w dN) 300) := by
  refine F.ok scFP (fun vs H Q E h => ?_) (fun cdv A outer s H vs Q E hr h => ?_)
  · obtain ⟨p, q, n, L, rfl, _⟩ := h
    rfl
  · obtain ⟨p, q, n, L, rfl, hP, hn, al, mp, mq, kk⟩ := h
    have hr1 : Room 1 _ := hr.mono (by decide)
    have hr2 : Room 2 _ := hr.mono (by decide)
    refine ⟨_, pss_cons (ps_set (i := 1) scFP.nd rfl (.inl rfl) (pe_ix ix_list (pe_lst (pa_cons pe_str (pa_cons pe_str (pa_cons pe_str (pa_cons pe_str pa_nil))))) (pe_call GD hr1 (by rfl) mD kD bD .nil pass0 (pa_cons (pv 0) (pa_cons pe_int pa_nil))) (fun _ _ => rfl)))
      (pss_cons (ps_set (i := 2) scFP.nd rfl (.inl rfl) (pe_call GD hr1 (by rfl) mD kD bD .nil pass0 (pa_cons (pv 0) (pa_cons pe_int pa_nil))))
      (pss_cons (ps_set (i := 4) scFP.nd rfl (.inl rfl) (pe_callTy call_tuple_of (by rfl) B.tuple (by decide +kernel) (pa_cons (pe_lc (own := [("k", 3)]) (g := gName 3) (tt := tYes) rfl scFP.nd (pi_range1 (by rfl) B.range (pa_cons (pv 2) pa_nil)) (blkOk_by (N := ["pool", "gate", "many", "k", "args", "x", "test", "body"]) (sc := defScope sFProbe) (by decide +kernel))
          (fun _ _ _ _ _ => pg_name (i := 3) scFP.nd rfl (.inl rfl)) (fun _ _ _ _ _ => pts_nil) (fun _ _ _ _ _ => pe_call GL hr (by rfl) mL kL bL .nil pass0 (pa_cons (pv 0) pa_nil))) pa_nil)))
      (pss_cons (ps_set (i := 5) scFP.nd rfl (.inl rfl) (pe_call GW hr2 (by rfl) mW kW bW .nil pass0 (pa_cons (pv 0) pa_nil)))
      (pss_cons (ps_if (pt_cmpR op_eq (pe_call GD hr1 (by rfl) mD kD bD .nil pass0 (pa_cons (pv 0) (pa_cons pe_int pa_nil))) pe_int (nomark _))
        (pss_cons (ps_set (i := 6) scFP.nd rfl (.inl rfl) (pe_ix ix_list (pe_lst (pa_cons (pe_tup (pa_cons pe_str (pa_cons (pv 5) (pa_cons (pe_call GW hr2 (by rfl) mW kW bW .nil pass0 (pa_cons (pv 0) pa_nil)) pa_nil)))) (pa_cons (pe_tup (pa_cons pe_str (pa_cons (pv 5) pa_nil))) (pa_cons (pe_tup (pa_cons pe_str (pa_cons (pv 5) pa_nil))) (pa_cons (pe_tup (pa_cons pe_str (pa_cons (pv 5) pa_nil))) pa_nil)))))
            (pe_call GD hr1 (by rfl) mD kD bD .nil pass0 (pa_cons (pv 0) (pa_cons pe_int pa_nil))) (fun _ _ => rfl)))
          (pss_one (ps_ret (pe_tup (pa_cons pe_str (pa_cons (pe_call GW hr2 (by rfl) mW kW bW .nil pass0 (pa_cons (pv 0) pa_nil)) (pa_cons (pv 1) (pa_cons (pv 4) (pa_cons (pv 6) pa_nil))))))))) pss_nil)
      (pss_cons (ps_set (i := 7) scFP.nd rfl (.inl rfl) (pe_callTy call_tuple_of (by rfl) B.tuple (by decide +kernel) (pa_cons (pe_lc (own := [("k", 3)]) (g := gName 3) (tt := tYes) rfl scFP.nd (pi_range1 (by rfl) B.range (pa_cons (pe_call GD hr1 (by rfl) mD kD bD .nil pass0 (pa_cons (pv 0) (pa_cons (pe_op op_sub pe_int (pv 2)) pa_nil))) pa_nil)) (blkOk_by (N := ["pool", "gate", "many", "k", "args", "x", "test", "body"]) (sc := defScope sFProbe) (by decide +kernel))
          (fun _ _ _ _ _ => pg_name (i := 3) scFP.nd rfl (.inl rfl)) (fun _ _ _ _ _ => pts_nil) (fun _ _ _ _ _ => pe_call GL hr (by rfl) mL kL bL .nil pass0 (pa_cons (pv 0) pa_nil))) pa_nil)))
      (pss_one (ps_ret (pe_tup (pa_cons pe_str (pa_cons (pv 5) (pa_cons (pv 1) (pa_cons (pv 4) (pa_cons (pv 7) pa_nil))))))))))))), ?_⟩
    -- gate
    refine ⟨by show 4 ≤ sizeLine; decide, fun gl ngl => ?_⟩
    have P1 := hP.new (o := .lst (gatesW.map V.str)) ngl
    have k1 : Keeps p q H (upd H gl (.lst (gatesW.map V.str))) := .upd_new ngl
    have egl : (upd H gl (.lst (gatesW.map V.str))) gl = some (.lst (gatesW.map V.str)) := upd_same
    have glL := al.not ngl
    have glp : gl ≠ p ∧ gl ≠ q := ⟨fun e => glL (by rw [e]; exact mp), fun e => glL (by rw [e]; exact mq)⟩
    have al1 : Alive L (upd H gl (.lst (gatesW.map V.str))) := k1.alive al P1
    refine ⟨_, rfl, p, q, n, 4, rfl, P1, by omega, by decide, by decide, fun d H2 d0 d1 P2 k2 => ?_⟩
    obtain ⟨gk, rfl⟩ : ∃ k : Nat, d = (k : Int) := ⟨d.toNat, by omega⟩
    obtain ⟨g, eg, hg⟩ := gates_at gk (by omega)
    refine ⟨gl, _, _, _, rfl, rfl, SqL.of (k2 _ _ glp.1 glp.2 egl), atI_nat (by rw [List.getElem?_map, eg]; rfl), ?_⟩
    have k12 := k1.trans k2
    have al2 := k12.alive al P2
    -- many, args
    refine ⟨_, rfl, p, q, n + 1, 7, rfl, P2, by omega, by decide, by decide, fun d H3 d0' d1' P3 k3 => ?_⟩
    obtain ⟨m, rfl⟩ : ∃ k : Nat, d = (k : Int) := ⟨d.toNat, by omega⟩
    have k13 := k12.trans k3
    have al3 := k13.alive al P3
    refine ⟨_, rfl, m, rfl, by omega, by omega, fun D nD => ?_⟩
    have DL := al3.not nD
    have nDp : D ≠ p ∧ D ≠ q := ⟨fun e => DL (by rw [e]; exact mp), fun e => DL (by rw [e]; exact mq)⟩
    refine lc_range (lo := 0) (n := (m : Int).toNat) (fun j H5 => ∃ (vs : List V) (ds : List PyData) (n5 : Nat), H5 D = some (.lst vs) ∧ vs.length = j ∧ DpAll K (mask (D :: L) H5) vs ds ∧ (∀ d ∈ ds, LookD K w dN d) ∧ (n + 2) ≤ n5 ∧ n5 ≤ (n + 2) + 20 * j ∧ PoolAt H5 p q n5 ∧ Keeps p q H3 H5)
      ⟨[], [], (n + 2), upd_same, rfl, .nil, fun _ h => (by cases h), by omega, by omega, P3.new nD, .upd_new nD⟩ (fun j H5 hj hI => ?_) (fun H5 hI => ?_)
    · obtain ⟨vs, ds, n5, eD, el, hds, hls, h51, h52, P5, k5⟩ := hI
      have al5 : Alive (D :: L) H5 := fun z hz => by
        rcases List.mem_cons.mp hz with rfl | hz
        · exact ⟨_, eD⟩
        · exact k5.alive al3 P5 z hz
      refine ⟨rfl, _, rfl, p, q, n5, D :: L, rfl, P5, by omega, al5, List.mem_cons_of_mem _ mp, List.mem_cons_of_mem _ mq, fun v d n6 H6 hd hR h61 h62 P6 k6 => ?_⟩
      refine ⟨vs, k6 _ _ nDp.1 nDp.2 eD, small1000 (by omega), vs ++ [v], ds ++ [d], n6, upd_same, by rw [List.length_append, el]; rfl, ?_, fun d' hd' => ?_, by omega, by omega, P6.upd nDp.1 nDp.2, ?_⟩
      · exact dpAll_app (dpAll_same ((Keeps.maskL (List.mem_cons_of_mem _ mp) (List.mem_cons_of_mem _ mq) k6).trans (mask_at List.mem_cons_self)) _ _ hds) (.cons (dp_same (mask_at List.mem_cons_self) _ _ hd) .nil)
      · rcases List.mem_append.mp hd' with hd' | hd'
        · exact hls d' hd'
        · rw [List.mem_singleton.mp hd']; exact hR
      · intro z o z1 z2 e
        have e6 := k6 z o z1 z2 (k5 z o z1 z2 e)
        rw [upd_ne fun h => by rw [h, nD] at e; cases e]
        exact e6
    obtain ⟨avs, as, n5, eD, el, hds, has, h51, h52, P5, k5⟩ := hI
    refine ⟨D, avs, rfl, .inl ⟨SqL.of eD, fun ta nta => ?_⟩⟩
    have al5 := k5.alive al3 P5
    have hA : Dp K (mask L (upd H5 ta (.tup avs))) (.ref ta) (.tuple as) := .tup (SqT.of (mask_upd (al5.not nta))) (dpAll_same (mask_same (same_new nta)) _ _ (dpAll_same mask_less _ _ hds))
    have P6 := P5.new (o := .tup avs) nta
    have k16 : Keeps p q H (upd H5 ta (.tup avs)) := (k13.trans k5).trans (.upd_new nta)
    have al6 := k16.alive al P6
    have hla : as.length = m := by rw [← dpAll_len hds, el]; omega
    generalize upd H5 ta (.tup avs) = H6 at *
    clear eD hds k5 k13 k12 k1 k2 k3 al5 al3 al2 al1
    -- x, which
    refine ⟨_, rfl, p, q, n5, rfl, P6, by omega, fun x n7 H7 hx h71 h72 P7 k7 => ?_⟩
    refine ⟨_, rfl, p, q, n7, 2, rfl, P7, by omega, by decide, by decide, fun dd H8 e0 e1 P8 k8 => ?_⟩
    have k68 := k7.trans k8
    have al8 := k68.alive al6 P8
    have hA8 := dp_same (Keeps.maskL mp mq k68) _ _ hA
    have k18 := k16.trans k68
    refine ⟨rfl, _, rfl, ?_⟩
    have hdd : dd = 1 ∨ dd = 0 := by omega
    rcases hdd with rfl | rfl
    · refine iteT ⟨_, rfl, _, rfl, p, q, n7 + 1, rfl, P8, by omega, fun y n9 H9 hy h91 h92 P9 k9 => ⟨by show 3 ≤ sizeLine; decide, fun t1 nt1 => ?_⟩⟩
      have al9 := k9.alive al8 P9
      have s10 := same_new (o := .tup [.str "has", .str x, .str y]) nt1
      have hd1 : Dp K (mask L (upd H9 t1 (.tup [.str "has", .str x, .str y]))) (.ref t1) (.tuple [.str "has", .str x, .str y]) := .tup (SqT.of (mask_upd (al9.not nt1))) (.cons (.str _) (.cons (.str _) (.cons (.str _) .nil)))
      have al10 := al9.same s10
      have P10 := P9.new (o := .tup [.str "has", .str x, .str y]) nt1
      generalize upd H9 t1 (.tup [.str "has", .str x, .str y]) = H10 at *
      refine ⟨_, rfl, by show 2 ≤ sizeLine; decide, fun t2 nt2 => ?_⟩
      have s11 := same_new (o := .tup [.str "bound", .str x]) nt2
      have hd2 : Dp K (mask L (upd H10 t2 (.tup [.str "bound", .str x]))) (.ref t2) (.tuple [.str "bound", .str x]) := .tup (SqT.of (mask_upd (al10.not nt2))) (.cons (.str _) (.cons (.str _) .nil))
      have al11 := al10.same s11
      have P11 := P10.new (o := .tup [.str "bound", .str x]) nt2
      generalize upd H10 t2 (.tup [.str "bound", .str x]) = H11 at *
      refine ⟨_, rfl, by show 2 ≤ sizeLine; decide, fun t3 nt3 => ?_⟩
      have s12 := same_new (o := .tup [.str "read", .str x]) nt3
      have hd3 : Dp K (mask L (upd H11 t3 (.tup [.str "read", .str x]))) (.ref t3) (.tuple [.str "read", .str x]) := .tup (SqT.of (mask_upd (al11.not nt3))) (.cons (.str _) (.cons (.str _) .nil))
      have al12 := al11.same s12
      have P12 := P11.new (o := .tup [.str "read", .str x]) nt3
      generalize upd H11 t3 (.tup [.str "read", .str x]) = H12 at *
      refine ⟨_, rfl, by show 2 ≤ sizeLine; decide, fun t4 nt4 => ?_⟩
      have s13 := same_new (o := .tup [.str "watch", .str x]) nt4
      have hd4 : Dp K (mask L (upd H12 t4 (.tup [.str "watch", .str x]))) (.ref t4) (.tuple [.str "watch", .str x]) := .tup (SqT.of (mask_upd (al12.not nt4))) (.cons (.str _) (.cons (.str _) .nil))
      have al13 := al12.same s13
      have P13 := P12.new (o := .tup [.str "watch", .str x]) nt4
      generalize upd H12 t4 (.tup [.str "watch", .str x]) = H13 at *
      refine ⟨by show 4 ≤ sizeLine; decide, fun tl ntl => ?_⟩
      have s14 := same_new (o := .lst [.ref t1, .ref t2, .ref t3, .ref t4]) ntl
      have etl : (upd H13 tl (.lst [.ref t1, .ref t2, .ref t3, .ref t4])) tl = some (.lst [.ref t1, .ref t2, .ref t3, .ref t4]) := upd_same
      have tlL := al13.not ntl
      have al14 := al13.same s14
      have P14 := P13.new (o := .lst [.ref t1, .ref t2, .ref t3, .ref t4]) ntl
      generalize upd H13 tl (.lst [.ref t1, .ref t2, .ref t3, .ref t4]) = H14 at *
      refine ⟨_, rfl, p, q, n9, 4, rfl, P14, by omega, by decide, by decide, fun d4 H15 f0 f1 P15 k15 => ?_⟩
      have tlp : tl ≠ p ∧ tl ≠ q := ⟨fun e => tlL (by rw [e]; exact mp), fun e => tlL (by rw [e]; exact mq)⟩
      have k15m := Keeps.maskL mp mq k15
      have s1014 := ((s11.trans s12).trans s13).trans s14
      obtain ⟨tk, y', ds', etk, hdk, hy', hw'⟩ : ∃ tk y' ds', atI [V.ref t1, .ref t2, .ref t3, .ref t4] d4 = some (.ref tk) ∧ Dp K (mask L H15) (.ref tk) (.tuple (.str y' :: ds')) ∧ y' ∈ assertW ∧ WordsD K w dN y' ds' := by
        have hd4' : d4 = 0 ∨ d4 = 1 ∨ d4 = 2 ∨ d4 = 3 := by omega
        rcases hd4' with rfl | rfl | rfl | rfl
        · exact ⟨t1, _, _, atI_nat (j := 0) rfl, dp_same ((mask_same s1014).trans k15m) _ _ hd1, by decide +kernel, words2 N (by decide +kernel) hx hy⟩
        · exact ⟨t2, _, _, atI_nat (j := 1) rfl, dp_same ((mask_same ((s12.trans s13).trans s14)).trans k15m) _ _ hd2, by decide +kernel, words1 N (by decide +kernel) hx⟩
        · exact ⟨t3, _, _, atI_nat (j := 2) rfl, dp_same ((mask_same (s13.trans s14)).trans k15m) _ _ hd3, by decide +kernel, words1 N (by decide +kernel) hx⟩
        · exact ⟨t4, _, _, atI_nat (j := 3) rfl, dp_same ((mask_same s14).trans k15m) _ _ hd4, by decide +kernel, words1 N (by decide +kernel) hx⟩
      refine ⟨tl, _, d4, _, rfl, rfl, SqL.of (k15 _ _ tlp.1 tlp.2 etl), etk, ?_⟩
      have al15 := k15.alive al14 P15
      refine ⟨_, rfl, p, q, n9 + 1, rfl, P15, by omega, fun z n16 H16 hz h161 h162 P16 k16' => ⟨_, rfl, _, rfl, _, rfl, by show 5 ≤ sizeLine; decide, fun tr ntr => ?_⟩⟩
      have al16 := k16'.alive al15 P16
      have k16m := Keeps.maskL mp mq k16'
      have sr := mask_same (l := L) (same_new (o := .tup [.str "assert", .str z, .str g, .ref ta, .ref tk]) ntr)
      have hA16 := dp_same (((Keeps.maskL mp mq k9).trans (mask_same (s10.trans s1014))).trans (k15m.trans (k16m.trans sr))) _ _ hA8
      have hK16 := dp_same (k16m.trans sr) _ _ hdk
      refine kk (.ref tr) (.tuple [.str "assert", .str z, .str g, .tuple as, .tuple (.str y' :: ds')]) n16 _ (.tup (SqT.of (mask_upd (al16.not ntr))) (.cons (.str _) (.cons (.str _) (.cons (.str _) (.cons hA16 (.cons hK16 .nil)))))) (.assert hz hg has (by omega) hy' hw') (by omega) (by omega) (P16.new ntr) ?_
      exact ((((k18.trans k9).trans (.of_same (s10.trans s1014))).trans k15).trans k16').trans (.upd_new ntr)
    · refine iteF ⟨_, rfl, _, rfl, 7, m, rfl, rfl, p, q, n7 + 1, _, rfl, P8, by omega, by omega, by omega, fun d9 H9 f0 f1 P9 k9 => ?_⟩
      obtain ⟨m2, rfl⟩ : ∃ k : Nat, d9 = (k : Int) := ⟨d9.toNat, by omega⟩
      have al9 := k9.alive al8 P9
      refine ⟨m2, rfl, by omega, by omega, fun D nD => ?_⟩
      have DL := al9.not nD
      have nDp : D ≠ p ∧ D ≠ q := ⟨fun e => DL (by rw [e]; exact mp), fun e => DL (by rw [e]; exact mq)⟩
      refine lc_range (lo := 0) (n := (m2 : Int).toNat) (fun j H5 => ∃ (vs : List V) (ds : List PyData) (n5 : Nat), H5 D = some (.lst vs) ∧ vs.length = j ∧ DpAll K (mask (D :: L) H5) vs ds ∧ (∀ d ∈ ds, LookD K w dN d) ∧ (n7 + 2) ≤ n5 ∧ n5 ≤ (n7 + 2) + 20 * j ∧ PoolAt H5 p q n5 ∧ Keeps p q H9 H5)
        ⟨[], [], (n7 + 2), upd_same, rfl, .nil, fun _ h => (by cases h), by omega, by omega, P9.new nD, .upd_new nD⟩ (fun j H5 hj hI => ?_) (fun H5 hI => ?_)
      · obtain ⟨vs, ds, n5, eD, el, hds, hls, h51, h52, P5, k5⟩ := hI
        have al5 : Alive (D :: L) H5 := fun z hz => by
          rcases List.mem_cons.mp hz with rfl | hz
          · exact ⟨_, eD⟩
          · exact k5.alive al9 P5 z hz
        refine ⟨rfl, _, rfl, p, q, n5, D :: L, rfl, P5, by omega, al5, List.mem_cons_of_mem _ mp, List.mem_cons_of_mem _ mq, fun v d n6 H6 hd hR h61 h62 P6 k6 => ?_⟩
        refine ⟨vs, k6 _ _ nDp.1 nDp.2 eD, small1000 (by omega), vs ++ [v], ds ++ [d], n6, upd_same, by rw [List.length_append, el]; rfl, ?_, fun d' hd' => ?_, by omega, by omega, P6.upd nDp.1 nDp.2, ?_⟩
        · exact dpAll_app (dpAll_same ((Keeps.maskL (List.mem_cons_of_mem _ mp) (List.mem_cons_of_mem _ mq) k6).trans (mask_at List.mem_cons_self)) _ _ hds) (.cons (dp_same (mask_at List.mem_cons_self) _ _ hd) .nil)
        · rcases List.mem_append.mp hd' with hd' | hd'
          · exact hls d' hd'
          · rw [List.mem_singleton.mp hd']; exact hR
        · intro z o z1 z2 e
          have e6 := k6 z o z1 z2 (k5 z o z1 z2 e)
          rw [upd_ne fun h => by rw [h, nD] at e; cases e]
          exact e6
      · obtain ⟨bvs, bs, n15, eD, el, hds, hbs, h151, h152, P15, k15⟩ := hI
        refine ⟨D, bvs, rfl, .inl ⟨SqL.of eD, fun tb ntb => ?_⟩⟩
        have al15 := k15.alive al9 P15
        have stb := mask_same (l := L) (same_new (o := .tup bvs) ntb)
        have hB : Dp K (mask L (upd H5 tb (.tup bvs))) (.ref tb) (.tuple bs) := .tup (SqT.of (mask_upd (al15.not ntb))) (dpAll_same stb _ _ (dpAll_same mask_less _ _ hds))
        have hA15 := dp_same ((Keeps.maskL mp mq (k9.trans k15)).trans stb) _ _ hA8
        have P16 := P15.new (o := .tup bvs) ntb
        have k16' : Keeps p q H (upd H5 tb (.tup bvs)) := ((k18.trans k9).trans k15).trans (.upd_new ntb)
        have al16 := k16'.alive al P16
        have hlb : bs.length = m2 := by rw [← dpAll_len hds, el]; omega
        generalize upd H5 tb (.tup bvs) = H16 at *
        refine ⟨_, rfl, _, rfl, _, rfl, _, rfl, by show 5 ≤ sizeLine; decide, fun tr ntr => ?_⟩
        have sr := mask_same (l := L) (same_new (o := .tup [.str "probe", .str x, .str g, .ref ta, .ref tb]) ntr)
        exact kk (.ref tr) (.tuple [.str "probe", .str x, .str g, .tuple as, .tuple bs]) n15 _ (.tup (SqT.of (mask_upd (al16.not ntr))) (.cons (.str _) (.cons (.str _) (.cons (.str _) (.cons (dp_same sr _ _ hA15) (.cons (dp_same sr _ _ hB) .nil)))))) (.probe hx hg has hbs (by omega)) (by omega) (by omega) (P16.new ntr) (k16'.trans (.upd_new ntr))
end
theorem list_pick {K : PySem.W.Frag} {L : List Addr} {p q : Addr} {H H' : Hp} {v : V} {ds : List PyData} (hv : Dp K (mask L H) v (.list ds)) (k : Keeps p q H H') (mp : p ∈ L) (mq : q ∈ L) : ∃ a vs, v = .ref a ∧ SqL K H' a vs ∧ DpAll K (mask L H') vs ds := by
  have h := dp_same (Keeps.maskL mp mq k) _ _ hv
  cases h with
  | lst h1 h2 => exact ⟨_, _, rfl, (mask_sub _ _).seq h1, h2⟩
def rows0 (x : Str) : List PyData := [.tuple [.str "say", .str x], .tuple [.str "stop"], .tuple [.str "call", .str x], .tuple [.str "else"], .tuple [.str "end"]]
def rows1 (x y : Str) : List PyData := [.tuple [.str "if", .str "ask", .str x], .tuple [.str "if", .str "take", .str x], .tuple [.str "if", .str "has", .str x, .str y], .tuple [.str "if", .str "read", .str x], .tuple [.str "if", .str "bound", .str x], .tuple [.str "while", .str "ask", .str x], .tuple [.str "while", .str "take", .str x]]
section
variable {K : PySem.W.Frag} {w : World} {dN : Addr} {x y : Str}
theorem rows0_ok (N : NbK K w dN) (hx : IsWord x) {i : Nat} (h : i < 5) : ∃ d, (rows0 x)[i]? = some d ∧ RowD K w dN d true := by
  match i with
  | 0 => exact ⟨_, rfl, .deed (.inr (by decide +kernel)) (words1 N (by decide +kernel) hx)⟩
  | 1 => exact ⟨_, rfl, .deed (.inr (by decide +kernel)) (words0 N (by decide +kernel))⟩
  | 2 => exact ⟨_, rfl, .deed (.inr (by decide +kernel)) (words1 N (by decide +kernel) hx)⟩
  | 3 => exact ⟨_, rfl, .deed (.inr (by decide +kernel)) (words0 N (by decide +kernel))⟩
  | 4 => exact ⟨_, rfl, .deed (.inr (by decide +kernel)) (words0 N (by decide +kernel))⟩
  | i + 5 => omega
theorem rows1_ok (N : NbK K w dN) (hx : IsWord x) (hy : IsWord y) {i : Nat} (h : i < 7) : ∃ d, (rows1 x y)[i]? = some d ∧ RowD K w dN d true := by
  match i with
  | 0 => exact ⟨_, rfl, .iff (by decide +kernel) (words1 N (by decide +kernel) hx)⟩
  | 1 => exact ⟨_, rfl, .iff (by decide +kernel) (words1 N (by decide +kernel) hx)⟩
  | 2 => exact ⟨_, rfl, .iff (by decide +kernel) (words2 N (by decide +kernel) hx hy)⟩
  | 3 => exact ⟨_, rfl, .iff (by decide +kernel) (words1 N (by decide +kernel) hx)⟩
  | 4 => exact ⟨_, rfl, .iff (by decide +kernel) (words1 N (by decide +kernel) hx)⟩
  | 5 => exact ⟨_, rfl, .loop (by decide +kernel) (words1 N (by decide +kernel) hx)⟩
  | 6 => exact ⟨_, rfl, .loop (by decide +kernel) (words1 N (by decide +kernel) hx)⟩
  | i + 7 => omega
end
def frW : List Str := ["take", "skip", "drain", "fetch", "roll", "seed", "size", "keys", "load", "wipe", "change", "look", "glance", "renew", "lift", "read", "watch", "keep", "tell", "bind", "copy", "get", "peek", "put", "fill", "drop"]
theorem frW_ok : ∀ k : Fin 26, frW.getD k.val ("" : Str) ∈ deedsW ∧ (frW.getD k.val ("" : Str), if k.val < 19 then 1 else 2) ∈ nbW := by decide +kernel
theorem frW_at (k : Nat) (h : k < 26) : ∃ x, frW[k]? = some x ∧ x ∈ deedsW ∧ (x, if k < 19 then 1 else 2) ∈ nbW := by
  have := frW_ok ⟨k, h⟩
  refine ⟨frW.getD k ("" : Str), ?_, this.1, this.2⟩
  rw [List.getD_eq_getElem?_getD, List.getElem?_eq_getElem (show k < frW.length from h)]
  rfl
section
variable {P : Program} {w : World} {K : PySem.W.Frag} {mg : Str → Option Value} {base : Heap}
theorem scFR : FnScope ["pool", "pick", "x", "y", "words", "k"] ["pool"] (defScope sFRow) := ⟨rfl, rfl, rfl, by decide +kernel, rfl, by decide +kernel, by decide +kernel⟩
theorem ok_frow {f fD fW fB dN : Addr} {fd fdD fdW fdB : FuncData} (F : Fun K "_law_free_row" "_law_free_row" sFRow f fd) (N : NbK K w dN) (GD : FnOk P w K mg base CX0 1 fD fdD ["pool", "many"] spDraw) (mD : mg "_law_draw" = some (.ref fD)) (kD : PySem.W.keepIn K (.ref fD) = true) (bD : Binds K fdD ["pool", "many"] [])
    (GW : FnOk P w K mg base CX0 2 fW fdW ["pool"] spWord) (mW : mg "_law_word" = some (.ref fW)) (kW : PySem.W.keepIn K (.ref fW) = true) (bW : Binds K fdW ["pool"] [])
    (GB : FnOk P w K mg base CX0 4 fB fdB ["pool"] (spGen K (PartsD K w dN) 300)) (mB : mg "_law_free_probe" = some (.ref fB)) (kB : PySem.W.keepIn K (.ref fB) = true) (bB : Binds K fdB ["pool"] []) : FnOk P w K mg base CX0 5 f fd ["pool"] (spGen K (fun d => RowD K w dN d true) 400) := by
  refine F.ok scFR (fun vs H Q E h => ?_) (fun cdv A outer s H vs Q E hr h => ?_)
  · obtain ⟨p, q, n, L, rfl, _⟩ := h
    rfl
  · obtain ⟨p, q, n, L, rfl, hP, hn, al, mp, mq, kk⟩ := h
    have hr1 : Room 1 _ := hr.mono (by decide)
    have hr2 : Room 2 _ := hr.mono (by decide)
    refine ⟨_, pss_cons (ps_set (i := 1) scFR.nd rfl (.inl rfl) (pe_call GD hr1 (by rfl) mD kD bD .nil pass0 (pa_cons (pv 0) (pa_cons pe_int pa_nil))))
      (pss_cons (ps_set (i := 2) scFR.nd rfl (.inl rfl) (pe_call GW hr2 (by rfl) mW kW bW .nil pass0 (pa_cons (pv 0) pa_nil)))
      (pss_cons (ps_set (i := 3) scFR.nd rfl (.inl rfl) (pe_call GW hr2 (by rfl) mW kW bW .nil pass0 (pa_cons (pv 0) pa_nil)))
      (pss_cons (ps_if (pt_cmpR op_eq (pv 1) pe_int (nomark _)) (pss_one (ps_ret (pe_ix ix_list (de_lst (da_cons (de_tup (da_cons de_str (da_cons (dv 2 (pv 2)) da_nil))) (da_cons (de_tup (da_cons de_str da_nil)) (da_cons (de_tup (da_cons de_str (da_cons (dv 2 (pv 2)) da_nil))) (da_cons (de_tup (da_cons de_str da_nil)) (da_cons (de_tup (da_cons de_str da_nil)) da_nil)))))).pe
          (pe_call GD hr1 (by rfl) mD kD bD .nil pass0 (pa_cons (pv 0) (pa_cons pe_int pa_nil))) (fun _ _ => rfl)))) pss_nil)
      (pss_cons (ps_if (pt_cmpR op_eq (pv 1) pe_int (nomark _)) (pss_one (ps_ret (pe_ix ix_list (de_lst (da_cons (de_tup (da_cons de_str (da_cons de_str (da_cons (dv 2 (pv 2)) da_nil)))) (da_cons (de_tup (da_cons de_str (da_cons de_str (da_cons (dv 2 (pv 2)) da_nil)))) (da_cons (de_tup (da_cons de_str (da_cons de_str (da_cons (dv 2 (pv 2)) (da_cons (dv 3 (pv 3)) da_nil))))) (da_cons (de_tup (da_cons de_str (da_cons de_str (da_cons (dv 2 (pv 2)) da_nil)))) (da_cons (de_tup (da_cons de_str (da_cons de_str (da_cons (dv 2 (pv 2)) da_nil)))) (da_cons (de_tup (da_cons de_str (da_cons de_str (da_cons (dv 2 (pv 2)) da_nil)))) (da_cons (de_tup (da_cons de_str (da_cons de_str (da_cons (dv 2 (pv 2)) da_nil)))) da_nil)))))))).pe
          (pe_call GD hr1 (by rfl) mD kD bD .nil pass0 (pa_cons (pv 0) (pa_cons pe_int pa_nil))) (fun _ _ => rfl)))) pss_nil)
      (pss_cons (ps_if (pt_cmpR op_lt (pv 1) pe_int (nomark _)) (pss_one (ps_ret (pe_call GB hr (by rfl) mB kB bB .nil pass0 (pa_cons (pv 0) pa_nil)))) pss_nil)
      (pss_cons (ps_set (i := 4) scFR.nd rfl (.inl rfl) (pe_lst (pa_cons pe_str (pa_cons pe_str (pa_cons pe_str (pa_cons pe_str (pa_cons pe_str (pa_cons pe_str (pa_cons pe_str (pa_cons pe_str (pa_cons pe_str (pa_cons pe_str (pa_cons pe_str (pa_cons pe_str (pa_cons pe_str (pa_cons pe_str (pa_cons pe_str (pa_cons pe_str (pa_cons pe_str (pa_cons pe_str (pa_cons pe_str (pa_cons pe_str (pa_cons pe_str (pa_cons pe_str (pa_cons pe_str (pa_cons pe_str (pa_cons pe_str (pa_cons pe_str pa_nil))))))))))))))))))))))))))))
      (pss_cons (ps_set (i := 5) scFR.nd rfl (.inl rfl) (pe_call GD hr1 (by rfl) mD kD bD .nil pass0 (pa_cons (pv 0) (pa_cons pe_int pa_nil))))
      (pss_one (ps_ret (pe_ifExp (pt_cmpR op_lt (pv 5) pe_int (nomark _)) (pe_tup (pa_cons (pe_ix ix_list (pv 4) (pv 5) (fun _ _ => rfl)) (pa_cons (pv 2) pa_nil))) (pe_tup (pa_cons (pe_ix ix_list (pv 4) (pv 5) (fun _ _ => rfl)) (pa_cons (pv 2) (pa_cons (pv 3) pa_nil)))))))))))))), ?_⟩
    refine ⟨_, rfl, p, q, n, 8, rfl, hP, by omega, by decide, by decide, fun d H1 d0 d1 P1 k1 => ?_⟩
    refine ⟨_, rfl, p, q, n + 1, rfl, P1, by omega, fun x n2 H2 hx h21 h22 P2 k2 => ?_⟩
    refine ⟨_, rfl, p, q, n2, rfl, P2, by omega, fun y n3 H3 hy h31 h32 P3 k3 => ?_⟩
    have k13 := (k1.trans k2).trans k3
    have al3 := k13.alive al P3
    obtain ⟨pk, rfl⟩ : ∃ k : Nat, d = (k : Int) := ⟨d.toNat, by omega⟩
    refine ⟨_, rfl, rfl, _, rfl, ?_⟩
    show (if decide (V.int (pk : Int) = V.int 0) = true then _ else _)
    by_cases h0 : pk = 0
    · rw [decide_eq_true (by rw [h0]; rfl)]
      refine iteT ⟨L, .list (rows0 x), al3, ⟨rows0 x, rfl, by show 5 ≤ 1000; decide, _, _, rfl, ⟨_, rfl, by show 2 ≤ 1000; decide, _, _, rfl, rfl, _, _, rfl, ⟨_, rfl, .str x⟩, rfl⟩, _, _, rfl, ⟨_, rfl, by show 1 ≤ 1000; decide, _, _, rfl, rfl, rfl⟩, _, _, rfl, ⟨_, rfl, by show 2 ≤ 1000; decide, _, _, rfl, rfl, _, _, rfl, ⟨_, rfl, .str x⟩, rfl⟩, _, _, rfl, ⟨_, rfl, by show 1 ≤ 1000; decide, _, _, rfl, rfl, rfl⟩, _, _, rfl, ⟨_, rfl, by show 1 ≤ 1000; decide, _, _, rfl, rfl, rfl⟩, rfl⟩, fun v H4 s4 hv => ?_⟩
      have P4 := P3.same s4
      refine ⟨_, rfl, p, q, n3, 5, rfl, P4, by omega, by decide, by decide, fun d5 H5 e0 e1 P5 k5 => ?_⟩
      obtain ⟨a, vs, rfl, ha, hvs⟩ := list_pick hv k5 mp mq
      obtain ⟨i, rfl⟩ : ∃ k : Nat, d5 = (k : Int) := ⟨d5.toNat, by omega⟩
      obtain ⟨dr, edr, hdr⟩ := rows0_ok N hx (i := i) (by omega)
      obtain ⟨vr, evr, hvr⟩ := dpAll_get hvs edr
      exact ⟨a, _, _, _, rfl, rfl, ha, atI_nat evr, kk vr dr (n3 + 1) H5 hvr hdr (by omega) (by omega) P5 ((k13.trans (.of_same s4)).trans k5)⟩
    · rw [decide_eq_false (fun e => by injection e with e; omega)]
      refine iteF ⟨_, rfl, rfl, _, rfl, ?_⟩
      show (if decide (V.int (pk : Int) = V.int 1) = true then _ else _)
      by_cases h1 : pk = 1
      · rw [decide_eq_true (by rw [h1]; rfl)]
        refine iteT ⟨L, .list (rows1 x y), al3, ⟨rows1 x y, rfl, by show 7 ≤ 1000; decide, _, _, rfl, ⟨_, rfl, by show 3 ≤ 1000; decide, _, _, rfl, rfl, _, _, rfl, rfl, _, _, rfl, ⟨_, rfl, .str x⟩, rfl⟩, _, _, rfl, ⟨_, rfl, by show 3 ≤ 1000; decide, _, _, rfl, rfl, _, _, rfl, rfl, _, _, rfl, ⟨_, rfl, .str x⟩, rfl⟩, _, _, rfl, ⟨_, rfl, by show 4 ≤ 1000; decide, _, _, rfl, rfl, _, _, rfl, rfl, _, _, rfl, ⟨_, rfl, .str x⟩, _, _, rfl, ⟨_, rfl, .str y⟩, rfl⟩, _, _, rfl, ⟨_, rfl, by show 3 ≤ 1000; decide, _, _, rfl, rfl, _, _, rfl, rfl, _, _, rfl, ⟨_, rfl, .str x⟩, rfl⟩, _, _, rfl, ⟨_, rfl, by show 3 ≤ 1000; decide, _, _, rfl, rfl, _, _, rfl, rfl, _, _, rfl, ⟨_, rfl, .str x⟩, rfl⟩, _, _, rfl, ⟨_, rfl, by show 3 ≤ 1000; decide, _, _, rfl, rfl, _, _, rfl, rfl, _, _, rfl, ⟨_, rfl, .str x⟩, rfl⟩, _, _, rfl, ⟨_, rfl, by show 3 ≤ 1000; decide, _, _, rfl, rfl, _, _, rfl, rfl, _, _, rfl, ⟨_, rfl, .str x⟩, rfl⟩, rfl⟩, fun v H4 s4 hv => ?_⟩
        have P4 := P3.same s4
        refine ⟨_, rfl, p, q, n3, 7, rfl, P4, by omega, by decide, by decide, fun d5 H5 e0 e1 P5 k5 => ?_⟩
        obtain ⟨a, vs, rfl, ha, hvs⟩ := list_pick hv k5 mp mq
        obtain ⟨i, rfl⟩ : ∃ k : Nat, d5 = (k : Int) := ⟨d5.toNat, by omega⟩
        obtain ⟨dr, edr, hdr⟩ := rows1_ok N hx hy (i := i) (by omega)
        obtain ⟨vr, evr, hvr⟩ := dpAll_get hvs edr
        exact ⟨a, _, _, _, rfl, rfl, ha, atI_nat evr, kk vr dr (n3 + 1) H5 hvr hdr (by omega) (by omega) P5 ((k13.trans (.of_same s4)).trans k5)⟩
      · rw [decide_eq_false (fun e => by injection e with e; omega)]
        refine iteF ⟨_, rfl, _, _, rfl, rfl, _, rfl, ?_⟩
        show (if decide ((pk : Int) < 5) = true then _ else _)
        by_cases h5 : pk < 5
        · rw [decide_eq_true (by omega : (pk : Int) < 5)]
          exact iteT ⟨_, rfl, p, q, n3, L, rfl, P3, by omega, al3, mp, mq, fun v d n4 H4 hd hR h41 h42 P4 k4 => kk v d n4 H4 hd (.probe hR) (by omega) (by omega) P4 (k13.trans k4)⟩
        · rw [decide_eq_false (by omega : ¬ (pk : Int) < 5)]
          refine iteF ⟨by show 26 ≤ sizeLine; decide, fun wl nwl => ?_⟩
          have P4 := P3.new (o := .lst (frW.map V.str)) nwl
          have k4 : Keeps p q H3 (upd H3 wl (.lst (frW.map V.str))) := .upd_new nwl
          have ewl : (upd H3 wl (.lst (frW.map V.str))) wl = some (.lst (frW.map V.str)) := upd_same
          have wlL := al3.not nwl
          have wlp : wl ≠ p ∧ wl ≠ q := ⟨fun e => wlL (by rw [e]; exact mp), fun e => wlL (by rw [e]; exact mq)⟩
          refine ⟨_, rfl, p, q, n3, 26, rfl, P4, by omega, by decide, by decide, fun d5 H5 e0 e1 P5 k5 => ?_⟩
          have k15 := (k13.trans k4).trans k5
          have al5 := k15.alive al P5
          have ewl5 := k5 _ _ wlp.1 wlp.2 ewl
          obtain ⟨i, rfl⟩ : ∃ k : Nat, d5 = (k : Int) := ⟨d5.toNat, by omega⟩
          obtain ⟨z, ez, hz, hnb⟩ := frW_at i (by omega)
          have ezV : atI (frW.map V.str) (i : Int) = some (.str z) := atI_nat (by rw [List.getElem?_map, ez]; rfl)
          refine ⟨_, rfl, _, _, rfl, rfl, _, rfl, ?_⟩
          show (if decide ((i : Int) < 19) = true then _ else _)
          by_cases hk : i < 19
          · rw [decide_eq_true (by omega : (i : Int) < 19)]
            rw [if_pos hk] at hnb
            refine iteT ⟨_, rfl, _, rfl, wl, _, _, _, rfl, rfl, SqL.of ewl5, ezV, _, rfl, by show 2 ≤ sizeLine; decide, fun t nt => ?_⟩
            exact kk (.ref t) (.tuple [.str z, .str x]) (n3 + 1) _ (.tup (SqT.of (mask_upd (al5.not nt))) (.cons (.str _) (.cons (.str _) .nil))) (.deed (.inl hz) (words1 N hnb hx)) (by omega) (by omega) (P5.new nt) (k15.trans (.upd_new nt))
          · rw [decide_eq_false (by omega : ¬ (i : Int) < 19)]
            rw [if_neg hk] at hnb
            refine iteF ⟨_, rfl, _, rfl, wl, _, _, _, rfl, rfl, SqL.of ewl5, ezV, _, rfl, _, rfl, by show 3 ≤ sizeLine; decide, fun t nt => ?_⟩
            exact kk (.ref t) (.tuple [.str z, .str x, .str y]) (n3 + 1) _ (.tup (SqT.of (mask_upd (al5.not nt))) (.cons (.str _) (.cons (.str _) (.cons (.str _) .nil)))) (.deed (.inl hz) (words2 N hnb hx hy)) (by omega) (by omega) (P5.new nt) (k15.trans (.upd_new nt))
end
/-! ### rules over a given written part: within comprehensions -/
section
variable {X : Cx} {K : PySem.W.Frag}
theorem ixK {r : PySem.W.Frag → R2} (h : IxR X (r X.K)) (hK : X.K = K := by rfl) : IxR X (r K) := hK ▸ h
theorem opK {f : Value → Value → Sem Value} {r : PySem.W.Frag → R2} (h : OpR X f (r X.K)) (hK : X.K = K := by rfl) : OpR X f (r K) := hK ▸ h
theorem callK {f : Value} {r : PySem.W.Frag → List V → Hp → VK → Prop} (h : CallR X f (r X.K)) (hK : X.K = K := by rfl) : CallR X f (r K) := hK ▸ h
theorem slK {r : PySem.W.Frag → V → Option Int → Option Int → Hp → VK → Prop} (h : SlR X (r X.K)) (hK : X.K = K := by rfl) : SlR X (r K) := hK ▸ h
theorem peK {e : Expr} {t : PySem.W.Frag → TE} (h : PE X e (t X.K)) (hK : X.K = K := by rfl) : PE X e (t K) := hK ▸ h
theorem ptK {e : Expr} {t : PySem.W.Frag → TT} (h : PT X e (t X.K)) (hK : X.K = K := by rfl) : PT X e (t K) := hK ▸ h
theorem paK {es : List Expr} {t : PySem.W.Frag → TA} (h : PA X es (t X.K)) (hK : X.K = K := by rfl) : PA X es (t K) := hK ▸ h
theorem pe_fldK {e : Expr} {f : Str} {pos : Pos} {ta : TE} (he : PE X e ta) (hb : attributeBase e f X.env (eval e X.env) = eval e X.env) (hK : X.K = K := by rfl) : PE X (.Attribute e f pos) (tFld K ta f) :=
  peK (t := fun K => tFld K ta f) (pe_fld he hb) hK
theorem pt_truthK {a : Expr} {ta : TE} (ha : PE X a ta) (he : ∀ whole, isTrue a X.env whole = (do let v ← whole; standAt a.pos; holding [v] (truthy v))) (hK : X.K = K := by rfl) : PT X a (tTru K ta) :=
  ptK (t := fun K => tTru K ta) (pt_truth ha he) hK
theorem pa_starK {e : Expr} {es : List Expr} {p : Pos} {te : TE} {t : TA} (he : PE X e te) (hr : PA X es t) (hK : X.K = K := by rfl) (hs : starEach (.Starred e p :: es) X.env = (true, eval e X.env) :: starEach es X.env := by rfl) : PA X (.Starred e p :: es) (StX.tStar K te t) :=
  paK (t := fun K => StX.tStar K te t) (StX.pa_star he hr hs) hK
end
def rLenS (K : PySem.W.Frag) : List V → Hp → VK → Prop := fun xs H Q => ∃ p ys, xs = [.ref p] ∧ (SqL K H p ys ∨ SqT K H p ys) ∧ Q (.int ys.length) H
def rLstOf (K : PySem.W.Frag) : List V → Hp → VK → Prop := fun xs H Q => ∃ p ys, xs = [.ref p] ∧ (SqL K H p ys ∨ SqT K H p ys) ∧ ∀ l, H l = none → Q (.ref l) (upd H l (.lst ys))
/-- tuple(x): a list's or a tuple's -/
structure rTupOf (K : PySem.W.Frag) (xs : List V) (H : Hp) (Q : VK) : Prop where
  ex : ∃ p ys, xs = [.ref p] ∧ ((SqL K H p ys ∧ ∀ l, H l = none → Q (.ref l) (upd H l (.tup ys))) ∨ (SqT K H p ys ∧ Q (.ref p) H))
theorem call_tupS {X : Cx} : CallR X (.type "tuple") (rTupOf X.K) := fun pins s σ H xs us Q I r h => call_tuple_of pins s σ H xs us Q I r h.ex
def tJoinK (K : PySem.W.Frag) (to te : TE) : TE := tM1 (fun x xs H Q => ∃ a p, ∃ ys : List Str, x = .str a ∧ xs = [.ref p] ∧ (SqL K H p (ys.map V.str) ∨ SqT K H p (ys.map V.str)) ∧ (ys.map (·.length)).sum + ys.length * a.length ≤ 16777216 ∧ Q (.str (Txt.join a ys)) H) to te
theorem pe_joinK {X : Cx} {K : PySem.W.Frag} {o e : Expr} {to te : TE} {apos pos : Pos} (ho : PE X o to) (he : PE X e te) (hK : X.K = K := by rfl) (hs : starEach [e] X.env = [(false, eval e X.env)] := by rfl) (hbase : attributeBase o "join" X.env (eval o X.env) = eval o X.env := by rfl) (hline : (apos.endLine == pos.line) = true := by rfl) :
    PE X (.Call (.Attribute o "join" apos) [e] [] pos) (tJoinK K to te) := peK (t := fun K => tJoinK K to te) (pe_join ho he hs hbase hline) hK
/-! ### texts of words: joined and split again -/
section
open SX
theorem free_mid {a m b : Nat} (ha : a ≠ m) : ∀ {p : List Nat}, m ∉ p → free [a, m, b] p = true
  | [], _ => rfl
  | c :: r, h => by
    show (!(TL.pre [a, m, b] (c :: (r ++ [a, m, b]))) && free [a, m, b] r) = true
    rw [free_mid ha (fun e => h (List.mem_cons_of_mem _ e)), Bool.and_true, Bool.not_eq_true']
    unfold TL.pre
    rw [beq_eq_false_iff_ne]
    intro e
    cases r with
    | nil => exact ha (by injection e with _ e; injection e)
    | cons d r => exact h (by injection e with _ e; injection e with e _; rw [← e]; exact List.mem_cons_of_mem _ List.mem_cons_self)
theorem last_mid {a m b : Nat} {p : List Nat} (h : m ∉ p) : ∀ i, i < p.length → TL.pre [a, m, b] (p.drop i) = false := fun i _ => by
  unfold TL.pre
  rw [beq_eq_false_iff_ne]
  intro e
  have : m ∈ (p.drop i).take 3 := by rw [show [a, m, b].length = 3 from rfl] at e; rw [e]; simp
  exact h (List.mem_of_mem_drop (List.mem_of_mem_take this))
theorem spl_mid {a m b : Nat} (ha : a ≠ m) : ∀ {parts : List (List Nat)}, parts ≠ [] → (∀ p ∈ parts, m ∉ p) → TL.spl [a, m, b] 0 [] (TL.joinL [a, m, b] parts) = parts
  | [], h, _ => absurd rfl h
  | [p], _, h => by
    have := TL.spl_last (acc := []) (last_mid (a := a) (b := b) (h p List.mem_cons_self))
    rw [List.nil_append] at this
    exact this
  | p :: q :: r, _, h => by
    show TL.spl [a, m, b] 0 [] (p ++ ([a, m, b] ++ TL.joinL [a, m, b] (q :: r))) = p :: q :: r
    rw [spl_free _ (List.cons_ne_nil _ _) (free_mid ha (h p List.mem_cons_self)), spl_mid ha (List.cons_ne_nil _ _) fun x hx => h x (List.mem_cons_of_mem _ hx)]
/-- split by what joined, a sign of which is in no part -/
theorem split_mid {y : Str} {a m b : Nat} {parts : List Str} (ey : TL.tl y = [a, m, b]) (hk : y.cps.all (· < 256) = true) (ha : a ≠ m) (hne : parts ≠ []) (h : ∀ p ∈ parts, m ∉ TL.tl p) : Txt.split (Txt.join y parts) y = parts := by
  refine TL.map_tl_inj ?_
  rw [TL.split_spl _ y (by rw [ey]; simp) (TL.kind_ok hk), TL.join_eq, TL.tl_join, ey]
  refine spl_mid ha (fun e => hne (List.map_eq_nil_iff.mp e)) fun p hp => ?_
  obtain ⟨x, hx, rfl⟩ := List.mem_map.mp hp
  exact h x hx
theorem joinL_mem {s : List Nat} {c : Nat} : ∀ {parts : List (List Nat)}, c ∈ TL.joinL s parts → c ∈ s ∨ ∃ p ∈ parts, c ∈ p
  | [], h => by cases h
  | [p], h => .inr ⟨p, List.mem_cons_self, h⟩
  | p :: q :: r, h => by
    have h : c ∈ p ++ (s ++ TL.joinL s (q :: r)) := h
    rcases List.mem_append.mp h with h | h
    · exact .inr ⟨p, List.mem_cons_self, h⟩
    rcases List.mem_append.mp h with h | h
    · exact .inl h
    · rcases joinL_mem h with h | ⟨x, hx, hc⟩
      · exact .inl h
      · exact .inr ⟨x, List.mem_cons_of_mem _ hx, hc⟩
theorem join_mem {sep : Str} {parts : List Str} {c : Nat} (h : c ∈ (Txt.join sep parts).cps.toList) : c ∈ sep.cps.toList ∨ ∃ p ∈ parts, c ∈ p.cps.toList := by
  have e : (Txt.join sep parts).cps.toList = TL.joinL sep.cps.toList (parts.map TL.tl) := by
    rw [TL.join_eq]; exact TL.tl_join sep parts
  rw [e] at h
  rcases joinL_mem h with h | ⟨p, hp, hc⟩
  · exact .inl h
  · obtain ⟨x, hx, rfl⟩ := List.mem_map.mp hp
    exact .inr ⟨x, hx, hc⟩
theorem joinL_len {s : List Nat} {B : Nat} : ∀ {parts : List (List Nat)}, (∀ p ∈ parts, p.length ≤ B) → (TL.joinL s parts).length ≤ parts.length * (B + s.length)
  | [], _ => Nat.zero_le _
  | [p], h => by
    have := h p List.mem_cons_self
    show p.length ≤ 1 * _
    omega
  | p :: q :: r, h => by
    have h1 := h p List.mem_cons_self
    have h2 := joinL_len (s := s) (parts := q :: r) fun x hx => h x (List.mem_cons_of_mem _ hx)
    show (p ++ (s ++ TL.joinL s (q :: r))).length ≤ _
    rw [List.length_append, List.length_append, List.length_cons (as := q :: r), Nat.succ_mul]
    omega
theorem join_len {sep : Str} {parts : List Str} {B : Nat} (h : ∀ p ∈ parts, p.length ≤ B) : (Txt.join sep parts).length ≤ parts.length * (B + sep.length) := by
  have e : (Txt.join sep parts).cps.toList = TL.joinL sep.cps.toList (parts.map TL.tl) := by
    rw [TL.join_eq]; exact TL.tl_join sep parts
  rw [TL.len_tl]
  show (Txt.join sep parts).cps.toList.length ≤ _
  rw [e]
  have := joinL_len (s := sep.cps.toList) (B := B) (parts := parts.map TL.tl) fun p hp => by
    obtain ⟨x, hx, rfl⟩ := List.mem_map.mp hp
    rw [← TL.len_tl]; exact h x hx
  rw [List.length_map] at this
  rw [TL.len_tl sep]; exact this
theorem sum_le {B : Nat} : ∀ {xs : List Str}, (∀ x ∈ xs, x.length ≤ B) → (xs.map (·.length)).sum ≤ B * xs.length
  | [], _ => Nat.zero_le _
  | x :: r, h => by
    rw [List.map_cons, List.sum_cons, List.length_cons, Nat.mul_succ]
    have := h x List.mem_cons_self
    have := sum_le (xs := r) fun y hy => h y (List.mem_cons_of_mem _ hy)
    omega
end
theorem vals_core {H : Hp} {D : Addr} (ys : List V) (nD : H D = none) (hl : ys.length ≤ 1000000) : ∃ Pv : Nat → Hp → Prop, Pv 0 (upd H D (.lst [])) ∧ (∀ i H2, Pv i H2 → Same H H2) ∧
    (∀ i y H2 H3, ys[i]? = some y → Pv i H2 → Same H2 H3 → ∃ acc, H3 D = some (.lst acc) ∧ acc.length < sizeLine ∧ Pv (i + 1) (upd H3 D (.lst (acc ++ [y])))) ∧ (∀ H2, Pv ys.length H2 → H2 D = some (.lst ys) ∧ Same H H2) := by
  refine ⟨fun i H2 => H2 D = some (.lst (ys.take i)) ∧ Same H H2, ⟨upd_same, same_new nD⟩, fun i H2 h => h.2, ?_, ?_⟩
  · rintro i y H2 H3 hy ⟨eD, s2⟩ s3
    refine ⟨_, s3 _ _ eD, ?_, ?_, ?_⟩
    · rw [List.length_take]
      have : (1000000 : Nat) < sizeLine := by decide
      omega
    · rw [upd_same, List.take_add_one, hy]; rfl
    · intro b o e
      rw [upd_ne (ne_of_none e nD)]
      exact s3 _ _ (s2 _ _ e)
  · rintro H2 ⟨eD, s2⟩
    rw [List.take_length] at eD
    exact ⟨eD, s2⟩
/-! ### rows as lists of words -/
def T1 (ws : List Str) : Str := Txt.join " " ws
def flatL : List (List Str) → List Str
  | [] => []
  | [a] => a
  | a :: b :: r => a ++ ("," : Str) :: flatL (b :: r)
def lkD (ws : List Str) : PyData := .tuple (ws.map .str)
def okK (l : List Str) : Prop := l ≠ [] ∧ l.length ≤ 110 ∧ ∀ w ∈ l, IsWord w
inductive Rw where
  | plain (ws : List Str)
  | probe (x g : Str) (as bs : List (List Str))
  | asrt (x g : Str) (as : List (List Str)) (b : List Str)
def Rw.data : Rw → PyData
  | .plain ws => .tuple (ws.map .str)
  | .probe x g as bs => .tuple [.str "probe", .str x, .str g, .tuple (as.map lkD), .tuple (bs.map lkD)]
  | .asrt x g as b => .tuple [.str "assert", .str x, .str g, .tuple (as.map lkD), .tuple (b.map .str)]
def Rw.words : Rw → List Str
  | .plain ws => ws
  | .probe x g as bs => "probe" :: x :: g :: (flatL as ++ ("/" : Str) :: flatL bs)
  | .asrt x g as b => "assert" :: x :: g :: (flatL as ++ ("/" : Str) :: b)
def Rw.ok : Rw → Prop
  | .plain ws => okK ws ∧ ∀ h ∈ ws.head?, h ∉ probesW
  | .probe x g as bs => IsWord x ∧ IsWord g ∧ (∀ l ∈ as, okK l) ∧ (∀ l ∈ bs, okK l) ∧ as.length ≤ 6 ∧ bs.length ≤ 6
  | .asrt x g as b => IsWord x ∧ IsWord g ∧ (∀ l ∈ as, okK l) ∧ okK b ∧ as.length ≤ 6
def Rw.text (R : Rw) : Str := T1 R.words
/-- a word of a line: one to eight signs, no blank -/
def IsW (x : Str) : Prop := 1 ≤ x.length ∧ x.length ≤ 8 ∧ 32 ∉ TL.tl x
theorem IsWord.not {x : Str} (h : IsWord x) {c : Nat} (hc : c < 97) : c ∉ TL.tl x := fun m => by
  have := (h.2.2 c m).1
  omega
theorem IsWord.w {x : Str} (h : IsWord x) : IsW x := ⟨h.1, h.2.1, h.not (by decide)⟩
theorem isW_comma : IsW (",") := by refine ⟨?_, ?_, ?_⟩ <;> decide +kernel
theorem isW_slash : IsW ("/") := by refine ⟨?_, ?_, ?_⟩ <;> decide +kernel
theorem word_probe : IsWord "probe" := by refine ⟨?_, ?_, ?_⟩ <;> decide +kernel
theorem word_assert : IsWord "assert" := by refine ⟨?_, ?_, ?_⟩ <;> decide +kernel
theorem flatL_mem {P : Str → Prop} (hc : P ",") : ∀ {ls : List (List Str)}, (∀ l ∈ ls, ∀ w ∈ l, P w) → ∀ w ∈ flatL ls, P w
  | [], _, w, m => by cases m
  | [a], h, w, m => h a List.mem_cons_self w m
  | a :: b :: r, h, w, m => by
    rcases List.mem_append.mp (show w ∈ a ++ (("," : Str) :: flatL (b :: r)) from m) with m | m
    · exact h a List.mem_cons_self w m
    rcases List.mem_cons.mp m with rfl | m
    · exact hc
    · exact flatL_mem hc (fun l hl => h l (List.mem_cons_of_mem _ hl)) w m
theorem flatL_ne : ∀ {ls : List (List Str)}, (∀ l ∈ ls, l ≠ []) → ls ≠ [] → flatL ls ≠ []
  | [], _, h => absurd rfl h
  | [a], h, _ => h a List.mem_cons_self
  | a :: b :: r, h, _ => by
    show a ++ _ ≠ []
    simp
theorem flatL_snoc {a : List Str} : ∀ {ls : List (List Str)}, ls ≠ [] → flatL (ls ++ [a]) = flatL ls ++ ("," : Str) :: a
  | [], h => absurd rfl h
  | [b], _ => rfl
  | b :: c :: r, _ => by
    show b ++ ("," : Str) :: flatL ((c :: r) ++ [a]) = (b ++ ("," : Str) :: flatL (c :: r)) ++ ("," : Str) :: a
    rw [flatL_snoc (List.cons_ne_nil _ _), List.append_assoc]; rfl
theorem flatL_len {B : Nat} : ∀ {ls : List (List Str)}, (∀ l ∈ ls, l.length ≤ B) → (flatL ls).length ≤ (B + 1) * ls.length
  | [], _ => Nat.zero_le _
  | [a], h => by
    have := h a List.mem_cons_self
    show a.length ≤ _
    simp; omega
  | a :: b :: r, h => by
    have h1 := h a List.mem_cons_self
    have h2 := flatL_len (ls := b :: r) fun l hl => h l (List.mem_cons_of_mem _ hl)
    show (a ++ ("," : Str) :: flatL (b :: r)).length ≤ _
    rw [List.length_append, List.length_cons, List.length_cons (as := b :: r), Nat.mul_succ]
    omega
section
open SX
theorem joinL_app {S : List Nat} : ∀ {xs ys : List (List Nat)}, xs ≠ [] → ys ≠ [] → TL.joinL S (xs ++ ys) = TL.joinL S xs ++ (S ++ TL.joinL S ys)
  | [], _, h, _ => absurd rfl h
  | [x], [], _, h => absurd rfl h
  | [x], y :: r, _, _ => rfl
  | x :: z :: r, ys, _, h => by
    show x ++ (S ++ TL.joinL S ((z :: r) ++ ys)) = (x ++ (S ++ TL.joinL S (z :: r))) ++ (S ++ TL.joinL S ys)
    rw [joinL_app (List.cons_ne_nil _ _) h]
    simp only [List.append_assoc]
theorem tl_T (y : Str) (ws : List Str) : TL.tl (Txt.join y ws) = TL.joinL (TL.tl y) (ws.map TL.tl) := by rw [TL.join_eq, TL.tl_join]
theorem tl_inj {a b : Str} (h : TL.tl a = TL.tl b) : a = b := by
  have : [a] = [b] := TL.map_tl_inj (by simp only [List.map_cons, List.map_nil, h])
  injection this
theorem T1_app {xs ys : List Str} (hx : xs ≠ []) (hy : ys ≠ []) : T1 (xs ++ ys) = T1 xs ++ ((" " : Str) ++ T1 ys) := by
  refine tl_inj ?_
  unfold T1
  rw [tl_T, List.map_append, joinL_app (fun e => hx (List.map_eq_nil_iff.mp e)) (fun e => hy (List.map_eq_nil_iff.mp e)), TL.tl_append, TL.tl_append, tl_T, tl_T]
theorem T1_cons {x : Str} {ys : List Str} (hy : ys ≠ []) : T1 (x :: ys) = x ++ ((" " : Str) ++ T1 ys) := by
  have := T1_app (xs := [x]) (List.cons_ne_nil _ _) hy
  exact this
theorem T1_nil : T1 [] = Str.empty := by
  unfold T1; rw [TL.join_eq]; rfl
theorem T1_len0 {ws : List Str} (h : ∀ w ∈ ws, IsW w) : (T1 ws).length = 0 ↔ ws = [] := by
  constructor
  · intro e
    cases ws with
    | nil => rfl
    | cons x r =>
      have hx := (h x List.mem_cons_self).1
      cases r with
      | nil =>
        have : T1 [x] = x := by unfold T1; rw [TL.join_eq]; rfl
        rw [this] at e; omega
      | cons y r =>
        rw [T1_cons (List.cons_ne_nil _ _)] at e
        have : (x ++ ((" " : Str) ++ T1 (y :: r)) : Str).length = x.length + ((" " : Str) ++ T1 (y :: r) : Str).length := Str.length_append ..
        omega
  · rintro rfl
    rw [T1_nil]; rfl
theorem T1_split {ws : List Str} (h : ∀ w ∈ ws, IsW w) (hne : ws ≠ []) : Txt.split (T1 ws) " " = ws :=
  TL.split_join (s := 32) (S := []) (by decide +kernel) (by decide +kernel) hne fun p hp => (h p hp).2.2
theorem T1_max {ws : List Str} (h : ∀ w ∈ ws, IsW w) : (T1 ws).length ≤ ws.length * 9 := by
  have := join_len (sep := " ") (B := 8) fun w hw => (h w hw).2.1
  have e : (Str.ofString " ").length = 1 := by decide +kernel
  rw [e] at this
  exact this
/-- the looks' text is the text of their words -/
theorem looks_text : ∀ {ls : List (List Str)}, (∀ l ∈ ls, l ≠ []) → Txt.join " , " (ls.map T1) = T1 (flatL ls)
  | [], _ => by
    rw [show flatL [] = [] from rfl, T1_nil, TL.join_eq]; rfl
  | [a], _ => by
    rw [show flatL [a] = a from rfl, TL.join_eq]; rfl
  | a :: b :: r, h => by
    have ih := looks_text (ls := b :: r) fun l hl => h l (List.mem_cons_of_mem _ hl)
    have hf : flatL (b :: r) ≠ [] := flatL_ne (fun l hl => h l (List.mem_cons_of_mem _ hl)) (List.cons_ne_nil _ _)
    rw [show flatL (a :: b :: r) = a ++ ("," : Str) :: flatL (b :: r) from rfl, T1_app (h a List.mem_cons_self) (List.cons_ne_nil _ _), T1_cons hf, ← ih]
    refine tl_inj ?_
    rw [tl_T]
    simp only [TL.tl_append]
    rw [tl_T]
    have e1 : TL.tl (" , " : Str) = [32, 44, 32] := by decide +kernel
    have e2 : TL.tl (" " : Str) = [32] := by decide +kernel
    have e3 : TL.tl ("," : Str) = [44] := by decide +kernel
    rw [e1, e2, e3]
    show TL.tl (T1 a) ++ ([32, 44, 32] ++ TL.joinL [32, 44, 32] ((T1 b :: r.map T1).map TL.tl)) = _
    simp
theorem look_free {l : List Str} (h : ∀ w ∈ l, IsWord w) : 44 ∉ TL.tl (T1 l) := fun m => by
  rcases join_mem m with m | ⟨p, hp, m⟩
  · exact absurd m (by decide +kernel)
  · exact (h p hp).not (by decide) m
theorem looks_split {ls : List (List Str)} (hne : ls ≠ []) (h : ∀ l ∈ ls, okK l) : Txt.split (T1 (flatL ls)) " , " = ls.map T1 := by
  rw [← looks_text fun l hl => (h l hl).1]
  refine split_mid (a := 32) (m := 44) (b := 32) (by decide +kernel) (by decide +kernel) (by decide) (fun e => hne (List.map_eq_nil_iff.mp e)) fun p hp => ?_
  obtain ⟨l, hl, rfl⟩ := List.mem_map.mp hp
  exact look_free (h l hl).2.2
/-- texts one behind another, the empty ones left out -/
theorem T1_filter : ∀ {gs : List (List Str)}, (∀ g ∈ gs, ∀ w ∈ g, IsW w) → T1 ((gs.map T1).filter fun x => decide (x.length ≠ 0)) = T1 gs.flatten ∧ (((gs.map T1).filter fun x => decide (x.length ≠ 0)) = [] ↔ gs.flatten = [])
  | [], _ => ⟨rfl, Iff.rfl⟩
  | g :: r, h => by
    obtain ⟨h1, h2⟩ := T1_filter (gs := r) fun x hx => h x (List.mem_cons_of_mem _ hx)
    have h0 := T1_len0 (h g List.mem_cons_self)
    rw [List.map_cons, List.flatten_cons]
    by_cases e : g = []
    · subst e
      rw [List.filter_cons_of_neg (by rw [decide_eq_false fun e => e (h0.mpr rfl)]; decide), List.nil_append]
      exact ⟨h1, h2⟩
    · rw [List.filter_cons_of_pos (by exact decide_eq_true fun z => e (h0.mp z))]
      refine ⟨?_, ⟨fun z => (by cases z), fun z => absurd (List.append_eq_nil_iff.mp z).1 e⟩⟩
      by_cases er : r.flatten = []
      · rw [h2.mpr er, er, List.append_nil]
        show T1 [T1 g] = T1 g
        unfold T1; rw [TL.join_eq]; rfl
      · rw [T1_cons fun z => er (h2.mp z), h1, T1_app e er]
end
theorem looks_back {ls : List (List Str)} (hne : ls ≠ []) (h : ∀ l ∈ ls, okK l) : (Txt.split (T1 (flatL ls)) " , ").map (fun t => Txt.split t " ") = ls := by
  rw [looks_split hne h, List.map_map]
  have : ∀ l ∈ ls, ((fun t => Txt.split t " ") ∘ T1) l = l := fun l hl => T1_split (fun w hw => ((h l hl).2.2 w hw).w) (h l hl).1
  rw [List.map_congr_left this, List.map_id']
theorem flatL_inj {as bs : List (List Str)} (ha : ∀ l ∈ as, okK l) (hb : ∀ l ∈ bs, okK l) (e : flatL as = flatL bs) : as = bs := by
  by_cases za : as = []
  · subst za
    by_cases zb : bs = []
    · exact zb.symm
    · exact absurd e.symm (flatL_ne (fun l hl => (hb l hl).1) zb)
  · by_cases zb : bs = []
    · subst zb; exact absurd e (flatL_ne (fun l hl => (ha l hl).1) za)
    · rw [← looks_back za ha, e, looks_back zb hb]
theorem slash_not : ∀ {w : Str}, IsWord w → w ≠ "/" := fun h e => by
  subst e
  have := (h.2.2 47 (by decide +kernel)).1
  omega
theorem flat_slash {ls : List (List Str)} (h : ∀ l ∈ ls, okK l) : ∀ w ∈ flatL ls, w ≠ "/" := flatL_mem (by decide +kernel) fun l hl w hw => slash_not ((h l hl).2.2 w hw)
theorem mid_inj {m : Str} : ∀ {a b c d : List Str}, (∀ w ∈ a, w ≠ m) → (∀ w ∈ c, w ≠ m) → a ++ m :: b = c ++ m :: d → a = c ∧ b = d
  | [], _, [], _, _, _, e => ⟨rfl, by injection e⟩
  | [], _, x :: c, _, _, hc, e => absurd (by injection e with e _; exact e.symm) (hc x List.mem_cons_self)
  | x :: a, _, [], _, ha, _, e => absurd (by injection e with e _) (ha x List.mem_cons_self)
  | x :: a, b, y :: c, d, ha, hc, e => by
    have e : x :: (a ++ m :: b) = y :: (c ++ m :: d) := e
    injection e with e1 e2
    obtain ⟨h1, h2⟩ := mid_inj (fun w hw => ha w (List.mem_cons_of_mem _ hw)) (fun w hw => hc w (List.mem_cons_of_mem _ hw)) e2
    exact ⟨by rw [e1, h1], h2⟩
theorem Rw.words_ok {R : Rw} (h : R.ok) : R.words ≠ [] ∧ (∀ w ∈ R.words, IsW w) ∧ R.words.length ≤ 2000 := by
  cases R with
  | plain ws => exact ⟨h.1.1, fun w hw => (h.1.2.2 w hw).w, Nat.le_trans h.1.2.1 (by decide)⟩
  | probe x g as bs =>
    obtain ⟨hx, hg, ha, hb, la, lb⟩ := h
    refine ⟨List.cons_ne_nil _ _, fun w hw => ?_, ?_⟩
    · rcases List.mem_cons.mp hw with rfl | hw
      · exact word_probe.w
      rcases List.mem_cons.mp hw with rfl | hw
      · exact hx.w
      rcases List.mem_cons.mp hw with rfl | hw
      · exact hg.w
      rcases List.mem_append.mp hw with hw | hw
      · exact flatL_mem (P := IsW) isW_comma (fun l hl w hw => ((ha l hl).2.2 w hw).w) w hw
      rcases List.mem_cons.mp hw with rfl | hw
      · exact isW_slash
      · exact flatL_mem (P := IsW) isW_comma (fun l hl w hw => ((hb l hl).2.2 w hw).w) w hw
    · have h1 := flatL_len (B := 110) fun l hl => (ha l hl).2.1
      have h2 := flatL_len (B := 110) fun l hl => (hb l hl).2.1
      simp only [Rw.words, List.length_cons, List.length_append]
      omega
  | asrt x g as b =>
    obtain ⟨hx, hg, ha, hb, la⟩ := h
    refine ⟨List.cons_ne_nil _ _, fun w hw => ?_, ?_⟩
    · rcases List.mem_cons.mp hw with rfl | hw
      · exact word_assert.w
      rcases List.mem_cons.mp hw with rfl | hw
      · exact hx.w
      rcases List.mem_cons.mp hw with rfl | hw
      · exact hg.w
      rcases List.mem_append.mp hw with hw | hw
      · exact flatL_mem (P := IsW) isW_comma (fun l hl w hw => ((ha l hl).2.2 w hw).w) w hw
      rcases List.mem_cons.mp hw with rfl | hw
      · exact isW_slash
      · exact (hb.2.2 w hw).w
    · have h1 := flatL_len (B := 110) fun l hl => (ha l hl).2.1
      have h2 := hb.2.1
      simp only [Rw.words, List.length_cons, List.length_append]
      omega
theorem Rw.text_split {R : Rw} (h : R.ok) : Txt.split R.text " " = R.words := T1_split (Rw.words_ok h).2.1 (Rw.words_ok h).1
theorem Rw.text_max {R : Rw} (h : R.ok) : R.text.length ≤ 20000 := by
  have h1 := T1_max (Rw.words_ok h).2.1
  have h2 := (Rw.words_ok h).2.2
  show (T1 R.words).length ≤ _
  omega
/-- unlike rows have unlike texts -/
theorem Rw.inj {R S : Rw} (hR : R.ok) (hS : S.ok) (e : R.text = S.text) : R = S := by
  have e : R.words = S.words := by rw [← (Rw.text_split hR), ← (Rw.text_split hS), e]
  have np : ∀ z : Str, z ∈ probesW → z = "probe" ∨ z = "assert" := by
    intro z hz
    simp only [probesW, List.mem_cons, List.not_mem_nil, or_false] at hz
    exact hz
  have mp : ("probe" : Str) ∈ probesW := by decide +kernel
  have ma : ("assert" : Str) ∈ probesW := by decide +kernel
  have npa : ("probe" : Str) ≠ "assert" := by decide +kernel
  cases R with
  | plain ws =>
    cases S with
    | plain ws' => rw [show ws = ws' from e]
    | probe x g as bs => exact absurd mp (hR.2 _ (by rw [show ws = _ from e]; rfl))
    | asrt x g as b => exact absurd ma (hR.2 _ (by rw [show ws = _ from e]; rfl))
  | probe x g as bs =>
    cases S with
    | plain ws' => exact absurd mp (hS.2 _ (by rw [show ws' = _ from e.symm]; rfl))
    | probe x' g' as' bs' =>
      simp only [Rw.words] at e
      injection e with _ e
      injection e with e1 e
      injection e with e2 e
      obtain ⟨e3, e4⟩ := mid_inj (flat_slash hR.2.2.1) (flat_slash hS.2.2.1) e
      rw [e1, e2, flatL_inj hR.2.2.1 hS.2.2.1 e3, flatL_inj hR.2.2.2.1 hS.2.2.2.1 e4]
    | asrt x' g' as' b' =>
      simp only [Rw.words] at e
      injection e with e0 e
      exact absurd e0 npa
  | asrt x g as b =>
    cases S with
    | plain ws' => exact absurd ma (hS.2 _ (by rw [show ws' = _ from e.symm]; rfl))
    | probe x' g' as' bs' =>
      simp only [Rw.words] at e
      injection e with e0 e
      exact absurd e0.symm npa
    | asrt x' g' as' b' =>
      simp only [Rw.words] at e
      injection e with _ e
      injection e with e1 e
      injection e with e2 e
      obtain ⟨e3, e4⟩ := mid_inj (flat_slash hR.2.2.1) (flat_slash hS.2.2.1) e
      rw [e1, e2, flatL_inj hR.2.2.1 hS.2.2.1 e3, e4]
/-! ### data of words -/
theorem eqv_strs : ∀ {a b : List Str}, PyData.eqvAll (a.map .str) (b.map .str) = true → a = b
  | [], [], _ => rfl
  | [], _ :: _, h => by simp only [List.map_nil, List.map_cons, PyData.eqvAll] at h; cases h
  | _ :: _, [], h => by simp only [List.map_nil, List.map_cons, PyData.eqvAll] at h; cases h
  | x :: a, y :: b, h => by
    simp only [List.map_cons, PyData.eqvAll, PyData.eqv, Bool.and_eq_true] at h
    rw [eq_of_beq h.1, eqv_strs h.2]
theorem eqv_looks : ∀ {a b : List (List Str)}, PyData.eqvAll (a.map lkD) (b.map lkD) = true → a = b
  | [], [], _ => rfl
  | [], _ :: _, h => by simp only [List.map_nil, List.map_cons, PyData.eqvAll] at h; cases h
  | _ :: _, [], h => by simp only [List.map_nil, List.map_cons, PyData.eqvAll] at h; cases h
  | x :: a, y :: b, h => by
    simp only [List.map_cons, PyData.eqvAll, lkD, PyData.eqv, Bool.and_eq_true] at h
    rw [eqv_strs h.1, eqv_looks h.2]
theorem can_all {l : List PyData} (h : ∀ x ∈ l, PyData.canLay0 x = true) : PyData.canLayAll0 l = true := by
  induction l with
  | nil => rfl
  | cons x r ih =>
    simp only [PyData.canLayAll0, Bool.and_eq_true]
    exact ⟨h x List.mem_cons_self, ih fun y hy => h y (List.mem_cons_of_mem _ hy)⟩
theorem depth_all {l : List PyData} {B : Nat} (h : ∀ x ∈ l, PyData.depth x ≤ B) : PyData.depthAll l ≤ B := by
  induction l with
  | nil => simp [PyData.depthAll]
  | cons x r ih =>
    simp only [PyData.depthAll]
    have h1 := h x List.mem_cons_self
    have h2 := ih fun y hy => h y (List.mem_cons_of_mem _ hy)
    omega
theorem shaped_tup {l : List PyData} (h1 : ∀ x ∈ l, PyData.canLay0 x = true) (h2 : ∀ x ∈ l, PyData.depth x ≤ 10) : SeqAt.shaped (.tuple l) = true := by
  unfold SeqAt.shaped
  have := depth_all h2
  simp only [PyData.canLay0, can_all h1, PyData.depth, Bool.true_and]
  exact decide_eq_true (by omega)
theorem word_str {x : Str} (h : IsWord x) : PyData.strOk x = true := by
  unfold PyData.strOk
  rw [Array.all_eq_true_iff_forall_mem]
  intro c hc
  have := (h.2.2 c (Array.mem_toList_iff.mpr hc)).2
  exact decide_eq_true (by omega)
theorem eqv_self {l : List PyData} (h : SeqAt.shaped (.tuple l) = true) : PyData.eqv (.tuple l) (.tuple l) = true := SeqAt.eqv_refl _ (SeqAt.canLay_of_shaped h)
theorem strs_can {l : List Str} (h : ∀ w ∈ l, PyData.strOk w = true) : PyData.canLayAll0 (l.map .str) = true := can_all fun x hx => by
  obtain ⟨z, hz, rfl⟩ := List.mem_map.mp hx
  exact h z hz
theorem strs_depth (l : List Str) : PyData.depthAll (l.map .str) ≤ 0 := depth_all fun x hx => by
  obtain ⟨z, hz, rfl⟩ := List.mem_map.mp hx
  simp [PyData.depth]
theorem looks_can {ls : List (List Str)} (h : ∀ l ∈ ls, okK l) : PyData.canLayAll0 (ls.map lkD) = true := can_all fun x hx => by
  obtain ⟨l, hl, rfl⟩ := List.mem_map.mp hx
  exact strs_can fun w hw => word_str ((h l hl).2.2 w hw)
theorem looks_depth (ls : List (List Str)) : PyData.depthAll (ls.map lkD) ≤ 1 := depth_all fun x hx => by
  obtain ⟨l, hl, rfl⟩ := List.mem_map.mp hx
  have := strs_depth l
  simp only [lkD, PyData.depth]
  omega
theorem Rw.shaped {R : Rw} (h : R.ok) : SeqAt.shaped R.data = true := by
  cases R with
  | plain ws =>
    exact shaped_tup (fun x hx => by
      obtain ⟨z, hz, rfl⟩ := List.mem_map.mp hx
      exact word_str (h.1.2.2 z hz)) fun x hx => by
      obtain ⟨z, hz, rfl⟩ := List.mem_map.mp hx
      simp [PyData.depth]
  | probe x g as bs =>
    obtain ⟨hx, hg, ha, hb, la, lb⟩ := h
    have d1 := looks_depth as
    have d2 := looks_depth bs
    refine shaped_tup (fun d hd => ?_) fun d hd => ?_
    all_goals
      simp only [List.mem_cons, List.not_mem_nil, or_false] at hd
      rcases hd with rfl | rfl | rfl | rfl | rfl
    · exact word_str word_probe
    · exact word_str hx
    · exact word_str hg
    · exact looks_can ha
    · exact looks_can hb
    all_goals simp only [PyData.depth]; omega
  | asrt x g as b =>
    obtain ⟨hx, hg, ha, hb, la⟩ := h
    have d1 := looks_depth as
    have d2 := strs_depth b
    refine shaped_tup (fun d hd => ?_) fun d hd => ?_
    all_goals
      simp only [List.mem_cons, List.not_mem_nil, or_false] at hd
      rcases hd with rfl | rfl | rfl | rfl | rfl
    · exact word_str word_assert
    · exact word_str hx
    · exact word_str hg
    · exact looks_can ha
    · exact strs_can fun w hw => word_str (hb.2.2 w hw)
    all_goals simp only [PyData.depth]; omega
theorem str_eqv {a b : Str} (h : PyData.eqv (.str a) (.str b) = true) : a = b := by
  simp only [PyData.eqv] at h
  exact eq_of_beq h
theorem Rw.eqv_eq {R S : Rw} (hR : R.ok) (hS : S.ok) (h : PyData.eqv R.data S.data = true) : R = S := by
  have mp : ("probe" : Str) ∈ probesW := by decide +kernel
  have ma : ("assert" : Str) ∈ probesW := by decide +kernel
  have npa : ("probe" : Str) ≠ "assert" := by decide +kernel
  have hd : ∀ {ws : List Str} {y : Str} {ds : List PyData}, PyData.eqvAll (ws.map .str) (.str y :: ds) = true → ws.head? = some y := by
    intro ws y ds h
    cases ws with
    | nil => simp only [List.map_nil, PyData.eqvAll] at h; cases h
    | cons x r =>
      simp only [List.map_cons, PyData.eqvAll, Bool.and_eq_true] at h
      rw [str_eqv h.1]; rfl
  have hd' : ∀ {ws : List Str} {y : Str} {ds : List PyData}, PyData.eqvAll (.str y :: ds) (ws.map .str) = true → ws.head? = some y := by
    intro ws y ds h
    cases ws with
    | nil => simp only [List.map_nil, PyData.eqvAll] at h; cases h
    | cons x r =>
      simp only [List.map_cons, PyData.eqvAll, Bool.and_eq_true] at h
      rw [str_eqv h.1]; rfl
  cases R with
  | plain ws =>
    cases S with
    | plain ws' =>
      simp only [Rw.data, PyData.eqv] at h
      rw [eqv_strs h]
    | probe x g as bs =>
      simp only [Rw.data, PyData.eqv] at h
      exact absurd mp (hR.2 _ (by rw [hd h]; rfl))
    | asrt x g as b =>
      simp only [Rw.data, PyData.eqv] at h
      exact absurd ma (hR.2 _ (by rw [hd h]; rfl))
  | probe x g as bs =>
    cases S with
    | plain ws' =>
      simp only [Rw.data, PyData.eqv] at h
      exact absurd mp (hS.2 _ (by rw [hd' h]; rfl))
    | probe x' g' as' bs' =>
      simp only [Rw.data, PyData.eqv, PyData.eqvAll, Bool.and_eq_true] at h
      rw [eq_of_beq h.2.1, eq_of_beq h.2.2.1, eqv_looks h.2.2.2.1, eqv_looks h.2.2.2.2.1]
    | asrt x' g' as' b' =>
      simp only [Rw.data, PyData.eqv, PyData.eqvAll, Bool.and_eq_true] at h
      exact absurd (eq_of_beq h.1) npa
  | asrt x g as b =>
    cases S with
    | plain ws' =>
      simp only [Rw.data, PyData.eqv] at h
      exact absurd ma (hS.2 _ (by rw [hd' h]; rfl))
    | probe x' g' as' bs' =>
      simp only [Rw.data, PyData.eqv, PyData.eqvAll, Bool.and_eq_true] at h
      exact absurd (eq_of_beq h.1).symm npa
    | asrt x' g' as' b' =>
      simp only [Rw.data, PyData.eqv, PyData.eqvAll, Bool.and_eq_true] at h
      rw [eq_of_beq h.2.1, eq_of_beq h.2.2.1, eqv_looks h.2.2.2.1, eqv_strs h.2.2.2.2.1]
/-- rows are equal just when their texts are -/
theorem Rw.eqv_text {R S : Rw} (hR : R.ok) (hS : S.ok) : PyData.eqv R.data S.data = decide (R.text = S.text) := by
  by_cases e : R.text = S.text
  · rw [decide_eq_true e, Rw.inj hR hS e]
    exact SeqAt.eqv_refl _ (SeqAt.canLay_of_shaped (Rw.shaped hS))
  · rw [decide_eq_false e]
    cases h : PyData.eqv R.data S.data with
    | false => rfl
    | true => exact absurd (by rw [Rw.eqv_eq hR hS h]) e
/-! ### rows drawn -/
theorem words_all : ∀ z ∈ deedsW ++ stepsW ++ looksW ++ ifW ++ whileW ++ gatesW ++ [("if" : Str), "while"], (1 ≤ z.length ∧ z.length ≤ 8 ∧ ∀ c ∈ z.cps.toList, 97 ≤ c ∧ c ≤ 122) ∧ (z ∈ deedsW ++ stepsW ++ [("if" : Str), "while"] → z ∉ probesW) := by decide +kernel
theorem words_word {z : Str} (h : z ∈ deedsW ∨ z ∈ stepsW ∨ z ∈ looksW ∨ z ∈ ifW ∨ z ∈ whileW ∨ z ∈ gatesW ∨ z ∈ [("if" : Str), "while"]) : IsWord z := (words_all z (by rcases h with h | h | h | h | h | h | h <;> simp [h])).1
section
variable {K : PySem.W.Frag} {w : World} {dN : Addr}
theorem look_view {d : PyData} (h : LookD K w dN d) : ∃ l, d = lkD l ∧ okK l := by
  obtain ⟨x, ds, rfl, hx, ⟨xs, rfl, hw, hl, _⟩⟩ := h
  refine ⟨x :: xs, rfl, List.cons_ne_nil _ _, by rw [List.length_cons]; omega, fun z hz => ?_⟩
  rcases List.mem_cons.mp hz with rfl | hz
  · exact words_word (.inr (.inr (.inl hx)))
  · exact hw z hz
theorem looks_view : ∀ {ds : List PyData}, (∀ d ∈ ds, LookD K w dN d) → ∃ ls : List (List Str), ds = ls.map lkD ∧ ∀ l ∈ ls, okK l
  | [], _ => ⟨[], rfl, fun _ h => (by cases h)⟩
  | d :: r, h => by
    obtain ⟨l, rfl, hl⟩ := look_view (h d List.mem_cons_self)
    obtain ⟨ls, rfl, hls⟩ := looks_view (ds := r) fun x hx => h x (List.mem_cons_of_mem _ hx)
    refine ⟨l :: ls, rfl, fun x hx => ?_⟩
    rcases List.mem_cons.mp hx with rfl | hx
    · exact hl
    · exact hls x hx
theorem row_view {d : PyData} (h : RowD K w dN d true) : ∃ R : Rw, d = R.data ∧ R.ok := by
  cases h with
  | @deed x ds hx hd =>
    obtain ⟨xs, rfl, hw, hl, _⟩ := hd
    have hm : x ∈ deedsW ++ stepsW ++ looksW ++ ifW ++ whileW ++ gatesW ++ [("if" : Str), "while"] := by rcases hx with hx | hx <;> simp [hx]
    have hm2 : x ∈ deedsW ++ stepsW ++ [("if" : Str), "while"] := by rcases hx with hx | hx <;> simp [hx]
    refine ⟨.plain (x :: xs), rfl, ⟨List.cons_ne_nil _ _, by rw [List.length_cons]; omega, fun z hz => ?_⟩, fun y hy => ?_⟩
    · rcases List.mem_cons.mp hz with rfl | hz
      · exact (words_all _ hm).1
      · exact hw z hz
    · cases hy; exact (words_all _ hm).2 hm2
  | @iff x ds hx hd =>
    obtain ⟨xs, rfl, hw, hl, _⟩ := hd
    refine ⟨.plain ("if" :: x :: xs), rfl, ⟨List.cons_ne_nil _ _, by simp only [List.length_cons]; omega, fun z hz => ?_⟩, fun y hy => ?_⟩
    · rcases List.mem_cons.mp hz with rfl | hz
      · exact words_word (by decide +kernel)
      rcases List.mem_cons.mp hz with rfl | hz
      · exact words_word (.inr (.inr (.inr (.inl hx))))
      · exact hw z hz
    · cases hy; decide +kernel
  | @loop x ds hx hd =>
    obtain ⟨xs, rfl, hw, hl, _⟩ := hd
    refine ⟨.plain ("while" :: x :: xs), rfl, ⟨List.cons_ne_nil _ _, by simp only [List.length_cons]; omega, fun z hz => ?_⟩, fun y hy => ?_⟩
    · rcases List.mem_cons.mp hz with rfl | hz
      · exact words_word (by decide +kernel)
      rcases List.mem_cons.mp hz with rfl | hz
      · exact words_word (.inr (.inr (.inr (.inr (.inl hx)))))
      · exact hw z hz
    · cases hy; decide +kernel
  | probe h =>
    cases h with
    | @probe x g as bs hx hg ha hb hl =>
      obtain ⟨as, rfl, ha2⟩ := looks_view ha
      obtain ⟨bs, rfl, hb2⟩ := looks_view hb
      simp only [List.length_map] at hl
      exact ⟨.probe x g as bs, rfl, hx, words_word (.inr (.inr (.inr (.inr (.inr (.inl hg)))))), ha2, hb2, by omega, by omega⟩
    | @assert x g y as ds hx hg ha hl hy hd =>
      obtain ⟨as, rfl, ha2⟩ := looks_view ha
      obtain ⟨xs, rfl, hw, hl2, _⟩ := hd
      simp only [List.length_map] at hl
      have hyl : ∀ z ∈ assertW, z ∈ looksW := by decide +kernel
      refine ⟨.asrt x g as (y :: xs), rfl, hx, words_word (.inr (.inr (.inr (.inr (.inr (.inl hg)))))), ha2, ⟨List.cons_ne_nil _ _, by rw [List.length_cons]; omega, fun z hz => ?_⟩, hl⟩
      rcases List.mem_cons.mp hz with rfl | hz
      · exact words_word (.inr (.inr (.inl (hyl _ hy))))
      · exact hw z hz
end
/-! ### l.index(x, lo) -/
section
open PySem PySem.Spec PyProof.Rows
variable {X : Cx}
def rIndex3 (K : PySem.W.Frag) : V → List V → Hp → VK → Prop := fun x xs H Q => ∃ (a : Addr) (ys : List V) (y : V) (lo j : Nat) (z : V), x = V.ref a ∧ xs = [y, .int (lo : Int)] ∧ SqL K H a ys ∧ flatV y = true ∧ ys.all flatV = true ∧ lo ≤ j ∧ ys[j]? = some z ∧ eqV z y = true ∧
  (∀ (m : Nat) (z' : V), lo ≤ m → m < j → ys[m]? = some z' → eqV z' y = false) ∧ Q (.int (j : Nat)) H
theorem mt_index3 : MtR X "list.index" (rIndex3 X.K) := by
  intro pins s σ H x xs v us Q I rx rxs h
  obtain ⟨a, ys, y, lo, j, z, rfl, rfl, hs, fy, fys, hlo, hz, hzj, hno, q⟩ := h
  cases rx
  cases rxs with
  | cons ry rt =>
    rename_i uy ut
    cases rt with
    | cons rl rt =>
    rename_i ul ut
    cases rt
    obtain ⟨tl, rfl⟩ := rl
    obtain ⟨its, rv, ⟨⟨cls, dd, data, sl⟩, n, ho, hc, hdn, hd⟩, hlen⟩ := I.list hs
    simp only at hc hd
    subst hc hd
    obtain ⟨u, hu, ru⟩ := rv.get hz
    obtain ⟨hjl, hje⟩ := List.getElem?_eq_some_iff.mp hu
    have hvl := rv.length
    have hj : j < its.toArray.size := by simpa using hjl
    have hsl := sizeLine_eq
    refine call_meets PySem.F.slot_list_index ⟨_, ho, rfl⟩ PySem.F.entry_list_index (PySem.F.args_list_index_3 _ _ _)
      (SeqAt.list_index3_found a its.toArray n dd sl uy (fun i => if h : i < its.toArray.size then eqU y its.toArray[i] else false) (lo : Int) tl j hj (by rw [SeqAt.searchFrom_nat]; exact hlo) (by omega) ?_ ?_) ⟨ho, fun i hi => ?_, ?_⟩
    · have e1 : its.toArray[j] = u := by simpa using hje
      show (if h : j < its.toArray.size then eqU y its.toArray[j] else false) = true
      rw [dif_pos hj, e1, eqU_of ru (flat_at fys hz)]
      exact hzj
    · intro m hm hlom hmj
      rw [SeqAt.searchFrom_nat] at hlom
      have hml : m < its.length := by simpa using hm
      have hmy : m < ys.length := by omega
      have hy' : ys[m]? = some ys[m] := List.getElem?_eq_getElem hmy
      obtain ⟨u2, hu2, ru2⟩ := rv.get hy'
      obtain ⟨_, hme⟩ := List.getElem?_eq_some_iff.mp hu2
      have e1 : its.toArray[m] = u2 := by simpa using hme
      show (if h : m < its.toArray.size then eqU y its.toArray[m] else false) = false
      rw [dif_pos hm, e1, eqU_of ru2 (flat_at fys hy')]
      exact hno m _ hlom hmj hy'
    · show SeqAt.EqAt _ _ _ _ (if h : i < its.toArray.size then eqU y its.toArray[i] else false)
      rw [dif_pos hi]
      exact mem_eqAt ry fy rv fys _ (by simp)
    · exact ⟨.int (j : Nat), H, I.tok _, ⟨_, rfl⟩, q⟩
end
/-! ### a row's text, written and read -/
def spLooksText (K : PySem.W.Frag) : Sp := fun vs H Q _ => ∃ (v : V) (ls : List (List Str)), vs = [v] ∧ Dp K H v (.tuple (ls.map lkD)) ∧ (∀ l ∈ ls, okK l) ∧ ls.length ≤ 10 ∧ ∀ H', Same H H' → Q (.str (T1 (flatL ls))) H'
def spRowText (K : PySem.W.Frag) : Sp := fun vs H Q _ => ∃ (v : V) (R : Rw), vs = [v] ∧ Dp K H v R.data ∧ R.ok ∧ ∀ H', Same H H' → Q (.str R.text) H'
theorem okK.sum {l : List Str} (h : okK l) : (l.map (·.length)).sum + l.length * (" " : Str).length ≤ 16777216 := by
  have := sum_le (B := 8) (xs := l) fun x hx => (h.2.2 x hx).2.1
  have := h.2.1
  rw [show (" " : Str).length = 1 by decide +kernel]
  omega
theorem dpAll_nth {K : PySem.W.Frag} {H : Hp} {ls : List (List Str)} {ys : List V} (h : DpAll K H ys (ls.map lkD)) {i : Nat} {y : V} (hy : ys[i]? = some y) : ∃ l t, ls[i]? = some l ∧ y = .ref t ∧ SqT K H t (l.map V.str) := by
  obtain ⟨d, ed, hd⟩ := dpAll_at h hy
  rw [List.getElem?_map] at ed
  obtain ⟨l, hl, rfl⟩ := Option.map_eq_some_iff.mp ed
  obtain ⟨t, zs, rfl, ht, hzs⟩ := ntup hd
  rw [strs_of hzs] at ht
  exact ⟨l, t, hl, rfl, ht⟩
section
variable {P : Program} {w : World} {K : PySem.W.Frag} {mg : Str → Option Value} {base : Heap}
theorem scLt : FnScope ["looks", "look"] ["looks"] (defScope sLooksText) := ⟨rfl, rfl, rfl, by decide +kernel, rfl, by decide +kernel, by decide +kernel⟩
theorem ok_lookstext {f : Addr} {fd : FuncData} {k : Nat} (F : Fun K "_looks_text" "_looks_text" sLooksText f fd) : FnOk P w K mg base CX0 (k + 1) f fd ["looks"] (spLooksText K) := by
  refine F.ok scLt (fun vs H Q E h => ?_) (fun cdv A outer s H vs Q E hr h => ?_)
  · obtain ⟨v, ls, rfl, _⟩ := h
    rfl
  · obtain ⟨v, ls, rfl, hv, ok, hl, kk⟩ := h
    refine ⟨_, pss_one (ps_ret (pe_join pe_str (pe_lc (own := [("look", 1)]) (g := gName 1) (tt := tYes) rfl scLt.nd (pi_tup (pv 0)) (blkOk_by (N := ["looks", "look"]) (sc := defScope sLooksText) (by decide +kernel)) (fun _ _ _ _ _ => (pg_name (i := 1) scLt.nd rfl (.inl rfl))) (fun _ _ _ _ _ => pts_nil) (fun _ _ _ _ _ => (pe_joinK (K := K) pe_str (pv 1)))))), ?_⟩
    obtain ⟨t, ys, rfl, ht, hys⟩ := ntup hv
    have ly := dpAll_len hys
    rw [List.length_map] at ly
    refine ⟨⟨_, rfl⟩, _, rfl, t, rfl, ⟨_, ht⟩, fun D nD => ?_⟩
    obtain ⟨Pv, q0, q1, q2, q3⟩ := vals_core ((ls.map T1).map V.str) nD (by simp only [List.length_map]; omega)
    refine lc_tup (K := K) (a := t) (xs := ys) Pv q0 (fun i H2 _ hp => Same.seqT (q1 i H2 hp) ht) (fun i y H2 hy hp => ⟨rfl, ?_⟩) fun H2 hp => ?_
    · obtain ⟨l, u, el, rfl, hu⟩ := dpAll_nth hys hy
      have e : ((ls.map T1).map V.str)[i]? = some (.str (T1 l)) := by rw [List.getElem?_map, List.getElem?_map, el]; rfl
      exact ⟨⟨_, rfl⟩, _, rfl, _, u, l, rfl, rfl, .inr (Same.seqT (q1 i H2 hp) hu), (ok l (List.mem_of_getElem? el)).sum, q2 i _ H2 H2 e hp (Same.refl _)⟩
    · rw [show ys.length = ((ls.map T1).map V.str).length by simp [ly]] at hp
      obtain ⟨eD, s2⟩ := q3 H2 hp
      refine ⟨_, D, ls.map T1, rfl, rfl, .inl (SqL.of eD), ?_, ?_⟩
      · have := sum_le (B := 990) (xs := ls.map T1) fun x hx => by
          obtain ⟨l, hl, rfl⟩ := List.mem_map.mp hx
          have h1 := T1_max fun w hw => ((ok l hl).2.2 w hw).w
          have := (ok l hl).2.1
          omega
        rw [show (" , " : Str).length = 3 by decide +kernel]
        simp only [List.length_map] at this ⊢
        omega
      · rw [looks_text fun l hl => (ok l hl).1]
        exact kk H2 s2
theorem scRT : FnScope ["row", "word", "name", "gate", "args", "rest", "looks", "texts", "text"] ["row"] (defScope sRowText) := ⟨rfl, rfl, rfl, by decide +kernel, rfl, by decide +kernel, by decide +kernel⟩
theorem ok_rowtext {f fPb fLt : Addr} {fd fdPb fdLt : FuncData} (F : Fun K "row_text" "row_text" sRowText f fd) (GPb : FnOk P w K mg base CX0 1 fPb fdPb ["row"] (spIsProbe K)) (mPb : mg "is_probe" = some (.ref fPb)) (kPb : PySem.W.keepIn K (.ref fPb) = true) (bPb : Binds K fdPb ["row"] [])
    (GLt : FnOk P w K mg base CX0 1 fLt fdLt ["looks"] (spLooksText K)) (mLt : mg "_looks_text" = some (.ref fLt)) (kLt : PySem.W.keepIn K (.ref fLt) = true) (bLt : Binds K fdLt ["looks"] []) : FnOk P w K mg base CX0 2 f fd ["row"] (spRowText K) := by
  refine F.ok scRT (fun vs H Q E h => ?_) (fun cdv A outer s H vs Q E hr h => ?_)
  · obtain ⟨v, R, rfl, _⟩ := h
    rfl
  · obtain ⟨v, R, rfl, hv, ok, kk⟩ := h
    have hrPb : Room 1 _ := hr
    have hrLt : Room 1 _ := hr
    refine ⟨_, pss_cons (ps_if (pt_not (pt_val (pe_call GPb hrPb (by rfl) mPb kPb bPb .nil pass0 (pa_cons (pv 0) pa_nil))))
        (pss_one (ps_ret (pe_join pe_str (pv 0))))
        pss_nil)
      (pss_cons (ps_asg (pv 0) (pg_tup rfl (pgs_cons (pg_name (i := 1) scRT.nd rfl (.inl rfl)) (pgs_cons (pg_name (i := 2) scRT.nd rfl (.inl rfl)) (pgs_cons (pg_name (i := 3) scRT.nd rfl (.inl rfl)) (pgs_cons (pg_name (i := 4) scRT.nd rfl (.inl rfl)) (pgs_cons (pg_name (i := 5) scRT.nd rfl (.inl rfl)) pgs_nil)))))))
      (pss_cons (ps_set (i := 6) scRT.nd rfl (.inl rfl) (pe_ifExp (pt_cmpR op_eq (pv 1) pe_str (nomark _)) (pv 5) (pe_tup (pa_cons (pv 5) pa_nil))))
      (pss_cons (ps_set (i := 7) scRT.nd rfl (.inl rfl) (pe_lst (pa_cons (pe_joined (.cons (pe_fmt (pv 1)) (.cons pe_str (.cons (pe_fmt (pv 2)) (.cons pe_str (.cons (pe_fmt (pv 3)) .nil)))))) (pa_cons (pe_call GLt hrLt (by rfl) mLt kLt bLt .nil pass0 (pa_cons (pv 4) pa_nil)) (pa_cons pe_str (pa_cons (pe_call GLt hrLt (by rfl) mLt kLt bLt .nil pass0 (pa_cons (pv 6) pa_nil)) pa_nil))))))
      (pss_one (ps_ret (pe_join pe_str (pe_lc (own := [("text", 8)]) (g := gName 8) rfl scRT.nd (pi_list (pv 7)) (blkOk_by (N := ["row", "word", "name", "gate", "args", "rest", "looks", "texts", "text"]) (sc := defScope sRowText) (by decide +kernel)) (fun _ _ _ _ _ => (pg_name (i := 8) scRT.nd rfl (.inl rfl))) (fun _ _ _ _ _ => pts_one (pt_truthK (K := K) (pv 8) (by intro _; rfl))) (fun _ _ _ _ _ => (pv 8))))))))), ?_⟩
    cases R with
    | plain ws =>
      obtain ⟨t, ys, rfl, ht, hys⟩ := ntup hv
      obtain rfl := strs_of hys
      cases ws with
      | nil => exact absurd rfl ok.1.1
      | cons x r =>
        have hx : x ∉ probesW := ok.2 x rfl
        refine ⟨_, rfl, .ref t, x, r.map .str, rfl, hv, ?_⟩
        rw [decide_eq_false hx]
        refine ⟨_, rfl, iteT ?_⟩
        exact ⟨⟨_, rfl⟩, _, rfl, _, t, x :: r, rfl, rfl, .inr ht, ok.1.sum, kk H (Same.refl _)⟩
    | probe x g as bs =>
      obtain ⟨hx, hg, ha, hb, la, lb⟩ := ok
      obtain ⟨t, ys, rfl, ht, hys⟩ := ntup hv
      obtain ⟨v0, r, rfl, h0, hys⟩ := nuncons hys
      obtain ⟨v1, r, rfl, h1, hys⟩ := nuncons hys
      obtain ⟨v2, r, rfl, h2, hys⟩ := nuncons hys
      obtain ⟨v3, r, rfl, h3, hys⟩ := nuncons hys
      obtain ⟨v4, r, rfl, h4, hys⟩ := nuncons hys
      obtain rfl := nnil hys
      cases h0; cases h1; cases h2
      refine ⟨_, rfl, .ref t, "probe", _, rfl, hv, ?_⟩
      rw [decide_eq_true (show ("probe" : Str) ∈ probesW by decide +kernel)]
      refine ⟨_, rfl, iteF ?_⟩
      refine ⟨_, rfl, t, _, rfl, ht, rfl, _, _, rfl, _, _, rfl, _, _, rfl, _, _, rfl, _, _, rfl, rfl, ?_⟩
      refine ⟨_, rfl, rfl, _, rfl, iteT ⟨_, rfl, ?_⟩⟩
      have hw0 : IsWord "probe" := word_probe
      have h4' := h4
      have kk : ∀ H', Same H H' → Q (V.str (T1 [("probe" : Str) :: x :: g :: [], flatL as, [("/" : Str)], flatL bs].flatten)) H' := fun H' s => by
        have e : (Rw.probe x g as bs).words = [("probe" : Str) :: x :: g :: [], flatL as, [("/" : Str)], flatL bs].flatten := by simp [Rw.words]
        rw [← e]; exact kk H' s
      have hbL : bs.length ≤ 10 := by omega
      have b8 : ∀ {z : Str}, IsWord z → z.length ≤ sizeLine := fun h => Nat.le_trans h.2.1 (by decide)
      have e1 : (" " : Str).length = 1 := by decide +kernel
      have e0 : Str.empty.length = 0 := rfl
      have lim : 100 ≤ sizeLine := by decide
      have w8 := hw0.2.1
      have x8 := hx.2.1
      have g8 := hg.2.1
      refine ⟨_, rfl, .inl ⟨_, rfl, b8 hw0, _, rfl, ?_, _, rfl, ?_, _, rfl, .inl ⟨_, rfl, b8 hx, _, rfl, ?_, _, rfl, ?_, _, rfl, .inl ⟨_, rfl, b8 hg, _, rfl, ?_, ?_⟩⟩⟩⟩
      iterate 5 (simp only [Str.length_append, e0, e1]; omega)
      have et : Str.empty ++ ("probe" : Str) ++ (" " : Str) ++ x ++ (" " : Str) ++ g = T1 [("probe" : Str), x, g] := by
        rw [T1_cons (List.cons_ne_nil _ _), T1_cons (List.cons_ne_nil _ _)]
        refine tl_inj ?_
        have e : T1 [g] = g := by unfold T1; rw [TL.join_eq]; rfl
        rw [e]
        simp only [TL.tl_append, List.append_assoc]
        rfl
      rw [et]
      refine ⟨_, rfl, _, as, rfl, h3, ha, by omega, fun H1 s1 => ?_⟩
      refine ⟨_, rfl, _, bs, rfl, dp_same s1 _ _ h4', hb, hbL, fun H2 s2 => ?_⟩
      have gw : ∀ q ∈ [[("probe" : Str), x, g], flatL as, [("/" : Str)], flatL bs], ∀ u ∈ q, IsW u := fun q hq u hu => by
        simp only [List.mem_cons, List.not_mem_nil, or_false] at hq
        rcases hq with rfl | rfl | rfl | rfl
        · simp only [List.mem_cons, List.not_mem_nil, or_false] at hu
          rcases hu with rfl | rfl | rfl
          · exact hw0.w
          · exact hx.w
          · exact hg.w
        · exact flatL_mem (P := IsW) isW_comma (fun l hl w hw => ((ha l hl).2.2 w hw).w) u hu
        · rw [List.mem_singleton.mp hu]; exact isW_slash
        · exact flatL_mem (P := IsW) isW_comma (fun l hl w hw => ((hb l hl).2.2 w hw).w) u hu
      have fx := T1_filter gw
      have sl : T1 [("/" : Str)] = "/" := by unfold T1; rw [TL.join_eq]; rfl
      refine ⟨by show 4 ≤ sizeLine; decide, fun tl ntl => ?_⟩
      have etl : (upd H2 tl (.lst [.str (T1 [("probe" : Str), x, g]), .str (T1 (flatL as)), .str "/", .str (T1 (flatL bs))])) tl = some (.lst (([[("probe" : Str), x, g], flatL as, [("/" : Str)], flatL bs].map T1).map V.str)) := by rw [upd_same]; simp [sl]
      have s12 := (s1.trans s2).trans (same_new (o := .lst [.str (T1 [("probe" : Str), x, g]), .str (T1 (flatL as)), .str "/", .str (T1 (flatL bs))]) ntl)
      generalize upd H2 tl (.lst [.str (T1 [("probe" : Str), x, g]), .str (T1 (flatL as)), .str "/", .str (T1 (flatL bs))]) = H3 at *
      have mx : ∀ z ∈ [[("probe" : Str), x, g], flatL as, [("/" : Str)], flatL bs].map T1, z.length ≤ 20000 := fun z hz => by
        obtain ⟨q, hq, rfl⟩ := List.mem_map.mp hz
        have h1 := T1_max (gw q hq)
        have l1 := flatL_len (B := 110) fun l hl => (ha l hl).2.1
        have l2 := flatL_len (B := 110) fun l hl => (hb l hl).2.1
        have : q.length ≤ 2000 := by
          simp only [List.mem_cons, List.not_mem_nil, or_false] at hq
          rcases hq with rfl | rfl | rfl | rfl
          · show 3 ≤ 2000; decide
          · omega
          · show 1 ≤ 2000; decide
          · omega
        omega
      generalize hgs : [[("probe" : Str), x, g], flatL as, [("/" : Str)], flatL bs].map T1 = gs at *
      have lgs : gs.length = 4 := by rw [← hgs]; rfl
      refine ⟨⟨_, rfl⟩, _, rfl, tl, rfl, ⟨_, SqL.of etl⟩, fun D nD => ?_⟩
      refine lc_list (K := K) (a := tl) (xs := gs.map V.str) (fun i H4 => H4 D = some (.lst (((gs.take i).filter fun z => decide (z.length ≠ 0)).map V.str)) ∧ Same H3 H4) ⟨upd_same, same_new nD⟩ (fun i H4 _ hp => hp.2.seq (SqL.of etl)) (fun i y H4 hy hp => ?_) fun H4 hp => ?_
      · obtain ⟨eD, s4⟩ := hp
        rw [List.getElem?_map] at hy
        obtain ⟨z, hz, rfl⟩ := Option.map_eq_some_iff.mp hy
        have hzl := mx z (List.mem_of_getElem? hz)
        have et2 : gs.take (i + 1) = gs.take i ++ [z] := by rw [List.take_add_one, hz]; rfl
        have lim2 : (20000 : Nat) ≤ sizeLine := by decide
        have hTr : TruV K (.str z) H4 (decide (z.length ≠ 0)) := ⟨Nat.le_trans hzl lim2, by cases z.length <;> rfl⟩
        refine ⟨rfl, ?_⟩
        refine ⟨_, rfl, _, hTr, ?_⟩
        by_cases h0 : z.length = 0
        · rw [decide_eq_false (fun e => e h0)]
          refine iteF ⟨?_, s4⟩
          rw [et2, List.filter_append, List.filter_cons_of_neg (by rw [decide_eq_false (fun e => e h0)]; decide), List.filter_nil, List.append_nil]
          exact eD
        · rw [decide_eq_true h0]
          refine iteT ⟨_, rfl, _, eD, ?_, ?_, fun b o e => ?_⟩
          · have l3 := List.length_filter_le (fun z : Str => decide (z.length ≠ 0)) (gs.take i)
            have l4 : (gs.take i).length ≤ 4 := by rw [List.length_take]; omega
            rw [List.length_map]
            exact small1000 (by omega)
          · rw [upd_same, et2, List.filter_append, List.filter_cons_of_pos (by exact decide_eq_true h0), List.filter_nil, List.map_append]; rfl
          · rw [upd_ne (ne_of_none e nD)]; exact s4 b o e
      · obtain ⟨eD, s4⟩ := hp
        rw [List.length_map, List.take_length] at eD
        refine ⟨_, D, _, rfl, rfl, .inl (SqL.of eD), ?_, ?_⟩
        · have := sum_le (B := 20000) (xs := gs.filter fun z => decide (z.length ≠ 0)) fun q hq => mx q (List.mem_filter.mp hq).1
          have l3 := List.length_filter_le (fun z : Str => decide (z.length ≠ 0)) gs
          rw [e1]
          omega
        · show Q (V.str (T1 _)) H4
          rw [fx.1]
          exact kk H4 (s12.trans s4)
    | asrt x g as b =>
      obtain ⟨hx, hg, ha, hb, la⟩ := ok
      obtain ⟨t, ys, rfl, ht, hys⟩ := ntup hv
      obtain ⟨v0, r, rfl, h0, hys⟩ := nuncons hys
      obtain ⟨v1, r, rfl, h1, hys⟩ := nuncons hys
      obtain ⟨v2, r, rfl, h2, hys⟩ := nuncons hys
      obtain ⟨v3, r, rfl, h3, hys⟩ := nuncons hys
      obtain ⟨v4, r, rfl, h4, hys⟩ := nuncons hys
      obtain rfl := nnil hys
      cases h0; cases h1; cases h2
      refine ⟨_, rfl, .ref t, "assert", _, rfl, hv, ?_⟩
      rw [decide_eq_true (show ("assert" : Str) ∈ probesW by decide +kernel)]
      refine ⟨_, rfl, iteF ?_⟩
      refine ⟨_, rfl, t, _, rfl, ht, rfl, _, _, rfl, _, _, rfl, _, _, rfl, _, _, rfl, _, _, rfl, rfl, ?_⟩
      refine ⟨_, rfl, rfl, _, rfl, iteF ⟨_, rfl, by show 1 ≤ sizeLine; decide, fun lt nlt => ?_⟩⟩
      have s0 := same_new (o := .tup [v4]) nlt
      have hw0 : IsWord "assert" := word_assert
      have h3 := dp_same s0 _ _ h3
      have h4' : Dp K (upd H lt (.tup [v4])) (.ref lt) (.tuple ([b].map lkD)) := .tup (SqT.of upd_same) (.cons (dp_same s0 _ _ h4) .nil)
      have kk : ∀ H', Same (upd H lt (.tup [v4])) H' → Q (V.str (T1 [("assert" : Str) :: x :: g :: [], flatL as, [("/" : Str)], flatL [b]].flatten)) H' := fun H' s => by
        have e : (Rw.asrt x g as b).words = [("assert" : Str) :: x :: g :: [], flatL as, [("/" : Str)], flatL [b]].flatten := by simp [Rw.words, flatL]
        rw [← e]; exact kk H' (s0.trans s)
      have hbL : [b].length ≤ 10 := by show 1 ≤ 10; decide
      have hb : ∀ l ∈ [b], okK l := fun l hl => by rw [List.mem_singleton.mp hl]; exact hb
      generalize upd H lt (.tup [v4]) = H at *
      generalize [b] = bs at *
      have b8 : ∀ {z : Str}, IsWord z → z.length ≤ sizeLine := fun h => Nat.le_trans h.2.1 (by decide)
      have e1 : (" " : Str).length = 1 := by decide +kernel
      have e0 : Str.empty.length = 0 := rfl
      have lim : 100 ≤ sizeLine := by decide
      have w8 := hw0.2.1
      have x8 := hx.2.1
      have g8 := hg.2.1
      refine ⟨_, rfl, .inl ⟨_, rfl, b8 hw0, _, rfl, ?_, _, rfl, ?_, _, rfl, .inl ⟨_, rfl, b8 hx, _, rfl, ?_, _, rfl, ?_, _, rfl, .inl ⟨_, rfl, b8 hg, _, rfl, ?_, ?_⟩⟩⟩⟩
      iterate 5 (simp only [Str.length_append, e0, e1]; omega)
      have et : Str.empty ++ ("assert" : Str) ++ (" " : Str) ++ x ++ (" " : Str) ++ g = T1 [("assert" : Str), x, g] := by
        rw [T1_cons (List.cons_ne_nil _ _), T1_cons (List.cons_ne_nil _ _)]
        refine tl_inj ?_
        have e : T1 [g] = g := by unfold T1; rw [TL.join_eq]; rfl
        rw [e]
        simp only [TL.tl_append, List.append_assoc]
        rfl
      rw [et]
      refine ⟨_, rfl, _, as, rfl, h3, ha, by omega, fun H1 s1 => ?_⟩
      refine ⟨_, rfl, _, bs, rfl, dp_same s1 _ _ h4', hb, hbL, fun H2 s2 => ?_⟩
      have gw : ∀ q ∈ [[("assert" : Str), x, g], flatL as, [("/" : Str)], flatL bs], ∀ u ∈ q, IsW u := fun q hq u hu => by
        simp only [List.mem_cons, List.not_mem_nil, or_false] at hq
        rcases hq with rfl | rfl | rfl | rfl
        · simp only [List.mem_cons, List.not_mem_nil, or_false] at hu
          rcases hu with rfl | rfl | rfl
          · exact hw0.w
          · exact hx.w
          · exact hg.w
        · exact flatL_mem (P := IsW) isW_comma (fun l hl w hw => ((ha l hl).2.2 w hw).w) u hu
        · rw [List.mem_singleton.mp hu]; exact isW_slash
        · exact flatL_mem (P := IsW) isW_comma (fun l hl w hw => ((hb l hl).2.2 w hw).w) u hu
      have fx := T1_filter gw
      have sl : T1 [("/" : Str)] = "/" := by unfold T1; rw [TL.join_eq]; rfl
      refine ⟨by show 4 ≤ sizeLine; decide, fun tl ntl => ?_⟩
      have etl : (upd H2 tl (.lst [.str (T1 [("assert" : Str), x, g]), .str (T1 (flatL as)), .str "/", .str (T1 (flatL bs))])) tl = some (.lst (([[("assert" : Str), x, g], flatL as, [("/" : Str)], flatL bs].map T1).map V.str)) := by rw [upd_same]; simp [sl]
      have s12 := (s1.trans s2).trans (same_new (o := .lst [.str (T1 [("assert" : Str), x, g]), .str (T1 (flatL as)), .str "/", .str (T1 (flatL bs))]) ntl)
      generalize upd H2 tl (.lst [.str (T1 [("assert" : Str), x, g]), .str (T1 (flatL as)), .str "/", .str (T1 (flatL bs))]) = H3 at *
      have mx : ∀ z ∈ [[("assert" : Str), x, g], flatL as, [("/" : Str)], flatL bs].map T1, z.length ≤ 20000 := fun z hz => by
        obtain ⟨q, hq, rfl⟩ := List.mem_map.mp hz
        have h1 := T1_max (gw q hq)
        have l1 := flatL_len (B := 110) fun l hl => (ha l hl).2.1
        have l2 := flatL_len (B := 110) fun l hl => (hb l hl).2.1
        have : q.length ≤ 2000 := by
          simp only [List.mem_cons, List.not_mem_nil, or_false] at hq
          rcases hq with rfl | rfl | rfl | rfl
          · show 3 ≤ 2000; decide
          · omega
          · show 1 ≤ 2000; decide
          · omega
        omega
      generalize hgs : [[("assert" : Str), x, g], flatL as, [("/" : Str)], flatL bs].map T1 = gs at *
      have lgs : gs.length = 4 := by rw [← hgs]; rfl
      refine ⟨⟨_, rfl⟩, _, rfl, tl, rfl, ⟨_, SqL.of etl⟩, fun D nD => ?_⟩
      refine lc_list (K := K) (a := tl) (xs := gs.map V.str) (fun i H4 => H4 D = some (.lst (((gs.take i).filter fun z => decide (z.length ≠ 0)).map V.str)) ∧ Same H3 H4) ⟨upd_same, same_new nD⟩ (fun i H4 _ hp => hp.2.seq (SqL.of etl)) (fun i y H4 hy hp => ?_) fun H4 hp => ?_
      · obtain ⟨eD, s4⟩ := hp
        rw [List.getElem?_map] at hy
        obtain ⟨z, hz, rfl⟩ := Option.map_eq_some_iff.mp hy
        have hzl := mx z (List.mem_of_getElem? hz)
        have et2 : gs.take (i + 1) = gs.take i ++ [z] := by rw [List.take_add_one, hz]; rfl
        have lim2 : (20000 : Nat) ≤ sizeLine := by decide
        have hTr : TruV K (.str z) H4 (decide (z.length ≠ 0)) := ⟨Nat.le_trans hzl lim2, by cases z.length <;> rfl⟩
        refine ⟨rfl, ?_⟩
        refine ⟨_, rfl, _, hTr, ?_⟩
        by_cases h0 : z.length = 0
        · rw [decide_eq_false (fun e => e h0)]
          refine iteF ⟨?_, s4⟩
          rw [et2, List.filter_append, List.filter_cons_of_neg (by rw [decide_eq_false (fun e => e h0)]; decide), List.filter_nil, List.append_nil]
          exact eD
        · rw [decide_eq_true h0]
          refine iteT ⟨_, rfl, _, eD, ?_, ?_, fun b o e => ?_⟩
          · have l3 := List.length_filter_le (fun z : Str => decide (z.length ≠ 0)) (gs.take i)
            have l4 : (gs.take i).length ≤ 4 := by rw [List.length_take]; omega
            rw [List.length_map]
            exact small1000 (by omega)
          · rw [upd_same, et2, List.filter_append, List.filter_cons_of_pos (by exact decide_eq_true h0), List.filter_nil, List.map_append]; rfl
          · rw [upd_ne (ne_of_none e nD)]; exact s4 b o e
      · obtain ⟨eD, s4⟩ := hp
        rw [List.length_map, List.take_length] at eD
        refine ⟨_, D, _, rfl, rfl, .inl (SqL.of eD), ?_, ?_⟩
        · have := sum_le (B := 20000) (xs := gs.filter fun z => decide (z.length ≠ 0)) fun q hq => mx q (List.mem_filter.mp hq).1
          have l3 := List.length_filter_le (fun z : Str => decide (z.length ≠ 0)) gs
          rw [e1]
          omega
        · show Q (V.str (T1 _)) H4
          rw [fx.1]
          exact kk H4 (s12.trans s4)
end
def spReadLooks (K : PySem.W.Frag) : Sp := fun vs H Q _ => ∃ (a : Addr) (ls : List (List Str)), vs = [.ref a] ∧ SqL K H a ((flatL ls).map V.str) ∧ (∀ l ∈ ls, okK l) ∧ ls.length ≤ 10 ∧ ∀ t H', Same H H' → Dp K H' (.ref t) (.tuple (ls.map lkD)) → Q (.ref t) H'
def spReadProbe (K : PySem.W.Frag) : Sp := fun vs H Q _ => ∃ (a : Addr) (R : Rw), vs = [.ref a] ∧ SqL K H a (R.words.map V.str) ∧ R.ok ∧ (∀ ws, R ≠ .plain ws) ∧ ∀ t H', Same H H' → Dp K H' (.ref t) R.data → Q (.ref t) H'
def spReadRow (K : PySem.W.Frag) (w : World) (dN : Addr) : Sp := fun vs H Q _ => ∃ R : Rw, vs = [.str R.text] ∧ R.ok ∧ RowD K w dN R.data true ∧ ∀ v H', Same H H' → Dp K H' v R.data → Q v H'
theorem strs_len {ws : List Str} (h : ∀ w ∈ ws, IsW w) (hl : ws.length ≤ 2000) : (ws.map (·.length)).sum + ws.length * (" " : Str).length ≤ 16777216 := by
  have := sum_le (B := 8) (xs := ws) fun x hx => (h x hx).2.1
  rw [show (" " : Str).length = 1 by decide +kernel]
  omega
theorem looks_w {ls : List (List Str)} (ok : ∀ l ∈ ls, okK l) : ∀ u ∈ flatL ls, IsW u := flatL_mem (P := IsW) isW_comma fun l hl w hw => ((ok l hl).2.2 w hw).w
theorem looks_n {ls : List (List Str)} (ok : ∀ l ∈ ls, okK l) (hl : ls.length ≤ 10) : (flatL ls).length ≤ 1200 := by
  have := flatL_len (B := 110) fun l hl => (ok l hl).2.1
  omega
section
variable {P : Program} {w : World} {K : PySem.W.Frag} {mg : Str → Option Value} {base : Heap}
theorem scRL : FnScope ["words", "text"] ["words"] (defScope sReadLooks) := ⟨rfl, rfl, rfl, by decide +kernel, rfl, by decide +kernel, by decide +kernel⟩
theorem ok_readlooks {f : Addr} {fd : FuncData} {k : Nat} (F : Fun K "_read_looks" "_read_looks" sReadLooks f fd) (B : Bts mg) : FnOk P w K mg base CX0 (k + 1) f fd ["words"] (spReadLooks K) := by
  refine F.ok scRL (fun vs H Q E h => ?_) (fun cdv A outer s H vs Q E hr h => ?_)
  · obtain ⟨a, ls, rfl, _⟩ := h
    rfl
  · obtain ⟨a, ls, rfl, ha, ok, hl, kk⟩ := h
    refine ⟨_, pss_cons (ps_if (pt_not (pt_truth (pv 0) (by intro _; rfl)))
        (pss_one (ps_ret (pe_tup pa_nil)))
        pss_nil)
      (pss_one (ps_ret (pe_callTy call_tupS (by rfl) B.tuple (by decide +kernel) (pa_cons (pe_lc (own := [("text", 1)]) (g := gName 1) (tt := tYes) rfl scRL.nd (pi_list (pe_split (pe_join pe_str (pv 0)) pe_str)) (blkOk_by (N := ["words", "text"]) (sc := defScope sReadLooks) (by decide +kernel)) (fun _ _ _ _ _ => (pg_name (i := 1) scRL.nd rfl (.inl rfl))) (fun _ _ _ _ _ => pts_nil) (fun _ _ _ _ _ => (pe_callTy (callK (K := K) (r := rTupOf) call_tupS) (by rfl) B.tuple (by decide +kernel) (pa_cons (pe_split (pv 1) pe_str) pa_nil)))) pa_nil)))), ?_⟩
    by_cases e0 : ls = []
    · subst e0
      refine ⟨_, rfl, false, .inl ⟨_, ha, rfl⟩, iteT ?_⟩
      exact ⟨by show 0 ≤ sizeLine; decide, fun t nt => kk t _ (same_new nt) (.tup (SqT.of upd_same) .nil)⟩
    · have hf := flatL_ne (fun l hl => (ok l hl).1) e0
      have hw := looks_w ok
      have hn := looks_n ok hl
      refine ⟨_, rfl, true, .inl ⟨_, ha, by cases h : flatL ls with | nil => exact absurd h hf | cons _ _ => rfl⟩, iteF ?_⟩
      have hm := T1_max hw
      refine ⟨⟨_, rfl⟩, _, rfl, _, a, flatL ls, rfl, rfl, .inl ha, strs_len hw (by omega), ?_⟩
      have lim : (20002 : Nat) ≤ sizeLine := by decide
      refine ⟨⟨_, rfl⟩, _, _, rfl, rfl, by decide +kernel, by show (T1 (flatL ls)).length + 2 ≤ _; omega, fun p np => ?_⟩
      rw [show Txt.split (Txt.join (" " : Str) (flatL ls)) (" , " : Str) = ls.map T1 from looks_split e0 ok]
      have s1 := same_new (o := .lst ((ls.map T1).map V.str)) np
      have ep : (upd H p (.lst ((ls.map T1).map V.str))) p = some (.lst ((ls.map T1).map V.str)) := upd_same
      generalize upd H p (.lst ((ls.map T1).map V.str)) = H1 at *
      refine ⟨p, rfl, ⟨_, SqL.of ep⟩, fun D nD => ?_⟩
      refine lc_list (K := K) (a := p) (xs := (ls.map T1).map V.str) (fun i H2 => ∃ vs, H2 D = some (.lst vs) ∧ vs.length = i ∧ DpAll K (mask [D] H2) vs ((ls.take i).map lkD) ∧ Same H1 H2)
        ⟨[], upd_same, rfl, .nil, same_new nD⟩ (fun i H2 _ ⟨_, _, _, _, s⟩ => s.seq (SqL.of ep)) (fun i y H2 hy hI => ?_) fun H2 hI => ?_
      · obtain ⟨vs, eD, el, hds, s2⟩ := hI
        rw [List.getElem?_map, List.getElem?_map] at hy
        obtain ⟨_, hc, rfl⟩ := Option.map_eq_some_iff.mp hy
        obtain ⟨l, hl', rfl⟩ := Option.map_eq_some_iff.mp hc
        have okl := ok l (List.mem_of_getElem? hl')
        have hi : i < ls.length := (List.getElem?_eq_some_iff.mp hl').1
        have hml := T1_max fun w hw => (okl.2.2 w hw).w
        have hl1 := okl.2.1
        refine ⟨rfl, _, rfl, ⟨_, rfl⟩, _, _, rfl, rfl, by decide +kernel, by omega, fun p2 np2 => ?_⟩
        rw [T1_split (fun w hw => (okl.2.2 w hw).w) okl.1]
        refine ⟨⟨p2, _, rfl, .inl ⟨SqL.of upd_same, fun t nt => ?_⟩⟩⟩
        have s3 := (same_new (o := .lst (l.map V.str)) np2).trans (same_new (o := .tup (l.map V.str)) nt)
        have et : (upd (upd H2 p2 (.lst (l.map V.str))) t (.tup (l.map V.str))) t = some (.tup (l.map V.str)) := upd_same
        have ntD : t ≠ D := (ne_of_none ((same_new (o := .lst (l.map V.str)) np2) _ _ eD) nt).symm
        generalize upd (upd H2 p2 (.lst (l.map V.str))) t (.tup (l.map V.str)) = H3 at *
        refine ⟨vs, s3 _ _ eD, small1000 (by omega), vs ++ [.ref t], upd_same, by rw [List.length_append, el]; rfl, ?_, fun b o e => ?_⟩
        · rw [List.take_add_one, hl', List.map_append]
          have sm := (mask_same (l := [D]) s3).trans (mask_at (o := .lst (vs ++ [.ref t])) List.mem_cons_self)
          refine dpAll_app (dpAll_same sm _ _ hds) (.cons (.tup (SqT.of ?_) (strs_dp l)) .nil)
          rw [mask_out (fun m => ntD (List.mem_singleton.mp m)), upd_ne ntD]
          exact et
        · rw [upd_ne (ne_of_none e nD)]; exact s3 _ _ (s2 b o e)
      · obtain ⟨vs, eD, el, hds, s2⟩ := hI
        rw [List.length_map, List.length_map, List.take_length] at hds
        refine ⟨⟨D, _, rfl, .inl ⟨SqL.of eD, fun t nt => ?_⟩⟩⟩
        refine kk t _ ((s1.trans s2).trans (same_new nt)) (.tup (SqT.of upd_same) ?_)
        exact dpAll_same (same_new nt) _ _ (dpAll_same (mask_sub [D] H2) _ _ hds)
end
theorem cut_from (xs : List V) (k : Nat) : cutV xs (some (k : Int)) none = xs.drop k := by
  unfold cutV
  rw [HT.sIx_nat]
  show (xs.drop (min k xs.length)).take (xs.length - min k xs.length) = _
  by_cases h : k ≤ xs.length
  · rw [Nat.min_eq_left h, List.take_of_length_le (by rw [List.length_drop]; exact Nat.le_refl _)]
  · rw [Nat.min_eq_right (by omega), List.drop_length, List.drop_eq_nil_of_le (by omega), List.take_nil]
theorem cut_mid (xs : List V) (a b : Nat) (h : b ≤ xs.length) (hab : a ≤ b) : cutV xs (some (a : Int)) (some (b : Int)) = (xs.drop a).take (b - a) := by
  unfold cutV
  rw [HT.sIx_nat, HT.sIx_nat, Nat.min_eq_left (show a ≤ xs.length by omega), Nat.min_eq_left h]
section
variable {P : Program} {w : World} {K : PySem.W.Frag} {mg : Str → Option Value} {base : Heap}
theorem scRP : FnScope ["words", "at", "args", "rest"] ["words"] (defScope sReadProbe) := ⟨rfl, rfl, rfl, by decide +kernel, rfl, by decide +kernel, by decide +kernel⟩
theorem ok_readprobe {f fRl : Addr} {fd fdRl : FuncData} (F : Fun K "_read_probe" "_read_probe" sReadProbe f fd) (B : Bts mg) (GRl : FnOk P w K mg base CX0 1 fRl fdRl ["words"] (spReadLooks K)) (mRl : mg "_read_looks" = some (.ref fRl)) (kRl : PySem.W.keepIn K (.ref fRl) = true) (bRl : Binds K fdRl ["words"] []) :
    FnOk P w K mg base CX0 2 f fd ["words"] (spReadProbe K) := by
  refine F.ok scRP (fun vs H Q E h => ?_) (fun cdv A outer s H vs Q E hr h => ?_)
  · obtain ⟨a, R, rfl, _⟩ := h
    rfl
  · obtain ⟨a, R, rfl, hs, ok, np, kk⟩ := h
    have hrRl : Room 1 _ := hr
    refine ⟨_, pss_cons (ps_if (pt_cmpR op_notIn_seq pe_str (pe_slice sl_list (pv 0) (po_some pe_int) po_none) (by rfl))
        (pss_one (ps_ret (pe_tup pa_nil)))
        pss_nil)
      (pss_cons (ps_set (i := 1) scRP.nd rfl (.inl rfl) (pe_bm PySem.F.plainAttrs_list PySem.F.slot_list_index PySem.F.type_list_index mt_index3 (pv 0) (pa_cons pe_str (pa_cons pe_int pa_nil))))
      (pss_cons (ps_set (i := 2) scRP.nd rfl (.inl rfl) (pe_call GRl hrRl (by rfl) mRl kRl bRl .nil pass0 (pa_cons (pe_slice sl_list (pv 0) (po_some pe_int) (po_some (pv 1))) pa_nil)))
      (pss_cons (ps_set (i := 3) scRP.nd rfl (.inl rfl) (pe_call GRl hrRl (by rfl) mRl kRl bRl .nil pass0 (pa_cons (pe_slice sl_list (pv 0) (po_some (pe_op op_add (pv 1) pe_int)) po_none) pa_nil)))
      (pss_cons (ps_if (PW.pt (pw_and (pt_cmpR op_eq (pe_ix ix_list (pv 0) pe_int (fun _ _ => rfl)) pe_str (nomark _)) (pw_and1 (pt_cmpR op_eq (pe_callB call_len_seq (by rfl) B.len PySem.boot_len (pa_cons (pv 3) pa_nil)) pe_int (nomark _)))))
        (pss_one (ps_set (i := 3) scRP.nd rfl (.inl rfl) (pe_ix ix_tup (pv 3) pe_int (fun _ _ => rfl))))
        pss_nil)
      (pss_one (ps_ret (pe_tup (pa_cons (pe_ix ix_list (pv 0) pe_int (fun _ _ => rfl)) (pa_cons (pe_ix ix_list (pv 0) pe_int (fun _ _ => rfl)) (pa_cons (pe_ix ix_list (pv 0) pe_int (fun _ _ => rfl)) (pa_cons (pv 2) (pa_cons (pv 3) pa_nil)))))))))))), ?_⟩
    obtain ⟨wd, x, g, as, bs, ew, oa, ob, la, lb, hwd⟩ : ∃ (wd x g : Str) (as bs : List (List Str)), R.words = wd :: x :: g :: (flatL as ++ ("/" : Str) :: flatL bs) ∧ (∀ l ∈ as, okK l) ∧ (∀ l ∈ bs, okK l) ∧ as.length ≤ 10 ∧ bs.length ≤ 10 ∧
        ((wd = "probe" ∧ R.data = .tuple [.str wd, .str x, .str g, .tuple (as.map lkD), .tuple (bs.map lkD)]) ∨ (wd = "assert" ∧ ∃ b, bs = [b] ∧ R.data = .tuple [.str wd, .str x, .str g, .tuple (as.map lkD), lkD b])) := by
      cases R with
      | plain ws => exact absurd rfl (np ws)
      | probe x g as bs => exact ⟨"probe", x, g, as, bs, rfl, ok.2.2.1, ok.2.2.2.1, by have := ok.2.2.2.2.1; omega, by have := ok.2.2.2.2.2; omega, .inl ⟨rfl, rfl⟩⟩
      | asrt x g as b => exact ⟨"assert", x, g, as, [b], rfl, ok.2.2.1, fun l hl => by rw [List.mem_singleton.mp hl]; exact ok.2.2.2.1, by have := ok.2.2.2.2; omega, by show 1 ≤ 10; decide, .inr ⟨rfl, b, rfl, rfl⟩⟩
    have hwl := (Rw.words_ok ok).2.2
    rw [ew] at hs hwl
    generalize hws : (wd :: x :: g :: (flatL as ++ ("/" : Str) :: flatL bs)) = ws at *
    have d3 : ws.drop 3 = flatL as ++ ("/" : Str) :: flatL bs := by rw [← hws]; rfl
    have hla := looks_n oa la
    have hlb := looks_n ob lb
    have hlen : ws.length = 3 + ((flatL as).length + (1 + (flatL bs).length)) := by rw [← hws]; simp only [List.length_cons, List.length_append]; omega
    have c1 : cutV (ws.map V.str) (some (3 : Int)) none = (ws.drop 3).map V.str := by rw [List.map_drop]; exact cut_from _ 3
    have j0 : ws[3 + (flatL as).length]? = some "/" := by
      rw [← List.getElem?_drop, d3, List.getElem?_append_right (Nat.le_refl _), Nat.sub_self]; rfl
    -- '/' in words[3:]
    refine ⟨_, rfl, 3, rfl, a, _, rfl, hs, fun p1 np1 => ?_⟩
    rw [c1]
    have s1 := same_new (o := .lst ((ws.drop 3).map V.str)) np1
    have e1 : (upd H p1 (.lst ((ws.drop 3).map V.str))) p1 = some (.lst ((ws.drop 3).map V.str)) := upd_same
    generalize upd H p1 (.lst ((ws.drop 3).map V.str)) = H1 at *
    have mem : ("/" : Str) ∈ ws.drop 3 := by rw [d3]; simp
    refine ⟨p1, _, rfl, .inl (SqL.of e1), rfl, flat_strs _, _, rfl, ?_⟩
    show (if (!inV (V.str "/") ((ws.drop 3).map V.str)) = true then _ else _)
    rw [inV_str, decide_eq_true mem]
    refine iteF ?_
    -- at
    have hs1 := s1.seq hs
    refine ⟨_, rfl, .inl ⟨rfl, _, hs1⟩, ?_⟩
    refine ⟨a, _, _, 3, 3 + (flatL as).length, .str "/", rfl, rfl, hs1, rfl, flat_strs _, by omega, by rw [List.getElem?_map, j0]; rfl, by show (("/" : Str) == "/") = true; simp, fun m z' hm hmj hz => ?_, ?_⟩
    · rw [List.getElem?_map] at hz
      obtain ⟨u, hu, rfl⟩ := Option.map_eq_some_iff.mp hz
      obtain ⟨i, rfl⟩ : ∃ i, m = 3 + i := ⟨m - 3, by omega⟩
      rw [← List.getElem?_drop, d3, List.getElem?_append_left (by omega)] at hu
      have := flat_slash oa u (List.mem_of_getElem? hu)
      exact beq_eq_false_iff_ne.mpr this
    -- args
    have hcl : (ws.map V.str).length = ws.length := List.length_map ..
    have c2 : cutV (ws.map V.str) (some (3 : Int)) (some ((3 + (flatL as).length : Nat) : Int)) = (flatL as).map V.str := by
      rw [show (3 : Int) = ((3 : Nat) : Int) from rfl, cut_mid _ 3 (3 + (flatL as).length) (by rw [hcl]; omega) (by omega), ← List.map_drop, d3, ← List.map_take, Nat.add_sub_cancel_left, List.take_left']
      rfl
    have c3 : cutV (ws.map V.str) (some (((3 + (flatL as).length : Nat) : Int) + 1)) none = (flatL bs).map V.str := by
      rw [show ((3 + (flatL as).length : Nat) : Int) + 1 = ((3 + ((flatL as).length + 1) : Nat) : Int) from rfl, cut_from, ← List.map_drop, ← List.drop_drop, d3, ← List.drop_drop, List.drop_left]
      rfl
    refine ⟨_, rfl, 3, rfl, _, rfl, _, rfl, a, _, rfl, hs1, fun p2 np2 => ?_⟩
    rw [c2]
    have s2 := same_new (o := .lst ((flatL as).map V.str)) np2
    have e2 : (upd H1 p2 (.lst ((flatL as).map V.str))) p2 = some (.lst ((flatL as).map V.str)) := upd_same
    generalize upd H1 p2 (.lst ((flatL as).map V.str)) = H2 at *
    refine ⟨p2, as, rfl, SqL.of e2, oa, la, fun ta H3 s3 hta => ?_⟩
    have s13 := (s1.trans s2).trans s3
    have hs3 := s13.seq hs
    -- rest
    refine ⟨_, rfl, _, rfl, _, _, rfl, rfl, _, rfl, a, _, rfl, hs3, fun p4 np4 => ?_⟩
    rw [c3]
    have s4 := same_new (o := .lst ((flatL bs).map V.str)) np4
    have e4 : (upd H3 p4 (.lst ((flatL bs).map V.str))) p4 = some (.lst ((flatL bs).map V.str)) := upd_same
    generalize upd H3 p4 (.lst ((flatL bs).map V.str)) = H4 at *
    refine ⟨p4, bs, rfl, SqL.of e4, ob, lb, fun tb H5 s5 htb => ?_⟩
    have s35 := s4.trans s5
    have hs5 := s35.seq hs3
    have hta5 := dp_same s35 _ _ hta
    have s15 := s13.trans s35
    have k0 : atI (ws.map V.str) 0 = some (.str wd) := by rw [← hws]; exact atI_nat (j := 0) rfl
    have k1 : atI (ws.map V.str) 1 = some (.str x) := by rw [← hws]; exact atI_nat (j := 1) rfl
    have k2 : atI (ws.map V.str) 2 = some (.str g) := by rw [← hws]; exact atI_nat (j := 2) rfl
    refine ⟨_, rfl, a, _, 0, _, rfl, rfl, hs5, k0, rfl, _, rfl, ?_⟩
    show (if decide (V.str wd = V.str "assert") = true then _ else _)
    rcases hwd with ⟨e, er⟩ | ⟨e, b, eb, er⟩
    · rw [decide_eq_false (fun z => absurd (e.symm.trans (V.str.inj z)) (by decide +kernel))]
      refine iteF ?_
      refine ⟨_, rfl, a, _, 0, _, rfl, rfl, hs5, k0, _, rfl, a, _, 1, _, rfl, rfl, hs5, k1, _, rfl, a, _, 2, _, rfl, rfl, hs5, k2, _, rfl, _, rfl, by show 5 ≤ sizeLine; decide, fun tr ntr => ?_⟩
      have s6 := same_new (o := .tup [.str wd, .str x, .str g, .ref ta, .ref tb]) ntr
      refine kk tr _ (s15.trans s6) ?_
      rw [er]
      exact .tup (SqT.of upd_same) (.cons (.str _) (.cons (.str _) (.cons (.str _) (.cons (dp_same s6 _ _ hta5) (.cons (dp_same s6 _ _ htb) .nil)))))
    · rw [decide_eq_true (by rw [e])]
      subst eb
      obtain ⟨tb', ys, htb', ht, hys⟩ := ntup htb
      cases htb'
      obtain ⟨v0, r, rfl, h0, hys⟩ := nuncons hys
      obtain rfl := nnil hys
      refine iteT ⟨_, rfl, tb, _, rfl, .inr ht, rfl, _, rfl, iteT ?_⟩
      refine ⟨_, rfl, tb, _, 0, _, rfl, rfl, ht, atI_nat (j := 0) rfl, ?_⟩
      refine ⟨_, rfl, a, _, 0, _, rfl, rfl, hs5, k0, _, rfl, a, _, 1, _, rfl, rfl, hs5, k1, _, rfl, a, _, 2, _, rfl, rfl, hs5, k2, _, rfl, _, rfl, by show 5 ≤ sizeLine; decide, fun tr ntr => ?_⟩
      have s6 := same_new (o := .tup [.str wd, .str x, .str g, .ref ta, v0]) ntr
      refine kk tr _ (s15.trans s6) ?_
      rw [er]
      exact .tup (SqT.of upd_same) (.cons (.str _) (.cons (.str _) (.cons (.str _) (.cons (dp_same s6 _ _ hta5) (.cons (dp_same s6 _ _ h0) .nil)))))
end
section
variable {P : Program} {w : World} {K : PySem.W.Frag} {mg : Str → Option Value} {base : Heap}
theorem scRR : FnScope ["line", "words", "row"] ["line"] (defScope sReadRow) := ⟨rfl, rfl, rfl, by decide +kernel, rfl, by decide +kernel, by decide +kernel⟩
theorem ok_readrow {f fRp fI dN : Addr} {fd fdRp fdI : FuncData} (F : Fun K "read_row" "read_row" sReadRow f fd) (B : Bts mg) (C : Consts K mg) (GRp : FnOk P w K mg base CX0 2 fRp fdRp ["words"] (spReadProbe K)) (mRp : mg "_read_probe" = some (.ref fRp)) (kRp : PySem.W.keepIn K (.ref fRp) = true) (bRp : Binds K fdRp ["words"] [])
    (GI : FnOk P w K mg base CX0 6 fI fdI ["row"] (spIsRow K w dN)) (mI : mg "is_row" = some (.ref fI)) (kI : PySem.W.keepIn K (.ref fI) = true) (bI : Binds K fdI ["row"] []) : FnOk P w K mg base CX0 7 f fd ["line"] (spReadRow K w dN) := by
  refine F.ok scRR (fun vs H Q E h => ?_) (fun cdv A outer s H vs Q E hr h => ?_)
  · obtain ⟨R, rfl, _⟩ := h
    rfl
  · obtain ⟨R, rfl, ok, hrow, kk⟩ := h
    have hrRp : Room 2 _ := hr.mono (by decide)
    have hrI : Room 6 _ := hr
    refine ⟨_, pss_cons (ps_set (i := 1) scRR.nd rfl (.inl rfl) (pe_split (pv 0) pe_str))
      (pss_cons (ps_set (i := 2) scRR.nd rfl (.inl rfl) (pe_ifExp (pt_cmpR op_in_seq (pe_ix ix_list (pv 1) pe_int (fun _ _ => rfl)) (pe_glob (v := .ref C.tP) rfl C.mP rfl) (by rfl)) (pe_call GRp hrRp (by rfl) mRp kRp bRp .nil pass0 (pa_cons (pv 1) pa_nil)) (pe_callTy call_tupS (by rfl) B.tuple (by decide +kernel) (pa_cons (pv 1) pa_nil))))
      (pss_one (ps_ret (pe_ifExp (pt_val (pe_call GI hrI (by rfl) mI kI bI .nil pass0 (pa_cons (pv 2) pa_nil))) (pv 2) pe_non)))), ?_⟩
    have hm := Rw.text_max ok
    have lim : (20002 : Nat) ≤ sizeLine := by decide
    refine ⟨_, rfl, ⟨_, rfl⟩, _, _, rfl, rfl, by decide +kernel, by omega, fun p np => ?_⟩
    rw [Rw.text_split ok]
    have s1 := same_new (o := .lst (R.words.map V.str)) np
    have ep : (upd H p (.lst (R.words.map V.str))) p = some (.lst (R.words.map V.str)) := upd_same
    generalize upd H p (.lst (R.words.map V.str)) = H1 at *
    cases R with
    | plain ws =>
      cases ws with
      | nil => exact absurd rfl ok.1.1
      | cons x r =>
        refine ⟨_, rfl, p, _, 0, _, rfl, rfl, SqL.of ep, atI_nat (j := 0) rfl, C.tP, _, rfl, .inr (C.hP H1), rfl, flat_strs _, _, rfl, ?_⟩
        show (if inV (V.str x) (probesW.map V.str) = true then _ else _)
        rw [inV_str, decide_eq_false (ok.2 x rfl)]
        refine iteF ⟨_, rfl, ⟨⟨p, _, rfl, .inl ⟨SqL.of ep, fun t nt => ?_⟩⟩⟩⟩
        have s2 := same_new (o := .tup ((Rw.plain (x :: r)).words.map V.str)) nt
        have hd : Dp K (upd H1 t (.tup ((Rw.plain (x :: r)).words.map V.str))) (.ref t) (Rw.plain (x :: r)).data := .tup (SqT.of upd_same) (strs_dp (x :: r))
        refine ⟨_, rfl, .ref t, _, true, rfl, hd, hrow, fun H3 s3 => ?_⟩
        exact ⟨_, rfl, iteT ⟨_, rfl, kk _ H3 ((s1.trans s2).trans s3) (dp_same s3 _ _ hd)⟩⟩
    | probe x g as bs =>
      refine ⟨_, rfl, p, _, 0, _, rfl, rfl, SqL.of ep, atI_nat (j := 0) rfl, C.tP, _, rfl, .inr (C.hP H1), rfl, flat_strs _, _, rfl, ?_⟩
      show (if inV (V.str "probe") (probesW.map V.str) = true then _ else _)
      rw [inV_str, decide_eq_true (show ("probe" : Str) ∈ probesW by decide +kernel)]
      refine iteT ⟨_, rfl, p, _, rfl, SqL.of ep, ok, (fun ws e => by cases e), fun t H2 s2 hd => ?_⟩
      refine ⟨_, rfl, .ref t, _, true, rfl, hd, hrow, fun H3 s3 => ?_⟩
      exact ⟨_, rfl, iteT ⟨_, rfl, kk _ H3 ((s1.trans s2).trans s3) (dp_same s3 _ _ hd)⟩⟩
    | asrt x g as b =>
      refine ⟨_, rfl, p, _, 0, _, rfl, rfl, SqL.of ep, atI_nat (j := 0) rfl, C.tP, _, rfl, .inr (C.hP H1), rfl, flat_strs _, _, rfl, ?_⟩
      show (if inV (V.str "assert") (probesW.map V.str) = true then _ else _)
      rw [inV_str, decide_eq_true (show ("assert" : Str) ∈ probesW by decide +kernel)]
      refine iteT ⟨_, rfl, p, _, rfl, SqL.of ep, ok, (fun ws e => by cases e), fun t H2 s2 hd => ?_⟩
      refine ⟨_, rfl, .ref t, _, true, rfl, hd, hrow, fun H3 s3 => ?_⟩
      exact ⟨_, rfl, iteT ⟨_, rfl, kk _ H3 ((s1.trans s2).trans s3) (dp_same s3 _ _ hd)⟩⟩
end
/-! ### the law's own text of a row -/
def spLLooks (K : PySem.W.Frag) : Sp := fun vs H Q _ => ∃ (v : V) (ls : List (List Str)), vs = [v] ∧ Dp K H v (.tuple (ls.map lkD)) ∧ (∀ l ∈ ls, okK l) ∧ ls.length ≤ 10 ∧ ∀ p H', Same H H' → H' p = some (.lst ((flatL ls).map V.str)) → Q (.ref p) H'
def spLLine (K : PySem.W.Frag) : Sp := fun vs H Q _ => ∃ (v : V) (R : Rw), vs = [v] ∧ Dp K H v R.data ∧ R.ok ∧ ∀ H', Same H H' → Q (.str R.text) H'
section
variable {P : Program} {w : World} {K : PySem.W.Frag} {mg : Str → Option Value} {base : Heap}
theorem scLL : FnScope ["looks", "words", "look"] ["looks"] (defScope sLLooks) := ⟨rfl, rfl, rfl, by decide +kernel, rfl, by decide +kernel, by decide +kernel⟩
theorem ok_llooks {f : Addr} {fd : FuncData} {k : Nat} (F : Fun K "_law_looks_text" "_law_looks_text" sLLooks f fd) (B : Bts mg) : FnOk P w K mg base CX0 (k + 1) f fd ["looks"] (spLLooks K) := by
  refine F.ok scLL (fun vs H Q E h => ?_) (fun cdv A outer s H vs Q E hr h => ?_)
  · obtain ⟨v, ls, rfl, _⟩ := h
    rfl
  · obtain ⟨v, ls, rfl, hv, ok, hl, kk⟩ := h
    refine ⟨_, pss_cons (ps_set (i := 1) scLL.nd rfl (.inl rfl) (pe_lst pa_nil))
      (pss_cons (ps_for PassesOwn.never rfl (pi_tup (pv 0)) (pg_name (i := 2) scLL.nd rfl (.inl rfl))
        (pss_cons (ps_if (pt_truth (pv 1) (by intro _; rfl))
            (pss_one (ps_expr (pe_bm PySem.F.plainAttrs_list PySem.F.slot_list_append PySem.F.type_list_append mt_append (pv 1) (pa_cons pe_str pa_nil))))
            pss_nil)
          (pss_one (ps_set (i := 1) scLL.nd rfl (.inl rfl) (pe_op op_cat (pv 1) (pe_callTy call_list_of (by rfl) B.list (by decide +kernel) (pa_cons (pv 2) pa_nil)))))))
      (pss_one (ps_ret (pv 1)))), ?_⟩
    obtain ⟨t, ys, rfl, ht, hys⟩ := ntup hv
    have ly := dpAll_len hys
    rw [List.length_map] at ly
    refine ⟨by show 0 ≤ sizeLine; decide, fun p np => ?_⟩
    have s0 := same_new (o := .lst []) np
    have ep : (upd H p (.lst [])) p = some (.lst []) := upd_same
    generalize upd H p (.lst []) = H0 at *
    refine ⟨_, rfl, t, rfl, ⟨_, Same.seqT s0 ht⟩, for_tup (K := K) (a := t) (xs := ys) (fun i σ H2 => ∃ (p : Addr) (y2 : Option V), σ = [some (.ref t), some (.ref p), y2] ∧ H p = none ∧ H2 p = some (.lst ((flatL (ls.take i)).map V.str)) ∧ Same H H2)
      ⟨p, none, rfl, np, ep, s0⟩ (fun i σ H2 _ ⟨_, _, _, _, _, s⟩ => Same.seqT s ht) ?_ ?_⟩
    · rintro i y σ H2 hy ⟨p, y2, rfl, np, ep, s2⟩
      obtain ⟨l, u, el, rfl, hu⟩ := dpAll_nth hys hy
      have okl := ok l (List.mem_of_getElem? el)
      have hi : i < ls.length := (List.getElem?_eq_some_iff.mp el).1
      have et : ls.take (i + 1) = ls.take i ++ [l] := by rw [List.take_add_one, el]; rfl
      have okt : ∀ q ∈ ls.take i, okK q := fun q hq => ok q (List.mem_of_mem_take hq)
      have lt : (ls.take i).length ≤ 10 := by rw [List.length_take]; omega
      have hn := looks_n okt lt
      have hll := okl.2.1
      by_cases e0 : ls.take i = []
      · rw [e0] at ep
        refine ⟨_, rfl, false, .inl ⟨_, SqL.of ep, rfl⟩, iteF ?_⟩
        refine ⟨_, rfl, _, rfl, u, _, rfl, .inr (Same.seqT s2 hu), fun q nq => ?_⟩
        have s3 := same_new (o := .lst (l.map V.str)) nq
        have eq : (upd H2 q (.lst (l.map V.str))) q = some (.lst (l.map V.str)) := upd_same
        have ep3 := s3 _ _ ep
        generalize upd H2 q (.lst (l.map V.str)) = H3 at *
        refine ⟨p, q, _, _, rfl, rfl, ep3, eq, len1000 (by simp only [List.length_map]; show 0 + l.length ≤ _; omega), fun z nz => ?_⟩
        refine ⟨z, _, rfl, (s2.trans s3).free nz, ?_, (s2.trans s3).trans (same_new nz)⟩
        rw [upd_same, et, e0]; rfl
      · have hf := flatL_ne (fun q hq => (okt q hq).1) e0
        refine ⟨_, rfl, true, .inl ⟨_, SqL.of ep, by cases h : flatL (ls.take i) with | nil => exact absurd h hf | cons _ _ => rfl⟩, iteT ?_⟩
        refine ⟨_, rfl, .inl ⟨rfl, _, SqL.of ep⟩, p, _, _, rfl, rfl, ep, ?_, ?_⟩
        · have : (1300 : Nat) < sizeLine := by decide
          rw [List.length_map]; omega
        have s2' : Same H (upd H2 p (.lst ((flatL (ls.take i)).map V.str ++ [.str ","]))) := fun b o e => by rw [upd_ne (ne_of_none e np)]; exact s2 b o e
        have ep' : (upd H2 p (.lst ((flatL (ls.take i)).map V.str ++ [.str ","]))) p = some (.lst ((flatL (ls.take i) ++ [(",":Str)]).map V.str)) := by rw [upd_same, List.map_append]; rfl
        generalize upd H2 p (.lst ((flatL (ls.take i)).map V.str ++ [.str ","])) = H2' at *
        refine ⟨_, rfl, _, rfl, u, _, rfl, .inr (Same.seqT s2' hu), fun q nq => ?_⟩
        have s3 := same_new (o := .lst (l.map V.str)) nq
        have eq : (upd H2' q (.lst (l.map V.str))) q = some (.lst (l.map V.str)) := upd_same
        have ep3 := s3 _ _ ep'
        generalize upd H2' q (.lst (l.map V.str)) = H3 at *
        have lim : (1400 : Nat) ≤ sizeLine := by decide
        refine ⟨p, q, _, _, rfl, rfl, ep3, eq, by simp only [List.length_map, List.length_append, List.length_cons, List.length_nil]; omega, fun z nz => ?_⟩
        refine ⟨z, _, rfl, (s2'.trans s3).free nz, ?_, (s2'.trans s3).trans (same_new nz)⟩
        rw [upd_same, et, flatL_snoc e0]
        simp
    · rintro σ H2 ⟨p, y2, rfl, np, ep, s2⟩
      rw [ly, List.take_length] at ep
      exact ⟨_, rfl, kk p H2 s2 ep⟩
end
section
variable {P : Program} {w : World} {K : PySem.W.Frag} {mg : Str → Option Value} {base : Heap}
theorem scLN : FnScope ["row", "last"] ["row"] (defScope sLLine) := ⟨rfl, rfl, rfl, by decide +kernel, rfl, by decide +kernel, by decide +kernel⟩
theorem ok_lline {f fLL : Addr} {fd fdLL : FuncData} (F : Fun K "_law_line" "_law_line" sLLine f fd) (B : Bts mg) (GLL : FnOk P w K mg base CX0 1 fLL fdLL ["looks"] (spLLooks K)) (mLL : mg "_law_looks_text" = some (.ref fLL)) (kLL : PySem.W.keepIn K (.ref fLL) = true) (bLL : Binds K fdLL ["looks"] []) :
    FnOk P w K mg base CX0 2 f fd ["row"] (spLLine K) := by
  refine F.ok scLN (fun vs H Q E h => ?_) (fun cdv A outer s H vs Q E hr h => ?_)
  · obtain ⟨v, R, rfl, _⟩ := h
    rfl
  · obtain ⟨v, R, rfl, hv, ok, kk⟩ := h
    have hrLL : Room 1 _ := hr
    refine ⟨_, pss_cons (ps_if (pt_cmpR op_notIn_seq (pe_ix ix_tup (pv 0) pe_int (fun _ _ => rfl)) (pe_tup (pa_cons pe_str (pa_cons pe_str pa_nil))) (by rfl))
        (pss_one (ps_ret (pe_join pe_str (pe_callTy call_list_of (by rfl) B.list (by decide +kernel) (pa_cons (pv 0) pa_nil)))))
        pss_nil)
      (pss_cons (ps_set (i := 1) scLN.nd rfl (.inl rfl) (pe_ifExp (pt_cmpR op_eq (pe_ix ix_tup (pv 0) pe_int (fun _ _ => rfl)) pe_str (nomark _)) (pe_callTy call_list_of (by rfl) B.list (by decide +kernel) (pa_cons (pe_ix ix_tup (pv 0) pe_int (fun _ _ => rfl)) pa_nil)) (pe_call GLL hrLL (by rfl) mLL kLL bLL .nil pass0 (pa_cons (pe_ix ix_tup (pv 0) pe_int (fun _ _ => rfl)) pa_nil))))
      (pss_one (ps_ret (pe_join pe_str (pe_op op_cat (pe_op op_cat (pe_op op_cat (pe_lst (pa_cons (pe_ix ix_tup (pv 0) pe_int (fun _ _ => rfl)) (pa_cons (pe_ix ix_tup (pv 0) pe_int (fun _ _ => rfl)) (pa_cons (pe_ix ix_tup (pv 0) pe_int (fun _ _ => rfl)) pa_nil)))) (pe_call GLL hrLL (by rfl) mLL kLL bLL .nil pass0 (pa_cons (pe_ix ix_tup (pv 0) pe_int (fun _ _ => rfl)) pa_nil))) (pe_lst (pa_cons pe_str pa_nil))) (pv 1)))))), ?_⟩
    cases R with
    | plain ws =>
      obtain ⟨t, ys, rfl, ht, hys⟩ := ntup hv
      obtain rfl := strs_of hys
      cases ws with
      | nil => exact absurd rfl ok.1.1
      | cons x r =>
        refine ⟨_, rfl, t, _, 0, _, rfl, rfl, ht, atI_nat (j := 0) rfl, by show 2 ≤ sizeLine; decide, fun pt npt => ?_⟩
        have s1 := same_new (o := .tup (probesW.map V.str)) npt
        have ept : (upd H pt (.tup (probesW.map V.str))) pt = some (.tup (probesW.map V.str)) := upd_same
        show rIn _ _ _ _ (upd H pt (.tup (probesW.map V.str))) _
        generalize upd H pt (.tup (probesW.map V.str)) = H1 at *
        refine ⟨pt, _, rfl, .inr (SqT.of ept), rfl, flat_strs probesW, _, rfl, ?_⟩
        show (if (!inV (V.str x) (probesW.map V.str)) = true then _ else _)
        rw [inV_str, decide_eq_false (ok.2 x rfl)]
        refine iteT ⟨⟨_, rfl⟩, _, rfl, t, _, rfl, .inr (Same.seqT s1 ht), fun l nl => ?_⟩
        exact ⟨_, l, x :: r, rfl, rfl, .inl (SqL.of upd_same), ok.1.sum, kk _ (s1.trans (same_new nl))⟩
    | probe x g as bs =>
      generalize eR : Rw.probe x g as bs = R at *
      have eW : R.words = ("probe" : Str) :: x :: g :: (flatL as ++ ("/" : Str) :: flatL bs) := by rw [← eR]; rfl
      have ok' := ok
      rw [← eR] at hv ok'
      obtain ⟨hx, hg, ha, hb, la, lb⟩ := ok'
      obtain ⟨t, ys, rfl, ht, hys⟩ := ntup hv
      obtain ⟨v0, r, rfl, h0, hys⟩ := nuncons hys
      obtain ⟨v1, r, rfl, h1, hys⟩ := nuncons hys
      obtain ⟨v2, r, rfl, h2, hys⟩ := nuncons hys
      obtain ⟨v3, r, rfl, h3, hys⟩ := nuncons hys
      obtain ⟨v4, r, rfl, h4, hys⟩ := nuncons hys
      obtain rfl := nnil hys
      cases h0; cases h1; cases h2
      refine ⟨_, rfl, t, _, 0, _, rfl, rfl, ht, atI_nat (j := 0) rfl, by show 2 ≤ sizeLine; decide, fun pt npt => ?_⟩
      have s1 := same_new (o := .tup (probesW.map V.str)) npt
      have ept : (upd H pt (.tup (probesW.map V.str))) pt = some (.tup (probesW.map V.str)) := upd_same
      show rIn _ _ _ _ (upd H pt (.tup (probesW.map V.str))) _
      generalize upd H pt (.tup (probesW.map V.str)) = H1 at *
      refine ⟨pt, _, rfl, .inr (SqT.of ept), rfl, flat_strs probesW, _, rfl, ?_⟩
      show (if (!inV (V.str ("probe" : Str)) (probesW.map V.str)) = true then _ else _)
      rw [inV_str, decide_eq_true (show ("probe" : Str) ∈ probesW by decide +kernel)]
      have ht1 := Same.seqT s1 ht
      refine iteF ⟨_, rfl, t, _, 0, _, rfl, rfl, ht1, atI_nat (j := 0) rfl, rfl, _, rfl, ?_⟩
      refine iteF ⟨_, rfl, t, _, 4, _, rfl, rfl, ht1, atI_nat (j := 4) rfl, v4, bs, rfl, dp_same s1 _ _ h4, hb, by omega, fun lp H2 s2 el => ?_⟩
      generalize elast : flatL bs = last at *
      have n4 : last.length ≤ 1200 := by rw [← elast]; exact looks_n hb (by omega)
      have ht2 := Same.seqT s2 ht1
      refine ⟨⟨_, rfl⟩, _, rfl, t, _, 0, _, rfl, rfl, ht2, atI_nat (j := 0) rfl, _, rfl, t, _, 1, _, rfl, rfl, ht2, atI_nat (j := 1) rfl, _, rfl, t, _, 2, _, rfl, rfl, ht2, atI_nat (j := 2) rfl, by show 3 ≤ sizeLine; decide, fun a1 na1 => ?_⟩
      have s3 := same_new (o := .lst ([("probe" : Str), x, g].map V.str)) na1
      have e1 : (upd H2 a1 (.lst ([("probe" : Str), x, g].map V.str))) a1 = some (.lst ([("probe" : Str), x, g].map V.str)) := upd_same
      show (tCall (spLLooks K) [] E0 _) _ (upd H2 a1 (.lst ([("probe" : Str), x, g].map V.str))) _
      have ht3 := Same.seqT s3 ht2
      have s13 := (s1.trans s2).trans s3
      have el3 := s3 _ _ el
      have h33 := dp_same s13 _ _ h3
      generalize upd H2 a1 (.lst ([("probe" : Str), x, g].map V.str)) = H3 at *
      refine ⟨_, rfl, t, _, 3, _, rfl, rfl, ht3, atI_nat (j := 3) rfl, v3, as, rfl, h33, ha, by omega, fun a2 H4 s4 e2 => ?_⟩
      have n3 := looks_n ha (by omega)
      have lim : (4000 : Nat) ≤ sizeLine := by decide
      refine ⟨a1, a2, _, _, rfl, rfl, s4 _ _ e1, e2, by simp only [List.length_map, List.length_cons, List.length_nil]; omega, fun a3 na3 => ?_⟩
      have s5 := same_new (o := .lst ([("probe" : Str), x, g].map V.str ++ (flatL as).map V.str)) na3
      have e3 : (upd H4 a3 (.lst ([("probe" : Str), x, g].map V.str ++ (flatL as).map V.str))) a3 = some (.lst (([("probe" : Str), x, g] ++ flatL as).map V.str)) := by rw [upd_same, List.map_append]
      have el5 := s5 _ _ (s4 _ _ el3)
      generalize upd H4 a3 (.lst ([("probe" : Str), x, g].map V.str ++ (flatL as).map V.str)) = H5 at *
      refine ⟨by show 1 ≤ sizeLine; decide, fun a4 na4 => ?_⟩
      have s6 := same_new (o := .lst [.str "/"]) na4
      have e4 : (upd H5 a4 (.lst [.str "/"])) a4 = some (.lst [.str "/"]) := upd_same
      have e36 := s6 _ _ e3
      have el6 := s6 _ _ el5
      generalize upd H5 a4 (.lst [.str "/"]) = H6 at *
      refine ⟨a3, a4, _, _, rfl, rfl, e36, e4, by simp only [List.length_map, List.length_append, List.length_cons, List.length_nil]; omega, fun a5 na5 => ?_⟩
      have s7 := same_new (o := .lst (([("probe" : Str), x, g] ++ flatL as).map V.str ++ [.str "/"])) na5
      have e5 : (upd H6 a5 (.lst (([("probe" : Str), x, g] ++ flatL as).map V.str ++ [.str "/"]))) a5 = some (.lst (([("probe" : Str), x, g] ++ flatL as ++ [("/" : Str)]).map V.str)) := by rw [upd_same, List.map_append (l₁ := [("probe" : Str), x, g] ++ flatL as)]; rfl
      have el7 := s7 _ _ el6
      generalize upd H6 a5 (.lst (([("probe" : Str), x, g] ++ flatL as).map V.str ++ [.str "/"])) = H7 at *
      refine ⟨_, rfl, a5, lp, _, _, rfl, rfl, e5, el7, by simp only [List.length_map, List.length_append, List.length_cons, List.length_nil]; omega, fun a6 na6 => ?_⟩
      have s8 := same_new (o := .lst (([("probe" : Str), x, g] ++ flatL as ++ [("/" : Str)]).map V.str ++ last.map V.str)) na6
      have e6 : (upd H7 a6 (.lst (([("probe" : Str), x, g] ++ flatL as ++ [("/" : Str)]).map V.str ++ last.map V.str))) a6 = some (.lst (([("probe" : Str), x, g] ++ flatL as ++ [("/" : Str)] ++ last).map V.str)) := by rw [upd_same, List.map_append (l₁ := [("probe" : Str), x, g] ++ flatL as ++ [("/" : Str)])]
      have ew : [("probe" : Str), x, g] ++ flatL as ++ [("/" : Str)] ++ last = R.words := by rw [eW]; simp
      rw [ew] at e6
      refine ⟨_, a6, R.words, rfl, rfl, .inl (SqL.of e6), strs_len (Rw.words_ok ok).2.1 (Rw.words_ok ok).2.2, ?_⟩
      exact kk _ ((((s13.trans s4).trans s5).trans s6).trans (s7.trans s8))
    | asrt x g as b =>
      generalize eR : Rw.asrt x g as b = R at *
      have eW : R.words = ("assert" : Str) :: x :: g :: (flatL as ++ ("/" : Str) :: b) := by rw [← eR]; rfl
      have ok' := ok
      rw [← eR] at hv ok'
      obtain ⟨hx, hg, ha, hb, la⟩ := ok'
      obtain ⟨t, ys, rfl, ht, hys⟩ := ntup hv
      obtain ⟨v0, r, rfl, h0, hys⟩ := nuncons hys
      obtain ⟨v1, r, rfl, h1, hys⟩ := nuncons hys
      obtain ⟨v2, r, rfl, h2, hys⟩ := nuncons hys
      obtain ⟨v3, r, rfl, h3, hys⟩ := nuncons hys
      obtain ⟨v4, r, rfl, h4, hys⟩ := nuncons hys
      obtain rfl := nnil hys
      cases h0; cases h1; cases h2
      refine ⟨_, rfl, t, _, 0, _, rfl, rfl, ht, atI_nat (j := 0) rfl, by show 2 ≤ sizeLine; decide, fun pt npt => ?_⟩
      have s1 := same_new (o := .tup (probesW.map V.str)) npt
      have ept : (upd H pt (.tup (probesW.map V.str))) pt = some (.tup (probesW.map V.str)) := upd_same
      show rIn _ _ _ _ (upd H pt (.tup (probesW.map V.str))) _
      generalize upd H pt (.tup (probesW.map V.str)) = H1 at *
      refine ⟨pt, _, rfl, .inr (SqT.of ept), rfl, flat_strs probesW, _, rfl, ?_⟩
      show (if (!inV (V.str ("assert" : Str)) (probesW.map V.str)) = true then _ else _)
      rw [inV_str, decide_eq_true (show ("assert" : Str) ∈ probesW by decide +kernel)]
      have ht1 := Same.seqT s1 ht
      refine iteF ⟨_, rfl, t, _, 0, _, rfl, rfl, ht1, atI_nat (j := 0) rfl, rfl, _, rfl, ?_⟩
      obtain ⟨tb, yb, rfl, htb, hyb⟩ := ntup h4
      obtain rfl := strs_of hyb
      refine iteT ⟨_, rfl, t, _, 4, _, rfl, rfl, ht1, atI_nat (j := 4) rfl, tb, _, rfl, .inr (Same.seqT s1 htb), fun lp nlp => ?_⟩
      have s2 := same_new (o := .lst (b.map V.str)) nlp
      have el : (upd H1 lp (.lst (b.map V.str))) lp = some (.lst (b.map V.str)) := upd_same
      generalize upd H1 lp (.lst (b.map V.str)) = H2 at *
      generalize elast : b = last at *
      have n4 : last.length ≤ 1200 := by have := hb.2.1; omega
      have ht2 := Same.seqT s2 ht1
      refine ⟨⟨_, rfl⟩, _, rfl, t, _, 0, _, rfl, rfl, ht2, atI_nat (j := 0) rfl, _, rfl, t, _, 1, _, rfl, rfl, ht2, atI_nat (j := 1) rfl, _, rfl, t, _, 2, _, rfl, rfl, ht2, atI_nat (j := 2) rfl, by show 3 ≤ sizeLine; decide, fun a1 na1 => ?_⟩
      have s3 := same_new (o := .lst ([("assert" : Str), x, g].map V.str)) na1
      have e1 : (upd H2 a1 (.lst ([("assert" : Str), x, g].map V.str))) a1 = some (.lst ([("assert" : Str), x, g].map V.str)) := upd_same
      show (tCall (spLLooks K) [] E0 _) _ (upd H2 a1 (.lst ([("assert" : Str), x, g].map V.str))) _
      have ht3 := Same.seqT s3 ht2
      have s13 := (s1.trans s2).trans s3
      have el3 := s3 _ _ el
      have h33 := dp_same s13 _ _ h3
      generalize upd H2 a1 (.lst ([("assert" : Str), x, g].map V.str)) = H3 at *
      refine ⟨_, rfl, t, _, 3, _, rfl, rfl, ht3, atI_nat (j := 3) rfl, v3, as, rfl, h33, ha, by omega, fun a2 H4 s4 e2 => ?_⟩
      have n3 := looks_n ha (by omega)
      have lim : (4000 : Nat) ≤ sizeLine := by decide
      refine ⟨a1, a2, _, _, rfl, rfl, s4 _ _ e1, e2, by simp only [List.length_map, List.length_cons, List.length_nil]; omega, fun a3 na3 => ?_⟩
      have s5 := same_new (o := .lst ([("assert" : Str), x, g].map V.str ++ (flatL as).map V.str)) na3
      have e3 : (upd H4 a3 (.lst ([("assert" : Str), x, g].map V.str ++ (flatL as).map V.str))) a3 = some (.lst (([("assert" : Str), x, g] ++ flatL as).map V.str)) := by rw [upd_same, List.map_append]
      have el5 := s5 _ _ (s4 _ _ el3)
      generalize upd H4 a3 (.lst ([("assert" : Str), x, g].map V.str ++ (flatL as).map V.str)) = H5 at *
      refine ⟨by show 1 ≤ sizeLine; decide, fun a4 na4 => ?_⟩
      have s6 := same_new (o := .lst [.str "/"]) na4
      have e4 : (upd H5 a4 (.lst [.str "/"])) a4 = some (.lst [.str "/"]) := upd_same
      have e36 := s6 _ _ e3
      have el6 := s6 _ _ el5
      generalize upd H5 a4 (.lst [.str "/"]) = H6 at *
      refine ⟨a3, a4, _, _, rfl, rfl, e36, e4, by simp only [List.length_map, List.length_append, List.length_cons, List.length_nil]; omega, fun a5 na5 => ?_⟩
      have s7 := same_new (o := .lst (([("assert" : Str), x, g] ++ flatL as).map V.str ++ [.str "/"])) na5
      have e5 : (upd H6 a5 (.lst (([("assert" : Str), x, g] ++ flatL as).map V.str ++ [.str "/"]))) a5 = some (.lst (([("assert" : Str), x, g] ++ flatL as ++ [("/" : Str)]).map V.str)) := by rw [upd_same, List.map_append (l₁ := [("assert" : Str), x, g] ++ flatL as)]; rfl
      have el7 := s7 _ _ el6
      generalize upd H6 a5 (.lst (([("assert" : Str), x, g] ++ flatL as).map V.str ++ [.str "/"])) = H7 at *
      refine ⟨_, rfl, a5, lp, _, _, rfl, rfl, e5, el7, by simp only [List.length_map, List.length_append, List.length_cons, List.length_nil]; omega, fun a6 na6 => ?_⟩
      have s8 := same_new (o := .lst (([("assert" : Str), x, g] ++ flatL as ++ [("/" : Str)]).map V.str ++ last.map V.str)) na6
      have e6 : (upd H7 a6 (.lst (([("assert" : Str), x, g] ++ flatL as ++ [("/" : Str)]).map V.str ++ last.map V.str))) a6 = some (.lst (([("assert" : Str), x, g] ++ flatL as ++ [("/" : Str)] ++ last).map V.str)) := by rw [upd_same, List.map_append (l₁ := [("assert" : Str), x, g] ++ flatL as ++ [("/" : Str)])]
      have ew : [("assert" : Str), x, g] ++ flatL as ++ [("/" : Str)] ++ last = R.words := by rw [eW]; simp
      rw [ew] at e6
      refine ⟨_, a6, R.words, rfl, rfl, .inl (SqL.of e6), strs_len (Rw.words_ok ok).2.1 (Rw.words_ok ok).2.2, ?_⟩
      exact kk _ ((((s13.trans s4).trans s5).trans s6).trans (s7.trans s8))
end
theorem iteNb {b : Bool} {A B : Prop} (e : b = false) (h : B) : if b = true then A else B := by rw [e]; exact iteF h
theorem Rw.dp {R : Rw} (h : R.ok) : Qp.dp 5 R.data := by
  have hs : ∀ {m : Nat} {l : List Str}, l.length ≤ 110 → Qp.dp (m + 2) (.tuple (l.map .str)) := by
    intro m l hl
    simp only [Qp.dp]
    refine ⟨by rw [List.length_map]; omega, fun d hd => ?_⟩
    obtain ⟨z, _, rfl⟩ := List.mem_map.mp hd
    simp only [Qp.dp]
  have hk : ∀ {m : Nat} {ls : List (List Str)}, (∀ l ∈ ls, okK l) → ls.length ≤ 6 → Qp.dp (m + 3) (.tuple (ls.map lkD)) := by
    intro m ls ok hl
    rw [Qp.dp]
    refine ⟨by rw [List.length_map]; omega, fun d hd => ?_⟩
    obtain ⟨z, hz, rfl⟩ := List.mem_map.mp hd
    exact hs (ok z hz).2.1
  cases R with
  | plain ws => exact hs h.1.2.1
  | probe x g as bs =>
    obtain ⟨_, _, ha, hb, la, lb⟩ := h
    show Qp.dp 5 (.tuple _)
    rw [Qp.dp]
    refine ⟨by show 5 ≤ _; decide, fun d hd => ?_⟩
    simp only [List.mem_cons, List.not_mem_nil, or_false] at hd
    rcases hd with rfl | rfl | rfl | rfl | rfl
    · simp only [Qp.dp]
    · simp only [Qp.dp]
    · simp only [Qp.dp]
    · exact hk ha la
    · exact hk hb lb
  | asrt x g as b =>
    obtain ⟨_, _, ha, hb, la⟩ := h
    show Qp.dp 5 (.tuple _)
    rw [Qp.dp]
    refine ⟨by show 5 ≤ _; decide, fun d hd => ?_⟩
    simp only [List.mem_cons, List.not_mem_nil, or_false] at hd
    rcases hd with rfl | rfl | rfl | rfl | rfl
    · simp only [Qp.dp]
    · simp only [Qp.dp]
    · simp only [Qp.dp]
    · exact hk ha la
    · exact hs hb.2.1
/-- a row with its text, at u -/
def EntAt (K : PySem.W.Frag) (L : List Addr) (H : Hp) (u : Addr) : Prop := ∃ (v : V) (R : Rw), u ∉ L ∧ H u = some (.tup [v, .str R.text]) ∧ Dp K (mask L H) v R.data ∧ R.ok
theorem EntAt.same {K : PySem.W.Frag} {L : List Addr} {H H' : Hp} {u : Addr} (s : Same H H') (h : EntAt K L H u) : EntAt K L H' u := by
  obtain ⟨v, R, h1, h2, h3, h4⟩ := h
  exact ⟨v, R, h1, s _ _ h2, dp_same (mask_same s) _ _ h3, h4⟩
theorem EntAt.keep {K : PySem.W.Frag} {p q : Addr} {L : List Addr} {H H' : Hp} {u : Addr} (hp : p ∈ L) (hq : q ∈ L) (k : Keeps p q H H') (h : EntAt K L H u) : EntAt K L H' u := by
  obtain ⟨v, R, h1, h2, h3, h4⟩ := h
  exact ⟨v, R, h1, k _ _ (fun e => h1 (by rw [e]; exact hp)) (fun e => h1 (by rw [e]; exact hq)) h2, dp_same (Keeps.maskL hp hq k) _ _ h3, h4⟩
theorem EntAt.at {K : PySem.W.Frag} {L : List Addr} {H : Hp} {u a : Addr} {o : HO} (ha : a ∈ L) (h : EntAt K L H u) : EntAt K L (upd H a o) u := by
  obtain ⟨v, R, h1, h2, h3, h4⟩ := h
  exact ⟨v, R, h1, by rw [upd_ne fun e => h1 (by rw [e]; exact ha)]; exact h2, dp_same (mask_at ha) _ _ h3, h4⟩
def spLaw (K : PySem.W.Frag) : Sp := fun vs H Q _ => ∃ (a : Addr) (ns : List Int), vs = [.ref a] ∧ SqL K H a (ns.map V.int) ∧ ns.length ≤ 63 ∧ ∀ H', Q (.bl true) H'
structure Law22 (P : Program) (w : World) (K : PySem.W.Frag) (mg : Str → Option Value) (base : Heap) where
  dN : Addr
  B : Bts mg
  fP : Addr
  fdP : FuncData
  GP : FnOk P w K mg base CX0 1 fP fdP ["script"] (spPool K)
  mP : mg "_law_pool" = some (.ref fP)
  kP : PySem.W.keepIn K (.ref fP) = true
  bP : Binds K fdP ["script"] []
  fR : Addr
  fdR : FuncData
  GR : FnOk P w K mg base CX0 5 fR fdR ["pool"] (spGen K (fun d => RowD K w dN d true) 400)
  mR : mg "_law_free_row" = some (.ref fR)
  kR : PySem.W.keepIn K (.ref fR) = true
  bR : Binds K fdR ["pool"] []
  fLn : Addr
  fdLn : FuncData
  GLn : FnOk P w K mg base CX0 2 fLn fdLn ["row"] (spLLine K)
  mLn : mg "_law_line" = some (.ref fLn)
  kLn : PySem.W.keepIn K (.ref fLn) = true
  bLn : Binds K fdLn ["row"] []
  fS : Addr
  fdS : FuncData
  GS : FnOk P w K mg base CX0 5 fS fdS ["actual", "due"] (spSame K 5)
  mS : mg "_law_same" = some (.ref fS)
  kS : PySem.W.keepIn K (.ref fS) = true
  bS : Binds K fdS ["actual", "due"] []
  fT : Addr
  fdT : FuncData
  GT : FnOk P w K mg base CX0 2 fT fdT ["row"] (spRowText K)
  mT : mg "row_text" = some (.ref fT)
  kT : PySem.W.keepIn K (.ref fT) = true
  bT : Binds K fdT ["row"] []
  fRR : Addr
  fdRR : FuncData
  GRR : FnOk P w K mg base CX0 7 fRR fdRR ["line"] (spReadRow K w dN)
  mRR : mg "read_row" = some (.ref fRR)
  kRR : PySem.W.keepIn K (.ref fRR) = true
  bRR : Binds K fdRR ["line"] []
  fD : Addr
  fdD : FuncData
  GD : FnOk P w K mg base CX0 1 fD fdD ["pool", "many"] (spDraw)
  mD : mg "_law_draw" = some (.ref fD)
  kD : PySem.W.keepIn K (.ref fD) = true
  bD : Binds K fdD ["pool", "many"] []
section
variable {P : Program} {w : World} {K : PySem.W.Frag} {mg : Str → Option Value} {base : Heap}
theorem scL : FnScope ["script", "pool", "seen", "turn", "row", "line", "other", "heard"] ["script"] (defScope sLaw) := ⟨rfl, rfl, rfl, by decide +kernel, rfl, by decide +kernel, by decide +kernel⟩
theorem ok_law {f : Addr} {fd : FuncData} (F : Fun K "law" "law" sLaw f fd) (G : Law22 P w K mg base) : FnOk P w K mg base CX0 8 f fd ["script"] (spLaw K) := by
  obtain ⟨dN, B, fP, fdP, GP, mP, kP, bP, fR, fdR, GR, mR, kR, bR, fLn, fdLn, GLn, mLn, kLn, bLn, fS, fdS, GS, mS, kS, bS, fT, fdT, GT, mT, kT, bT, fRR, fdRR, GRR, mRR, kRR, bRR, fD, fdD, GD, mD, kD, bD⟩ := G
  refine F.ok scL (fun vs H Q E h => ?_) (fun cdv A outer s0 H vs Q E hr h => ?_)
  · obtain ⟨a, ns, rfl, _⟩ := h
    rfl
  · obtain ⟨a, ns, rfl, hS0, hlen, kk⟩ := h
    have hrP : Room 1 _ := hr.mono (by decide)
    have hrD := hrP
    have hrT : Room 2 _ := hr.mono (by decide)
    have hrLn := hrT
    have hrR : Room 5 _ := hr.mono (by decide)
    have hrS := hrR
    have hrRR : Room 7 _ := hr
    refine ⟨_, pss_cons (ps_set (i := 1) scL.nd rfl (.inl rfl) (pe_call GP hrP (by rfl) mP kP bP .nil pass0 (pa_cons (pv 0) pa_nil)))
      (pss_cons (ps_set (i := 2) scL.nd rfl (.inl rfl) (pe_lst pa_nil))
      (pss_cons (ps_for PassesOwn.never rfl (pi_range1 (by rfl) B.range (pa_cons pe_int pa_nil)) (pg_name (i := 3) scL.nd rfl (.inl rfl))
        (pss_cons (ps_set (i := 4) scL.nd rfl (.inl rfl) (pe_call GR hrR (by rfl) mR kR bR .nil pass0 (pa_cons (pv 1) pa_nil)))
          (pss_cons (ps_set (i := 5) scL.nd rfl (.inl rfl) (pe_call GLn hrLn (by rfl) mLn kLn bLn .nil pass0 (pa_cons (pv 4) pa_nil)))
          (pss_cons (ps_if (PW.pt (pw_or (pt_not (pt_val (pe_call GS hrS (by rfl) mS kS bS .nil pass0 (pa_cons (pe_call GT hrT (by rfl) mT kT bT .nil pass0 (pa_cons (pv 4) pa_nil)) (pa_cons (pv 5) pa_nil))))) (pw_or1 (pt_not (pt_val (pe_call GS hrS (by rfl) mS kS bS .nil pass0 (pa_cons (pe_call GRR hrRR (by rfl) mRR kRR bRR .nil pass0 (pa_cons (pv 5) pa_nil)) (pa_cons (pv 4) pa_nil))))))))
            (pss_one (ps_ret pe_bl))
            pss_nil)
          (pss_cons (ps_expr (pe_bm PySem.F.plainAttrs_list PySem.F.slot_list_append PySem.F.type_list_append mt_append (pv 2) (pa_cons (pe_tup (pa_cons (pv 4) (pa_cons (pe_call GT hrT (by rfl) mT kT bT .nil pass0 (pa_cons (pv 4) pa_nil)) pa_nil))) pa_nil)))
          (pss_cons (ps_asg (pe_ix ix_list (pv 2) (pe_call GD hrD (by rfl) mD kD bD .nil pass0 (pa_cons (pv 1) (pa_cons (pe_callB call_len_seq (by rfl) B.len PySem.boot_len (pa_cons (pv 2) pa_nil)) pa_nil))) (fun _ _ => rfl)) (pg_tup rfl (pgs_cons (pg_name (i := 6) scL.nd rfl (.inl rfl)) (pgs_cons (pg_name (i := 7) scL.nd rfl (.inl rfl)) pgs_nil))))
          (pss_one (ps_if (pt_cmpR op_ne (pe_cmpR (op_eqD hr.units) (pv 4) (pv 6) (nomark _)) (pe_cmpR op_eq (pe_ix ix_seq (pe_ix ix_list (pv 2) (pe_un un_neg pe_int) (fun _ _ => rfl)) pe_int (fun _ _ => rfl)) (pv 7) (nomark _)) (nomark _))
            (pss_one (ps_ret pe_bl))
            pss_nil))))))))
      (pss_one (ps_ret pe_bl)))), ?_⟩
    refine ⟨_, rfl, a, ns, rfl, hS0, hlen, fun p q H1 np nq P1 s1 => ?_⟩
    refine ⟨by show 0 ≤ sizeLine; decide, fun sn nsn => ?_⟩
    have ncp : sn ≠ p ∧ sn ≠ q := by
      have := P1.alive.not nsn
      exact ⟨fun e => this (by rw [e]; simp), fun e => this (by rw [e]; simp)⟩
    have P2 := P1.new (o := .lst []) nsn
    have esn : (upd H1 sn (.lst [])) sn = some (.lst []) := upd_same
    generalize upd H1 sn (.lst []) = H2 at *
    have lp : p ∈ [sn, p, q] := by simp
    have lq : q ∈ [sn, p, q] := by simp
    have ls : sn ∈ [sn, p, q] := by simp
    refine ⟨30, rfl, by decide, by decide, for_range (lo := 0) (n := 30) (fun i σ H => ∃ (n : Nat) (us : List Addr) (y3 y4 y5 y6 y7 : Option V), σ = [some (.ref a), some (.ref p), some (.ref sn), y3, y4, y5, y6, y7] ∧ n ≤ 500 * i ∧ PoolAt H p q n ∧ H sn = some (.lst (us.map V.ref)) ∧ us.length = i ∧ ∀ u ∈ us, EntAt K [sn, p, q] H u)
      ⟨0, [], none, none, none, none, none, rfl, by omega, P2, esn, rfl, fun u h => nomatch h⟩ ?_ ?_⟩
    · rintro i σ H3 hi ⟨n, us, y3, y4, y5, y6, y7, rfl, hn, P3, es3, el, hus⟩
      have al3 : Alive [sn, p, q] H3 := fun y my => by
        simp only [List.mem_cons, List.not_mem_nil, or_false] at my
        rcases my with rfl | rfl | rfl
        · exact ⟨_, es3⟩
        · exact P3.p_some
        · exact P3.q_some
      -- the row
      refine ⟨_, rfl, p, q, n, [sn, p, q], rfl, P3, by omega, al3, lp, lq, fun v d n4 H4 hd hR h41 h42 P4 k4 => ?_⟩
      obtain ⟨R, rfl, ok⟩ := row_view hR
      have es4 := k4 _ _ ncp.1 ncp.2 es3
      have hus4 := fun u hu => (hus u hu).keep lp lq k4
      have al4 := k4.alive al3 P4
      clear al3 hus es3
      -- its line, its text, read again
      refine ⟨_, rfl, v, R, rfl, dp_same (mask_sub _ _) _ _ hd, ok, fun H5 s5 => ?_⟩
      have hd5 := dp_same (mask_same s5) _ _ hd
      refine ⟨_, rfl, v, R, rfl, dp_same (mask_sub _ _) _ _ hd5, ok, fun H6 s6 => ?_⟩
      have hd6 := dp_same (mask_same s6) _ _ hd5
      refine ⟨_, rfl, .str _, .str _, .str R.text, rfl, .str _, .str _, by simp [Qp.dp], _, rfl, iteF ?_⟩
      refine ⟨_, rfl, R, rfl, ok, hR, fun v7 H7 s7 hd7 => ?_⟩
      have s47 := (s5.trans s6).trans s7
      have hdv := dp_same (mask_same s7) _ _ hd6
      refine ⟨_, rfl, v7, v, R.data, rfl, hd7, dp_same (mask_sub _ _) _ _ hdv, Rw.dp ok, _, rfl, iteF ?_⟩
      have es7 := s47 _ _ es4
      refine ⟨_, rfl, .inl ⟨rfl, _, SqL.of es7⟩, _, rfl, _, rfl, v, R, rfl, dp_same (mask_sub _ _) _ _ hdv, ok, fun H8 s8 => ⟨by show 2 ≤ sizeLine; decide, fun u nu => ?_⟩⟩
      have s9 := s8.trans (same_new (o := .tup [v, .str R.text]) nu)
      have eu : (upd H8 u (.tup [v, .str R.text])) u = some (.tup [v, .str R.text]) := upd_same
      have nul : u ∉ [sn, p, q] := (al4.same (s47.trans s8)).not nu
      generalize upd H8 u (.tup [v, .str R.text]) = H9 at *
      have s49 := s47.trans s9
      have hEnt : EntAt K [sn, p, q] H9 u := ⟨v, R, nul, eu, dp_same (mask_same s9) _ _ hdv, ok⟩
      refine ⟨sn, _, _, rfl, rfl, s9 _ _ es7, small1000 (by rw [List.length_map]; omega), ?_⟩
      have es10 : (upd H9 sn (.lst (us.map V.ref ++ [.ref u]))) sn = some (.lst ((us ++ [u]).map V.ref)) := by rw [upd_same, List.map_append]; rfl
      have hus10 : ∀ x ∈ us ++ [u], EntAt K [sn, p, q] (upd H9 sn (.lst (us.map V.ref ++ [.ref u]))) x := fun x hx => by
        rcases List.mem_append.mp hx with hx | hx
        · exact ((hus4 x hx).same s49).at ls
        · rw [List.mem_singleton.mp hx]; exact hEnt.at ls
      have P10 : PoolAt (upd H9 sn (.lst (us.map V.ref ++ [.ref u]))) p q n4 := (P4.same s49).upd ncp.1 ncp.2
      have hv10 : Dp K (mask [sn, p, q] (upd H9 sn (.lst (us.map V.ref ++ [.ref u])))) v R.data := dp_same ((mask_same s9).trans (mask_at ls)) _ _ hdv
      have elast : (us ++ [u])[i]? = some u := by rw [← el, List.getElem?_append_right (Nat.le_refl _), Nat.sub_self]; rfl
      have elen : (us ++ [u]).length = i + 1 := by rw [List.length_append, el]; rfl
      have eu10 : (upd H9 sn (.lst (us.map V.ref ++ [.ref u]))) u = some (.tup [v, .str R.text]) := by rw [upd_ne (fun e => nul (by rw [e]; exact ls))]; exact eu
      generalize upd H9 sn (.lst (us.map V.ref ++ [.ref u])) = H10 at *
      generalize us ++ [u] = us2 at *
      clear hus4 es7 es4 hEnt s9 s49 s47 s5 s6 s7 s8 hd hd5 hd6 hd7 hdv
      -- one of them
      refine ⟨_, rfl, _, rfl, _, rfl, sn, _, rfl, .inl (SqL.of es10), p, q, n4, _, rfl, P10, by omega, ?_, ?_, fun dd H11 d0 d1 P11 k11 => ?_⟩
      · rw [List.length_map, elen]; omega
      · rw [List.length_map, elen]
        have : ((i + 1 : Nat) : Int) ≤ 31 := by omega
        exact Int.le_trans this (by decide)
      rw [List.length_map, elen] at d1
      have es11 := k11 _ _ ncp.1 ncp.2 es10
      have hus11 := fun x hx => (hus10 x hx).keep lp lq k11
      have hv11 := dp_same (Keeps.maskL lp lq k11) _ _ hv10
      obtain ⟨j, rfl⟩ : ∃ j : Nat, dd = (j : Int) := ⟨dd.toNat, by omega⟩
      have hj : j < us2.length := by omega
      obtain ⟨v2, R2, nx, ex, hd2, ok2⟩ := hus11 _ (List.getElem_mem hj)
      have eu11 := k11 _ _ (fun e => nul (by rw [e]; exact lp)) (fun e => nul (by rw [e]; exact lq)) eu10
      refine ⟨sn, _, _, _, rfl, rfl, SqL.of es11, atI_nat (v := .ref us2[j]) (by rw [List.getElem?_map, List.getElem?_eq_getElem hj]; rfl), us2[j], _, rfl, SqT.of ex, rfl, _, _, rfl, _, _, rfl, rfl, ?_⟩
      refine ⟨_, rfl, _, rfl, _, _, dp_same (mask_sub _ _) _ _ hv11, dp_same (mask_sub _ _) _ _ hd2, Rw.shaped ok, Rw.shaped ok2, ?_⟩
      refine ⟨_, rfl, 1, rfl, sn, _, -1, _, rfl, rfl, SqL.of es11, ?_, .inr (.inl ⟨u, _, 1, _, rfl, rfl, SqT.of eu11, atI_nat (j := 1) rfl, ?_⟩)⟩
      · unfold atI ixN
        rw [List.length_map, elen, if_neg (by decide), if_pos (by omega)]
        show ((us2.map V.ref)[((-1 : Int) + ((i + 1 : Nat) : Int)).toNat]?) = _
        rw [show ((-1 : Int) + ((i + 1 : Nat) : Int)).toNat = i by omega, List.getElem?_map, elast]; rfl
      refine ⟨_, rfl, rfl, rfl, _, rfl, ?_⟩
      rw [Rw.eqv_text ok ok2]
      have eb : (!decide (V.bl (decide (R.text = R2.text)) = V.bl (decide (V.str R.text = V.str R2.text)))) = false := by
        by_cases e : R.text = R2.text
        · rw [decide_eq_true e, decide_eq_true (congrArg V.str e), decide_eq_true rfl]; rfl
        · rw [decide_eq_false e, decide_eq_false (fun z => e (V.str.inj z)), decide_eq_true rfl]; rfl
      exact iteNb eb ⟨n4 + 1, us2, _, _, _, _, _, rfl, by omega, P11, es11, elen, hus11⟩
    · rintro σ H3 _
      exact kk H3
end
theorem ok_law_ne {P : Program} {w : World} {K : PySem.W.Frag} {mg : Str → Option Value} {base : Heap} {f : Addr} {fd : FuncData} (F : Fun K "law" "law" sLaw f fd) (h : Nonempty (Law22 P w K mg base)) : FnOk P w K mg base CX0 8 f fd ["script"] (spLaw K) := h.elim fun G => ok_law F G
/-! ### what the top has written -/
structure FunIn (K : PySem.W.Frag) (mg : Str → Option Value) (x : Str) (st : Stmt) (f : Addr) (fd : FuncData) : Prop where
  F : Fun K x x st f fd
  m : mg x = some (.ref f)
theorem fun_in {K : PySem.W.Frag} {h : Heap} {mg : Str → Option Value} {x : Str} {st : Stmt} {f : Addr} {oc : Value} {od an : Option Addr} {osl : Array (Option Value)} {kV doc pm cdv ct : Value} (X : K.In h) (G : h.Ns mainGlobals mg)
    (a : PySem.W.nsIn K mainGlobals x = some (some (.ref f))) (l : K.lookup f = some ⟨oc, od, .func (PySem.W.fnOf x x (defArgs st) (defBody st) (defScope st) .none kV doc pm an cdv ct), osl⟩)
    (c : PySem.W.codeIn K cdv x = true) (k : PySem.W.keepIn K (.ref f) = true) : ∃ f fd, FunIn K mg x st f fd :=
  ⟨f, _, fun_mk l c k, PySem.W.mg_of X G a⟩
theorem bts_in {K : PySem.W.Frag} {h : Heap} {mg : Str → Option Value} (X : K.In h) (G : h.Ns mainGlobals mg) (z1 : PySem.W.nsIn K mainGlobals "isinstance" = some none) (z2 : PySem.W.nsIn K mainGlobals "bool" = some none) (z3 : PySem.W.nsIn K mainGlobals "str" = some none)
    (z4 : PySem.W.nsIn K mainGlobals "int" = some none) (z5 : PySem.W.nsIn K mainGlobals "list" = some none) (z6 : PySem.W.nsIn K mainGlobals "tuple" = some none) (z7 : PySem.W.nsIn K mainGlobals "len" = some none) (z8 : PySem.W.nsIn K mainGlobals "range" = some none) : Bts mg :=
  ⟨PySem.W.mg_none_of X G z1, PySem.W.mg_none_of X G z2, PySem.W.mg_none_of X G z3, PySem.W.mg_none_of X G z4, PySem.W.mg_none_of X G z5, PySem.W.mg_none_of X G z6, PySem.W.mg_none_of X G z7, PySem.W.mg_none_of X G z8⟩
/-! ### what the top says of rows -/
section
variable {K : PySem.W.Frag} {h : Heap} {mg : Str → Option Value} {w : World}
theorem kdct_of {d : Addr} {es : Array DictEntry} {n : Nat} (D : KDict K w d es n) {x : Str} {u : Value} {v : V} (e : PySem.W.nsIn K d x = some (some u)) (r : RelV v u) : KDct K w d x v := ⟨es, n, u, D.at_, D.lit, e, r⟩
theorem sqt_of {t : Addr} {dd : Option Addr} {its : Array Value} {n : Nat} {sl : Array (Option Value)} {xs : List V} (l : K.lookup t = some ⟨.type "tuple", dd, .seq its n, sl⟩) (z : its.size ≤ sizeLine) (v : Vals xs its.toList) (H : Hp) : SqT K H t xs := .inr ⟨_, its, n, l, rfl, rfl, z, v⟩
theorem mg_int {K : PySem.W.Frag} {h : Heap} {mg : Str → Option Value} {n : Str} {i : Int} {tk : Tok} (X : K.In h) (G : h.Ns mainGlobals mg) (e : PySem.W.nsIn K mainGlobals n = some (some (.int i tk))) : ∃ tk, mg n = some (.int i tk) := ⟨tk, PySem.W.mg_of X G e⟩
def KdTop (K : PySem.W.Frag) (w : World) (mg : Str → Option Value) (x : Str) (R : PySem.W.Frag → World → Addr → Prop) : Prop := ∃ d es n, mg x = some (.ref d) ∧ KDict K w d es n ∧ R K w d
theorem kd_with {x : Str} {d : Addr} {es : Array DictEntry} {n : Nat} {R : PySem.W.Frag → World → Addr → Prop} (X : K.In h) (G : h.Ns mainGlobals mg) (a : PySem.W.nsIn K mainGlobals x = some (some (.ref d))) (l : K.lookup d = some ⟨.type "dict", none, .dict es n, #[]⟩) (k : PySem.W.KeysLit w.params es.toList) (z : (d == sysModules) = false)
    (more : KDict K w d es n → R K w d) : KdTop K w mg x R := ⟨d, es, n, PySem.W.mg_of X G a, ⟨l, k, z⟩, more ⟨l, k, z⟩⟩
theorem tup_LOOKS {t : Addr} {dd : Option Addr} {n : Nat} {sl : Array (Option Value)} {t0 t1 t2 t3 t4 t5 t6 t7 t8 t9 t10 t11 t12 t13 t14 t15 t16 t17 : Tok} (X : K.In h) (G : h.Ns mainGlobals mg) (a : PySem.W.nsIn K mainGlobals "LOOKS" = some (some (.ref t))) (l : K.lookup t = some ⟨.type "tuple", dd, .seq #[.str "take" t0, .str "drain" t1, .str "roll" t2, .str "get" t3, .str "drop" t4, .str "look" t5, .str "renew" t6, .str "read" t7, .str "mark" t8, .str "peek" t9, .str "has" t10, .str "size" t11, .str "keys" t12, .str "glance" t13, .str "watch" t14, .str "tell" t15, .str "bound" t16, .str "spy" t17] n, sl⟩) : ∃ t, mg "LOOKS" = some (.ref t) ∧ TupW K t looksW :=
  ⟨t, PySem.W.mg_of X G a, fun H => sqt_of (xs := looksW.map V.str) l (by show 18 ≤ sizeLine; decide) (.cons ⟨_, rfl⟩ (.cons ⟨_, rfl⟩ (.cons ⟨_, rfl⟩ (.cons ⟨_, rfl⟩ (.cons ⟨_, rfl⟩ (.cons ⟨_, rfl⟩ (.cons ⟨_, rfl⟩ (.cons ⟨_, rfl⟩ (.cons ⟨_, rfl⟩ (.cons ⟨_, rfl⟩ (.cons ⟨_, rfl⟩ (.cons ⟨_, rfl⟩ (.cons ⟨_, rfl⟩ (.cons ⟨_, rfl⟩ (.cons ⟨_, rfl⟩ (.cons ⟨_, rfl⟩ (.cons ⟨_, rfl⟩ (.cons ⟨_, rfl⟩ .nil)))))))))))))))))) H⟩
theorem tup_DEEDS {t : Addr} {dd : Option Addr} {n : Nat} {sl : Array (Option Value)} {t0 t1 t2 t3 t4 t5 t6 t7 t8 t9 t10 t11 t12 t13 t14 t15 t16 t17 t18 t19 t20 t21 t22 t23 t24 t25 : Tok} (X : K.In h) (G : h.Ns mainGlobals mg) (a : PySem.W.nsIn K mainGlobals "DEEDS" = some (some (.ref t))) (l : K.lookup t = some ⟨.type "tuple", dd, .seq #[.str "take" t0, .str "skip" t1, .str "drain" t2, .str "fetch" t3, .str "bind" t4, .str "roll" t5, .str "seed" t6, .str "get" t7, .str "peek" t8, .str "put" t9, .str "fill" t10, .str "drop" t11, .str "size" t12, .str "keys" t13, .str "load" t14, .str "wipe" t15, .str "change" t16, .str "look" t17, .str "glance" t18, .str "renew" t19, .str "lift" t20, .str "read" t21, .str "watch" t22, .str "keep" t23, .str "copy" t24, .str "tell" t25] n, sl⟩) : ∃ t, mg "DEEDS" = some (.ref t) ∧ TupW K t deedsW :=
  ⟨t, PySem.W.mg_of X G a, fun H => sqt_of (xs := deedsW.map V.str) l (by show 26 ≤ sizeLine; decide) (.cons ⟨_, rfl⟩ (.cons ⟨_, rfl⟩ (.cons ⟨_, rfl⟩ (.cons ⟨_, rfl⟩ (.cons ⟨_, rfl⟩ (.cons ⟨_, rfl⟩ (.cons ⟨_, rfl⟩ (.cons ⟨_, rfl⟩ (.cons ⟨_, rfl⟩ (.cons ⟨_, rfl⟩ (.cons ⟨_, rfl⟩ (.cons ⟨_, rfl⟩ (.cons ⟨_, rfl⟩ (.cons ⟨_, rfl⟩ (.cons ⟨_, rfl⟩ (.cons ⟨_, rfl⟩ (.cons ⟨_, rfl⟩ (.cons ⟨_, rfl⟩ (.cons ⟨_, rfl⟩ (.cons ⟨_, rfl⟩ (.cons ⟨_, rfl⟩ (.cons ⟨_, rfl⟩ (.cons ⟨_, rfl⟩ (.cons ⟨_, rfl⟩ (.cons ⟨_, rfl⟩ (.cons ⟨_, rfl⟩ .nil)))))))))))))))))))))))))) H⟩
theorem tup_STEPS {t : Addr} {dd : Option Addr} {n : Nat} {sl : Array (Option Value)} {t0 t1 t2 t3 t4 : Tok} (X : K.In h) (G : h.Ns mainGlobals mg) (a : PySem.W.nsIn K mainGlobals "STEPS" = some (some (.ref t))) (l : K.lookup t = some ⟨.type "tuple", dd, .seq #[.str "say" t0, .str "stop" t1, .str "call" t2, .str "else" t3, .str "end" t4] n, sl⟩) : ∃ t, mg "STEPS" = some (.ref t) ∧ TupW K t stepsW :=
  ⟨t, PySem.W.mg_of X G a, fun H => sqt_of (xs := stepsW.map V.str) l (by show 5 ≤ sizeLine; decide) (.cons ⟨_, rfl⟩ (.cons ⟨_, rfl⟩ (.cons ⟨_, rfl⟩ (.cons ⟨_, rfl⟩ (.cons ⟨_, rfl⟩ .nil))))) H⟩
theorem tup_IF_TESTS {t : Addr} {dd : Option Addr} {n : Nat} {sl : Array (Option Value)} {t0 t1 t2 t3 t4 : Tok} (X : K.In h) (G : h.Ns mainGlobals mg) (a : PySem.W.nsIn K mainGlobals "IF_TESTS" = some (some (.ref t))) (l : K.lookup t = some ⟨.type "tuple", dd, .seq #[.str "ask" t0, .str "take" t1, .str "has" t2, .str "read" t3, .str "bound" t4] n, sl⟩) : ∃ t, mg "IF_TESTS" = some (.ref t) ∧ TupW K t ifW :=
  ⟨t, PySem.W.mg_of X G a, fun H => sqt_of (xs := ifW.map V.str) l (by show 5 ≤ sizeLine; decide) (.cons ⟨_, rfl⟩ (.cons ⟨_, rfl⟩ (.cons ⟨_, rfl⟩ (.cons ⟨_, rfl⟩ (.cons ⟨_, rfl⟩ .nil))))) H⟩
theorem tup_WHILE_TESTS {t : Addr} {dd : Option Addr} {n : Nat} {sl : Array (Option Value)} {t0 t1 : Tok} (X : K.In h) (G : h.Ns mainGlobals mg) (a : PySem.W.nsIn K mainGlobals "WHILE_TESTS" = some (some (.ref t))) (l : K.lookup t = some ⟨.type "tuple", dd, .seq #[.str "ask" t0, .str "take" t1] n, sl⟩) : ∃ t, mg "WHILE_TESTS" = some (.ref t) ∧ TupW K t whileW :=
  ⟨t, PySem.W.mg_of X G a, fun H => sqt_of (xs := whileW.map V.str) l (by show 2 ≤ sizeLine; decide) (.cons ⟨_, rfl⟩ (.cons ⟨_, rfl⟩ .nil)) H⟩
theorem tup_ASSERT_TESTS {t : Addr} {dd : Option Addr} {n : Nat} {sl : Array (Option Value)} {t0 t1 t2 t3 : Tok} (X : K.In h) (G : h.Ns mainGlobals mg) (a : PySem.W.nsIn K mainGlobals "ASSERT_TESTS" = some (some (.ref t))) (l : K.lookup t = some ⟨.type "tuple", dd, .seq #[.str "has" t0, .str "bound" t1, .str "read" t2, .str "watch" t3] n, sl⟩) : ∃ t, mg "ASSERT_TESTS" = some (.ref t) ∧ TupW K t assertW :=
  ⟨t, PySem.W.mg_of X G a, fun H => sqt_of (xs := assertW.map V.str) l (by show 4 ≤ sizeLine; decide) (.cons ⟨_, rfl⟩ (.cons ⟨_, rfl⟩ (.cons ⟨_, rfl⟩ (.cons ⟨_, rfl⟩ .nil)))) H⟩
theorem tup_PROBES {t : Addr} {dd : Option Addr} {n : Nat} {sl : Array (Option Value)} {t0 t1 : Tok} (X : K.In h) (G : h.Ns mainGlobals mg) (a : PySem.W.nsIn K mainGlobals "PROBES" = some (some (.ref t))) (l : K.lookup t = some ⟨.type "tuple", dd, .seq #[.str "probe" t0, .str "assert" t1] n, sl⟩) : ∃ t, mg "PROBES" = some (.ref t) ∧ TupW K t probesW :=
  ⟨t, PySem.W.mg_of X G a, fun H => sqt_of (xs := probesW.map V.str) l (by show 2 ≤ sizeLine; decide) (.cons ⟨_, rfl⟩ (.cons ⟨_, rfl⟩ .nil)) H⟩
theorem tup_GATES {t : Addr} {dd : Option Addr} {n : Nat} {sl : Array (Option Value)} {t0 t1 t2 t3 : Tok} (X : K.In h) (G : h.Ns mainGlobals mg) (a : PySem.W.nsIn K mainGlobals "GATES" = some (some (.ref t))) (l : K.lookup t = some ⟨.type "tuple", dd, .seq #[.str "always" t0, .str "first" t1, .str "later" t2, .str "second" t3] n, sl⟩) : ∃ t, mg "GATES" = some (.ref t) ∧ TupW K t gatesW :=
  ⟨t, PySem.W.mg_of X G a, fun H => sqt_of (xs := gatesW.map V.str) l (by show 4 ≤ sizeLine; decide) (.cons ⟨_, rfl⟩ (.cons ⟨_, rfl⟩ (.cons ⟨_, rfl⟩ (.cons ⟨_, rfl⟩ .nil)))) H⟩
theorem nb_in {d : Addr} {es : Array DictEntry} {n : Nat} {t0 t1 t2 t3 t4 t5 t6 t7 t8 t9 t10 t11 t12 t13 t14 t15 t16 t17 t18 t19 t20 t21 t22 t23 t24 t25 t26 t27 t28 t29 t30 t31 t32 t33 t34 t35 : Tok} (D : KDict K w d es n)
    (e0 : PySem.W.nsIn K d "take" = some (some (.int 1 t0)))
    (e1 : PySem.W.nsIn K d "skip" = some (some (.int 1 t1)))
    (e2 : PySem.W.nsIn K d "drain" = some (some (.int 1 t2)))
    (e3 : PySem.W.nsIn K d "fetch" = some (some (.int 1 t3)))
    (e4 : PySem.W.nsIn K d "bind" = some (some (.int 2 t4)))
    (e5 : PySem.W.nsIn K d "roll" = some (some (.int 1 t5)))
    (e6 : PySem.W.nsIn K d "seed" = some (some (.int 1 t6)))
    (e7 : PySem.W.nsIn K d "get" = some (some (.int 2 t7)))
    (e8 : PySem.W.nsIn K d "peek" = some (some (.int 2 t8)))
    (e9 : PySem.W.nsIn K d "has" = some (some (.int 2 t9)))
    (e10 : PySem.W.nsIn K d "put" = some (some (.int 2 t10)))
    (e11 : PySem.W.nsIn K d "fill" = some (some (.int 2 t11)))
    (e12 : PySem.W.nsIn K d "drop" = some (some (.int 2 t12)))
    (e13 : PySem.W.nsIn K d "size" = some (some (.int 1 t13)))
    (e14 : PySem.W.nsIn K d "keys" = some (some (.int 1 t14)))
    (e15 : PySem.W.nsIn K d "load" = some (some (.int 1 t15)))
    (e16 : PySem.W.nsIn K d "wipe" = some (some (.int 1 t16)))
    (e17 : PySem.W.nsIn K d "change" = some (some (.int 1 t17)))
    (e18 : PySem.W.nsIn K d "look" = some (some (.int 1 t18)))
    (e19 : PySem.W.nsIn K d "glance" = some (some (.int 1 t19)))
    (e20 : PySem.W.nsIn K d "renew" = some (some (.int 1 t20)))
    (e21 : PySem.W.nsIn K d "lift" = some (some (.int 1 t21)))
    (e22 : PySem.W.nsIn K d "read" = some (some (.int 1 t22)))
    (e23 : PySem.W.nsIn K d "watch" = some (some (.int 1 t23)))
    (e24 : PySem.W.nsIn K d "keep" = some (some (.int 1 t24)))
    (e25 : PySem.W.nsIn K d "copy" = some (some (.int 2 t25)))
    (e26 : PySem.W.nsIn K d "tell" = some (some (.int 1 t26)))
    (e27 : PySem.W.nsIn K d "bound" = some (some (.int 1 t27)))
    (e28 : PySem.W.nsIn K d "mark" = some (some (.int 1 t28)))
    (e29 : PySem.W.nsIn K d "spy" = some (some (.int 1 t29)))
    (e30 : PySem.W.nsIn K d "say" = some (some (.int 1 t30)))
    (e31 : PySem.W.nsIn K d "stop" = some (some (.int 0 t31)))
    (e32 : PySem.W.nsIn K d "call" = some (some (.int 1 t32)))
    (e33 : PySem.W.nsIn K d "else" = some (some (.int 0 t33)))
    (e34 : PySem.W.nsIn K d "end" = some (some (.int 0 t34)))
    (e35 : PySem.W.nsIn K d "ask" = some (some (.int 1 t35))) : NbK K w d := by
  intro x k h
  simp only [nbW, List.mem_cons, List.not_mem_nil, or_false, Prod.mk.injEq] at h
  rcases h with ⟨rfl, rfl⟩ | ⟨rfl, rfl⟩ | ⟨rfl, rfl⟩ | ⟨rfl, rfl⟩ | ⟨rfl, rfl⟩ | ⟨rfl, rfl⟩ | ⟨rfl, rfl⟩ | ⟨rfl, rfl⟩ | ⟨rfl, rfl⟩ | ⟨rfl, rfl⟩ | ⟨rfl, rfl⟩ | ⟨rfl, rfl⟩ | ⟨rfl, rfl⟩ | ⟨rfl, rfl⟩ | ⟨rfl, rfl⟩ | ⟨rfl, rfl⟩ | ⟨rfl, rfl⟩ | ⟨rfl, rfl⟩ | ⟨rfl, rfl⟩ | ⟨rfl, rfl⟩ | ⟨rfl, rfl⟩ | ⟨rfl, rfl⟩ | ⟨rfl, rfl⟩ | ⟨rfl, rfl⟩ | ⟨rfl, rfl⟩ | ⟨rfl, rfl⟩ | ⟨rfl, rfl⟩ | ⟨rfl, rfl⟩ | ⟨rfl, rfl⟩ | ⟨rfl, rfl⟩ | ⟨rfl, rfl⟩ | ⟨rfl, rfl⟩ | ⟨rfl, rfl⟩ | ⟨rfl, rfl⟩ | ⟨rfl, rfl⟩ | ⟨rfl, rfl⟩
  · exact kdct_of D e0 ⟨_, rfl⟩
  · exact kdct_of D e1 ⟨_, rfl⟩
  · exact kdct_of D e2 ⟨_, rfl⟩
  · exact kdct_of D e3 ⟨_, rfl⟩
  · exact kdct_of D e4 ⟨_, rfl⟩
  · exact kdct_of D e5 ⟨_, rfl⟩
  · exact kdct_of D e6 ⟨_, rfl⟩
  · exact kdct_of D e7 ⟨_, rfl⟩
  · exact kdct_of D e8 ⟨_, rfl⟩
  · exact kdct_of D e9 ⟨_, rfl⟩
  · exact kdct_of D e10 ⟨_, rfl⟩
  · exact kdct_of D e11 ⟨_, rfl⟩
  · exact kdct_of D e12 ⟨_, rfl⟩
  · exact kdct_of D e13 ⟨_, rfl⟩
  · exact kdct_of D e14 ⟨_, rfl⟩
  · exact kdct_of D e15 ⟨_, rfl⟩
  · exact kdct_of D e16 ⟨_, rfl⟩
  · exact kdct_of D e17 ⟨_, rfl⟩
  · exact kdct_of D e18 ⟨_, rfl⟩
  · exact kdct_of D e19 ⟨_, rfl⟩
  · exact kdct_of D e20 ⟨_, rfl⟩
  · exact kdct_of D e21 ⟨_, rfl⟩
  · exact kdct_of D e22 ⟨_, rfl⟩
  · exact kdct_of D e23 ⟨_, rfl⟩
  · exact kdct_of D e24 ⟨_, rfl⟩
  · exact kdct_of D e25 ⟨_, rfl⟩
  · exact kdct_of D e26 ⟨_, rfl⟩
  · exact kdct_of D e27 ⟨_, rfl⟩
  · exact kdct_of D e28 ⟨_, rfl⟩
  · exact kdct_of D e29 ⟨_, rfl⟩
  · exact kdct_of D e30 ⟨_, rfl⟩
  · exact kdct_of D e31 ⟨_, rfl⟩
  · exact kdct_of D e32 ⟨_, rfl⟩
  · exact kdct_of D e33 ⟨_, rfl⟩
  · exact kdct_of D e34 ⟨_, rfl⟩
  · exact kdct_of D e35 ⟨_, rfl⟩
end
end Qp
open PySem PySem.W PyProof.Rows
set_option maxRecDepth 100000 in
set_option maxHeartbeats 0 in
theorem PySem.Challenge.cw_quietprobes_k22_lines_of_rows_holds : PySem.Challenge.rw_quietprobes_k22_lines_of_rows.Holds := by
  w_on; o_law; k_head; (case hw => w_witness2)
  k_fill
  refine L2.walk_of (l := PySem.Challenge.rw_quietprobes_k22_lines_of_rows) (n := 63) (k := 8) (x := "script") (CX := fun _ => L2.CX0) (sp := fun w => Qp.spLaw _) rfl (by decide) rfl ⟨rfl, by decide, by decide⟩ (fun w h Y => PySem.W.kIn_of Y) ?F (fun _ _ a ns hl _ hS => ⟨a, ns, rfl, hS, hl, fun _ => rfl⟩) (fun _ _ _ _ _ h => h)
  case F =>
    intro w mg fa h KX G hmg
    obtain ⟨f1, fd1, F1⟩ : ∃ f fd, Qp.FunIn _ mg "is_name" Qp.sIsName f fd := by
      refine' Qp.fun_in KX G ?a ?l ?c ?k
      (case a => k_is); (case l => k_is); (case c => k_is); (case k => k_is)
    obtain ⟨f2, fd2, F2⟩ : ∃ f fd, Qp.FunIn _ mg "is_look" Qp.sIsLook f fd := by
      refine' Qp.fun_in KX G ?a ?l ?c ?k
      (case a => k_is); (case l => k_is); (case c => k_is); (case k => k_is)
    obtain ⟨f3, fd3, F3⟩ : ∃ f fd, Qp.FunIn _ mg "is_row" Qp.sIsRow f fd := by
      refine' Qp.fun_in KX G ?a ?l ?c ?k
      (case a => k_is); (case l => k_is); (case c => k_is); (case k => k_is)
    obtain ⟨f4, fd4, F4⟩ : ∃ f fd, Qp.FunIn _ mg "_is_one_of" Qp.sOne f fd := by
      refine' Qp.fun_in KX G ?a ?l ?c ?k
      (case a => k_is); (case l => k_is); (case c => k_is); (case k => k_is)
    obtain ⟨f5, fd5, F5⟩ : ∃ f fd, Qp.FunIn _ mg "_has_probe_parts" Qp.sHasP f fd := by
      refine' Qp.fun_in KX G ?a ?l ?c ?k
      (case a => k_is); (case l => k_is); (case c => k_is); (case k => k_is)
    obtain ⟨f6, fd6, F6⟩ : ∃ f fd, Qp.FunIn _ mg "_are_looks" Qp.sAre f fd := by
      refine' Qp.fun_in KX G ?a ?l ?c ?k
      (case a => k_is); (case l => k_is); (case c => k_is); (case k => k_is)
    obtain ⟨f7, fd7, F7⟩ : ∃ f fd, Qp.FunIn _ mg "is_probe" Qp.sIsProbe f fd := by
      refine' Qp.fun_in KX G ?a ?l ?c ?k
      (case a => k_is); (case l => k_is); (case c => k_is); (case k => k_is)
    obtain ⟨f8, fd8, F8⟩ : ∃ f fd, Qp.FunIn _ mg "_law_pool" Qp.sPool f fd := by
      refine' Qp.fun_in KX G ?a ?l ?c ?k
      (case a => k_is); (case l => k_is); (case c => k_is); (case k => k_is)
    obtain ⟨f9, fd9, F9⟩ : ∃ f fd, Qp.FunIn _ mg "_law_draw" Qp.sDraw f fd := by
      refine' Qp.fun_in KX G ?a ?l ?c ?k
      (case a => k_is); (case l => k_is); (case c => k_is); (case k => k_is)
    obtain ⟨f10, fd10, F10⟩ : ∃ f fd, Qp.FunIn _ mg "_law_word" Qp.sWord f fd := by
      refine' Qp.fun_in KX G ?a ?l ?c ?k
      (case a => k_is); (case l => k_is); (case c => k_is); (case k => k_is)
    obtain ⟨f11, fd11, F11⟩ : ∃ f fd, Qp.FunIn _ mg "_law_free_look" Qp.sFLook f fd := by
      refine' Qp.fun_in KX G ?a ?l ?c ?k
      (case a => k_is); (case l => k_is); (case c => k_is); (case k => k_is)
    obtain ⟨f12, fd12, F12⟩ : ∃ f fd, Qp.FunIn _ mg "_law_free_probe" Qp.sFProbe f fd := by
      refine' Qp.fun_in KX G ?a ?l ?c ?k
      (case a => k_is); (case l => k_is); (case c => k_is); (case k => k_is)
    obtain ⟨f13, fd13, F13⟩ : ∃ f fd, Qp.FunIn _ mg "_law_free_row" Qp.sFRow f fd := by
      refine' Qp.fun_in KX G ?a ?l ?c ?k
      (case a => k_is); (case l => k_is); (case c => k_is); (case k => k_is)
    obtain ⟨f14, fd14, F14⟩ : ∃ f fd, Qp.FunIn _ mg "_law_same" Qp.sSame f fd := by
      refine' Qp.fun_in KX G ?a ?l ?c ?k
      (case a => k_is); (case l => k_is); (case c => k_is); (case k => k_is)
    obtain ⟨f15, fd15, F15⟩ : ∃ f fd, Qp.FunIn _ mg "law" Qp.sLaw f fd := by
      refine' Qp.fun_in KX G ?a ?l ?c ?k
      (case a => k_is); (case l => k_is); (case c => k_is); (case k => k_is)
    obtain ⟨f16, fd16, F16⟩ : ∃ f fd, Qp.FunIn _ mg "_looks_text" Qp.sLooksText f fd := by
      refine' Qp.fun_in KX G ?a ?l ?c ?k
      (case a => k_is); (case l => k_is); (case c => k_is); (case k => k_is)
    obtain ⟨f17, fd17, F17⟩ : ∃ f fd, Qp.FunIn _ mg "row_text" Qp.sRowText f fd := by
      refine' Qp.fun_in KX G ?a ?l ?c ?k
      (case a => k_is); (case l => k_is); (case c => k_is); (case k => k_is)
    obtain ⟨f18, fd18, F18⟩ : ∃ f fd, Qp.FunIn _ mg "read_row" Qp.sReadRow f fd := by
      refine' Qp.fun_in KX G ?a ?l ?c ?k
      (case a => k_is); (case l => k_is); (case c => k_is); (case k => k_is)
    obtain ⟨f19, fd19, F19⟩ : ∃ f fd, Qp.FunIn _ mg "_read_probe" Qp.sReadProbe f fd := by
      refine' Qp.fun_in KX G ?a ?l ?c ?k
      (case a => k_is); (case l => k_is); (case c => k_is); (case k => k_is)
    obtain ⟨f20, fd20, F20⟩ : ∃ f fd, Qp.FunIn _ mg "_read_looks" Qp.sReadLooks f fd := by
      refine' Qp.fun_in KX G ?a ?l ?c ?k
      (case a => k_is); (case l => k_is); (case c => k_is); (case k => k_is)
    obtain ⟨f21, fd21, F21⟩ : ∃ f fd, Qp.FunIn _ mg "_law_looks_text" Qp.sLLooks f fd := by
      refine' Qp.fun_in KX G ?a ?l ?c ?k
      (case a => k_is); (case l => k_is); (case c => k_is); (case k => k_is)
    obtain ⟨f22, fd22, F22⟩ : ∃ f fd, Qp.FunIn _ mg "_law_line" Qp.sLLine f fd := by
      refine' Qp.fun_in KX G ?a ?l ?c ?k
      (case a => k_is); (case l => k_is); (case c => k_is); (case k => k_is)
    have B : Qp.Bts mg := by
      refine' Qp.bts_in KX G ?z1 ?z2 ?z3 ?z4 ?z5 ?z6 ?z7 ?z8
      (case z1 => k_is); (case z2 => k_is); (case z3 => k_is); (case z4 => k_is); (case z5 => k_is); (case z6 => k_is); (case z7 => k_is); (case z8 => k_is)
    obtain ⟨tk1, mL⟩ : ∃ tk, mg "LONGEST_NAME" = some (.int 8 tk) := by
      refine' Qp.mg_int KX G ?zL
      (case zL => k_is)
    obtain ⟨tk2, mM⟩ : ∃ tk, mg "MOST_LOOKS" = some (.int 6 tk) := by
      refine' Qp.mg_int KX G ?zM
      (case zM => k_is)
    have mA : mg "all" = none := by
      refine' PySem.W.mg_none_of KX G ?zA
      (case zA => k_is)
    obtain ⟨t_looksW, m_looksW, h_looksW⟩ : ∃ t, mg "LOOKS" = some (.ref t) ∧ Qp.TupW _ t Qp.looksW := by
      refine' Qp.tup_LOOKS KX G ?ta ?tl
      (case ta => k_is); (case tl => k_is)
    obtain ⟨t_deedsW, m_deedsW, h_deedsW⟩ : ∃ t, mg "DEEDS" = some (.ref t) ∧ Qp.TupW _ t Qp.deedsW := by
      refine' Qp.tup_DEEDS KX G ?ta ?tl
      (case ta => k_is); (case tl => k_is)
    obtain ⟨t_stepsW, m_stepsW, h_stepsW⟩ : ∃ t, mg "STEPS" = some (.ref t) ∧ Qp.TupW _ t Qp.stepsW := by
      refine' Qp.tup_STEPS KX G ?ta ?tl
      (case ta => k_is); (case tl => k_is)
    obtain ⟨t_ifW, m_ifW, h_ifW⟩ : ∃ t, mg "IF_TESTS" = some (.ref t) ∧ Qp.TupW _ t Qp.ifW := by
      refine' Qp.tup_IF_TESTS KX G ?ta ?tl
      (case ta => k_is); (case tl => k_is)
    obtain ⟨t_whileW, m_whileW, h_whileW⟩ : ∃ t, mg "WHILE_TESTS" = some (.ref t) ∧ Qp.TupW _ t Qp.whileW := by
      refine' Qp.tup_WHILE_TESTS KX G ?ta ?tl
      (case ta => k_is); (case tl => k_is)
    obtain ⟨t_assertW, m_assertW, h_assertW⟩ : ∃ t, mg "ASSERT_TESTS" = some (.ref t) ∧ Qp.TupW _ t Qp.assertW := by
      refine' Qp.tup_ASSERT_TESTS KX G ?ta ?tl
      (case ta => k_is); (case tl => k_is)
    obtain ⟨t_probesW, m_probesW, h_probesW⟩ : ∃ t, mg "PROBES" = some (.ref t) ∧ Qp.TupW _ t Qp.probesW := by
      refine' Qp.tup_PROBES KX G ?ta ?tl
      (case ta => k_is); (case tl => k_is)
    obtain ⟨t_gatesW, m_gatesW, h_gatesW⟩ : ∃ t, mg "GATES" = some (.ref t) ∧ Qp.TupW _ t Qp.gatesW := by
      refine' Qp.tup_GATES KX G ?ta ?tl
      (case ta => k_is); (case tl => k_is)
    obtain ⟨dN, eN, nN, mN, DN, NB⟩ : Qp.KdTop _ w mg "NAMES_BEHIND" (fun K w d => Qp.NbK K w d) := by
      refine' Qp.kd_with KX G ?a ?l ?kk ?z ?more
      (case a => k_is); (case l => k_is)
      (case kk => repeat (first | exact trivial | refine ⟨⟨_, _, rfl, rfl⟩, ?_⟩))
      (case z => decide)
      (case more =>
        intro D
        refine' Qp.nb_in D ?e0 ?e1 ?e2 ?e3 ?e4 ?e5 ?e6 ?e7 ?e8 ?e9 ?e10 ?e11 ?e12 ?e13 ?e14 ?e15 ?e16 ?e17 ?e18 ?e19 ?e20 ?e21 ?e22 ?e23 ?e24 ?e25 ?e26 ?e27 ?e28 ?e29 ?e30 ?e31 ?e32 ?e33 ?e34 ?e35
        (case e0 => k_is); (case e1 => k_is); (case e2 => k_is); (case e3 => k_is); (case e4 => k_is); (case e5 => k_is); (case e6 => k_is); (case e7 => k_is); (case e8 => k_is); (case e9 => k_is); (case e10 => k_is); (case e11 => k_is); (case e12 => k_is); (case e13 => k_is); (case e14 => k_is); (case e15 => k_is); (case e16 => k_is); (case e17 => k_is); (case e18 => k_is); (case e19 => k_is); (case e20 => k_is); (case e21 => k_is); (case e22 => k_is); (case e23 => k_is); (case e24 => k_is); (case e25 => k_is); (case e26 => k_is); (case e27 => k_is); (case e28 => k_is); (case e29 => k_is); (case e30 => k_is); (case e31 => k_is); (case e32 => k_is); (case e33 => k_is); (case e34 => k_is); (case e35 => k_is))
    have e := hmg.symm.trans F15.m
    cases e
    obtain ⟨oc, od, kV, doc, pm, an, cdv, ct, osl, rfl, lk, hcd⟩ := F15.F.ex
    have b1 := F1.F.binds (ps := ["thing"]) fun _ _ _ _ _ _ us hl => match us, hl with | [_], _ => rfl
    have b2 := F2.F.binds (ps := ["row"]) fun _ _ _ _ _ _ us hl => match us, hl with | [_], _ => rfl
    have b3 := F3.F.binds (ps := ["row"]) fun _ _ _ _ _ _ us hl => match us, hl with | [_], _ => rfl
    have b4 := F4.F.binds (ps := ["words", "row"]) fun _ _ _ _ _ _ us hl => match us, hl with | [_, _], _ => rfl
    have b5 := F5.F.binds (ps := ["row"]) fun _ _ _ _ _ _ us hl => match us, hl with | [_], _ => rfl
    have b6 := F6.F.binds (ps := ["looks"]) fun _ _ _ _ _ _ us hl => match us, hl with | [_], _ => rfl
    have b7 := F7.F.binds (ps := ["row"]) fun _ _ _ _ _ _ us hl => match us, hl with | [_], _ => rfl
    have b8 := F8.F.binds (ps := ["script"]) fun _ _ _ _ _ _ us hl => match us, hl with | [_], _ => rfl
    have b9 := F9.F.binds (ps := ["pool", "many"]) fun _ _ _ _ _ _ us hl => match us, hl with | [_, _], _ => rfl
    have b10 := F10.F.binds (ps := ["pool"]) fun _ _ _ _ _ _ us hl => match us, hl with | [_], _ => rfl
    have b11 := F11.F.binds (ps := ["pool"]) fun _ _ _ _ _ _ us hl => match us, hl with | [_], _ => rfl
    have b12 := F12.F.binds (ps := ["pool"]) fun _ _ _ _ _ _ us hl => match us, hl with | [_], _ => rfl
    have b13 := F13.F.binds (ps := ["pool"]) fun _ _ _ _ _ _ us hl => match us, hl with | [_], _ => rfl
    have b14 := F14.F.binds (ps := ["actual", "due"]) fun _ _ _ _ _ _ us hl => match us, hl with | [_, _], _ => rfl
    have b16 := F16.F.binds (ps := ["looks"]) fun _ _ _ _ _ _ us hl => match us, hl with | [_], _ => rfl
    have b17 := F17.F.binds (ps := ["row"]) fun _ _ _ _ _ _ us hl => match us, hl with | [_], _ => rfl
    have b18 := F18.F.binds (ps := ["line"]) fun _ _ _ _ _ _ us hl => match us, hl with | [_], _ => rfl
    have b19 := F19.F.binds (ps := ["words"]) fun _ _ _ _ _ _ us hl => match us, hl with | [_], _ => rfl
    have b20 := F20.F.binds (ps := ["words"]) fun _ _ _ _ _ _ us hl => match us, hl with | [_], _ => rfl
    have b21 := F21.F.binds (ps := ["looks"]) fun _ _ _ _ _ _ us hl => match us, hl with | [_], _ => rfl
    have b22 := F22.F.binds (ps := ["row"]) fun _ _ _ _ _ _ us hl => match us, hl with | [_], _ => rfl
    refine ⟨_, fun s v => .of_eq rfl, fun base _ _ => Qp.ok_law_ne F15.F ?_⟩
    have C : Qp.Consts _ mg := { tL := t_looksW, tD := t_deedsW, tS := t_stepsW, tI := t_ifW, tW := t_whileW, tA := t_assertW, tP := t_probesW, tG := t_gatesW, tk := tk2, mL := m_looksW, hL := h_looksW, mD := m_deedsW, hD := h_deedsW, mS := m_stepsW, hS := h_stepsW, mI := m_ifW, hI := h_ifW, mW := m_whileW, hW := h_whileW, mA := m_assertW, hA := h_assertW, mP := m_probesW, hP := h_probesW, mG := m_gatesW, hG := h_gatesW, mM := mM }
    have gN := Qp.ok_isname (P := PySem.Challenge.rw_quietprobes_k22_lines_of_rows.prog) (w := w) (base := base) (k := 0) F1.F B mL
    have gO := Qp.ok_one (P := PySem.Challenge.rw_quietprobes_k22_lines_of_rows.prog) (w := w) (base := base) F4.F B mA mN gN F1.m F1.F.kp b1
    have gK := Qp.ok_islook F2.F C gO F4.m F4.F.kp b4
    have gA := Qp.ok_are F6.F B mA gK F2.m F2.F.kp b2
    have gH := Qp.ok_has F5.F B C gN F1.m F1.F.kp b1 gO F4.m F4.F.kp b4 gA F6.m F6.F.kp b6
    have gI := Qp.ok_isrow F3.F B C gO F4.m F4.F.kp b4 gH F5.m F5.F.kp b5
    have gB := Qp.ok_isprobe (P := PySem.Challenge.rw_quietprobes_k22_lines_of_rows.prog) (w := w) (base := base) (k := 0) F7.F C
    have gD := Qp.ok_draw (P := PySem.Challenge.rw_quietprobes_k22_lines_of_rows.prog) (w := w) (base := base) (k := 0) F9.F B.int
    have gW := Qp.ok_word F10.F gD F9.m F9.F.kp b9 B.range
    have gL := Qp.ok_flook F11.F NB gD F9.m F9.F.kp b9 gW F10.m F10.F.kp b10
    have gP := Qp.ok_fprobe F12.F B NB gD F9.m F9.F.kp b9 gW F10.m F10.F.kp b10 gL F11.m F11.F.kp b11
    have gR := Qp.ok_frow F13.F NB gD F9.m F9.F.kp b9 gW F10.m F10.F.kp b10 gP F12.m F12.F.kp b12
    have gLt := Qp.ok_lookstext (P := PySem.Challenge.rw_quietprobes_k22_lines_of_rows.prog) (w := w) (mg := mg) (base := base) (k := 0) F16.F
    have gT := Qp.ok_rowtext F17.F gB F7.m F7.F.kp b7 gLt F16.m F16.F.kp b16
    have gRl := Qp.ok_readlooks (P := PySem.Challenge.rw_quietprobes_k22_lines_of_rows.prog) (w := w) (mg := mg) (base := base) (k := 0) F20.F B
    have gRp := Qp.ok_readprobe F19.F B gRl F20.m F20.F.kp b20
    have gRR := Qp.ok_readrow F18.F B C gRp F19.m F19.F.kp b19 gI F3.m F3.F.kp b3
    have gLL := Qp.ok_llooks (P := PySem.Challenge.rw_quietprobes_k22_lines_of_rows.prog) (w := w) (mg := mg) (base := base) (k := 0) F21.F B
    have gLn := Qp.ok_lline F22.F B gLL F21.m F21.F.kp b21
    exact ⟨{ dN := dN, B := B, fP := f8, fdP := fd8, GP := Qp.ok_pool F8.F B.list, mP := F8.m, kP := F8.F.kp, bP := b8, fR := f13, fdR := fd13, GR := gR, mR := F13.m, kR := F13.F.kp, bR := b13, fLn := f22, fdLn := fd22, GLn := gLn, mLn := F22.m, kLn := F22.F.kp, bLn := b22, fS := f14, fdS := fd14, GS := Qp.ok_same F14.F B F14.m b14 5, mS := F14.m, kS := F14.F.kp, bS := b14, fT := f17, fdT := fd17, GT := gT, mT := F17.m, kT := F17.F.kp, bT := b17, fRR := f18, fdRR := fd18, GRR := gRR, mRR := F18.m, kRR := F18.F.kp, bRR := b18, fD := f9, fdD := fd9, GD := gD, mD := F9.m, kD := F9.F.kp, bD := b9 }⟩
