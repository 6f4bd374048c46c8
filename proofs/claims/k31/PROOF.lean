import PyProof.Rows.All
import Wide.All
import OpenK.AllK
import Wide.FinOn
import KE.KExcSuper
import KE.KExcIs
import KE.RegKSuper
import KE.GoesMore
import HandS.ForMost
import HandS.EndBits
import HandS.Wide
import HandS.Star
import HandS.IsInst
import HandS.Codes
import HandS.More
import HandS.StrMore
import HandS.ClsMeth
import HandS.SlotsOwn
import HandS.Steps
import HandS.Walk
import HandS.FStrTup
import HandS.FStr
import HandS.ExcInit
import HandS.ExcField
import HandS.ExcIs
import HandS.ExcOwn
import HandS.WordsExc
import HandS.DictComp
import HandS.CallLocal
import HandS.Zip
import HandS.Property
import HandS.MethStar
import HandS.Defaults
import HandS.MakeKw
import HandS.MakeKwOnly
import HandS.TupAny
import HandS.TryOnly
import HandS.Strs
import HandS.Style
import PySem.Challenge.RW_quietprobes_k31_settings_made
set_option Elab.async false
set_option maxRecDepth 100000
set_option maxHeartbeats 4000000
set_option linter.all false
namespace Qp
open PySem L2
def top (i : Nat) : Stmt := PySem.Challenge.pw_quietprobes_k31_settings_made.main.body.getD i (.Pass ⟨0, 0, 0, 0⟩)
abbrev sIsName : Stmt := top 8
abbrev sNames : Stmt := top 9
abbrev sUnlike : Stmt := top 10
abbrev sSet : Stmt := top 13
abbrev sCheckMode : Stmt := top 14
abbrev sSetOf : Stmt := top 15
abbrev sGreater : Stmt := top 17
abbrev sDraw : Stmt := top 20
abbrev sMade : Stmt := top 21
abbrev sPool : Stmt := top 22
abbrev sLNames : Stmt := top 23
abbrev sSame : Stmt := top 24
abbrev sHolds : Stmt := top 25
abbrev sOdd : Stmt := top 26
abbrev sChosen : Stmt := top 27
abbrev sLike : Stmt := top 28
abbrev sLaw : Stmt := top 29
abbrev se (i : Nat) : Stmt := (C8.clsBody sSet).getD i (.Pass ⟨0, 0, 0, 0⟩)
/-! ### the pool of drawn numbers -/
/-- all objects but the two of the pool stay -/
def Keeps (p q : Addr) (H H' : Hp) : Prop := ∀ x o, x ≠ p → x ≠ q → H x = some o → H' x = some o
theorem Keeps.refl (p q : Addr) (H : Hp) : Keeps p q H H := fun _ _ _ _ e => e
theorem Keeps.trans {p q : Addr} {H H1 H2 : Hp} (a : Keeps p q H H1) (b : Keeps p q H1 H2) : Keeps p q H H2 := fun x o h1 h2 e => b x o h1 h2 (a x o h1 h2 e)
theorem Keeps.of_same {p q : Addr} {H H1 : Hp} (a : Same H H1) : Keeps p q H H1 := fun x o _ _ e => a x o e
theorem Keeps.upd_p {p q : Addr} {H : Hp} {o : HO} : Keeps p q H (upd H p o) := fun x u h1 _ e => by
  rw [upd_ne h1]; exact e
theorem Keeps.upd_q {p q : Addr} {H : Hp} {o : HO} : Keeps p q H (upd H q o) := fun x u _ h2 e => by
  rw [upd_ne h2]; exact e
theorem Keeps.upd_new {p q a : Addr} {H : Hp} {o : HO} (n : H a = none) : Keeps p q H (upd H a o) := fun x u _ _ e => by
  rw [upd_ne (ne_of_none e n)]; exact e
theorem Keeps.free {p q a : Addr} {H H1 : Hp} (k : Keeps p q H H1) (n : H1 a = none) (hp : a ≠ p) (hq : a ≠ q) : H a = none := by
  cases e : H a with
  | none => rfl
  | some o => rw [k a o hp hq e] at n; cases n
/-- the pool's two lists: how many numbers were drawn is n -/
structure PoolAt (H : Hp) (p q : Addr) (n : Nat) : Prop where
  ne : p ≠ q
  ex : ∃ (cs : List Int) (b c : Int), H p = some (.lst [.ref q, .int b, .int (n : Int), .int c]) ∧ H q = some (.lst (cs.map V.int)) ∧ cs.length ≤ 1000 ∧ 0 ≤ b ∧ 0 ≤ c ∧ c < 2147483629
theorem PoolAt.p_some {H : Hp} {p q : Addr} {n : Nat} (h : PoolAt H p q n) : ∃ o, H p = some o := let ⟨_, _, _, e, _⟩ := h.ex; ⟨_, e⟩
theorem PoolAt.q_some {H : Hp} {p q : Addr} {n : Nat} (h : PoolAt H p q n) : ∃ o, H q = some o := let ⟨_, _, _, _, e, _⟩ := h.ex; ⟨_, e⟩
theorem PoolAt.same {H H' : Hp} {p q : Addr} {n : Nat} (h : PoolAt H p q n) (s : Same H H') : PoolAt H' p q n := by
  obtain ⟨ne, cs, b, c, e1, e2, r⟩ := h
  exact ⟨ne, cs, b, c, s _ _ e1, s _ _ e2, r⟩
theorem PoolAt.new {H : Hp} {p q a : Addr} {n : Nat} {o : HO} (h : PoolAt H p q n) (na : H a = none) : PoolAt (upd H a o) p q n :=
  h.same fun x u e => by rw [upd_ne (ne_of_none e na)]; exact e
section
variable {X : Cx}
theorem get_list : PGet X (rIxL X.K) := by
  intro pins s σ H o i ov iv Q I ro ri h
  obtain ⟨p, xs, k, z, rfl, rfl, hq, he, q⟩ := h
  cases ro
  obtain ⟨t, rfl⟩ := ri
  obtain ⟨its, r, pl, hz⟩ := I.list hq
  obtain ⟨j, h1, h2, h3, h4, h5⟩ := atI_get he
  obtain ⟨w, ew, rw'⟩ := r.get h2
  have hl := r.length
  have hn := line63
  have fin : EP X pins σ Q w s := ⟨z, H, I, rw', q⟩
  by_cases h0 : 0 ≤ k
  · have hj : k.toNat = j := by
      rw [seqIndex_of h0 h5] at h1
      exact Option.some.inj h1
    exact wpAny_getItem_list pl.isList h0 (by omega) (by rw [hj]; simpa using ew) fin
  · have hj : (k + (its.toArray.size : Int)).toNat = j := by
      rw [seqIndex_neg (by omega) h4] at h1
      rw [List.size_toArray, ← hl]
      exact Option.some.inj h1
    exact wpAny_getItem_list_neg pl.isList (by omega) (by rw [List.size_toArray] <;> omega) (by omega) (by rw [hj]; simpa using ew) fin
end
theorem div_many {b m : Int} (h0 : 0 < m) (h1 : m ≤ 10 ^ 40) : CDivW b m := by
  refine wide_div (b := 200) h0 ?_ (by decide) (by decide)
  have h : m.natAbs ≤ 10 ^ 40 := by omega
  exact Nat.lt_of_le_of_lt h (by decide)
def spDraw : Sp := fun vs H Q _ => ∃ (p q : Addr) (n : Nat) (m : Int), vs = [.ref p, .int m] ∧ PoolAt H p q n ∧ n < 1000000 ∧ 0 < m ∧ m ≤ 10 ^ 40 ∧
  ∀ (d : Int) (H' : Hp), 0 ≤ d → d < m → PoolAt H' p q (n + 1) → Keeps p q H H' → Q (.int d) H'
section
variable {P : Program} {w : World} {K : PySem.W.Frag} {mg : Str → Option Value} {base : Heap}
theorem scD : FnScope ["pool", "many", "cell", "code", "digit", "far", "mixed"] ["pool", "many"] (defScope sDraw) := ⟨rfl, rfl, rfl, by decide +kernel, rfl, by decide +kernel, by decide +kernel⟩
theorem ok_draw {f : Addr} {fd : FuncData} {k : Nat} (F : Fun K "_law_draw" "_law_draw" sDraw f fd) (mi : mg "int" = none) : FnOk P w K mg base CX0 (k + 1) f fd ["pool", "many"] spDraw := by
  refine F.ok scD (fun vs H Q E h => ?_) (fun cdv A outer s H vs Q E hr h => ?_)
  · obtain ⟨p, q, n, m, rfl, _⟩ := h
    rfl
  · obtain ⟨p, q, n, m, rfl, ⟨npq, cs, b, c, hp, hq, hcs, hb, hc0, hc1⟩, hn, hm0, hm1, kk⟩ := h
    refine ⟨_,
      pss_cons (ps_augS (pv 0) pe_int get_list pe_int ip_add set_list)
      (C8.pss_cut (ps_if (PW.pt (pw_and (pt_cmpR op_eq (pe_ix ix_list (pv 0) pe_int (fun _ _ => rfl)) pe_int (nomark _)) (pw_and1 (pt_truth (pe_ix ix_list (pv 0) pe_int (fun _ _ => rfl)) (by intro _; rfl)))))
        (pss_cons (ps_set (i := 2) scD.nd rfl (.inl rfl) (pe_callTy call_int1 (by rfl) mi (by decide +kernel) (pa_cons (pe_bm PySem.F.plainAttrs_list PySem.F.slot_list_pop PySem.F.type_list_pop mt_popAt (pe_ix ix_list (pv 0) pe_int (fun _ _ => rfl)) (pa_cons pe_int pa_nil)) pa_nil)))
        (C8.pss_cut (ps_set (i := 3) scD.nd rfl (.inl rfl) (pe_ifExp (pt_cmpR op_ge (pv 2) pe_int (nomark _)) (pe_op op_mul pe_int (pv 2)) (pe_op op_sub (pe_un un_neg pe_int) (pe_op op_mul pe_int (pv 2)))))
        (pss_one (ps_if (pt_cmpR op_ge (pv 3) (pe_op op_pow pe_int pe_int) (nomark _))
          (pss_one (ps_asg (pv 3) (pg_sub (pv 0) pe_int set_list)))
          (pss_one (ps_asg (pe_op op_mod (pe_callTy call_int1 (by rfl) mi (by decide +kernel) (pa_cons (pe_op op_add (pe_op op_add (pe_op op_mul (pe_ix ix_list (pv 0) pe_int (fun _ _ => rfl)) pe_int) (pe_op op_mul (pv 3) pe_int)) pe_int) pa_nil)) pe_int) (pg_sub (pv 0) pe_int set_list)))))))
        pss_nil)
      (pss_cons (ps_if (pt_cmpR op_gt (pe_ix ix_list (pv 0) pe_int (fun _ _ => rfl)) pe_int (nomark _))
        (pss_cons (ps_set (i := 4) scD.nd rfl (.inl rfl) (pe_op op_mod (pe_callTy call_int1 (by rfl) mi (by decide +kernel) (pa_cons (pe_ix ix_list (pv 0) pe_int (fun _ _ => rfl)) pa_nil)) (pv 1)))
        (pss_cons (ps_asg (pe_op op_fdivW (pe_ix ix_list (pv 0) pe_int (fun _ _ => rfl)) (pv 1)) (pg_sub (pv 0) pe_int set_list))
        (pss_one (ps_ret (pv 4)))))
        pss_nil)
      (pss_cons (ps_set (i := 5) scD.nd rfl (.inl rfl) (pe_op op_add (pe_op op_mul (pe_ix ix_list (pv 0) pe_int (fun _ _ => rfl)) pe_int) (pe_op op_mul (pe_op op_mul (pe_ix ix_list (pv 0) pe_int (fun _ _ => rfl)) (pe_ix ix_list (pv 0) pe_int (fun _ _ => rfl))) pe_int)))
      (pss_cons (ps_set (i := 6) scD.nd rfl (.inl rfl) (pe_op op_mod (pe_callTy call_int1 (by rfl) mi (by decide +kernel) (pa_cons (pe_op op_add (pe_op op_mul (pe_ix ix_list (pv 0) pe_int (fun _ _ => rfl)) pe_int) (pv 5)) pa_nil)) pe_int))
      (pss_one (ps_ret (pe_ifExp (pt_truth (pe_ix ix_list (pv 0) pe_int (fun _ _ => rfl)) (by intro _; rfl)) (pe_op op_mod (pe_op op_mod (pe_callTy call_int1 (by rfl) mi (by decide +kernel) (pa_cons (pe_op op_fdiv (pe_op op_mul (pv 6) pe_int) pe_int) pa_nil)) pe_int) (pv 1)) pe_int))))))), ?_⟩
    -- pool[2] += 1
    have g : ∀ {H : Hp} {x y z t : V}, H p = some (.lst [x, y, z, t]) → SqL K H p [x, y, z, t] := fun e => SqL.of e
    refine ⟨_, rfl, p, _, 2, _, rfl, rfl, g hp, atI_nat (j := 2) rfl, n, 1, rfl, rfl, p, _, 2, 2, rfl, rfl, hp, rfl, ?_⟩
    have K1 : Keeps p q H (upd H p (.lst [.ref q, .int b, .int ((n : Int) + 1), .int c])) := Keeps.upd_p
    have hp1 : (upd H p (.lst [.ref q, .int b, .int ((n : Int) + 1), .int c])) p = some (.lst [.ref q, .int b, .int ((n : Int) + 1), .int c]) := upd_same
    have hq1 : (upd H p (.lst [.ref q, .int b, .int ((n : Int) + 1), .int c])) q = some (.lst (cs.map V.int)) := by rw [upd_ne npq.symm]; exact hq
    refine ⟨fun σ H1 => ∃ (cs b c : _) (y2 y3 : Option V), σ = [some (.ref p), some (.int m), y2, y3, none, none, none] ∧ Keeps p q H H1 ∧
      H1 p = some (.lst [.ref q, .int b, .int ((n : Int) + 1), .int c]) ∧ H1 q = some (.lst (List.map V.int cs)) ∧ cs.length ≤ 1000 ∧ 0 ≤ b ∧ 0 ≤ c ∧ c < 2147483629, ?_, ?_⟩
    · -- if pool[1] == 0 and pool[0]
      refine ⟨_, rfl, p, _, 1, _, rfl, rfl, g hp1, atI_nat (j := 1) rfl, rfl, _, rfl, ?_⟩
      refine ite2 (fun _ => ?_) (fun _ => ?_)
      · refine ⟨_, rfl, p, _, 0, _, rfl, rfl, g hp1, atI_nat (j := 0) rfl, _, .inl ⟨_, SqL.of hq1, rfl⟩, ?_⟩
        cases cs with
        | nil =>
          refine iteF ?_
          exact ⟨[], b, c, none, none, rfl, K1, hp1, hq1, Nat.zero_le _, hb, hc0, hc1⟩
        | cons z r =>
          refine iteT ?_
          -- cell = int(pool[0].pop(0))
          refine ⟨_, rfl, p, _, 0, _, rfl, rfl, g hp1, atI_nat (j := 0) rfl, .inl ⟨rfl, _, SqL.of hq1⟩, q, _, 0, 0, _, rfl, rfl, hq1, by decide, by decide, seqIndex_of (by decide) (by simp), rfl, ?_⟩
          have hq2 : (upd (upd H p (.lst [.ref q, .int b, .int ((n : Int) + 1), .int c])) q (.lst (r.map V.int))) q = some (.lst (r.map V.int)) := upd_same
          have hp2 : (upd (upd H p (.lst [.ref q, .int b, .int ((n : Int) + 1), .int c])) q (.lst (r.map V.int))) p = some (.lst [.ref q, .int b, .int ((n : Int) + 1), .int c]) := by
            rw [upd_ne npq, hp1]
          have K2 : Keeps p q H (upd (upd H p (.lst [.ref q, .int b, .int ((n : Int) + 1), .int c])) q (.lst (r.map V.int))) := K1.trans .upd_q
          refine .inl ⟨z, rfl, ?_⟩
          have hr1 : r.length ≤ 1000 := Nat.le_of_succ_le hcs
          -- code
          refine ⟨fun σ H1 => ∃ code : Int, σ = [some (.ref p), some (.int m), some (.int z), some (.int code), none, none, none] ∧ 0 ≤ code ∧ H1 = upd (upd H p (.lst [.ref q, .int b, .int ((n : Int) + 1), .int c])) q (.lst (r.map V.int)), ?_, ?_⟩
          · refine ⟨_, rfl, _, _, rfl, rfl, _, rfl, ?_⟩
            refine ite2 (fun hz => ?_) (fun hz => ?_)
            · have hz' : 0 ≤ z := of_decide_eq_true hz
              exact ⟨_, rfl, _, _, rfl, rfl, .inl (by decide), 2 * z, rfl, by omega, rfl⟩
            · have hz' : ¬ 0 ≤ z := fun e => hz (decide_eq_true e)
              exact ⟨_, rfl, _, rfl, _, _, rfl, rfl, .inl (by decide), _, _, rfl, rfl, -1 - 2 * z, rfl, by omega, rfl⟩
          · rintro σ H1 ⟨code, rfl, hcode, rfl⟩
            refine ⟨_, rfl, _, _, rfl, rfl, ⟨by decide, by decide, by decide⟩, _, _, rfl, rfl, _, rfl, ?_⟩
            refine ite2 (fun hz => ?_) (fun hz => ?_)
            · refine ⟨_, rfl, _, rfl, p, _, 1, 1, rfl, rfl, hp2, rfl, ?_⟩
              exact ⟨r, code, c, _, _, rfl, K2.trans .upd_p, upd_same, by rw [upd_ne npq.symm]; exact hq2, hr1, hcode, hc0, hc1⟩
            · have hz' : ¬ ((10 : Int) ^ (18 : Int).toNat ≤ code) := fun e => hz (decide_eq_true e)
              refine ⟨_, rfl, p, _, 3, _, rfl, rfl, g hp2, atI_nat (j := 3) rfl, _, _, rfl, rfl, .inl ⟨by omega, by omega⟩, _, rfl, _, _, rfl, rfl, .inr (by decide), _, _, rfl, rfl, _, _, rfl, rfl, .inl ⟨_, rfl, _, _, rfl, rfl, (by show (0 : Int) < 2147483629; decide), _, rfl, p, _, 3, 3, rfl, rfl, hp2, rfl, ?_⟩⟩
              refine ⟨r, b, _, _, _, rfl, K2.trans .upd_p, upd_same, by rw [upd_ne npq.symm]; exact hq2, hr1, hb, Int.emod_nonneg _ (by decide), Int.emod_lt_of_pos _ (by decide)⟩
      · exact ⟨cs, b, c, none, none, rfl, K1, hp1, hq1, hcs, hb, hc0, hc1⟩
    · rintro σ H1 ⟨cs, b, c, y2, y3, rfl, K1, hp1, hq1, hcs, hb, hc0, hc1⟩
      have en : ((n : Int) + 1) = ((n + 1 : Nat) : Int) := by omega
      rw [en] at hp1
      -- if pool[1] > 0
      refine ⟨_, rfl, p, _, 1, _, rfl, rfl, g hp1, atI_nat (j := 1) rfl, _, _, rfl, rfl, _, rfl, ?_⟩
      refine ite2 (fun h1 => ?_) (fun h1 => ?_)
      · have hdm : (0 : Int) < m := hm0
        refine ⟨_, rfl, p, _, 1, _, rfl, rfl, g hp1, atI_nat (j := 1) rfl, .inl ⟨_, rfl, _, rfl, _, _, rfl, rfl, hm0, ?_⟩⟩
        refine ⟨_, rfl, p, _, 1, _, rfl, rfl, g hp1, atI_nat (j := 1) rfl, _, rfl, _, _, rfl, rfl, div_many hm0 hm1, ?_⟩
        refine ⟨_, rfl, p, _, 1, 1, rfl, rfl, hp1, rfl, ?_⟩
        refine ⟨_, rfl, ?_⟩
        exact kk _ _ (Int.emod_nonneg _ (by omega)) (Int.emod_lt_of_pos _ hm0) ⟨npq, cs, b / m, c, upd_same, by rw [upd_ne npq.symm]; exact hq1, hcs, Int.ediv_nonneg hb (by omega), hc0, hc1⟩ (K1.trans .upd_p)
      · refine ⟨_, rfl, p, _, 2, _, rfl, rfl, g hp1, atI_nat (j := 2) rfl, _, _, rfl, rfl, .inr (by decide), _, rfl, p, _, 2, _, rfl, rfl, g hp1, atI_nat (j := 2) rfl, _, rfl, p, _, 2, _, rfl, rfl, g hp1, atI_nat (j := 2) rfl, _, _, rfl, rfl, .inl ⟨by omega, by omega⟩, _, _, rfl, rfl, .inr (by decide), _, _, rfl, rfl, ?_⟩
        refine ⟨_, rfl, p, _, 3, _, rfl, rfl, g hp1, atI_nat (j := 3) rfl, _, _, rfl, rfl, .inl ⟨by omega, by omega⟩, _, rfl, _, _, rfl, rfl, .inl ⟨_, rfl, _, _, rfl, rfl, (by show (0 : Int) < 2147483647; decide), ?_⟩⟩
        refine ⟨_, rfl, p, _, 3, _, rfl, rfl, g hp1, atI_nat (j := 3) rfl, _, rfl, ite2 (fun h3 => ?_) (fun h3 => ?_)⟩
        · refine ⟨_, rfl, _, _, rfl, rfl, .inr (by decide), _, _, rfl, rfl, ⟨by decide, by decide⟩, .inl ⟨_, rfl, _, _, rfl, rfl, (by show (0 : Int) < 2147483629; decide), _, rfl, _, _, rfl, rfl, hm0, ?_⟩⟩
          exact kk _ _ (Int.emod_nonneg _ (by omega)) (Int.emod_lt_of_pos _ hm0) ⟨npq, cs, b, c, hp1, hq1, hcs, hb, hc0, hc1⟩ K1
        · exact kk 0 _ (by decide) hm0 ⟨npq, cs, b, c, hp1, hq1, hcs, hb, hc0, hc1⟩ K1
end
/-! ### the pool made, a word drawn -/
theorem cut_take (xs : List V) (k : Nat) : cutV xs none (some (k : Int)) = xs.take k := by
  unfold cutV
  rw [HT.sIx_nat, HT.sIx_none]
  show (xs.drop 0).take (min k xs.length - 0) = xs.take k
  rw [List.drop_zero, Nat.sub_zero]
  by_cases h : k ≤ xs.length
  · rw [Nat.min_eq_left h]
  · rw [Nat.min_eq_right (by omega), List.take_of_length_le (Nat.le_refl _), List.take_of_length_le (by omega)]
def spPool (K : PySem.W.Frag) : Sp := fun vs H Q _ => ∃ (a : Addr) (ns : List Int), vs = [.ref a] ∧ SqL K H a (ns.map V.int) ∧ ns.length ≤ 63 ∧ ∀ (p q : Addr) (H' : Hp), H p = none → H q = none → PoolAt H' p q 0 → Same H H' → Q (.ref p) H'
/-- one to eight letters -/
def IsWord (z : Str) : Prop := 1 ≤ z.length ∧ z.length ≤ 8 ∧ ∀ c ∈ z.cps.toList, 97 ≤ c ∧ c ≤ 122
def spWord : Sp := fun vs H Q _ => ∃ (p q : Addr) (n : Nat), vs = [.ref p] ∧ PoolAt H p q n ∧ n < 900000 ∧
  ∀ (z : Str) (n' : Nat) (H' : Hp), IsWord z → n ≤ n' → n' ≤ n + 9 → PoolAt H' p q n' → Keeps p q H H' → Q (.str z) H'
theorem sum_ones : ∀ ys : List Str, (∀ y ∈ ys, y.length = 1) → (ys.map (·.length)).sum = ys.length
  | [], _ => rfl
  | x :: r, h => by
    rw [List.map_cons, List.sum_cons, h x List.mem_cons_self, sum_ones r fun y hy => h y (List.mem_cons_of_mem _ hy), List.length_cons]
    omega
theorem join_letters {sep : Str} (hs : sep.cps.toList = []) : ∀ ys : List Str, (∀ y ∈ ys, ∃ c, y = ⟨#[c]⟩ ∧ 97 ≤ c ∧ c ≤ 122) → (Str.join sep ys).length = ys.length ∧ ∀ c ∈ (Str.join sep ys).cps.toList, 97 ≤ c ∧ c ≤ 122
  | [], _ => ⟨rfl, fun c h => by cases h⟩
  | [x], h => by
    obtain ⟨c, rfl, h1, h2⟩ := h x List.mem_cons_self
    exact ⟨rfl, fun d hd => by
      have e : d = c := List.mem_singleton.mp hd
      rw [e]; exact ⟨h1, h2⟩⟩
  | x :: y :: r, h => by
    obtain ⟨c, rfl, h1, h2⟩ := h x List.mem_cons_self
    obtain ⟨i1, i2⟩ := join_letters hs (y :: r) fun z hz => h z (List.mem_cons_of_mem _ hz)
    have sl : sep.length = 0 := by
      show sep.cps.size = 0
      rw [← Array.length_toList, hs]; rfl
    have e : (Str.join sep ((⟨#[c]⟩ : Str) :: y :: r)) = (⟨#[c]⟩ : Str) ++ sep ++ Str.join sep (y :: r) := rfl
    rw [e]
    refine ⟨?_, fun d hd => ?_⟩
    · rw [strLen_append, strLen_append, i1, sl]
      show 1 + 0 + (y :: r).length = _
      simp only [List.length_cons]; omega
    · rcases PyProof.Rows.mem_cps_append.mp hd with hd | hd
      · rcases PyProof.Rows.mem_cps_append.mp hd with hd | hd
        · have e : d = c := List.mem_singleton.mp hd
          rw [e]; exact ⟨h1, h2⟩
        · rw [hs] at hd; cases hd
      · exact i2 d hd
def abc : Str := "abcdefghijklmnopqrstuvwxyz"
theorem abc_len : abc.length = 26 := by decide +kernel
theorem abc_at (d : Int) (h0 : 0 ≤ d) (h1 : d < 26) : ∃ c, atI abc.cps.toList d = some c ∧ 97 ≤ c ∧ c ≤ 122 := by
  obtain ⟨k, rfl⟩ : ∃ k : Nat, d = (k : Int) := ⟨d.toNat, by omega⟩
  have hk : k < 26 := by omega
  have all : ∀ k : Fin 26, ∃ c, abc.cps.toList[k.val]? = some c ∧ 97 ≤ c ∧ c ≤ 122 := by
    have h : ∀ k : Fin 26, (match abc.cps.toList[k.val]? with | some c => decide (97 ≤ c ∧ c ≤ 122) | none => false) = true := by decide +kernel
    intro k
    have := h k
    cases e : abc.cps.toList[k.val]? with
    | none => rw [e] at this; cases this
    | some c =>
      rw [e] at this
      exact ⟨c, rfl, of_decide_eq_true this⟩
  obtain ⟨c, e, r⟩ := all ⟨k, hk⟩
  exact ⟨c, atI_nat e, r⟩
section
variable {P : Program} {w : World} {K : PySem.W.Frag} {mg : Str → Option Value} {base : Heap}
theorem scP : FnScope ["script"] ["script"] (defScope sPool) := ⟨rfl, rfl, rfl, by decide +kernel, rfl, by decide +kernel, by decide +kernel⟩
theorem ok_pool {f : Addr} {fd : FuncData} {k : Nat} (F : Fun K "_law_pool" "_law_pool" sPool f fd) (ml : mg "list" = none) : FnOk P w K mg base CX0 (k + 1) f fd ["script"] (spPool K) := by
  refine F.ok scP (fun vs H Q E h => ?_) (fun cdv A outer s H vs Q E hr h => ?_)
  · obtain ⟨a, ns, rfl, _⟩ := h
    rfl
  · obtain ⟨a, ns, rfl, hS, hl, kk⟩ := h
    refine ⟨_, pss_one (ps_ret (pe_lst (pa_cons (pe_callTy call_list_of (by rfl) ml (by decide +kernel) (pa_cons (pe_slice sl_list (pv 0) po_none (po_some pe_int)) pa_nil)) (pa_cons pe_int (pa_cons pe_int (pa_cons pe_int pa_nil)))))), ?_⟩
    refine ⟨.ref a, rfl, 63, rfl, a, _, rfl, hS, fun c nc => ?_⟩
    have e : cutV (ns.map V.int) none (some 63) = (ns.take 63).map V.int := by
      rw [List.map_take]; exact cut_take _ 63
    rw [e]
    refine ⟨c, _, rfl, .inl (SqL.of upd_same), fun q nq => ?_⟩
    refine ⟨by show 4 ≤ sizeLine; decide, fun p np => ?_⟩
    have hc : (upd H c (.lst ((ns.take 63).map V.int))) c = some (.lst ((ns.take 63).map V.int)) := upd_same
    have s1 : Same H (upd H c (.lst ((ns.take 63).map V.int))) := fun b o z => by rw [upd_ne (ne_of_none z nc)]; exact z
    have s2 : Same (upd H c (.lst ((ns.take 63).map V.int))) (upd (upd H c (.lst ((ns.take 63).map V.int))) q (.lst ((ns.take 63).map V.int))) := fun b o z => by rw [upd_ne (ne_of_none z nq)]; exact z
    have hq : (upd (upd H c (.lst ((ns.take 63).map V.int))) q (.lst ((ns.take 63).map V.int))) q = some (.lst ((ns.take 63).map V.int)) := upd_same
    have s3 := fun o => (fun b u z => by rw [upd_ne (ne_of_none z np)]; exact z : Same (upd (upd H c (.lst ((ns.take 63).map V.int))) q (.lst ((ns.take 63).map V.int))) (upd _ p o))
    refine kk p q _ ((s1.trans s2).free np) (s1.free nq) ⟨(ne_of_none hq np).symm, ns.take 63, 0, 0, upd_same, s3 _ _ _ hq, by rw [List.length_take]; omega, by decide, by decide, by decide⟩ ((s1.trans s2).trans (s3 _))
end
/-! ### rules over a given written part: within comprehensions -/
section
variable {X : Cx} {K : PySem.W.Frag}
theorem ixK {r : PySem.W.Frag → R2} (h : IxR X (r X.K)) (hK : X.K = K := by rfl) : IxR X (r K) := hK ▸ h
theorem opK {f : Value → Value → Sem Value} {r : PySem.W.Frag → R2} (h : OpR X f (r X.K)) (hK : X.K = K := by rfl) : OpR X f (r K) := hK ▸ h
theorem callK {f : Value} {r : PySem.W.Frag → List V → Hp → VK → Prop} (h : CallR X f (r X.K)) (hK : X.K = K := by rfl) : CallR X f (r K) := hK ▸ h
theorem slK {r : PySem.W.Frag → V → Option Int → Option Int → Hp → VK → Prop} (h : SlR X (r X.K)) (hK : X.K = K := by rfl) : SlR X (r K) := hK ▸ h
theorem peK {e : Expr} {t : PySem.W.Frag → TE} (h : PE X e (t X.K)) (hK : X.K = K := by rfl) : PE X e (t K) := hK ▸ h
theorem ptK {e : Expr} {t : PySem.W.Frag → TT} (h : PT X e (t X.K)) (hK : X.K = K := by rfl) : PT X e (t K) := hK ▸ h
theorem paK {es : List Expr} {t : PySem.W.Frag → TA} (h : PA X es (t X.K)) (hK : X.K = K := by rfl) : PA X es (t K) := hK ▸ h
theorem pe_fldK {e : Expr} {f : Str} {pos : Pos} {ta : TE} (he : PE X e ta) (hb : attributeBase e f X.env (eval e X.env) = eval e X.env) (hK : X.K = K := by rfl) : PE X (.Attribute e f pos) (tFld K ta f) :=
  peK (t := fun K => tFld K ta f) (pe_fld he hb) hK
theorem pt_truthK {a : Expr} {ta : TE} (ha : PE X a ta) (he : ∀ whole, isTrue a X.env whole = (do let v ← whole; standAt a.pos; holding [v] (truthy v))) (hK : X.K = K := by rfl) : PT X a (tTru K ta) :=
  ptK (t := fun K => tTru K ta) (pt_truth ha he) hK
theorem pa_starK {e : Expr} {es : List Expr} {p : Pos} {te : TE} {t : TA} (he : PE X e te) (hr : PA X es t) (hK : X.K = K := by rfl) (hs : starEach (.Starred e p :: es) X.env = (true, eval e X.env) :: starEach es X.env := by rfl) : PA X (.Starred e p :: es) (StX.tStar K te t) :=
  paK (t := fun K => StX.tStar K te t) (StX.pa_star he hr hs) hK
end
def rLenS (K : PySem.W.Frag) : List V → Hp → VK → Prop := fun xs H Q => ∃ p ys, xs = [.ref p] ∧ (SqL K H p ys ∨ SqT K H p ys) ∧ Q (.int ys.length) H
def rLstOf (K : PySem.W.Frag) : List V → Hp → VK → Prop := fun xs H Q => ∃ p ys, xs = [.ref p] ∧ (SqL K H p ys ∨ SqT K H p ys) ∧ ∀ l, H l = none → Q (.ref l) (upd H l (.lst ys))
/-- tuple(x): a list's or a tuple's -/
structure rTupOf (K : PySem.W.Frag) (xs : List V) (H : Hp) (Q : VK) : Prop where
  ex : ∃ p ys, xs = [.ref p] ∧ ((SqL K H p ys ∧ ∀ l, H l = none → Q (.ref l) (upd H l (.tup ys))) ∨ (SqT K H p ys ∧ Q (.ref p) H))
theorem call_tupS {X : Cx} : CallR X (.type "tuple") (rTupOf X.K) := fun pins s σ H xs us Q I r h => call_tuple_of pins s σ H xs us Q I r h.ex
def tJoinK (K : PySem.W.Frag) (to te : TE) : TE := tM1 (fun x xs H Q => ∃ a p, ∃ ys : List Str, x = .str a ∧ xs = [.ref p] ∧ (SqL K H p (ys.map V.str) ∨ SqT K H p (ys.map V.str)) ∧ (ys.map (·.length)).sum + ys.length * a.length ≤ 16777216 ∧ Q (.str (Txt.join a ys)) H) to te
theorem pe_joinK {X : Cx} {K : PySem.W.Frag} {o e : Expr} {to te : TE} {apos pos : Pos} (ho : PE X o to) (he : PE X e te) (hK : X.K = K := by rfl) (hs : starEach [e] X.env = [(false, eval e X.env)] := by rfl) (hbase : attributeBase o "join" X.env (eval o X.env) = eval o X.env := by rfl) (hline : (apos.endLine == pos.line) = true := by rfl) :
    PE X (.Call (.Attribute o "join" apos) [e] [] pos) (tJoinK K to te) := peK (t := fun K => tJoinK K to te) (pe_join ho he hs hbase hline) hK
/-! ### one expression, two readings -/
theorem PE.or {X : Cx} {e : Expr} {t1 t2 : TE} (h1 : PE X e t1) (h2 : PE X e t2) : PE X e (fun σ H Q => t1 σ H Q ∨ t2 σ H Q) :=
  ⟨fun pins s σ H Q I h => h.elim (h1.run pins s σ H Q I) (h2.run pins s σ H Q I)⟩
theorem PI.or {X : Cx} {tg e : Expr} {t1 t2 : TI} (h1 : PI X tg e t1) (h2 : PI X tg e t2) : PI X tg e (fun σ H Q => t1 σ H Q ∨ t2 σ H Q) :=
  ⟨fun pins s σ H R I h => h.elim (h1.run pins s σ H R I) (h2.run pins s σ H R I)⟩
theorem pi_seq {X : Cx} {tg l : Expr} {tl : TE} (hl : PE X l tl) : PI X tg l (fun σ H R => iList X.K tl σ H R ∨ iTup X.K tl σ H R) := PI.or (pi_list hl) (pi_tup hl)
/-! ### two data are the same -/
/-- no deeper than that -/
def dp : Nat → PyData → Prop
  | 0, _ => False
  | _ + 1, .none => True
  | _ + 1, .bool _ => True
  | _ + 1, .int _ => True
  | _ + 1, .str _ => True
  | m + 1, .list xs => xs.length ≤ 1000000 ∧ ∀ x ∈ xs, dp m x
  | m + 1, .tuple xs => xs.length ≤ 1000000 ∧ ∀ x ∈ xs, dp m x
  | _ + 1, .dict _ => False
def tyName : PyData → String
  | .none => "NoneType"
  | .bool _ => "bool"
  | .int _ => "int"
  | .str _ => "str"
  | .list _ => "list"
  | .tuple _ => "tuple"
  | .dict _ => "dict"
theorem ty_of {K : PySem.W.Frag} {H : Hp} {v : V} {d : PyData} (h : Dp K H v d) : TyX K H v (.type (tyName d)) := by
  cases h with
  | non => exact .base .non
  | bl b => exact .base (.bl b)
  | int i => exact .base (.int i)
  | str x => exact .base (.str x)
  | lst hs _ =>
    rcases hs with (h | ⟨o, h⟩) | ⟨o, its, n, hk, hc, _⟩
    · exact .base (.lst h)
    · exact .base (.frz h)
    · exact .kList hk hc
  | tup hs _ =>
    rcases hs with (h | ⟨o, h⟩) | ⟨o, its, n, hk, hc, _⟩
    · exact .base (.tup h)
    · exact .fTuple h
    · exact .kTuple hk hc
theorem dpAll_len {K : PySem.W.Frag} {H : Hp} : ∀ {vs : List V} {ds : List PyData}, DpAll K H vs ds → vs.length = ds.length
  | _, _, .nil => rfl
  | _, _, .cons _ t => by rw [List.length_cons, List.length_cons, dpAll_len t]
theorem dpAll_get {K : PySem.W.Frag} {H : Hp} : ∀ {vs : List V} {ds : List PyData} {i : Nat} {d : PyData}, DpAll K H vs ds → ds[i]? = some d → ∃ v, vs[i]? = some v ∧ Dp K H v d
  | _, _, _, _, .nil, e => by simp at e
  | _, _, 0, _, .cons h _, e => by
    have e' := Option.some.inj e
    subst e'
    exact ⟨_, rfl, h⟩
  | _, _, i + 1, _, .cons _ t, e => dpAll_get (i := i) t e
def tyL : PyData → Bool
  | .list _ => true
  | _ => false
def tyT : PyData → Bool
  | .tuple _ => true
  | _ => false
def tyB : PyData → Bool
  | .bool _ => true
  | _ => false
def tyI : PyData → Bool
  | .int _ => true
  | .bool _ => true
  | _ => false
def tyS : PyData → Bool
  | .str _ => true
  | _ => false
section
variable {K : PySem.W.Frag} {H : Hp} {v : V} {d : PyData}
theorem kitL (h : Dp K H v d) : kitB (tyName d) "list" = some (tyL d) := by
  cases d with
  | none => exact (by decide +kernel : kitB "NoneType" "list" = some false)
  | bool b => exact (by decide +kernel : kitB "bool" "list" = some false)
  | int i => exact (by decide +kernel : kitB "int" "list" = some false)
  | str z => exact (by decide +kernel : kitB "str" "list" = some false)
  | list l => exact (by decide +kernel : kitB "list" "list" = some true)
  | tuple l => exact (by decide +kernel : kitB "tuple" "list" = some false)
  | dict l => cases h
theorem kitT (h : Dp K H v d) : kitB (tyName d) "tuple" = some (tyT d) := by
  cases d with
  | none => exact (by decide +kernel : kitB "NoneType" "tuple" = some false)
  | bool b => exact (by decide +kernel : kitB "bool" "tuple" = some false)
  | int i => exact (by decide +kernel : kitB "int" "tuple" = some false)
  | str z => exact (by decide +kernel : kitB "str" "tuple" = some false)
  | list l => exact (by decide +kernel : kitB "list" "tuple" = some false)
  | tuple l => exact (by decide +kernel : kitB "tuple" "tuple" = some true)
  | dict l => cases h
theorem kitBo (h : Dp K H v d) : kitB (tyName d) "bool" = some (tyB d) := by
  cases d with
  | none => exact (by decide +kernel : kitB "NoneType" "bool" = some false)
  | bool b => exact (by decide +kernel : kitB "bool" "bool" = some true)
  | int i => exact (by decide +kernel : kitB "int" "bool" = some false)
  | str z => exact (by decide +kernel : kitB "str" "bool" = some false)
  | list l => exact (by decide +kernel : kitB "list" "bool" = some false)
  | tuple l => exact (by decide +kernel : kitB "tuple" "bool" = some false)
  | dict l => cases h
theorem kitI (h : Dp K H v d) : kitB (tyName d) "int" = some (tyI d) := by
  cases d with
  | none => exact (by decide +kernel : kitB "NoneType" "int" = some false)
  | bool b => exact (by decide +kernel : kitB "bool" "int" = some true)
  | int i => exact (by decide +kernel : kitB "int" "int" = some true)
  | str z => exact (by decide +kernel : kitB "str" "int" = some false)
  | list l => exact (by decide +kernel : kitB "list" "int" = some false)
  | tuple l => exact (by decide +kernel : kitB "tuple" "int" = some false)
  | dict l => cases h
theorem kitS (h : Dp K H v d) : kitB (tyName d) "str" = some (tyS d) := by
  cases d with
  | none => exact (by decide +kernel : kitB "NoneType" "str" = some false)
  | bool b => exact (by decide +kernel : kitB "bool" "str" = some false)
  | int i => exact (by decide +kernel : kitB "int" "str" = some false)
  | str z => exact (by decide +kernel : kitB "str" "str" = some true)
  | list l => exact (by decide +kernel : kitB "list" "str" = some false)
  | tuple l => exact (by decide +kernel : kitB "tuple" "str" = some false)
  | dict l => cases h
end
def isLT (d : PyData) : Bool := tyL d || tyT d
theorem kit_lt {K : PySem.W.Frag} {H : Hp} {v : V} {d : PyData} (s : Dp K H v d) : PySem.W.kitAny K (.type (tyName d)) [.type "list", .type "tuple"] = some (isLT d) := by
  refine kitAny_cons (kit_ty (kitL s)) (fun ea => ?_) (fun ea => by unfold isLT; rw [ea]; rfl)
  refine kitAny_cons (kit_ty (kitT s)) (fun eb => ?_) (fun eb => by unfold isLT; rw [ea, eb]; rfl)
  unfold isLT
  rw [ea, eb]; rfl
/-- what the names of classes and of len, range stand for -/
structure Bts (mg : Str → Option Value) : Prop where
  isinstance : mg "isinstance" = none
  bool : mg "bool" = none
  str : mg "str" = none
  int : mg "int" = none
  list : mg "list" = none
  tuple : mg "tuple" = none
  len : mg "len" = none
  range : mg "range" = none
/-! ### data in the heap, and displays of data -/
theorem Same.seqT {K : PySem.W.Frag} {H H' : Hp} {a : Addr} {xs : List V} (e : Same H H') (h : SqT K H a xs) : SqT K H' a xs := by
  rcases h with h1 | h3
  · rcases h1 with h1 | h2
    · exact .inl (.inl (e _ _ h1))
    · obtain ⟨o, h2⟩ := h2
      exact .inl (.inr ⟨o, e _ _ h2⟩)
  · exact .inr h3
mutual
theorem dp_same {K : PySem.W.Frag} {H H' : Hp} (s : Same H H') : ∀ (d : PyData) (v : V), Dp K H v d → Dp K H' v d
  | .none, _, h => by cases h; exact .non
  | .bool b, _, h => by cases h; exact .bl b
  | .int i, _, h => by cases h; exact .int i
  | .str x, _, h => by cases h; exact .str x
  | .list ds, _, h => by
    cases h with
    | lst h1 h2 => exact .lst (s.seq h1) (dpAll_same s ds _ h2)
  | .tuple ds, _, h => by
    cases h with
    | tup h1 h2 => exact .tup (Same.seqT s h1) (dpAll_same s ds _ h2)
  | .dict kvs, _, h => by cases h
theorem dpAll_same {K : PySem.W.Frag} {H H' : Hp} (s : Same H H') : ∀ (ds : List PyData) (vs : List V), DpAll K H vs ds → DpAll K H' vs ds
  | [], _, h => by cases h; exact .nil
  | d :: ds, _, h => by
    cases h with
    | cons h1 h2 => exact .cons (dp_same s d _ h1) (dpAll_same s ds _ h2)
end
theorem same_new {H : Hp} {p : Addr} {o : HO} (n : H p = none) : Same H (upd H p o) := fun b x e => by
  rw [upd_ne (ne_of_none e n)]; exact e
/-- the heap without some objects -/
def mask (l : List Addr) (H : Hp) : Hp := fun a => if a ∈ l then none else H a
theorem mask_in {l : List Addr} {H : Hp} {a : Addr} (h : a ∈ l) : mask l H a = none := if_pos h
theorem mask_out {l : List Addr} {H : Hp} {a : Addr} (h : a ∉ l) : mask l H a = H a := if_neg h
theorem mask_sub (l : List Addr) (H : Hp) : Same (mask l H) H := fun a o e => by
  by_cases h : a ∈ l
  · rw [mask_in h] at e; cases e
  · rw [mask_out h] at e; exact e
theorem mask_same {l : List Addr} {H H' : Hp} (s : Same H H') : Same (mask l H) (mask l H') := fun a o e => by
  by_cases h : a ∈ l
  · rw [mask_in h] at e; cases e
  · rw [mask_out h] at e ⊢; exact s a o e
theorem mask_nil (H : Hp) : mask [] H = H := rfl
/-- what stands in H is there -/
abbrev Alive (l : List Addr) (H : Hp) : Prop := ∀ a ∈ l, ∃ o, H a = some o
theorem Alive.same {l : List Addr} {H H' : Hp} (h : Alive l H) (s : Same H H') : Alive l H' := fun a m => let ⟨o, e⟩ := h a m; ⟨o, s a o e⟩
theorem Alive.not {l : List Addr} {H : Hp} {p : Addr} (h : Alive l H) (n : H p = none) : p ∉ l := fun m => by
  obtain ⟨o, e⟩ := h p m
  rw [n] at e; cases e
theorem alive_nil {H : Hp} : Alive [] H := fun _ m => nomatch m
theorem mask_upd {l : List Addr} {H : Hp} {p : Addr} {o : HO} (h : p ∉ l) : mask l (upd H p o) p = some o := by
  rw [mask_out h, upd_same]
theorem Keeps.mask {p q : Addr} {H H' : Hp} (k : Keeps p q H H') : Same (mask [p, q] H) (mask [p, q] H') := fun a o e => by
  by_cases h : a ∈ [p, q]
  · rw [mask_in h] at e; cases e
  · rw [mask_out h] at e ⊢
    refine k a o (fun z => h ?_) (fun z => h ?_) e
    · rw [z]; exact List.mem_cons_self
    · rw [z]; exact List.mem_cons_of_mem _ List.mem_cons_self
theorem PoolAt.alive {H : Hp} {p q : Addr} {n : Nat} (h : PoolAt H p q n) : Alive [p, q] H := fun a m => by
  rcases List.mem_cons.mp m with rfl | m
  · exact h.p_some
  · rw [List.mem_singleton.mp m]; exact h.q_some
/-- which data an expression gives; it stays so when objects are added -/
abbrev DS := St → Hp → PyData → Prop
abbrev DSs := St → Hp → List PyData → Prop
def tDat (K : PySem.W.Frag) (D : DS) : TE := fun σ H Q => ∃ (l : List Addr) (d : PyData), Alive l H ∧ D σ (mask l H) d ∧ ∀ v H', Same H H' → Dp K (mask l H') v d → Q v H'
def tDats (K : PySem.W.Frag) (D : DSs) : TA := fun σ H Q => ∃ (l : List Addr) (ds : List PyData), Alive l H ∧ D σ (mask l H) ds ∧ ∀ vs H', Same H H' → DpAll K (mask l H') vs ds → Q vs H'
structure DE (X : Cx) (e : Expr) (D : DS) : Prop where
  pe : PE X e (tDat X.K D)
  mono : ∀ σ H H' d, Same H H' → D σ H d → D σ H' d
structure DA (X : Cx) (es : List Expr) (D : DSs) : Prop where
  pa : PA X es (tDats X.K D)
  mono : ∀ σ H H' ds, Same H H' → D σ H ds → D σ H' ds
def dNil : DSs := fun _ _ ds => ds = []
def dCons (D : DS) (Ds : DSs) : DSs := fun σ H ds => ∃ d r, ds = d :: r ∧ D σ H d ∧ Ds σ H r
def dTup (Ds : DSs) : DS := fun σ H d => ∃ ds, d = .tuple ds ∧ ds.length ≤ 1000 ∧ Ds σ H ds
def dLst (Ds : DSs) : DS := fun σ H d => ∃ ds, d = .list ds ∧ ds.length ≤ 1000 ∧ Ds σ H ds
def dVar (K : PySem.W.Frag) (i : Nat) : DS := fun σ H d => ∃ v, σ[i]? = some (some v) ∧ Dp K H v d
def dIs (d0 : PyData) : DS := fun _ _ d => d = d0
section
variable {X : Cx} {e : Expr} {es : List Expr} {t : TE} {D : DS} {Ds : DSs} {pos : Pos}
theorem de_of (h : PE X e t) (w : ∀ σ H Q, tDat X.K D σ H Q → t σ H Q) (m : ∀ σ H H' d, Same H H' → D σ H d → D σ H' d) : DE X e D :=
  ⟨⟨fun pins s σ H Q I q => h.run pins s σ H Q I (w σ H Q q)⟩, m⟩
theorem de_str {x : Str} {j} : DE X (.Constant (.str x) j pos) (dIs (.str x)) :=
  de_of pe_str (fun _ H _ ⟨_, _, _, e, q⟩ => by cases e; exact q _ H (Same.refl H) (.str x)) fun _ _ _ _ _ h => h
theorem de_int {i : Int} {j} : DE X (.Constant (.int i) j pos) (dIs (.int i)) :=
  de_of pe_int (fun _ H _ ⟨_, _, _, e, q⟩ => by cases e; exact q _ H (Same.refl H) (.int i)) fun _ _ _ _ _ h => h
theorem de_bl {b : Bool} {j} : DE X (.Constant (.bool b) j pos) (dIs (.bool b)) :=
  de_of pe_bl (fun _ H _ ⟨_, _, _, e, q⟩ => by cases e; exact q _ H (Same.refl H) (.bl b)) fun _ _ _ _ _ h => h
theorem de_non {j} : DE X (.Constant .none j pos) (dIs .none) :=
  de_of pe_non (fun _ H _ ⟨_, _, _, e, q⟩ => by cases e; exact q _ H (Same.refl H) .non) fun _ _ _ _ _ h => h
theorem dv (i : Nat) {x : Str} (h : PE X (.Name x pos) (tVar i)) : DE X (.Name x pos) (dVar X.K i) :=
  de_of h (fun _ H _ ⟨_, _, _, ⟨v, e, hd⟩, q⟩ => ⟨v, e, q v H (Same.refl H) hd⟩) fun _ _ _ d s ⟨v, e, hd⟩ => ⟨v, e, dp_same s d v hd⟩
theorem da_nil : DA X [] dNil :=
  ⟨⟨fun pos pins s σ H Q I h => by
    obtain ⟨l, ds, _, e, q⟩ := h
    cases e
    exact pa_nil.run pos pins s σ H Q I (q [] H (Same.refl H) .nil)⟩, fun _ _ _ _ _ h => h⟩
theorem da_cons (h : DE X e D) (r : DA X es Ds) (hs : starEach (e :: es) X.env = (false, eval e X.env) :: starEach es X.env := by rfl) : DA X (e :: es) (dCons D Ds) :=
  ⟨⟨fun pos pins s σ H Q I hq => by
    obtain ⟨l, _, al, ⟨d, ds, rfl, h1, h2⟩, q⟩ := hq
    refine (pa_cons h.pe r.pa hs).run pos pins s σ H Q I ⟨l, d, al, h1, fun v H1 s1 hv => ⟨l, ds, al.same s1, r.mono _ _ _ _ (mask_same s1) h2, fun vs H2 s2 hvs => ?_⟩⟩
    exact q _ H2 (s1.trans s2) (.cons (dp_same (mask_same s2) d v hv) hvs)⟩,
   fun σ H H' ds s ⟨d, r', e, h1, h2⟩ => ⟨d, r', e, h.mono _ _ _ _ s h1, r.mono _ _ _ _ s h2⟩⟩
theorem len1000 {n : Nat} (h : n ≤ 1000) : n ≤ sizeLine := Nat.le_of_lt (small1000 h)
theorem de_tup {k} (h : DA X es Ds) : DE X (.Tuple es k pos) (dTup Ds) :=
  ⟨⟨fun pins s σ H Q I hq => by
    obtain ⟨l, _, al, ⟨ds, rfl, hl, h1⟩, q⟩ := hq
    refine (pe_tup h.pa).run pins s σ H Q I ⟨l, ds, al, h1, fun vs H1 s1 hv => ⟨by rw [dpAll_len hv]; exact len1000 hl, fun p np => ?_⟩⟩
    exact q _ _ (s1.trans (same_new np)) (.tup (SqT.of (mask_upd ((al.same s1).not np))) (dpAll_same (mask_same (same_new np)) _ _ hv))⟩,
   fun σ H H' d s ⟨ds, e, hl, h1⟩ => ⟨ds, e, hl, h.mono _ _ _ _ s h1⟩⟩
theorem de_lst (h : DA X es Ds) : DE X (.List es pos) (dLst Ds) :=
  ⟨⟨fun pins s σ H Q I hq => by
    obtain ⟨l, _, al, ⟨ds, rfl, hl, h1⟩, q⟩ := hq
    refine (pe_lst h.pa).run pins s σ H Q I ⟨l, ds, al, h1, fun vs H1 s1 hv => ⟨by rw [dpAll_len hv]; exact len1000 hl, fun p np => ?_⟩⟩
    exact q _ _ (s1.trans (same_new np)) (.lst (SqL.of (mask_upd ((al.same s1).not np))) (dpAll_same (mask_same (same_new np)) _ _ hv))⟩,
   fun σ H H' d s ⟨ds, e, hl, h1⟩ => ⟨ds, e, hl, h.mono _ _ _ _ s h1⟩⟩
end
theorem mask_new {l : List Addr} {H : Hp} {D : Addr} (n : H D = none) : Same (mask l H) (mask (D :: l) H) := fun a o e => by
  by_cases h : a ∈ D :: l
  · rcases List.mem_cons.mp h with rfl | h
    · have := mask_sub l H _ _ e
      rw [n] at this; cases this
    · rw [mask_in h] at e; cases e
  · rw [mask_out h]
    exact mask_sub l H _ _ e
theorem mask_less {l : List Addr} {H : Hp} {D : Addr} : Same (mask (D :: l) H) (mask l H) := fun a o e => by
  by_cases h : a ∈ D :: l
  · rw [mask_in h] at e; cases e
  · rw [mask_out h] at e
    rw [mask_out fun z => h (List.mem_cons_of_mem _ z)]
    exact e
theorem mask_at {l : List Addr} {H : Hp} {D : Addr} {o : HO} (m : D ∈ l) : Same (mask l H) (mask l (upd H D o)) := fun a u e => by
  by_cases h : a ∈ l
  · rw [mask_in h] at e; cases e
  · rw [mask_out h] at e ⊢
    rw [upd_ne fun z => h (by rw [z]; exact m)]
    exact e
theorem dpAll_app {K : PySem.W.Frag} {H : Hp} : ∀ {vs ws : List V} {ds es : List PyData}, DpAll K H vs ds → DpAll K H ws es → DpAll K H (vs ++ ws) (ds ++ es)
  | _, _, _, _, .nil, h => h
  | _, _, _, _, .cons h t, r => .cons h (dpAll_app t r)
theorem dpAll_drop {K : PySem.W.Frag} {H : Hp} : ∀ (n : Nat) {vs : List V} {ds : List PyData}, DpAll K H vs ds → DpAll K H (vs.drop n) (ds.drop n)
  | 0, _, _, h => h
  | n + 1, _, _, .nil => .nil
  | n + 1, _, _, .cons _ t => dpAll_drop n t
theorem dpAll_take {K : PySem.W.Frag} {H : Hp} : ∀ (n : Nat) {vs : List V} {ds : List PyData}, DpAll K H vs ds → DpAll K H (vs.take n) (ds.take n)
  | 0, _, _, _ => .nil
  | n + 1, _, _, .nil => .nil
  | n + 1, _, _, .cons h t => .cons h (dpAll_take n t)
theorem dpAll_at {K : PySem.W.Frag} {H : Hp} : ∀ {vs : List V} {ds : List PyData} {i : Nat} {v : V}, DpAll K H vs ds → vs[i]? = some v → ∃ d, ds[i]? = some d ∧ Dp K H v d
  | _, _, _, _, .nil, e => by simp at e
  | _, _, 0, _, .cons h _, e => by
    obtain rfl := Option.some.inj e
    exact ⟨_, rfl, h⟩
  | _, _, i + 1, _, .cons _ t, e => dpAll_at (i := i) t e
theorem dp_tup {K : PySem.W.Frag} {H : Hp} {v : V} {ds : List PyData} (h : Dp K H v (.tuple ds)) : ∃ a xs, v = .ref a ∧ SqT K H a xs ∧ DpAll K H xs ds := by
  cases h with
  | tup h1 h2 => exact ⟨_, _, rfl, h1, h2⟩
theorem dp_lst {K : PySem.W.Frag} {H : Hp} {v : V} {ds : List PyData} (h : Dp K H v (.list ds)) : ∃ a xs, v = .ref a ∧ SqL K H a xs ∧ DpAll K H xs ds := by
  cases h with
  | lst h1 h2 => exact ⟨_, _, rfl, h1, h2⟩
theorem dpAll_cons {K : PySem.W.Frag} {H : Hp} {vs : List V} {d : PyData} {ds : List PyData} (h : DpAll K H vs (d :: ds)) : ∃ v r, vs = v :: r ∧ Dp K H v d ∧ DpAll K H r ds := by
  cases h with
  | cons h1 h2 => exact ⟨_, _, rfl, h1, h2⟩
theorem dpAll_nil {K : PySem.W.Frag} {H : Hp} {vs : List V} (h : DpAll K H vs []) : vs = [] := by
  cases h; rfl
theorem dp_str {K : PySem.W.Frag} {H : Hp} {v : V} {x : Str} (h : Dp K H v (.str x)) : v = .str x := by
  cases h; rfl
theorem cut_tail {x : V} {r : List V} : cutV (x :: r) (some 1) none = r := by
  unfold cutV
  rw [show HT.sIx (x :: r).length 0 (some 1) = min 1 (x :: r).length from HT.sIx_nat _ 0 1, HT.sIx_none, List.length_cons, Nat.min_eq_left (by omega)]
  show List.take (r.length + 1 - 1) r = r
  rw [Nat.add_sub_cancel, List.take_length]
theorem cut_drop (xs : List V) (k : Nat) : cutV xs (some (k : Int)) none = xs.drop k := by
  unfold cutV
  rw [HT.sIx_nat, HT.sIx_none]
  by_cases h : k ≤ xs.length
  · rw [Nat.min_eq_left h]
    exact List.take_of_length_le (by rw [List.length_drop]; omega)
  · rw [Nat.min_eq_right (by omega), List.drop_of_length_le (Nat.le_refl _), List.drop_of_length_le (by omega)]; simp
theorem Keeps.maskL {p q : Addr} {l : List Addr} {H H' : Hp} (hp : p ∈ l) (hq : q ∈ l) (k : Keeps p q H H') : Same (Qp.mask l H) (Qp.mask l H') := fun a o e => by
  by_cases h : a ∈ l
  · rw [mask_in h] at e; cases e
  · rw [mask_out h] at e ⊢
    exact k a o (fun z => h (by rw [z]; exact hp)) (fun z => h (by rw [z]; exact hq)) e
theorem Keeps.alive {p q : Addr} {n : Nat} {l : List Addr} {H H' : Hp} (al : Alive l H) (k : Keeps p q H H') (P : PoolAt H' p q n) : Alive l H' := fun a m => by
  obtain ⟨o, e⟩ := al a m
  by_cases h1 : a = p
  · rw [h1]; exact P.p_some
  · by_cases h2 : a = q
    · rw [h2]; exact P.q_some
    · exact ⟨o, k a o h1 h2 e⟩
theorem ite_ne_self {p : Bool} {A B : Prop} (h : B) : if (!decide (V.bl p = V.bl p)) = true then A else B := by
  rw [decide_eq_true rfl]
  exact iteF h
theorem data_same (K : PySem.W.Frag) {H H' : Hp} (s : Same H H') {v : V} {d : PyData} (h : Dp K H v d) : Dp K H' v d := dp_same s d v h
def spSame (K : PySem.W.Frag) (m : Nat) : Sp := fun vs H Q _ => ∃ (v u : V) (d : PyData), vs = [v, u] ∧ Dp K H v d ∧ Dp K H u d ∧ dp m d ∧ ∀ H', Same H H' → Q (.bl true) H'
section
variable {P : Program} {w : World} {K : PySem.W.Frag} {mg : Str → Option Value} {base : Heap}
theorem fn_never {f : Addr} {fd : FuncData} {ps : List Str} : FnOk P w K mg base CX0 0 f fd ps (fun _ _ _ _ => False) :=
  ⟨fun _ _ _ _ h => h.elim, fun _ _ _ _ _ _ _ _ _ _ _ _ _ h => h.elim⟩
theorem scS : FnScope ["actual", "due", "k"] ["actual", "due"] (defScope sSame) := ⟨rfl, rfl, rfl, by decide +kernel, rfl, by decide +kernel, by decide +kernel⟩
theorem ok_same {f : Addr} {fd : FuncData} (F : Fun K "_law_same" "_law_same" sSame f fd) (B : Bts mg) (mS : mg "_law_same" = some (.ref f)) (bS : Binds K fd ["actual", "due"] []) : ∀ m : Nat, FnOk P w K mg base CX0 m f fd ["actual", "due"] (spSame K m)
  | 0 => fn_never.imp fun vs H Q E h => by
    obtain ⟨v, u, d, _, _, _, h, _⟩ := h
    simp [dp] at h
  | m + 1 => by
    have GS := ok_same F B mS bS m
    have kS := F.kp
    refine F.ok scS (fun vs H Q E h => ?_) (fun cdv A outer s H vs Q E hr h => ?_)
    · obtain ⟨v, u, d, rfl, _⟩ := h
      rfl
    · obtain ⟨v, u, d, rfl, hv, hu, hd, kk⟩ := h
      have hrS := hr
      refine ⟨_, pss_cons (ps_if (pt_val (pe_callB call_isiT (by rfl) B.isinstance (by decide +kernel) (pa_cons (pv 1) (pa_cons (pe_tup (pa_cons (pe_bltn (v := .ty "list") (by rfl) B.list (by decide +kernel) rfl) (pa_cons (pe_bltn (v := .ty "tuple") (by rfl) B.tuple (by decide +kernel) rfl) pa_nil))) pa_nil))))
          (pss_cons (ps_if (pt_cmpR op_ne (pe_callB call_isi (by rfl) B.isinstance (by decide +kernel) (pa_cons (pv 0) (pa_cons (pe_bltn (v := .ty "list") (by rfl) B.list (by decide +kernel) rfl) pa_nil))) (pe_callB call_isi (by rfl) B.isinstance (by decide +kernel) (pa_cons (pv 1) (pa_cons (pe_bltn (v := .ty "list") (by rfl) B.list (by decide +kernel) rfl) pa_nil))) (nomark _))
              (pss_one (ps_ret pe_bl))
              pss_nil)
            (pss_cons (ps_if (PW.pt (pw_or (pt_not (pt_val (pe_callB call_isiT (by rfl) B.isinstance (by decide +kernel) (pa_cons (pv 0) (pa_cons (pe_tup (pa_cons (pe_bltn (v := .ty "list") (by rfl) B.list (by decide +kernel) rfl) (pa_cons (pe_bltn (v := .ty "tuple") (by rfl) B.tuple (by decide +kernel) rfl) pa_nil))) pa_nil))))) (pw_or1 (pt_cmpR op_ne (pe_callB call_len_seq (by rfl) B.len PySem.boot_len (pa_cons (pv 0) pa_nil)) (pe_callB call_len_seq (by rfl) B.len PySem.boot_len (pa_cons (pv 1) pa_nil)) (nomark _)))))
              (pss_one (ps_ret pe_bl))
              pss_nil)
            (pss_one (ps_ret (pe_cmpR (op_eqD hr.units) (pe_lc (own := [("k", 2)]) (g := gName 2) rfl scS.nd (pi_range1 (by rfl) B.range (pa_cons (pe_callB call_len_seq (by rfl) B.len PySem.boot_len (pa_cons (pv 1) pa_nil)) pa_nil)) (blkOk_by (N := ["actual", "due", "k"]) (sc := defScope sSame) (by decide +kernel)) (fun _ _ _ _ _ => (pg_name (i := 2) scS.nd rfl (.inl rfl))) (fun _ _ _ _ _ => pts_one (pt_not (pt_val (pe_call GS hrS (by rfl) mS kS bS .nil pass0 (pa_cons (pe_ix (ixK (K := K) (r := rIx) ix_seq) (pv 0) (pv 2) (fun _ _ => rfl)) (pa_cons (pe_ix (ixK (K := K) (r := rIx) ix_seq) (pv 1) (pv 2) (fun _ _ => rfl)) pa_nil)))))) (fun _ _ _ _ _ => (pv 2))) (pe_lst pa_nil) (nomark _))))))
          pss_nil)
        (pss_cons (ps_if (PW.pt (pw_or (pt_cmpR op_isN (pv 1) pe_non (nomark _)) (pw_or1 (pt_cmpR op_isN (pv 0) pe_non (nomark _)))))
          (pss_one (ps_ret (pe_and (pe_cmpR op_isN (pv 1) pe_non (nomark _)) (pe_one (pe_cmpR op_isN (pv 0) pe_non (nomark _))))))
          pss_nil)
        (pss_cons (ps_if (pt_cmpR op_ne (pe_callB call_isi (by rfl) B.isinstance (by decide +kernel) (pa_cons (pv 0) (pa_cons (pe_bltn (v := .ty "bool") (by rfl) B.bool (by decide +kernel) rfl) pa_nil))) (pe_callB call_isi (by rfl) B.isinstance (by decide +kernel) (pa_cons (pv 1) (pa_cons (pe_bltn (v := .ty "bool") (by rfl) B.bool (by decide +kernel) rfl) pa_nil))) (nomark _))
          (pss_one (ps_ret pe_bl))
          pss_nil)
        (pss_cons (ps_if (pt_cmpR op_ne (pe_callB call_isi (by rfl) B.isinstance (by decide +kernel) (pa_cons (pv 0) (pa_cons (pe_bltn (v := .ty "int") (by rfl) B.int (by decide +kernel) rfl) pa_nil))) (pe_callB call_isi (by rfl) B.isinstance (by decide +kernel) (pa_cons (pv 1) (pa_cons (pe_bltn (v := .ty "int") (by rfl) B.int (by decide +kernel) rfl) pa_nil))) (nomark _))
          (pss_one (ps_ret pe_bl))
          pss_nil)
        (pss_cons (ps_if (PW.pt (pw_or (pt_val (pe_callB call_isiT (by rfl) B.isinstance (by decide +kernel) (pa_cons (pv 0) (pa_cons (pe_tup (pa_cons (pe_bltn (v := .ty "list") (by rfl) B.list (by decide +kernel) rfl) (pa_cons (pe_bltn (v := .ty "tuple") (by rfl) B.tuple (by decide +kernel) rfl) pa_nil))) pa_nil)))) (pw_or1 (pt_cmpR op_ne (pe_callB call_isi (by rfl) B.isinstance (by decide +kernel) (pa_cons (pv 0) (pa_cons (pe_bltn (v := .ty "str") (by rfl) B.str (by decide +kernel) rfl) pa_nil))) (pe_callB call_isi (by rfl) B.isinstance (by decide +kernel) (pa_cons (pv 1) (pa_cons (pe_bltn (v := .ty "str") (by rfl) B.str (by decide +kernel) rfl) pa_nil))) (nomark _)))))
          (pss_one (ps_ret pe_bl))
          pss_nil)
        (pss_one (ps_ret (pe_cmpR op_eq (pv 0) (pv 1) (nomark _)))))))), ?_⟩
      refine ⟨_, rfl, by show 2 ≤ sizeLine; decide, fun t nt => ?_⟩
      have s1 := same_new (o := .tup [.ty "list", .ty "tuple"]) nt
      have hv1 := dp_same s1 _ _ hv
      have hu1 := dp_same s1 _ _ hu
      refine ⟨_, t, _, _, _, _, rfl, upd_same, .cons (ClsV.ty _) (.cons (ClsV.ty _) .nil), ty_of hu1, kit_lt hu1, _, rfl, ?_⟩
      have kk1 : ∀ H', Same (upd H t (.tup [.ty "list", .ty "tuple"])) H' → Q (.bl true) H' := fun H' s => kk H' (s1.trans s)
      generalize upd H t (.tup [.ty "list", .ty "tuple"]) = H1 at *
      clear kk s1 nt
      cases he : isLT d with
      | true =>
        refine iteT ?_
        obtain ⟨b, ds, hb, hsm, hdl, ⟨a2, xs2, rfl, hs2, ha2⟩, ⟨a1, xs1, rfl, hs1, ha1⟩⟩ : ∃ (b : Bool) (ds : List PyData), kitB (tyName d) "list" = some b ∧ (ds.length ≤ 1000000) ∧ (∀ x ∈ ds, dp m x) ∧ (∃ a xs, u = .ref a ∧ (∀ {H2}, Same H1 H2 → SqL K H2 a xs ∨ SqT K H2 a xs) ∧ DpAll K H1 xs ds) ∧ (∃ a xs, v = .ref a ∧ (∀ {H2}, Same H1 H2 → SqL K H2 a xs ∨ SqT K H2 a xs) ∧ DpAll K H1 xs ds) := by
          cases d with
          | list ds =>
            simp only [dp] at hd
            cases hu1 with
            | lst h1 h2 =>
              cases hv1 with
              | lst h3 h4 => exact ⟨true, ds, (by decide +kernel : kitB "list" "list" = some true), hd.1, hd.2, ⟨_, _, rfl, fun s => .inl (s.seq h1), h2⟩, ⟨_, _, rfl, fun s => .inl (s.seq h3), h4⟩⟩
          | tuple ds =>
            simp only [dp] at hd
            cases hu1 with
            | tup h1 h2 =>
              cases hv1 with
              | tup h3 h4 => exact ⟨false, ds, (by decide +kernel : kitB "tuple" "list" = some false), hd.1, hd.2, ⟨_, _, rfl, fun s => .inr (Same.seqT s h1), h2⟩, ⟨_, _, rfl, fun s => .inr (Same.seqT s h3), h4⟩⟩
          | _ => cases he
        have e1 := dpAll_len ha1
        have e2 := dpAll_len ha2
        refine ⟨_, rfl, _, _, _, _, b, rfl, .ty _, ty_of hv1, kit_ty hb, _, rfl, _, _, _, _, b, rfl, .ty _, ty_of hu1, kit_ty hb, rfl, _, rfl, ite_ne_self ?_⟩
        refine ⟨_, rfl, by show 2 ≤ sizeLine; decide, fun t nt => ?_⟩
        have s1 := same_new (o := .tup [.ty "list", .ty "tuple"]) nt
        refine ⟨_, t, _, _, _, _, rfl, upd_same, .cons (ClsV.ty _) (.cons (ClsV.ty _) .nil), ty_of (dp_same s1 _ _ hv1), kit_lt (dp_same s1 _ _ hv1), _, rfl, ?_⟩
        rw [he]
        refine iteF ⟨_, rfl, a1, xs1, rfl, hs1 s1, _, rfl, a2, xs2, rfl, hs2 s1, rfl, _, rfl, iteNS (by rw [e1, e2]) ?_⟩
        have hz2 : (xs2.length : Int) < 2 ^ 62 := by omega
        refine ⟨_, rfl, a2, xs2, rfl, hs2 s1, _, rfl, (by omega), hz2, fun D nD => ?_⟩
        have s2 := s1.trans (same_new (o := .lst []) nD)
        refine lc_range (lo := 0) (n := (xs2.length : Int).toNat) (fun i H2 => H2 D = some (.lst []) ∧ Same H1 H2) ⟨upd_same, s2⟩ ?_ ?_
        · rintro i H2 hi ⟨eD, s3⟩
          have hi2 : i < ds.length := by omega
          obtain ⟨x1, g1, d1⟩ := dpAll_get ha1 (List.getElem?_eq_getElem hi2)
          obtain ⟨x2, g2, d2⟩ := dpAll_get ha2 (List.getElem?_eq_getElem hi2)
          have ei : (0 : Int) + (i : Int) = ((i : Nat) : Int) := by omega
          rw [ei]
          have ix : ∀ {a : Addr} {xs : List V} {x : V} {Q : VK}, (SqL K H2 a xs ∨ SqT K H2 a xs) → xs[i]? = some x → Q x H2 → rIx K (.ref a) (.int (i : Nat)) H2 Q := fun {a xs x Q} hs e q => by
            rcases hs with hs | hs
            · exact .inl ⟨_, _, _, _, rfl, rfl, hs, atI_nat e, q⟩
            · exact .inr (.inl ⟨_, _, _, _, rfl, rfl, hs, atI_nat e, q⟩)
          refine ⟨rfl, _, rfl, _, rfl, ix (hs1 s3) g1 ⟨_, rfl, _, rfl, ix (hs2 s3) g2 ?_⟩⟩
          refine ⟨x1, x2, _, rfl, dp_same s3 _ _ d1, dp_same s3 _ _ d2, hdl _ (List.getElem_mem hi2), fun H3 s4 => ⟨_, rfl, iteF ⟨?_, s3.trans s4⟩⟩⟩
          exact s4 _ _ eD
        · rintro H2 ⟨eD, s3⟩
          refine ⟨by show 0 ≤ sizeLine; decide, fun p np => ?_⟩
          refine ⟨.list [], .list [], .lst (SqL.of (same_new np _ _ eD)) .nil, .lst (SqL.of upd_same) .nil, rfl, rfl, ?_⟩
          exact kk1 _ (s3.trans (same_new np))
      | false =>
        refine iteF ?_
        have two : ∀ {x y : V} {H : Hp}, Dp K H x d → Dp K H y d → x = y := fun {x y H} hx hy => by
          cases d with
          | none => cases hx; cases hy; rfl
          | bool b => cases hx; cases hy; rfl
          | int i => cases hx; cases hy; rfl
          | str z => cases hx; cases hy; rfl
          | dict l => cases hx
          | _ => cases he
        obtain rfl := two hu1 hv1
        have e0 : ∀ {x : V} {H : Hp}, Dp K H x d → d ≠ .none → decide (x = V.non) = false := fun {x H} hx hn => by
          cases hx with
          | non => exact absurd rfl hn
          | _ => rfl
        by_cases hnn : d = .none
        · subst hnn
          cases hv1
          refine ⟨_, rfl, rfl, _, rfl, iteT ⟨_, rfl, rfl, _, rfl, iteT ⟨_, rfl, rfl, kk1 H1 (Same.refl _)⟩⟩⟩
        refine ⟨_, rfl, rfl, _, rfl, ?_⟩
        rw [e0 hv1 hnn]
        refine iteF ⟨_, rfl, rfl, _, rfl, ?_⟩
        rw [e0 hv1 hnn]
        refine iteF ⟨_, rfl, _, _, _, _, _, rfl, .ty _, ty_of hv1, kit_ty (kitBo hv1), _, rfl, _, _, _, _, _, rfl, .ty _, ty_of hv1, kit_ty (kitBo hv1), rfl, _, rfl, ite_ne_self ?_⟩
        refine ⟨_, rfl, _, _, _, _, _, rfl, .ty _, ty_of hv1, kit_ty (kitI hv1), _, rfl, _, _, _, _, _, rfl, .ty _, ty_of hv1, kit_ty (kitI hv1), rfl, _, rfl, ite_ne_self ?_⟩
        refine ⟨_, rfl, by show 2 ≤ sizeLine; decide, fun t nt => ?_⟩
        have s1 := same_new (o := .tup [.ty "list", .ty "tuple"]) nt
        have hv2 := dp_same s1 _ _ hv1
        refine ⟨_, t, _, _, _, _, rfl, upd_same, .cons (ClsV.ty _) (.cons (ClsV.ty _) .nil), ty_of hv2, kit_lt hv2, _, rfl, ?_⟩
        rw [he]
        refine iteF ⟨_, rfl, _, _, _, _, _, rfl, .ty _, ty_of hv2, kit_ty (kitS hv2), _, rfl, _, _, _, _, _, rfl, .ty _, ty_of hv2, kit_ty (kitS hv2), rfl, _, rfl, ite_ne_self ?_⟩
        refine ⟨_, rfl, _, rfl, ?_⟩
        cases d with
        | none => exact absurd rfl hnn
        | dict l => cases hv
        | list l => cases he
        | tuple l => cases he
        | bool b =>
          cases hv1
          refine ⟨rfl, ?_⟩
          rw [decide_eq_true rfl]
          exact kk1 _ s1
        | int b =>
          cases hv1
          refine ⟨rfl, ?_⟩
          rw [decide_eq_true rfl]
          exact kk1 _ s1
        | str b =>
          cases hv1
          refine ⟨rfl, ?_⟩
          rw [decide_eq_true rfl]
          exact kk1 _ s1
end
/-! ### C(*xs, k = v) -/
section
open PySem PySem.W PySem.Calls PyProof.Rows
theorem args_star_kw {M : Model} {A : Around} {E : Value → Shared → Prop} {s : Shared} {f : Value} {x : Sem Value} {kws : List (Option Str × Sem Value)} {Q : Args → Shared → Prop} (hall : kws.all (·.1.isSome) = true)
    (h : wpAny M A x (fun v s₁ => wpAny M A (evalAll (kws.map (·.2))) (fun us s₂ => StarOf M A E v (fun vs s₃ => Q ⟨vs, (kws.filterMap (·.1)).zip us⟩ s₃) s₂) E s₁) E s) : wpAny M A (evalArgs f true [(true, x)] kws) Q E s := by
  unfold evalArgs
  refine wpAny_bind (wpAny_mono h (fun v s₁ h₁ => wpAny_bind (wpAny_pure ?_)) fun _ _ z => z)
  refine wpAny_holding ?_
  simp only [hall, if_true]
  refine wpAny_bind (wpAny_mono h₁ (fun us s₂ h₂ => ?_) fun _ _ z => z)
  unfold StarOf at h₂
  refine wpAny_bind (wpAny_bind (wpAny_mono h₂ (fun b s₃ h₃ => ?_) fun _ _ z => z))
  obtain ⟨rfl, h₃⟩ := h₃
  simp only [Bool.false_eq_true, if_false]
  exact wpAny_holding (wpAny_mono h₃ (fun vs s₄ h₄ => wpAny_pure h₄) fun _ _ z => z)
theorem with_star_kw {M : Model} {A : Around} {E : Value → Shared → Prop} {s : Shared} {K : Frag} {f : Value} {x : Sem Value} {pos : Pos} {kws : List (Option Str × Sem Value)} {Q : Value → Shared → Prop} (hk : keepIn K f = true) (hall : kws.all (·.1.isSome) = true)
    (h : wpAny M A x (fun v s₁ => wpAny M A (evalAll (kws.map (·.2))) (fun us s₂ => StarOf M A E v (fun vs s₃ => K.In s₃.heap ∧ wpAny M A (call f vs ((kws.filterMap (·.1)).zip us)) Q E s₃) s₂) E s₁) E s) : wpAny M A (callWith pos f [] [(true, x)] kws) Q E s := by
  unfold callWith
  have g := args_star_kw (f := f) (Q := fun a s₁ => K.In s₁.heap ∧ wpAny M A (call f a.pos a.kw) Q E s₁) hall h
  refine wpAny_bind (wpAny_holding (wpAny_mono g (fun a s₁ h₁ => wpAny_bind (wpAny_standAt ?_)) fun _ _ z => z))
  obtain ⟨k, hk', L⟩ := keeps_K hk _ h₁.1
  simp only [List.any_cons, Bool.true_or]
  refine wpAny_bind (L.here ?_)
  have fin : ∀ {t : Sem Value}, wpAny M A t Q E s₁ → wpAny M A (t >>= fun r => holding [r] point >>= fun _ => pure r) Q E s₁ :=
    fun ht => wpAny_bind (wpAny_mono ht (fun r s₂ hr => wpAny_bind (wpAny_holding (wpAny_point (wpAny_pure hr)))) fun _ _ z => z)
  have mk : ∀ m : Value, wpAny M A (callMarked m f ([] ++ a.pos) a.kw) Q E s₁ := fun m => by unfold callMarked; exact Calls.wpAny_keep h₁.2
  rcases hk' with rfl | rfl | rfl <;> dsimp only <;> first | exact fin (mk _) | exact fin (wpAny_operating h₁.2)
end
/-- a def by its keywords' values, too -/
def FnKw (P : Program) (w : World) (K : PySem.W.Frag) (mg : Str → Option Value) (base : Heap) (CX : CXT) (k : Nat) (f : Addr) (ks : List Str) (sp : List V → Sp) : Prop :=
  ∀ (A : Around) (outer : List Env) (s : Shared) (H : Hp) (us ws : List Value) (vs zs : List V) (Q : VK) (E : XK), Room k A → Env0 P w K mg base A outer s H → Vals vs us → Vals zs ws → sp zs vs H Q E →
    codeAny (model P w) A (.call (.ref f) ⟨us, ks.zip ws⟩) (CR CX outer P w H s Q E) s
def tMakeS1 (C : Addr) (n : Nat) (sp : List V → Sp) (K : PySem.W.Frag) (E : XK) (te : TE) (tk : TA) : TE := fun σ H Q => te σ H fun x H1 => tk σ H1 fun zs H2 => zs.length = n ∧ ∃ p xs, x = V.ref p ∧ (SqT K H2 p xs ∨ SqL K H2 p xs) ∧ ∀ x dx, H2 x = none → H2 dx = none → dx ≠ x →
  sp zs (V.ref x :: xs) (upd (upd H2 dx (.own x)) x (.ins C dx [])) (fun v H3 => v = .non ∧ Q (.ref x) H3) E
def tMakeR0 (C : Addr) (sp : Sp) (E : XK) : TE := fun _ H Q => ∀ x dx, H x = none → H dx = none → dx ≠ x → sp [V.ref x] (upd (upd H dx (.own x)) x (.ins C dx [])) (fun v H2 => v = .non ∧ Q (.ref x) H2) E
section
open PySem.Spec PyProof.Rows
variable {X : Cx} {CX : CXT} {k : Nat} {f C : Addr} {ks : List Str} {E : XK} {x : Str} {p pos ep : Pos} {e : Expr} {kws : List Keyword} {te : TE} {tk : TA}
theorem run_makeKW {sp : List V → Sp} {pins : List (Addr × Obj)} {σ : L2.St} {H : Hp} {s : Shared} {Q : VK} {us ws : List Value} {vs zs : List V} (M : Mk X.K C f) (F : FnKw X.prog X.w X.K X.mg X.base CX k f ks sp) (hr : Room (k + 1) X.A) (hx : Passes CX X E) (I : Inv X pins σ H s) (r : Vals vs us) (rz : Vals zs ws)
    (h : ∀ x dx, H x = none → H dx = none → dx ≠ x → sp zs (V.ref x :: vs) (upd (upd H dx (.own x)) x (.ins C dx [])) (fun v H2 => v = .non ∧ Q (.ref x) H2) E) : wpAny (model X.prog X.w) X.A (call (.ref C) us (ks.zip ws)) (EP X pins σ Q) X.xe s := by
  have q := h _ _ (I.hok.fresh (Nat.le_succ s.heap.objs.size)) (I.hok.fresh (Nat.le_refl s.heap.objs.size)) (Nat.ne_of_lt (Nat.lt_succ_self _))
  have I2 := Inv.made (C := C) I
  have r2 : Vals (V.ref (s.heap.objs.size + 1) :: vs) (Value.ref (s.heap.objs.size + 1) :: us) := .cons rfl r
  have run := F _ X.stack _ _ (Value.ref (s.heap.objs.size + 1) :: us) ws _ _ _ _ (hr.make C us (ks.zip ws)) (I2.env0.make C us (ks.zip ws)) r2 rz q
  refine wpAny_call (make_map (f := f) I.kIn M.makes M.init (beq_iff_eq.mp M.fn) (codeAny_mono run fun z s' hz => ?_))
  rcases z with er | fl
  · exact hx pins σ _ _ er s' I2 hz
  · rcases fl with _ | _ | _ | u
    · exact hz.elim
    · exact hz.elim
    · exact hz.elim
    · obtain ⟨v, H', I3, rv, ev, q3⟩ := I2.after hz
      subst ev
      exact ⟨rv, ⟨V.ref (s.heap.objs.size + 1), H', I3, rfl, q3⟩⟩
/-- C(*xs, k = v) -/
theorem pe_makeS1 {sp : List V → Sp} (M : Mk X.K C f) (F : FnKw X.prog X.w X.K X.mg X.base CX k f ks sp) (hr : Room (k + 1) X.A) (hg : Gl X x) (hm : X.mg x = some (.ref C)) (hx : Passes CX X E) (he : PE X e te) (hkw : PK X kws tk)
    (hst : starEach [.Starred e ep] X.env = [(true, eval e X.env)] := by rfl) (hall : (backToKw pos (keywordEach kws X.env)).all (·.1.isSome) = true := by rfl) (hks : (backToKw pos (keywordEach kws X.env)).filterMap (·.1) = ks := by rfl)
    (hdb : (x == ("__debug__" : Str)) = false := by decide) : PE X (.Call (.Name x p) [.Starred e ep] kws pos) (tMakeS1 C ks.length sp X.K E te tk) := by
  refine ⟨fun pins s σ H Q I h => ?_⟩
  refine wpAny_Call_Name_kw (ld_glob I hg hm ?_ hdb)
  rw [hst]
  refine with_star_kw M.kp hall (wpAny_bind (wpAny_mono (he.run pins s σ H _ I h) (fun v s1 hh => wpAny_bind (wpAny_standAt (wpAny_pure ?_))) fun _ _ z => z))
  obtain ⟨y, H1, I1, ry, q1⟩ := hh
  refine thn (hkw.run pos pins s1 σ H1 _ I1 q1) fun ws s2 hh2 => ?_
  obtain ⟨zs, H2, I2, rz, lz, a, xs, rfl, hxs, q2⟩ := hh2
  cases (show v = Value.ref a from ry)
  refine StX.star_any I2 hxs fun us s3 I3 rv => ⟨I3.kIn, ?_⟩
  rw [hks]
  exact run_makeKW M F hr hx I3 rv rz q2
/-- C() -/
theorem pe_makeR0 {sp : Sp} (M : Mk X.K C f) (F : FnR X.prog X.w X.K X.mg X.base CX k f sp) (hr : Room (k + 1) X.A) (hg : Gl X x) (hm : X.mg x = some (.ref C)) (hx : Passes CX X E) (hdb : (x == ("__debug__" : Str)) = false := by decide) : PE X (.Call (.Name x p) [] [] pos) (tMakeR0 C sp E) := by
  refine ⟨fun pins s σ H Q I h => ?_⟩
  refine wpAny_Call_Name_kw (ld_glob I hg hm ?_ hdb)
  exact PySem.W.callWith_K0 I.kIn M.kp (StX.run_makeR (us := []) (vs := []) M F hr hx I .nil h)
end
/-! ### def f(a, *v, k = d) -/
section
open PySem.Spec PyProof.Rows StX
variable {CX : CXT} {P : Program} {w : World} {K : PySem.W.Frag} {mg : Str → Option Value} {base : Heap} {k : Nat} {f : Addr} {name qual : Str} {params : Arguments} {body : List Stmt} {scope : Scope} {dV kV doc pm cdv ct oc : Value} {an od : Option Addr}
  {osl : Array (Option Value)} {N : List Str} {p1 pk pv : Str} {sp : Sp}
/-- what stands behind the binding: a new tuple -/
theorem bnd_tup {A : Around} {outer : List Env} {s : Shared} {H : Hp} {args : Args} {E : XK} {fd : FuncData} {ps : List Str} {ws rest : List V} {u1 u2 : List Value} (hCX : CXUp CX) (e0 : Env0 P w K mg base A outer s H) (r1 : Vals ws u1) (r2 : Vals rest u2) (hz : rest.length ≤ sizeLine)
    (hl : ws.length + 1 = ps.length) (hb : ∀ (A' : Around) (Ex : Value → Shared → Prop) (Q : List (Str × Value) → Shared → Prop), wpAny (model P w) A' (newTuple u2 >>= fun t => pure (ps.zip (u1 ++ [t]))) Q Ex s → wpAny (model P w) A' (bindArgs fd args) Q Ex s) :
    Bnd CX P w K mg base fd args ps A outer s H E (fun xs H2 => ∃ p, H p = none ∧ xs = ws ++ [V.ref p] ∧ H2 = upd H p (.tup rest)) := fun A' Ex Q' h => by
  have hn : H s.heap.objs.size = none := e0.hok.fresh (Nat.le_refl _)
  have hl2 : u2.length ≤ sizeLine := by rw [← r2.length]; exact hz
  refine hb A' Ex Q' (wpAny_bind (wpAny_newTuple (wpAny_pure ?_) hl2))
  have new : ObjOk P w (upd H s.heap.objs.size (.tup rest)) (s.heap.push ({ cls := .type "tuple", data := .seq u2.toArray } : Obj)) s.heap.objs.size (.tup rest) := ⟨hz, u2, r2, ⟨_, Heap.get?_push_size _ rfl, rfl, _, rfl⟩⟩
  have un := un_laid (fs := frs outer) (s := s) (o := ({ cls := .type "tuple", data := .seq u2.toArray } : Obj)) (u := .tup rest) hn
  exact h _ _ (ws ++ [V.ref s.heap.objs.size]) (u1 ++ [Value.ref s.heap.objs.size]) (env0_laid e0 new) un rfl (fun e s' => hCX outer s H _ _ E e s' un (fun b o q => Heap.get?_push_of_some _ q) rfl) (r1.append (.cons rfl .nil)) (by rw [List.length_append]; exact hl) ⟨_, hn, rfl, rfl⟩
/-- with the keyword -/
theorem fn_starK (lk : K.lookup f = some ⟨oc, od, .func (PySem.W.fnOf name qual params body scope dV kV doc pm an cdv ct), osl⟩) (hcd : PySem.W.codeIn K cdv qual = true) (S : FnScope N [p1, pk, pv] scope) (hCX : CXUp CX)
    (hb : ∀ (a d : Value) (rest : List Value), bindArgs (PySem.W.fnOf name qual params body scope dV kV doc pm an cdv ct) ⟨a :: rest, [(pk, d)]⟩ = (newTuple rest >>= fun t => pure [(p1, a), (pk, d), (pv, t)]))
    (hbody : ∀ (A : Around) (outer : List Env) (s : Shared) (H : Hp) (vs : List V) (Q : VK) (E : XK), Room k (A.deeper (envOfC qual scope s.heap.objs.size f cdv)) → sp vs H Q E →
      ∃ t, PSs (cxOf CX P w K mg base N qual scope f cdv A outer s H E) body t ∧ t { nx := fun _ H' => Q .non H', rt := Q } (start N vs) H) :
    FnKw P w K mg base CX (k + 1) f [pk] (fun zs vs H Q E => ∃ a d rest, zs = [d] ∧ vs = a :: rest ∧ rest.length ≤ sizeLine ∧ ∀ p, H p = none → sp [a, d, V.ref p] (upd H p (.tup rest)) Q E) := by
  intro A outer s H us ws vs zs Q E hr e0 r rz hsp
  obtain ⟨a, d, rest, rfl, rfl, hz, hq⟩ := hsp
  rcases r with _ | ⟨ra, r⟩
  rcases rz with _ | ⟨rd, rn⟩
  cases rn
  refine run_bnd lk hcd S hr e0 (bnd_tup (ws := [a, d]) (u1 := [_, _]) hCX e0 (.cons ra (.cons rd .nil)) r hz rfl fun A' Ex Q' h => ?_) fun s2 H2 xs ⟨p, hp, ex, eH⟩ hr' => ?_
  · show wpAny _ _ (bindArgs _ ⟨_ :: _, [(pk, _)]⟩) _ _ _
    rw [hb]
    exact h
  · subst ex eH
    exact hbody A outer s2 _ _ Q E hr' (hq p hp)
/-- without it: its default stands in the dict D -/
theorem fn_starD {D : Addr} {dv : V} {du : Value} (lk : K.lookup f = some ⟨oc, od, .func (PySem.W.fnOf name qual params body scope dV (.ref D) doc pm an cdv ct), osl⟩) (hcd : PySem.W.codeIn K cdv qual = true) (S : FnScope N [p1, pk, pv] scope) (hCX : CXUp CX)
    (hd : PySem.W.nsIn K D pk = some (some du)) (rd : RelV dv du)
    (hb : ∀ (a : Value) (rest : List Value), ∃ (β γ : Type) (k1 : Option Value → Sem β) (k2 : β → Sem γ) (k3 : γ → Sem (List (Str × Value))) (b : β), bindArgs (PySem.W.fnOf name qual params body scope dV (.ref D) doc pm an cdv ct) ⟨a :: rest, []⟩ = ((nsGet D pk >>= k1) >>= k2) >>= k3 ∧ k1 (some du) = pure b ∧ (k2 b >>= k3) = (newTuple rest >>= fun t => pure [(p1, a), (pk, du), (pv, t)]))
    (hbody : ∀ (A : Around) (outer : List Env) (s : Shared) (H : Hp) (vs : List V) (Q : VK) (E : XK), Room k (A.deeper (envOfC qual scope s.heap.objs.size f cdv)) → sp vs H Q E →
      ∃ t, PSs (cxOf CX P w K mg base N qual scope f cdv A outer s H E) body t ∧ t { nx := fun _ H' => Q .non H', rt := Q } (start N vs) H) :
    FnR P w K mg base CX (k + 1) f (fun vs H Q E => ∃ a rest, vs = a :: rest ∧ rest.length ≤ sizeLine ∧ ∀ p, H p = none → sp [a, dv, V.ref p] (upd H p (.tup rest)) Q E) := by
  intro A outer s H us vs Q E hr e0 r hsp
  obtain ⟨a, rest, rfl, hz, hq⟩ := hsp
  rcases r with _ | ⟨ra, r⟩
  refine run_bnd lk hcd S hr e0 (bnd_tup (ws := [a, dv]) (u1 := [_, du]) hCX e0 (.cons ra (.cons rd .nil)) r hz rfl fun A' Ex Q' h => ?_) fun s2 H2 xs ⟨p, hp, ex, eH⟩ hr' => ?_
  · obtain ⟨β, γ, k1, k2, k3, b, e1, e2, e3⟩ := hb _ _
    rw [e1, bind_assoc]
    have KX : K.In s.heap := e0.mod.kin.keeps fun b o e => (e0.bs b o e).1
    have L : PySem.W.Looks (model P w) s.heap (nsGet D pk >>= k1) b := (PySem.W.looks_nsIn KX hd).andThen (PySem.W.Looks.of_pure e2)
    refine wpAny_bind (L.here ?_)
    show wpAny _ _ (k2 b >>= k3) _ _ _
    rw [e3]
    exact h
  · subst ex eH
    exact hbody A outer s2 _ _ Q E hr' (hq p hp)
end
/-! ### bool(x) by the own __len__; own x[i] = v, x |= y -/
section
open PySem PySem.W PySem.Calls PyProof.Rows
theorem truthy_lenK {prog : Program} {w : World} {A : Around} {E : Value → Shared → Prop} {s : Shared} {K : Frag} {h₀ : Heap} {x C L f : Addr} {ox : Obj} {od : Option Obj} {m : Str → Option Value} {Q : Bool → Shared → Prop} (F : PyProof.Rows.Fr h₀ L s.heap m) (X₀ : K.In h₀) (I : InstAt s.heap x ox C od)
    (hb : findIn K (.ref C) "__bool__" = some none) (hs : findIn K (.ref C) "__len__" = some (some (.ref f))) (hf : isFn K (.ref f) = true)
    (h : wpAny (model prog w) A.in1 (call (.ref f) [.ref x]) (fun v s' => ∃ n t, v = .int n t ∧ (0 ≤ n ∧ n < 2 ^ 63) ∧ ∀ tk, Q (n != 0) { s' with toks := tk }) E s) : wpAny (model prog w) A (truthy (.ref x)) Q E s := by
  have X := X₀.keeps F.keep
  have key : wpAny (model prog w) A (runValue (.builtin "len" ⟨[.ref x], []⟩)) (fun v s' => ∃ n t, v = .int n t ∧ Q (n != 0) s') E s := by
    refine wpAny_runValue (codeAny_builtin entry_len ?_); rw [Around.under_plainId plain_len _]; unfold Builtin.«len»
    refine (wpAny_bind (m := oneArg "len" _) (wpAny_pure ?_)); refine wpAny_bind (m := callSpecial? (.ref x) (Str.ofString "__len__")) (special_fn X I hs (beq_iff_eq.mp hf) (wpAny_mono h (fun r s' hr => ?_) fun _ _ z => z))
    obtain ⟨n, t, rfl, ⟨h0, h1⟩, hq⟩ := hr
    refine wpAny_bind (wpAny_holding (wpAny_pure ?_)); refine (wpAny_bind (wpAny_letGo ?_))
    show wpAny _ _ (if n < 0 then _ else (if n ≥ 2 ^ 63 then _ else _)) _ _ _
    rw [if_neg (by omega), if_neg (by omega)]
    exact wpAny_bind (wpAny_mkInt (wpAny_pure ⟨_, _, rfl, hq _⟩))
  unfold truthy
  refine wpAny_bind (m := callSpecial? (.ref x) (Str.ofString "__bool__")) (wpAny_bind (wpAny_bind (I.type.here ((looks_findIn X hb).here (wpAny_pure ?_)))))
  refine wpAny_bind (wpAny_bind (I.type.here ((looks_findIn X hs).here ?_)))
  refine wpAny_bind (wpAny_mono key (fun v s' z => ?_) fun _ _ z => z)
  obtain ⟨n, t, rfl, q⟩ := z
  exact wpAny_pure q
theorem bool_new_tree (x : Value) : Builtin.«bool.__new__» ⟨[.type "bool", x], []⟩ = (isType (.type "bool") >>= fun b => if (!b) = true then (do rule "bool.__new__.no-type"; raiseError "TypeError" s!"bool.__new__(X): X is not a type object ({← typeNameOf (.type "bool")})") else pure PUnit.unit) >>= fun _ => (isSubtype (.type "bool") (.type "bool") >>= fun b => if (!b) = true then (do rule "bool.__new__.no-subtype"; raiseError "TypeError" s!"bool.__new__({← PySem.typeName (.type "bool")}): {← PySem.typeName (.type "bool")} is not a subtype of bool") else pure PUnit.unit) >>= fun _ => truthy x >>= fun b => ret (.bool b) := by
  rfl
theorem call_bool_lenK {prog : Program} {w : World} {A : Around} {E : Value → Shared → Prop} {s : Shared} {x : Value} {Q : Value → Shared → Prop} (h : wpAny (model prog w) A.in1.in1 (truthy x) (fun b s' => Q (.bool b) s') E s) : wpAny (model prog w) A (call (.type "bool") [x]) Q E s := by
  refine callType_codes (T := "bool") (Bi := Builtin.«object.__init__») (Q₁ := fun r s₁ => ∃ b, r = .bool b ∧ Q r s₁) PySem.F.called_bool (PySem.F.typeCall_bool_1 _) PySem.F.entry_object_init ?_ ?_
  · refine codeAny_of_tree ?_
    show wpAny _ A.in1.in1 (do checkBuiltinCall "bool.__new__" ⟨[.type "bool", x], []⟩; again (.builtin "bool.__new__" ⟨[.type "bool", x], []⟩)) _ _ s
    refine wpAny_bind (wpAny_of_eq (PySem.F.newCall_bool_1 _) (wpAny_pure ⟨plainId_quiet (by decide +kernel) _, codeAny_builtin PySem.F.entry_bool_new ?_⟩))
    rw [Around.under_plainId (by decide +kernel) _, bool_new_tree]
    refine wpAny_bind (wpAny_bind (wpAny_pure ?_))
    refine wpAny_pure (wpAny_bind (wpAny_bind (wpAny_of_eq PySem.F.conv_sub_bool ?_)))
    refine wpAny_pure (wpAny_bind (wpAny_mono h (fun b s₁ hb => ?_) fun _ _ z => z))
    exact wpAny_pure ⟨b, rfl, hb⟩
  · rintro obj s₁ ⟨b, rfl, hq⟩
    exact ⟨PySem.typeIs_bool _ _, PySem.F.args_object_init_2 _ _, object_init_meets PySem.F.called_bool.init.lookup PySem.F.called_bool.made (by decide) prog w A.in1 _ s₁ ⟨PySem.typeIs_bool _ _, rfl, hq⟩⟩
end
def rBoolOwn (C : Addr) (sp : Sp) (E : XK) : List V → Hp → VK → Prop := fun xs H Q => ∃ a dx fs, xs = [.ref a] ∧ H a = some (.ins C dx fs) ∧ sp [.ref a] H (fun z H' => ∃ n : Int, z = .int n ∧ (0 ≤ n ∧ n < 2 ^ 63) ∧ Q (.bl (n != 0)) H') E
def rSetOwn (C : Addr) (sp : Sp) (E : XK) : TSet := fun o i v H Q => ∃ a dx fs, o = .ref a ∧ H a = some (.ins C dx fs) ∧ sp [.ref a, i, v] H (fun _ H' => Q H') E
def rIpOwn (C : Addr) (sp : Sp) (E : XK) : TIp := fun x y H Q => ∃ a dx fs b dy gs, x = .ref a ∧ y = .ref b ∧ H a = some (.ins C dx fs) ∧ H b = some (.ins C dy gs) ∧ sp [x, y] H Q E
section
open PySem.Spec PyProof.Rows
variable {X : Cx} {CX : CXT} {k : Nat} {C g : Addr} {sp : Sp} {E : XK}
theorem call_boolOwn (hb : PySem.W.findIn X.K (.ref C) "__bool__" = some none) (hs : PySem.W.findIn X.K (.ref C) "__len__" = some (some (.ref g))) (hf : PySem.W.isFn X.K (.ref g) = true) (F : FnR X.prog X.w X.K X.mg X.base CX k g sp) (hr : Room (k + 3) X.A) (hx : Passes CX X E) : CallR X (.type "bool") (rBoolOwn C sp E) := by
  intro pins s σ H xs us Q I r h
  obtain ⟨a, dx, fs, rfl, ha, q⟩ := h
  obtain ⟨u, rfl, ru⟩ := r.one
  cases (show u = Value.ref a from ru)
  obtain ⟨mA, O, _⟩ := ins_get I.hok ha
  obtain ⟨od, J, _⟩ := O.look
  obtain ⟨m, hF⟩ := I.fr
  have hr2 : Room k X.A.in1.in1.in1 := ((show Room (k + 2) X.A.in1 from Room.in1 hr).in1 : Room (k + 1) X.A.in1.in1).in1
  refine call_bool_lenK (truthy_lenK hF I.ok.mod.kin J hb hs hf (wpAny_mono (wpAny_call (SlX.run_at (us := [.ref a]) (ws := [.ref a]) F hr2 I.env0.in1.in1.in1 hx I (.cons rfl .nil) q)) (fun w s' z => ?_) fun _ _ x => x))
  obtain ⟨z', H', I', rz, n, ez, hn, qz⟩ := z
  subst ez
  obtain ⟨t, rfl⟩ := (show ∃ t, w = Value.int n t from rz)
  exact ⟨n, t, rfl, hn, fun tk => ⟨.bl (n != 0), H', I'.tok tk, rfl, qz⟩⟩
theorem set_own (hq : PySem.W.noSeq X.K C = true) (hs : PySem.W.findIn X.K (.ref C) "__setitem__" = some (some (.ref g))) (hf : PySem.W.isFn X.K (.ref g) = true) (F : FnR X.prog X.w X.K X.mg X.base CX k g sp) (hr : Room k X.A) (hx : Passes CX X E) : PSet X (rSetOwn C sp E) := by
  intro pins s σ H o i v ov iv u Q I ro ri rv h
  obtain ⟨a, dx, fs, rfl, ha, q⟩ := h
  cases (show ov = Value.ref a from ro)
  obtain ⟨mA, O, _⟩ := ins_get I.hok ha
  obtain ⟨od, J, _⟩ := O.look
  obtain ⟨m, hF⟩ := I.fr
  refine PySem.W.ksp_setItem hF I.ok.mod.kin J hq hs hf (wpAny_mono (wpAny_call (run_fnR (us := [.ref a, iv, u]) (vs := [.ref a, i, v]) F hr hx I (.cons rfl (.cons ri (.cons rv .nil))) q)) (fun w s' z => ?_) fun _ _ x => x)
  obtain ⟨z', H', I', rz, qz⟩ := z
  exact ⟨H', I', qz⟩
theorem ip_own {op : Operator} (hc : PySem.W.selfFirst X.K C = true) (hs : PySem.W.findIn X.K (.ref C) (dunderI op.info.2) = some (some (.ref g))) (hf : PySem.W.isFn X.K (.ref g) = true) (F : FnR X.prog X.w X.K X.mg X.base CX k g sp) (hr : Room k X.A) (hx : Passes CX X E) : PIp X op (rIpOwn C sp E) := by
  intro pins s σ H x y v u Q I rx ry h
  obtain ⟨a, dx, fs, b, dy, gs, rfl, rfl, ha, hb, q⟩ := h
  cases (show v = Value.ref a from rx)
  cases (show u = Value.ref b from ry)
  obtain ⟨mA, O, _⟩ := ins_get I.hok ha
  obtain ⟨od, J, _⟩ := O.look
  obtain ⟨m, hF⟩ := I.fr
  refine PySem.W.ksp_inplace hF I.ok.mod.kin J hc hs hf ?_
  refine wpAny_mono (wpAny_call (run_fnR (us := [.ref a, .ref b]) (vs := [.ref a, .ref b]) F hr hx I (.cons rfl (.cons rfl .nil)) q)) (fun w s' z => ?_) fun _ _ x => x
  obtain ⟨z', H', I', rz, qz⟩ := z
  exact SlX.cmpback rz ⟨z', H', I', rz, qz⟩
end
/-! ### a static method called through its class; own == and str -/
structure SMet (K : PySem.W.Frag) (C : Addr) (m : Str) (p g : Addr) : Prop where
  at_ : PySem.W.findCls K (.ref C) (.type "type") m = some (.get (.builtin "staticmethod.__get__") (.ref p) .none (.ref C))
  rc : ∃ rest, PySem.W.recIn K p "staticmethod" = some (.ref g :: rest)
  kp : PySem.W.keepIn K (.ref g) = true
def tSMeth (C : Addr) (sp : Sp) (E : XK) (ta : TE) (t : TA) : TE := fun σ H Q => ta σ H fun x H1 => x = .ref C ∧ t σ H1 fun vs H2 => sp vs H2 Q E
section
variable {X : Cx} {CX : CXT} {k : Nat} {C p g : Addr} {sp : Sp} {E : XK} {o e : Expr} {es : List Expr} {m : Str} {pos apos : Pos} {ta : TE} {t : TA} {pl : Sem Bool}
theorem pe_smeth (he : PE X o ta) (r : ClX.CRead X.K C (.type "type")) (c : SMet X.K C m p g) (F : FnR X.prog X.w X.K X.mg X.base CX k g sp) (hr : Room k X.A) (hx : Passes CX X E) (ha : PA X (e :: es) t)
    (hst : starEach (e :: es) X.env = (false, eval e X.env) :: starEach es X.env := by rfl) (hpl : (backTo pos (starEach es X.env)).any (·.1) = false := by rfl)
    (ht : eval (.Call (.Attribute o m apos) (e :: es) [] pos) X.env = (do
      let ov ← eval o X.env
      standAt apos.atName
      let (f, first) ← holding [ov] (getMethod ov m pl)
      callWith pos f first (backTo pos (starEach (e :: es) X.env)) (backToKw pos (keywordEach [] X.env))) := by rfl) :
    PE X (.Call (.Attribute o m apos) (e :: es) [] pos) (tSMeth C sp E ta t) := by
  refine ⟨fun pins s σ H Q I h => ?_⟩
  refine PySem.W.methodCall_KW (pl := pl) (thn (he.run pins s σ H _ I h) fun u s1 ⟨x, H1, I1, rx, ex, q⟩ => ?_) ht
  subst ex
  obtain rfl : u = Value.ref C := rx
  obtain ⟨rest, hp⟩ := c.rc
  refine PySem.W.method_cls I1.kIn r.ga (PySem.W.cls_bind I1.kIn r.rd c.at_ (wpAny_call (PySem.W.sm_get I1.kIn hp (PySem.W.handed_on rfl ?_))))
  refine PySem.W.callWith_K (h₀ := X.base) (first := []) I.ok.mod.kin c.kp (thn (ha.run pos pins _ σ H1 _ (I1.tok _) q) fun us s2 ⟨vs, H2, I2, rv, q2⟩ => ⟨I2.kIn, ?_⟩) hst hpl
  exact wpAny_call (run_fnR F hr hx I2 rv q2)
/-- x == y by C's own __eq__, both of the class at C -/
def rEqOwn (C : Addr) (sp : Sp) (E : XK) : R2 := fun x y H Q => ∃ a dx fs b dy gs, x = .ref a ∧ y = .ref b ∧ H a = some (.ins C dx fs) ∧ H b = some (.ins C dy gs) ∧ sp [x, y] H Q E
theorem op_eqOwn (hs : PySem.W.findIn X.K (.ref C) "__eq__" = some (some (.ref g))) (hf : PySem.W.isFn X.K (.ref g) = true) (F : FnR X.prog X.w X.K X.mg X.base CX k g sp) (hr : Room k X.A) (hx : Passes CX X E) : OpR X (compareOp .Eq) (rEqOwn C sp E) := by
  intro pins s σ H x y v u Q I rx ry h
  obtain ⟨a, dx, fs, b, dy, gs, rfl, rfl, ha, hb, q⟩ := h
  cases (show v = Value.ref a from rx)
  cases (show u = Value.ref b from ry)
  obtain ⟨mA, O, _⟩ := ins_get I.hok ha
  obtain ⟨mB, O', _⟩ := ins_get I.hok hb
  obtain ⟨od, J, _⟩ := O.look
  obtain ⟨od', J', _⟩ := O'.look
  obtain ⟨m, hF⟩ := I.fr
  have hn : PySem.W.notFirst X.K C (.ref C) = true := by unfold PySem.W.notFirst; simp
  show wpAny _ _ (richCompare .Eq (.ref a) (.ref b)) _ _ _
  refine PySem.W.cmp_K (op := .Eq) (tb := .ref C) hr.units0 hF I.ok.mod.kin J J'.type hn hs hf ?_
  refine wpAny_mono (wpAny_call (run_fnR (us := [.ref a, .ref b]) (vs := [.ref a, .ref b]) F hr hx I (.cons rfl (.cons rfl .nil)) q)) (fun w s' z => ?_) fun _ _ x => x
  obtain ⟨z', H', I', rz, qz⟩ := z
  exact SlX.cmpback rz ⟨z', H', I', rz, qz⟩
/-- str(x) by C's own __str__ -/
def rStrOwn (C : Addr) (sp : Sp) (E : XK) : List V → Hp → VK → Prop := fun xs H Q => ∃ a dx fs, xs = [.ref a] ∧ H a = some (.ins C dx fs) ∧ sp [.ref a] H (fun z H' => ∃ x, z = .str x ∧ Q z H') E
theorem call_strOwn (hs : PySem.W.findIn X.K (.ref C) "__str__" = some (some (.ref g))) (hf : PySem.W.isFn X.K (.ref g) = true) (F : FnR X.prog X.w X.K X.mg X.base CX k g sp) (hr : Room (k + 2) X.A) (hx : Passes CX X E) : CallR X (.type "str") (rStrOwn C sp E) := by
  intro pins s σ H xs us Q I r h
  obtain ⟨a, dx, fs, rfl, ha, q⟩ := h
  obtain ⟨u, rfl, ru⟩ := r.one
  cases (show u = Value.ref a from ru)
  obtain ⟨mA, O, _⟩ := ins_get I.hok ha
  obtain ⟨od, J, _⟩ := O.look
  have hr2 : Room k X.A.in1.in1 := (show Room (k + 1) X.A.in1 from Room.in1 hr).in1
  refine PySem.W.kso_call hr2.units0 I.kIn J hs hf (wpAny_mono (wpAny_call (SlX.run_at (us := [.ref a]) (ws := [.ref a]) F hr2 I.env0.in1.in1 hx I (.cons rfl .nil) q)) (fun w s' z => ?_) fun _ _ x => x)
  obtain ⟨z', H', I', rz, x, ex, qz⟩ := z
  subst ex
  obtain ⟨t, rfl⟩ := (show ∃ t, w = Value.str x t from rz)
  exact ⟨.str x, H', I', ⟨t, rfl⟩, qz⟩
end
/-! ### len(x), x + y by the own methods of an instance's class -/
def rLenOwn (C : Addr) (sp : Sp) (E : XK) : List V → Hp → VK → Prop := fun xs H Q => ∃ a dx fs, xs = [.ref a] ∧ H a = some (.ins C dx fs) ∧ sp [.ref a] H (fun z H' => ∃ n : Int, z = .int n ∧ (0 ≤ n ∧ n < 2 ^ 63) ∧ Q (.int n) H') E
def rBinOwn (C : Addr) (sp : Sp) (E : XK) : R2 := fun x y H Q => ∃ a dx fs b dy gs, x = .ref a ∧ y = .ref b ∧ H a = some (.ins C dx fs) ∧ H b = some (.ins C dy gs) ∧ sp [x, y] H Q E
section
open PySem PySem.W PySem.Calls PyProof.Rows
theorem bin_same {prog : Program} {w : World} {A : Around} {E : Value → Shared → Prop} {s : Shared} {K : Frag} {x y C L f : Addr} {h₀ : Heap} {m : Str → Option Value} {ox oy : Obj} {od od' : Option Obj} {op : Operator} {Q : Value → Shared → Prop} (F : PyProof.Rows.Fr h₀ L s.heap m) (X₀ : K.In h₀) (I : InstAt s.heap x ox C od) (J : InstAt s.heap y oy C od') (hc : selfFirst K C = true)
    (hs : findIn K (.ref C) (PySem.dunder op.info.2) = some (some (.ref f))) (hf : isFn K (.ref f) = true)
    (h : wpAny (model prog w) A (call (.ref f) [.ref x, .ref y]) (PySem.W.CmpBack Q) E s) : wpAny (model prog w) A (binaryOp op (.ref x) (.ref y)) Q E s := by
  have X := X₀.keeps F.keep
  obtain ⟨cd, rest, hcd, hm⟩ := ksp_first hc
  rcases hi : op.info with ⟨sym, nm'⟩
  rw [hi] at hs
  dsimp only at hs
  have one := ksp_try X I hs hf h
  obtain ⟨hh, g, d, tt, os⟩ := s
  have L1 : Looks (model prog w) hh (typeOf (.ref x)) (.ref C) := I.type
  have L2 : Looks (model prog w) hh (typeOf (.ref y)) (.ref C) := J.type
  have L3 : Looks (model prog w) hh (fillsNumberSlot (.ref C) nm') true := fills_K X hcd hm hs
  have hne : (Value.ref C == Value.ref C) = true := by simp
  simp only [binaryOp, hi]
  refine wpAny_holding (wpAny_bind ?_)
  unfold binaryOp1
  refine wpAny_bind (L1.at (wpAny_bind (L2.at (wpAny_bind (L3.at ?_)))))
  simp only [hne, if_true]
  ksp_lk
  refine wpAny_mono one (fun r s' hr' => ?_) fun _ _ e => e
  obtain ⟨v, rfl, hq⟩ := hr'
  ksp_lk
  exact hq
end
section
variable {X : Cx} {CX : CXT} {k : Nat} {C g : Addr} {sp : Sp} {E : XK}
theorem call_lenOwn (hs : PySem.W.findIn X.K (.ref C) "__len__" = some (some (.ref g))) (hf : PySem.W.isFn X.K (.ref g) = true) (F : FnR X.prog X.w X.K X.mg X.base CX k g sp) (hr : Room (k + 1) X.A) (hx : Passes CX X E) : CallR X (.builtin "len") (rLenOwn C sp E) := by
  intro pins s σ H xs us Q I r h
  obtain ⟨a, dx, fs, rfl, ha, q⟩ := h
  obtain ⟨u, rfl, ru⟩ := r.one
  cases (show u = Value.ref a from ru)
  obtain ⟨mA, O, _⟩ := ins_get I.hok ha
  obtain ⟨od, J, _⟩ := O.look
  obtain ⟨m, hF⟩ := I.fr
  have hr2 : Room k X.A.in1 := hr.in1
  refine PySem.W.len_K hF I.ok.mod.kin J hs hf (wpAny_mono (wpAny_call (SlX.run_at (us := [.ref a]) (ws := [.ref a]) F hr2 I.env0.in1 hx I (.cons rfl .nil) q)) (fun w s' z => ?_) fun _ _ x => x)
  obtain ⟨z', H', I', rz, n, ez, hn, qz⟩ := z
  subst ez
  obtain ⟨t, rfl⟩ := (show ∃ t, w = Value.int n t from rz)
  exact ⟨hn, .int n, H', I'.tok _, ⟨_, rfl⟩, qz⟩
theorem op_binOwn {op : Operator} (hc : PySem.W.selfFirst X.K C = true) (hs : PySem.W.findIn X.K (.ref C) (PySem.dunder op.info.2) = some (some (.ref g))) (hf : PySem.W.isFn X.K (.ref g) = true) (F : FnR X.prog X.w X.K X.mg X.base CX k g sp) (hr : Room k X.A) (hx : Passes CX X E) : OpR X (binaryOp op) (rBinOwn C sp E) := by
  intro pins s σ H x y v u Q I rx ry h
  obtain ⟨a, dx, fs, b, dy, gs, rfl, rfl, ha, hb, q⟩ := h
  cases (show v = Value.ref a from rx)
  cases (show u = Value.ref b from ry)
  obtain ⟨mA, O, _⟩ := ins_get I.hok ha
  obtain ⟨mB, O', _⟩ := ins_get I.hok hb
  obtain ⟨od, J, _⟩ := O.look
  obtain ⟨od', J', _⟩ := O'.look
  obtain ⟨m, hF⟩ := I.fr
  refine bin_same hF I.ok.mod.kin J J' hc hs hf ?_
  refine wpAny_mono (wpAny_call (run_fnR (us := [.ref a, .ref b]) (vs := [.ref a, .ref b]) F hr hx I (.cons rfl (.cons rfl .nil)) q)) (fun w s' z => ?_) fun _ _ x => x
  obtain ⟨z', H', I', rz, qz⟩ := z
  exact SlX.cmpback rz ⟨z', H', I', rz, qz⟩
end
/-! ### a local def called with a star; own [ ], in of instances -/
section
variable {X : Cx} {CX : CXT} {k i : Nat} {C f : Addr} {sp : Sp} {E : XK} {x : Str} {a b e : Expr} {es : List Expr} {p pos : Pos} {t : TA} {ta tb : TE}
/-- x(e, *y), x a local that holds the def at f -/
def tCallLS (X : Cx) (CX : CXT) (k i : Nat) (t : TA) (E : XK) : TE := fun σ H Q => ∃ f sp, σ[i]? = some (some (.ref f)) ∧ FnR X.prog X.w X.K X.mg X.base CX k f sp ∧ PySem.W.keepIn X.K (.ref f) = true ∧ t σ H fun vs H1 => sp vs H1 Q E
theorem pe_callLS (hr : Room k X.A) (hN : X.N[i]? = some x) (hv : Vis X.env.scope x) (hx : Passes CX X E) (ha : PA X (e :: es) t)
    (hdb : (x == ("__debug__" : Str)) = false := by decide) (hcd : (x == ("__classdict__" : Str)) = false := by decide)
    (he : starEach (e :: es) X.env = (false, eval e X.env) :: starEach es X.env := by rfl) (hst : (backTo pos (starEach es X.env)).any (·.1) = true := by rfl) : PE X (.Call (.Name x p) (e :: es) [] pos) (tCallLS X CX k i t E) := by
  refine ⟨fun pins s σ H Q I h => ?_⟩
  obtain ⟨f, sp, hs, F, hk, ht⟩ := h
  refine wpAny_Call_Name_kw (thn ((pe_var (pos := p) hN hv hdb hcd).run pins s σ H (fun v H1 => v = .ref f ∧ H1 = H) I ⟨.ref f, hs, rfl, rfl⟩) fun u s1 ⟨v, H1, I1, r1, q1⟩ => ?_)
  obtain ⟨rfl, rfl⟩ := q1
  cases r1
  refine PySem.W.callWith_S2 (h₀ := X.base) I.ok.mod.kin hk (thn (ha.run pos pins s1 σ _ _ I1 ht) fun us s2 ⟨vs, H2, I2, r, q⟩ => ⟨I2.kIn, ?_⟩) he hst
  exact wpAny_call (run_fnR F hr hx I2 r q)
/-- o[i] by the own __getitem__ -/
def rItemOwn (C : Addr) (sp : Sp) (E : XK) : R2 := fun x y H Q => ∃ a dx fs, x = .ref a ∧ H a = some (.ins C dx fs) ∧ sp [.ref a, y] H Q E
theorem pe_itemOwn (hs : PySem.W.findIn X.K (.ref C) "__getitem__" = some (some (.ref f))) (hfi : PySem.W.fnIn X.K f = true) (hf : PySem.W.isFn X.K (.ref f) = true) (F : FnR X.prog X.w X.K X.mg X.base CX k f sp) (hr : Room (k + 1) X.A) (hx : Passes CX X E)
    (ha : PE X a ta) (hb : PE X b tb) (hsl : ∀ (x : Addr) (i : Value), subscripted b true (.ref x) i = runValue (.builtin "lifetime.subscript" ⟨[.ref x, i], []⟩) := by intros; with_unfolding_all rfl) : PE X (.Subscript a b pos) (tOp (rItemOwn C sp E) ta tb) := by
  refine ⟨fun pins s σ H Q I h => ?_⟩
  refine PyProof.Rows.Subscript_ (binT ha hb I h fun v u s2 x y H2 I2 rx ry q => ?_)
  obtain ⟨a', dx, fs, rfl, ea, q⟩ := q
  cases (show v = Value.ref a' from rx)
  obtain ⟨mA, O, _⟩ := ins_get I2.hok ea
  obtain ⟨od, J, _⟩ := O.look
  obtain ⟨m, hF⟩ := I2.fr
  have hr2 : Room k X.A.in1 := hr.in1
  refine PySem.W.sub_K hF I2.ok.mod.kin J hs hfi hf ?_ (hsl _ _)
  refine wpAny_call (codeAny_mono (SlX.run_at (us := [.ref a', u]) (ws := [.ref a', y]) F hr2 I2.env0.in1 hx I2 (.cons rfl (.cons ry .nil)) q) fun r s' z => ?_)
  exact z
/-- x in o by the own __contains__, which gives True or False -/
def rInOwn (C : Addr) (sp : Sp) (E : XK) : R2 := fun x y H Q => ∃ a dx fs, y = .ref a ∧ H a = some (.ins C dx fs) ∧ sp [.ref a, x] H (fun z H' => ∃ c, z = .bl c ∧ Q (.bl c) H') E
def rNotInOwn (C : Addr) (sp : Sp) (E : XK) : R2 := fun x y H Q => ∃ a dx fs, y = .ref a ∧ H a = some (.ins C dx fs) ∧ sp [.ref a, x] H (fun z H' => ∃ c, z = .bl c ∧ Q (.bl (!c)) H') E
theorem op_inOwn (hs : PySem.W.findIn X.K (.ref C) "__contains__" = some (some (.ref f))) (hf : PySem.W.isFn X.K (.ref f) = true) (F : FnR X.prog X.w X.K X.mg X.base CX k f sp) (hr : Room k X.A) (hx : Passes CX X E) : OpR X (compareOp .In) (rInOwn C sp E) := by
  intro pins s σ H x y v u Q I rx ry h
  obtain ⟨a, dx, fs, rfl, ha, q⟩ := h
  cases (show u = Value.ref a from ry)
  obtain ⟨mA, O, _⟩ := ins_get I.hok ha
  obtain ⟨od, J, _⟩ := O.look
  obtain ⟨m, hF⟩ := I.fr
  refine PySem.W.in_K hF I.ok.mod.kin J hs hf ?_
  refine wpAny_mono (wpAny_call (run_fnR (us := [.ref a, v]) (vs := [.ref a, x]) F hr hx I (.cons rfl (.cons rx .nil)) q)) (fun w s' z => ?_) fun _ _ x => x
  obtain ⟨z', H', I', rz, c, rfl, qz⟩ := z
  cases (show w = Value.bool c from rz)
  exact PySem.wpAny_truthy_bool ⟨.bl c, H', I', rfl, qz⟩
theorem op_notInOwn (hs : PySem.W.findIn X.K (.ref C) "__contains__" = some (some (.ref f))) (hf : PySem.W.isFn X.K (.ref f) = true) (F : FnR X.prog X.w X.K X.mg X.base CX k f sp) (hr : Room k X.A) (hx : Passes CX X E) : OpR X (compareOp .NotIn) (rNotInOwn C sp E) := by
  intro pins s σ H x y v u Q I rx ry h
  obtain ⟨a, dx, fs, rfl, ha, q⟩ := h
  cases (show u = Value.ref a from ry)
  obtain ⟨mA, O, _⟩ := ins_get I.hok ha
  obtain ⟨od, J, _⟩ := O.look
  obtain ⟨m, hF⟩ := I.fr
  refine PySem.W.notIn_K hF I.ok.mod.kin J hs hf ?_
  refine wpAny_mono (wpAny_call (run_fnR (us := [.ref a, v]) (vs := [.ref a, x]) F hr hx I (.cons rfl (.cons rx .nil)) q)) (fun w s' z => ?_) fun _ _ x => x
  obtain ⟨z', H', I', rz, c, rfl, qz⟩ := z
  cases (show w = Value.bool c from rz)
  exact PySem.wpAny_truthy_bool ⟨.bl (!c), H', I', rfl, qz⟩
end
/-! ### what may change; dicts by names -/
/-- all objects but those of l stay -/
def Chg (l : List Addr) (H H' : Hp) : Prop := ∀ x o, x ∉ l → H x = some o → H' x = some o
theorem Chg.refl (l : List Addr) (H : Hp) : Chg l H H := fun _ _ _ e => e
theorem Chg.trans {l : List Addr} {H H1 H2 : Hp} (a : Chg l H H1) (b : Chg l H1 H2) : Chg l H H2 := fun x o n e => b x o n (a x o n e)
theorem Chg.of_same {l : List Addr} {H H1 : Hp} (a : Same H H1) : Chg l H H1 := fun x o _ e => a x o e
theorem Chg.more {l l' : List Addr} {H H1 : Hp} (a : Chg l H H1) (h : ∀ x, x ∈ l → x ∈ l') : Chg l' H H1 := fun x o n e => a x o (fun m => n (h x m)) e
theorem Chg.upd {l : List Addr} {H : Hp} {a : Addr} {o : HO} (m : a ∈ l) : Chg l H (upd H a o) := fun x u n e => by
  rw [upd_ne fun z => n (by rw [z]; exact m)]; exact e
theorem Chg.new {l : List Addr} {H : Hp} {a : Addr} {o : HO} (n : H a = none) : Chg l H (L2.upd H a o) := .of_same (same_new n)
theorem Chg.mask {l : List Addr} {H H' : Hp} (k : Chg l H H') : Same (mask l H) (mask l H') := fun a o e => by
  by_cases h : a ∈ l
  · rw [mask_in h] at e; cases e
  · rw [mask_out h] at e ⊢
    exact k a o h e
theorem Chg.of_mask {l : List Addr} {H H' : Hp} (s : Same (Qp.mask l H) (Qp.mask l H')) : Chg l H H' := fun a o n e => by
  have := s a o (by rw [mask_out n]; exact e)
  rw [mask_out n] at this
  exact this
theorem Keeps.chg {p q : Addr} {H H' : Hp} (k : Keeps p q H H') : Chg [p, q] H H' := fun x o n e => k x o (fun z => n (by rw [z]; exact List.mem_cons_self)) (fun z => n (by rw [z]; exact List.mem_cons_of_mem _ List.mem_cons_self)) e
theorem Keeps.chgL {p q : Addr} {l : List Addr} {H H' : Hp} (hp : p ∈ l) (hq : q ∈ l) (k : Keeps p q H H') : Chg l H H' := k.chg.more fun x m => by
  rcases List.mem_cons.mp m with rfl | m
  · exact hp
  · rw [List.mem_singleton.mp m]; exact hq
/-- what was free and stays so -/
theorem Chg.free {l : List Addr} {H H1 : Hp} {a : Addr} (k : Chg l H H1) (n : H1 a = none) (h : a ∉ l) : H a = none := by
  cases e : H a with
  | none => rfl
  | some o => rw [k a o h e] at n; cases n
/-- entries by names -/
def kvs {α : Type} (l : List (Str × α)) : List (Key × α) := l.map fun p => (Sum.inr p.1, p.2)
def look {α : Type} (l : List (Str × α)) (n : Str) : Option α := (l.find? fun p => decide (p.1 = n)).map (·.2)
def put {α : Type} (l : List (Str × α)) (n : Str) (v : α) : List (Str × α) := if (l.any fun p => decide (p.1 = n)) = true then l.map (fun p => if p.1 = n then (p.1, v) else p) else l ++ [(n, v)]
theorem look_nil {α : Type} {n : Str} : look ([] : List (Str × α)) n = none := rfl
theorem look_pos {α : Type} {p : Str × α} {r : List (Str × α)} {n : Str} (e : p.1 = n) : look (p :: r) n = some p.2 := by simp [look, List.find?_cons, e]
theorem look_neg {α : Type} {p : Str × α} {r : List (Str × α)} {n : Str} (e : ¬ p.1 = n) : look (p :: r) n = look r n := by simp [look, List.find?_cons, e]
theorem valV_kvs (n : Str) : ∀ l : List (Str × V), valV (kvs l) (Sum.inr n) = look l n
  | [] => rfl
  | p :: r => by
    have e : kvs (p :: r) = (Sum.inr p.1, p.2) :: kvs r := rfl
    rw [e]
    by_cases h : p.1 = n
    · rw [look_pos h, valV_pos (by rw [h])]
    · rw [look_neg h, valV_neg (fun z => h (Sum.inr.inj z)), valV_kvs n r]
theorem kvs_any (n : Str) : ∀ l : List (Str × V), ((kvs l).any fun kv => decide (kv.1 = Sum.inr n)) = l.any fun p => decide (p.1 = n)
  | [] => rfl
  | p :: r => by
    have e : kvs (p :: r) = (Sum.inr p.1, p.2) :: kvs r := rfl
    rw [e, List.any_cons, List.any_cons, kvs_any n r]
    congr 1
    by_cases h : p.1 = n
    · rw [decide_eq_true h, decide_eq_true (by rw [h])]
    · rw [decide_eq_false h, decide_eq_false fun z => h (Sum.inr.inj z)]
theorem putK_kvs (l : List (Str × V)) (n : Str) (v : V) : putK (kvs l) (Sum.inr n) v = kvs (put l n v) := by
  unfold putK put
  rw [kvs_any]
  split
  · unfold kvs
    rw [List.map_map, List.map_map]
    refine List.map_congr_left fun p _ => ?_
    show (if (Sum.inr p.1 : Key) = Sum.inr n then _ else _) = _
    by_cases h : p.1 = n
    · simp [h]
    · have h2 : ¬ ((Sum.inr p.1 : Key) = Sum.inr n) := fun z => h (Sum.inr.inj z)
      simp [h, h2]
  · unfold kvs
    rw [List.map_append]
    rfl
theorem kvs_len {α : Type} (l : List (Str × α)) : (kvs l).length = l.length := by unfold kvs; rw [List.length_map]
/-- what the entries hold -/
inductive CsR (K : PySem.W.Frag) (M : Hp) : List (Str × V) → List (Str × PyData) → Prop where
  | nil : CsR K M [] []
  | cons {n : Str} {v : V} {d : PyData} {l : List (Str × V)} {cs : List (Str × PyData)} (h : Dp K M v d) (t : CsR K M l cs) : CsR K M ((n, v) :: l) ((n, d) :: cs)
section
variable {K : PySem.W.Frag} {M : Hp}
theorem CsR.same {M' : Hp} (s : Same M M') : ∀ {l : List (Str × V)} {cs : List (Str × PyData)}, CsR K M l cs → CsR K M' l cs
  | _, _, .nil => .nil
  | _, _, .cons h t => .cons (dp_same s _ _ h) (t.same s)
theorem CsR.len : ∀ {l : List (Str × V)} {cs : List (Str × PyData)}, CsR K M l cs → l.length = cs.length
  | _, _, .nil => rfl
  | _, _, .cons _ t => by rw [List.length_cons, List.length_cons, t.len]
theorem CsR.at {n : Str} {d : PyData} : ∀ {l : List (Str × V)} {cs : List (Str × PyData)}, CsR K M l cs → look cs n = some d → ∃ v, look l n = some v ∧ Dp K M v d
  | _, _, .nil, e => by cases e
  | _, _, .cons (n := m) (v := v) (d := d') h t, e => by
    by_cases q : m = n
    · rw [look_pos (p := (m, d')) q] at e
      obtain rfl := Option.some.inj e
      exact ⟨v, look_pos (p := (m, v)) q, h⟩
    · rw [look_neg (p := (m, d')) q] at e
      obtain ⟨v', e', h'⟩ := t.at e
      exact ⟨v', by rw [look_neg (p := (m, v)) q]; exact e', h'⟩
theorem CsR.none {n : Str} : ∀ {l : List (Str × V)} {cs : List (Str × PyData)}, CsR K M l cs → look cs n = none → look l n = none
  | _, _, .nil, _ => rfl
  | _, _, .cons (n := m) (v := v) (d := d') h t, e => by
    by_cases q : m = n
    · rw [look_pos (p := (m, d')) q] at e
      cases e
    · rw [look_neg (p := (m, d')) q] at e
      rw [look_neg (p := (m, v)) q]
      exact t.none e
theorem CsR.any {n : Str} : ∀ {l : List (Str × V)} {cs : List (Str × PyData)}, CsR K M l cs → (l.any fun p => decide (p.1 = n)) = cs.any fun p => decide (p.1 = n)
  | _, _, .nil => rfl
  | _, _, .cons h t => by rw [List.any_cons, List.any_cons, t.any]
theorem CsR.map {n : Str} {v : V} {d : PyData} (hd : Dp K M v d) : ∀ {l : List (Str × V)} {cs : List (Str × PyData)}, CsR K M l cs → CsR K M (l.map fun p => if p.1 = n then (p.1, v) else p) (cs.map fun p => if p.1 = n then (p.1, d) else p)
  | _, _, .nil => .nil
  | _, _, .cons (n := m) (v := v') (d := d') h t => by
    rw [List.map_cons, List.map_cons]
    by_cases q : m = n
    · rw [if_pos (show (m, v').1 = n from q), if_pos (show (m, d').1 = n from q)]
      exact .cons hd (t.map hd)
    · rw [if_neg (show ¬ (m, v').1 = n from q), if_neg (show ¬ (m, d').1 = n from q)]
      exact .cons h (t.map hd)
theorem CsR.app : ∀ {l l' : List (Str × V)} {cs cs' : List (Str × PyData)}, CsR K M l cs → CsR K M l' cs' → CsR K M (l ++ l') (cs ++ cs')
  | _, _, _, _, .nil, h => h
  | _, _, _, _, .cons h t, r => .cons h (t.app r)
theorem CsR.put {n : Str} {v : V} {d : PyData} {l : List (Str × V)} {cs : List (Str × PyData)} (h : CsR K M l cs) (hd : Dp K M v d) : CsR K M (put l n v) (put cs n d) := by
  unfold Qp.put
  rw [h.any]
  split
  · exact h.map hd
  · exact h.app (.cons hd .nil)
end
theorem look_put {α : Type} (n m : Str) (v : α) : ∀ l : List (Str × α), look (put l n v) m = if m = n then some v else look l m := by
  have h1 : ∀ l : List (Str × α), (l.any fun p => decide (p.1 = n)) = true → look (l.map fun p => if p.1 = n then (p.1, v) else p) m = if m = n then some v else look l m := by
    intro l
    induction l with
    | nil => intro h; cases h
    | cons p r ih =>
      intro h
      rw [List.map_cons]
      by_cases q : p.1 = n
      · rw [if_pos q]
        by_cases e : p.1 = m
        · rw [look_pos (p := (p.1, v)) e, if_pos (e.symm.trans q)]
        · rw [look_neg (p := (p.1, v)) e, look_neg e]
          have hm : ¬ m = n := fun z => e (q.trans z.symm)
          rw [if_neg hm]
          by_cases a : (r.any fun p => decide (p.1 = n)) = true
          · rw [ih a, if_neg hm]
          · have : r.map (fun p => if p.1 = n then (p.1, v) else p) = r := by
              rw [Bool.not_eq_true, List.any_eq_false] at a
              conv => rhs; rw [← List.map_id r]
              refine List.map_congr_left fun x hx => ?_
              have := a x hx
              rw [if_neg (by simpa using this)]
              rfl
            rw [this]
      · rw [if_neg q]
        have a : (r.any fun p => decide (p.1 = n)) = true := by
          rw [List.any_cons, decide_eq_false q, Bool.false_or] at h
          exact h
        by_cases e : p.1 = m
        · rw [look_pos e, look_pos e, if_neg fun z => q (e.trans z)]
        · rw [look_neg e, look_neg e, ih a]
  intro l
  unfold put
  split
  · rename_i a; exact h1 l a
  · rename_i a
    rw [Bool.not_eq_true, List.any_eq_false] at a
    have h2 : ∀ l : List (Str × α), (∀ x ∈ l, ¬ x.1 = n) → look (l ++ [(n, v)]) m = if m = n then some v else look l m := by
      intro l
      induction l with
      | nil =>
        intro _
        by_cases e : m = n
        · rw [if_pos e]; exact look_pos (p := (n, v)) e.symm
        · rw [if_neg e]; exact look_neg (p := (n, v)) fun z => e z.symm
      | cons p r ih =>
        intro h
        rw [List.cons_append]
        by_cases e : p.1 = m
        · rw [look_pos e, look_pos e, if_neg fun z => h p List.mem_cons_self (e.trans z)]
        · rw [look_neg e, look_neg e, ih fun x hx => h x (List.mem_cons_of_mem _ hx)]
    exact h2 l fun x hx => by simpa using a x hx
theorem put_len {α : Type} {l : List (Str × α)} {n : Str} {v w : α} (h : look l n = some w) : (put l n v).length = l.length := by
  unfold put
  have a : (l.any fun p => decide (p.1 = n)) = true := by
    rw [List.any_eq_true]
    unfold look at h
    obtain ⟨p, hp, _⟩ := Option.map_eq_some_iff.mp h
    exact ⟨p, List.mem_of_find?_eq_some hp, by have := List.find?_some hp; simpa using this⟩
  rw [if_pos a, List.length_map]
/-- names in their order -/
def names {α : Type} (l : List (Str × α)) : List Str := l.map (·.1)
theorem put_names {α : Type} {l : List (Str × α)} {n : Str} {v w : α} (h : look l n = some w) : names (put l n v) = names l := by
  unfold put names
  have a : (l.any fun p => decide (p.1 = n)) = true := by
    rw [List.any_eq_true]
    unfold look at h
    obtain ⟨p, hp, _⟩ := Option.map_eq_some_iff.mp h
    exact ⟨p, List.mem_of_find?_eq_some hp, by have := List.find?_some hp; simpa using this⟩
  rw [if_pos a, List.map_map]
  refine List.map_congr_left fun p _ => ?_
  show (if p.1 = n then (p.1, v) else p).1 = p.1
  split <;> rfl
theorem look_mem {α : Type} {l : List (Str × α)} {n : Str} {v : α} (h : look l n = some v) : (n, v) ∈ l := by
  unfold look at h
  obtain ⟨p, hp, e⟩ := Option.map_eq_some_iff.mp h
  have h1 := List.mem_of_find?_eq_some hp
  have h2 : p.1 = n := by have := List.find?_some hp; simpa using this
  obtain ⟨a, b⟩ := p
  cases h2
  cases e
  exact h1
theorem look_some {α : Type} {n : Str} : ∀ {l : List (Str × α)}, n ∈ names l → ∃ v, look l n = some v
  | [], h => by cases h
  | p :: r, h => by
    by_cases e : p.1 = n
    · exact ⟨p.2, look_pos e⟩
    · rw [look_neg e]
      exact look_some (l := r) (by
        rcases List.mem_cons.mp h with q | q
        · exact absurd q.symm e
        · exact q)
theorem look_of_none {α : Type} {n : Str} : ∀ {l : List (Str × α)}, n ∉ names l → look l n = none
  | [], _ => rfl
  | p :: r, h => by
    rw [look_neg fun e => h (by rw [← e]; exact List.mem_cons_self)]
    exact look_of_none (l := r) fun m => h (List.mem_cons_of_mem _ m)
/-! ### for i, x in enumerate(t), t a tuple -/
theorem meets_enum_tup (l : Addr) (items : Array Value) :
    Meets (Builtin.«enumerate.__new__» ⟨[.type "enumerate", .ref l], []⟩) (fun _ R s => s.heap.IsTuple l items ∧
      R (.ok (.ret (.ref (s.heap.push { cls := .type "tuple_iterator", data := .fields #[.ref l, .int 0 0] }).objs.size)))
        { s with heap := (s.heap.push { cls := .type "tuple_iterator", data := .fields #[.ref l, .int 0 0] }).push { cls := .type "enumerate", data := .fields #[.none, .bool false, .ref s.heap.objs.size, rawInt 0, .none, .none] } }) :=
  .of_wp fun prog w A R s h => by
    obtain ⟨hp, g, d, tk, os⟩ := s; obtain ⟨hl, h⟩ := h
    have hsub := sub_enumerate
    wp_walk
    refine wpAny_stack_any fun st => wpAny_pure ?_
    split
    · rename_i c _ _ _ _ _
      cases (c == Value.type "enumerate")
      · wp_walk using wpAny_pyIter_tuple hl
        exact ⟨_, rfl, h⟩
      · wp_walk using wpAny_pyIter_tuple hl
        exact ⟨_, rfl, h⟩
    · wp_walk using wpAny_pyIter_tuple hl
      exact ⟨_, rfl, h⟩
theorem call_enum_tup {prog : Program} {w : World} {A : Around} {E : Value → Shared → Prop} {s : Shared} {l : Addr} {items : Array Value} {Q : Value → Shared → Prop} (hL : s.heap.IsTuple l items)
    (h : ∀ h', IsEnum h' (s.heap.objs.size + 1) s.heap.objs.size 0 .none → h'.IsTupleIter s.heap.objs.size l 0 → h'.objs.size = s.heap.objs.size + 2 →
      (∀ b o, s.heap.get? b = some o → h'.get? b = some o) → Q (.ref (s.heap.objs.size + 1)) { s with heap := h' }) :
    wpAny (model prog w) A (call (.type "enumerate") [.ref l]) Q E s := by
  refine callType_new F.called_enumerate (by decide) (F.typeCall_enumerate_1 _) (F.newCall_enumerate_1 _) (fun obj => F.args_object_init_2 obj _) F.entry_enumerate_new
    (meets_enum_tup l items) ⟨hL, ?_⟩
  have hz : (s.heap.push { cls := .type "tuple_iterator", data := .fields #[.ref l, .int 0 0] }).objs.size = s.heap.objs.size + 1 := Heap.size_push ..
  show _ ∧ _
  rw [hz]
  have he : IsEnum ((s.heap.push { cls := .type "tuple_iterator", data := .fields #[.ref l, .int 0 0] }).push
      { cls := .type "enumerate", data := .fields #[.none, .bool false, .ref s.heap.objs.size, rawInt 0, .none, .none] }) (s.heap.objs.size + 1) s.heap.objs.size 0 .none := by
    have := Heap.get?_push_size (s.heap.push { cls := .type "tuple_iterator", data := .fields #[.ref l, .int 0 0] })
      (o := { cls := .type "enumerate", data := .fields #[.none, .bool false, .ref s.heap.objs.size, rawInt 0, .none, .none] }) rfl
    rw [hz] at this; exact this
  refine ⟨⟨_, he, rfl⟩, h _ he ⟨_, Heap.get?_push_of_some _ (Heap.get?_push_size _ rfl), rfl, rfl⟩ (by rw [Heap.size_push, hz]) fun b o x => Heap.get?_push_of_some _ (Heap.get?_push_of_some _ x)⟩
theorem enum_endT {prog : Program} {w : World} {A : Around} {E : Value → Shared → Prop} {s : Shared} {e it l : Addr} {i : Nat} {items : Array Value} {old : Value} {Q : Option Value → Shared → Prop} (hh : A.in1.handled = none)
    (he : IsEnum s.heap e it i old) (hit : s.heap.IsTupleIter it l i) (hl : s.heap.IsTuple l items) (hx : items[i]? = none) (hQ : ∀ h', Heap.ExtBut it s.heap h' → Q none { s with heap := h' }) : wpAny (model prog w) A (pyNext (.ref e)) Q E s := by
  have hT : s.TypeIs (.ref e) "enumerate" := ⟨_, he, rfl⟩
  unfold pyNext
  refine wpAny_bind (wpAny_attempt (wpAny_callSpecial?_slot (name := Str.ofString "__next__") hT F.slot_enumerate_next
    (wpAny_call_entry F.slot_enumerate_next hT F.entry_enumerate_next ?_ (F.args_enumerate_next_1 _))))
  show wpAny _ _ (field (.ref e) 2 >>= _) _ _ _
  refine wpAny_bind (wpAny_field he rfl (x := .ref it) rfl ?_)
  refine wpAny_bind (wpAny_nextOf_tuple_end hh hit hl hx fun h' x he' hx' => ?_)
  obtain ⟨o, ho, hc⟩ := hx'
  refine wpAny_bind (wpAny_isInstance (T := "StopIteration") (b := true) ⟨o, ho, hc⟩ isSubtype_stop ?_)
  exact wpAny_pure (hQ _ he')
/-- the tuple at a, each item in a new pair -/
def IteT (K : PySem.W.Frag) (a : Addr) : It :=
  ⟨fun i H => ∃ (xs : List V) (x : V), SqT K H a xs ∧ xs[i]? = some x, fun i H v H' => ∃ T x, v = .ref T ∧ H T = none ∧ H' = upd H T (.tup [.int (i : Nat), x]) ∧ ∀ xs, SqT K H a xs → xs[i]? = some x, fun i H => ∃ xs : List V, SqT K H a xs ∧ xs.length ≤ i⟩
theorem turn_enumT {P : Program} {w : World} {K : PySem.W.Frag} {elts : List Expr} {kk : Nat} {tpos : Pos} (a e it : Addr) (hai : a ≠ it) (hae : e ≠ a) :
    Turn P w K (.Tuple elts kk tpos) (IteT K a) [e, it] e (fun i h => (∃ old, IsEnum h e it ((i : Nat) : Int) old) ∧ h.IsTupleIter it a i ∧ e ≠ it) where
  mem := by simp
  obj := fun i h st b hb => by
    obtain ⟨⟨old, he⟩, ⟨o, ho, hc, hd⟩, _⟩ := st
    have e' : b = e ∨ b = it := by simpa using hb
    rcases e' with z | z
    · rw [z]; exact ⟨_, he, fun v q => nomatch q⟩
    · rw [z]; exact ⟨o, ho, fun v q => by rw [hd] at q; cases q⟩
  keep := fun i h h' st k => let ⟨⟨old, he⟩, hi, hne⟩ := st; ⟨⟨old, k e (by simp) _ he⟩, hi.at fun o q => k it (by simp) o q, hne⟩
  item := by
    intro X hP hw hK hc i pins s σ H E I hf st hg
    subst hP hw hK
    obtain ⟨⟨old, he⟩, hit, hne⟩ := st
    obtain ⟨xs, x, hq, hx⟩ := hg
    obtain ⟨its, rv, p, hz⟩ := I.tuple hq
    obtain ⟨u, hu, ru⟩ := rv.get hx
    have hel : e < s.heap.objs.size := Heap.lt_size he
    have hil : it < s.heap.objs.size := by obtain ⟨_, q, _⟩ := hit; exact Heap.lt_size q
    have hh : X.A.in1.handled = none := I.ok.hd hc
    have hsz : i < its.toArray.size := by
      have := (List.getElem?_eq_some_iff.mp hu).1
      simpa using this
    refine wpAny_pyNext_enum_itemD (Draws.tuple (prog := X.prog) (w := X.w) (A := X.A.in1) hh it a hai its.toArray) he ⟨hit, p⟩ hsz hne (by simp [hne, hae]) fun y h' tk hy ho hst' hT hsz' hk => ?_
    have ey : y = u := by
      have h1 : its[i]? = some y := by simpa using hy
      rw [hu] at h1
      exact (Option.some.inj h1).symm
    subst ey
    refine ⟨_, rfl, wpAny_letOwnedTupleGo_enum (s := { s with heap := h', toks := tk + 1 }) ho fun h'' he' sb => ?_⟩
    have hT2 : h''.get? s.heap.objs.size = some { cls := .type "tuple", data := .seq #[.int i tk, y] } := (sb.2 _ (Nat.ne_of_gt hel)).trans hT
    have new : ObjOk X.prog X.w (upd H s.heap.objs.size (.tup [.int (i : Nat), x])) h'' s.heap.objs.size (.tup [.int (i : Nat), x]) :=
      ⟨by show 2 ≤ sizeLine; decide, [.int i tk, y], .cons ⟨_, rfl⟩ (.cons ru .nil), ⟨_, hT2, rfl, _, rfl⟩⟩
    have I1 : Inv X pins σ (upd H s.heap.objs.size (.tup [.int (i : Nat), x])) { s with heap := h'', toks := tk + 1 } :=
      I.turnedNew (ch := [e, it]) (fun b ob hb q => (sb.2 b (fun z => hb (by simp [z]))).trans (hk b ob (fun z => hb (by simp [z])) (fun z => hb (by simp [z])) q)) hf (Nat.le_refl _) new
    refine ⟨.ref s.heap.objs.size, _, I1, rfl, ⟨_, x, rfl, I.hok.fresh (Nat.le_refl _), rfl, fun ys hy' => by rw [I.tuple_inj hy' hq]; exact hx⟩, ⟨⟨y, ?_⟩, hst'.1.at fun o q => (sb.2 it (Ne.symm hne)).trans q, hne⟩, fun b hb => ?_⟩
    · have e1 : ((i + 1 : Nat) : Int) = (i : Int) + 1 := by omega
      rw [e1]; exact he'
    · have hb' : b < s.heap.objs.size := by
        have e' : b = e ∨ b = it := by simpa using hb
        rcases e' with z | z
        · rw [z]; exact hel
        · rw [z]; exact hil
      rw [upd_ne (Nat.ne_of_lt hb')]
      exact (hf b hb).1
  done := by
    intro X hP hw hK hc i pins s σ H E I hf st hg
    subst hP hw hK
    obtain ⟨⟨old, he⟩, hit, hne⟩ := st
    obtain ⟨xs, hq, hx⟩ := hg
    obtain ⟨its, rv, p, hz⟩ := I.tuple hq
    obtain ⟨f0, f1, f2, f3, f4, f5⟩ := hf it (by simp)
    have hl := rv.length
    have hh : X.A.in1.handled = none := I.ok.hd hc
    exact enum_endT hh he hit p (by simp; omega) fun h' eb => ⟨rfl, I.turned (t' := s.toks) (fun b o hb q => eb b o hb q) f0 f1 f3 f4 f5⟩
  self := fun A i s Q E st h => let ⟨⟨_, he⟩, _⟩ := st; wpAny_pyIter_enum he h
def iEnumT (K : PySem.W.Frag) (ta : TA) : TI := fun σ H R => ta σ H fun vs H1 => ∃ a xs, vs = [.ref a] ∧ SqT K H1 a xs ∧ R (IteT K a) H1
theorem pi_enumT {X : Cx} {e : Expr} {ta : TA} {p pos tpos : Pos} {elts : List Expr} {kk : Nat} (hg : Gl X "enumerate") (hm : X.mg "enumerate" = none) (ha : PA X [e] ta) (hs : starEach [e] X.env = [(false, eval e X.env)] := by rfl) :
    PI X (.Tuple elts kk tpos) (.Call (.Name "enumerate" p) [e] [] pos) (iEnumT X.K ta) := by
  refine ⟨fun pins s σ H R I h => ?_⟩
  refine PyProof.Rows.Call_ (ld_blt I hg hm PyProof.Rows.Boot.«enumerate» (PyProof.Rows.callWith_type1 (thn (ha.run pos pins s σ H _ I h) fun us s1 ⟨vs, H1, I1, r1, q1⟩ => ?_) hs rfl))
  obtain ⟨a, xs, ex, hq, q⟩ := q1
  subst ex
  cases r1 with
  | cons r rr =>
    cases rr
    cases r
    obtain ⟨its, rv, p', hz⟩ := I1.tuple hq
    have hal : a < s1.heap.objs.size := by obtain ⟨o, g, _⟩ := p'; exact Heap.lt_size g
    refine call_enum_tup p' fun h' he hit hsz hk => wpAny_pyIter_enum he ?_
    have I2 : Inv X pins σ H1 { s1 with heap := h' } := I1.kept (t' := s1.toks) hk
    refine ⟨s1.heap.objs.size + 1, [s1.heap.objs.size + 1, s1.heap.objs.size], _, _, H1, rfl, I2, turn_enumT a (s1.heap.objs.size + 1) s1.heap.objs.size (Nat.ne_of_lt hal) (Nat.ne_of_gt (Nat.lt_succ_of_lt hal)), ⟨⟨.none, he⟩, hit, Nat.succ_ne_self _⟩, fun b hb => ?_, q⟩
    have e' : b = s1.heap.objs.size + 1 ∨ b = s1.heap.objs.size := by simpa using hb
    have hle : s1.heap.objs.size ≤ b := by
      rcases e' with z | z
      · rw [z]; exact Nat.le_add_right _ _
      · rw [z]; exact Nat.le_refl _
    exact I1.fpOk hle (I1.hok.fresh hle)
/-- a loop over it -/
theorem for_enumT {K : PySem.W.Frag} {a : Addr} {xs : List V} {g : TG} {tb : TS} {D : Ends} {σ : L2.St} {H : Hp} (Pv : Nat → L2.St → Hp → Prop) (h0 : Pv 0 σ H) (hl : ∀ i σ H, i ≤ xs.length → Pv i σ H → SqT K H a xs)
    (hs : ∀ i x T σ H, xs[i]? = some x → H T = none → Pv i σ H → g (.ref T) σ (upd H T (.tup [.int (i : Nat), x])) fun σ2 H2 => tb { D with nx := Pv (i + 1), ct := Pv (i + 1), bk := D.nx } σ2 H2) (hd : ∀ σ H, Pv xs.length σ H → D.nx σ H) :
    ∃ W : Nat → Nat → L2.St → Hp → Prop, (∃ m, W 0 m σ H) ∧ ∀ i m σ H, W i m σ H →
      ((IteT K a).stop i H ∧ D.nx σ H) ∨ ((IteT K a).go i H ∧ ∃ N : L2.St → Hp → Prop, (∀ σ' H', N σ' H' → ∃ m', m' < m ∧ W (i + 1) m' σ' H') ∧ ∀ x H', (IteT K a).yld i H x H' → g x σ H' fun σ2 H2 => tb { D with nx := N, ct := N, bk := D.nx } σ2 H2) := by
  refine ⟨fun i m σ H => m = xs.length - i ∧ i ≤ xs.length ∧ Pv i σ H, ⟨xs.length, by simp, Nat.zero_le _, h0⟩, ?_⟩
  rintro i m σ H ⟨rfl, hi, p⟩
  have q := hl i σ H hi p
  by_cases hlt : i < xs.length
  · refine .inr ⟨⟨xs, xs[i], q, by simp [hlt]⟩, Pv (i + 1), fun σ' H' p' => ⟨xs.length - (i + 1), by omega, rfl, hlt, p'⟩, fun v H' y => ?_⟩
    obtain ⟨T, x, rfl, nT, rfl, y⟩ := y
    exact hs i x T σ _ (y xs q) nT p
  · have e : i = xs.length := by omega
    subst e
    exact .inl ⟨⟨xs, q, Nat.le_refl _⟩, hd σ H p⟩
/-! ### names -/
theorem low_ok : ∀ c, 97 ≤ c → c ≤ 122 → Unicode.isAlpha c = true ∧ Unicode.isLower c = true ∧ Unicode.isUpper c = false ∧ Unicode.isTitle c = false := by
  have h : ∀ k : Fin 26, Unicode.isAlpha (97 + k.val) = true ∧ Unicode.isLower (97 + k.val) = true ∧ Unicode.isUpper (97 + k.val) = false ∧ Unicode.isTitle (97 + k.val) = false := by decide +kernel
  intro c h1 h2
  have := h ⟨c - 97, by omega⟩
  rw [show 97 + (c - 97) = c by omega] at this
  exact this
/-- what is_name tells of a text -/
def nmS (z : Str) : Bool := !decide (8 < z.length) && (Txt.isascii z && (Txt.isalpha z && Txt.islower z))
def nmD : PyData → Bool
  | .str z => nmS z
  | _ => false
theorem IsWord.nm {z : Str} (h : IsWord z) : nmS z = true := by
  obtain ⟨h1, h2, h3⟩ := h
  have hm : ∀ c, c ∈ z.cps → 97 ≤ c ∧ c ≤ 122 := fun c hc => h3 c (Array.mem_toList_iff.mpr hc)
  have e1 : (!decide (8 < z.length)) = true := by simp; omega
  have e2 : Txt.isascii z = true := by
    unfold Txt.isascii
    rw [Array.all_eq_true_iff_forall_mem]
    intro c hc
    have := hm c hc
    exact decide_eq_true (by omega)
  have e3 : Txt.isalpha z = true := by
    unfold Txt.isalpha
    rw [Bool.and_eq_true]
    refine ⟨decide_eq_true (by omega), ?_⟩
    rw [Array.all_eq_true_iff_forall_mem]
    intro c hc
    exact (low_ok c (hm c hc).1 (hm c hc).2).1
  have e4 : Txt.islower z = true := by
    unfold Txt.islower
    rw [Bool.and_eq_true]
    have hz : 0 < z.cps.size := h1
    refine ⟨?_, ?_⟩
    · rw [← Array.any_toList, List.any_eq_true]
      exact ⟨z.cps[0], Array.mem_toList_iff.mpr (Array.getElem_mem hz), (low_ok _ (hm _ (Array.getElem_mem hz)).1 (hm _ (Array.getElem_mem hz)).2).2.1⟩
    · rw [Bool.not_eq_true', ← Array.any_toList, List.any_eq_false]
      intro c hc
      have hc := Array.mem_toList_iff.mp hc
      have := low_ok c (hm c hc).1 (hm c hc).2
      rw [this.2.2.1, this.2.2.2]
      simp
  unfold nmS
  rw [e1, e2, e3, e4]
  rfl
def spIsName (K : PySem.W.Frag) : Sp := fun vs H Q _ => ∃ (v : V) (d : PyData), vs = [v] ∧ Dp K H v d ∧ (∀ z, d = .str z → z.length ≤ 100000) ∧ Q (.bl (nmD d)) H
/-- never reached -/
theorem ps_never {X : Cx} {st : Stmt} : PS X st (fun _ _ _ => False) := ⟨fun _ _ _ _ _ _ h => h.elim⟩
section
variable {P : Program} {w : World} {K : PySem.W.Frag} {mg : Str → Option Value} {base : Heap}
theorem scIN : FnScope ["thing"] ["thing"] (defScope sIsName) := ⟨rfl, rfl, rfl, by decide +kernel, rfl, by decide +kernel, by decide +kernel⟩
theorem ok_isname {f : Addr} {fd : FuncData} {k : Nat} {tk : Tok} (F : Fun K "is_name" "is_name" sIsName f fd) (B : Bts mg) (mL : mg "LONGEST_NAME" = some (.int 8 tk)) : FnOk P w K mg base CX0 (k + 1) f fd ["thing"] (spIsName K) := by
  refine F.ok scIN (fun vs H Q E h => ?_) (fun cdv A outer s H vs Q E hr h => ?_)
  · obtain ⟨v, d, rfl, _⟩ := h
    rfl
  · obtain ⟨v, d, rfl, hv, hz, kk⟩ := h
    refine ⟨_, pss_cons (ps_if (PW.pt (pw_or (pt_not (pt_val (pe_callB call_isi (by rfl) B.isinstance (by decide +kernel) (pa_cons (pv 0) (pa_cons (pe_bltn (v := .ty "str") (by rfl) B.str (by decide +kernel) rfl) pa_nil)))))
          (pw_or1 (pt_cmpR op_gt (pe_callB call_len_str (by rfl) B.len PySem.boot_len (pa_cons (pv 0) pa_nil)) (pe_glob (v := .int 8) rfl mL ⟨tk, rfl⟩) (by rfl)))))
        (pss_one (ps_ret pe_bl)) pss_nil)
      (pss_one (ps_ret (pe_and (pe_bm0 PySem.F.plainAttrs_str PySem.F.slot_str_isascii PySem.F.type_str_isascii mt_isascii (pv 0))
        (pe_and (pe_bm0 PySem.F.plainAttrs_str PySem.F.slot_str_isalpha PySem.F.type_str_isalpha mt_isalpha (pv 0))
        (pe_one (pe_bm0 PySem.F.plainAttrs_str PySem.F.slot_str_islower PySem.F.type_str_islower mt_islower (pv 0))))))), ?_⟩
    by_cases hs : ∃ z, d = .str z
    · obtain ⟨z, rfl⟩ := hs
      have hl := hz z rfl
      cases hv
      refine ⟨_, rfl, _, _, _, _, true, rfl, .ty _, TyX.base (TyOf.str z), kit_ty (by decide +kernel), _, rfl, iteF ?_⟩
      refine ⟨_, rfl, z, rfl, Nat.le_trans hl (by decide), _, _, rfl, rfl, _, rfl, ite2 (fun h => ?_) (fun h => ?_)⟩
      · have h8 : 8 < z.length := by have := of_decide_eq_true h; omega
        have e : nmS z = false := by unfold nmS; rw [decide_eq_true h8]; rfl
        show Q (.bl false) H
        have kk : Q (.bl (nmS z)) H := kk
        rw [e] at kk
        exact kk
      · have h8 : ¬ 8 < z.length := fun q => h (decide_eq_true (by omega))
        have e : nmS z = (Txt.isascii z && (Txt.isalpha z && Txt.islower z)) := by unfold nmS; rw [decide_eq_false h8]; rfl
        have kk : Q (.bl (nmS z)) H := kk
        rw [e] at kk
        refine ⟨_, rfl, rfl, z, rfl, rfl, True.intro, _, rfl, ite2 (fun ha => ?_) (fun ha => ?_)⟩
        · rw [ha, Bool.true_and] at kk
          refine ⟨_, rfl, rfl, z, rfl, rfl, True.intro, _, rfl, ite2 (fun hb => ?_) (fun hb => ?_)⟩
          · rw [hb, Bool.true_and] at kk
            exact ⟨_, rfl, rfl, z, rfl, rfl, True.intro, kk⟩
          · rw [Bool.eq_false_iff.mpr hb, Bool.false_and] at kk
            exact kk
        · rw [Bool.eq_false_iff.mpr ha, Bool.false_and] at kk
          exact kk
    · have e : nmD d = false := by
        cases d with
        | str z => exact absurd ⟨z, rfl⟩ hs
        | _ => rfl
      have kt : kitB (tyName d) "str" = some false := by
        cases d with
        | str z => exact absurd ⟨z, rfl⟩ hs
        | none => exact (by decide +kernel : kitB "NoneType" "str" = some false)
        | bool b => exact (by decide +kernel : kitB "bool" "str" = some false)
        | int i => exact (by decide +kernel : kitB "int" "str" = some false)
        | list l => exact (by decide +kernel : kitB "list" "str" = some false)
        | tuple l => exact (by decide +kernel : kitB "tuple" "str" = some false)
        | dict l => cases hv
      rw [e] at kk
      exact ⟨_, rfl, _, _, _, _, false, rfl, .ty _, ty_of hv, kit_ty kt, _, rfl, iteT (iteT kk)⟩
/-- check_names(t): all are names -/
def spNames0 (K : PySem.W.Frag) : Sp := fun vs H Q _ => ∃ (t : Addr) (xs : List Str), vs = [.ref t] ∧ SqT K H t (xs.map V.str) ∧ (∀ x ∈ xs, IsWord x) ∧ Q .non H
theorem scCN : FnScope ["things", "thing"] ["things"] (defScope sNames) := ⟨rfl, rfl, rfl, by decide +kernel, rfl, by decide +kernel, by decide +kernel⟩
theorem ok_names0 {f fI : Addr} {fd fdI : FuncData} (F : Fun K "check_names" "check_names" sNames f fd) (GI : FnOk P w K mg base CX0 1 fI fdI ["thing"] (spIsName K)) (mI : mg "is_name" = some (.ref fI)) (kI : PySem.W.keepIn K (.ref fI) = true) (bI : Binds K fdI ["thing"] []) :
    FnOk P w K mg base CX0 2 f fd ["things"] (spNames0 K) := by
  refine F.ok scCN (fun vs H Q E h => ?_) (fun cdv A outer s H vs Q E hr h => ?_)
  · obtain ⟨t, xs, rfl, _⟩ := h
    rfl
  · obtain ⟨t, xs, rfl, ht, hw, kk⟩ := h
    refine ⟨_, pss_one (ps_for PassesOwn.never rfl (pi_tup (pv 0)) (pg_name (i := 1) scCN.nd rfl (.inl rfl))
      (pss_one (ps_if (pt_not (pt_val (pe_call GI hr (by rfl) mI kI bI .nil pass0 (pa_cons (pv 1) pa_nil)))) (pss_one ps_never) pss_nil))), ?_⟩
    refine ⟨_, rfl, t, rfl, ⟨_, ht⟩, for_tup (K := K) (a := t) (xs := xs.map V.str) (fun i σ H2 => ∃ y, σ = [some (.ref t), y] ∧ H2 = H) ⟨none, rfl, rfl⟩ (fun i σ H2 _ ⟨_, _, e⟩ => by rw [e]; exact ht) ?_ ?_⟩
    · rintro i x σ H2 hx ⟨y, rfl, rfl⟩
      rw [List.getElem?_map] at hx
      obtain ⟨z, hz, rfl⟩ := Option.map_eq_some_iff.mp hx
      have hwz := hw z (List.mem_of_getElem? hz)
      refine ⟨_, rfl, .str z, .str z, rfl, .str z, fun z' e => ?_, _, rfl, ?_⟩
      · cases e; have := hwz.2.1; omega
      · have e : nmD (.str z) = true := hwz.nm
        rw [e]
        exact iteF ⟨_, rfl, rfl⟩
    · rintro σ H2 ⟨y, rfl, rfl⟩
      exact kk
/-- check_unlike(t): all unlike -/
def spUnlike0 (K : PySem.W.Frag) : Sp := fun vs H Q _ => ∃ (t : Addr) (xs : List Str), vs = [.ref t] ∧ SqT K H t (xs.map V.str) ∧ xs.Nodup ∧ xs.length ≤ 1000 ∧ ∀ H', Same H H' → Q .non H'
theorem scCU : FnScope ["names", "at", "name"] ["names"] (defScope sUnlike) := ⟨rfl, rfl, rfl, by decide +kernel, rfl, by decide +kernel, by decide +kernel⟩
theorem ok_unlike0 {f : Addr} {fd : FuncData} {k : Nat} (F : Fun K "check_unlike" "check_unlike" sUnlike f fd) (me : mg "enumerate" = none) : FnOk P w K mg base CX0 (k + 1) f fd ["names"] (spUnlike0 K) := by
  refine F.ok scCU (fun vs H Q E h => ?_) (fun cdv A outer s H vs Q E hr h => ?_)
  · obtain ⟨t, xs, rfl, _⟩ := h
    rfl
  · obtain ⟨t, xs, rfl, ht, hn, hl, kk⟩ := h
    refine ⟨_, pss_one (ps_for PassesOwn.never rfl (pi_enumT (by rfl) me (pa_cons (pv 0) pa_nil)) (pg_tup rfl (pgs_cons (pg_name (i := 1) scCU.nd rfl (.inl rfl)) (pgs_cons (pg_name (i := 2) scCU.nd rfl (.inl rfl)) pgs_nil)))
      (pss_one (ps_if (pt_cmpR op_in_seq (pv 2) (pe_slice sl_tup (pv 0) po_none (po_some (pv 1))) (by rfl)) (pss_one ps_never) pss_nil))), ?_⟩
    refine ⟨_, rfl, t, _, rfl, ht, for_enumT (K := K) (a := t) (xs := xs.map V.str) (fun i σ H2 => ∃ y z, σ = [some (.ref t), y, z] ∧ Same H H2) ⟨none, none, rfl, Same.refl _⟩ (fun i σ H2 _ ⟨_, _, _, e⟩ => Same.seqT e ht) ?_ ?_⟩
    · rintro i x T σ H2 hx nT ⟨y, z, rfl, s2⟩
      rw [List.getElem?_map] at hx
      obtain ⟨u, hu, rfl⟩ := Option.map_eq_some_iff.mp hx
      have hi : i < xs.length := (List.getElem?_eq_some_iff.mp hu).1
      have s3 := s2.trans (same_new (o := .tup [.int (i : Nat), .str u]) nT)
      have ht3 := Same.seqT s3 ht
      refine ⟨T, [.int (i : Nat), .str u], rfl, SqT.of upd_same, rfl, .int (i : Nat), [.str u], rfl, .str u, [], rfl, rfl, ?_⟩
      refine ⟨_, rfl, _, rfl, _, rfl, i, rfl, t, _, rfl, ht3, ?_, fun p np => ?_⟩
      · rintro ⟨_, h2⟩
        rw [HT.sIx_nat, List.length_map] at h2
        omega
      · rw [cut_take]
        refine ⟨p, _, rfl, .inr (SqT.of upd_same), rfl, ?_, _, rfl, ?_⟩
        · rw [List.all_eq_true]
          intro v hv
          obtain ⟨w', _, rfl⟩ := List.mem_map.mp (List.mem_of_mem_take hv)
          rfl
        · have e : inV (.str u) ((xs.map V.str).take i) = false := by
            unfold inV
            rw [List.any_eq_false]
            intro v hv
            rw [← List.map_take] at hv
            obtain ⟨w', hw', rfl⟩ := List.mem_map.mp hv
            obtain ⟨j, hj⟩ := List.getElem?_of_mem hw'
            intro q
            have q' : w' = u := beq_iff_eq.mp q
            subst q'
            rw [List.getElem?_take] at hj
            split at hj
            · rename_i hji
              obtain ⟨h1, e1⟩ := List.getElem?_eq_some_iff.mp hj
              obtain ⟨h2, e2⟩ := List.getElem?_eq_some_iff.mp hu
              exact (List.pairwise_iff_getElem.mp hn) j i h1 h2 hji (e1.trans e2.symm)
            · cases hj
          rw [e]
          exact iteF ⟨_, _, rfl, s3.trans (same_new np)⟩
    · rintro σ H2 ⟨y, z, rfl, s2⟩
      exact kk H2 s2
end
/-! ### _law_names -/
theorem abc_is (k : Nat) (h : k < 26) : abc.cps.toList[k]? = some (97 + k) := by
  have all : ∀ k : Fin 26, abc.cps.toList[k.val]? = some (97 + k.val) := by decide +kernel
  exact all ⟨k, h⟩
theorem cps_app (a b : Str) : (a ++ b).cps.toList = a.cps.toList ++ b.cps.toList := by
  show (a.cps ++ b.cps).toList = _
  rw [Array.toList_append]
/-- the sign that tells a name from the others -/
def signOf (fr : Bool) (z : Str) : Option Nat := if fr = true then z.cps.toList.head? else z.cps.toList.getLast?
theorem sign_front (c : Nat) (w : Str) : signOf true ((⟨#[c]⟩ : Str) ++ w) = some c := by
  unfold signOf
  rw [if_pos rfl, cps_app]
  rfl
theorem sign_back (c : Nat) (w : Str) : signOf false (w ++ (⟨#[c]⟩ : Str)) = some c := by
  unfold signOf
  rw [if_neg (by decide), cps_app]
  show (w.cps.toList ++ [c]).getLast? = some c
  rw [List.getLast?_append]
  rfl
theorem signs_nodup {fr : Bool} {ns : List Str} (h : ∀ (j : Nat) (z : Str), ns[j]? = some z → signOf fr z = some (97 + j)) : ns.Nodup := by
  refine List.pairwise_iff_getElem.mpr fun i j hi hj hij e => ?_
  have h1 := h i _ (List.getElem?_eq_getElem hi)
  have h2 := h j _ (List.getElem?_eq_getElem hj)
  rw [e, h2] at h1
  have := Option.some.inj h1
  omega
theorem strLen_one (c : Nat) : (⟨#[c]⟩ : Str).length = 1 := rfl
def spLNames : Sp := fun vs H Q _ => ∃ (p q : Addr) (n many : Nat), vs = [.ref p, .int (many : Int)] ∧ PoolAt H p q n ∧ n < 900000 ∧ many ≤ 26 ∧
  ∀ (r : Addr) (ns : List Str) (n' : Nat) (H' : Hp), H r = none → ns.length = many → (∀ x ∈ ns, IsWord x) → ns.Nodup → n ≤ n' → n' ≤ n + 2 + 8 * many → PoolAt H' p q n' → Keeps p q H H' → H' r = some (.lst (ns.map V.str)) → Q (.ref r) H'
section
variable {P : Program} {w : World} {K : PySem.W.Frag} {mg : Str → Option Value} {base : Heap}
theorem scLN : FnScope ["pool", "many", "letters", "size", "front", "names", "k", "word", "j"] ["pool", "many"] (defScope sLNames) := ⟨rfl, rfl, rfl, by decide +kernel, rfl, by decide +kernel, by decide +kernel⟩
theorem ok_lnames {f fD : Addr} {fd fdD : FuncData} (F : Fun K "_law_names" "_law_names" sLNames f fd) (GD : FnOk P w K mg base CX0 1 fD fdD ["pool", "many"] spDraw) (mD : mg "_law_draw" = some (.ref fD)) (kD : PySem.W.keepIn K (.ref fD) = true)
    (bD : Binds K fdD ["pool", "many"] []) (mr : mg "range" = none) : FnOk P w K mg base CX0 2 f fd ["pool", "many"] spLNames := by
  refine F.ok scLN (fun vs H Q E h => ?_) (fun cdv A outer s H vs Q E hr h => ?_)
  · obtain ⟨p, q, n, many, rfl, _⟩ := h
    rfl
  · obtain ⟨p, q, n, many, rfl, hP, hn, hm, kk⟩ := h
    refine ⟨_, pss_cons (ps_set (i := 2) scLN.nd rfl (.inr rfl) pe_str)
      (pss_cons (ps_set (i := 3) scLN.nd rfl (.inl rfl) (pe_call GD hr (by rfl) mD kD bD .nil pass0 (pa_cons (pv 0) (pa_cons pe_int pa_nil))))
      (pss_cons (ps_set (i := 4) scLN.nd rfl (.inl rfl) (pe_call GD hr (by rfl) mD kD bD .nil pass0 (pa_cons (pv 0) (pa_cons pe_int pa_nil))))
      (pss_cons (ps_set (i := 5) scLN.nd rfl (.inl rfl) (pe_lst pa_nil))
      (pss_cons (ps_for PassesOwn.never rfl (pi_range1 (by rfl) mr (pa_cons (pv 1) pa_nil)) (pg_name (i := 6) scLN.nd rfl (.inl rfl))
        (pss_cons (ps_set (i := 7) scLN.nd rfl (.inl rfl) (pe_join pe_str (pe_lc (own := [("j", 8)]) (g := gName 8) (tt := tYes) rfl scLN.nd
            (pi_range1 (by rfl) mr (pa_cons (pv 3) pa_nil)) (blkOk_by (N := ["pool", "many", "letters", "size", "front", "names", "k", "word", "j"]) (sc := defScope sLNames) (by decide +kernel))
            (fun _ _ _ _ _ => pg_name (i := 8) scLN.nd rfl (.inl rfl)) (fun _ _ _ _ _ => pts_nil)
            (fun _ _ _ _ _ => pe_ix ix_str (pv 2) (pe_call GD hr (by rfl) mD kD bD .nil pass0 (pa_cons (pv 0) (pa_cons pe_int pa_nil))) (fun _ _ => rfl)))))
        (pss_one (ps_expr (pe_bm PySem.F.plainAttrs_list PySem.F.slot_list_append PySem.F.type_list_append mt_append (pv 5)
          (pa_cons (pe_ifExp (pt_truth (pv 4) (by intro _; rfl)) (pe_op op_add_str (pe_ix ix_str (pv 2) (pv 6) (fun _ _ => rfl)) (pv 7)) (pe_op op_add_str (pv 7) (pe_ix ix_str (pv 2) (pv 6) (fun _ _ => rfl)))) pa_nil))))))
      (pss_one (ps_ret (pv 5))))))), ?_⟩
    refine ⟨.ref p, rfl, p, q, n, 8, rfl, hP, by omega, by decide, by decide, fun d H1 h0 h1 P1 K1 => ?_⟩
    refine ⟨.ref p, rfl, p, q, n + 1, 2, rfl, P1, by omega, by decide, by decide, fun fr H2 f0 f1 P2 K2 => ?_⟩
    refine ⟨by show 0 ≤ sizeLine; decide, fun r nr => ?_⟩
    have K12 : Keeps p q H H2 := K1.trans K2
    have alv : Alive [p, q] H2 := P2.alive
    have nrp : r ≠ p := fun z => alv.not nr (by rw [z]; exact List.mem_cons_self)
    have nrq : r ≠ q := fun z => alv.not nr (by rw [z]; exact List.mem_cons_of_mem _ List.mem_cons_self)
    have nrH : H r = none := K12.free nr nrp nrq
    have er : (upd H2 r (.lst [])) r = some (.lst (([] : List Str).map V.str)) := upd_same
    have P3 : PoolAt (upd H2 r (.lst [])) p q (n + 2) := P2.new nr
    have K3 : Keeps p q H (upd H2 r (.lst [])) := K12.trans (.upd_new nr)
    generalize upd H2 r (.lst []) = H3 at *
    have fb : ∃ fb : Bool, fb = (fr != 0) := ⟨_, rfl⟩
    obtain ⟨fb, efb⟩ := fb
    refine ⟨_, rfl, many, rfl, by omega, by omega, for_range (lo := 0) (n := many) (fun i σ H4 => ∃ (y6 y7 : Option V) (ns : List Str) (m : Nat), σ = [some (.ref p), some (.int (many : Int)), some (.str abc), some (.int d), some (.int fr), some (.ref r), y6, y7, none] ∧
        H4 r = some (.lst (ns.map V.str)) ∧ ns.length = i ∧ (∀ x ∈ ns, IsWord x) ∧ (∀ (j : Nat) (z : Str), ns[j]? = some z → signOf fb z = some (97 + j)) ∧ n ≤ m ∧ m ≤ n + 2 + 8 * i ∧ PoolAt H4 p q m ∧ (∀ x o, x ≠ p → x ≠ q → x ≠ r → H3 x = some o → H4 x = some o))
      ⟨none, none, [], n + 2, rfl, er, rfl, fun x h => (by cases h), fun j z h => (by simp at h), by omega, by omega, P3, fun x o _ _ _ e => e⟩ ?_ ?_⟩
    · rintro i σ H4 hi ⟨y6, y7, ns, m, rfl, eN, el, hw, hsg, hm1, hm2, P4, K4⟩
      refine ⟨⟨_, rfl⟩, .int d, rfl, d, rfl, by omega, by omega, fun D nD => ?_⟩
      obtain ⟨op, ep⟩ := P4.p_some
      obtain ⟨oq, eq⟩ := P4.q_some
      have nDp : D ≠ p := (ne_of_none ep nD).symm
      have nDq : D ≠ q := (ne_of_none eq nD).symm
      have nDr : D ≠ r := (ne_of_none eN nD).symm
      refine lc_range (lo := 0) (n := d.toNat) (fun j H5 => ∃ ys : List Str, H5 D = some (.lst (ys.map V.str)) ∧ ys.length = j ∧ (∀ y ∈ ys, ∃ c, y = ⟨#[c]⟩ ∧ 97 ≤ c ∧ c ≤ 122) ∧ PoolAt H5 p q (m + j) ∧ Keeps p q H4 H5)
        ⟨[], upd_same, rfl, fun y hy => (by cases hy), P4.new nD, .upd_new nD⟩ (fun j H5 hj hI => ?_) (fun H5 hI => ?_)
      · obtain ⟨ys, eD, el2, hy, P5, K5⟩ := hI
        refine ⟨rfl, ?_⟩
        refine ⟨_, rfl, _, rfl, p, q, m + j, 26, rfl, P5, by omega, by decide, by decide, fun d2 H6 h02 h12 P6 K6 => ?_⟩
        obtain ⟨c, ec, hc1, hc2⟩ := abc_at d2 h02 h12
        have eD6 : H6 D = some (.lst (ys.map V.str)) := K6 D _ nDp nDq eD
        refine ⟨abc, d2, c, rfl, rfl, by rw [abc_len]; decide, ec, _, eD6, small1000 (by rw [List.length_map]; omega), ys ++ [⟨#[c]⟩], ?_, by simp [el2], fun y hm => ?_, ?_, ?_⟩
        · rw [upd_same, List.map_append]; rfl
        · rcases List.mem_append.mp hm with hm | hm
          · exact hy y hm
          · exact ⟨c, List.mem_singleton.mp hm, hc1, hc2⟩
        · have e : m + (j + 1) = m + j + 1 := by omega
          rw [e]
          obtain ⟨npq, cs, b, c0, e1, e2, r⟩ := P6
          exact ⟨npq, cs, b, c0, by rw [upd_ne nDp.symm]; exact e1, by rw [upd_ne nDq.symm]; exact e2, r⟩
        · intro x o hx1 hx2 nH
          have ex := K6 x o hx1 hx2 (K5 x o hx1 hx2 nH)
          by_cases hxD : x = D
          · subst hxD
            rw [nH] at nD
            cases nD
          · rw [upd_ne hxD]; exact ex
      · obtain ⟨ys, eD, el2, hy, P5, K5⟩ := hI
        obtain ⟨j1, j2⟩ := join_letters (sep := "") (by decide +kernel) ys hy
        have e1 : ∀ y ∈ ys, y.length = 1 := fun y hm => by
          obtain ⟨c, rfl, _⟩ := hy y hm
          rfl
        have e2 : (ys.map (·.length)).sum = ys.length := sum_ones _ e1
        refine ⟨_, D, ys, rfl, rfl, .inl (SqL.of eD), ?_, ?_⟩
        · rw [e2, show (Str.ofString "").length = 0 by decide +kernel]; omega
        rw [show Txt.join _ ys = Str.join _ ys from StrLaws.glued_eq_join _ _]
        generalize hwd : Str.join _ ys = wd at j1 j2 ⊢
        have eN5 : H5 r = some (.lst (ns.map V.str)) := K5 r _ nrp nrq eN
        have hk : abc.cps.toList[i]? = some (97 + i) := abc_is i (by omega)
        have hat : atI abc.cps.toList (0 + (i : Int)) = some (97 + i) := by rw [Int.zero_add]; exact atI_nat hk
        have fin : ∀ z : Str, IsWord z → signOf fb z = some (97 + i) → ∃ (y6 y7 : Option V) (ns' : List Str) (m' : Nat), [some (V.ref p), some (.int (many : Int)), some (.str abc), some (.int d), some (.int fr), some (.ref r), some (.int (0 + (i : Int))), some (.str wd), none] = [some (V.ref p), some (.int (many : Int)), some (.str abc), some (.int d), some (.int fr), some (.ref r), y6, y7, none] ∧
            (upd H5 r (.lst (ns.map V.str ++ [.str z]))) r = some (.lst (ns'.map V.str)) ∧ ns'.length = i + 1 ∧ (∀ x ∈ ns', IsWord x) ∧ (∀ (j : Nat) (z : Str), ns'[j]? = some z → signOf fb z = some (97 + j)) ∧ n ≤ m' ∧ m' ≤ n + 2 + 8 * (i + 1) ∧ PoolAt (upd H5 r (.lst (ns.map V.str ++ [.str z]))) p q m' ∧ (∀ x o, x ≠ p → x ≠ q → x ≠ r → H3 x = some o → (upd H5 r (.lst (ns.map V.str ++ [.str z]))) x = some o) := fun z hz hs => by
          refine ⟨_, _, ns ++ [z], m + d.toNat, rfl, by rw [upd_same, List.map_append]; rfl, by rw [List.length_append, el]; rfl, fun x hx => ?_, fun j z' ej => ?_, by omega, by omega, ?_, fun x o h1 h2 h3 e => ?_⟩
          · rcases List.mem_append.mp hx with hx | hx
            · exact hw x hx
            · rw [List.mem_singleton.mp hx]; exact hz
          · by_cases q1 : j < ns.length
            · rw [List.getElem?_append_left q1] at ej
              exact hsg j z' ej
            · rw [List.getElem?_append_right (by omega)] at ej
              have ej0 : j = i := by
                have := (List.getElem?_eq_some_iff.mp ej).1
                simp only [List.length_cons, List.length_nil] at this
                omega
              subst ej0
              rw [el, Nat.sub_self] at ej
              cases Option.some.inj ej
              exact hs
          · obtain ⟨npq, cs, b, c0, e1, e2, r'⟩ := P5
            exact ⟨npq, cs, b, c0, by rw [upd_ne nrp.symm]; exact e1, by rw [upd_ne nrq.symm]; exact e2, r'⟩
          · rw [upd_ne h3]
            exact K5 x o h1 h2 (K4 x o h1 h2 h3 e)
        have len1 : ∀ c : Nat, (⟨#[c]⟩ : Str).length = 1 := fun _ => rfl
        have l8 : ys.length = d.toNat := el2
        refine ⟨_, rfl, .inl ⟨rfl, _, SqL.of eN5⟩, _, rfl, fb, ?_, ?_⟩
        · rw [efb]; rfl
        · cases efb2 : fb with
          | true =>
            rw [efb2] at fin
            refine iteT ⟨_, rfl, _, rfl, abc, _, _, rfl, rfl, by rw [abc_len]; decide, hat, _, rfl, _, _, rfl, rfl, ?_, ?_⟩
            · rw [len1]; exact len1000 (by omega)
            · refine ⟨r, _, _, rfl, rfl, eN5, small1000 (by rw [List.length_map]; omega), ?_⟩
              refine fin _ ⟨?_, ?_, fun c hc => ?_⟩ (sign_front _ _)
              · rw [strLen_append, len1]; omega
              · rw [strLen_append, len1]; omega
              · rw [cps_app] at hc
                rcases List.mem_append.mp hc with hc | hc
                · rw [List.mem_singleton.mp hc]; omega
                · exact j2 c hc
          | false =>
            rw [efb2] at fin
            refine iteF ⟨_, rfl, _, rfl, _, rfl, abc, _, _, rfl, rfl, by rw [abc_len]; decide, hat, _, _, rfl, rfl, ?_, ?_⟩
            · rw [len1]; exact len1000 (by omega)
            · refine ⟨r, _, _, rfl, rfl, eN5, small1000 (by rw [List.length_map]; omega), ?_⟩
              refine fin _ ⟨?_, ?_, fun c hc => ?_⟩ (sign_back _ _)
              · rw [strLen_append, len1]; omega
              · rw [strLen_append, len1]; omega
              · rw [cps_app] at hc
                rcases List.mem_append.mp hc with hc | hc
                · exact j2 c hc
                · rw [List.mem_singleton.mp hc]; omega
    · rintro σ H4 ⟨y6, y7, ns, m, rfl, eN, el, hw, hsg, hm1, hm2, P4, K4⟩
      refine ⟨_, rfl, ?_⟩
      exact kk r ns m H4 nrH el hw (signs_nodup hsg) hm1 hm2 P4 (fun x o h1 h2 e => K4 x o h1 h2 (ne_of_none e nrH) (K3 x o h1 h2 e)) eN
end
theorem put_new {α : Type} {l : List (Str × α)} {n : Str} {v : α} (h : n ∉ names l) : put l n v = l ++ [(n, v)] := by
  unfold put
  rw [if_neg]
  intro q
  obtain ⟨p, hp, e⟩ := List.any_eq_true.mp q
  exact h (List.mem_map.mpr ⟨p, hp, of_decide_eq_true e⟩)
/-! ### settings -/
abbrev Md := List (Str × Str)
def mkv (m : Md) : List (Key × V) := kvs (m.map fun p => (p.1, V.str p.2))
def mget (m : Md) (n : Str) : Str := (look m n).getD "out"
def mset (m : Md) (n v : Str) : Md := if v = "out" then m.filter (fun p => decide (p.1 ≠ n)) else put m n v
def modesW : List Str := ["out", "deaf", "on"]
structure MdOk (m : Md) : Prop where
  nd : (names m).Nodup
  ok : ∀ p ∈ m, IsWord p.1 ∧ (p.2 = "on" ∨ p.2 = "deaf")
  len : m.length ≤ 60
def SetAt (S : Addr) (H : Hp) (x d : Addr) (m : Md) : Prop := ∃ dx, H x = some (.ins S dx [("_modes", .ref d)]) ∧ H d = some (.dK (mkv m))
theorem SetAt.same {S x d : Addr} {H H' : Hp} {m : Md} (s : Same H H') (h : SetAt S H x d m) : SetAt S H' x d m := by
  obtain ⟨dx, h1, h2⟩ := h
  exact ⟨dx, s _ _ h1, s _ _ h2⟩
theorem SetAt.ne {S x d : Addr} {H : Hp} {m : Md} (h : SetAt S H x d m) : x ≠ d := fun e => by
  obtain ⟨dx, h1, h2⟩ := h
  rw [e, h2] at h1; cases h1
theorem look_map {α β : Type} (g : α → β) (n : Str) : ∀ m : List (Str × α), look (m.map fun p => (p.1, g p.2)) n = (look m n).map g
  | [] => rfl
  | p :: r => by
    rw [List.map_cons]
    by_cases e : p.1 = n
    · rw [look_pos (p := (p.1, g p.2)) e, look_pos e]; rfl
    · rw [look_neg (p := (p.1, g p.2)) e, look_neg e, look_map g n r]
theorem mkv_get (m : Md) (n : Str) : valV (mkv m) (Sum.inr n) = (look m n).map V.str := by
  unfold mkv
  rw [valV_kvs, look_map]
theorem mkv_len (m : Md) : (mkv m).length = m.length := by unfold mkv; rw [kvs_len, List.length_map]
theorem put_map {α β : Type} (g : α → β) (n : Str) (v : α) (m : List (Str × α)) : put (m.map fun p => (p.1, g p.2)) n (g v) = (put m n v).map fun p => (p.1, g p.2) := by
  unfold put
  have e : ((m.map fun p => (p.1, g p.2)).any fun p => decide (p.1 = n)) = m.any fun p => decide (p.1 = n) := by
    rw [List.any_map]; rfl
  rw [e]
  split
  · rw [List.map_map, List.map_map]
    refine List.map_congr_left fun p _ => ?_
    show (if p.1 = n then (p.1, g v) else (p.1, g p.2)) = ((if p.1 = n then (p.1, v) else p).1, g (if p.1 = n then (p.1, v) else p).2)
    split <;> rfl
  · rw [List.map_append]; rfl
theorem mkv_put (m : Md) (n v : Str) : putK (mkv m) (Sum.inr n) (.str v) = mkv (put m n v) := by
  unfold mkv
  rw [putK_kvs, put_map V.str]
theorem mkv_drop (m : Md) (n : Str) : dropK (mkv m) (Sum.inr n) = mkv (m.filter fun p => decide (p.1 ≠ n)) := by
  unfold dropK mkv kvs
  rw [List.map_map, List.map_map, List.filter_map]
  congr 1
  refine List.filter_congr fun p _ => ?_
  show decide ((Sum.inr p.1 : Key) ≠ Sum.inr n) = decide (p.1 ≠ n)
  exact decide_eq_decide.mpr ⟨fun h z => h (by rw [z]), fun h z => h (Sum.inr.inj z)⟩
theorem mkv_keys (m : Md) : (mkv m).map (·.1) = (names m).map Sum.inr := by
  unfold mkv kvs names
  rw [List.map_map, List.map_map, List.map_map]; rfl
theorem filter_id {m : Md} {n : Str} (h : look m n = none) : m.filter (fun p => decide (p.1 ≠ n)) = m := by
  rw [List.filter_eq_self]
  intro p hp
  refine decide_eq_true fun e => ?_
  obtain ⟨v, hv⟩ := look_some (l := m) (n := n) (List.mem_map.mpr ⟨p, hp, e⟩)
  rw [h] at hv; cases hv
/-- what the class must have -/
structure StC (K : PySem.W.Frag) (mg : Str → Option Value) (S : Addr) : Prop where
  m : mg "Setting" = some (.ref S)
  cls : Cls K S
  nm : NoAttr K S "_modes"
  rd : ClX.CRead K S (.type "type")
  cO : ∃ u, ClX.CVal K S (.type "type") "OUT" (.str "out") u
  cD : ∃ u, ClX.CVal K S (.type "type") "DEAF" (.str "deaf") u
  cN : ∃ u, ClX.CVal K S (.type "type") "ON" (.str "on") u
def spGetI (S : Addr) : Sp := fun vs H Q _ => ∃ (x d : Addr) (m : Md) (n : Str), vs = [.ref x, .str n] ∧ SetAt S H x d m ∧ IsWord n ∧ ∀ H', Same H H' → Q (.str (mget m n)) H'
def spSetI (S : Addr) : Sp := fun vs H Q _ => ∃ (x d : Addr) (m : Md) (n v : Str), vs = [.ref x, .str n, .str v] ∧ SetAt S H x d m ∧ IsWord n ∧ v ∈ modesW ∧ m.length ≤ 60 ∧
  ∀ H', (∀ b o, b ≠ d → H b = some o → H' b = some o) → SetAt S H' x d (mset m n v) → Q .non H'
def spCont (S : Addr) : Sp := fun vs H Q _ => ∃ (x d : Addr) (m : Md) (n : Str), vs = [.ref x, .str n] ∧ SetAt S H x d m ∧ Q (.bl (look m n).isSome) H
def spSLen (S : Addr) : Sp := fun vs H Q _ => ∃ (x d : Addr) (m : Md), vs = [.ref x] ∧ SetAt S H x d m ∧ Q (.int (m.length : Int)) H
def spNms (S : Addr) : Sp := fun vs H Q _ => ∃ (x d : Addr) (m : Md), vs = [.ref x] ∧ SetAt S H x d m ∧ m.length ≤ 60 ∧ ∀ (ys : List Str) (p : Addr), ys.Perm (names m) → PyProof.Rows.sortedS ys = true → H p = none → Q (.ref p) (upd H p (.lst (ys.map V.str)))
section
variable {P : Program} {w : World} {K : PySem.W.Frag} {mg : Str → Option Value} {base : Heap}
theorem scGi : FnScope ["self", "name"] ["self", "name"] (defScope (se 8)) := ⟨rfl, rfl, rfl, by decide +kernel, rfl, by decide +kernel, by decide +kernel⟩
theorem ok_geti {f S fC : Addr} {fd fdC : FuncData} (T : StC K mg S) (F : Fun K "__getitem__" "Setting.__getitem__" (se 8) f fd) (GC : FnOk P w K mg base CX0 2 fC fdC ["things"] (spNames0 K)) (mC : mg "check_names" = some (.ref fC)) (kC : PySem.W.keepIn K (.ref fC) = true) (bC : Binds K fdC ["things"] []) : FnOk P w K mg base CX0 3 f fd ["self", "name"] (spGetI S) := by
  refine F.ok scGi (fun vs H Q E h => ?_) (fun cdv A outer s H vs Q E hr h => ?_)
  · obtain ⟨x, d, m, n, rfl, _⟩ := h
    rfl
  · obtain ⟨x, d, m, n, rfl, hx, hw, kk⟩ := h
    have hrC : Room 2 _ := hr
    have hu := hu_of hr
    refine ⟨_, pss_cons (ps_expr (pe_call GC hrC (by rfl) mC kC bC .nil pass0 (pa_cons (pe_tup (pa_cons (pv 1) pa_nil)) pa_nil)))
      (pss_one (ps_ret (pe_dget2 hu (pe_fld (pv 0) rfl) (pv 1) (ClX.pe_cval (pe_glob (v := .ref S) rfl T.m rfl)) ⟨rfl, rfl, rfl, rfl⟩))), ?_⟩
    obtain ⟨dx, h1, h2⟩ := hx
    obtain ⟨u, hO⟩ := T.cO
    refine ⟨_, rfl, by show 1 ≤ sizeLine; decide, fun t nt => ?_⟩
    have s1 := same_new (o := .tup [.str n]) nt
    refine ⟨t, [n], rfl, SqT.of upd_same, fun x hx => ?_, ?_⟩
    · rw [List.mem_singleton.mp hx]; exact hw
    refine ⟨_, rfl, x, S, dx, _, _, rfl, s1 _ _ h1, T.cls, T.nm, rfl, d, rfl, .inl ⟨_, .inl (s1 _ _ h2)⟩, _, rfl, S, _, _, u, rfl, T.rd, hO, _, DGet.k (k := Sum.inr n) (s1 _ _ h2), ?_⟩
    rw [mkv_get]
    have e : ((look m n).map V.str).getD (V.str "out") = V.str (mget m n) := by unfold mget; cases look m n <;> rfl
    rw [e]
    exact kk _ s1
theorem scCm : FnScope ["mode"] ["mode"] (defScope sCheckMode) := ⟨rfl, rfl, rfl, by decide +kernel, rfl, by decide +kernel, by decide +kernel⟩
theorem inV_strs {x : Str} {xs : List Str} (h : x ∈ xs) : inV (.str x) (xs.map V.str) = true := by
  unfold inV
  rw [List.any_eq_true]
  exact ⟨.str x, List.mem_map.mpr ⟨x, h, rfl⟩, by show (x == x) = true; simp⟩
theorem flat_strs (xs : List Str) : (xs.map V.str).all flatV = true := by
  rw [List.all_eq_true]
  intro v hv
  obtain ⟨y, _, rfl⟩ := List.mem_map.mp hv
  rfl
/-- a written tuple of words -/
def TupW (K : PySem.W.Frag) (t : Addr) (ws : List Str) : Prop := ∀ H, SqT K H t (ws.map V.str)
def spCheckM : Sp := fun vs H Q _ => ∃ v, vs = [.str v] ∧ v ∈ modesW ∧ Q .non H
theorem ok_checkmode {f tM : Addr} {fd : FuncData} {k : Nat} (F : Fun K "_check_mode" "_check_mode" sCheckMode f fd) (mM : mg "MODES" = some (.ref tM)) (hM : TupW K tM modesW) : FnOk P w K mg base CX0 (k + 1) f fd ["mode"] spCheckM := by
  refine F.ok scCm (fun vs H Q E h => ?_) (fun cdv A outer s H vs Q E hr h => ?_)
  · obtain ⟨v, rfl, _⟩ := h
    rfl
  · obtain ⟨v, rfl, hv, kk⟩ := h
    refine ⟨_, pss_one (ps_if (pt_cmpR op_notIn_seq (pv 0) (pe_glob (v := .ref tM) rfl mM rfl) (by rfl)) (pss_one ps_never) pss_nil), ?_⟩
    refine ⟨_, rfl, tM, _, rfl, .inr (hM H), rfl, flat_strs _, _, rfl, ?_⟩
    show (if (!inV (V.str v) (modesW.map V.str)) = true then _ else _)
    rw [inV_strs hv]
    exact iteF kk
theorem scSi : FnScope ["self", "name", "mode"] ["self", "name", "mode"] (defScope (se 9)) := ⟨rfl, rfl, rfl, by decide +kernel, rfl, by decide +kernel, by decide +kernel⟩
theorem ok_seti {f S fC fM : Addr} {fd fdC fdM : FuncData} (T : StC K mg S) (F : Fun K "__setitem__" "Setting.__setitem__" (se 9) f fd) (GC : FnOk P w K mg base CX0 2 fC fdC ["things"] (spNames0 K)) (mC : mg "check_names" = some (.ref fC)) (kC : PySem.W.keepIn K (.ref fC) = true) (bC : Binds K fdC ["things"] [])
    (GM : FnOk P w K mg base CX0 1 fM fdM ["mode"] spCheckM) (mM : mg "_check_mode" = some (.ref fM)) (kM : PySem.W.keepIn K (.ref fM) = true) (bM : Binds K fdM ["mode"] []) : FnOk P w K mg base CX0 3 f fd ["self", "name", "mode"] (spSetI S) := by
  refine F.ok scSi (fun vs H Q E h => ?_) (fun cdv A outer s H vs Q E hr h => ?_)
  · obtain ⟨x, d, m, n, v, rfl, _⟩ := h
    rfl
  · obtain ⟨x, d, m, n, v, rfl, hx, hw, hv, hl, kk⟩ := h
    have hrC : Room 2 _ := hr
    have hrM : Room 1 _ := hr.mono (by decide)
    have hu := hu_of hr
    refine ⟨_, pss_cons (ps_expr (pe_call GC hrC (by rfl) mC kC bC .nil pass0 (pa_cons (pe_tup (pa_cons (pv 1) pa_nil)) pa_nil)))
      (pss_cons (ps_expr (pe_call GM hrM (by rfl) mM kM bM .nil pass0 (pa_cons (pv 2) pa_nil)))
      (pss_one (ps_if (pt_cmpR op_eq (pv 2) (ClX.pe_cval (pe_glob (v := .ref S) rfl T.m rfl)) (nomark _))
        (pss_one (ps_expr (pe_dpop2 (pe_fld (pv 0) rfl) (pv 1) pe_non ⟨rfl, rfl, rfl, rfl⟩)))
        (pss_one (ps_dput hu (pe_fld (pv 0) rfl) (pv 1) (pv 2) rfl))))), ?_⟩
    have nxd := hx.ne
    obtain ⟨dx, h1, h2⟩ := hx
    obtain ⟨u, hO⟩ := T.cO
    refine ⟨_, rfl, by show 1 ≤ sizeLine; decide, fun t nt => ?_⟩
    have s1 := same_new (o := .tup [.str n]) nt
    refine ⟨t, [n], rfl, SqT.of upd_same, fun x hx => ?_, ?_⟩
    · rw [List.mem_singleton.mp hx]; exact hw
    have e1 := s1 _ _ h1
    have e2 := s1 _ _ h2
    generalize upd H t (.tup [.str n]) = H1 at *
    have fin : ∀ m', mset m n v = m' → Q .non (upd H1 d (.dK (mkv m'))) := fun m' em => by
      refine kk _ (fun b o nb e => by rw [upd_ne nb]; exact s1 _ _ e) ⟨dx, by rw [upd_ne nxd]; exact e1, ?_⟩
      rw [em]; exact upd_same
    refine ⟨_, rfl, v, rfl, hv, ?_⟩
    refine ⟨_, rfl, S, _, _, u, rfl, T.rd, hO, rfl, _, rfl, ite2 (fun hz => ?_) (fun hz => ?_)⟩
    · have ev : v = "out" := V.str.inj (of_decide_eq_true hz)
      refine ⟨_, rfl, x, S, dx, _, _, rfl, e1, T.cls, T.nm, rfl, d, rfl, .inl ⟨_, .inl e2⟩, _, rfl, _, Sum.inr n, e2, rfl, fun z hz => ?_, fun hz => ?_⟩
      · rw [mkv_drop]
        exact fin _ (by unfold mset; rw [if_pos ev])
      · rw [mkv_get] at hz
        have hn : look m n = none := by cases e : look m n with
          | none => rfl
          | some y => rw [e] at hz; cases hz
        have := fin m (by unfold mset; rw [if_pos ev]; exact filter_id hn)
        have eu : upd H1 d (.dK (mkv m)) = H1 := by
          funext b
          by_cases e : b = d
          · rw [e, upd_same, e2]
          · rw [upd_ne e]
        rw [eu] at this
        exact this
    · have ev : ¬ v = "out" := fun e => hz (decide_eq_true (by rw [e]))
      refine ⟨_, rfl, _, rfl, x, S, dx, _, _, rfl, e1, T.cls, T.nm, rfl, _, rfl, d, _, rfl, DPut.k (k := Sum.inr n) e2 (small1000 (by rw [mkv_len]; omega)), ?_⟩
      rw [mkv_put]
      exact fin _ (by unfold mset; rw [if_neg ev])
theorem scCo : FnScope ["self", "name"] ["self", "name"] (defScope (se 11)) := ⟨rfl, rfl, rfl, by decide +kernel, rfl, by decide +kernel, by decide +kernel⟩
theorem ok_scont {f S : Addr} {fd : FuncData} {k : Nat} (T : StC K mg S) (B : Bts mg) (F : Fun K "__contains__" "Setting.__contains__" (se 11) f fd) : FnOk P w K mg base CX0 (k + 1) f fd ["self", "name"] (spCont S) := by
  refine F.ok scCo (fun vs H Q E h => ?_) (fun cdv A outer s H vs Q E hr h => ?_)
  · obtain ⟨x, d, m, n, rfl, _⟩ := h
    rfl
  · obtain ⟨x, d, m, n, rfl, ⟨dx, h1, h2⟩, kk⟩ := h
    have hu := hu_of hr
    refine ⟨_, pss_one (ps_ret (pe_and (pe_callB call_isi (by rfl) B.isinstance (by decide +kernel) (pa_cons (pv 1) (pa_cons (pe_bltn (v := .ty "str") (by rfl) B.str (by decide +kernel) rfl) pa_nil))) (pe_one (pe_cmp (pc_din hu (pv 1) (pe_fld (pv 0) rfl)))))), ?_⟩
    refine ⟨_, rfl, _, _, _, _, true, rfl, .ty _, ty_of (K := K) (H := H) (.str n), kit_ty (by decide +kernel : kitB "str" "str" = some true), _, rfl, iteT ?_⟩
    refine ⟨_, rfl, _, rfl, x, S, dx, _, _, rfl, h1, T.cls, T.nm, rfl, d, _, rfl, DGet.k (k := Sum.inr n) h2, ?_⟩
    rw [mkv_get]
    have e : ((look m n).map V.str).isSome = (look m n).isSome := by cases look m n <;> rfl
    rw [e]
    exact kk
theorem scLn : FnScope ["self"] ["self"] (defScope (se 12)) := ⟨rfl, rfl, rfl, by decide +kernel, rfl, by decide +kernel, by decide +kernel⟩
theorem ok_slen {f S : Addr} {fd : FuncData} {k : Nat} (T : StC K mg S) (B : Bts mg) (F : Fun K "__len__" "Setting.__len__" (se 12) f fd) : FnOk P w K mg base CX0 (k + 1) f fd ["self"] (spSLen S) := by
  refine F.ok scLn (fun vs H Q E h => ?_) (fun cdv A outer s H vs Q E hr h => ?_)
  · obtain ⟨x, d, m, rfl, _⟩ := h
    rfl
  · obtain ⟨x, d, m, rfl, ⟨dx, h1, h2⟩, kk⟩ := h
    refine ⟨_, pss_one (ps_ret (pe_callB call_lenD (by rfl) B.len PySem.boot_len (pa_cons (pe_fld (pv 0) rfl) pa_nil))), ?_⟩
    refine ⟨_, rfl, x, S, dx, _, _, rfl, h1, T.cls, T.nm, rfl, d, _, rfl, h2, ?_⟩
    rw [mkv_len]
    exact kk
theorem scNa : FnScope ["self"] ["self"] (defScope (se 5)) := ⟨rfl, rfl, rfl, by decide +kernel, rfl, by decide +kernel, by decide +kernel⟩
theorem ok_nms {f S : Addr} {fd : FuncData} {k : Nat} (T : StC K mg S) (msorted : mg "sorted" = none) (F : Fun K "names" "Setting.names" (se 5) f fd) : FnOk P w K mg base CX0 (k + 1) f fd ["self"] (spNms S) := by
  refine F.ok scNa (fun vs H Q E h => ?_) (fun cdv A outer s H vs Q E hr h => ?_)
  · obtain ⟨x, d, m, rfl, _⟩ := h
    rfl
  · obtain ⟨x, d, m, rfl, ⟨dx, h1, h2⟩, hl, kk⟩ := h
    refine ⟨_, pss_one (ps_ret (pe_callB (call_sortedD rfl) (by rfl) msorted (by decide +kernel) (pa_cons (pe_fld (pv 0) rfl) pa_nil))), ?_⟩
    exact ⟨_, rfl, x, S, dx, _, _, rfl, h1, T.cls, T.nm, rfl, d, _, names m, rfl, .inl h2, mkv_keys m, by unfold names; rw [List.length_map]; omega, fun ys p hp hs np => kk ys p hp hs np⟩
end
/-! ### name = {..: .. for ..} on one line, the name a local -/
section
open PySem.Spec PyProof.Rows
theorem sw_trueD {kx vx : Expr} {gs : List Comprehension} {scope : Scope} {pos py : Pos} {y : Str} {l : Nat} {env : Env} (hk : env.scope.kind = .function) (hy : env.scope.names.lookup y = some .local) (hl : (py.line == pos.line) = true) (ha : (scope.names.any fun (n, k) => n == y && (k == .local || k == .cell)) = false) : swapsWith (.DictComp kx vx gs scope pos) (some (.Name y py)) l env = pure true := by
  have hb : env.blockKind = .function := (by unfold Env.blockKind; rw [hk]; rfl)
  have hq : env.kindOf y = some .local := hy
  unfold swapsWith
  show pure ((env.blockKind == .function) && (env.kindOf y == some .local) && (py.line == pos.line) && !(scope.names.any fun (n, k) => n == y && (k == .local || k == .cell))) = _
  rw [hb, hq, hl, ha]
  rfl
variable {X : Cx}
theorem ps_setDc {i : Nat} {y : Str} {py : Pos} {kx vx tg iter : Expr} {ifs : List Expr} {scope : Scope} {own : List (Str × Nat)} {pos spos : Pos} {wi : TI} {g : TG} {tt : TT} {tk tv : TE} (hc : X.calm = true) (hN : X.N.Nodup) (hy : X.N[i]? = some y) (hyl : X.env.scope.names.lookup y = some .local)
    (hsw : swapsWith (.DictComp kx vx [⟨tg, iter, ifs, 0⟩] scope pos) (some (.Name y py)) spos.line X.env = pure true) (hi : PI X tg iter wi) (ok : BlkOk X.N X.env.scope scope own)
    (hg : ∀ (s : Shared) (H : Hp) (C : Addr) (cl : List (Str × Addr)) (fp : List Addr), PG (X.blk s H scope (compEnvC scope cl C X.env) fp) tg g) (ht : ∀ (s : Shared) (H : Hp) (C : Addr) (cl : List (Str × Addr)) (fp : List Addr), PTs (X.blk s H scope (compEnvC scope cl C X.env) fp) ifs tt) (hk : ∀ (s : Shared) (H : Hp) (C : Addr) (cl : List (Str × Addr)) (fp : List Addr), PE (X.blk s H scope (compEnvC scope cl C X.env) fp) kx tk) (he : ∀ (s : Shared) (H : Hp) (C : Addr) (cl : List (Str × Addr)) (fp : List Addr), PE (X.blk s H scope (compEnvC scope cl C X.env) fp) vx tv)
    (hs : ∀ x, foldedSetIterable iter X.env x = pure x := by intro _; rfl) : PS X (.Assign [.Name y py] (.DictComp kx vx [⟨tg, iter, ifs, 0⟩] scope pos) spos) (tAsg (tDc wi g tt tk tv (own.map (·.2))) (gName i)) := by
  refine ⟨fun pins s σ H D I h => ?_⟩
  have h2 : tDc wi g tt tk tv (own.map (·.2)) σ H (fun x H1 => gName i x σ H1 D.nx) := h
  rw [exec_Assign_Name_used _ _ _ _ hsw]
  refine wpAny_bind (wpAny_standAt (wpAny_bind ?_))
  show wpAny _ X.A (do let _ ← comprehension (.DictComp kx vx [⟨tg, iter, ifs, 0⟩] scope pos) scope X.env (firstIterPos [⟨tg, iter, ifs, 0⟩] pos) newDict false (eval iter X.env) (some (assign (.Name y py) X.env))) _ _ s
  refine wpAny_bind (thn (dc_core (Qf := fun _ s' => SP X pins D .next s') hc hN I hi ok hg ht hk he hs h2 fun L C s' m H' I' q hn f => ?_) fun _ s' hq => wpAny_pure (wpAny_pure hq))
  show wpAny _ _ (assign (.Name y py) X.env (.ref L)) _ _ _
  obtain ⟨f0, f1, f2, f3, f4, f5⟩ := f; refine wpAny_assign_Name (store_ok2 (v := V.ref L) I' hN hy (.inl hyl) rfl (fun s2 I2 hh => ?_) (.inr hyl))
  obtain ⟨a, sb, ha⟩ := hh
  have haC : C ≠ a := ha.elim (fun z => by rw [z]; exact f1) fun z e => f4 y a z e.symm
  exact ⟨m, hn.sameBut sb haC, fun h3 sb3 => ⟨_, H', I2.turned (t' := s2.toks) (fun b o hb e => (sb3.2 b hb).trans e) f0 f1 f3 f4 f5, q⟩⟩
end
/-! ### settings made -/
theorem lc_keys {d : Addr} {o : Obj} {l : List (Key × V)} {g : TG} {tt : TT} {te : TE} {vs : List Nat} {σ : L2.St} {H1 : Hp} {D : Addr} {Qd : Hp → Prop} (Pv : Nat → Hp → Prop) (h0 : Pv 0 (upd H1 D (.lst []))) (hl : ∀ i H, i ≤ l.length → Pv i H → H d = some (.frz o (.dK l)))
    (hs : ∀ i k v H, l[i]? = some (k, v) → Pv i H → g (kV k) (wipe σ vs) H fun σ2 H2 => wipe σ2 vs = wipe σ vs ∧ tt σ2 H2 fun b H3 =>
      if b = true then te σ2 H3 fun y H4 => ∃ acc, H4 D = some (.lst acc) ∧ acc.length < sizeLine ∧ Pv (i + 1) (upd H4 D (.lst (acc ++ [y]))) else Pv (i + 1) H3) (hd : ∀ H, Pv l.length H → Qd H) :
    ∃ W : Nat → Nat → Hp → Prop, (∃ m, W 0 m (upd H1 D (.lst []))) ∧ ∀ i m H, W i m H →
      ((Itk d o l).stop i H ∧ Qd H) ∨ ((Itk d o l).go i H ∧ ∃ Nx : Hp → Prop, (∀ H', Nx H' → ∃ m', m' < m ∧ W (i + 1) m' H') ∧ ∀ x H', (Itk d o l).yld i H x H' → g x (wipe σ vs) H' fun σ2 H2 => wipe σ2 vs = wipe σ vs ∧ tt σ2 H2 fun b H3 =>
        if b = true then te σ2 H3 fun y H4 => ∃ acc, H4 D = some (.lst acc) ∧ acc.length < sizeLine ∧ Nx (upd H4 D (.lst (acc ++ [y]))) else Nx H3) := by
  refine ⟨fun i m H => m = l.length - i ∧ i ≤ l.length ∧ Pv i H, ⟨_, rfl, Nat.zero_le _, h0⟩, fun i m H ⟨em, hi, p⟩ => ?_⟩
  have q := hl i H hi p
  rcases Nat.lt_or_ge i l.length with hlt | hge
  · refine .inr ⟨⟨q, hlt⟩, Pv (i + 1), fun H' p' => ⟨l.length - (i + 1), by omega, rfl, hlt, p'⟩, fun x H' hy => ?_⟩
    obtain ⟨rfl, k, v, ek, rfl⟩ := hy
    exact hs i k v _ ek p
  · obtain rfl : i = l.length := by omega
    exact .inl ⟨⟨q, hge⟩, hd H p⟩
theorem for_keys {d : Addr} {o : Obj} {l : List (Key × V)} {g : TG} {tb : TS} {D : Ends} {σ : L2.St} {H : Hp} (Pv : Nat → L2.St → Hp → Prop) (h0 : Pv 0 σ H) (hl : ∀ i σ H, i ≤ l.length → Pv i σ H → H d = some (.frz o (.dK l)))
    (hs : ∀ i k v σ H, l[i]? = some (k, v) → Pv i σ H → g (kV k) σ H fun σ2 H2 => tb { D with nx := Pv (i + 1), ct := Pv (i + 1), bk := D.nx } σ2 H2) (hd : ∀ σ H, Pv l.length σ H → D.nx σ H) :
    ∃ W : Nat → Nat → L2.St → Hp → Prop, (∃ m, W 0 m σ H) ∧ ∀ i m σ H, W i m σ H →
      ((Itk d o l).stop i H ∧ D.nx σ H) ∨ ((Itk d o l).go i H ∧ ∃ N : L2.St → Hp → Prop, (∀ σ' H', N σ' H' → ∃ m', m' < m ∧ W (i + 1) m' σ' H') ∧ ∀ x H', (Itk d o l).yld i H x H' → g x σ H' fun σ2 H2 => tb { D with nx := N, ct := N, bk := D.nx } σ2 H2) := by
  refine ⟨fun i m σ H => m = l.length - i ∧ i ≤ l.length ∧ Pv i σ H, ⟨_, rfl, Nat.zero_le _, h0⟩, fun i m σ H ⟨em, hi, p⟩ => ?_⟩
  have q := hl i σ H hi p
  rcases Nat.lt_or_ge i l.length with hlt | hge
  · refine .inr ⟨⟨q, hlt⟩, Pv (i + 1), fun σ' H' p' => ⟨l.length - (i + 1), by omega, rfl, hlt, p'⟩, fun x H' hy => ?_⟩
    obtain ⟨rfl, k, v, ek, rfl⟩ := hy
    exact hs i k v σ _ ek p
  · obtain rfl : i = l.length := by omega
    exact .inl ⟨⟨q, hge⟩, hd σ H p⟩
def pairsW (m : Str) (ns : List Str) : Md := ns.map fun n => (n, m)
theorem pairsW_names (m : Str) (ns : List Str) : names (pairsW m ns) = ns := by
  unfold names pairsW
  rw [List.map_map]
  conv => rhs; rw [← List.map_id ns]
  rfl
/-- __init__(self, deaf, on), bound -/
def spInit3 (K : PySem.W.Frag) (S : Addr) : Sp := fun vs H Q _ => ∃ (x dx p t : Addr) (ds ns : List Str), vs = [.ref x, .ref p, .ref t] ∧ H x = some (.ins S dx []) ∧ (SqT K H p (ds.map V.str) ∨ SqL K H p (ds.map V.str)) ∧ SqT K H t (ns.map V.str) ∧ (ns ++ ds).Nodup ∧ (∀ z ∈ ns ++ ds, IsWord z) ∧ (ns ++ ds).length ≤ 60 ∧
  ∀ (H' : Hp) (d : Addr), H d = none → (∀ b o, b ≠ x → H b = some o → H' b = some o) → SetAt S H' x d (pairsW "on" ns ++ pairsW "deaf" ds) → Q .non H'
section
variable {P : Program} {w : World} {K : PySem.W.Frag} {mg : Str → Option Value} {base : Heap}
theorem scIn : FnScope ["self", "deaf", "on", "modes", "name"] ["self", "deaf", "on"] (defScope (se 3)) := ⟨rfl, rfl, rfl, by decide +kernel, rfl, by decide +kernel, by decide +kernel⟩
theorem init3 {f S fC fU : Addr} {fdC fdU : FuncData} {cdv : Value} (T : StC K mg S) (GC : FnOk P w K mg base CX0 2 fC fdC ["things"] (spNames0 K)) (mC : mg "check_names" = some (.ref fC)) (kC : PySem.W.keepIn K (.ref fC) = true) (bC : Binds K fdC ["things"] [])
    (GU : FnOk P w K mg base CX0 2 fU fdU ["names"] (spUnlike0 K)) (mU : mg "check_unlike" = some (.ref fU)) (kU : PySem.W.keepIn K (.ref fU) = true) (bU : Binds K fdU ["names"] []) :
    ∀ (A : Around) (outer : List Env) (s : Shared) (H : Hp) (vs : List V) (Q : VK) (E : XK), Room 2 (A.deeper (PyProof.Rows.envOfC "Setting.__init__" (defScope (se 3)) s.heap.objs.size f cdv)) → spInit3 K S vs H Q E →
      ∃ t, PSs (cxOf CX0 P w K mg base ["self", "deaf", "on", "modes", "name"] "Setting.__init__" (defScope (se 3)) f cdv A outer s H E) (defBody (se 3)) t ∧ t { nx := fun _ H' => Q .non H', rt := Q } (L2.start ["self", "deaf", "on", "modes", "name"] vs) H := by
  intro A outer s H vs Q E hr h
  obtain ⟨x, dx, p, t, ds, ns, rfl, hx, hp, ht, hnd, hw, hl, kk⟩ := h
  have hrC : Room 2 _ := hr
  have hrU := hrC
  have hu := hu_of hr
  obtain ⟨uN, hN⟩ := T.cN
  obtain ⟨uD, hD⟩ := T.cD
  refine ⟨_, PSs.nox (pss_cons (ps_expr (pe_call GC hrC (by rfl) mC kC bC .nil pass0 (pa_cons (pe_tup (StX.pa_star (pv 2) (StX.pa_star (pv 1) pa_nil))) pa_nil)))
      (pss_cons (ps_expr (pe_call GU hrU (by rfl) mU kU bU .nil pass0 (pa_cons (pe_tup (StX.pa_star (pv 2) (StX.pa_star (pv 1) pa_nil))) pa_nil)))
      (pss_cons (ps_setDc (i := 3) (own := [("name", 4)]) (g := gName 4) (tt := tYes) (tk := tVar 4) (tv := ClX.tCVal K (tC (.ref S)) "ON") rfl scIn.nd rfl rfl (sw_trueD rfl rfl rfl (by decide +kernel)) (pi_tup (pv 2)) (blkOk_by (N := ["self", "deaf", "on", "modes", "name"]) (sc := defScope (se 3)) (by decide +kernel))
          (fun _ _ _ _ _ => pg_name (i := 4) scIn.nd rfl (.inl rfl)) (fun _ _ _ _ _ => pts_nil) (fun _ _ _ _ _ => pv 4) (fun _ _ _ _ _ => ClX.pe_cval (pe_glob (v := .ref S) rfl T.m rfl)))
      (pss_cons (ps_for PassesOwn.never rfl (pi_seq (pv 1)) (pg_name (i := 4) scIn.nd rfl (.inl rfl))
        (pss_one (ps_dput hu (pv 3) (pv 4) (ClX.pe_cval (pe_glob (v := .ref S) rfl T.m rfl)) rfl)))
      (pss_one (ps_fld (pv 0) (pv 3) rfl)))))), ?_⟩
  have e0 : ns.map V.str ++ (ds.map V.str ++ []) = (ns ++ ds).map V.str := by rw [List.append_nil, List.map_append]
  -- the names are looked at
  refine ⟨_, rfl, t, _, rfl, .inl ht, _, rfl, p, _, rfl, hp, ?_, fun c nc => ?_⟩
  · rw [e0, List.length_map]; exact len1000 (by omega)
  rw [e0]
  have s1 := same_new (o := .tup ((ns ++ ds).map V.str)) nc
  have e1 : (upd H c (.tup ((ns ++ ds).map V.str))) c = some (.tup ((ns ++ ds).map V.str)) := upd_same
  generalize upd H c (.tup ((ns ++ ds).map V.str)) = H1 at *
  have hp1 : SqT K H1 p (ds.map V.str) ∨ SqL K H1 p (ds.map V.str) := hp.imp (fun h => Same.seqT s1 h) (fun h => s1.seq h)
  refine ⟨c, ns ++ ds, rfl, SqT.of e1, hw, ?_⟩
  refine ⟨_, rfl, t, _, rfl, .inl (Same.seqT s1 ht), _, rfl, p, _, rfl, hp1, ?_, fun c2 nc2 => ?_⟩
  · rw [e0, List.length_map]; exact len1000 (by omega)
  rw [e0]
  have s2 := same_new (o := .tup ((ns ++ ds).map V.str)) nc2
  have e2 : (upd H1 c2 (.tup ((ns ++ ds).map V.str))) c2 = some (.tup ((ns ++ ds).map V.str)) := upd_same
  have s12 := s1.trans s2
  generalize upd H1 c2 (.tup ((ns ++ ds).map V.str)) = H2 at *
  refine ⟨c2, ns ++ ds, rfl, SqT.of e2, hnd, by omega, fun H3 s3 => ?_⟩
  have s13 := s12.trans s3
  have ht3 := Same.seqT s13 ht
  have hp3 : SqT K H3 p (ds.map V.str) ∨ SqL K H3 p (ds.map V.str) := hp.imp (fun h => Same.seqT s13 h) (fun h => s13.seq h)
  clear e1 e2 hp1 s1 s2 s12 s3 ht hp
  have n1 : ns.Nodup := (List.nodup_append.mp hnd).1
  -- those that are on
  refine ⟨_, rfl, t, rfl, ⟨_, ht3⟩, fun D nD => ?_⟩
  refine dc_tup (K := K) (a := t) (xs := ns.map V.str) (fun i H4 => H4 D = some (.dK (mkv (pairsW "on" (ns.take i)))) ∧ Same H3 H4) ⟨upd_same, same_new nD⟩ (fun i H4 _ hI => Same.seqT hI.2 ht3) (fun i y H4 hy hI => ?_) fun H4 hI => ?_
  · obtain ⟨eD, s4⟩ := hI
    rw [List.getElem?_map] at hy
    obtain ⟨n, hn, rfl⟩ := Option.map_eq_some_iff.mp hy
    have hi : i < ns.length := (List.getElem?_eq_some_iff.mp hn).1
    refine ⟨rfl, ?_⟩
    refine ⟨_, rfl, S, _, _, uN, rfl, T.rd, hN, _, Sum.inr n, rfl, eD, small1000 (by rw [mkv_len]; unfold pairsW; rw [List.length_map, List.length_take]; have : (ns ++ ds).length = ns.length + ds.length := List.length_append; omega), ?_, fun b o e => ?_⟩
    · rw [upd_same, mkv_put]
      have hno : n ∉ names (pairsW "on" (ns.take i)) := by
        rw [pairsW_names]
        intro hm
        obtain ⟨j, hj⟩ := List.getElem?_of_mem hm
        rw [List.getElem?_take] at hj
        split at hj
        · rename_i hji
          obtain ⟨h1, e1⟩ := List.getElem?_eq_some_iff.mp hj
          obtain ⟨h2, e2⟩ := List.getElem?_eq_some_iff.mp hn
          exact (List.pairwise_iff_getElem.mp n1) j i h1 h2 hji (e1.trans e2.symm)
        · cases hj
      rw [put_new hno, List.take_succ, hn]
      unfold pairsW
      rw [List.map_append]
      rfl
    · rw [upd_ne (ne_of_none e nD)]; exact s4 b o e
  obtain ⟨eD, s4⟩ := hI
  rw [List.length_map, List.take_length] at eD
  have s14 := s13.trans s4
  have m34 : Same H3 (mask [D] H4) := (mask_new (l := []) nD).trans (mask_same s4)
  have hp4 : SqT K (mask [D] H4) p (ds.map V.str) ∨ SqL K (mask [D] H4) p (ds.map V.str) := hp3.imp (fun h => Same.seqT m34 h) (fun h => m34.seq h)
  have nxD : D ≠ x := (ne_of_none (s13 _ _ hx) nD).symm
  have nDH : H D = none := s13.free nD
  -- the end
  have fin : ∀ (H5 : Hp), H5 D = some (.dK (mkv (pairsW "on" ns ++ pairsW "deaf" ds))) → Same (mask [D] H4) H5 → Q .non (upd H5 x (.ins S dx (putF "_modes" (.ref D) []))) := fun H5 e5 k5 => by
    have nDb : ∀ b o, H b = some o → b ≠ D := fun b o e => ne_of_none e nDH
    refine kk _ D nDH (fun b o nb e => by rw [upd_ne nb]; exact k5 b o (by rw [mask_out (fun m => nDb b o e (List.mem_singleton.mp m))]; exact s14 b o e)) ⟨dx, upd_same, ?_⟩
    rw [upd_ne nxD]
    exact e5
  have step : ∀ (i : Nat) (n : Str) (H5 : Hp), ds[i]? = some n → H5 D = some (.dK (mkv (pairsW "on" ns ++ pairsW "deaf" (ds.take i)))) → (mkv (pairsW "on" ns ++ pairsW "deaf" (ds.take i))).length < sizeLine ∧ putK (mkv (pairsW "on" ns ++ pairsW "deaf" (ds.take i))) (Sum.inr n) (.str "deaf") = mkv (pairsW "on" ns ++ pairsW "deaf" (ds.take (i + 1))) := fun i n H5 hn _ => by
    have hno : n ∉ names (pairsW "on" ns ++ pairsW "deaf" (ds.take i)) := by
      have e : names (pairsW "on" ns ++ pairsW "deaf" (ds.take i)) = ns ++ ds.take i := by
        have := pairsW_names "on" ns
        have := pairsW_names "deaf" (ds.take i)
        unfold names at *
        rw [List.map_append]
        simp only [*]
      rw [e]
      obtain ⟨h1, h2, h3⟩ := List.nodup_append.mp hnd
      intro hm
      rcases List.mem_append.mp hm with hm | hm
      · exact h3 n hm n (List.mem_of_getElem? hn) rfl
      · obtain ⟨j, hj⟩ := List.getElem?_of_mem hm
        rw [List.getElem?_take] at hj
        split at hj
        · rename_i hji
          obtain ⟨g1, e1⟩ := List.getElem?_eq_some_iff.mp hj
          obtain ⟨g2, e2⟩ := List.getElem?_eq_some_iff.mp hn
          exact (List.pairwise_iff_getElem.mp h2) j i g1 g2 hji (e1.trans e2.symm)
        · cases hj
    have hi : i < ds.length := (List.getElem?_eq_some_iff.mp hn).1
    refine ⟨small1000 ?_, ?_⟩
    · rw [mkv_len, List.length_append]
      unfold pairsW
      rw [List.length_map, List.length_map, List.length_take]
      have : (ns ++ ds).length = ns.length + ds.length := List.length_append
      omega
    · rw [mkv_put, put_new hno, List.take_succ, hn, List.append_assoc]
      unfold pairsW
      rw [List.map_append]
      rfl
  have e00 : mkv (pairsW "on" ns ++ pairsW "deaf" (ds.take 0)) = mkv (pairsW "on" ns) := by
    rw [List.take_zero]; show mkv (pairsW "on" ns ++ []) = _; rw [List.append_nil]
  rcases hp4 with hp4 | hp4
  · have hp4u := Same.seqT (mask_sub [D] H4) hp4
    refine .inr ⟨_, rfl, p, rfl, ⟨_, hp4u⟩, for_tup (K := K) (a := p) (xs := ds.map V.str) (fun i σ H5 => ∃ y, σ = [some (.ref x), some (.ref p), some (.ref t), some (.ref D), y] ∧ H5 D = some (.dK (mkv (pairsW "on" ns ++ pairsW "deaf" (ds.take i)))) ∧ Same (mask [D] H4) H5)
      ⟨_, rfl, by rw [e00]; exact eD, mask_sub _ _⟩ (fun i σ H5 _ hI => ?_) ?_ ?_⟩
    · obtain ⟨_, _, _, k5⟩ := hI
      exact Same.seqT k5 hp4
    · rintro i y σ H5 hy ⟨z, rfl, e5, k5⟩
      rw [List.getElem?_map] at hy
      obtain ⟨n, hn, rfl⟩ := Option.map_eq_some_iff.mp hy
      obtain ⟨g1, g2⟩ := step i n H5 hn e5
      refine ⟨S, _, _, uD, rfl, T.rd, hD, _, rfl, _, rfl, D, _, rfl, DPut.k (k := Sum.inr n) e5 g1, ?_⟩
      rw [g2]
      refine ⟨_, rfl, upd_same, fun b o e => ?_⟩
      have nb : b ≠ D := fun z => by rw [z, mask_in List.mem_cons_self] at e; cases e
      rw [upd_ne nb]
      exact k5 b o e
    · rintro σ H5 ⟨z, rfl, e5, k5⟩
      rw [List.length_map, List.take_length] at e5
      have hx5 : H5 x = some (.ins S dx []) := k5 _ _ (by rw [mask_out (fun m => nxD (List.mem_singleton.mp m).symm)]; exact s14 _ _ hx)
      exact ⟨_, rfl, _, rfl, x, S, dx, [], rfl, hx5, T.cls, T.nm, by decide, fin H5 e5 k5⟩
  · have hp4u := (mask_sub [D] H4).seq hp4
    refine .inl ⟨_, rfl, p, rfl, ⟨_, hp4u⟩, for_list (K := K) (a := p) (xs := ds.map V.str) (fun i σ H5 => ∃ y, σ = [some (.ref x), some (.ref p), some (.ref t), some (.ref D), y] ∧ H5 D = some (.dK (mkv (pairsW "on" ns ++ pairsW "deaf" (ds.take i)))) ∧ Same (mask [D] H4) H5)
      ⟨_, rfl, by rw [e00]; exact eD, mask_sub _ _⟩ (fun i σ H5 _ hI => ?_) ?_ ?_⟩
    · obtain ⟨_, _, _, k5⟩ := hI
      exact k5.seq hp4
    · rintro i y σ H5 hy ⟨z, rfl, e5, k5⟩
      rw [List.getElem?_map] at hy
      obtain ⟨n, hn, rfl⟩ := Option.map_eq_some_iff.mp hy
      obtain ⟨g1, g2⟩ := step i n H5 hn e5
      refine ⟨S, _, _, uD, rfl, T.rd, hD, _, rfl, _, rfl, D, _, rfl, DPut.k (k := Sum.inr n) e5 g1, ?_⟩
      rw [g2]
      refine ⟨_, rfl, upd_same, fun b o e => ?_⟩
      have nb : b ≠ D := fun z => by rw [z, mask_in List.mem_cons_self] at e; cases e
      rw [upd_ne nb]
      exact k5 b o e
    · rintro σ H5 ⟨z, rfl, e5, k5⟩
      rw [List.length_map, List.take_length] at e5
      have hx5 : H5 x = some (.ins S dx []) := k5 _ _ (by rw [mask_out (fun m => nxD (List.mem_singleton.mp m).symm)]; exact s14 _ _ hx)
      exact ⟨_, rfl, _, rfl, x, S, dx, [], rfl, hx5, T.cls, T.nm, by decide, fin H5 e5 k5⟩
end
/-! ### settings made anew, all in one -/
structure SInit (K : PySem.W.Frag) (S fI : Addr) : Prop where
  MK : Mk K S fI
  ex : ∃ (oc : Value) (od an : Option Addr) (doc pm cdv ct : Value) (osl : Array (Option Value)) (D e0 : Addr) (dd : Option Addr) (n : Nat) (sl : Array (Option Value)),
    K.lookup fI = some ⟨oc, od, .func (PySem.W.fnOf "__init__" "Setting.__init__" (defArgs (se 3)) (defBody (se 3)) (defScope (se 3)) .none (.ref D) doc pm an cdv ct), osl⟩ ∧ PySem.W.codeIn K cdv "Setting.__init__" = true ∧
    PySem.W.nsIn K D "deaf" = some (some (.ref e0)) ∧ K.lookup e0 = some ⟨.type "tuple", dd, .seq #[] n, sl⟩
def spNew0 (S : Addr) : Sp := fun vs H Q _ => ∃ (x dx : Addr), vs = [.ref x] ∧ H x = some (.ins S dx []) ∧ ∀ (H' : Hp) (d : Addr), H d = none → (∀ b o, b ≠ x → H b = some o → H' b = some o) → SetAt S H' x d [] → Q .non H'
def spNewK (K : PySem.W.Frag) (S : Addr) : List V → Sp := fun zs vs H Q _ => ∃ (x dx p : Addr) (ds ns : List Str), zs = [.ref p] ∧ vs = .ref x :: ns.map V.str ∧ H x = some (.ins S dx []) ∧ (SqT K H p (ds.map V.str) ∨ SqL K H p (ds.map V.str)) ∧ (ns ++ ds).Nodup ∧ (∀ z ∈ ns ++ ds, IsWord z) ∧ (ns ++ ds).length ≤ 60 ∧
  ∀ (H' : Hp) (d : Addr), H d = none → (∀ b o, b ≠ x → H b = some o → H' b = some o) → SetAt S H' x d (pairsW "on" ns ++ pairsW "deaf" ds) → Q .non H'
section
variable {P : Program} {w : World} {K : PySem.W.Frag} {mg : Str → Option Value} {base : Heap}
theorem ok_new0 {S fI fC fU : Addr} {fdC fdU : FuncData} (SI : SInit K S fI) (T : StC K mg S) (GC : FnOk P w K mg base CX0 2 fC fdC ["things"] (spNames0 K)) (mC : mg "check_names" = some (.ref fC)) (kC : PySem.W.keepIn K (.ref fC) = true) (bC : Binds K fdC ["things"] [])
    (GU : FnOk P w K mg base CX0 2 fU fdU ["names"] (spUnlike0 K)) (mU : mg "check_unlike" = some (.ref fU)) (kU : PySem.W.keepIn K (.ref fU) = true) (bU : Binds K fdU ["names"] []) : FnR P w K mg base CX0 3 fI (spNew0 S) := by
  obtain ⟨oc, od, an, doc, pm, cdv, ct, osl, D, e0, dd, n, sl, lk, hcd, hD, he⟩ := SI.ex
  have G := fn_starD (sp := spInit3 K S) (mg := mg) (base := base) (P := P) (w := w) (dv := .ref e0) (du := .ref e0) lk hcd scIn StX.cxUp_none hD rfl (fun a rest => by cases rest <;> exact ⟨_, _, _, _, _, _, rfl, rfl, rfl⟩) (init3 T GC mC kC bC GU mU kU bU)
  intro A outer s H us vs Q E hr e0' rv hsp
  obtain ⟨x, dx, rfl, hx, kk⟩ := hsp
  refine G A outer s H us _ Q E hr e0' rv ⟨.ref x, [], rfl, Nat.zero_le _, fun p np => ?_⟩
  have s1 := same_new (o := .tup []) np
  refine ⟨x, dx, e0, p, [], [], rfl, s1 _ _ hx, .inl (.inr ⟨_, _, _, he, rfl, rfl, Nat.zero_le _, .nil⟩), SqT.of upd_same, .nil, fun z h => (nomatch h), Nat.zero_le _, fun H' d nd k hS => kk H' d (s1.free nd) (fun b o nb e => k b o nb (s1 _ _ e)) hS⟩
theorem ok_newK {S fI fC fU : Addr} {fdC fdU : FuncData} (SI : SInit K S fI) (T : StC K mg S) (GC : FnOk P w K mg base CX0 2 fC fdC ["things"] (spNames0 K)) (mC : mg "check_names" = some (.ref fC)) (kC : PySem.W.keepIn K (.ref fC) = true) (bC : Binds K fdC ["things"] [])
    (GU : FnOk P w K mg base CX0 2 fU fdU ["names"] (spUnlike0 K)) (mU : mg "check_unlike" = some (.ref fU)) (kU : PySem.W.keepIn K (.ref fU) = true) (bU : Binds K fdU ["names"] []) : FnKw P w K mg base CX0 3 fI ["deaf"] (spNewK K S) := by
  obtain ⟨oc, od, an, doc, pm, cdv, ct, osl, D, e0, dd, n, sl, lk, hcd, hD, he⟩ := SI.ex
  have G := fn_starK (sp := spInit3 K S) (mg := mg) (base := base) (P := P) (w := w) lk hcd scIn StX.cxUp_none (fun a d rest => by cases rest <;> rfl) (init3 T GC mC kC bC GU mU kU bU)
  intro A outer s H us ws vs zs Q E hr e0' rv rz hsp
  obtain ⟨x, dx, p, ds, ns, rfl, rfl, hx, hp, hnd, hw, hl, kk⟩ := hsp
  refine G A outer s H us ws _ _ Q E hr e0' rv rz ⟨.ref x, .ref p, ns.map V.str, rfl, rfl, ?_, fun t nt => ?_⟩
  · rw [List.length_map]
    have : (ns ++ ds).length = ns.length + ds.length := List.length_append
    exact len1000 (by omega)
  have s1 := same_new (o := .tup (ns.map V.str)) nt
  refine ⟨x, dx, p, t, ds, ns, rfl, s1 _ _ hx, hp.imp (fun h => Same.seqT s1 h) (fun h => s1.seq h), SqT.of upd_same, hnd, hw, hl, fun H' d nd k hS => kk H' d (s1.free nd) (fun b o nb e => k b o nb (s1 _ _ e)) hS⟩
end
/-! ### a setting of modes -/
theorem mkv_at {m : Md} {i : Nat} {k : Key} {v : V} (h : (mkv m)[i]? = some (k, v)) : ∃ n md, m[i]? = some (n, md) ∧ k = Sum.inr n ∧ v = .str md := by
  unfold mkv kvs at h
  rw [List.getElem?_map, List.getElem?_map] at h
  obtain ⟨p, hp, e⟩ := Option.map_eq_some_iff.mp h
  obtain ⟨q, hq, e2⟩ := Option.map_eq_some_iff.mp hp
  subst e2
  cases e
  exact ⟨q.1, q.2, hq, rfl, rfl⟩
theorem look_at {α : Type} {n : Str} {v : α} : ∀ {m : List (Str × α)} {i : Nat}, (names m).Nodup → m[i]? = some (n, v) → look m n = some v
  | [], _, _, h => by simp at h
  | p :: r, 0, _, h => by
    obtain rfl := Option.some.inj h
    exact look_pos rfl
  | p :: r, i + 1, nd, h => by
    have hr : r[i]? = some (n, v) := h
    have hnd := List.nodup_cons.mp (show (p.1 :: names r).Nodup from nd)
    have hne : ¬ p.1 = n := fun e => hnd.1 (by rw [e]; exact List.mem_map.mpr ⟨(n, v), List.mem_of_getElem? hr, rfl⟩)
    rw [look_neg hne]
    exact look_at hnd.2 hr
theorem lock_same {H H2 : Hp} {d : Addr} {u f : HO} (e : H d = some u) (s : Same (upd H d f) H2) : Same H (upd H2 d u) := fun b o h => by
  by_cases hb : b = d
  · subst hb
    rw [e] at h; cases h
    exact upd_same
  · rw [upd_ne hb]
    exact s b o (by rw [upd_ne hb]; exact h)
theorem pe_cvalK {X : Cx} {K : PySem.W.Frag} {e : Expr} {f : Str} {pos : Pos} {ta : TE} (he : PE X e ta) (hK : X.K = K := by rfl) (hb : attributeBase e f X.env (eval e X.env) = eval e X.env := by rfl) : PE X (.Attribute e f pos) (ClX.tCVal K ta f) := by
  subst hK
  exact ClX.pe_cval he hb
def parted (m : Md) : Md := pairsW "on" (names (m.filter fun p : Str × Str => decide (p.2 = "on"))) ++ pairsW "deaf" (names (m.filter fun p : Str × Str => decide (p.2 = "deaf")))
theorem pairs_filter (m : Md) (w : Str) : pairsW w (names (m.filter fun p : Str × Str => decide (p.2 = w))) = m.filter fun p : Str × Str => decide (p.2 = w) := by
  unfold pairsW names
  rw [List.map_map]
  conv => rhs; rw [← List.map_id (m.filter fun p : Str × Str => decide (p.2 = w))]
  refine List.map_congr_left fun p hp => ?_
  have := of_decide_eq_true (List.mem_filter.mp hp).2
  show (p.1, w) = p
  rw [← this]
theorem parted_perm {m : Md} (ok : MdOk m) : (parted m).Perm m := by
  unfold parted
  rw [pairs_filter, pairs_filter]
  have e : (m.filter fun p : Str × Str => decide (p.2 = "deaf")) = m.filter fun p : Str × Str => !decide (p.2 = "on") := by
    refine List.filter_congr fun p hp => ?_
    rcases (ok.ok p hp).2 with h | h
    · rw [h]; decide +kernel
    · rw [h]; decide +kernel
  rw [e]
  exact List.filter_append_perm _ m
theorem perm_names {m m' : Md} (h : m.Perm m') : (names m).Perm (names m') := h.map _
theorem MdOk.perm {m m' : Md} (ok : MdOk m) (h : m'.Perm m) : MdOk m' :=
  ⟨(perm_names h).nodup_iff.mpr ok.nd, fun p hp => ok.ok p (h.mem_iff.mp hp), by rw [h.length_eq]; exact ok.len⟩
theorem parted_names {m : Md} (ok : MdOk m) : names (m.filter fun p : Str × Str => decide (p.2 = "on")) ++ names (m.filter fun p : Str × Str => decide (p.2 = "deaf")) = names (parted m) := by
  unfold parted names
  rw [List.map_append]
  have h1 := pairsW_names "on" (names (m.filter fun p : Str × Str => decide (p.2 = "on")))
  have h2 := pairsW_names "deaf" (names (m.filter fun p : Str × Str => decide (p.2 = "deaf")))
  unfold names at h1 h2
  rw [h1, h2]
theorem perm_look {α : Type} {m m' : List (Str × α)} (nd : (names m).Nodup) (h : m'.Perm m) (n : Str) : look m' n = look m n := by
  have nd' : (names m').Nodup := (h.map _).nodup_iff.mpr nd
  cases e : look m n with
  | none =>
    cases e' : look m' n with
    | none => rfl
    | some v =>
      have := h.mem_iff.mp (look_mem e')
      obtain ⟨i, hi⟩ := List.getElem?_of_mem this
      rw [look_at nd hi] at e; cases e
  | some v =>
    obtain ⟨i, hi⟩ := List.getElem?_of_mem (h.mem_iff.mpr (look_mem e))
    exact look_at nd' hi
def spSetOf (S : Addr) : Sp := fun vs H Q _ => ∃ (d : Addr) (m : Md), vs = [.ref d] ∧ H d = some (.dK (mkv m)) ∧ MdOk m ∧ ∀ (x d' : Addr) (H' : Hp), Same H H' → H x = none → H d' = none → SetAt S H' x d' (parted m) → Q (.ref x) H'
def spDup (S : Addr) : Sp := fun vs H Q _ => ∃ (x d : Addr) (m : Md), vs = [.ref x] ∧ SetAt S H x d m ∧ MdOk m ∧ ∀ (x' d' : Addr) (H' : Hp), Same H H' → H x' = none → H d' = none → SetAt S H' x' d' (parted m) → Q (.ref x') H'
section
variable {P : Program} {w : World} {K : PySem.W.Frag} {mg : Str → Option Value} {base : Heap}
theorem scSo : FnScope ["modes", "on", "name", "deaf"] ["modes"] (defScope sSetOf) := ⟨rfl, rfl, rfl, by decide +kernel, rfl, by decide +kernel, by decide +kernel⟩
theorem ok_setof {f S fI : Addr} {fd : FuncData} (T : StC K mg S) (F : Fun K "_setting_of" "_setting_of" sSetOf f fd) (MK : Mk K S fI) (GK : FnKw P w K mg base CX0 3 fI ["deaf"] (spNewK K S)) : FnOk P w K mg base CX0 5 f fd ["modes"] (spSetOf S) := by
  refine F.ok scSo (fun vs H Q E h => ?_) (fun cdv A outer s H vs Q E hr h => ?_)
  · obtain ⟨d, m, rfl, _⟩ := h
    rfl
  · obtain ⟨d, m, rfl, hd, ok, kk⟩ := h
    have hrMK : Room 4 _ := hr
    have hu := hu_of hr
    obtain ⟨uN, hN⟩ := T.cN
    obtain ⟨uD, hD⟩ := T.cD
    refine ⟨_, pss_cons (ps_lock (ps_setLc (i := 1) (own := [("name", 2)]) (g := gName 2) rfl scSo.nd rfl rfl (sw_true rfl rfl rfl (by decide +kernel)) (pi_keys (pv 0)) (blkOk_by (N := ["modes", "on", "name", "deaf"]) (sc := defScope sSetOf) (by decide +kernel)) (fun _ _ _ _ _ => (pg_name (i := 2) scSo.nd rfl (.inl rfl))) (fun _ _ _ _ _ => pts_one (pt_cmpR op_eq (pe_dget hu (pv 0) (pv 2) (fun _ _ => rfl)) (pe_cvalK (K := K) (pe_glob (v := .ref S) (by rfl) T.m (by rfl))) (nomark _))) (fun _ _ _ _ _ => (pv 2))))
      (pss_cons (ps_lock (ps_setLc (i := 3) (own := [("name", 2)]) (g := gName 2) rfl scSo.nd rfl rfl (sw_true rfl rfl rfl (by decide +kernel)) (pi_keys (pv 0)) (blkOk_by (N := ["modes", "on", "name", "deaf"]) (sc := defScope sSetOf) (by decide +kernel)) (fun _ _ _ _ _ => (pg_name (i := 2) scSo.nd rfl (.inl rfl))) (fun _ _ _ _ _ => pts_one (pt_cmpR op_eq (pe_dget hu (pv 0) (pv 2) (fun _ _ => rfl)) (pe_cvalK (K := K) (pe_glob (v := .ref S) (by rfl) T.m (by rfl))) (nomark _))) (fun _ _ _ _ _ => (pv 2))))
      (pss_one (ps_ret (pe_makeS1 MK GK hrMK (by rfl) T.m pass0 (pv 1) (pk_cons (pv 3) pk_nil))))), ?_⟩
    -- those that are on
    refine ⟨d, _, hd, trivial, fun od => ?_⟩
    have eF : (upd H d (.frz od (.dK (mkv m)))) d = some (.frz od (.dK (mkv m))) := upd_same
    refine ⟨_, rfl, d, od, rfl, .inl ⟨mkv m, eF, fun D1 nD => ?_⟩⟩
    refine lc_keys (d := d) (o := od) (l := mkv m) (fun i H2 => H2 D1 = some (.lst ((names ((m.take i).filter fun p : Str × Str => decide (p.2 = "on"))).map V.str)) ∧ Same (upd H d (.frz od (.dK (mkv m)))) H2)
      ⟨upd_same, same_new nD⟩ (fun i H2 _ hI => hI.2 _ _ eF) (fun i k v H2 hk hI => ?_) fun H2 hI => ?_
    · obtain ⟨eL, s2⟩ := hI
      obtain ⟨n, md, hn, rfl, rfl⟩ := mkv_at hk
      have hi : i < m.length := (List.getElem?_eq_some_iff.mp hn).1
      have hg : (look m n).map V.str = some (V.str md) := by rw [look_at ok.nd hn]; rfl
      refine ⟨rfl, _, rfl, _, rfl, d, _, rfl, ⟨.inl ⟨mkv m, Sum.inr n, .inr ⟨od, s2 _ _ eF⟩, rfl, by rw [mkv_get]; exact hg.symm⟩, S, _, _, _, rfl, T.rd, hN, rfl, _, rfl, ?_⟩⟩
      have tk : (m.take (i + 1)).filter (fun p : Str × Str => decide (p.2 = "on")) = (m.take i).filter (fun p : Str × Str => decide (p.2 = "on")) ++ (if decide (md = "on") = true then [(n, md)] else []) := by
        rw [List.take_succ, hn, List.filter_append]
        congr 1
        show List.filter _ [(n, md)] = _
        rw [List.filter_cons, List.filter_nil]
      have lt : (names ((m.take i).filter fun p : Str × Str => decide (p.2 = "on"))).length ≤ 60 := by
        unfold names
        rw [List.length_map]
        have h1 := List.length_filter_le (fun p : Str × Str => decide (p.2 = "on")) (m.take i)
        rw [List.length_take] at h1
        have := ok.len
        omega
      show (if decide (V.str md = V.str "on") = true then _ else _)
      by_cases em : md = "on"
      · rw [decide_eq_true (show V.str md = V.str "on" by rw [em])]
        rw [decide_eq_true em, if_pos rfl] at tk
        refine iteT ⟨_, rfl, _, eL, small1000 (by rw [List.length_map]; omega), ?_, fun b o e => ?_⟩
        · rw [upd_same, tk]
          unfold names
          rw [List.map_append, List.map_append]
          rfl
        · rw [upd_ne (ne_of_none e nD)]; exact s2 b o e
      · rw [decide_eq_false (fun e => em (V.str.inj e))]
        rw [decide_eq_false em, if_neg Bool.false_ne_true, List.append_nil] at tk
        exact iteF ⟨by rw [tk]; exact eL, s2⟩
    obtain ⟨eL, s2⟩ := hI
    rw [mkv_len, List.take_length] at eL
    refine ⟨s2 _ _ eF, ?_⟩
    have H3s : Same H (upd H2 d (.dK (mkv m))) := lock_same hd s2
    have nD1 : D1 ≠ d := fun e => by rw [e, upd_same] at nD; cases nD
    have eD1 : (upd H2 d (.dK (mkv m))) D1 = some (.lst ((names (m.filter fun p : Str × Str => decide (p.2 = "on"))).map V.str)) := by rw [upd_ne nD1]; exact eL
    have hd1 : (upd H2 d (.dK (mkv m))) d = some (.dK (mkv m)) := upd_same
    generalize upd H2 d (.dK (mkv m)) = H3 at *
    clear s2 eL eF nD
    -- those that are deaf
    refine ⟨d, _, hd1, trivial, fun od => ?_⟩
    have eF : (upd H3 d (.frz od (.dK (mkv m)))) d = some (.frz od (.dK (mkv m))) := upd_same
    refine ⟨_, rfl, d, od, rfl, .inl ⟨mkv m, eF, fun D3 nD => ?_⟩⟩
    refine lc_keys (d := d) (o := od) (l := mkv m) (fun i H2 => H2 D3 = some (.lst ((names ((m.take i).filter fun p : Str × Str => decide (p.2 = "deaf"))).map V.str)) ∧ Same (upd H3 d (.frz od (.dK (mkv m)))) H2)
      ⟨upd_same, same_new nD⟩ (fun i H2 _ hI => hI.2 _ _ eF) (fun i k v H2 hk hI => ?_) fun H2 hI => ?_
    · obtain ⟨eL, s2⟩ := hI
      obtain ⟨n, md, hn, rfl, rfl⟩ := mkv_at hk
      have hi : i < m.length := (List.getElem?_eq_some_iff.mp hn).1
      have hg : (look m n).map V.str = some (V.str md) := by rw [look_at ok.nd hn]; rfl
      refine ⟨rfl, _, rfl, _, rfl, d, _, rfl, ⟨.inl ⟨mkv m, Sum.inr n, .inr ⟨od, s2 _ _ eF⟩, rfl, by rw [mkv_get]; exact hg.symm⟩, S, _, _, _, rfl, T.rd, hD, rfl, _, rfl, ?_⟩⟩
      have tk : (m.take (i + 1)).filter (fun p : Str × Str => decide (p.2 = "deaf")) = (m.take i).filter (fun p : Str × Str => decide (p.2 = "deaf")) ++ (if decide (md = "deaf") = true then [(n, md)] else []) := by
        rw [List.take_succ, hn, List.filter_append]
        congr 1
        show List.filter _ [(n, md)] = _
        rw [List.filter_cons, List.filter_nil]
      have lt : (names ((m.take i).filter fun p : Str × Str => decide (p.2 = "deaf"))).length ≤ 60 := by
        unfold names
        rw [List.length_map]
        have h1 := List.length_filter_le (fun p : Str × Str => decide (p.2 = "deaf")) (m.take i)
        rw [List.length_take] at h1
        have := ok.len
        omega
      show (if decide (V.str md = V.str "deaf") = true then _ else _)
      by_cases em : md = "deaf"
      · rw [decide_eq_true (show V.str md = V.str "deaf" by rw [em])]
        rw [decide_eq_true em, if_pos rfl] at tk
        refine iteT ⟨_, rfl, _, eL, small1000 (by rw [List.length_map]; omega), ?_, fun b o e => ?_⟩
        · rw [upd_same, tk]
          unfold names
          rw [List.map_append, List.map_append]
          rfl
        · rw [upd_ne (ne_of_none e nD)]; exact s2 b o e
      · rw [decide_eq_false (fun e => em (V.str.inj e))]
        rw [decide_eq_false em, if_neg Bool.false_ne_true, List.append_nil] at tk
        exact iteF ⟨by rw [tk]; exact eL, s2⟩
    obtain ⟨eL, s2⟩ := hI
    rw [mkv_len, List.take_length] at eL
    refine ⟨s2 _ _ eF, ?_⟩
    have H5s : Same H3 (upd H2 d (.dK (mkv m))) := lock_same hd1 s2
    have nD3 : D3 ≠ d := fun e => by rw [e, upd_same] at nD; cases nD
    have eD3 : (upd H2 d (.dK (mkv m))) D3 = some (.lst ((names (m.filter fun p : Str × Str => decide (p.2 = "deaf"))).map V.str)) := by rw [upd_ne nD3]; exact eL
    have hd13 : (upd H2 d (.dK (mkv m))) d = some (.dK (mkv m)) := upd_same
    generalize upd H2 d (.dK (mkv m)) = H5 at *
    clear s2 eL eF nD
    -- made
    have okp := ok.perm (parted_perm ok)
    have en := parted_names ok
    refine ⟨_, rfl, _, rfl, rfl, D1, _, rfl, .inr (SqL.of (H5s _ _ eD1)), fun x dx nx ndx nxd => ?_⟩
    have sA : Same H5 (upd (upd H5 dx (.own x)) x (.ins S dx [])) := (same_new ndx).trans (same_new (by rw [upd_ne nxd.symm]; exact nx))
    refine ⟨x, dx, D3, names (m.filter fun p : Str × Str => decide (p.2 = "deaf")), names (m.filter fun p : Str × Str => decide (p.2 = "on")), rfl, rfl, upd_same, .inr (SqL.of (sA _ _ eD3)), ?_, ?_, ?_, fun H' d' nd k hS => ?_⟩
    · rw [en]; exact okp.nd
    · rw [en]
      intro z hz
      obtain ⟨p, hp, rfl⟩ := List.mem_map.mp hz
      exact (okp.ok p hp).1
    · rw [en]
      unfold names
      rw [List.length_map]
      exact okp.len
    · have sH : Same H H' := fun b o e => k b o (ne_of_none (H5s _ _ (H3s _ _ e)) nx) (sA _ _ (H5s _ _ (H3s _ _ e)))
      exact ⟨rfl, kk x d' H' sH ((H3s.trans H5s).free nx) ((H3s.trans (H5s.trans sA)).free nd) hS⟩
theorem scDu : FnScope ["self"] ["self"] (defScope (se 7)) := ⟨rfl, rfl, rfl, by decide +kernel, rfl, by decide +kernel, by decide +kernel⟩
theorem ok_dup {f S fO : Addr} {fd fdO : FuncData} (T : StC K mg S) (F : Fun K "duplicate" "Setting.duplicate" (se 7) f fd) (GO : FnOk P w K mg base CX0 5 fO fdO ["modes"] (spSetOf S)) (mO : mg "_setting_of" = some (.ref fO)) (kO : PySem.W.keepIn K (.ref fO) = true) (bO : Binds K fdO ["modes"] []) : FnOk P w K mg base CX0 6 f fd ["self"] (spDup S) := by
  refine F.ok scDu (fun vs H Q E h => ?_) (fun cdv A outer s H vs Q E hr h => ?_)
  · obtain ⟨x, d, m, rfl, _⟩ := h
    rfl
  · obtain ⟨x, d, m, rfl, ⟨dx, h1, h2⟩, ok, kk⟩ := h
    have hrO : Room 5 _ := hr
    refine ⟨_, pss_one (ps_ret (pe_call GO hrO (by rfl) mO kO bO .nil pass0 (pa_cons (pe_fld (pv 0) rfl) pa_nil))), ?_⟩
    exact ⟨_, rfl, x, S, dx, _, _, rfl, h1, T.cls, T.nm, rfl, d, m, rfl, h2, ok, kk⟩
end
/-! ### the greater mode; x |= y -/
def rkS (v : Str) : Nat := if v = "out" then 0 else if v = "deaf" then 1 else 2
def grS (v u : Str) : Str := if rkS v < rkS u then u else v
theorem rk_at : ∀ v ∈ modesW, modesW[rkS v]? = some v ∧ (∀ j, j < rkS v → modesW[j]? ≠ some v) ∧ rkS v ≤ 2 := by
  intro v hv
  unfold modesW at hv
  simp only [List.mem_cons, List.not_mem_nil, or_false] at hv
  rcases hv with rfl | rfl | rfl
  · exact ⟨rfl, fun j h => absurd h (Nat.not_lt_zero j), by decide⟩
  · refine ⟨rfl, fun j h => ?_, by decide⟩
    have : j = 0 := by have : rkS "deaf" = 1 := rfl; omega
    subst this
    decide
  · refine ⟨rfl, fun j h => ?_, by decide⟩
    have e : rkS "on" = 2 := rfl
    obtain rfl | rfl : j = 0 ∨ j = 1 := by omega
    · decide
    · decide
theorem gr_at {v u : Str} (hv : v ∈ modesW) (hu : u ∈ modesW) : modesW[max (rkS v) (rkS u)]? = some (grS v u) := by
  unfold grS
  split
  · rename_i h
    rw [Nat.max_eq_right (Nat.le_of_lt h)]
    exact (rk_at u hu).1
  · rename_i h
    rw [Nat.max_eq_left (by omega)]
    exact (rk_at v hv).1
theorem gr_mem {v u : Str} (hv : v ∈ modesW) (hu : u ∈ modesW) : grS v u ∈ modesW := List.mem_of_getElem? (gr_at hv hu)
def spGr : Sp := fun vs H Q _ => ∃ v u, vs = [.str v, .str u] ∧ v ∈ modesW ∧ u ∈ modesW ∧ Q (.str (grS v u)) H
section
variable {P : Program} {w : World} {K : PySem.W.Frag} {mg : Str → Option Value} {base : Heap}
theorem scGr : FnScope ["mode", "other"] ["mode", "other"] (defScope sGreater) := ⟨rfl, rfl, rfl, by decide +kernel, rfl, by decide +kernel, by decide +kernel⟩
theorem ok_greater {f tM : Addr} {fd : FuncData} {k : Nat} (F : Fun K "_greater" "_greater" sGreater f fd) (mM : mg "MODES" = some (.ref tM)) (hM : TupW K tM modesW) (kM : ∃ o, K.lookup tM = some o ∧ o.cls = .type "tuple" ∧ o.dict = none) (mmax : mg "max" = none) : FnOk P w K mg base CX0 (k + 1) f fd ["mode", "other"] spGr := by
  refine F.ok scGr (fun vs H Q E h => ?_) (fun cdv A outer s H vs Q E hr h => ?_)
  · obtain ⟨v, u, rfl, _⟩ := h
    rfl
  · obtain ⟨v, u, rfl, hv, hu, kk⟩ := h
    refine ⟨_, pss_one (ps_ret (pe_ix ix_tup (pe_glob (v := .ref tM) rfl mM rfl) (pe_callB (call_max2 rfl) (by rfl) mmax (by decide +kernel) (pa_cons (pe_bm PySem.F.plainAttrs_tuple PySem.F.slot_tuple_index PySem.F.type_tuple_index mt_tup_index (pe_glob (v := .ref tM) rfl mM rfl) (pa_cons (pv 0) pa_nil)) (pa_cons (pe_bm PySem.F.plainAttrs_tuple PySem.F.slot_tuple_index PySem.F.type_tuple_index mt_tup_index (pe_glob (v := .ref tM) rfl mM rfl) (pa_cons (pv 1) pa_nil)) pa_nil))) (fun _ _ => rfl))), ?_⟩
    obtain ⟨v1, v2, _⟩ := rk_at v hv
    obtain ⟨u1, u2, _⟩ := rk_at u hu
    refine ⟨.inr (.inl ⟨rfl, kM⟩), _, rfl, tM, modesW, v, rkS v, rfl, rfl, hM H, v1, v2, .inr (.inl ⟨rfl, kM⟩), _, rfl, tM, modesW, u, rkS u, rfl, rfl, hM H, u1, u2, _, _, rfl, ?_⟩
    have e : (if ((rkS u : Nat) : Int) > ((rkS v : Nat) : Int) then ((rkS u : Nat) : Int) else ((rkS v : Nat) : Int)) = ((max (rkS v) (rkS u) : Nat) : Int) := by split <;> omega
    rw [e]
    exact ⟨tM, _, _, .str (grS v u), rfl, rfl, hM H, atI_nat (j := max (rkS v) (rkS u)) (by rw [List.getElem?_map, gr_at hv hu]; rfl), kk⟩
end
/-! ### modes over some names -/
theorem nodup_len {α : Type} [DecidableEq α] : ∀ {l U : List α}, l.Nodup → (∀ x ∈ l, x ∈ U) → l.length ≤ U.length
  | [], _, _, _ => Nat.zero_le _
  | x :: r, U, nd, h => by
    obtain ⟨hx, hr⟩ := List.nodup_cons.mp nd
    have hU := h x List.mem_cons_self
    have := nodup_len (U := U.erase x) hr fun y hy => (List.mem_erase_of_ne fun e => hx (by rw [← e]; exact hy)).mpr (h y (List.mem_cons_of_mem _ hy))
    rw [List.length_erase_of_mem hU] at this
    have hp : 0 < U.length := List.length_pos_of_mem hU
    rw [List.length_cons]
    omega
structure UOk (U : List Str) : Prop where
  w : ∀ u ∈ U, IsWord u
  l : U.length ≤ 60
structure MdU (U : List Str) (m : Md) : Prop where
  nd : (names m).Nodup
  ok : ∀ p ∈ m, p.1 ∈ U ∧ (p.2 = "on" ∨ p.2 = "deaf")
theorem MdU.md {U : List Str} {m : Md} (u : UOk U) (h : MdU U m) : MdOk m := by
  refine ⟨h.nd, fun p hp => ⟨u.w _ (h.ok p hp).1, (h.ok p hp).2⟩, ?_⟩
  have := nodup_len (U := U) h.nd fun x hx => by
    obtain ⟨p, hp, rfl⟩ := List.mem_map.mp hx
    exact (h.ok p hp).1
  unfold names at this
  rw [List.length_map] at this
  have := u.l
  omega
theorem MdU.perm {U : List Str} {m m' : Md} (ok : MdU U m) (h : m'.Perm m) : MdU U m' := ⟨(perm_names h).nodup_iff.mpr ok.nd, fun p hp => ok.ok p (h.mem_iff.mp hp)⟩
theorem look_filter {n k : Str} : ∀ {m : Md}, look (m.filter fun p => decide (p.1 ≠ n)) k = if k = n then none else look m k
  | [] => by
    show none = _
    split <;> rfl
  | p :: r => by
    rw [List.filter_cons]
    by_cases e : p.1 = n
    · rw [if_neg (by rw [decide_eq_false (fun z => z e)]; exact Bool.false_ne_true), look_filter]
      by_cases hk : k = n
      · rw [if_pos hk, if_pos hk]
      · rw [if_neg hk, if_neg hk, look_neg fun z => hk (z.symm.trans e)]
    · rw [if_pos (decide_eq_true e)]
      by_cases h : p.1 = k
      · rw [look_pos h, look_pos h, if_neg fun z => e (h.trans z)]
      · rw [look_neg h, look_neg h, look_filter]
theorem mget_mset (m : Md) (n v k : Str) : mget (mset m n v) k = if k = n then v else mget m k := by
  unfold mget mset
  by_cases hv : v = "out"
  · rw [if_pos hv, look_filter]
    by_cases hk : k = n
    · rw [if_pos hk, if_pos hk, hv]; rfl
    · rw [if_neg hk, if_neg hk]
  · rw [if_neg hv, look_put]
    by_cases hk : k = n
    · rw [if_pos hk, if_pos hk]; rfl
    · rw [if_neg hk, if_neg hk]
theorem MdU.mset {U : List Str} {m : Md} {n v : Str} (h : MdU U m) (hn : n ∈ U) (hv : v ∈ modesW) : MdU U (mset m n v) := by
  unfold Qp.mset
  by_cases ev : v = "out"
  · rw [if_pos ev]
    refine ⟨?_, fun p hp => h.ok p (List.mem_filter.mp hp).1⟩
    exact ((List.filter_sublist (l := m)).map _).nodup h.nd
  · rw [if_neg ev]
    have hv2 : v = "on" ∨ v = "deaf" := by
      unfold modesW at hv
      simp only [List.mem_cons, List.not_mem_nil, or_false] at hv
      rcases hv with h | h | h
      · exact absurd h ev
      · exact .inr h
      · exact .inl h
    cases e : look m n with
    | some w =>
      refine ⟨by rw [put_names e]; exact h.nd, fun p hp => ?_⟩
      unfold put at hp
      split at hp
      · obtain ⟨q, hq, rfl⟩ := List.mem_map.mp hp
        split
        · exact ⟨(h.ok q hq).1, hv2⟩
        · exact h.ok q hq
      · rcases List.mem_append.mp hp with hp | hp
        · exact h.ok p hp
        · rw [List.mem_singleton.mp hp]; exact ⟨hn, hv2⟩
    | none =>
      have hno : n ∉ names m := fun hm => by
        obtain ⟨w, hw⟩ := look_some hm
        rw [e] at hw; cases hw
      rw [put_new hno]
      refine ⟨?_, fun p hp => ?_⟩
      · unfold names
        rw [List.map_append, List.nodup_append]
        refine ⟨h.nd, by simp, fun a ha b hb => ?_⟩
        have hb2 : b = n := by simpa using hb
        rw [hb2]
        exact fun z => hno (by rw [← z]; exact ha)
      · rcases List.mem_append.mp hp with hp | hp
        · exact h.ok p hp
        · rw [List.mem_singleton.mp hp]; exact ⟨hn, hv2⟩
theorem mget_mem {U : List Str} {m : Md} (h : MdU U m) (n : Str) : mget m n ∈ modesW := by
  unfold mget
  cases e : look m n with
  | none => exact List.mem_cons_self
  | some v =>
    rcases (h.ok _ (look_mem e)).2 with q | q
    · show v ∈ modesW; rw [show v = "on" from q]; decide +kernel
    · show v ∈ modesW; rw [show v = "deaf" from q]; decide +kernel
theorem mget_out {U : List Str} {m : Md} (h : MdU U m) (n : Str) : mget m n = "out" ↔ n ∉ names m := by
  unfold mget
  cases e : look m n with
  | none =>
    refine ⟨fun _ hm => ?_, fun _ => rfl⟩
    obtain ⟨w, hw⟩ := look_some hm
    rw [e] at hw; cases hw
  | some v =>
    have hm := look_mem e
    refine ⟨fun q => ?_, fun q => absurd (List.mem_map.mpr ⟨_, hm, rfl⟩) q⟩
    have q' : v = "out" := q
    rcases (h.ok _ hm).2 with z | z
    · exact absurd (show ("out" : Str) = "on" from q'.symm.trans z) (by decide +kernel)
    · exact absurd (show ("out" : Str) = "deaf" from q'.symm.trans z) (by decide +kernel)
def spIor (S : Addr) : Sp := fun vs H Q _ => ∃ (x d y e : Addr) (m m' : Md) (U : List Str), vs = [.ref x, .ref y] ∧ SetAt S H x d m ∧ SetAt S H y e m' ∧ d ≠ e ∧ UOk U ∧ MdU U m ∧ MdU U m' ∧
  ∀ (H' : Hp) (m2 : Md), (∀ b o, b ≠ d → H b = some o → H' b = some o) → SetAt S H' x d m2 → MdU U m2 → (∀ n, mget m2 n = grS (mget m n) (mget m' n)) → Q (.ref x) H'
structure SIt (P : Program) (w : World) (K : PySem.W.Frag) (mg : Str → Option Value) (base : Heap) (S g : Addr) : Prop where
  f : PySem.W.findIn K (.ref S) "__getitem__" = some (some (.ref g))
  h : PySem.W.fnIn K g = true
  i : PySem.W.isFn K (.ref g) = true
  G : FnR P w K mg base CX0 3 g (spGetI S)
structure SSo (P : Program) (w : World) (K : PySem.W.Frag) (mg : Str → Option Value) (base : Heap) (S g : Addr) : Prop where
  q : PySem.W.noSeq K S = true
  f : PySem.W.findIn K (.ref S) "__setitem__" = some (some (.ref g))
  i : PySem.W.isFn K (.ref g) = true
  G : FnR P w K mg base CX0 3 g (spSetI S)
section
variable {P : Program} {w : World} {K : PySem.W.Frag} {mg : Str → Option Value} {base : Heap}
theorem scIo : FnScope ["self", "other", "name"] ["self", "other"] (defScope (se 14)) := ⟨rfl, rfl, rfl, by decide +kernel, rfl, by decide +kernel, by decide +kernel⟩
theorem ok_ior {f S fi fs fN fG : Addr} {fd fdN fdG : FuncData} (T : StC K mg S) (F : Fun K "__ior__" "Setting.__ior__" (se 14) f fd) (IT : SIt P w K mg base S fi) (SO : SSo P w K mg base S fs)
    (MN : Meth K S "names" fN) (GN : FnOk P w K mg base CX0 1 fN fdN ["self"] (spNms S)) (bN : Binds K fdN ["self"] []) (GG : FnOk P w K mg base CX0 1 fG fdG ["mode", "other"] spGr) (mG : mg "_greater" = some (.ref fG)) (kG : PySem.W.keepIn K (.ref fG) = true) (bG : Binds K fdG ["mode", "other"] []) :
    FnOk P w K mg base CX0 5 f fd ["self", "other"] (spIor S) := by
  refine F.ok scIo (fun vs H Q E h => ?_) (fun cdv A outer s H vs Q E hr h => ?_)
  · obtain ⟨x, d, y, e, m, m', U, rfl, _⟩ := h
    rfl
  · obtain ⟨x, d, y, e, m, m', U, rfl, hx, hy, hde, uo, um, um', kk⟩ := h
    have hrN : Room 1 _ := hr.mono (by decide)
    have hrG := hrN
    have hrIT : Room 4 _ := hr
    have hrSO : Room 3 _ := hr.mono (by decide)
    refine ⟨_, pss_cons (ps_for PassesOwn.never rfl (pi_list (pe_meth0 (pv 1) T.cls MN GN hrN bN .nil pass0)) (pg_name (i := 2) scIo.nd rfl (.inl rfl))
        (pss_one (ps_asg (pe_call GG hrG (by rfl) mG kG bG .nil pass0 (pa_cons (pe_itemOwn IT.f IT.h IT.i IT.G hrIT pass0 (pv 0) (pv 2)) (pa_cons (pe_itemOwn IT.f IT.h IT.i IT.G hrIT pass0 (pv 1) (pv 2)) pa_nil))) (pg_sub (pv 0) (pv 2) (set_own SO.q SO.f SO.i SO.G hrSO pass0)))))
      (pss_one (ps_ret (pv 0))), ?_⟩
    have nxd := hx.ne
    obtain ⟨dx, x1, x2⟩ := id hx
    obtain ⟨dy, y1, y2⟩ := id hy
    have nyd : y ≠ d := fun z => by rw [z, x2] at y1; cases y1
    have ok' := um'.md uo
    refine ⟨_, rfl, y, dy, _, rfl, y1, rfl, y, e, m', rfl, hy, ok'.len, fun ys p hp _ np => ?_⟩
    have s1 := same_new (o := .lst (ys.map V.str)) np
    have e1 : (upd H p (.lst (ys.map V.str))) p = some (.lst (ys.map V.str)) := upd_same
    have npd : p ≠ d := (ne_of_none x2 np).symm
    have hx1 := hx.same s1
    have hy1 := hy.same s1
    generalize upd H p (.lst (ys.map V.str)) = H1 at *
    have ynd : ys.Nodup := hp.nodup_iff.mpr um'.nd
    refine ⟨p, rfl, ⟨_, SqL.of e1⟩, for_list (K := K) (a := p) (xs := ys.map V.str) (fun i σ H2 => ∃ (z : Option V) (mi : Md), σ = [some (.ref x), some (.ref y), z] ∧ (∀ b o, b ≠ d → H1 b = some o → H2 b = some o) ∧ SetAt S H2 x d mi ∧ MdU U mi ∧ ∀ n, mget mi n = if n ∈ ys.take i then grS (mget m n) (mget m' n) else mget m n)
      ⟨none, m, rfl, fun b o _ h => h, hx1, um, fun n => by rw [List.take_zero, if_neg (fun h => nomatch h)]⟩ (fun i σ H2 _ hI => ?_) ?_ ?_⟩
    · obtain ⟨_, _, _, k2, _⟩ := hI
      exact SqL.of (k2 _ _ npd e1)
    · rintro i v σ H2 hv ⟨z, mi, rfl, k2, hxi, umi, hmi⟩
      rw [List.getElem?_map] at hv
      obtain ⟨n, hn, rfl⟩ := Option.map_eq_some_iff.mp hv
      have hnU : n ∈ U := by
        have := hp.mem_iff.mp (List.mem_of_getElem? hn)
        obtain ⟨q, hq, rfl⟩ := List.mem_map.mp this
        exact (um'.ok q hq).1
      have hw := uo.w n hnU
      have hyi : SetAt S H2 y e m' := by
        obtain ⟨dy', a1, a2⟩ := hy1
        exact ⟨dy', k2 _ _ nyd a1, k2 _ _ (Ne.symm hde) a2⟩
      obtain ⟨dx2, b1, b2⟩ := id hxi
      obtain ⟨dy2, c1, c2⟩ := id hyi
      refine ⟨_, rfl, _, rfl, x, dx2, _, rfl, b1, x, d, mi, n, rfl, hxi, hw, fun H3 s3 => ?_⟩
      refine ⟨_, rfl, _, rfl, y, dy2, _, rfl, s3 _ _ c1, y, e, m', n, rfl, hyi.same s3, hw, fun H4 s4 => ?_⟩
      have s34 := s3.trans s4
      have g1 := mget_mem umi n
      have g2 := mget_mem um' n
      refine ⟨_, _, rfl, g1, g2, _, rfl, _, rfl, x, dx2, _, rfl, s34 _ _ b1, x, d, mi, n, _, rfl, hxi.same s34, hw, gr_mem g1 g2, (umi.md uo).len, fun H5 k5 hS => ?_⟩
      refine ⟨_, _, rfl, fun b o nb h => k5 b o nb (s34 _ _ (k2 b o nb h)), hS, umi.mset hnU (gr_mem g1 g2), fun k => ?_⟩
      have hnot : n ∉ ys.take i := by
        intro hm
        obtain ⟨j, hj⟩ := List.getElem?_of_mem hm
        rw [List.getElem?_take] at hj
        split at hj
        · rename_i hji
          obtain ⟨h1, e1⟩ := List.getElem?_eq_some_iff.mp hj
          obtain ⟨h2, e2⟩ := List.getElem?_eq_some_iff.mp hn
          exact (List.pairwise_iff_getElem.mp ynd) j i h1 h2 hji (e1.trans e2.symm)
        · cases hj
      have hin : ∀ k, k ∈ ys.take (i + 1) ↔ k ∈ ys.take i ∨ k = n := fun k => by
        rw [List.take_succ, hn, List.mem_append]
        simp
      rw [mget_mset]
      by_cases ek : k = n
      · rw [if_pos ek, if_pos ((hin k).mpr (.inr ek)), hmi n, if_neg hnot, ek]
      · rw [if_neg ek, hmi k]
        by_cases hk : k ∈ ys.take i
        · rw [if_pos hk, if_pos ((hin k).mpr (.inl hk))]
        · rw [if_neg hk, if_neg fun q => ((hin k).mp q).elim hk ek]
    · rintro σ H2 ⟨z, mi, rfl, k2, hxi, umi, hmi⟩
      refine ⟨_, rfl, kk H2 mi (fun b o nb h => k2 b o nb (s1 _ _ h)) hxi umi fun n => ?_⟩
      rw [hmi, List.length_map, List.take_length]
      split
      · rfl
      · rename_i h
        have ho : mget m' n = "out" := (mget_out um' n).mpr fun q => h (hp.mem_iff.mpr q)
        rw [ho]
        unfold grS
        rw [if_neg (show ¬ rkS (mget m n) < rkS "out" from Nat.not_lt_zero _)]
end
theorem PoolAt.upd {H : Hp} {p q a : Addr} {n : Nat} {o : HO} (P : PoolAt H p q n) (h1 : a ≠ p) (h2 : a ≠ q) : PoolAt (upd H a o) p q n := by
  obtain ⟨npq, cs, b, c0, e1, e2, r⟩ := P
  exact ⟨npq, cs, b, c0, by rw [upd_ne h1.symm]; exact e1, by rw [upd_ne h2.symm]; exact e2, r⟩
theorem Keeps.updNew {p q a : Addr} {H H1 : Hp} {o : HO} (k : Keeps p q H H1) (na : H a = none) : Keeps p q H (upd H1 a o) := fun x u h1 h2 e => by
  rw [upd_ne (ne_of_none e na)]; exact k x u h1 h2 e
/-! ### sorted names -/
def leS (a b : Str) : Prop := a.cps.toList ≤ b.cps.toList
theorem leS_of {a b : Str} (h : PySem.Spec.ltCps b.cps.toList a.cps.toList = false) : leS a b := by
  rw [PyProof.Rows.ltCps_eq] at h
  exact List.not_lt.mp (of_decide_eq_false h)
theorem rising_pair : ∀ {p : Str} {l : List Str}, PyProof.Rows.risingS p l = true → (p :: l).Pairwise leS
  | p, [], _ => List.pairwise_singleton _ _
  | p, x :: r, h => by
    obtain ⟨h1, h2⟩ := Bool.and_eq_true_iff.mp (show (!PySem.Spec.ltCps x.cps.toList p.cps.toList && PyProof.Rows.risingS x r) = true from h)
    have hl : leS p x := leS_of (by simpa using h1)
    have ih := rising_pair h2
    refine List.pairwise_cons.mpr ⟨fun y hy => ?_, ih⟩
    rcases List.mem_cons.mp hy with rfl | hy
    · exact hl
    · exact List.le_trans hl (List.rel_of_pairwise_cons ih hy)
theorem sorted_pair {l : List Str} (h : PyProof.Rows.sortedS l = true) : l.Pairwise leS := by
  cases l with
  | nil => exact .nil
  | cons p r => exact rising_pair h
theorem sorted_uniq {a b : List Str} (hp : a.Perm b) (ha : PyProof.Rows.sortedS a = true) (hb : PyProof.Rows.sortedS b = true) : a = b :=
  List.Perm.eq_of_pairwise (fun x y _ _ h1 h2 => by
    have e : x.cps.toList = y.cps.toList := List.le_antisymm h1 h2
    cases x; cases y
    congr 1
    exact Array.toList_inj.mp e) (sorted_pair ha) (sorted_pair hb) hp
/-! ### models of settings -/
def DictG (H : Hp) (dd : Addr) (U : List Str) (g : Str → Str) : Prop := ∃ mm : Md, H dd = some (.dK (mkv mm)) ∧ names mm = U ∧ (∀ n, mget mm n = g n) ∧ ∀ p ∈ mm, p.2 ∈ modesW
def SetG (S : Addr) (H : Hp) (x d : Addr) (U : List Str) (g : Str → Str) : Prop := ∃ m, SetAt S H x d m ∧ MdU U m ∧ ∀ n, mget m n = g n
theorem DictG.same {H H' : Hp} {dd : Addr} {U : List Str} {g : Str → Str} (s : Same H H') (h : DictG H dd U g) : DictG H' dd U g := by
  obtain ⟨mm, h1, h2⟩ := h
  exact ⟨mm, s _ _ h1, h2⟩
theorem SetG.same {S x d : Addr} {H H' : Hp} {U : List Str} {g : Str → Str} (s : Same H H') (h : SetG S H x d U g) : SetG S H' x d U g := by
  obtain ⟨m, h1, h2⟩ := h
  exact ⟨m, h1.same s, h2⟩
def spRan : Sp := fun vs H Q _ => ∃ (p q : Addr) (n : Nat) (nl : Addr) (U : List Str), vs = [.ref p, .ref nl] ∧ PoolAt H p q n ∧ n < 800000 ∧ H nl = some (.lst (U.map V.str)) ∧ nl ≠ p ∧ nl ≠ q ∧ UOk U ∧ U.Nodup ∧
  ∀ (dd : Addr) (g : Str → Str) (H' : Hp), H dd = none → DictG H' dd U g → PoolAt H' p q (n + U.length) → Keeps p q H H' → Q (.ref dd) H'
theorem modes_at {d : Int} (h0 : 0 ≤ d) (h1 : d < 3) : ∃ v ∈ modesW, atI [V.str "out", .str "deaf", .str "on"] d = some (.str v) := by
  obtain rfl | rfl | rfl : d = 0 ∨ d = 1 ∨ d = 2 := by omega
  · exact ⟨"out", by decide +kernel, atI_nat (j := 0) rfl⟩
  · exact ⟨"deaf", by decide +kernel, atI_nat (j := 1) rfl⟩
  · exact ⟨"on", by decide +kernel, atI_nat (j := 2) rfl⟩
theorem nodup_take {α : Type} {l : List (Str × α)} {n : Str} {v : α} {i : Nat} (h : (names l).Nodup) (e : l[i]? = some (n, v)) : n ∉ names (l.take i) := by
  intro m
  obtain ⟨p, hp, ep⟩ := List.mem_map.mp m
  obtain ⟨j, hj⟩ := List.getElem?_of_mem hp
  rw [List.getElem?_take] at hj
  split at hj
  · rename_i hji
    obtain ⟨h1, e1⟩ := List.getElem?_eq_some_iff.mp hj
    obtain ⟨h2, e2⟩ := List.getElem?_eq_some_iff.mp e
    have hl : (names l).length = l.length := List.length_map _
    have := (List.pairwise_iff_getElem.mp h) j i (by rw [hl]; exact h1) (by rw [hl]; exact h2) hji
    apply this
    unfold names
    rw [List.getElem_map, List.getElem_map, e1, e2]
    exact ep
  · cases hj
/-! ### a setting holds what its model says -/
structure SCo (P : Program) (w : World) (K : PySem.W.Frag) (mg : Str → Option Value) (base : Heap) (S g : Addr) : Prop where
  f : PySem.W.findIn K (.ref S) "__contains__" = some (some (.ref g))
  i : PySem.W.isFn K (.ref g) = true
  G : FnR P w K mg base CX0 1 g (spCont S)
structure SLn (P : Program) (w : World) (K : PySem.W.Frag) (mg : Str → Option Value) (base : Heap) (S g : Addr) : Prop where
  b : PySem.W.findIn K (.ref S) "__bool__" = some none
  f : PySem.W.findIn K (.ref S) "__len__" = some (some (.ref g))
  i : PySem.W.isFn K (.ref g) = true
  G : FnR P w K mg base CX0 1 g (spSLen S)
/-- a model that names some of U -/
def DictW (H : Hp) (dd : Addr) (U : List Str) (g : Str → Str) : Prop := ∃ mm : Md, H dd = some (.dK (mkv mm)) ∧ (names mm).Nodup ∧ (∀ n ∈ names mm, n ∈ U) ∧ (∀ n, mget mm n = g n) ∧ ∀ p ∈ mm, p.2 ∈ modesW
theorem DictW.same {H H' : Hp} {dd : Addr} {U : List Str} {g : Str → Str} (s : Same H H') (h : DictW H dd U g) : DictW H' dd U g := by
  obtain ⟨mm, h1, h2⟩ := h
  exact ⟨mm, s _ _ h1, h2⟩
def spHolds (S : Addr) : Sp := fun vs H Q _ => ∃ (x d dd nl : Addr) (U : List Str) (g : Str → Str), vs = [.ref x, .ref dd, .ref nl] ∧ SetG S H x d U g ∧ DictW H dd U g ∧ UOk U ∧ U.Nodup ∧ H nl = some (.lst (U.map V.str)) ∧ ∀ H', Same H H' → Q (.bl true) H'
theorem dp_strs {m : Nat} {l : List Str} (h : l.length ≤ 1000) : dp (m + 2) (.list (l.map PyData.str)) := by
  simp only [dp]
  refine ⟨by rw [List.length_map]; omega, fun y hy => ?_⟩
  obtain ⟨z, _, rfl⟩ := List.mem_map.mp hy
  simp only [dp]
theorem strsDp {K : PySem.W.Frag} {H : Hp} : ∀ xs : List Str, DpAll K H (xs.map V.str) (xs.map PyData.str)
  | [] => .nil
  | x :: r => .cons (.str x) (strsDp r)
theorem word_str {x : Str} (h : IsWord x) : PyData.strOk x = true := by
  unfold PyData.strOk
  rw [Array.all_eq_true_iff_forall_mem]
  intro c hc
  have := (h.2.2 c (Array.mem_toList_iff.mpr hc)).2
  exact decide_eq_true (by omega)
theorem strs_shapedL {xs : List Str} (h : ∀ x ∈ xs, IsWord x) : SeqAt.shaped (.list (xs.map .str)) = true := by
  have h1 : PyData.canLayAll0 (xs.map .str) = true := by
    induction xs with
    | nil => rfl
    | cons x r ih =>
      simp only [List.map_cons, PyData.canLayAll0, PyData.canLay0, Bool.and_eq_true]
      exact ⟨word_str (h x List.mem_cons_self), ih fun y hy => h y (List.mem_cons_of_mem _ hy)⟩
  have h2 : PyData.depthAll (xs.map .str) ≤ 1 := by
    induction xs with
    | nil => simp [PyData.depthAll]
    | cons x r ih =>
      simp only [List.map_cons, PyData.depthAll, PyData.depth]
      have := ih (fun y hy => h y (List.mem_cons_of_mem _ hy)) (by
        simp only [List.map_cons, PyData.canLayAll0, Bool.and_eq_true] at h1
        exact h1.2)
      omega
  unfold SeqAt.shaped
  simp only [PyData.canLay0, h1, PyData.depth, Bool.true_and]
  exact decide_eq_true (by omega)
section
variable {P : Program} {w : World} {K : PySem.W.Frag} {mg : Str → Option Value} {base : Heap}
theorem scHo : FnScope ["setting", "modes", "names", "due", "name", "grade", "told"] ["setting", "modes", "names"] (defScope sHolds) := ⟨rfl, rfl, rfl, by decide +kernel, rfl, by decide +kernel, by decide +kernel⟩
theorem ok_holds {f S fi fc fl fN fS : Addr} {fd fdN fdS : FuncData} (T : StC K mg S) (B : Bts mg) (msorted : mg "sorted" = none) (F : Fun K "_law_holds" "_law_holds" sHolds f fd) (IT : SIt P w K mg base S fi) (CO : SCo P w K mg base S fc) (L : SLn P w K mg base S fl)
    (MN : Meth K S "names" fN) (GN : FnOk P w K mg base CX0 1 fN fdN ["self"] (spNms S)) (bN : Binds K fdN ["self"] []) (GS : FnOk P w K mg base CX0 4 fS fdS ["actual", "due"] (spSame K 4)) (mS : mg "_law_same" = some (.ref fS)) (kS : PySem.W.keepIn K (.ref fS) = true) (bS : Binds K fdS ["actual", "due"] []) :
    FnOk P w K mg base CX0 5 f fd ["setting", "modes", "names"] (spHolds S) := by
  refine F.ok scHo (fun vs H Q E h => ?_) (fun cdv A outer s H vs Q E hr h => ?_)
  · obtain ⟨x, d, dd, nl, U, g, rfl, _⟩ := h
    rfl
  · obtain ⟨x, d, dd, nl, U, g, rfl, hS, hD, uo, und, hnl, kk⟩ := h
    have hrS : Room 4 _ := hr
    have hrIT : Room 4 _ := hr
    have hrBO : Room 4 _ := hr
    have hrN : Room 1 _ := hr.mono (by decide)
    have hrCO := hrN
    have hr2 : Room 2 _ := hr.mono (by decide)
    have hu := hu_of hr
    have BO := L
    refine ⟨_, pss_cons (ps_set (i := 3) scHo.nd rfl (.inl rfl) (pe_callB cr_sortedS (by rfl) msorted (by decide +kernel) (pa_cons (pe_lock (pe_lc (own := [("name", 4)]) (g := gName 4) rfl scHo.nd (pi_keys (pv 1)) (blkOk_by (N := ["setting", "modes", "names", "due", "name", "grade", "told"]) (sc := defScope sHolds) (by decide +kernel)) (fun _ _ _ _ _ => (pg_name (i := 4) scHo.nd rfl (.inl rfl))) (fun _ _ _ _ _ => pts_one (pt_cmpR op_ne (pe_dget hu (pv 1) (pv 4) (fun _ _ => rfl)) pe_str (nomark _))) (fun _ _ _ _ _ => (pv 4)))) pa_nil)))
      (pss_cons (ps_for PassesOwn.never rfl (pi_list (pv 2)) (pg_name (i := 4) scHo.nd rfl (.inl rfl))
        (pss_cons (ps_set (i := 5) scHo.nd rfl (.inl rfl) (pe_dget2 hu (pv 1) (pv 4) pe_str ⟨rfl, rfl, rfl, rfl⟩))
          (pss_one (ps_if (PW.pt (pw_or (pt_not (pt_val (pe_call GS hrS (by rfl) mS kS bS .nil pass0 (pa_cons (pe_itemOwn IT.f IT.h IT.i IT.G hrIT pass0 (pv 0) (pv 4)) (pa_cons (pv 5) pa_nil))))) (pw_or1 (pt_cmpR op_ne (pe_cmpR (op_inOwn CO.f CO.i CO.G hrCO pass0) (pv 4) (pv 0) (by rfl)) (pe_cmpR op_ne (pv 5) pe_str (nomark _)) (nomark _)))))
            (pss_one (ps_ret pe_bl))
            pss_nil))))
      (pss_cons (ps_set (i := 6) scHo.nd rfl (.inl rfl) (pe_meth0 (pv 0) T.cls MN GN hrN bN .nil pass0))
      (pss_cons (ps_if (PW.pt (pw_or (pt_not (pt_val (pe_call GS hrS (by rfl) mS kS bS .nil pass0 (pa_cons (pv 6) (pa_cons (pv 3) pa_nil))))) (pw_or1 (pt_not (pt_val (pe_call GS hrS (by rfl) mS kS bS .nil pass0 (pa_cons (pe_callB (call_lenOwn L.f L.i L.G hr2 pass0) (by rfl) B.len PySem.boot_len (pa_cons (pv 0) pa_nil)) (pa_cons (pe_callB call_len_seq (by rfl) B.len PySem.boot_len (pa_cons (pv 3) pa_nil)) pa_nil))))))))
        (pss_one (ps_ret pe_bl))
        pss_nil)
      (pss_cons (ps_expr (pe_bm PySem.F.plainAttrs_list PySem.F.slot_list_append PySem.F.type_list_append mt_append (pv 6) (pa_cons pe_str pa_nil)))
      (pss_one (ps_ret (pe_and (pe_call GS hrS (by rfl) mS kS bS .nil pass0 (pa_cons (pe_meth0 (pv 0) T.cls MN GN hrN bN .nil pass0) (pa_cons (pv 3) pa_nil))) (pe_one (pe_cmpR op_eq (pe_callTy (call_boolOwn BO.b BO.f BO.i BO.G hrBO pass0) (by rfl) B.bool (by decide +kernel) (pa_cons (pv 0) pa_nil)) (pe_cmpR (op_neD hr.units) (pv 3) (pe_lst pa_nil) (nomark _)) (nomark _)))))))))), ?_⟩
    obtain ⟨m, hSa, um, hmg⟩ := hS
    obtain ⟨mm, hd, mnd, en, hg, hmv⟩ := hD
    have hUl := uo.l
    have lmm : mm.length ≤ 60 := by
      have := nodup_len mnd en
      unfold names at this
      rw [List.length_map] at this
      omega
    -- what is due
    refine ⟨dd, _, hd, trivial, fun od => ?_⟩
    have eF : (upd H dd (.frz od (.dK (mkv mm)))) dd = some (.frz od (.dK (mkv mm))) := upd_same
    refine ⟨_, rfl, dd, od, rfl, .inl ⟨mkv mm, eF, fun D nD => ?_⟩⟩
    refine lc_keys (d := dd) (o := od) (l := mkv mm) (fun i H2 => H2 D = some (.lst ((names ((mm.take i).filter fun p : Str × Str => !decide (p.2 = "out"))).map V.str)) ∧ Same (upd H dd (.frz od (.dK (mkv mm)))) H2)
      ⟨upd_same, same_new nD⟩ (fun i H2 _ hI => hI.2 _ _ eF) (fun i k v H2 hk hI => ?_) fun H2 hI => ?_
    · obtain ⟨eL, s2⟩ := hI
      obtain ⟨n, md, hn, rfl, rfl⟩ := mkv_at hk
      have hi : i < mm.length := (List.getElem?_eq_some_iff.mp hn).1
      have hgt : (look mm n).map V.str = some (V.str md) := by rw [look_at mnd hn]; rfl
      refine ⟨rfl, _, rfl, _, rfl, dd, _, rfl, ⟨.inl ⟨mkv mm, Sum.inr n, .inr ⟨od, s2 _ _ eF⟩, rfl, by rw [mkv_get]; exact hgt.symm⟩, rfl, _, rfl, ?_⟩⟩
      have tk : (mm.take (i + 1)).filter (fun p : Str × Str => !decide (p.2 = "out")) = (mm.take i).filter (fun p : Str × Str => !decide (p.2 = "out")) ++ (if (!decide (md = "out")) = true then [(n, md)] else []) := by
        rw [List.take_succ, hn, List.filter_append]
        congr 1
        show List.filter _ [(n, md)] = _
        rw [List.filter_cons, List.filter_nil]
      have lt : (names ((mm.take i).filter fun p : Str × Str => !decide (p.2 = "out"))).length ≤ 60 := by
        unfold names
        rw [List.length_map]
        have h1 := List.length_filter_le (fun p : Str × Str => !decide (p.2 = "out")) (mm.take i)
        rw [List.length_take] at h1
        omega
      show (if (!decide (V.str md = V.str "out")) = true then _ else _)
      by_cases em : md = "out"
      · rw [decide_eq_true (show V.str md = V.str "out" by rw [em])]
        rw [decide_eq_true em, if_neg (by simp), List.append_nil] at tk
        exact iteF ⟨by rw [tk]; exact eL, s2⟩
      · rw [decide_eq_false (fun e => em (V.str.inj e))]
        rw [decide_eq_false em, if_pos (show (!false) = true from rfl)] at tk
        refine iteT ⟨_, rfl, _, eL, small1000 (by rw [List.length_map]; omega), ?_, fun b o e => ?_⟩
        · rw [upd_same, tk]
          unfold names
          rw [List.map_append, List.map_append]
          rfl
        · rw [upd_ne (ne_of_none e nD)]; exact s2 b o e
    obtain ⟨eL, s2⟩ := hI
    rw [mkv_len, List.take_length] at eL
    refine ⟨s2 _ _ eF, ?_⟩
    have s3 : Same H (upd H2 dd (.dK (mkv mm))) := lock_same hd s2
    have nDd : D ≠ dd := fun e => by rw [e, upd_same] at nD; cases nD
    have eD : (upd H2 dd (.dK (mkv mm))) D = some (.lst ((names (mm.filter fun p : Str × Str => !decide (p.2 = "out"))).map V.str)) := by rw [upd_ne nDd]; exact eL
    generalize upd H2 dd (.dK (mkv mm)) = H3 at *
    clear s2 eL eF nD
    have lf : (names (mm.filter fun p : Str × Str => !decide (p.2 = "out"))).length ≤ 60 := by
      unfold names
      rw [List.length_map]
      have h1 := List.length_filter_le (fun p : Str × Str => !decide (p.2 = "out")) mm
      omega
    refine ⟨D, _, rfl, SqL.of eD, by omega, fun zs pd hzp hzs npd => ?_⟩
    have s4 := s3.trans (same_new (o := .lst (zs.map V.str)) npd)
    have epd : (upd H3 pd (.lst (zs.map V.str))) pd = some (.lst (zs.map V.str)) := upd_same
    generalize upd H3 pd (.lst (zs.map V.str)) = H4 at *
    clear s3 npd eD nDd
    have hm_mem : ∀ n, n ∈ names m ↔ n ∈ names (mm.filter fun p : Str × Str => !decide (p.2 = "out")) := fun n => by
      have h1 := mget_out um n
      rw [hmg, ← hg] at h1
      have h2 : n ∈ names (mm.filter fun p : Str × Str => !decide (p.2 = "out")) ↔ ¬ mget mm n = "out" := by
        refine ⟨fun h => ?_, fun h => ?_⟩
        · obtain ⟨p, hp, rfl⟩ := List.mem_map.mp h
          obtain ⟨hp1, hp2⟩ := List.mem_filter.mp hp
          obtain ⟨i, hi⟩ := List.getElem?_of_mem hp1
          unfold mget
          rw [look_at mnd hi]
          simpa using hp2
        · unfold mget at h
          cases e : look mm n with
          | none => rw [e] at h; exact absurd rfl h
          | some v =>
            rw [e] at h
            exact List.mem_map.mpr ⟨(n, v), List.mem_filter.mpr ⟨look_mem e, by simpa using h⟩, rfl⟩
      rw [h2, h1, Classical.not_not]
    have fnd : (names (mm.filter fun p : Str × Str => !decide (p.2 = "out"))).Nodup := ((List.filter_sublist (l := mm)).map _).nodup mnd
    have hperm : (names m).Perm (names (mm.filter fun p : Str × Str => !decide (p.2 = "out"))) := (List.perm_ext_iff_of_nodup um.nd fnd).mpr hm_mem
    have lz : zs.length = m.length := by
      rw [hzp.length_eq, ← hperm.length_eq]
      unfold names
      rw [List.length_map]
    have okm := um.md uo
    have lm := okm.len
    have hD4 : DictW H4 dd U g := DictW.same s4 ⟨mm, hd, mnd, en, hg, hmv⟩
    have hS4 : SetG S H4 x d U g := SetG.same s4 ⟨m, hSa, um, hmg⟩
    have enl := s4 _ _ hnl
    refine ⟨_, rfl, nl, rfl, ⟨_, SqL.of enl⟩, for_list (K := K) (a := nl) (xs := U.map V.str) (fun i σ H2 => ∃ (z y : Option V), σ = [some (.ref x), some (.ref dd), some (.ref nl), some (.ref pd), z, y, none] ∧ Same H4 H2)
      ⟨none, none, rfl, fun b o h => h⟩ (fun i σ H2 _ hI => ?_) ?_ ?_⟩
    · obtain ⟨_, _, _, k2⟩ := hI
      exact SqL.of (k2 _ _ enl)
    · rintro i v σ H2 hv ⟨z, y, rfl, k2⟩
      rw [List.getElem?_map] at hv
      obtain ⟨n, hn, rfl⟩ := Option.map_eq_some_iff.mp hv
      have hnU := List.mem_of_getElem? hn
      have hw := uo.w n hnU
      obtain ⟨mm', hd', _, en', hg', hmv'⟩ := hD4.same k2
      refine ⟨_, rfl, dd, rfl, .inl ⟨_, .inl hd'⟩, _, rfl, ((look mm' n).map V.str), .inl ⟨mkv mm', Sum.inr n, .inl hd', rfl, (mkv_get mm' n).symm⟩, ?_⟩
      have eg : ((look mm' n).map V.str).getD (.str "out") = .str (g n) := by
        rw [← hg' n]
        unfold mget
        cases look mm' n <;> rfl
      show gName _ (((look mm' n).map V.str).getD (.str "out")) _ _ _
      rw [eg]
      obtain ⟨m2, hS2, um2, hm2⟩ := hS4.same k2
      obtain ⟨dx2, b1, b2⟩ := id hS2
      refine ⟨_, rfl, _, rfl, x, dx2, _, rfl, b1, x, d, m2, n, rfl, hS2, hw, fun H3 s3 => ?_⟩
      have eg2 : mget m2 n = g n := hm2 n
      rw [eg2]
      refine ⟨_, rfl, _, _, .str (g n), rfl, .str _, .str _, trivial, fun H5 s5 => ⟨_, rfl, ?_⟩⟩
      have hS5 := (hS2.same s3).same s5
      obtain ⟨dx5, c1, c2⟩ := id hS5
      refine ⟨_, rfl, _, rfl, x, dx5, _, rfl, c1, ⟨x, d, m2, n, rfl, hS5, _, rfl, ?_⟩⟩
      have ec : (look m2 n).isSome = !decide (V.str (g n) = V.str "out") := by
        rw [← eg2]
        unfold mget
        cases el : look m2 n with
        | none => rw [decide_eq_true (by rfl)]; rfl
        | some v =>
          rw [decide_eq_false fun e => ?_]
          · rfl
          · have e' : v = "out" := V.str.inj e
            rcases (um2.ok _ (look_mem el)).2 with q | q
            · exact absurd (show ("out" : Str) = "on" from e'.symm.trans q) (by decide +kernel)
            · exact absurd (show ("out" : Str) = "deaf" from e'.symm.trans q) (by decide +kernel)
      refine ⟨_, rfl, rfl, rfl, false, ?_, ⟨_, _, rfl, ((k2.trans s3).trans s5)⟩⟩
      rw [ec, decide_eq_true rfl]
      rfl
    · rintro σ H2 ⟨z, y, rfl, k2⟩
      obtain ⟨m2, hS2, um2, hm2⟩ := hS4.same k2
      obtain ⟨dx2, b1, b2⟩ := id hS2
      have ok2 := um2.md uo
      have hp2 : (names m2).Perm (names (mm.filter fun p : Str × Str => !decide (p.2 = "out"))) := (List.perm_ext_iff_of_nodup um2.nd fnd).mpr fun n => by
        refine Iff.trans ?_ (hm_mem n)
        have h1 := mget_out um2 n
        have h2 := mget_out um n
        rw [hm2, ← hmg, h2] at h1
        exact ⟨fun q => Classical.byContradiction fun z => h1.mp z q, fun q => Classical.byContradiction fun z => h1.mpr z q⟩
      have lz2 : (m2.length : Int) = (zs.length : Int) := by
        rw [hzp.length_eq, ← hp2.length_eq]
        unfold names
        rw [List.length_map]
      have lzs : zs.length ≤ 60 := by rw [lz]; exact lm
      refine ⟨_, rfl, x, dx2, _, rfl, b1, rfl, x, d, m2, rfl, hS2, ok2.len, fun ys p hp hys np => ?_⟩
      have ey : ys = zs := sorted_uniq (hp.trans (hp2.trans hzp.symm)) hys hzs
      subst ey
      have s5 := k2.trans (same_new (o := .lst (ys.map V.str)) np)
      have e5 : (upd H2 p (.lst (ys.map V.str))) p = some (.lst (ys.map V.str)) := upd_same
      have hS5 := hS2.same (same_new (o := .lst (ys.map V.str)) np)
      have npH := k2.free np
      generalize upd H2 p (.lst (ys.map V.str)) = H5 at *
      have epd5 := s5 _ _ epd
      have hlen1000 : ys.length ≤ 1000 := by omega
      have nppd : p ≠ pd := (ne_of_none epd npH).symm
      refine ⟨_, rfl, _, rfl, .ref p, .ref pd, .list (ys.map PyData.str), rfl, .lst (SqL.of e5) (strsDp ys), .lst (SqL.of epd5) (strsDp ys), dp_strs hlen1000, fun H6 s6 => ⟨_, rfl, ?_⟩⟩
      have hS6 := hS5.same s6
      obtain ⟨dx6, c1, c2⟩ := id hS6
      refine ⟨_, rfl, x, dx6, _, rfl, c1, ⟨x, d, m2, rfl, hS6, _, rfl, ⟨by omega, by omega⟩, _, rfl, pd, _, rfl, .inl (SqL.of (s6 _ _ epd5)), ?_⟩⟩
      have el : (((ys.map V.str).length : Nat) : Int) = (m2.length : Int) := by rw [List.length_map]; exact lz2.symm
      rw [el]
      refine ⟨.int (m2.length : Int), .int (m2.length : Int), .int (m2.length : Int), rfl, .int _, .int _, trivial, fun H7 s7 => ⟨_, rfl, ?_⟩⟩
      have hS7 := hS6.same s7
      obtain ⟨dx7, g1, g2⟩ := id hS7
      have s67 := s6.trans s7
      have e7 := s67 _ _ e5
      have epd7 := s67 _ _ epd5
      refine ⟨_, rfl, .inl ⟨rfl, _, SqL.of e7⟩, p, _, _, rfl, rfl, e7, small1000 (by rw [List.length_map]; omega), ?_⟩
      have npd7 : d ≠ p := by
        intro z
        rw [z, e7] at g2; cases g2
      have npx7 : x ≠ p := by
        intro z
        rw [z, e7] at g1; cases g1
      have hS8 : SetAt S (upd H7 p (.lst (ys.map V.str ++ [.str "x"]))) x d m2 := ⟨dx7, by rw [upd_ne npx7]; exact g1, by rw [upd_ne npd7]; exact g2⟩
      have epd8 : (upd H7 p (.lst (ys.map V.str ++ [.str "x"]))) pd = some (.lst (ys.map V.str)) := by rw [upd_ne nppd.symm]; exact epd7
      have s8 : Same H (upd H7 p (.lst (ys.map V.str ++ [.str "x"]))) := fun b o e => by
        rw [upd_ne (fun z => by rw [z] at e; rw [(s4.free npH)] at e; cases e)]
        exact s7 _ _ (s6 _ _ (s5 _ _ (s4 _ _ e)))
      generalize upd H7 p (.lst (ys.map V.str ++ [.str "x"])) = H8 at *
      obtain ⟨dx8, g1', g2'⟩ := id hS8
      refine ⟨_, rfl, x, dx8, _, rfl, g1', rfl, x, d, m2, rfl, hS8, ok2.len, fun ys2 p2 hp2' hys2 np2 => ?_⟩
      have ey2 : ys2 = ys := sorted_uniq (hp2'.trans hp.symm) hys2 hys
      subst ey2
      have s9 := same_new (o := .lst (ys2.map V.str)) np2
      refine ⟨_, rfl, .ref p2, .ref pd, .list (ys2.map PyData.str), rfl, .lst (SqL.of upd_same) (strsDp ys2), .lst (SqL.of (s9 _ _ epd8)) (strsDp ys2), dp_strs hlen1000, fun H10 s10 => ⟨_, rfl, ?_⟩⟩
      have hS10 := (hS8.same s9).same s10
      have epd10 := s10 _ _ (s9 _ _ epd8)
      obtain ⟨dx10, g1', g2'⟩ := id hS10
      refine iteT ⟨_, rfl, x, dx10, _, rfl, g1', ⟨x, d, m2, rfl, hS10, _, rfl, ⟨by omega, by omega⟩, _, rfl, by decide, fun q nq => ?_⟩⟩
      have hne : pd ≠ q := (ne_of_none epd10 nq)
      have hwords : ∀ y ∈ ys2, IsWord y := fun y hy => by
        have := (hp2'.mem_iff.mp hy)
        obtain ⟨p', hp', rfl⟩ := List.mem_map.mp this
        exact uo.w _ (um2.ok _ hp').1
      refine ⟨.list (ys2.map PyData.str), .list [], .lst (SqL.of (by rw [upd_ne hne]; exact epd10)) (strsDp ys2), .lst (SqL.of upd_same) .nil, strs_shapedL hwords, by decide +kernel, rfl, ?_⟩
      have eb : ((m2.length : Int) != 0) = !PyData.eqv (.list (ys2.map PyData.str)) (.list []) := by
        rw [lz2]
        cases ys2 with
        | nil => simp [PyData.eqv, PyData.eqvAll]
        | cons u r =>
          rw [List.map_cons]
          simp only [PyData.eqv, PyData.eqvAll, List.length_cons]
          rw [Bool.not_false, bne_iff_ne]
          omega
      rw [eb, decide_eq_true rfl]
      exact kk _ fun b o e => (same_new nq) _ _ (s10 _ _ (s9 _ _ (s8 _ _ e)))
end
/-! ### C(a, .., k = v) by FnKw -/
def tMakeKR (C : Addr) (n : Nat) (sp : List V → Sp) (E : XK) (ta tk : TA) : TE := fun σ H Q => ta σ H fun vs H1 => tk σ H1 fun zs H2 => zs.length = n ∧ ∀ x dx, H2 x = none → H2 dx = none → dx ≠ x →
  sp zs (V.ref x :: vs) (upd (upd H2 dx (.own x)) x (.ins C dx [])) (fun v H3 => v = .non ∧ Q (.ref x) H3) E
section
open PySem.Spec PyProof.Rows
variable {X : Cx} {CX : CXT} {k : Nat} {C f : Addr} {ks : List Str} {sp : List V → Sp} {E : XK} {x : Str} {p pos : Pos} {e : Expr} {es : List Expr} {kws : List Keyword} {ta tk : TA}
theorem pe_makeKR0 (M : Mk X.K C f) (F : FnKw X.prog X.w X.K X.mg X.base CX k f ks sp) (hr : Room (k + 1) X.A) (hg : Gl X x) (hm : X.mg x = some (.ref C)) (hx : Passes CX X E) (hkw : PK X kws tk)
    (hall : (backToKw pos (keywordEach kws X.env)).all (·.1.isSome) = true := by rfl) (hks : (backToKw pos (keywordEach kws X.env)).filterMap (·.1) = ks := by rfl) (hdb : (x == ("__debug__" : Str)) = false := by decide)
    (hpl : ((backTo pos (starEach [] X.env)).any (·.1) || (backToKw pos (keywordEach kws X.env)).any (·.1.isNone)) = false := by rfl) : PE X (.Call (.Name x p) [] kws pos) (tMakeKR C ks.length sp E tNil tk) := by
  refine ⟨fun pins s σ H Q I h => ?_⟩
  refine wpAny_Call_Name_kw (ld_glob I hg hm ?_ hdb)
  refine PySem.W.callWith_KW0 (h₀ := X.base) I.ok.mod.kin M.kp hall ?_ hpl
  refine thn (hkw.run pos pins s σ H _ I h) fun ws s2 ⟨zs, H2, I2, rz, lz, q2⟩ => ⟨I2.kIn, ?_⟩
  rw [hks]
  exact run_makeKW (us := []) (vs := []) M F hr hx I2 .nil rz q2
theorem pe_makeKR (M : Mk X.K C f) (F : FnKw X.prog X.w X.K X.mg X.base CX k f ks sp) (hr : Room (k + 1) X.A) (hg : Gl X x) (hm : X.mg x = some (.ref C)) (hx : Passes CX X E) (ha : PA X (e :: es) ta) (hkw : PK X kws tk)
    (hall : (backToKw pos (keywordEach kws X.env)).all (·.1.isSome) = true := by rfl) (hks : (backToKw pos (keywordEach kws X.env)).filterMap (·.1) = ks := by rfl) (hdb : (x == ("__debug__" : Str)) = false := by decide)
    (he : starEach (e :: es) X.env = (false, eval e X.env) :: starEach es X.env := by rfl) (hpl : ((backTo pos (starEach (e :: es) X.env)).any (·.1) || (backToKw pos (keywordEach kws X.env)).any (·.1.isNone)) = false := by rfl) :
    PE X (.Call (.Name x p) (e :: es) kws pos) (tMakeKR C ks.length sp E ta tk) := by
  refine ⟨fun pins s σ H Q I h => ?_⟩
  refine wpAny_Call_Name_kw (ld_glob I hg hm ?_ hdb)
  refine PySem.W.callWith_KW (h₀ := X.base) I.ok.mod.kin M.kp hall (thn (ha.run pos pins s σ H _ I h) fun us s1 ⟨vs, H1, I1, r, q⟩ => ?_) hpl he
  refine thn (hkw.run pos pins s1 σ H1 _ I1 q) fun ws s2 ⟨zs, H2, I2, rz, lz, q2⟩ => ⟨I2.kIn, ?_⟩
  rw [hks]
  exact run_makeKW M F hr hx I2 r rz q2
end
/-! ### dicts of texts compared -/
def sameKv (ls : List (Key × V)) : List (Key × V) → Bool
  | [] => true
  | p :: r => match valV ls p.1 with
    | none => false
    | some u => eqV p.2 u && sameKv ls r
section
open PySem.Spec PyProof.Rows
theorem hits_kv {A : Around} {s : Shared} {kvs : List (Key × V)} {vb : List (Key × Value)} (rb : KV kvs vb) (fb : ∀ k v, valV kvs k = some v → flatV v = true) {ks : List (Key × V)} {va : List (Key × Value)} (ra : KV ks va) :
    (∀ p ∈ ks, flatV p.2 = true) → PySem.W.KeqHits A s vb va (sameKv kvs ks) := by
  unfold KV at ra
  induction ra with
  | nil => intro _; exact .nil
  | @cons p q ps qs h t ih =>
    intro hp
    obtain ⟨h1, h2⟩ := h
    have rr : RelO (valV kvs p.1) (valueAt vb p.1) := rb.val p.1
    obtain ⟨k, v⟩ := q
    have h1' : p.1 = k := h1
    unfold sameKv
    cases e : valV kvs p.1 with
    | none =>
      rw [e] at rr
      refine .miss ?_
      rw [← h1']
      cases e2 : valueAt vb p.1 with
      | none => rfl
      | some y => rw [e2] at rr; cases rr
    | some u =>
      rw [e] at rr
      obtain ⟨y, hy, ry⟩ := rr.some_of
      rw [h1'] at hy
      exact .hit hy (eqAt_V h2 ry (hp p List.mem_cons_self) (fb _ _ e)) (ih fun p' hm => hp p' (List.mem_cons_of_mem _ hm))
variable {X : Cx}
def rEqDS : R2 := fun x y H Q => ∃ a b ks ls, x = .ref a ∧ y = .ref b ∧ H a = some (.dK ks) ∧ H b = some (.dK ls) ∧ (∀ p ∈ ks, flatV p.2 = true) ∧ (∀ k v, valV ls k = some v → flatV v = true) ∧ Q (.bl (ks.length == ls.length && sameKv ls ks)) H
theorem op_eqDS (hu : X.A.units < cLine) : OpR X (compareOp .Eq) rEqDS := by
  intro pins s σ H x y v u Q I rx ry h
  obtain ⟨a, b, ks, ls, rfl, rfl, ea, eb, fa, fb, q⟩ := h
  obtain rfl : v = Value.ref a := rx
  obtain rfl : u = Value.ref b := ry
  obtain ⟨_, ya, va, ra, da⟩ := (show ObjOk X.prog X.w H s.heap a (.dK ks) from I.hok a _ ea)
  obtain ⟨_, yb, vb, rb, db⟩ := (show ObjOk X.prog X.w H s.heap b (.dK ls) from I.hok b _ eb)
  exact PySem.W.keq_eq (knd := mixKind X.prog X.w) (r := sameKv ls ks) ya yb da db hu (fun _ => hits_kv rb fb ra fa) (fin_bl I q (by rw [ra.length, rb.length]))
end
/-- two models say the same -/
def eqMd (m m' : Md) : Bool := (mkv m).length == (mkv m').length && sameKv (mkv m') (mkv m)
theorem sameKv_iff (m' : Md) : ∀ m : Md, sameKv (mkv m') (mkv m) = true ↔ ∀ p ∈ m, look m' p.1 = some p.2
  | [] => ⟨fun _ p h => (nomatch h), fun _ => rfl⟩
  | p :: r => by
    have e : valV (mkv m') (Sum.inr p.1) = (look m' p.1).map V.str := mkv_get m' p.1
    have ih := sameKv_iff m' r
    show (match valV (mkv m') (Sum.inr p.1) with | none => false | some u => eqV (.str p.2) u && sameKv (mkv m') (mkv r)) = true ↔ _
    rw [e]
    cases hl : look m' p.1 with
    | none =>
      refine ⟨fun h => (nomatch h), fun h => ?_⟩
      have := h p List.mem_cons_self
      rw [hl] at this; cases this
    | some v =>
      show ((p.2 == v) && sameKv (mkv m') (mkv r)) = true ↔ _
      rw [Bool.and_eq_true, beq_iff_eq, ih]
      refine ⟨fun ⟨h1, h2⟩ q hq => ?_, fun h => ⟨?_, fun q hq => h q (List.mem_cons_of_mem _ hq)⟩⟩
      · rcases List.mem_cons.mp hq with rfl | hq
        · rw [hl, h1]
        · exact h2 q hq
      · have := h p List.mem_cons_self
        rw [hl] at this
        exact (Option.some.inj this).symm
theorem look_at_mem {m : Md} (nd : (names m).Nodup) {p : Str × Str} (hp : p ∈ m) : look m p.1 = some p.2 := by
  obtain ⟨i, hi⟩ := List.getElem?_of_mem hp
  exact look_at nd hi
theorem eqMd_iff {m m' : Md} (nd : (names m).Nodup) (nd' : (names m').Nodup) : eqMd m m' = true ↔ ∀ n, look m n = look m' n := by
  unfold eqMd
  rw [Bool.and_eq_true, sameKv_iff, beq_iff_eq, mkv_len, mkv_len]
  refine ⟨fun ⟨hl, h⟩ n => ?_, fun h => ⟨?_, fun p hp => ?_⟩⟩
  · cases e : look m n with
    | some v => exact (h _ (look_mem e)).symm
    | none =>
      cases e' : look m' n with
      | none => rfl
      | some v =>
        exfalso
        have hsub : ∀ x ∈ names m, x ∈ (names m').erase n := fun x hx => by
          obtain ⟨p, hp, rfl⟩ := List.mem_map.mp hx
          refine (List.mem_erase_of_ne fun z => ?_).mpr (List.mem_map.mpr ⟨_, look_mem (h p hp), rfl⟩)
          have := look_at_mem nd hp
          rw [z, e] at this; cases this
        have h1 := nodup_len nd hsub
        have hn : n ∈ names m' := List.mem_map.mpr ⟨_, look_mem e', rfl⟩
        rw [List.length_erase_of_mem hn] at h1
        have h2 : 0 < (names m').length := List.length_pos_of_mem hn
        unfold names at h1 h2
        rw [List.length_map, List.length_map] at h1
        rw [List.length_map] at h2
        omega
  · have h1 := nodup_len nd (U := names m') fun x hx => by
      obtain ⟨p, hp, rfl⟩ := List.mem_map.mp hx
      have := look_at_mem nd hp
      rw [h] at this
      exact List.mem_map.mpr ⟨_, look_mem this, rfl⟩
    have h2 := nodup_len nd' (U := names m) fun x hx => by
      obtain ⟨p, hp, rfl⟩ := List.mem_map.mp hx
      have := look_at_mem nd' hp
      rw [← h] at this
      exact List.mem_map.mpr ⟨_, look_mem this, rfl⟩
    unfold names at h1 h2
    rw [List.length_map, List.length_map] at h1 h2
    omega
  · rw [← h]; exact look_at_mem nd hp
theorem eqMd_congr {a b a' b' : Md} (na : (names a).Nodup) (nb : (names b).Nodup) (na' : (names a').Nodup) (nb' : (names b').Nodup) (h1 : ∀ n, look a n = look a' n) (h2 : ∀ n, look b n = look b' n) : eqMd a b = eqMd a' b' := by
  rw [Bool.eq_iff_iff, eqMd_iff na nb, eqMd_iff na' nb']
  exact ⟨fun h n => by rw [← h1, h, h2], fun h n => by rw [h1, h, ← h2]⟩
theorem mkv_flat (m : Md) : ∀ p ∈ mkv m, flatV p.2 = true := fun p hp => by
  obtain ⟨i, hi⟩ := List.getElem?_of_mem hp
  obtain ⟨n, md, _, _, e⟩ := mkv_at (v := p.2) (k := p.1) hi
  rw [e]; rfl
theorem mkv_flat2 (m : Md) : ∀ k v, valV (mkv m) k = some v → flatV v = true := fun k v h => by
  cases k with
  | inr n =>
    rw [mkv_get] at h
    obtain ⟨u, _, rfl⟩ := Option.map_eq_some_iff.mp h
    rfl
  | inl i =>
    have : ∀ l : List (Key × V), (∀ p ∈ l, flatV p.2 = true) → ∀ k v, valV l k = some v → flatV v = true := by
      intro l hl k v hv
      induction l with
      | nil => cases hv
      | cons p r ih =>
        by_cases e : p.1 = k
        · rw [valV_pos e] at hv
          obtain rfl := Option.some.inj hv
          exact hl p List.mem_cons_self
        · rw [valV_neg e] at hv
          exact ih (fun q hq => hl q (List.mem_cons_of_mem _ hq)) hv
    exact this _ (mkv_flat m) _ _ h
/-! ### settings made of names -/
def spNewP (S : Addr) : Sp := fun vs H Q _ => ∃ (x dx : Addr) (ns : List Str), vs = .ref x :: ns.map V.str ∧ H x = some (.ins S dx []) ∧ ns.Nodup ∧ (∀ z ∈ ns, IsWord z) ∧ ns.length ≤ 60 ∧ ∀ (H' : Hp) (d : Addr), H d = none → (∀ b o, b ≠ x → H b = some o → H' b = some o) → SetAt S H' x d (pairsW "on" ns) → Q .non H'
def spMade (K : PySem.W.Frag) (S : Addr) : Sp := fun vs H Q _ => ∃ (o : Addr) (fa : V) (ns ds : List Str), vs = [.ref o, fa] ∧ SqL K H o (ns.map V.str) ∧ ns.length ≤ 3 ∧ ((fa = .non ∧ ds = []) ∨ ∃ p, fa = .ref p ∧ (SqT K H p (ds.map V.str) ∨ SqL K H p (ds.map V.str))) ∧ (ns ++ ds).Nodup ∧ (∀ z ∈ ns ++ ds, IsWord z) ∧ (ns ++ ds).length ≤ 60 ∧
  ∀ (x d : Addr) (H' : Hp), Same H H' → H x = none → H d = none → SetAt S H' x d (pairsW "on" ns ++ pairsW "deaf" ds) → Q (.ref x) H'
section
variable {P : Program} {w : World} {K : PySem.W.Frag} {mg : Str → Option Value} {base : Heap}
theorem upto3 {α : Type} : ∀ {ns : List α}, ns.length ≤ 3 → ns = [] ∨ (∃ a, ns = [a]) ∨ (∃ a b, ns = [a, b]) ∨ ∃ a b c, ns = [a, b, c]
  | [], _ => .inl rfl
  | [a], _ => .inr (.inl ⟨a, rfl⟩)
  | [a, b], _ => .inr (.inr (.inl ⟨a, b, rfl⟩))
  | [a, b, c], _ => .inr (.inr (.inr ⟨a, b, c, rfl⟩))
  | _ :: _ :: _ :: _ :: r, h => by simp only [List.length_cons] at h; omega
theorem ok_newP {S fI fC fU : Addr} {fdC fdU : FuncData} (SI : SInit K S fI) (T : StC K mg S) (GC : FnOk P w K mg base CX0 2 fC fdC ["things"] (spNames0 K)) (mC : mg "check_names" = some (.ref fC)) (kC : PySem.W.keepIn K (.ref fC) = true) (bC : Binds K fdC ["things"] [])
    (GU : FnOk P w K mg base CX0 2 fU fdU ["names"] (spUnlike0 K)) (mU : mg "check_unlike" = some (.ref fU)) (kU : PySem.W.keepIn K (.ref fU) = true) (bU : Binds K fdU ["names"] []) : FnR P w K mg base CX0 3 fI (spNewP S) := by
  obtain ⟨oc, od, an, doc, pm, cdv, ct, osl, D, e0, dd, n, sl, lk, hcd, hD, he⟩ := SI.ex
  have G := fn_starD (sp := spInit3 K S) (mg := mg) (base := base) (P := P) (w := w) (dv := .ref e0) (du := .ref e0) lk hcd scIn StX.cxUp_none hD rfl (fun a rest => by cases rest <;> exact ⟨_, _, _, _, _, _, rfl, rfl, rfl⟩) (init3 T GC mC kC bC GU mU kU bU)
  intro A outer s H us vs Q E hr e0' rv hsp
  obtain ⟨x, dx, ns, rfl, hx, hnd, hw, hl, kk⟩ := hsp
  refine G A outer s H us _ Q E hr e0' rv ⟨.ref x, ns.map V.str, rfl, len1000 (n := (ns.map V.str).length) (by rw [List.length_map]; omega), fun p np => ?_⟩
  have s1 := same_new (o := .tup (ns.map V.str)) np
  refine ⟨x, dx, e0, p, [], ns, rfl, s1 _ _ hx, .inl (.inr ⟨_, _, _, he, rfl, rfl, Nat.zero_le _, .nil⟩), SqT.of upd_same, by rw [List.append_nil]; exact hnd, by rw [List.append_nil]; exact hw, by rw [List.append_nil]; exact hl, fun H' d nd k hS => kk H' d (s1.free nd) (fun b o nb e => k b o nb (s1 _ _ e)) ?_⟩
  have e : pairsW "on" ns ++ pairsW "deaf" [] = pairsW "on" ns := List.append_nil _
  rw [e] at hS
  exact hS
theorem scMa : FnScope ["on", "faint"] ["on", "faint"] (defScope sMade) := ⟨rfl, rfl, rfl, by decide +kernel, rfl, by decide +kernel, by decide +kernel⟩
theorem ok_made {f S fI : Addr} {fd : FuncData} (T : StC K mg S) (B : Bts mg) (F : Fun K "_law_made" "_law_made" sMade f fd) (MK : Mk K S fI) (GR : FnR P w K mg base CX0 3 fI (spNewP S)) (GK : FnKw P w K mg base CX0 3 fI ["deaf"] (spNewK K S)) : FnOk P w K mg base CX0 5 f fd ["on", "faint"] (spMade K S) := by
  refine F.ok scMa (fun vs H Q E h => ?_) (fun cdv A outer s H vs Q E hr h => ?_)
  · obtain ⟨o, fa, ns, ds, rfl, _⟩ := h
    rfl
  · obtain ⟨o, fa, ns, ds, rfl, ho, hn3, hfa, hnd, hw, hl, kk⟩ := h
    have hrMK : Room 4 _ := hr
    refine ⟨_, pss_cons (ps_if (pt_cmpR op_isN (pv 1) pe_non (nomark _))
        (pss_cons (ps_if (pt_cmpR op_eq (pe_callB call_len_seq (by rfl) B.len PySem.boot_len (pa_cons (pv 0) pa_nil)) pe_int (nomark _))
            (pss_one (ps_ret (pe_makeR0 MK GR hrMK (by rfl) T.m pass0)))
            pss_nil)
          (pss_cons (ps_if (pt_cmpR op_eq (pe_callB call_len_seq (by rfl) B.len PySem.boot_len (pa_cons (pv 0) pa_nil)) pe_int (nomark _))
            (pss_one (ps_ret (StX.pe_makeR MK GR hrMK (by rfl) T.m pass0 (pa_cons (pe_ix ix_list (pv 0) pe_int (fun _ _ => rfl)) pa_nil))))
            pss_nil)
          (pss_one (ps_ret (pe_ifExp (pt_cmpR op_eq (pe_callB call_len_seq (by rfl) B.len PySem.boot_len (pa_cons (pv 0) pa_nil)) pe_int (nomark _)) (StX.pe_makeR MK GR hrMK (by rfl) T.m pass0 (pa_cons (pe_ix ix_list (pv 0) pe_int (fun _ _ => rfl)) (pa_cons (pe_ix ix_list (pv 0) pe_int (fun _ _ => rfl)) pa_nil))) (StX.pe_makeR MK GR hrMK (by rfl) T.m pass0 (pa_cons (pe_ix ix_list (pv 0) pe_int (fun _ _ => rfl)) (pa_cons (pe_ix ix_list (pv 0) pe_int (fun _ _ => rfl)) (pa_cons (pe_ix ix_list (pv 0) pe_int (fun _ _ => rfl)) pa_nil)))))))))
        pss_nil)
      (pss_cons (ps_if (pt_cmpR op_eq (pe_callB call_len_seq (by rfl) B.len PySem.boot_len (pa_cons (pv 0) pa_nil)) pe_int (nomark _))
        (pss_one (ps_ret (pe_makeKR0 MK GK hrMK (by rfl) T.m pass0 (pk_cons (pv 1) pk_nil))))
        pss_nil)
      (pss_cons (ps_if (pt_cmpR op_eq (pe_callB call_len_seq (by rfl) B.len PySem.boot_len (pa_cons (pv 0) pa_nil)) pe_int (nomark _))
        (pss_one (ps_ret (pe_makeKR MK GK hrMK (by rfl) T.m pass0 (pa_cons (pe_ix ix_list (pv 0) pe_int (fun _ _ => rfl)) pa_nil) (pk_cons (pv 1) pk_nil))))
        pss_nil)
      (pss_one (ps_ret (pe_ifExp (pt_cmpR op_eq (pe_callB call_len_seq (by rfl) B.len PySem.boot_len (pa_cons (pv 0) pa_nil)) pe_int (nomark _)) (pe_makeKR MK GK hrMK (by rfl) T.m pass0 (pa_cons (pe_ix ix_list (pv 0) pe_int (fun _ _ => rfl)) (pa_cons (pe_ix ix_list (pv 0) pe_int (fun _ _ => rfl)) pa_nil)) (pk_cons (pv 1) pk_nil)) (pe_makeKR MK GK hrMK (by rfl) T.m pass0 (pa_cons (pe_ix ix_list (pv 0) pe_int (fun _ _ => rfl)) (pa_cons (pe_ix ix_list (pv 0) pe_int (fun _ _ => rfl)) (pa_cons (pe_ix ix_list (pv 0) pe_int (fun _ _ => rfl)) pa_nil))) (pk_cons (pv 1) pk_nil))))))), ?_⟩
    have fin : ∀ (x dx : Addr), H x = none → H dx = none → dx ≠ x → ∀ (H' : Hp) (d : Addr), (upd (upd H dx (.own x)) x (.ins S dx [])) d = none → (∀ b o, b ≠ x → (upd (upd H dx (.own x)) x (.ins S dx [])) b = some o → H' b = some o) → SetAt S H' x d (pairsW "on" ns ++ pairsW "deaf" ds) → (V.non = V.non ∧ Q (.ref x) H') := by
      intro x dx nx ndx nxd H' d nd k hS
      have sA : Same H (upd (upd H dx (.own x)) x (.ins S dx [])) := (same_new ndx).trans (same_new (by rw [upd_ne nxd.symm]; exact nx))
      exact ⟨rfl, kk x d H' (fun b o e => k b o (ne_of_none e nx) (sA _ _ e)) nx (sA.free nd) hS⟩
    rcases hfa with ⟨rfl, rfl⟩ | ⟨p, rfl, hp⟩
    · have e0 : pairsW "on" ns ++ pairsW "deaf" [] = pairsW "on" ns := List.append_nil _
      rw [e0] at fin
      rw [List.append_nil] at hnd hw hl
      refine ⟨_, rfl, rfl, _, rfl, iteT ?_⟩
      rcases upto3 hn3 with rfl | ⟨a, rfl⟩ | ⟨a, b, rfl⟩ | ⟨a, b, c, rfl⟩
      · refine ⟨_, rfl, o, _, rfl, .inl ho, rfl, _, rfl, iteT ?_⟩
        exact fun x dx nx ndx nxd => ⟨x, dx, [], rfl, upd_same, hnd, hw, hl, fin x dx nx ndx nxd⟩
      · refine ⟨_, rfl, o, _, rfl, .inl ho, rfl, _, rfl, iteF ?_⟩
        refine ⟨_, rfl, o, _, rfl, .inl ho, rfl, _, rfl, iteT ?_⟩
        exact ⟨_, rfl, o, _, _, .str a, rfl, rfl, ho, atI_nat (j := 0) rfl, fun x dx nx ndx nxd => ⟨x, dx, [a], rfl, upd_same, hnd, hw, hl, fin x dx nx ndx nxd⟩⟩
      · refine ⟨_, rfl, o, _, rfl, .inl ho, rfl, _, rfl, iteF ?_⟩
        refine ⟨_, rfl, o, _, rfl, .inl ho, rfl, _, rfl, iteF ?_⟩
        refine ⟨_, rfl, o, _, rfl, .inl ho, rfl, _, rfl, iteT ?_⟩
        exact ⟨_, rfl, o, _, _, .str a, rfl, rfl, ho, atI_nat (j := 0) rfl, _, rfl, o, _, _, .str b, rfl, rfl, ho, atI_nat (j := 1) rfl, fun x dx nx ndx nxd => ⟨x, dx, [a, b], rfl, upd_same, hnd, hw, hl, fin x dx nx ndx nxd⟩⟩
      · refine ⟨_, rfl, o, _, rfl, .inl ho, rfl, _, rfl, iteF ?_⟩
        refine ⟨_, rfl, o, _, rfl, .inl ho, rfl, _, rfl, iteF ?_⟩
        refine ⟨_, rfl, o, _, rfl, .inl ho, rfl, _, rfl, iteF ?_⟩
        exact ⟨_, rfl, o, _, _, .str a, rfl, rfl, ho, atI_nat (j := 0) rfl, _, rfl, o, _, _, .str b, rfl, rfl, ho, atI_nat (j := 1) rfl, _, rfl, o, _, _, .str c, rfl, rfl, ho, atI_nat (j := 2) rfl, fun x dx nx ndx nxd => ⟨x, dx, [a, b, c], rfl, upd_same, hnd, hw, hl, fin x dx nx ndx nxd⟩⟩
    · have hpK : ∀ (x dx : Addr), H x = none → H dx = none → dx ≠ x → SqT K (upd (upd H dx (.own x)) x (.ins S dx [])) p (ds.map V.str) ∨ SqL K (upd (upd H dx (.own x)) x (.ins S dx [])) p (ds.map V.str) := fun x dx nx ndx nxd => by
        have sA : Same H (upd (upd H dx (.own x)) x (.ins S dx [])) := (same_new ndx).trans (same_new (by rw [upd_ne nxd.symm]; exact nx))
        exact hp.imp (fun h => Same.seqT sA h) (fun h => sA.seq h)
      refine ⟨_, rfl, rfl, _, rfl, iteF ?_⟩
      rcases upto3 hn3 with rfl | ⟨a, rfl⟩ | ⟨a, b, rfl⟩ | ⟨a, b, c, rfl⟩
      · refine ⟨_, rfl, o, _, rfl, .inl ho, rfl, _, rfl, iteT ?_⟩
        exact ⟨_, rfl, rfl, fun x dx nx ndx nxd => ⟨x, dx, p, ds, [], rfl, rfl, upd_same, hpK x dx nx ndx nxd, hnd, hw, hl, fin x dx nx ndx nxd⟩⟩
      · refine ⟨_, rfl, o, _, rfl, .inl ho, rfl, _, rfl, iteF ?_⟩
        refine ⟨_, rfl, o, _, rfl, .inl ho, rfl, _, rfl, iteT ?_⟩
        exact ⟨_, rfl, o, _, _, .str a, rfl, rfl, ho, atI_nat (j := 0) rfl, _, rfl, rfl, fun x dx nx ndx nxd => ⟨x, dx, p, ds, [a], rfl, rfl, upd_same, hpK x dx nx ndx nxd, hnd, hw, hl, fin x dx nx ndx nxd⟩⟩
      · refine ⟨_, rfl, o, _, rfl, .inl ho, rfl, _, rfl, iteF ?_⟩
        refine ⟨_, rfl, o, _, rfl, .inl ho, rfl, _, rfl, iteF ?_⟩
        refine ⟨_, rfl, o, _, rfl, .inl ho, rfl, _, rfl, iteT ?_⟩
        exact ⟨_, rfl, o, _, _, .str a, rfl, rfl, ho, atI_nat (j := 0) rfl, _, rfl, o, _, _, .str b, rfl, rfl, ho, atI_nat (j := 1) rfl, _, rfl, rfl, fun x dx nx ndx nxd => ⟨x, dx, p, ds, [a, b], rfl, rfl, upd_same, hpK x dx nx ndx nxd, hnd, hw, hl, fin x dx nx ndx nxd⟩⟩
      · refine ⟨_, rfl, o, _, rfl, .inl ho, rfl, _, rfl, iteF ?_⟩
        refine ⟨_, rfl, o, _, rfl, .inl ho, rfl, _, rfl, iteF ?_⟩
        refine ⟨_, rfl, o, _, rfl, .inl ho, rfl, _, rfl, iteF ?_⟩
        exact ⟨_, rfl, o, _, _, .str a, rfl, rfl, ho, atI_nat (j := 0) rfl, _, rfl, o, _, _, .str b, rfl, rfl, ho, atI_nat (j := 1) rfl, _, rfl, o, _, _, .str c, rfl, rfl, ho, atI_nat (j := 2) rfl, _, rfl, rfl, fun x dx nx ndx nxd => ⟨x, dx, p, ds, [a, b, c], rfl, rfl, upd_same, hpK x dx nx ndx nxd, hnd, hw, hl, fin x dx nx ndx nxd⟩⟩
end
/-! ### settings compared -/
theorem sub_tyL {K : PySem.W.Frag} {C : Addr} {T : String} (l : List String) (e : fastBuiltinMro T = some (l.map .type)) : PySem.W.subIn K (.type T) (.ref C) = some false := by
  show (fastBuiltinMro T).map (·.contains (.ref C)) = some false
  rw [e]
  have : (l.map Value.type).contains (.ref C) = false := by
    rw [Bool.eq_false_iff]
    intro q
    rw [List.contains_iff_mem] at q
    obtain ⟨x, _, e⟩ := List.mem_map.mp q
    cases e
  rw [Option.map_some, this]
theorem sub_int {K : PySem.W.Frag} {C : Addr} : PySem.W.subIn K (.type "int") (.ref C) = some false := sub_tyL ["int", "object"] (by decide +kernel)
theorem sub_str {K : PySem.W.Frag} {C : Addr} : PySem.W.subIn K (.type "str") (.ref C) = some false := sub_tyL ["str", "object"] (by decide +kernel)
theorem sub_list {K : PySem.W.Frag} {C : Addr} : PySem.W.subIn K (.type "list") (.ref C) = some false := sub_tyL ["list", "object"] (by decide +kernel)
theorem sub_dict {K : PySem.W.Frag} {C : Addr} : PySem.W.subIn K (.type "dict") (.ref C) = some false := sub_tyL ["dict", "object"] (by decide +kernel)
theorem kit_tyF {K : PySem.W.Frag} {C : Addr} {T : String} (s : PySem.W.subIn K (.type T) (.ref C) = some false) (cl : (PySem.W.clsIn K C).isSome = true) (ty : PySem.W.typeIn K (.ref C) = some (.type "type")) : PySem.W.kitOne K (.type T) (.ref C) = some false := by
  unfold PySem.W.kitOne
  have h0 : (Value.type T == Value.ref C) = false := Bool.eq_false_iff.mpr fun q => nomatch beq_iff_eq.mp q
  rw [h0, if_neg Bool.false_ne_true]
  unfold PySem.W.kitCls
  have hc : ((PySem.W.clsIn K C).isSome && PySem.W.typeIn K (.ref C) == some (.type "type")) = true := by rw [cl, ty]; simp
  simp only [hc, if_true]
  exact s
def rEqOwnT (K : PySem.W.Frag) (C : Addr) (sp : Sp) (E : XK) : R2 := fun x y H Q => ∃ a dx fs T, x = .ref a ∧ H a = some (.ins C dx fs) ∧ TyX K H y (.type T) ∧ PySem.W.subIn K (.type T) (.ref C) = some false ∧ sp [x, y] H Q E
section
variable {X : Cx} {CX : CXT} {k : Nat} {C g : Addr} {sp : Sp} {E : XK}
theorem op_eqOwnT (hs : PySem.W.findIn X.K (.ref C) "__eq__" = some (some (.ref g))) (hf : PySem.W.isFn X.K (.ref g) = true) (F : FnR X.prog X.w X.K X.mg X.base CX k g sp) (hr : Room k X.A) (hx : Passes CX X E) : OpR X (compareOp .Eq) (rEqOwnT X.K C sp E) := by
  intro pins s σ H x y v u Q I rx ry h
  obtain ⟨a, dx, fs, T, rfl, ha, hd, hsub, q⟩ := h
  cases (show v = Value.ref a from rx)
  obtain ⟨mA, O, _⟩ := ins_get I.hok ha
  obtain ⟨od, J, _⟩ := O.look
  obtain ⟨m, hF⟩ := I.fr
  obtain ⟨Pz, Z, pz, _⟩ := kit_of I ry hd
  have hn : PySem.W.notFirst X.K C (.type T) = true := by
    unfold PySem.W.notFirst
    rw [hsub]
    simp
  show wpAny _ _ (richCompare .Eq (.ref a) u) _ _ _
  refine PySem.W.cmp_K (op := .Eq) (tb := .type T) hr.units0 hF I.ok.mod.kin J (Z.ty _ _ I.kIn pz) hn hs hf ?_
  refine wpAny_mono (wpAny_call (run_fnR (us := [.ref a, u]) (vs := [.ref a, y]) F hr hx I (.cons rfl (.cons ry .nil)) q)) (fun w s' z => ?_) fun _ _ x => x
  obtain ⟨z', H', I', rz, qz⟩ := z
  exact SlX.cmpback rz ⟨z', H', I', rz, qz⟩
end
structure SCls (K : PySem.W.Frag) (S : Addr) : Prop where
  ca : PySem.W.findIn K (.ref S) "__class__" = some (some (.builtin "object.__class__"))
  cn : PySem.W.specialIn K (.builtin "object.__class__") "__get__" = some (some (.builtin "getset_descriptor.__get__"))
  ct : PySem.W.takesIn K (.builtin "object.__class__") = some true
  cm : PySem.W.mroIn K S (.type "object") = some true
  ty : PySem.W.typeIn K (.ref S) = some (.type "type")
def spEqS (S : Addr) : Sp := fun vs H Q _ => ∃ (x d y e : Addr) (m m' : Md), vs = [.ref x, .ref y] ∧ SetAt S H x d m ∧ SetAt S H y e m' ∧ Q (.bl (eqMd m m')) H
def spEqT (K : PySem.W.Frag) (S : Addr) : Sp := fun vs H Q _ => ∃ (x d : Addr) (m : Md) (y : V) (T : String), vs = [.ref x, y] ∧ SetAt S H x d m ∧ TyX K H y (.type T) ∧ PySem.W.subIn K (.type T) (.ref S) = some false ∧ Q (.bl false) H
structure SEq (P : Program) (w : World) (K : PySem.W.Frag) (mg : Str → Option Value) (base : Heap) (S g : Addr) : Prop where
  f : PySem.W.findIn K (.ref S) "__eq__" = some (some (.ref g))
  i : PySem.W.isFn K (.ref g) = true
  G : FnR P w K mg base CX0 1 g (spEqS S)
structure SEqT (P : Program) (w : World) (K : PySem.W.Frag) (mg : Str → Option Value) (base : Heap) (S g : Addr) : Prop where
  f : PySem.W.findIn K (.ref S) "__eq__" = some (some (.ref g))
  i : PySem.W.isFn K (.ref g) = true
  G : FnR P w K mg base CX0 1 g (spEqT K S)
def inD (m : Md) (u : PyData) : Bool := match u with | .str n => (look m n).isSome | _ => false
/-- name in setting, whatever the name is -/
def spContD (K : PySem.W.Frag) (S : Addr) : Sp := fun vs H Q _ => ∃ (x d : Addr) (m : Md) (y : V) (u : PyData), vs = [.ref x, y] ∧ SetAt S H x d m ∧ Dp K H y u ∧ Q (.bl (inD m u)) H
section
variable {P : Program} {w : World} {K : PySem.W.Frag} {mg : Str → Option Value} {base : Heap}
theorem scSe : FnScope ["self", "other"] ["self", "other"] (defScope (se 18)) := ⟨rfl, rfl, rfl, by decide +kernel, rfl, by decide +kernel, by decide +kernel⟩
theorem ok_eqs {f S : Addr} {fd : FuncData} {k : Nat} (T : StC K mg S) (CL : SCls K S) (B : Bts mg) (F : Fun K "__eq__" "Setting.__eq__" (se 18) f fd) : FnOk P w K mg base CX0 (k + 1) f fd ["self", "other"] (spEqS S) := by
  refine F.ok scSe (fun vs H Q E h => ?_) (fun cdv A outer s H vs Q E hr h => ?_)
  · obtain ⟨x, d, y, e, m, m', rfl, _⟩ := h
    rfl
  · obtain ⟨x, d, y, e, m, m', rfl, ⟨dx, h1, h2⟩, ⟨dy, g1, g2⟩, kk⟩ := h
    refine ⟨_, pss_one (ps_ret (pe_and (pe_callB call_isi (by rfl) B.isinstance (by decide +kernel) (pa_cons (pv 1) (pa_cons (pe_glob (v := .ref S) rfl T.m rfl) pa_nil))) (pe_one (pe_cmpR (op_eqDS hr.units0) (pe_fld (pv 0) rfl) (pe_fld (pv 1) rfl) (nomark _))))), ?_⟩
    have kc : PySem.W.kitOne K (.ref S) (.ref S) = some true := by unfold PySem.W.kitOne; rw [if_pos (by simp)]
    refine ⟨_, rfl, _, _, _, _, true, rfl, .own S, TyX.base (TyOf.ins g1 T.cls CL.ca CL.cn CL.ct CL.cm), kc, _, rfl, iteT ?_⟩
    exact ⟨_, rfl, x, S, dx, _, _, rfl, h1, T.cls, T.nm, rfl, _, rfl, y, S, dy, _, _, rfl, g1, T.cls, T.nm, rfl, d, e, _, _, rfl, rfl, h2, g2, mkv_flat m, mkv_flat2 m', kk⟩
theorem ok_eqT {f S : Addr} {fd : FuncData} {k : Nat} (T : StC K mg S) (CL : SCls K S) (B : Bts mg) (F : Fun K "__eq__" "Setting.__eq__" (se 18) f fd) : FnOk P w K mg base CX0 (k + 1) f fd ["self", "other"] (spEqT K S) := by
  refine F.ok scSe (fun vs H Q E h => ?_) (fun cdv A outer s H vs Q E hr h => ?_)
  · obtain ⟨x, d, m, y, T, rfl, _⟩ := h
    rfl
  · obtain ⟨x, d, m, y, T', rfl, ⟨dx, h1, h2⟩, ht, hs, kk⟩ := h
    obtain ⟨cd, hcd, _⟩ := PySem.W.any_some T.cls.hd
    have hcl : (PySem.W.clsIn K S).isSome = true := by rw [hcd]; rfl
    refine ⟨_, pss_one (ps_ret (pe_and (pe_callB call_isi (by rfl) B.isinstance (by decide +kernel) (pa_cons (pv 1) (pa_cons (pe_glob (v := .ref S) rfl T.m rfl) pa_nil))) (pe_one (pe_cmpR (op_eqDS hr.units0) (pe_fld (pv 0) rfl) (pe_fld (pv 1) rfl) (nomark _))))), ?_⟩
    exact ⟨_, rfl, _, _, _, _, false, rfl, .own S, ht, kit_tyF hs hcl CL.ty, _, rfl, iteF kk⟩
theorem scScD : FnScope ["self", "name"] ["self", "name"] (defScope (se 11)) := ⟨rfl, rfl, rfl, by decide +kernel, rfl, by decide +kernel, by decide +kernel⟩
theorem ok_scontD {f S : Addr} {fd : FuncData} {k : Nat} (T : StC K mg S) (B : Bts mg) (F : Fun K "__contains__" "Setting.__contains__" (se 11) f fd) : FnOk P w K mg base CX0 (k + 1) f fd ["self", "name"] (spContD K S) := by
  refine F.ok scScD (fun vs H Q E h => ?_) (fun cdv A outer s H vs Q E hr h => ?_)
  · obtain ⟨x, d, m, y, u, rfl, _⟩ := h
    rfl
  · obtain ⟨x, d, m, y, u, rfl, ⟨dx, h1, h2⟩, hd, kk⟩ := h
    have hu := hu_of hr
    refine ⟨_, pss_one (ps_ret (pe_and (pe_callB call_isi (by rfl) B.isinstance (by decide +kernel) (pa_cons (pv 1) (pa_cons (pe_bltn (v := .ty "str") (by rfl) B.str (by decide +kernel) rfl) pa_nil))) (pe_one (pe_cmp (pc_din hu (pv 1) (pe_fld (pv 0) rfl)))))), ?_⟩
    refine ⟨_, rfl, _, _, _, _, _, rfl, .ty "str", ty_of hd, kit_ty (kitS hd), _, rfl, ?_⟩
    cases hd with
    | str n =>
      refine iteT ⟨_, rfl, _, rfl, x, S, dx, _, _, rfl, h1, T.cls, T.nm, rfl, d, _, rfl, DGet.k (k := Sum.inr n) h2, ?_⟩
      rw [mkv_get]
      have e : ((look m n).map V.str).isSome = (look m n).isSome := by cases look m n <;> rfl
      rw [e]
      exact kk
    | _ => exact iteF kk
end
/-! ### the state of the law -/
theorem SetG.ofDup {S x d : Addr} {H : Hp} {U : List Str} {g : Str → Str} {m : Md} (h : SetAt S H x d (parted m)) (uo : UOk U) (um : MdU U m) (hg : ∀ n, mget m n = g n) : SetG S H x d U g := by
  have ok := um.md uo
  have pp := parted_perm ok
  refine ⟨parted m, h, um.perm pp, fun n => ?_⟩
  rw [← hg n]
  unfold mget
  rw [perm_look ok.nd pp n]
theorem SetG.keepL {S x d e : Addr} {H H' : Hp} {U : List Str} {g : Str → Str} {l : List V} (h : SetG S H x d U g) (he : H e = some (.lst l)) (k : ∀ b o, b ≠ e → H b = some o → H' b = some o) : SetG S H' x d U g := by
  obtain ⟨m, ⟨dx, h1, h2⟩, r⟩ := h
  exact ⟨m, ⟨dx, k _ _ (fun z => by rw [z, he] at h1; cases h1) h1, k _ _ (fun z => by rw [z, he] at h2; cases h2) h2⟩, r⟩
theorem SetG.keepD {S x d e : Addr} {H H' : Hp} {U : List Str} {g : Str → Str} {l : List (Key × V)} (h : SetG S H x d U g) (he : H e = some (.dK l)) (hne : d ≠ e) (k : ∀ b o, b ≠ e → H b = some o → H' b = some o) : SetG S H' x d U g := by
  obtain ⟨m, ⟨dx, h1, h2⟩, r⟩ := h
  exact ⟨m, ⟨dx, k _ _ (fun z => by rw [z, he] at h1; cases h1) h1, k _ _ hne h2⟩, r⟩
theorem SetG.keepP {S x d p q : Addr} {H H' : Hp} {U : List Str} {g : Str → Str} {n : Nat} (h : SetG S H x d U g) (P : PoolAt H p q n) (k : Keeps p q H H') : SetG S H' x d U g := by
  obtain ⟨m, ⟨dx, h1, h2⟩, r⟩ := h
  obtain ⟨_, _, _, _, e1, e2, _⟩ := P
  exact ⟨m, ⟨dx, k _ _ (fun z => by rw [z, e1] at h1; cases h1) (fun z => by rw [z, e2] at h1; cases h1) h1, k _ _ (fun z => by rw [z, e1] at h2; cases h2) (fun z => by rw [z, e2] at h2; cases h2) h2⟩, r⟩
theorem SetG.isD {S x d : Addr} {H : Hp} {U : List Str} {g : Str → Str} (h : SetG S H x d U g) : ∃ l, H d = some (.dK l) := by
  obtain ⟨m, ⟨dx, h1, h2⟩, r⟩ := h
  exact ⟨_, h2⟩
theorem DictG.isD {H : Hp} {dd : Addr} {U : List Str} {g : Str → Str} (h : DictG H dd U g) : ∃ l, H dd = some (.dK l) := by
  obtain ⟨mm, h1, _⟩ := h
  exact ⟨_, h1⟩
theorem DictG.keepL {dd e : Addr} {H H' : Hp} {U : List Str} {g : Str → Str} {l : List V} (h : DictG H dd U g) (he : H e = some (.lst l)) (k : ∀ b o, b ≠ e → H b = some o → H' b = some o) : DictG H' dd U g := by
  obtain ⟨mm, h1, r⟩ := h
  exact ⟨mm, k _ _ (fun z => by rw [z, he] at h1; cases h1) h1, r⟩
theorem DictG.keepD {dd e : Addr} {H H' : Hp} {U : List Str} {g : Str → Str} (h : DictG H dd U g) (hne : dd ≠ e) (k : ∀ b o, b ≠ e → H b = some o → H' b = some o) : DictG H' dd U g := by
  obtain ⟨mm, h1, r⟩ := h
  exact ⟨mm, k _ _ hne h1, r⟩
theorem DictG.keepP {dd p q : Addr} {H H' : Hp} {U : List Str} {g : Str → Str} {n : Nat} (h : DictG H dd U g) (P : PoolAt H p q n) (k : Keeps p q H H') : DictG H' dd U g := by
  obtain ⟨mm, h1, r⟩ := h
  obtain ⟨_, _, _, _, e1, e2, _⟩ := P
  exact ⟨mm, k _ _ (fun z => by rw [z, e1] at h1; cases h1) (fun z => by rw [z, e2] at h1; cases h1) h1, r⟩
theorem DictG.out {dd : Addr} {H : Hp} {U : List Str} {g : Str → Str} (h : DictG H dd U g) {n : Str} (hn : n ∉ U) : g n = "out" := by
  obtain ⟨mm, _, en, hg, _⟩ := h
  rw [← hg n]
  unfold mget
  cases e : look mm n with
  | none => rfl
  | some v => exact absurd (by rw [← en]; exact List.mem_map.mpr ⟨_, look_mem e, rfl⟩) hn
theorem DictG.modes {dd : Addr} {H : Hp} {U : List Str} {g : Str → Str} (h : DictG H dd U g) (n : Str) : g n ∈ modesW := by
  obtain ⟨mm, _, en, hg, hm⟩ := h
  rw [← hg n]
  unfold mget
  cases e : look mm n with
  | none => exact List.mem_cons_self
  | some v => exact hm _ (look_mem e)
theorem DictG.get {dd : Addr} {H : Hp} {U : List Str} {g : Str → Str} (h : DictG H dd U g) {n : Str} (hn : n ∈ U) : DGet H dd (.str n) (some (.str (g n))) := by
  obtain ⟨mm, h1, en, hg, _⟩ := h
  obtain ⟨v, hv⟩ := look_some (l := mm) (n := n) (by rw [en]; exact hn)
  refine .inl ⟨mkv mm, Sum.inr n, .inl h1, rfl, ?_⟩
  rw [mkv_get, hv, ← hg n]
  unfold mget
  rw [hv]; rfl
theorem DictG.ext {dd : Addr} {H : Hp} {U : List Str} {g g' : Str → Str} (h : DictG H dd U g) (e : ∀ n, g n = g' n) : DictG H dd U g' := by
  obtain ⟨mm, h1, en, hg, r⟩ := h
  exact ⟨mm, h1, en, fun n => (hg n).trans (e n), r⟩
theorem SetG.ext {S x d : Addr} {H : Hp} {U : List Str} {g g' : Str → Str} (h : SetG S H x d U g) (e : ∀ n, g n = g' n) : SetG S H x d U g' := by
  obtain ⟨m, h1, um, hg⟩ := h
  exact ⟨m, h1, um, fun n => (hg n).trans (e n)⟩
theorem DictG.putM {dd : Addr} {H : Hp} {U : List Str} {g : Str → Str} (h : DictG H dd U g) (uo : UOk U) {n v : Str} (hn : n ∈ U) (hv : v ∈ modesW) : ∃ H', DPut H dd (.str n) (.str v) H' ∧ (∀ b o, b ≠ dd → H b = some o → H' b = some o) ∧ DictG H' dd U (fun z => if z = n then v else g z) := by
  obtain ⟨mm, h1, en, hg, hm⟩ := h
  obtain ⟨w, hw⟩ := look_some (l := mm) (n := n) (by rw [en]; exact hn)
  have ll : mm.length ≤ 60 := by
    have := congrArg List.length en
    unfold names at this
    rw [List.length_map] at this
    have := uo.l
    omega
  refine ⟨_, .inl ⟨mkv mm, Sum.inr n, h1, rfl, small1000 (n := (mkv mm).length) (by rw [mkv_len]; omega), rfl⟩, fun b o nb e => by rw [upd_ne nb]; exact e, Qp.put mm n v, by rw [upd_same, mkv_put], by rw [put_names hw]; exact en, fun z => ?_, fun p hp => ?_⟩
  · unfold mget
    show _ = (if z = n then v else g z)
    rw [look_put]
    by_cases e : z = n
    · rw [if_pos e, if_pos e]; rfl
    · rw [if_neg e, if_neg e]; exact hg z
  · unfold Qp.put at hp
    split at hp
    · obtain ⟨q, hq, rfl⟩ := List.mem_map.mp hp
      split
      · exact hv
      · exact hm q hq
    · rcases List.mem_append.mp hp with hp | hp
      · exact hm p hp
      · rw [List.mem_singleton.mp hp]; exact hv
def l3 (f : Fin 3 → Addr) : List V := [.ref (f 0), .ref (f 1), .ref (f 2)]
theorem l3_at (f : Fin 3 → Addr) (i : Fin 3) : (l3 f)[i.val]? = some (V.ref (f i)) := by
  match i with
  | 0 => rfl
  | 1 => rfl
  | 2 => rfl
def up3 {α : Type} (f : Fin 3 → α) (i : Fin 3) (v : α) : Fin 3 → α := fun j => if j = i then v else f j
theorem up3_at {α : Type} (f : Fin 3 → α) (i : Fin 3) (v : α) : up3 f i v i = v := if_pos rfl
theorem up3_ne {α : Type} {f : Fin 3 → α} {i j : Fin 3} {v : α} (h : j ≠ i) : up3 f i v j = f j := if_neg h
theorem l3_set (f : Fin 3 → Addr) (i : Fin 3) (v : Addr) : (l3 f).set i.val (V.ref v) = l3 (up3 f i v) := by
  match i with
  | 0 => rfl
  | 1 => rfl
  | 2 => rfl
theorem draw3 {d : Int} (h0 : 0 ≤ d) (h1 : d < 3) : ∃ i : Fin 3, d = ((i.val : Nat) : Int) := ⟨⟨d.toNat, by omega⟩, by show d = ((d.toNat : Nat) : Int); omega⟩
theorem keeps_old {p q : Addr} {H H1 H2 : Hp} (s : Same H H1) (np : H p = none) (nq : H q = none) (k : Keeps p q H1 H2) : Same H H2 := fun b o e => k b o (ne_of_none e np) (ne_of_none e nq) (s b o e)
structure LI (S : Addr) (H : Hp) (p q nl ml sl : Addr) (n : Nat) (U : List Str) (M X D : Fin 3 → Addr) (Gm Gs : Fin 3 → Str → Str) : Prop where
  P : PoolAt H p q n
  N : H nl = some (.lst (U.map V.str))
  ML : H ml = some (.lst (l3 M))
  SL : H sl = some (.lst (l3 X))
  m : ∀ i, DictG H (M i) U (Gm i)
  s : ∀ i, SetG S H (X i) (D i) U (Gs i)
  mm : ∀ i j, i ≠ j → M i ≠ M j
  dd : ∀ i j, i ≠ j → D i ≠ D j
  md : ∀ i j, M i ≠ D j
  np : nl ≠ p ∧ nl ≠ q
  mp : ml ≠ p ∧ ml ≠ q
  sp : sl ≠ p ∧ sl ≠ q
  nm : nl ≠ ml
  ns : nl ≠ sl
  ms : ml ≠ sl
variable {S p q nl ml sl : Addr} {H H' : Hp} {n : Nat} {U : List Str} {M X D : Fin 3 → Addr} {Gm Gs : Fin 3 → Str → Str}
theorem LI.same (h : LI S H p q nl ml sl n U M X D Gm Gs) (s : Same H H') : LI S H' p q nl ml sl n U M X D Gm Gs :=
  { h with P := h.P.same s, N := s _ _ h.N, ML := s _ _ h.ML, SL := s _ _ h.SL, m := fun i => (h.m i).same s, s := fun i => (h.s i).same s }
theorem LI.draw {n' : Nat} (h : LI S H p q nl ml sl n U M X D Gm Gs) (P : PoolAt H' p q n') (k : Keeps p q H H') : LI S H' p q nl ml sl n' U M X D Gm Gs :=
  { h with P := P, N := k _ _ h.np.1 h.np.2 h.N, ML := k _ _ h.mp.1 h.mp.2 h.ML, SL := k _ _ h.sp.1 h.sp.2 h.SL, m := fun i => (h.m i).keepP h.P k, s := fun i => (h.s i).keepP h.P k }
theorem PoolAt.keepD {e : Addr} {l : List (Key × V)} (P : PoolAt H p q n) (he : H e = some (.dK l)) (k : ∀ b o, b ≠ e → H b = some o → H' b = some o) : PoolAt H' p q n := by
  obtain ⟨npq, cs, b, c0, e1, e2, r⟩ := P
  exact ⟨npq, cs, b, c0, k _ _ (fun z => by rw [z, he] at e1; cases e1) e1, k _ _ (fun z => by rw [z, he] at e2; cases e2) e2, r⟩
theorem lst_ne {a e : Addr} {l : List V} {u : List (Key × V)} (h : H a = some (.lst l)) (he : H e = some (.dK u)) : a ≠ e := fun z => by rw [z, he] at h; cases h
theorem LI.setD {g : Str → Str} (h : LI S H p q nl ml sl n U M X D Gm Gs) (i : Fin 3) (k : ∀ b o, b ≠ D i → H b = some o → H' b = some o) (hs : SetG S H' (X i) (D i) U g) : LI S H' p q nl ml sl n U M X D Gm (up3 Gs i g) := by
  obtain ⟨u, hu⟩ := (h.s i).isD
  refine { h with P := h.P.keepD hu k, N := k _ _ (lst_ne h.N hu) h.N, ML := k _ _ (lst_ne h.ML hu) h.ML, SL := k _ _ (lst_ne h.SL hu) h.SL, m := fun j => (h.m j).keepD (h.md j i) k, s := fun j => ?_ }
  by_cases e : j = i
  · subst e; rw [up3_at]; exact hs
  · rw [up3_ne e]; exact (h.s j).keepD hu (h.dd j i e) k
theorem LI.setM {g : Str → Str} (h : LI S H p q nl ml sl n U M X D Gm Gs) (i : Fin 3) (k : ∀ b o, b ≠ M i → H b = some o → H' b = some o) (hs : DictG H' (M i) U g) : LI S H' p q nl ml sl n U M X D (up3 Gm i g) Gs := by
  obtain ⟨u, hu⟩ := (h.m i).isD
  refine { h with P := h.P.keepD hu k, N := k _ _ (lst_ne h.N hu) h.N, ML := k _ _ (lst_ne h.ML hu) h.ML, SL := k _ _ (lst_ne h.SL hu) h.SL, s := fun j => (h.s j).keepD hu (fun e => h.md i j e.symm) k, m := fun j => ?_ }
  by_cases e : j = i
  · subst e; rw [up3_at]; exact hs
  · rw [up3_ne e]; exact (h.m j).keepD (h.mm j i e) k
theorem LI.setSL {x d : Addr} {g : Str → Str} (h : LI S H p q nl ml sl n U M X D Gm Gs) (i : Fin 3) (hs : SetG S H x d U g) (hd : ∀ j, d ≠ D j) (hm : ∀ j, d ≠ M j) : LI S (upd H sl (.lst (l3 (up3 X i x)))) p q nl ml sl n U M (up3 X i x) (up3 D i d) Gm (up3 Gs i g) := by
  have k : ∀ b o, b ≠ sl → H b = some o → (upd H sl (.lst (l3 (up3 X i x)))) b = some o := fun b o nb e => by rw [upd_ne nb]; exact e
  refine { h with P := h.P.upd h.sp.1 h.sp.2, N := k _ _ h.ns h.N, ML := k _ _ h.ms h.ML, SL := upd_same, m := fun j => (h.m j).keepL h.SL k, s := fun j => ?_, dd := fun a b nab => ?_, md := fun a b => ?_ }
  · by_cases e : j = i
    · subst e; rw [up3_at, up3_at, up3_at]; exact hs.keepL h.SL k
    · rw [up3_ne e, up3_ne e, up3_ne e]; exact (h.s j).keepL h.SL k
  · by_cases e : a = i
    · subst e
      rw [up3_at, up3_ne (Ne.symm nab)]; exact hd b
    · by_cases e2 : b = i
      · subst e2
        rw [up3_at, up3_ne e]; exact (hd a).symm
      · rw [up3_ne e, up3_ne e2]; exact h.dd a b nab
  · by_cases e : b = i
    · subst e; rw [up3_at]; exact (hm a).symm
    · rw [up3_ne e]; exact h.md a b
theorem LI.setML {d : Addr} {g : Str → Str} (h : LI S H p q nl ml sl n U M X D Gm Gs) (i : Fin 3) (hs : DictG H d U g) (hd : ∀ j, d ≠ D j) (hm : ∀ j, d ≠ M j) : LI S (upd H ml (.lst (l3 (up3 M i d)))) p q nl ml sl n U (up3 M i d) X D (up3 Gm i g) Gs := by
  have k : ∀ b o, b ≠ ml → H b = some o → (upd H ml (.lst (l3 (up3 M i d)))) b = some o := fun b o nb e => by rw [upd_ne nb]; exact e
  refine { h with P := h.P.upd h.mp.1 h.mp.2, N := k _ _ h.nm h.N, SL := k _ _ (Ne.symm h.ms) h.SL, ML := upd_same, s := fun j => (h.s j).keepL h.ML k, m := fun j => ?_, mm := fun a b nab => ?_, md := fun a b => ?_ }
  · by_cases e : j = i
    · subst e; rw [up3_at, up3_at]; exact hs.keepL h.ML k
    · rw [up3_ne e, up3_ne e]; exact (h.m j).keepL h.ML k
  · by_cases e : a = i
    · subst e
      rw [up3_at, up3_ne (Ne.symm nab)]; exact hm b
    · by_cases e2 : b = i
      · subst e2
        rw [up3_at, up3_ne e]; exact (hm a).symm
      · rw [up3_ne e, up3_ne e2]; exact h.mm a b nab
  · by_cases e : a = i
    · subst e; rw [up3_at]; exact hd b
    · rw [up3_ne e]; exact h.md a b
theorem g_join {A R : TS} {D : Ends} {σ : L2.St} {H : Hp} {i : Nat} {x : V} (Pv : L2.St → Hp → Prop) (tail : ∀ σ' H', Pv σ' H' → R D σ' H') (h : ∀ nx : L2.St → Hp → Prop, (∀ σ' H', Pv σ' H' → nx σ' H') → A { D with nx := nx } (σ.set i (some x)) H) : gName i x σ H (tSeq A R D) := h _ tail
theorem keeps_but {p q d : Addr} {H H1 H2 : Hp} (k : Keeps p q H H1) (nd : H d = none) (k2 : ∀ b o, b ≠ d → H1 b = some o → H2 b = some o) : Keeps p q H H2 := fun x o h1 h2 e => k2 x o (ne_of_none e nd) (k x o h1 h2 e)
/-! ### a setting like a model -/
theorem MdOk.uok {m : Md} (ok : MdOk m) : UOk (names m) := ⟨fun u hu => by
  obtain ⟨p, hp, rfl⟩ := List.mem_map.mp hu
  exact (ok.ok p hp).1, by unfold names; rw [List.length_map]; exact ok.len⟩
theorem MdOk.mdu {m : Md} (ok : MdOk m) : MdU (names m) m := ⟨ok.nd, fun p hp => ⟨List.mem_map.mpr ⟨p, hp, rfl⟩, (ok.ok p hp).2⟩⟩
theorem look_of_mget {U U' : List Str} {a b : Md} (ha : MdU U a) (hb : MdU U' b) (h : ∀ n, mget a n = mget b n) (n : Str) : look a n = look b n := by
  have hh := h n
  have h1 := mget_out ha n
  have h2 := mget_out hb n
  unfold mget at hh h1 h2
  cases e : look a n with
  | none =>
    cases e' : look b n with
    | none => rfl
    | some v =>
      rw [e, e'] at hh
      rw [e'] at h2
      exact absurd (List.mem_map.mpr ⟨_, look_mem e', rfl⟩) (h2.mp hh.symm)
  | some u =>
    cases e' : look b n with
    | none =>
      rw [e, e'] at hh
      rw [e] at h1
      exact absurd (List.mem_map.mpr ⟨_, look_mem e, rfl⟩) (h1.mp hh)
    | some v =>
      rw [e, e'] at hh
      exact congrArg some (show u = v from hh)
def spLike (S : Addr) : Sp := fun vs H Q _ => ∃ (p q : Addr) (n : Nat) (md : Addr) (m : Md), vs = [.ref p, .ref md] ∧ PoolAt H p q n ∧ n < 800000 ∧ H md = some (.dK (mkv m)) ∧ MdOk m ∧
  ∀ (x d : Addr) (m2 : Md) (H' : Hp), H x = none → H d = none → PoolAt H' p q (n + 1) → Keeps p q H H' → SetAt S H' x d m2 → (∀ k, look m2 k = look m k) → MdOk m2 → Q (.ref x) H'
theorem dK_pool {H : Hp} {p q md : Addr} {n : Nat} {l : List (Key × V)} (P : PoolAt H p q n) (h : H md = some (.dK l)) : md ≠ p ∧ md ≠ q := by
  obtain ⟨_, _, _, _, e1, e2, _⟩ := P
  refine ⟨fun z => ?_, fun z => ?_⟩
  · rw [z, e1] at h; cases h
  · rw [z, e2] at h; cases h
section
variable {P : Program} {w : World} {K : PySem.W.Frag} {mg : Str → Option Value} {base : Heap}
theorem scLk : FnScope ["pool", "modes", "setting", "names", "name"] ["pool", "modes"] (defScope sLike) := ⟨rfl, rfl, rfl, by decide +kernel, rfl, by decide +kernel, by decide +kernel⟩
theorem ok_like {f S fI fs fD : Addr} {fd fdD : FuncData} (T : StC K mg S) (B : Bts mg) (msorted : mg "sorted" = none) (F : Fun K "_law_like" "_law_like" sLike f fd) (MK : Mk K S fI) (GR : FnR P w K mg base CX0 3 fI (spNewP S)) (SO : SSo P w K mg base S fs) (GD : FnOk P w K mg base CX0 1 fD fdD ["pool", "many"] spDraw) (mD : mg "_law_draw" = some (.ref fD)) (kD : PySem.W.keepIn K (.ref fD) = true) (bD : Binds K fdD ["pool", "many"] []) : FnOk P w K mg base CX0 5 f fd ["pool", "modes"] (spLike S) := by
  refine F.ok scLk (fun vs H Q E h => ?_) (fun cdv A outer s H vs Q E hr h => ?_)
  · obtain ⟨p, q, n, md, m, rfl, _⟩ := h
    rfl
  · obtain ⟨p, q, n, md, m, rfl, hP, hn, hm, ok, kk⟩ := h
    have hrMK : Room 4 _ := hr
    have hrSO : Room 3 _ := hr.mono (by decide)
    have hrD : Room 1 _ := hr.mono (by decide)
    have hu := hu_of hr
    refine ⟨_, pss_cons (ps_set (i := 2) scLk.nd rfl (.inl rfl) (pe_makeR0 MK GR hrMK (by rfl) T.m pass0))
      (pss_cons (ps_set (i := 3) scLk.nd rfl (.inl rfl) (pe_callB cr_sortedS (by rfl) msorted (by decide +kernel) (pa_cons (pe_callTy (call_listD rfl) (by rfl) B.list (by decide +kernel) (pa_cons (pv 1) pa_nil)) pa_nil)))
      (pss_cons (ps_if (pt_truth (pe_call GD hrD (by rfl) mD kD bD .nil pass0 (pa_cons (pv 0) (pa_cons pe_int pa_nil))) (by intro _; rfl))
        (pss_one (ps_set (i := 3) scLk.nd rfl (.inl rfl) (pe_revL (pv 3))))
        pss_nil)
      (pss_cons (ps_for PassesOwn.never rfl (pi_list (pv 3)) (pg_name (i := 4) scLk.nd rfl (.inl rfl))
        (pss_one (ps_asg (pe_dget hu (pv 1) (pv 4) (fun _ _ => rfl)) (pg_sub (pv 2) (pv 4) (set_own SO.q SO.f SO.i SO.G hrSO pass0)))))
      (pss_one (ps_ret (pv 2)))))), ?_⟩
    refine fun x dx nx ndx nxd => ⟨x, dx, [], rfl, upd_same, .nil, fun z h => (nomatch h), Nat.zero_le _, fun H1 d nd k hS => ⟨rfl, ?_⟩⟩
    have s1 : Same H H1 := fun b o e => k b o (ne_of_none e nx) (by rw [upd_ne (ne_of_none e nx), upd_ne (ne_of_none e ndx)]; exact e)
    have ndH : H d = none := by
      have s0 : Same H (upd (upd H dx (.own x)) x (.ins S dx [])) := fun b o e => by rw [upd_ne (ne_of_none e nx), upd_ne (ne_of_none e ndx)]; exact e
      exact s0.free nd
    have hm1 := s1 _ _ hm
    have P1 := hP.same s1
    clear k nd
    refine ⟨_, rfl, md, _, rfl, .inl hm1, fun l1 nl1 => ?_⟩
    have elst : ((mkv m).map fun kv => kV kv.1) = (names m).map V.str := by
      unfold mkv kvs names
      rw [List.map_map, List.map_map, List.map_map]
      rfl
    rw [elst]
    have s2 := same_new (o := .lst ((names m).map V.str)) nl1
    have e2 : (upd H1 l1 (.lst ((names m).map V.str))) l1 = some (.lst ((names m).map V.str)) := upd_same
    generalize upd H1 l1 (.lst ((names m).map V.str)) = H2 at *
    have hlm := ok.len
    have P2 := P1.same s2
    refine ⟨l1, _, rfl, SqL.of e2, by unfold names; rw [List.length_map]; omega, fun zs pd hzp hzs npd => ?_⟩
    have s3 := same_new (o := .lst (zs.map V.str)) npd
    have e3 : (upd H2 pd (.lst (zs.map V.str))) pd = some (.lst (zs.map V.str)) := upd_same
    have P3 := (P1.same s2).same s3
    have hS3 := (hS.same s2).same s3
    have hm3 := s3 _ _ (s2 _ _ hm1)
    have S3 : Same H (upd H2 pd (.lst (zs.map V.str))) := (s1.trans s2).trans s3
    generalize upd H2 pd (.lst (zs.map V.str)) = H3 at *
    have pdp : pd ≠ p := by obtain ⟨o, e⟩ := P2.p_some; exact (ne_of_none e npd).symm
    have pdq : pd ≠ q := by obtain ⟨o, e⟩ := P2.q_some; exact (ne_of_none e npd).symm
    clear s3 npd s2 e2 nl1 hm1 P1 P2 elst hS s1
    dsimp only []
    refine g_join (fun σ' H' => ∃ (pl : Addr) (ws : List Str), σ' = [some (.ref p), some (.ref md), some (.ref x), some (.ref pl), none] ∧ H' pl = some (.lst (ws.map V.str)) ∧ ws.Perm (names m) ∧ H' md = some (.dK (mkv m)) ∧ PoolAt H' p q (n + 1) ∧ SetAt S H' x d [] ∧ Keeps p q H H') ?_ fun nx_ tail => ?_
    · rintro σ' H' ⟨pl, ws, rfl, epl, hp, hm', P', hS', K'⟩
      have wnd : ws.Nodup := hp.nodup_iff.mpr ok.nd
      obtain ⟨ld, hd'⟩ : ∃ l, H' d = some (.dK l) := by
        obtain ⟨_, _, h⟩ := hS'
        exact ⟨_, h⟩
      have mdd : md ≠ d := (ne_of_none hm ndH)
      have pld : pl ≠ d := lst_ne epl hd'
      refine ⟨_, rfl, pl, rfl, ⟨_, SqL.of epl⟩, for_list (K := K) (a := pl) (xs := ws.map V.str) (fun i σ H6 => ∃ (z : Option V) (mi : Md), σ = [some (.ref p), some (.ref md), some (.ref x), some (.ref pl), z] ∧ (∀ b o, b ≠ d → H' b = some o → H6 b = some o) ∧ SetAt S H6 x d mi ∧ MdU (names m) mi ∧ ∀ k, mget mi k = if k ∈ ws.take i then mget m k else "out")
        ⟨none, [], rfl, fun b o _ h => h, hS', ⟨.nil, fun p h => (nomatch h)⟩, fun k => by rw [List.take_zero, if_neg (fun h => nomatch h)]; rfl⟩ (fun i σ H6 _ hI => ?_) ?_ ?_⟩
      · obtain ⟨_, _, _, k6, _⟩ := hI
        exact SqL.of (k6 _ _ pld epl)
      · rintro i v σ H6 hv ⟨z, mi, rfl, k6, hxi, umi, hmi⟩
        rw [List.getElem?_map] at hv
        obtain ⟨nm, hn', rfl⟩ := Option.map_eq_some_iff.mp hv
        have hnm : nm ∈ names m := hp.mem_iff.mp (List.mem_of_getElem? hn')
        obtain ⟨u, hu'⟩ := look_some hnm
        have hget : mget m nm = u := by unfold mget; rw [hu']; rfl
        have huv : u ∈ modesW := by rw [← hget]; exact mget_mem ok.mdu nm
        have hnot : nm ∉ ws.take i := by
          intro hm
          obtain ⟨t2, ht2⟩ := List.getElem?_of_mem hm
          rw [List.getElem?_take] at ht2
          split at ht2
          · rename_i hlt
            obtain ⟨b1, e1⟩ := List.getElem?_eq_some_iff.mp ht2
            obtain ⟨b2, e2⟩ := List.getElem?_eq_some_iff.mp hn'
            exact (List.pairwise_iff_getElem.mp wnd) t2 i b1 b2 hlt (e1.trans e2.symm)
          · cases ht2
        obtain ⟨dx2, b1, b2⟩ := id hxi
        refine ⟨_, rfl, _, rfl, md, .str u, rfl, .inl ⟨mkv m, Sum.inr nm, .inl (k6 _ _ mdd hm'), rfl, by rw [mkv_get, hu']; rfl⟩, _, rfl, _, rfl, x, dx2, _, rfl, b1, x, d, mi, nm, u, rfl, hxi, ok.uok.w nm hnm, huv, (umi.md ok.uok).len, fun H7 k7 hS7 => ?_⟩
        refine ⟨_, _, rfl, fun b o nb h => k7 b o nb (k6 b o nb h), hS7, umi.mset hnm huv, fun k => ?_⟩
        have hin : k ∈ ws.take (i + 1) ↔ k ∈ ws.take i ∨ k = nm := by
          rw [List.take_succ, hn', List.mem_append]
          simp
        rw [mget_mset]
        by_cases ek : k = nm
        · rw [if_pos ek, if_pos (hin.mpr (.inr ek)), ek, hget]
        · rw [if_neg ek, hmi k]
          by_cases hk : k ∈ ws.take i
          · rw [if_pos hk, if_pos (hin.mpr (.inl hk))]
          · rw [if_neg hk, if_neg fun q => (hin.mp q).elim hk ek]
      · rintro σ H6 ⟨z, mi, rfl, k6, hxi, umi, hmi⟩
        rw [List.length_map, List.take_length] at hmi
        refine ⟨_, rfl, kk x d mi H6 nx ndH (P'.keepD hd' k6) (keeps_but K' ndH k6) hxi (look_of_mget umi ok.mdu fun k => ?_) (umi.md ok.uok)⟩
        rw [hmi]
        by_cases hk : k ∈ ws
        · rw [if_pos hk]
        · rw [if_neg hk]
          exact ((mget_out ok.mdu k).mpr fun h => hk (hp.mem_iff.mpr h)).symm
    · refine ⟨_, rfl, p, q, n, 2, rfl, P3, by omega, by decide, by decide, fun dd H4 h0 h1 P4 k4 => ?_⟩
      have hm4 : H4 md = some (.dK (mkv m)) := k4 _ _ (dK_pool P3 hm3).1 (dK_pool P3 hm3).2 hm3
      have hS4 : SetAt S H4 x d [] := by
        obtain ⟨dy, a1, a2⟩ := hS3
        obtain ⟨_, _, _, _, e1, e2, _⟩ := P3
        refine ⟨dy, k4 _ _ (fun z => ?_) (fun z => ?_) a1, k4 _ _ (fun z => ?_) (fun z => ?_) a2⟩
        · rw [z, e1] at a1; cases a1
        · rw [z, e2] at a1; cases a1
        · rw [z, e1] at a2; cases a2
        · rw [z, e2] at a2; cases a2
      have epd4 : H4 pd = some (.lst (zs.map V.str)) := k4 _ _ pdp pdq e3
      have K4 : Keeps p q H H4 := (Keeps.of_same S3).trans k4
      refine ⟨_, rfl, ?_⟩
      cases hz : (dd != 0) with
      | true =>
        refine iteT ⟨_, rfl, pd, _, rfl, SqL.of epd4, fun l5 nl5 => ?_⟩
        have s5 := same_new (o := .lst (zs.map V.str).reverse) nl5
        refine tail _ _ ⟨l5, zs.reverse, rfl, by rw [upd_same, List.map_reverse], (List.reverse_perm zs).trans hzp, s5 _ _ hm4, P4.same s5, hS4.same s5, fun a o h1 h2 e => s5 _ _ (K4 a o h1 h2 e)⟩
      | false =>
        exact iteF (tail _ _ ⟨pd, zs, rfl, epd4, hzp, hm4, P4, hS4, K4⟩)
end
/-! ### names drawn, a setting made of them -/
theorem eraseIdx_mapV : ∀ (L : List Str) (k : Nat), (L.map V.str).eraseIdx k = (L.eraseIdx k).map V.str
  | [], _ => rfl
  | _ :: _, 0 => rfl
  | x :: r, k + 1 => by
    show V.str x :: (r.map V.str).eraseIdx k = V.str x :: (r.eraseIdx k).map V.str
    rw [eraseIdx_mapV r k]
theorem perm_erase : ∀ {L : List Str} {k : Nat} {y : Str}, L[k]? = some y → (y :: L.eraseIdx k).Perm L
  | [], _, _, h => by simp at h
  | x :: r, 0, y, h => by
    obtain rfl := Option.some.inj h
    exact .refl _
  | x :: r, k + 1, y, h => by
    have hr : r[k]? = some y := h
    exact (List.Perm.swap x y (r.eraseIdx k)).trans ((perm_erase hr).cons x)
theorem eqv_strs : ∀ xs : List Str, PyData.eqvAll (xs.map PyData.str) (xs.map PyData.str) = true
  | [] => by simp [PyData.eqvAll]
  | x :: r => by
    simp only [List.map_cons, PyData.eqvAll, PyData.eqv, eqv_strs r, Bool.and_true, beq_self_eq_true]
theorem put_fill {m0 : Md} {w : Str} {xs : List Str} {i : Nat} {x : Str} (nd : xs.Nodup) (hx : xs[i]? = some x) (hno : x ∉ names m0) : put (m0 ++ pairsW w (xs.take i)) x w = m0 ++ pairsW w (xs.take (i + 1)) := by
  have hnot : x ∉ xs.take i := by
    intro hm
    obtain ⟨t2, ht2⟩ := List.getElem?_of_mem hm
    rw [List.getElem?_take] at ht2
    split at ht2
    · rename_i hlt
      obtain ⟨b1, e1⟩ := List.getElem?_eq_some_iff.mp ht2
      obtain ⟨b2, e2⟩ := List.getElem?_eq_some_iff.mp hx
      exact (List.pairwise_iff_getElem.mp nd) t2 i b1 b2 hlt (e1.trans e2.symm)
    · cases ht2
  rw [put_new]
  · rw [List.append_assoc]
    congr 1
    rw [List.take_succ, hx]
    unfold pairsW
    rw [List.map_append]
    rfl
  · unfold names
    rw [List.map_append, List.mem_append]
    rintro (h | h)
    · exact hno h
    · have e := pairsW_names w (xs.take i)
      unfold names at e
      rw [e] at h
      exact hnot h
theorem seq_join {A R : TS} {D : Ends} {σ : L2.St} {H : Hp} (Pv : L2.St → Hp → Prop) (tail : ∀ σ' H', Pv σ' H' → R D σ' H') (h : ∀ nx : L2.St → Hp → Prop, (∀ σ' H', Pv σ' H' → nx σ' H') → A { D with nx := nx } σ H) : tSeq A R D σ H := h _ tail
structure CI (H0 H : Hp) (p q l o fa : Addr) (n : Nat) (U L ns ds : List Str) : Prop where
  P : PoolAt H p q n
  K : Keeps p q H0 H
  hl : H l = some (.lst (L.map V.str))
  ho : H o = some (.lst (ns.map V.str))
  hf : H fa = some (.lst (ds.map V.str))
  pm : (ns ++ (ds ++ L)).Perm U
  lo : l ≠ o
  lf : l ≠ fa
  of : o ≠ fa
  lp : l ≠ p ∧ l ≠ q
  op : o ≠ p ∧ o ≠ q
  fp : fa ≠ p ∧ fa ≠ q
  nl : H0 l = none
  no : H0 o = none
  nf : H0 fa = none
theorem CI.draw {H0 H H' : Hp} {p q l o fa : Addr} {n n' : Nat} {U L ns ds : List Str} (c : CI H0 H p q l o fa n U L ns ds) (P : PoolAt H' p q n') (k : Keeps p q H H') : CI H0 H' p q l o fa n' U L ns ds :=
  { c with P := P, K := c.K.trans k, hl := k _ _ c.lp.1 c.lp.2 c.hl, ho := k _ _ c.op.1 c.op.2 c.ho, hf := k _ _ c.fp.1 c.fp.2 c.hf }
theorem CI.same {H0 H H' : Hp} {p q l o fa : Addr} {n : Nat} {U L ns ds : List Str} (c : CI H0 H p q l o fa n U L ns ds) (s : Same H H') : CI H0 H' p q l o fa n U L ns ds :=
  { c with P := c.P.same s, K := c.K.trans (Keeps.of_same s), hl := s _ _ c.hl, ho := s _ _ c.ho, hf := s _ _ c.hf }
theorem CI.pop {H0 H : Hp} {p q l o fa : Addr} {n : Nat} {U L ns ds : List Str} (c : CI H0 H p q l o fa n U L ns ds) {k : Nat} {y : Str} (hy : L[k]? = some y) :
    CI H0 (upd (upd H l (.lst ((L.map V.str).eraseIdx k))) o (.lst (ns.map V.str ++ [V.str y]))) p q l o fa n U (L.eraseIdx k) (ns ++ [y]) ds := by
  refine { c with P := (c.P.upd c.lp.1 c.lp.2).upd c.op.1 c.op.2, K := (c.K.updNew c.nl).updNew c.no, hl := by rw [upd_ne c.lo, upd_same, eraseIdx_mapV], ho := by rw [upd_same, List.map_append]; rfl, hf := by rw [upd_ne c.of.symm, upd_ne c.lf.symm]; exact c.hf, pm := ?_ }
  refine List.Perm.trans ?_ c.pm
  rw [List.append_assoc]
  refine List.Perm.append_left _ ?_
  show (y :: (ds ++ L.eraseIdx k)).Perm (ds ++ L)
  exact List.perm_middle.symm.trans (List.Perm.append_left _ (perm_erase hy))
theorem CI.popF {H0 H : Hp} {p q l o fa : Addr} {n : Nat} {U L ns ds : List Str} (c : CI H0 H p q l o fa n U L ns ds) {k : Nat} {y : Str} (hy : L[k]? = some y) :
    CI H0 (upd (upd H l (.lst ((L.map V.str).eraseIdx k))) fa (.lst (ds.map V.str ++ [V.str y]))) p q l o fa n U (L.eraseIdx k) ns (ds ++ [y]) := by
  refine { c with P := (c.P.upd c.lp.1 c.lp.2).upd c.fp.1 c.fp.2, K := (c.K.updNew c.nl).updNew c.nf, hl := by rw [upd_ne c.lf, upd_same, eraseIdx_mapV], hf := by rw [upd_same, List.map_append]; rfl, ho := by rw [upd_ne c.of, upd_ne c.lo.symm]; exact c.ho, pm := ?_ }
  refine List.Perm.trans ?_ c.pm
  refine List.Perm.append_left _ ?_
  rw [List.append_assoc]
  exact List.Perm.append_left _ (perm_erase hy)
theorem popAt_ix {n : Nat} {d : Int} (h0 : 0 ≤ d) (h1 : d < (n : Int)) : seqIndex? d n = some d.toNat := by
  have : ixN n d = some d.toNat := by
    unfold ixN
    rw [if_pos h0, if_pos h1]
  exact (ixN_seq this).1
def spChosen (S : Addr) : Sp := fun vs H Q _ => ∃ (p q : Addr) (n : Nat) (nl : Addr) (U : List Str), vs = [.ref p, .ref nl] ∧ PoolAt H p q n ∧ n < 700000 ∧ H nl = some (.lst (U.map V.str)) ∧ nl ≠ p ∧ nl ≠ q ∧ UOk U ∧ U.Nodup ∧ U.length = 8 ∧
  ∀ (r x d md : Addr) (m : Md) (n' : Nat) (H' : Hp), H' r = some (.lst [.ref x, .ref md]) → SetAt S H' x d m → H' md = some (.dK (mkv m)) → MdU U m → PoolAt H' p q n' → n' ≤ n + 20 → r ≠ p → r ≠ q → Keeps p q H H' → Q (.ref r) H'
section
variable {P : Program} {w : World} {K : PySem.W.Frag} {mg : Str → Option Value} {base : Heap}
theorem scCh : FnScope ["pool", "names", "left", "on", "faint", "k", "modes", "name", "handed", "setting"] ["pool", "names"] (defScope sChosen) := ⟨rfl, rfl, rfl, by decide +kernel, rfl, by decide +kernel, by decide +kernel⟩
theorem ok_chosen {f S fD fMd : Addr} {fd fdD fdMd : FuncData} (B : Bts mg) (F : Fun K "_law_chosen" "_law_chosen" sChosen f fd) (GD : FnOk P w K mg base CX0 1 fD fdD ["pool", "many"] spDraw) (mD : mg "_law_draw" = some (.ref fD)) (kD : PySem.W.keepIn K (.ref fD) = true) (bD : Binds K fdD ["pool", "many"] [])
    (GMd : FnOk P w K mg base CX0 5 fMd fdMd ["on", "faint"] (spMade K S)) (mMd : mg "_law_made" = some (.ref fMd)) (kMd : PySem.W.keepIn K (.ref fMd) = true) (bMd : Binds K fdMd ["on", "faint"] []) : FnOk P w K mg base CX0 6 f fd ["pool", "names"] (spChosen S) := by
  refine F.ok scCh (fun vs H Q E h => ?_) (fun cdv A outer s H vs Q E hr h => ?_)
  · obtain ⟨p, q, n, nl, U, rfl, _⟩ := h
    rfl
  · obtain ⟨p, q, n, nl, U, rfl, hP, hn, hnl, nlp, nlq, uo, und, hU8, kk⟩ := h
    have hrMd : Room 5 _ := hr
    have hrD : Room 1 _ := hr.mono (by decide)
    have hu := hu_of hr
    refine ⟨_, pss_cons (ps_set (i := 2) scCh.nd rfl (.inl rfl) (pe_callTy call_list_of (by rfl) B.list (by decide +kernel) (pa_cons (pv 1) pa_nil)))
      (pss_cons (ps_set (i := 3) scCh.nd rfl (.inl rfl) (pe_lst pa_nil))
      (pss_cons (ps_set (i := 4) scCh.nd rfl (.inl rfl) (pe_lst pa_nil))
      (pss_cons (ps_for PassesOwn.never rfl (pi_range1 (by rfl) B.range (pa_cons (pe_call GD hrD (by rfl) mD kD bD .nil pass0 (pa_cons (pv 0) (pa_cons pe_int pa_nil))) pa_nil)) (pg_name (i := 5) scCh.nd rfl (.inl rfl))
        (pss_one (ps_expr (pe_bm PySem.F.plainAttrs_list PySem.F.slot_list_append PySem.F.type_list_append mt_append (pv 3) (pa_cons (pe_bm PySem.F.plainAttrs_list PySem.F.slot_list_pop PySem.F.type_list_pop mt_popAt (pv 2) (pa_cons (pe_call GD hrD (by rfl) mD kD bD .nil pass0 (pa_cons (pv 0) (pa_cons (pe_callB call_len_seq (by rfl) B.len PySem.boot_len (pa_cons (pv 2) pa_nil)) pa_nil))) pa_nil)) pa_nil)))))
      (pss_cons (ps_for PassesOwn.never rfl (pi_range1 (by rfl) B.range (pa_cons (pe_call GD hrD (by rfl) mD kD bD .nil pass0 (pa_cons (pv 0) (pa_cons pe_int pa_nil))) pa_nil)) (pg_name (i := 5) scCh.nd rfl (.inl rfl))
        (pss_one (ps_expr (pe_bm PySem.F.plainAttrs_list PySem.F.slot_list_append PySem.F.type_list_append mt_append (pv 4) (pa_cons (pe_bm PySem.F.plainAttrs_list PySem.F.slot_list_pop PySem.F.type_list_pop mt_popAt (pv 2) (pa_cons (pe_call GD hrD (by rfl) mD kD bD .nil pass0 (pa_cons (pv 0) (pa_cons (pe_callB call_len_seq (by rfl) B.len PySem.boot_len (pa_cons (pv 2) pa_nil)) pa_nil))) pa_nil)) pa_nil)))))
      (pss_cons (ps_set (i := 6) scCh.nd rfl (.inl rfl) pe_dnewK)
      (pss_cons (ps_for PassesOwn.never rfl (pi_list (pv 3)) (pg_name (i := 7) scCh.nd rfl (.inl rfl))
        (pss_one (ps_dput hu (pv 6) (pv 7) pe_str rfl)))
      (pss_cons (ps_for PassesOwn.never rfl (pi_list (pv 4)) (pg_name (i := 7) scCh.nd rfl (.inl rfl))
        (pss_one (ps_dput hu (pv 6) (pv 7) pe_str rfl)))
      (pss_cons (ps_if (PW.pt (pw_and (pt_cmpR (op_eqD hr.units) (pv 4) (pe_lst pa_nil) (nomark _)) (pw_and1 (pt_truth (pe_call GD hrD (by rfl) mD kD bD .nil pass0 (pa_cons (pv 0) (pa_cons pe_int pa_nil))) (by intro _; rfl)))))
        (pss_one (ps_ret (pe_lst (pa_cons (pe_call GMd hrMd (by rfl) mMd kMd bMd .nil pass0 (pa_cons (pv 3) (pa_cons pe_non pa_nil))) (pa_cons (pv 6) pa_nil)))))
        pss_nil)
      (pss_cons (ps_set (i := 8) scCh.nd rfl (.inl rfl) (pe_callTy call_list_of (by rfl) B.list (by decide +kernel) (pa_cons (pv 4) pa_nil)))
      (pss_cons (ps_set (i := 9) scCh.nd rfl (.inl rfl) (pe_call GMd hrMd (by rfl) mMd kMd bMd .nil pass0 (pa_cons (pv 3) (pa_cons (pe_ifExp (pt_truth (pe_call GD hrD (by rfl) mD kD bD .nil pass0 (pa_cons (pv 0) (pa_cons pe_int pa_nil))) (by intro _; rfl)) (pv 8) (pe_callTy call_tupS (by rfl) B.tuple (by decide +kernel) (pa_cons (pv 8) pa_nil))) pa_nil))))
      (pss_cons (ps_if (pt_cmpR (op_neD hr.units) (pv 8) (pv 4) (nomark _))
        (pss_one (ps_ret pe_non))
        pss_nil)
      (pss_cons (ps_expr (pe_bm PySem.F.plainAttrs_list PySem.F.slot_list_append PySem.F.type_list_append mt_append (pv 8) (pa_cons (pe_ix ix_list (pv 1) pe_int (fun _ _ => rfl)) pa_nil)))
      (pss_one (ps_ret (pe_lst (pa_cons (pv 9) (pa_cons (pv 6) pa_nil))))))))))))))))), ?_⟩
    refine ⟨_, rfl, nl, _, rfl, .inl (SqL.of hnl), fun l nl1 => ?_⟩
    refine ⟨by show 0 ≤ sizeLine; decide, fun o no1 => ⟨by show 0 ≤ sizeLine; decide, fun fa nf1 => ?_⟩⟩
    obtain ⟨op_, ep⟩ := hP.p_some
    obtain ⟨oq_, eq⟩ := hP.q_some
    have s1 := same_new (o := .lst (U.map V.str)) nl1
    have s2 := same_new (o := .lst []) no1
    have s3 := same_new (o := .lst []) nf1
    have no0 : H o = none := s1.free no1
    have nf0 : H fa = none := (s1.trans s2).free nf1
    have lo : l ≠ o := (ne_of_none (upd_same (H := H) (a := l) (o := .lst (U.map V.str))) no1)
    have lf : l ≠ fa := ne_of_none (s2 _ _ (upd_same (H := H) (a := l) (o := .lst (U.map V.str)))) nf1
    have of_ : o ≠ fa := ne_of_none (upd_same (H := (upd H l (.lst (U.map V.str)))) (a := o) (o := .lst [])) nf1
    have C0 : CI H (upd (upd (upd H l (.lst (U.map V.str))) o (.lst [])) fa (.lst [])) p q l o fa n U U [] [] :=
      { P := ((hP.same s1).same s2).same s3, K := Keeps.of_same ((s1.trans s2).trans s3), hl := s3 _ _ (s2 _ _ upd_same), ho := s3 _ _ upd_same, hf := upd_same, pm := .refl _, lo := lo, lf := lf, of := of_,
        lp := ⟨(ne_of_none ep nl1).symm, (ne_of_none eq nl1).symm⟩, op := ⟨(ne_of_none ep no0).symm, (ne_of_none eq no0).symm⟩, fp := ⟨(ne_of_none ep nf0).symm, (ne_of_none eq nf0).symm⟩, nl := nl1, no := no0, nf := nf0 }
    generalize upd (upd (upd H l (.lst (U.map V.str))) o (.lst [])) fa (.lst []) = H1 at *
    clear s1 s2 s3 nl1 no1 nf1 no0 nf0 lo lf of_ ep eq
    refine ⟨_, rfl, p, q, n, 4, rfl, C0.P, by omega, by decide, by decide, fun e1 H2 e10 e11 P2 k2 => ?_⟩
    have C1 := C0.draw P2 k2
    refine ⟨e1, rfl, by omega, by omega, for_range (lo := 0) (n := e1.toNat) (fun i σ H3 => ∃ (z5 : Option V) (L ns : List Str), σ = [some (.ref p), some (.ref nl), some (.ref l), some (.ref o), some (.ref fa), z5, none, none, none, none] ∧ ns.length = i ∧ CI H H3 p q l o fa (n + 1 + i) U L ns [])
      ⟨none, U, [], rfl, rfl, C1⟩ ?_ ?_⟩
    · rintro i σ H3 hi ⟨z5, L, ns, rfl, el, C3⟩
      have hL : L.length = 8 - i := by
        have := C3.pm.length_eq
        rw [List.length_append, List.length_append, hU8] at this
        simp only [List.length_nil] at this
        omega
      refine ⟨_, rfl, .inl ⟨rfl, _, SqL.of C3.ho⟩, _, rfl, .inl ⟨rfl, _, SqL.of C3.hl⟩, _, rfl, _, rfl, l, _, rfl, .inl (SqL.of C3.hl), p, q, n + 1 + i, _, rfl, C3.P, by omega, by rw [List.length_map]; omega, by rw [List.length_map]; omega, fun d H4 d0 d1 P4 k4 => ?_⟩
      rw [List.length_map] at d1
      have C4 := C3.draw P4 k4
      have hk : d.toNat < L.length := by omega
      have hy : L[d.toNat]? = some L[d.toNat] := List.getElem?_eq_getElem hk
      refine ⟨l, _, d, d.toNat, .str L[d.toNat], rfl, rfl, C4.hl, by omega, by omega, by rw [List.length_map]; exact popAt_ix d0 d1, by rw [List.getElem?_map, hy]; rfl, ?_⟩
      refine ⟨o, _, _, rfl, rfl, by rw [upd_ne C4.lo.symm]; exact C4.ho, small1000 (n := (ns.map V.str).length) (by rw [List.length_map]; omega), ?_⟩
      exact ⟨_, _, _, rfl, by rw [List.length_append, el]; rfl, C4.pop hy⟩
    · rintro σ H3 ⟨z5, L, ns, rfl, el, C3⟩
      have hns : ns.length ≤ 3 := by omega
      clear C0 C1 P2 k2 el
      refine ⟨_, rfl, p, q, n + 1 + e1.toNat, 4, rfl, C3.P, by omega, by decide, by decide, fun e2 H4 e20 e21 P4 k4 => ?_⟩
      have C4 := C3.draw P4 k4
      refine ⟨e2, rfl, by omega, by omega, for_range (lo := 0) (n := e2.toNat) (fun i σ H5 => ∃ (z5 : Option V) (L ds : List Str), σ = [some (.ref p), some (.ref nl), some (.ref l), some (.ref o), some (.ref fa), z5, none, none, none, none] ∧ ds.length = i ∧ CI H H5 p q l o fa (n + 1 + e1.toNat + 1 + i) U L ns ds)
        ⟨z5, L, [], rfl, rfl, C4⟩ ?_ ?_⟩
      · rintro i σ H5 hi ⟨z5, L, ds, rfl, el, C5⟩
        have hL : L.length = 8 - i - ns.length := by
          have := C5.pm.length_eq
          rw [List.length_append, List.length_append, hU8] at this
          omega
        refine ⟨_, rfl, .inl ⟨rfl, _, SqL.of C5.hf⟩, _, rfl, .inl ⟨rfl, _, SqL.of C5.hl⟩, _, rfl, _, rfl, l, _, rfl, .inl (SqL.of C5.hl), p, q, _, _, rfl, C5.P, by omega, by rw [List.length_map]; omega, by rw [List.length_map]; omega, fun d H6 d0 d1 P6 k6 => ?_⟩
        rw [List.length_map] at d1
        have C6 := C5.draw P6 k6
        have hk : d.toNat < L.length := by omega
        have hy : L[d.toNat]? = some L[d.toNat] := List.getElem?_eq_getElem hk
        refine ⟨l, _, d, d.toNat, .str L[d.toNat], rfl, rfl, C6.hl, by omega, by omega, by rw [List.length_map]; exact popAt_ix d0 d1, by rw [List.getElem?_map, hy]; rfl, ?_⟩
        refine ⟨fa, _, _, rfl, rfl, by rw [upd_ne C6.lf.symm]; exact C6.hf, small1000 (n := (ds.map V.str).length) (by rw [List.length_map]; omega), ?_⟩
        exact ⟨_, _, _, rfl, by rw [List.length_append, el]; rfl, C6.popF hy⟩
      · rintro σ H5 ⟨z5', L', ds, rfl, el, C5⟩
        have hds : ds.length ≤ 3 := by omega
        clear C3 C4 P4 k4 el
        -- names apart
        have hnd : (ns ++ ds).Nodup := by
          have := C5.pm.nodup_iff.mpr und
          rw [← List.append_assoc] at this
          exact (List.nodup_append.mp this).1
        have hw : ∀ z ∈ ns ++ ds, z ∈ U := fun z hz => C5.pm.mem_iff.mp (by
          rw [← List.append_assoc]
          exact List.mem_append.mpr (.inl hz))
        have nnd : ns.Nodup := (List.nodup_append.mp hnd).1
        have dnd : ds.Nodup := (List.nodup_append.mp hnd).2.1
        have apart : ∀ z ∈ ds, z ∉ ns := fun z hz hz2 => (List.nodup_append.mp hnd).2.2 z hz2 z hz rfl
        have hl60 : (ns ++ ds).length ≤ 60 := by rw [List.length_append]; omega
        refine fun md nmd => ?_
        have s6 := same_new (o := .dK []) nmd
        have C6 := C5.same s6
        have nmdH : H md = none := by
          obtain ⟨u1, e1'⟩ := C5.P.p_some
          obtain ⟨u2, e2'⟩ := C5.P.q_some
          cases e : H md with
          | none => rfl
          | some u =>
            have := C5.K md u (ne_of_none e1' nmd).symm (ne_of_none e2' nmd).symm e
            rw [nmd] at this; cases this
        have em : (upd H5 md (.dK [])) md = some (.dK (mkv ([] ++ pairsW "on" (ns.take 0)))) := upd_same
        generalize upd H5 md (.dK []) = H6 at *
        clear C5 s6 nmd
        refine ⟨_, rfl, o, rfl, ⟨_, SqL.of C6.ho⟩, for_list (K := K) (a := o) (xs := ns.map V.str) (fun i σ H7 => ∃ (z7 : Option V), σ = [some (.ref p), some (.ref nl), some (.ref l), some (.ref o), some (.ref fa), z5', some (.ref md), z7, none, none] ∧ (∀ b o, b ≠ md → H6 b = some o → H7 b = some o) ∧ H7 md = some (.dK (mkv ([] ++ pairsW "on" (ns.take i)))))
          ⟨none, rfl, fun b o _ h => h, em⟩ (fun i σ H7 _ hI => ?_) ?_ ?_⟩
        · obtain ⟨_, _, k7, _⟩ := hI
          exact SqL.of (k7 _ _ (lst_ne C6.ho em) C6.ho)
        · rintro i v σ H7 hv ⟨z7, rfl, k7, e7⟩
          rw [List.getElem?_map] at hv
          obtain ⟨nm, hn', rfl⟩ := Option.map_eq_some_iff.mp hv
          refine ⟨_, rfl, _, rfl, md, _, rfl, .inl ⟨_, Sum.inr nm, e7, rfl, small1000 (n := (mkv ([] ++ pairsW "on" (ns.take i))).length) ?_, rfl⟩, _, rfl, fun b o nb e => by rw [upd_ne nb]; exact k7 b o nb e, ?_⟩
          · rw [mkv_len, List.nil_append]
            unfold pairsW
            rw [List.length_map, List.length_take]
            omega
          · rw [upd_same, mkv_put, put_fill nnd hn' (by simp [names])]
        · rintro σ H7 ⟨z7, rfl, k7, e7⟩
          rw [List.length_map, List.take_length, List.nil_append] at e7
          have ef7 := k7 _ _ (lst_ne C6.hf em) C6.hf
          refine ⟨_, rfl, fa, rfl, ⟨_, SqL.of ef7⟩, for_list (K := K) (a := fa) (xs := ds.map V.str) (fun i σ H8 => ∃ (z7 : Option V), σ = [some (.ref p), some (.ref nl), some (.ref l), some (.ref o), some (.ref fa), z5', some (.ref md), z7, none, none] ∧ (∀ b o, b ≠ md → H6 b = some o → H8 b = some o) ∧ H8 md = some (.dK (mkv (pairsW "on" ns ++ pairsW "deaf" (ds.take i)))))
            ⟨z7, rfl, k7, by rw [e7]; show _ = some (HO.dK (mkv (pairsW "on" ns ++ []))); rw [List.append_nil]⟩ (fun i σ H8 _ hI => ?_) ?_ ?_⟩
          · obtain ⟨_, _, k8, _⟩ := hI
            exact SqL.of (k8 _ _ (lst_ne C6.hf em) C6.hf)
          · rintro i v σ H8 hv ⟨z7, rfl, k8, e8⟩
            rw [List.getElem?_map] at hv
            obtain ⟨nm, hn', rfl⟩ := Option.map_eq_some_iff.mp hv
            refine ⟨_, rfl, _, rfl, md, _, rfl, .inl ⟨_, Sum.inr nm, e8, rfl, small1000 (n := (mkv (pairsW "on" ns ++ pairsW "deaf" (ds.take i))).length) ?_, rfl⟩, _, rfl, fun b o nb e => by rw [upd_ne nb]; exact k8 b o nb e, ?_⟩
            · rw [mkv_len, List.length_append]
              unfold pairsW
              rw [List.length_map, List.length_map, List.length_take]
              omega
            · rw [upd_same, mkv_put, put_fill dnd hn' (by
                rw [pairsW_names]
                exact apart nm (List.mem_of_getElem? hn'))]
          · rintro σ H8 ⟨z7', rfl, k8, e8⟩
            rw [List.length_map, List.take_length] at e8
            have C8 : CI H H8 p q l o fa (n + 1 + e1.toNat + 1 + e2.toNat) U L' ns ds := { C6 with P := C6.P.keepD em k8, K := keeps_but C6.K nmdH k8, hl := k8 _ _ (lst_ne C6.hl em) C6.hl, ho := k8 _ _ (lst_ne C6.ho em) C6.ho, hf := k8 _ _ (lst_ne C6.hf em) C6.hf }
            obtain ⟨N8, hN8⟩ : ∃ N, N = n + 1 + e1.toNat + 1 + e2.toNat := ⟨_, rfl⟩
            rw [← hN8] at C8
            have hN8' : N8 ≤ n + 8 := by omega
            have um : MdU U (pairsW "on" ns ++ pairsW "deaf" ds) := by
              refine ⟨?_, fun p hp => ?_⟩
              · unfold names
                rw [List.map_append]
                have h1 := pairsW_names "on" ns
                have h2 := pairsW_names "deaf" ds
                unfold names at h1 h2
                rw [h1, h2]
                exact hnd
              · rcases List.mem_append.mp hp with hp | hp
                · obtain ⟨z, hz, rfl⟩ := List.mem_map.mp hp
                  exact ⟨hw z (List.mem_append.mpr (.inl hz)), .inl rfl⟩
                · obtain ⟨z, hz, rfl⟩ := List.mem_map.mp hp
                  exact ⟨hw z (List.mem_append.mpr (.inr hz)), .inr rfl⟩
            clear C6 em k7 k8 e7 ef7 nmdH e10 e11 e20 e21 hN8
            dsimp only []
            refine seq_join (fun σ' H' => ∃ n', σ' = [some (.ref p), some (.ref nl), some (.ref l), some (.ref o), some (.ref fa), z5', some (.ref md), z7', none, none] ∧ n' ≤ n + 10 ∧ CI H H' p q l o fa n' U L' ns ds ∧ H' md = some (.dK (mkv (pairsW "on" ns ++ pairsW "deaf" ds)))) ?_ fun nx_ tail => ?_
            · rintro σ' H9 ⟨n', rfl, hn', C9, e9⟩
              refine ⟨_, rfl, fa, _, rfl, .inl (SqL.of C9.hf), fun hd nhd => ?_⟩
              have nhdH : H hd = none := by
                obtain ⟨u1, e1'⟩ := C9.P.p_some
                obtain ⟨u2, e2'⟩ := C9.P.q_some
                cases e : H hd with
                | none => rfl
                | some u =>
                  have := C9.K hd u (ne_of_none e1' nhd).symm (ne_of_none e2' nhd).symm e
                  rw [nhd] at this; cases this
              have hdp : hd ≠ p := by obtain ⟨u1, e1'⟩ := C9.P.p_some; exact (ne_of_none e1' nhd).symm
              have hdq : hd ≠ q := by obtain ⟨u1, e1'⟩ := C9.P.q_some; exact (ne_of_none e1' nhd).symm
              have hdf : fa ≠ hd := ne_of_none C9.hf nhd
              have s10 := same_new (o := .lst (ds.map V.str)) nhd
              have C10 := C9.same s10
              have eh : (upd H9 hd (.lst (ds.map V.str))) hd = some (.lst (ds.map V.str)) := upd_same
              have e10 := s10 _ _ e9
              generalize upd H9 hd (.lst (ds.map V.str)) = H10 at *
              clear C9 e9 s10 nhd
              dsimp only []
              refine g_join (fun σ' H' => ∃ (x d : Addr) (n2 : Nat), σ' = [some (.ref p), some (.ref nl), some (.ref l), some (.ref o), some (.ref fa), z5', some (.ref md), z7', some (.ref hd), some (.ref x)] ∧ n2 ≤ n + 11 ∧ CI H H' p q l o fa n2 U L' ns ds ∧ H' md = some (.dK (mkv (pairsW "on" ns ++ pairsW "deaf" ds))) ∧ H' hd = some (.lst (ds.map V.str)) ∧ SetAt S H' x d (pairsW "on" ns ++ pairsW "deaf" ds)) ?_ fun nx2 tail => ?_
              · rintro σ' H11 ⟨x, d, n2, rfl, hn2, C11, e11, eh11, hS11⟩
                have ev : PyData.eqv (.list (ds.map PyData.str)) (.list (ds.map PyData.str)) = true := by
                  simp only [PyData.eqv]
                  exact eqv_strs ds
                have shp : SeqAt.shaped (.list (ds.map PyData.str)) = true := strs_shapedL fun z hz => uo.w z (hw z (List.mem_append.mpr (.inr hz)))
                refine ⟨_, rfl, _, rfl, .list (ds.map PyData.str), .list (ds.map PyData.str), .lst (SqL.of eh11) (strsDp ds), .lst (SqL.of C11.hf) (strsDp ds), shp, shp, _, rfl, ?_⟩
                rw [ev]
                refine iteF ?_
                have hnl11 := C11.K _ _ nlp nlq hnl
                obtain ⟨u0, hu0⟩ : ∃ u0, U[0]? = some u0 := ⟨U[0], List.getElem?_eq_getElem (by omega)⟩
                refine ⟨_, rfl, .inl ⟨rfl, _, SqL.of eh11⟩, _, rfl, nl, _, 0, .str u0, rfl, rfl, SqL.of hnl11, atI_nat (j := 0) (by rw [List.getElem?_map, hu0]; rfl), hd, _, _, rfl, rfl, eh11, small1000 (n := (ds.map V.str).length) (by rw [List.length_map]; omega), ?_⟩
                have kh : ∀ b o, b ≠ hd → H11 b = some o → (upd H11 hd (.lst (ds.map V.str ++ [.str u0]))) b = some o := fun b o nb e => by rw [upd_ne nb]; exact e
                have P12 := C11.P.upd (o := .lst (ds.map V.str ++ [.str u0])) hdp hdq
                have K12 : Keeps p q H (upd H11 hd (.lst (ds.map V.str ++ [.str u0]))) := C11.K.updNew nhdH
                have e12 := kh _ _ (lst_ne eh11 e11).symm e11
                have hS12 : SetAt S (upd H11 hd (.lst (ds.map V.str ++ [.str u0]))) x d (pairsW "on" ns ++ pairsW "deaf" ds) := by
                  obtain ⟨dx, a1, a2⟩ := hS11
                  exact ⟨dx, kh _ _ (fun z => by rw [z, eh11] at a1; cases a1) a1, kh _ _ (fun z => by rw [z, eh11] at a2; cases a2) a2⟩
                generalize upd H11 hd (.lst (ds.map V.str ++ [.str u0])) = H12 at *
                refine ⟨_, rfl, _, rfl, by show 2 ≤ sizeLine; decide, fun r nr => ?_⟩
                have s13 := same_new (o := .lst [.ref x, .ref md]) nr
                have rp : r ≠ p := by obtain ⟨u1, e1'⟩ := P12.p_some; exact (ne_of_none e1' nr).symm
                have rq : r ≠ q := by obtain ⟨u1, e1'⟩ := P12.q_some; exact (ne_of_none e1' nr).symm
                exact kk r x d md _ n2 _ upd_same (hS12.same s13) (s13 _ _ e12) um (P12.same s13) (by omega) rp rq (K12.trans (Keeps.of_same s13))
              · refine ⟨_, rfl, _, rfl, p, q, n', 2, rfl, C10.P, by omega, by decide, by decide, fun dd H11 h0 h1 P11 k11 => ⟨_, rfl, ?_⟩⟩
                have C11 := C10.draw P11 k11
                have e11 := k11 _ _ (dK_pool C10.P e10).1 (dK_pool C10.P e10).2 e10
                have eh11 := k11 _ _ hdp hdq eh
                have hwd : ∀ z ∈ ns ++ ds, IsWord z := fun z hz => uo.w z (hw z hz)
                cases hz : (dd != 0) with
                | true =>
                  refine iteT ⟨_, rfl, o, .ref hd, ns, ds, rfl, SqL.of C11.ho, hns, .inr ⟨hd, rfl, .inr (SqL.of eh11)⟩, hnd, hwd, hl60, fun x d H' s nx nd hS => ?_⟩
                  exact tail _ _ ⟨x, d, n' + 1, rfl, by omega, C11.same s, s _ _ e11, s _ _ eh11, hS⟩
                | false =>
                  refine iteF ⟨_, rfl, ⟨hd, _, rfl, .inl ⟨SqL.of eh11, fun t nt => ?_⟩⟩⟩
                  have s12 := same_new (o := .tup (ds.map V.str)) nt
                  refine ⟨o, .ref t, ns, ds, rfl, SqL.of (s12 _ _ C11.ho), hns, .inr ⟨t, rfl, .inl (SqT.of upd_same)⟩, hnd, hwd, hl60, fun x d H' s nx nd hS => ?_⟩
                  have s := s12.trans s
                  exact tail _ _ ⟨x, d, n' + 1, rfl, by omega, C11.same s, s _ _ e11, s _ _ eh11, hS⟩
            · refine ⟨_, rfl, by show 0 ≤ sizeLine; decide, fun le nle => ?_⟩
              have s9 := same_new (o := .lst []) nle
              have C9 := C8.same s9
              have e9 := s9 _ _ e8
              have elf : fa ≠ le := ne_of_none C8.hf nle
              have shp : SeqAt.shaped (.list (ds.map PyData.str)) = true := strs_shapedL fun z hz => uo.w z (hw z (List.mem_append.mpr (.inr hz)))
              refine ⟨.list (ds.map PyData.str), .list [], .lst (SqL.of (by rw [upd_ne elf]; exact C8.hf)) (strsDp ds), .lst (SqL.of upd_same) .nil, shp, by decide +kernel, _, rfl, ?_⟩
              generalize upd H8 le (.lst []) = H9 at *
              cases ds with
              | cons u r =>
                have ev : PyData.eqv (.list ((u :: r).map PyData.str)) (.list []) = false := by
                  rw [List.map_cons]
                  simp only [PyData.eqv, PyData.eqvAll]
                rw [ev]
                exact iteF (tail _ _ ⟨N8, rfl, by omega, C9, e9⟩)
              | nil =>
                have ev : PyData.eqv (.list (([] : List Str).map PyData.str)) (.list []) = true := by simp [PyData.eqv, PyData.eqvAll]
                rw [ev]
                refine iteT ⟨_, rfl, p, q, N8, 2, rfl, C9.P, by omega, by decide, by decide, fun dd H10 h0 h1 P10 k10 => ⟨_, rfl, ?_⟩⟩
                have C10 := C9.draw P10 k10
                have e10 := k10 _ _ (dK_pool C9.P e9).1 (dK_pool C9.P e9).2 e9
                cases hz : (dd != 0) with
                | true =>
                  refine iteT ⟨_, rfl, o, .non, ns, [], rfl, SqL.of C10.ho, hns, .inl ⟨rfl, rfl⟩, hnd, fun z hz => uo.w z (hw z hz), hl60, fun x d H' s nx nd hS => ⟨_, rfl, by show 2 ≤ sizeLine; decide, fun r nr => ?_⟩⟩
                  have C11 := C10.same s
                  have s13 := same_new (o := .lst [.ref x, .ref md]) nr
                  have rp : r ≠ p := by obtain ⟨u1, e1'⟩ := C11.P.p_some; exact (ne_of_none e1' nr).symm
                  have rq : r ≠ q := by obtain ⟨u1, e1'⟩ := C11.P.q_some; exact (ne_of_none e1' nr).symm
                  exact kk r x d md _ (N8 + 1) _ upd_same (hS.same s13) (s13 _ _ (s _ _ e10)) um (C11.P.same s13) (by omega) rp rq (C11.K.trans (Keeps.of_same s13))
                | false => exact iteF (tail _ _ ⟨N8 + 1, rfl, by omega, C10, e10⟩)
end
/-! ### more data in displays -/
section
open PySem.Spec PyProof.Rows
def srep (z : Str) (k : Int) : Str := ⟨(List.replicate k.toNat z.cps).foldl (· ++ ·) #[]⟩
def rRepS : R2 := fun x y H Q => ∃ z k, x = .str z ∧ y = .int k ∧ 2 ≤ k ∧ k ≤ 1000 ∧ z.length = 1 ∧ Q (.str (srep z k)) H
theorem srep_len (z : Str) (m : Nat) : ((List.replicate m z.cps).foldl (· ++ ·) #[]).size = z.length * m := by
  have go : ∀ (m : Nat) (acc : Array Nat), ((List.replicate m z.cps).foldl (· ++ ·) acc).size = acc.size + z.length * m := by
    intro m
    induction m with
    | zero => intro acc; simp
    | succ m ih =>
      intro acc
      rw [List.replicate_succ, List.foldl_cons, ih, Array.size_append, Nat.mul_succ]
      show acc.size + z.length + z.length * m = _
      omega
  rw [go]; simp
theorem op_repS {X : Cx} : OpR X (binaryOp .Mult) rRepS := by
  intro pins s σ H x y v u Q I rx ry h
  obtain ⟨z, k, rfl, rfl, h1, h2, h3, q⟩ := h
  obtain ⟨t, rfl⟩ := rx
  obtain ⟨t', rfl⟩ := ry
  have hk : (k == 1 || z.length == 0) = false := by
    rw [h3]
    simp only [Bool.or_eq_false_iff, beq_eq_false_iff_ne]
    omega
  have hm : z.length * k.toNat ≤ 1000 := by rw [h3]; omega
  refine P.mul_str ?_ ?_ ?_ ?_
  · rw [decide_eq_false (by omega), decide_eq_false (by omega)]; rfl
  · intro _ _ hh
    rw [h3] at hh
    have : (1 : Int) ≤ (2 ^ 63 - 1) / k := (Int.le_ediv_iff_mul_le (by omega)).mpr (by omega)
    simp only [Int.natCast_one] at hh
    omega
  · intro _ _
    show decide (z.length * k.toNat > sizeLine) = false
    exact decide_eq_false (by have : (1000 : Nat) ≤ sizeLine := by decide
                              omega)
  · rw [if_neg (by omega), hk]
    rw [if_neg (by simp)]
    refine ⟨?_, ⟨.str (srep z k), H, I.tok _, ⟨_, rfl⟩, q⟩⟩
    have e : (srep z k).length = z.length * k.toNat := srep_len z k.toNat
    have : (1000 : Nat) ≤ sizeLine := by decide
    show (srep z k).length ≤ sizeLine
    omega
end
section
variable {X : Cx} {pos p1 p2 : Pos}
theorem de_neg {i : Int} {j} : DE X (.UnaryOp .USub (.Constant (.int i) j p1) pos) (dIs (.int (-i))) :=
  de_of (pe_un un_neg pe_int) (fun _ H _ ⟨_, _, _, e, q⟩ => by cases e; exact ⟨_, rfl, q _ H (Same.refl H) (.int _)⟩) fun _ _ _ _ _ h => h
theorem de_pow {a b : Int} {j1 j2} (h : CPow a b) : DE X (.BinOp (.Constant (.int a) j1 p1) .Pow (.Constant (.int b) j2 p2) pos) (dIs (.int (a ^ b.toNat))) :=
  de_of (pe_op op_pow pe_int pe_int) (fun _ H _ ⟨_, _, _, e, q⟩ => by cases e; exact ⟨_, _, rfl, rfl, h, q _ H (Same.refl H) (.int _)⟩) fun _ _ _ _ _ h => h
theorem de_srep {a : Str} {b : Int} {j1 j2} (h : 2 ≤ b ∧ b ≤ 1000 ∧ a.length = 1) : DE X (.BinOp (.Constant (.str a) j1 p1) .Mult (.Constant (.int b) j2 p2) pos) (dIs (.str (srep a b))) :=
  de_of (pe_op op_repS pe_str pe_int) (fun _ H _ ⟨_, _, _, e, q⟩ => by cases e; exact ⟨_, _, rfl, rfl, h.1, h.2.1, h.2.2, q _ H (Same.refl H) (.str _)⟩) fun _ _ _ _ _ h => h
end
/-- one of a list of data, by a number that is drawn -/
theorem pick_at {K : PySem.W.Frag} {H : Hp} {v : V} {ds : List PyData} (h : Dp K H v (.list ds)) {i : Int} (h0 : 0 ≤ i) (h1 : i < ds.length) : ∃ (r : Addr) (xs : List V) (x : V) (d : PyData), v = .ref r ∧ SqL K H r xs ∧ atI xs i = some x ∧ d ∈ ds ∧ ds[i.toNat]? = some d ∧ Dp K H x d := by
  obtain ⟨r, xs, rfl, hr, ha⟩ := dp_lst h
  have hl := dpAll_len ha
  have hi : i.toNat < xs.length := by omega
  obtain ⟨d, hd, hx⟩ := dpAll_at ha (List.getElem?_eq_getElem hi)
  refine ⟨r, xs, xs[i.toNat], d, rfl, hr, ?_, List.mem_of_getElem? hd, hd, hx⟩
  have := atI_nat (xs := xs) (j := i.toNat) (List.getElem?_eq_getElem hi)
  rw [show ((i.toNat : Nat) : Int) = i by omega] at this
  exact this
/-! ### odd things -/
def oddL : List PyData := [.bool true, .bool false, .int 0, .int 1, .int (-1), .int (10 ^ (39 : Int).toNat), .none, .str "", .str "A", .str "ab1", .str "abcdefghi", .str " a", .str "a\n", .str "a b", .list [], .tuple [], .list [.str "a"], .tuple [.str "a"], .list [.list [.str "a"], .tuple [.str "b"]], .str (srep "a" 400), .str "-", .str "a,"]
def spOdd (K : PySem.W.Frag) : Sp := fun vs H Q _ => ∃ (p q : Addr) (n : Nat), vs = [.ref p] ∧ PoolAt H p q n ∧ n < 900000 ∧
  ∀ (v : V) (d : PyData) (H' : Hp), Dp K (mask [p, q] H') v d → nmD d = false → PoolAt H' p q (n + 1) → Keeps p q H H' → Q v H'
theorem odd_all : oddL.all (fun d => !nmD d) = true := by decide +kernel
section
variable {P : Program} {w : World} {K : PySem.W.Frag} {mg : Str → Option Value} {base : Heap}
theorem scOd : FnScope ["pool", "odd"] ["pool"] (defScope sOdd) := ⟨rfl, rfl, rfl, by decide +kernel, rfl, by decide +kernel, by decide +kernel⟩
theorem ok_odd {f fD : Addr} {fd fdD : FuncData} (F : Fun K "_law_odd" "_law_odd" sOdd f fd) (GD : FnOk P w K mg base CX0 1 fD fdD ["pool", "many"] spDraw) (mD : mg "_law_draw" = some (.ref fD)) (kD : PySem.W.keepIn K (.ref fD) = true) (bD : Binds K fdD ["pool", "many"] []) : FnOk P w K mg base CX0 2 f fd ["pool"] (spOdd K) := by
  refine F.ok scOd (fun vs H Q E h => ?_) (fun cdv A outer s H vs Q E hr h => ?_)
  · obtain ⟨p, q, n, rfl, _⟩ := h
    rfl
  · obtain ⟨p, q, n, rfl, hP, hn, kk⟩ := h
    have lp : p ∈ [p, q] := by simp
    have lq : q ∈ [p, q] := by simp
    have al := hP.alive
    have hrD : Room 1 _ := hr
    refine ⟨_, pss_cons (ps_set (i := 1) scOd.nd rfl (.inl rfl) (de_lst (da_cons de_bl (da_cons de_bl (da_cons de_int (da_cons de_int (da_cons de_neg (da_cons (de_pow ⟨by decide, by decide, by decide⟩) (da_cons de_non (da_cons de_str (da_cons de_str (da_cons de_str (da_cons de_str (da_cons de_str (da_cons de_str (da_cons de_str (da_cons (de_lst da_nil) (da_cons (de_tup da_nil) (da_cons (de_lst (da_cons de_str da_nil)) (da_cons (de_tup (da_cons de_str da_nil)) (da_cons (de_lst (da_cons (de_lst (da_cons de_str da_nil)) (da_cons (de_tup (da_cons de_str da_nil)) da_nil))) (da_cons (de_srep ⟨by decide, by decide, rfl⟩) (da_cons de_str (da_cons de_str da_nil))))))))))))))))))))))).pe)
      (pss_one (ps_ret (pe_ix ix_list (pv 1) (pe_call GD hrD (by rfl) mD kD bD .nil pass0 (pa_cons (pv 0) (pa_cons pe_int pa_nil))) (fun _ _ => rfl)))), ?_⟩
    refine ⟨[p, q], .list oddL, al, ⟨_, rfl, Nat.le_of_ble_eq_true rfl, ⟨_, _, rfl, rfl, ⟨_, _, rfl, rfl, ⟨_, _, rfl, rfl, ⟨_, _, rfl, rfl, ⟨_, _, rfl, rfl, ⟨_, _, rfl, rfl, ⟨_, _, rfl, rfl, ⟨_, _, rfl, rfl, ⟨_, _, rfl, rfl, ⟨_, _, rfl, rfl, ⟨_, _, rfl, rfl, ⟨_, _, rfl, rfl, ⟨_, _, rfl, rfl, ⟨_, _, rfl, rfl, ⟨_, _, rfl, ⟨_, rfl, Nat.le_of_ble_eq_true rfl, rfl⟩, ⟨_, _, rfl, ⟨_, rfl, Nat.le_of_ble_eq_true rfl, rfl⟩, ⟨_, _, rfl, ⟨_, rfl, Nat.le_of_ble_eq_true rfl, ⟨_, _, rfl, rfl, rfl⟩⟩, ⟨_, _, rfl, ⟨_, rfl, Nat.le_of_ble_eq_true rfl, ⟨_, _, rfl, rfl, rfl⟩⟩, ⟨_, _, rfl, ⟨_, rfl, Nat.le_of_ble_eq_true rfl, ⟨_, _, rfl, ⟨_, rfl, Nat.le_of_ble_eq_true rfl, ⟨_, _, rfl, rfl, rfl⟩⟩, ⟨_, _, rfl, ⟨_, rfl, Nat.le_of_ble_eq_true rfl, ⟨_, _, rfl, rfl, rfl⟩⟩, rfl⟩⟩⟩, ⟨_, _, rfl, rfl, ⟨_, _, rfl, rfl, ⟨_, _, rfl, rfl, rfl⟩⟩⟩⟩⟩⟩⟩⟩⟩⟩⟩⟩⟩⟩⟩⟩⟩⟩⟩⟩⟩⟩⟩, fun v H1 s1 hv => ?_⟩
    refine ⟨_, rfl, _, rfl, p, q, n, 22, rfl, hP.same s1, by omega, by decide, by decide, fun d H2 d0 d1 P2 K2 => ?_⟩
    have hv := dp_same (K2.maskL lp lq) _ _ hv
    obtain ⟨r, xs, x, e, rfl, hx, ha, hm, _, he⟩ := pick_at hv d0 (Int.lt_of_lt_of_le d1 (by decide))
    have b1 : nmD e = false := by
      have := List.all_eq_true.mp odd_all e hm
      simpa using this
    exact ⟨r, xs, _, x, rfl, rfl, (mask_sub [p, q] H2).seq hx, ha, kk x e H2 he b1 P2 ((Keeps.of_same s1).trans K2)⟩
end
/-! ### the law -/
structure CsAt (S : Addr) (U : List Str) (H : Hp) (r x d md : Addr) (m : Md) : Prop where
  e : H r = some (.lst [.ref x, .ref md])
  s : SetAt S H x d m
  k : H md = some (.dK (mkv m))
  u : MdU U m
theorem CsAt.same {S : Addr} {U : List Str} {H H' : Hp} {r x d md : Addr} {m : Md} (c : CsAt S U H r x d md m) (s : Same H H') : CsAt S U H' r x d md m := ⟨s _ _ c.e, c.s.same s, s _ _ c.k, c.u⟩
theorem setAt_pool {S x d p q : Addr} {H H' : Hp} {m : Md} {n : Nat} (P : PoolAt H p q n) (k : Keeps p q H H') (h : SetAt S H x d m) : SetAt S H' x d m := by
  obtain ⟨dx, a1, a2⟩ := h
  obtain ⟨_, _, _, _, e1, e2, _⟩ := P
  refine ⟨dx, k _ _ (fun z => ?_) (fun z => ?_) a1, k _ _ (fun z => ?_) (fun z => ?_) a2⟩
  · rw [z, e1] at a1; cases a1
  · rw [z, e2] at a1; cases a1
  · rw [z, e1] at a2; cases a2
  · rw [z, e2] at a2; cases a2
theorem CsAt.pool {S : Addr} {U : List Str} {H H' : Hp} {r x d md p q : Addr} {m : Md} {n : Nat} (c : CsAt S U H r x d md m) (P : PoolAt H p q n) (k : Keeps p q H H') (rp : r ≠ p) (rq : r ≠ q) : CsAt S U H' r x d md m :=
  ⟨k _ _ rp rq c.e, setAt_pool P k c.s, k _ _ (dK_pool P c.k).1 (dK_pool P c.k).2 c.k, c.u⟩
theorem CsAt.setG {S : Addr} {U : List Str} {H : Hp} {r x d md : Addr} {m : Md} (c : CsAt S U H r x d md m) : SetG S H x d U (mget m) := ⟨m, c.s, c.u, fun _ => rfl⟩
theorem CsAt.dictW {S : Addr} {U : List Str} {H : Hp} {r x d md : Addr} {m : Md} (c : CsAt S U H r x d md m) : DictW H md U (mget m) := by
  refine ⟨m, c.k, c.u.nd, fun n hn => ?_, fun _ => rfl, fun p hp => ?_⟩
  · obtain ⟨p, hp, rfl⟩ := List.mem_map.mp hn
    exact (c.u.ok p hp).1
  · rcases (c.u.ok p hp).2 with h | h
    · rw [h]; decide +kernel
    · rw [h]; decide +kernel
theorem odd_not {U : List Str} {m : Md} (uo : UOk U) (um : MdU U m) {u : PyData} (h : nmD u = false) : inD m u = false := by
  cases u with
  | str z =>
    show (look m z).isSome = false
    cases e : look m z with
    | none => rfl
    | some v =>
      have hw := (uo.w _ (um.ok _ (look_mem e)).1).nm
      have h2 : nmS z = false := h
      rw [show nmS z = true from hw] at h2
      cases h2
  | _ => rfl
def toldW : List Str := ["out", "deaf", "on", "out", "deaf", "on"]
structure SCoD (P : Program) (w : World) (K : PySem.W.Frag) (mg : Str → Option Value) (base : Heap) (S g : Addr) : Prop where
  f : PySem.W.findIn K (.ref S) "__contains__" = some (some (.ref g))
  i : PySem.W.isFn K (.ref g) = true
  G : FnR P w K mg base CX0 1 g (spContD K S)
def spLaw (K : PySem.W.Frag) : Sp := fun vs H Q _ => ∃ (a : Addr) (ns : List Int), vs = [.ref a] ∧ SqL K H a (ns.map V.int) ∧ ns.length ≤ 63 ∧ ∀ H', Q (.bl true) H'
structure Law31 (P : Program) (w : World) (K : PySem.W.Frag) (mg : Str → Option Value) (base : Heap) where
  B : Bts mg
  S : Addr
  T : StC K mg S
  cO : ∃ u, Con K S "OUT" (.str "out") u
  cD : ∃ u, Con K S "DEAF" (.str "deaf") u
  cN : ∃ u, Con K S "ON" (.str "on") u
  ge : Addr
  EQ : SEq P w K mg base S ge
  EQT : SEqT P w K mg base S ge
  gc : Addr
  CO : SCoD P w K mg base S gc
  fP : Addr
  fdP : FuncData
  GP : FnOk P w K mg base CX0 1 fP fdP ["script"] (spPool K)
  mP : mg "_law_pool" = some (.ref fP)
  kP : PySem.W.keepIn K (.ref fP) = true
  bP : Binds K fdP ["script"] []
  fL : Addr
  fdL : FuncData
  GL : FnOk P w K mg base CX0 2 fL fdL ["pool", "many"] (spLNames)
  mL : mg "_law_names" = some (.ref fL)
  kL : PySem.W.keepIn K (.ref fL) = true
  bL : Binds K fdL ["pool", "many"] []
  fCh : Addr
  fdCh : FuncData
  GCh : FnOk P w K mg base CX0 6 fCh fdCh ["pool", "names"] (spChosen S)
  mCh : mg "_law_chosen" = some (.ref fCh)
  kCh : PySem.W.keepIn K (.ref fCh) = true
  bCh : Binds K fdCh ["pool", "names"] []
  fH : Addr
  fdH : FuncData
  GH : FnOk P w K mg base CX0 5 fH fdH ["setting", "modes", "names"] (spHolds S)
  mH : mg "_law_holds" = some (.ref fH)
  kH : PySem.W.keepIn K (.ref fH) = true
  bH : Binds K fdH ["setting", "modes", "names"] []
  fLk : Addr
  fdLk : FuncData
  GLk : FnOk P w K mg base CX0 5 fLk fdLk ["pool", "modes"] (spLike S)
  mLk : mg "_law_like" = some (.ref fLk)
  kLk : PySem.W.keepIn K (.ref fLk) = true
  bLk : Binds K fdLk ["pool", "modes"] []
  fO : Addr
  fdO : FuncData
  GO : FnOk P w K mg base CX0 2 fO fdO ["pool"] (spOdd K)
  mO : mg "_law_odd" = some (.ref fO)
  kO : PySem.W.keepIn K (.ref fO) = true
  bO : Binds K fdO ["pool"] []
  fSm : Addr
  fdSm : FuncData
  GSm : FnOk P w K mg base CX0 4 fSm fdSm ["actual", "due"] (spSame K 4)
  mSm : mg "_law_same" = some (.ref fSm)
  kSm : PySem.W.keepIn K (.ref fSm) = true
  bSm : Binds K fdSm ["actual", "due"] []
  fU : Addr
  fdU : FuncData
  GU : FnOk P w K mg base CX0 6 fU fdU ["self"] (spDup S)
  bU : Binds K fdU ["self"] []
  MU : Meth K S "duplicate" fU
section
variable {P : Program} {w : World} {K : PySem.W.Frag} {mg : Str → Option Value} {base : Heap}
theorem scLw : FnScope ["script", "pool", "names", "first", "second", "setting", "modes", "like", "twin", "told"] ["script"] (defScope sLaw) := ⟨rfl, rfl, rfl, by decide +kernel, rfl, by decide +kernel, by decide +kernel⟩
theorem ok_law {f : Addr} {fd : FuncData} (F : Fun K "law" "law" sLaw f fd) (G : Law31 P w K mg base) : FnOk P w K mg base CX0 7 f fd ["script"] (spLaw K) := by
  obtain ⟨B, S, T, cO, cD, cN, ge, EQ, EQT, gc, CO, fP, fdP, GP, mP, kP, bP, fL, fdL, GL, mL, kL, bL, fCh, fdCh, GCh, mCh, kCh, bCh, fH, fdH, GH, mH, kH, bH, fLk, fdLk, GLk, mLk, kLk, bLk, fO, fdO, GO, mO, kO, bO, fSm, fdSm, GSm, mSm, kSm, bSm, fU, fdU, GU, bU, MU⟩ := G
  refine F.ok scLw (fun vs H Q E h => ?_) (fun cdv A outer s0 H vs Q E hr h => ?_)
  · obtain ⟨a, ns, rfl, _⟩ := h
    rfl
  · obtain ⟨a, ns, rfl, hS0, hlen, kk⟩ := h
    have hrP : Room 1 _ := hr.mono (by decide)
    have hrEQ := hrP
    have hrCO := hrP
    have hrL : Room 2 _ := hr.mono (by decide)
    have hrO := hrL
    have hrSm : Room 4 _ := hr.mono (by decide)
    have hrH : Room 5 _ := hr.mono (by decide)
    have hrLk := hrH
    have hrCh : Room 6 _ := hr
    have hrU := hrCh
    refine ⟨_, pss_cons (ps_set (i := 1) scLw.nd rfl (.inl rfl) (pe_call GP hrP (by rfl) mP kP bP .nil pass0 (pa_cons (pv 0) pa_nil)))
      (pss_cons (ps_set (i := 2) scLw.nd rfl (.inl rfl) (pe_call GL hrL (by rfl) mL kL bL .nil pass0 (pa_cons (pv 1) (pa_cons pe_int pa_nil))))
      (pss_cons (ps_set (i := 3) scLw.nd rfl (.inl rfl) (pe_call GCh hrCh (by rfl) mCh kCh bCh .nil pass0 (pa_cons (pv 1) (pa_cons (pv 2) pa_nil))))
      (pss_cons (ps_set (i := 4) scLw.nd rfl (.inl rfl) (pe_call GCh hrCh (by rfl) mCh kCh bCh .nil pass0 (pa_cons (pv 1) (pa_cons (pv 2) pa_nil))))
      (pss_cons (ps_if (PW.pt (pw_or (pt_cmpR op_isN (pv 3) pe_non (nomark _)) (pw_or1 (pt_cmpR op_isN (pv 4) pe_non (nomark _)))))
        (pss_one (ps_ret pe_bl))
        pss_nil)
      (pss_cons (ps_for PassesOwn.never rfl (pi_tup (pe_tup (pa_cons (pv 3) (pa_cons (pv 4) (pa_cons (pv 3) pa_nil))))) (pg_lst rfl (pgs_cons (pg_name (i := 5) scLw.nd rfl (.inl rfl)) (pgs_cons (pg_name (i := 6) scLw.nd rfl (.inl rfl)) pgs_nil)))
        (pss_cons (ps_if (pt_not (pt_val (pe_call GH hrH (by rfl) mH kH bH .nil pass0 (pa_cons (pv 5) (pa_cons (pv 6) (pa_cons (pv 2) pa_nil))))))
            (pss_one (ps_ret pe_bl))
            pss_nil)
          (pss_cons (ps_set (i := 7) scLw.nd rfl (.inl rfl) (pe_call GLk hrLk (by rfl) mLk kLk bLk .nil pass0 (pa_cons (pv 1) (pa_cons (pv 6) pa_nil))))
          (pss_cons (ps_set (i := 8) scLw.nd rfl (.inl rfl) (pe_meth0 (pv 5) T.cls MU GU hrU bU .nil pass0))
          (pss_cons (ps_if (PW.pt (pw_or (pt_not (pt_cmpR (op_eqOwn EQ.f EQ.i EQ.G hrEQ pass0) (pv 5) (pv 7) (nomark _))) (pw_or (pt_not (pt_cmpR (op_eqOwn EQ.f EQ.i EQ.G hrEQ pass0) (pv 7) (pv 5) (nomark _))) (pw_or (pt_not (pt_cmpR (op_eqOwn EQ.f EQ.i EQ.G hrEQ pass0) (pv 8) (pv 5) (nomark _))) (pw_or1 (pt_not (pt_val (pe_call GH hrH (by rfl) mH kH bH .nil pass0 (pa_cons (pv 8) (pa_cons (pv 6) (pa_cons (pv 2) pa_nil)))))))))))
            (pss_one (ps_ret pe_bl))
            pss_nil)
          (pss_cons (ps_if (PW.pt (pw_or (pt_cmpR (op_eqOwnT EQT.f EQT.i EQT.G hrEQ pass0) (pv 5) (pv 6) (nomark _)) (pw_or (pt_cmpR (op_eqOwnT EQT.f EQT.i EQT.G hrEQ pass0) (pv 5) (pv 2) (nomark _)) (pw_or (pt_cmpR (op_eqOwnT EQT.f EQT.i EQT.G hrEQ pass0) (pv 5) pe_str (nomark _)) (pw_or1 (pt_cmpR (op_eqOwnT EQT.f EQT.i EQT.G hrEQ pass0) (pv 5) pe_int (nomark _)))))))
            (pss_one (ps_ret pe_bl))
            pss_nil)
          (pss_one (ps_if (PW.pt (pw_or (pt_cmpR (op_inOwn CO.f CO.i CO.G hrCO pass0) (pe_call GO hrO (by rfl) mO kO bO .nil pass0 (pa_cons (pv 1) pa_nil)) (pv 5) (by rfl)) (pw_or1 (pt_cmpR (op_inOwn CO.f CO.i CO.G hrCO pass0) pe_non (pv 5) (by rfl)))))
            (pss_one (ps_ret pe_bl))
            pss_nil))))))))
      (pss_cons (ps_if (pt_cmpR op_ne (pe_cmpR (op_eqOwn EQ.f EQ.i EQ.G hrEQ pass0) (pe_ix ix_list (pv 3) pe_int (fun _ _ => rfl)) (pe_ix ix_list (pv 4) pe_int (fun _ _ => rfl)) (nomark _)) (pe_cmpR (op_eqDS hr.units0) (pe_ix ix_list (pv 3) pe_int (fun _ _ => rfl)) (pe_ix ix_list (pv 4) pe_int (fun _ _ => rfl)) (nomark _)) (nomark _))
        (pss_one (ps_ret pe_bl))
        pss_nil)
      (pss_cons (ps_set (i := 9) scLw.nd rfl (.inl rfl) (pe_lst (pa_cons (ClX.pe_cval (pe_glob (v := .ref S) rfl T.m rfl)) (pa_cons (ClX.pe_cval (pe_glob (v := .ref S) rfl T.m rfl)) (pa_cons (ClX.pe_cval (pe_glob (v := .ref S) rfl T.m rfl)) (pa_cons (pe_con (pe_ix ix_list (pv 3) pe_int (fun _ _ => rfl)) rfl) (pa_cons (pe_con (pe_ix ix_list (pv 4) pe_int (fun _ _ => rfl)) rfl) (pa_cons (pe_con (pe_ix ix_list (pv 3) pe_int (fun _ _ => rfl)) rfl) pa_nil))))))))
      (pss_one (ps_ret (pe_call GSm hrSm (by rfl) mSm kSm bSm .nil pass0 (pa_cons (pv 9) (pa_cons (pe_lst (pa_cons pe_str (pa_cons pe_str (pa_cons pe_str (pa_cons pe_str (pa_cons pe_str (pa_cons pe_str pa_nil))))))) pa_nil)))))))))))), ?_⟩
    refine ⟨_, rfl, a, ns, rfl, hS0, hlen, fun p q H1 np nq P1 s1 => ?_⟩
    refine ⟨_, rfl, p, q, 0, 8, rfl, P1, by omega, by decide, fun nl U n1 H2 nnl hl8 hw und hn1 hn1' P2 K2 hnl => ?_⟩
    have uo : UOk U := ⟨hw, by omega⟩
    obtain ⟨op, ep⟩ := P1.p_some
    obtain ⟨oq, eq⟩ := P1.q_some
    have nlp : nl ≠ p := (ne_of_none ep nnl).symm
    have nlq : nl ≠ q := (ne_of_none eq nnl).symm
    clear P1 s1 K2 nnl ep eq np nq hS0
    refine ⟨_, rfl, _, rfl, p, q, n1, nl, U, rfl, P2, by omega, hnl, nlp, nlq, uo, und, hl8, fun r1 x1 d1 md1 m1 n2 H3 e1 hs1 hk1 um1 P3 hn2 r1p r1q K3 => ?_⟩
    have C1 : CsAt S U H3 r1 x1 d1 md1 m1 := ⟨e1, hs1, hk1, um1⟩
    have hnl3 := K3 _ _ nlp nlq hnl
    clear e1 hs1 hk1 P2 K3 hnl
    refine ⟨_, rfl, _, rfl, p, q, n2, nl, U, rfl, P3, by omega, hnl3, nlp, nlq, uo, und, hl8, fun r2 x2 d2 md2 m2 n3 H4 e2 hs2 hk2 um2 P4 hn3 r2p r2q K4 => ?_⟩
    have C2 : CsAt S U H4 r2 x2 d2 md2 m2 := ⟨e2, hs2, hk2, um2⟩
    have C1 := C1.pool P3 K4 r1p r1q
    have hnl4 := K4 _ _ nlp nlq hnl3
    clear e2 hs2 hk2 P3 K4 hnl3
    refine ⟨_, rfl, rfl, _, rfl, ?_⟩
    refine ⟨_, rfl, rfl, _, rfl, ?_⟩
    refine ⟨_, rfl, _, rfl, _, rfl, by show 3 ≤ sizeLine; decide, fun t nt => ?_⟩
    have s5 := same_new (o := .tup [.ref r1, .ref r2, .ref r1]) nt
    have et : (upd H4 t (.tup [V.ref r1, .ref r2, .ref r1])) t = some (.tup [V.ref r1, .ref r2, .ref r1]) := upd_same
    have C1 := C1.same s5
    have C2 := C2.same s5
    have hnl5 := s5 _ _ hnl4
    have P5 := P4.same s5
    have tp : t ≠ p := by obtain ⟨o, e⟩ := P4.p_some; exact (ne_of_none e nt).symm
    have tq : t ≠ q := by obtain ⟨o, e⟩ := P4.q_some; exact (ne_of_none e nt).symm
    generalize upd H4 t (.tup [V.ref r1, .ref r2, .ref r1]) = H5 at *
    clear P4 s5 hnl4 nt
    refine ⟨t, rfl, ⟨_, SqT.of et⟩, for_tup (K := K) (a := t) (xs := [V.ref r1, .ref r2, .ref r1]) (fun i σ H6 => ∃ (z5 z6 z7 z8 : Option V) (n : Nat), σ = [some (.ref a), some (.ref p), some (.ref nl), some (.ref r1), some (.ref r2), z5, z6, z7, z8, none] ∧ n ≤ 200 + 5 * i ∧ PoolAt H6 p q n ∧ H6 nl = some (.lst (U.map V.str)) ∧ H6 t = some (.tup [V.ref r1, .ref r2, .ref r1]) ∧ CsAt S U H6 r1 x1 d1 md1 m1 ∧ CsAt S U H6 r2 x2 d2 md2 m2)
      ⟨none, none, none, none, n3, rfl, by omega, P5, hnl5, et, C1, C2⟩ (fun i σ H6 _ hI => ?_) ?_ ?_⟩
    · obtain ⟨_, _, _, _, _, _, _, _, _, e6, _⟩ := hI
      exact SqT.of e6
    · rintro i v σ H6 hv ⟨z5, z6, z7, z8, n, rfl, hn, P6, hnl6, et6, C1, C2⟩
      have hi3 : i < 3 := (List.getElem?_eq_some_iff.mp hv).1
      obtain ⟨r, x, d, md, m, rfl, C⟩ : ∃ r x d md m, v = .ref r ∧ CsAt S U H6 r x d md m := by
        match i, hi3 with
        | 0, _ => exact ⟨r1, x1, d1, md1, m1, (Option.some.inj hv).symm, C1⟩
        | 1, _ => exact ⟨r2, x2, d2, md2, m2, (Option.some.inj hv).symm, C2⟩
        | 2, _ => exact ⟨r1, x1, d1, md1, m1, (Option.some.inj hv).symm, C1⟩
      refine ⟨r, _, rfl, SqL.of C.e, rfl, .ref x, [.ref md], rfl, .ref md, [], rfl, rfl, ?_⟩
      -- it holds
      refine ⟨_, rfl, _, rfl, _, rfl, x, d, md, nl, U, mget m, rfl, C.setG, C.dictW, uo, und, hnl6, fun H7 s7 => ⟨_, rfl, ?_⟩⟩
      have C1 := C1.same s7
      have C2 := C2.same s7
      have C := C.same s7
      have P7 := P6.same s7
      have hnl7 := s7 _ _ hnl6
      have et7 := s7 _ _ et6
      clear P6 hnl6 et6 s7
      have ok : MdOk m := C.u.md uo
      -- one like it
      refine ⟨_, rfl, _, rfl, p, q, n, md, m, rfl, P7, by omega, C.k, ok, fun x7 d7 m7 H8 _ _ P8 K8 hS8 hl8' ok7 => ?_⟩
      have C1 := C1.pool P7 K8 r1p r1q
      have C2 := C2.pool P7 K8 r2p r2q
      have hnl8 := K8 _ _ nlp nlq hnl7
      have et8 := K8 _ _ tp tq et7
      have hSx := setAt_pool P7 K8 C.s
      have hkx := K8 _ _ (dK_pool P7 C.k).1 (dK_pool P7 C.k).2 C.k
      have um := C.u
      clear C P7 K8 hnl7 et7
      -- its twin
      obtain ⟨dx, g1, g2⟩ := id hSx
      refine ⟨_, rfl, x, dx, _, rfl, g1, rfl, x, d, m, rfl, hSx, ok, fun x9 d9 H9 s9 _ _ hS9 => ?_⟩
      have C1 := C1.same s9
      have C2 := C2.same s9
      have hnl9 := s9 _ _ hnl8
      have et9 := s9 _ _ et8
      have P9 := P8.same s9
      have hSx := hSx.same s9
      have hS7 := hS8.same s9
      have hkx := s9 _ _ hkx
      clear g1 g2 s9 P8 hnl8 et8 hS8
      have pp := parted_perm ok
      have ok9 := ok.perm pp
      have e1 : eqMd m m7 = true := (eqMd_iff ok.nd ok7.nd).mpr fun k => (hl8' k).symm
      have e2 : eqMd m7 m = true := (eqMd_iff ok7.nd ok.nd).mpr hl8'
      have e3 : eqMd (parted m) m = true := (eqMd_iff ok9.nd ok.nd).mpr fun k => perm_look ok.nd pp k
      obtain ⟨dx, g1, g2⟩ := id hSx
      obtain ⟨dx7, a1, a2⟩ := id hS7
      obtain ⟨dx9, b1, b2⟩ := id hS9
      refine ⟨_, rfl, _, rfl, x, dx, _, x7, dx7, _, rfl, rfl, g1, a1, x, d, x7, d7, m, m7, rfl, hSx, hS7, _, rfl, ?_⟩
      rw [e1]
      refine ⟨_, rfl, _, rfl, x7, dx7, _, x, dx, _, rfl, rfl, a1, g1, x7, d7, x, d, m7, m, rfl, hS7, hSx, _, rfl, ?_⟩
      rw [e2]
      refine ⟨_, rfl, _, rfl, x9, dx9, _, x, dx, _, rfl, rfl, b1, g1, x9, d9, x, d, parted m, m, rfl, hS9, hSx, _, rfl, ?_⟩
      rw [e3]
      have hG9 : SetG S H9 x9 d9 U (mget m) := SetG.ofDup hS9 uo um fun _ => rfl
      have hW : DictW H9 md U (mget m) := by
        refine ⟨m, hkx, um.nd, fun n hn => ?_, fun _ => rfl, fun p hp => ?_⟩
        · obtain ⟨p, hp, rfl⟩ := List.mem_map.mp hn
          exact (um.ok p hp).1
        · rcases (um.ok p hp).2 with h | h
          · rw [h]; decide +kernel
          · rw [h]; decide +kernel
      refine ⟨_, rfl, _, rfl, _, rfl, x9, d9, md, nl, U, mget m, rfl, hG9, hW, uo, und, hnl9, fun H10 s10 => ⟨_, rfl, ?_⟩⟩
      have C1 := C1.same s10
      have C2 := C2.same s10
      have hnl10 := s10 _ _ hnl9
      have et10 := s10 _ _ et9
      have P10 := P9.same s10
      have hSx := hSx.same s10
      have hkx := s10 _ _ hkx
      clear s10 P9 hnl9 et9 hS9 hS7 a1 a2 b1 b2 g1 g2 hG9 hW
      obtain ⟨dx, g1, g2⟩ := id hSx
      -- unlike other things
      refine ⟨_, rfl, _, rfl, x, dx, _, "dict", rfl, g1, .base (.dK hkx), sub_dict, x, d, m, .ref md, "dict", rfl, hSx, .base (.dK hkx), sub_dict, _, rfl, ?_⟩
      refine ⟨_, rfl, _, rfl, x, dx, _, "list", rfl, g1, .base (.lst hnl10), sub_list, x, d, m, .ref nl, "list", rfl, hSx, .base (.lst hnl10), sub_list, _, rfl, ?_⟩
      refine ⟨_, rfl, x, dx, _, "str", rfl, g1, .base (.str _), sub_str, x, d, m, .str "out", "str", rfl, hSx, .base (.str _), sub_str, _, rfl, ?_⟩
      refine ⟨_, rfl, x, dx, _, "int", rfl, g1, .base (.int _), sub_int, x, d, m, .int 0, "int", rfl, hSx, .base (.int _), sub_int, _, rfl, ?_⟩
      -- odd names
      refine ⟨_, rfl, p, q, n + 1, rfl, P10, by omega, fun v u H11 hv11 hnm P11 K11 => ?_⟩
      have C1 := C1.pool P10 K11 r1p r1q
      have C2 := C2.pool P10 K11 r2p r2q
      have hnl11 := K11 _ _ nlp nlq hnl10
      have et11 := K11 _ _ tp tq et10
      have hSx := setAt_pool P10 K11 hSx
      clear g1 g2
      obtain ⟨dx, g1, g2⟩ := id hSx
      refine ⟨_, rfl, x, dx, _, rfl, g1, x, d, m, v, u, rfl, hSx, dp_same (mask_sub [p, q] H11) _ _ hv11, _, rfl, _, rfl, ?_⟩
      rw [odd_not uo um hnm]
      refine ⟨_, rfl, x, dx, _, rfl, g1, x, d, m, .non, .none, rfl, hSx, .non, _, rfl, _, rfl, ?_⟩
      exact ⟨_, _, _, _, n + 1 + 1, rfl, by omega, P11, hnl11, et11, C1, C2⟩
    · rintro σ H6 ⟨z5, z6, z7, z8, n, rfl, hn, P6, hnl6, et6, C1, C2⟩
      obtain ⟨dx1, g1, _⟩ := id C1.s
      obtain ⟨dx2, b1, _⟩ := id C2.s
      refine ⟨_, rfl, r1, _, 0, _, rfl, rfl, SqL.of C1.e, atI_nat (j := 0) rfl, _, rfl, r2, _, 0, _, rfl, rfl, SqL.of C2.e, atI_nat (j := 0) rfl, x1, dx1, _, x2, dx2, _, rfl, rfl, g1, b1, x1, d1, x2, d2, m1, m2, rfl, C1.s, C2.s, ?_⟩
      refine ⟨_, rfl, r1, _, 1, _, rfl, rfl, SqL.of C1.e, atI_nat (j := 1) rfl, _, rfl, r2, _, 1, _, rfl, rfl, SqL.of C2.e, atI_nat (j := 1) rfl, md1, md2, _, _, rfl, rfl, C1.k, C2.k, mkv_flat m1, mkv_flat2 m2, rfl, _, rfl, ?_⟩
      have ed : (!decide (V.bl (eqMd m1 m2) = V.bl ((mkv m1).length == (mkv m2).length && sameKv (mkv m2) (mkv m1)))) = false := by
        rw [decide_eq_true (show V.bl (eqMd m1 m2) = V.bl ((mkv m1).length == (mkv m2).length && sameKv (mkv m2) (mkv m1)) from rfl)]
        rfl
      rw [ed]
      refine iteF ?_
      obtain ⟨uO, hO⟩ := T.cO
      obtain ⟨uD, hD⟩ := T.cD
      obtain ⟨uN, hN⟩ := T.cN
      obtain ⟨vO, kO_⟩ := cO
      obtain ⟨vD, kD_⟩ := cD
      obtain ⟨vN, kN_⟩ := cN
      refine ⟨S, _, _, _, rfl, T.rd, hO, S, _, _, _, rfl, T.rd, hD, S, _, _, _, rfl, T.rd, hN, _, rfl, r1, _, 0, _, rfl, rfl, SqL.of C1.e, atI_nat (j := 0) rfl, x1, S, dx1, _, _, _, rfl, g1, T.cls, kO_, rfl, _, rfl, r2, _, 0, _, rfl, rfl, SqL.of C2.e, atI_nat (j := 0) rfl, x2, S, dx2, _, _, _, rfl, b1, T.cls, kD_, rfl, _, rfl, r1, _, 0, _, rfl, rfl, SqL.of C1.e, atI_nat (j := 0) rfl, x1, S, dx1, _, _, _, rfl, g1, T.cls, kN_, rfl, by show 6 ≤ sizeLine; decide, fun l1 nl1 => ?_⟩
      refine ⟨_, rfl, by show 6 ≤ sizeLine; decide, fun l2 nl2 => ?_⟩
      have s7 := same_new (o := .lst (toldW.map V.str)) nl2
      exact ⟨.ref l1, .ref l2, .list (toldW.map PyData.str), rfl, .lst (SqL.of (s7 _ _ upd_same)) (strsDp toldW), .lst (SqL.of upd_same) (strsDp toldW), dp_strs (by decide), fun H' s => kk _⟩
end
/-! ### what the top has written -/
structure FunIn (K : PySem.W.Frag) (mg : Str → Option Value) (x : Str) (st : Stmt) (f : Addr) (fd : FuncData) : Prop where
  F : Fun K x x st f fd
  m : mg x = some (.ref f)
theorem fun_in {K : PySem.W.Frag} {h : Heap} {mg : Str → Option Value} {x : Str} {st : Stmt} {f : Addr} {oc : Value} {od an : Option Addr} {osl : Array (Option Value)} {kV doc pm cdv ct : Value} (X : K.In h) (G : h.Ns mainGlobals mg)
    (a : PySem.W.nsIn K mainGlobals x = some (some (.ref f))) (l : K.lookup f = some ⟨oc, od, .func (PySem.W.fnOf x x (defArgs st) (defBody st) (defScope st) .none kV doc pm an cdv ct), osl⟩)
    (c : PySem.W.codeIn K cdv x = true) (k : PySem.W.keepIn K (.ref f) = true) : ∃ f fd, FunIn K mg x st f fd :=
  ⟨f, _, fun_mk l c k, PySem.W.mg_of X G a⟩
theorem bts_in {K : PySem.W.Frag} {h : Heap} {mg : Str → Option Value} (X : K.In h) (G : h.Ns mainGlobals mg) (z1 : PySem.W.nsIn K mainGlobals "isinstance" = some none) (z2 : PySem.W.nsIn K mainGlobals "bool" = some none) (z3 : PySem.W.nsIn K mainGlobals "str" = some none)
    (z4 : PySem.W.nsIn K mainGlobals "int" = some none) (z5 : PySem.W.nsIn K mainGlobals "list" = some none) (z6 : PySem.W.nsIn K mainGlobals "tuple" = some none) (z7 : PySem.W.nsIn K mainGlobals "len" = some none) (z8 : PySem.W.nsIn K mainGlobals "range" = some none) : Bts mg :=
  ⟨PySem.W.mg_none_of X G z1, PySem.W.mg_none_of X G z2, PySem.W.mg_none_of X G z3, PySem.W.mg_none_of X G z4, PySem.W.mg_none_of X G z5, PySem.W.mg_none_of X G z6, PySem.W.mg_none_of X G z7, PySem.W.mg_none_of X G z8⟩
/-! ### what the top says of settings -/
section
variable {P : Program} {w : World} {K : PySem.W.Frag} {mg : Str → Option Value} {base : Heap}
theorem fnR0 {f : Addr} {fd : FuncData} {ps : List Str} {k : Nat} {sp : Sp} (F : FnOk P w K mg base CX0 k f fd ps sp) (b : Binds K fd ps []) : FnR P w K mg base CX0 k f sp := by
  have := F.raw b .nil
  intro A outer s H us vs Q E hr e0 r h
  exact this A outer s H us vs Q E hr e0 r (by show sp (vs ++ []) H Q E; rw [List.append_nil]; exact h)
end
theorem mg_int {K : PySem.W.Frag} {h : Heap} {mg : Str → Option Value} {n : Str} {i : Int} {tk : Tok} (X : K.In h) (G : h.Ns mainGlobals mg) (e : PySem.W.nsIn K mainGlobals n = some (some (.int i tk))) : ∃ tk, mg n = some (.int i tk) := ⟨tk, PySem.W.mg_of X G e⟩
theorem tup_MODES {K : PySem.W.Frag} {h : Heap} {mg : Str → Option Value} {t : Addr} {n : Nat} {sl : Array (Option Value)} {t0 t1 t2 : Tok} (X : K.In h) (G : h.Ns mainGlobals mg) (a : PySem.W.nsIn K mainGlobals "MODES" = some (some (.ref t)))
    (l : K.lookup t = some ⟨.type "tuple", none, .seq #[.str "out" t0, .str "deaf" t1, .str "on" t2] n, sl⟩) : ∃ t, mg "MODES" = some (.ref t) ∧ TupW K t modesW :=
  ⟨t, PySem.W.mg_of X G a, fun H => .inr ⟨_, _, _, l, rfl, rfl, by show 3 ≤ sizeLine; decide, (.cons ⟨_, rfl⟩ (.cons ⟨_, rfl⟩ (.cons ⟨_, rfl⟩ .nil)))⟩⟩
def MtS (K : PySem.W.Frag) (S : Addr) (m qual : Str) (i : Nat) : Prop := ∃ g fd, PySem.W.findIn K (.ref S) m = some (some (.ref g)) ∧ PySem.W.isFn K (.ref g) = true ∧ Fun K m qual (se i) g fd
theorem ms_in {K : PySem.W.Frag} {S g : Addr} {m qual : Str} {i : Nat} {oc : Value} {od an : Option Addr} {osl : Array (Option Value)} {kV doc pm cdv ct : Value}
    (at_ : PySem.W.findIn K (.ref S) m = some (some (.ref g))) (fn : PySem.W.isFn K (.ref g) = true) (kp : PySem.W.keepIn K (.ref g) = true)
    (l : K.lookup g = some ⟨oc, od, .func (PySem.W.fnOf m qual (defArgs (se i)) (defBody (se i)) (defScope (se i)) .none kV doc pm an cdv ct), osl⟩) (c : PySem.W.codeIn K cdv qual = true) : MtS K S m qual i :=
  ⟨g, _, at_, fn, fun_mk l c kp⟩
def MtG (K : PySem.W.Frag) (S : Addr) (m qual : Str) (i : Nat) : Prop := ∃ g fd, PySem.W.findIn K (.ref S) m = some (some (.ref g)) ∧ PySem.W.isFn K (.ref g) = true ∧ PySem.W.fnIn K g = true ∧ Fun K m qual (se i) g fd
theorem mG_in {K : PySem.W.Frag} {S g : Addr} {m qual : Str} {i : Nat} {oc : Value} {od an : Option Addr} {osl : Array (Option Value)} {kV doc pm cdv ct : Value}
    (at_ : PySem.W.findIn K (.ref S) m = some (some (.ref g))) (fn : PySem.W.isFn K (.ref g) = true) (fi : PySem.W.fnIn K g = true) (kp : PySem.W.keepIn K (.ref g) = true)
    (l : K.lookup g = some ⟨oc, od, .func (PySem.W.fnOf m qual (defArgs (se i)) (defBody (se i)) (defScope (se i)) .none kV doc pm an cdv ct), osl⟩) (c : PySem.W.codeIn K cdv qual = true) : MtG K S m qual i :=
  ⟨g, _, at_, fn, fi, fun_mk l c kp⟩
def SIn0 (K : PySem.W.Frag) (S : Addr) : Prop := ∃ fI, SInit K S fI
theorem si_in {K : PySem.W.Frag} {S fI D e0 : Addr} {n : Nat} {oc : Value} {od an dd : Option Addr} {osl sl : Array (Option Value)} {doc pm cdv ct : Value}
    (mk : PySem.W.makesIn K S = true) (at_ : PySem.W.findIn K (.ref S) "__init__" = some (some (.ref fI))) (fn : PySem.W.isFn K (.ref fI) = true) (kc : PySem.W.keepIn K (.ref S) = true)
    (l : K.lookup fI = some ⟨oc, od, .func (PySem.W.fnOf "__init__" "Setting.__init__" (defArgs (se 3)) (defBody (se 3)) (defScope (se 3)) .none (.ref D) doc pm an cdv ct), osl⟩) (c : PySem.W.codeIn K cdv "Setting.__init__" = true)
    (hD : PySem.W.nsIn K D "deaf" = some (some (.ref e0))) (he : K.lookup e0 = some ⟨.type "tuple", dd, .seq #[] n, sl⟩) : SIn0 K S :=
  ⟨fI, ⟨mk, at_, fn, kc⟩, oc, od, an, doc, pm, cdv, ct, osl, D, e0, dd, n, sl, l, c, hD, he⟩
structure StTop31 (K : PySem.W.Frag) (mg : Str → Option Value) (S : Addr) : Prop where
  T : StC K mg S
  CL : SCls K S
  cO : ∃ u, Con K S "OUT" (.str "out") u
  cD : ∃ u, Con K S "DEAF" (.str "deaf") u
  cN : ∃ u, Con K S "ON" (.str "on") u
  nq : PySem.W.noSeq K S = true
  nb : PySem.W.findIn K (.ref S) "__bool__" = some none
  ini : SIn0 K S
theorem st_in31 {K : PySem.W.Frag} {h : Heap} {mg : Str → Option Value} {S : Addr} {t0 t1 t2 : Tok} (X : K.In h) (G : h.Ns mainGlobals mg) (a : PySem.W.nsIn K mainGlobals "Setting" = some (some (.ref S)))
    (pg : PySem.W.plainGet K S Str.empty = true) (hd : PySem.W.hasDictIn K S = true) (po : PySem.W.plainOver K S = true) (sa : PySem.W.findIn K (.ref S) "__setattr__" = some (some (.builtin "object.__setattr__")))
    (nm : PySem.W.findIn K (.ref S) "_modes" = some none) (rd : PySem.W.readsIn K S (.type "type") = true) (ga : PySem.W.specialIn K (.ref S) "__getattribute__" = some (some (.builtin "type.__getattribute__")))
    (cO : PySem.W.findCls K (.ref S) (.type "type") "OUT" = some (.val (.str "out" t0))) (cD : PySem.W.findCls K (.ref S) (.type "type") "DEAF" = some (.val (.str "deaf" t1))) (cN : PySem.W.findCls K (.ref S) (.type "type") "ON" = some (.val (.str "on" t2)))
    (ca : PySem.W.findIn K (.ref S) "__class__" = some (some (.builtin "object.__class__"))) (cn : PySem.W.specialIn K (.builtin "object.__class__") "__get__" = some (some (.builtin "getset_descriptor.__get__"))) (ct : PySem.W.takesIn K (.builtin "object.__class__") = some true) (cm : PySem.W.mroIn K S (.type "object") = some true) (ty : PySem.W.typeIn K (.ref S) = some (.type "type"))
    (fO : PySem.W.findIn K (.ref S) "OUT" = some (some (.str "out" t0))) (fD : PySem.W.findIn K (.ref S) "DEAF" = some (some (.str "deaf" t1))) (fN : PySem.W.findIn K (.ref S) "ON" = some (some (.str "on" t2)))
    (gO : PySem.W.specialIn K (.str "out" t0) "__get__" = some none) (gD : PySem.W.specialIn K (.str "deaf" t1) "__get__" = some none) (gN : PySem.W.specialIn K (.str "on" t2) "__get__" = some none)
    (nq : PySem.W.noSeq K S = true) (nb : PySem.W.findIn K (.ref S) "__bool__" = some none) (ini : SIn0 K S)
    (m1 : MtG K S "__getitem__" "Setting.__getitem__" 8) (m2 : MtS K S "__setitem__" "Setting.__setitem__" 9) (m3 : MtS K S "__contains__" "Setting.__contains__" 11) (m4 : MtS K S "__len__" "Setting.__len__" 12) (m5 : MtS K S "__eq__" "Setting.__eq__" 18)
    (m6 : MtS K S "names" "Setting.names" 5) (m7 : MtS K S "duplicate" "Setting.duplicate" 7) :
    ∃ S, StTop31 K mg S ∧ MtG K S "__getitem__" "Setting.__getitem__" 8 ∧ MtS K S "__setitem__" "Setting.__setitem__" 9 ∧ MtS K S "__contains__" "Setting.__contains__" 11 ∧ MtS K S "__len__" "Setting.__len__" 12 ∧ MtS K S "__eq__" "Setting.__eq__" 18 ∧ MtS K S "names" "Setting.names" 5 ∧ MtS K S "duplicate" "Setting.duplicate" 7 :=
  ⟨S, ⟨⟨PySem.W.mg_of X G a, ⟨pg, hd, po, sa⟩, nm, ⟨rd, ga⟩, ⟨_, ⟨cO, ⟨_, rfl⟩⟩⟩, ⟨_, ⟨cD, ⟨_, rfl⟩⟩⟩, ⟨_, ⟨cN, ⟨_, rfl⟩⟩⟩⟩, ⟨ca, cn, ct, cm, ty⟩, ⟨_, ⟨fO, ⟨_, rfl⟩, gO, by decide +kernel⟩⟩, ⟨_, ⟨fD, ⟨_, rfl⟩, gD, by decide +kernel⟩⟩, ⟨_, ⟨fN, ⟨_, rfl⟩, gN, by decide +kernel⟩⟩, nq, nb, ini⟩, m1, m2, m3, m4, m5, m6, m7⟩
end Qp
open PySem PySem.W PyProof.Rows
set_option maxRecDepth 100000 in
set_option maxHeartbeats 0 in
theorem PySem.Challenge.cw_quietprobes_k31_settings_made_holds : PySem.Challenge.rw_quietprobes_k31_settings_made.Holds := by
  w_on; o_law; k_head; (case hw => w_witness2)
  k_fill
  refine L2.walk_of (l := PySem.Challenge.rw_quietprobes_k31_settings_made) (n := 63) (k := 7) (x := "script") (CX := fun _ => L2.CX0) (sp := fun w => Qp.spLaw _) rfl (by decide) rfl ⟨rfl, by decide, by decide⟩ (fun w h Y => PySem.W.kIn_of Y) ?F (fun _ _ a ns hl _ hS => ⟨a, ns, rfl, hS, hl, fun _ => rfl⟩) (fun _ _ _ _ _ h => h)
  case F =>
    intro w mg fa h KX G hmg
    obtain ⟨f1, fd1, F1⟩ : ∃ f fd, Qp.FunIn _ mg "is_name" Qp.sIsName f fd := by
      refine' Qp.fun_in KX G ?a ?l ?c ?k
      (case a => k_is); (case l => k_is); (case c => k_is); (case k => k_is)
    obtain ⟨f2, fd2, F2⟩ : ∃ f fd, Qp.FunIn _ mg "check_names" Qp.sNames f fd := by
      refine' Qp.fun_in KX G ?a ?l ?c ?k
      (case a => k_is); (case l => k_is); (case c => k_is); (case k => k_is)
    obtain ⟨f3, fd3, F3⟩ : ∃ f fd, Qp.FunIn _ mg "check_unlike" Qp.sUnlike f fd := by
      refine' Qp.fun_in KX G ?a ?l ?c ?k
      (case a => k_is); (case l => k_is); (case c => k_is); (case k => k_is)
    obtain ⟨f4, fd4, F4⟩ : ∃ f fd, Qp.FunIn _ mg "_check_mode" Qp.sCheckMode f fd := by
      refine' Qp.fun_in KX G ?a ?l ?c ?k
      (case a => k_is); (case l => k_is); (case c => k_is); (case k => k_is)
    obtain ⟨f5, fd5, F5⟩ : ∃ f fd, Qp.FunIn _ mg "_setting_of" Qp.sSetOf f fd := by
      refine' Qp.fun_in KX G ?a ?l ?c ?k
      (case a => k_is); (case l => k_is); (case c => k_is); (case k => k_is)
    obtain ⟨f6, fd6, F6⟩ : ∃ f fd, Qp.FunIn _ mg "_law_draw" Qp.sDraw f fd := by
      refine' Qp.fun_in KX G ?a ?l ?c ?k
      (case a => k_is); (case l => k_is); (case c => k_is); (case k => k_is)
    obtain ⟨f7, fd7, F7⟩ : ∃ f fd, Qp.FunIn _ mg "_law_made" Qp.sMade f fd := by
      refine' Qp.fun_in KX G ?a ?l ?c ?k
      (case a => k_is); (case l => k_is); (case c => k_is); (case k => k_is)
    obtain ⟨f8, fd8, F8⟩ : ∃ f fd, Qp.FunIn _ mg "_law_pool" Qp.sPool f fd := by
      refine' Qp.fun_in KX G ?a ?l ?c ?k
      (case a => k_is); (case l => k_is); (case c => k_is); (case k => k_is)
    obtain ⟨f9, fd9, F9⟩ : ∃ f fd, Qp.FunIn _ mg "_law_names" Qp.sLNames f fd := by
      refine' Qp.fun_in KX G ?a ?l ?c ?k
      (case a => k_is); (case l => k_is); (case c => k_is); (case k => k_is)
    obtain ⟨f10, fd10, F10⟩ : ∃ f fd, Qp.FunIn _ mg "_law_same" Qp.sSame f fd := by
      refine' Qp.fun_in KX G ?a ?l ?c ?k
      (case a => k_is); (case l => k_is); (case c => k_is); (case k => k_is)
    obtain ⟨f11, fd11, F11⟩ : ∃ f fd, Qp.FunIn _ mg "_law_holds" Qp.sHolds f fd := by
      refine' Qp.fun_in KX G ?a ?l ?c ?k
      (case a => k_is); (case l => k_is); (case c => k_is); (case k => k_is)
    obtain ⟨f12, fd12, F12⟩ : ∃ f fd, Qp.FunIn _ mg "_law_odd" Qp.sOdd f fd := by
      refine' Qp.fun_in KX G ?a ?l ?c ?k
      (case a => k_is); (case l => k_is); (case c => k_is); (case k => k_is)
    obtain ⟨f13, fd13, F13⟩ : ∃ f fd, Qp.FunIn _ mg "_law_chosen" Qp.sChosen f fd := by
      refine' Qp.fun_in KX G ?a ?l ?c ?k
      (case a => k_is); (case l => k_is); (case c => k_is); (case k => k_is)
    obtain ⟨f14, fd14, F14⟩ : ∃ f fd, Qp.FunIn _ mg "_law_like" Qp.sLike f fd := by
      refine' Qp.fun_in KX G ?a ?l ?c ?k
      (case a => k_is); (case l => k_is); (case c => k_is); (case k => k_is)
    obtain ⟨f15, fd15, F15⟩ : ∃ f fd, Qp.FunIn _ mg "law" Qp.sLaw f fd := by
      refine' Qp.fun_in KX G ?a ?l ?c ?k
      (case a => k_is); (case l => k_is); (case c => k_is); (case k => k_is)
    have B : Qp.Bts mg := by
      refine' Qp.bts_in KX G ?z1 ?z2 ?z3 ?z4 ?z5 ?z6 ?z7 ?z8
      (case z1 => k_is); (case z2 => k_is); (case z3 => k_is); (case z4 => k_is); (case z5 => k_is); (case z6 => k_is); (case z7 => k_is); (case z8 => k_is)
    have m_enumerate : mg "enumerate" = none := by
      refine' PySem.W.mg_none_of KX G ?zA
      (case zA => k_is)
    have m_sorted : mg "sorted" = none := by
      refine' PySem.W.mg_none_of KX G ?zA
      (case zA => k_is)
    obtain ⟨tmLN, mLN⟩ : ∃ tk, mg "LONGEST_NAME" = some (.int 8 tk) := by
      refine' Qp.mg_int KX G ?z
      (case z => k_is)
    obtain ⟨tM, mM, hM⟩ : ∃ t, mg "MODES" = some (.ref t) ∧ Qp.TupW _ t Qp.modesW := by
      refine' Qp.tup_MODES KX G ?ta ?tl
      (case ta => k_is); (case tl => k_is)
    obtain ⟨S, ST, ⟨g1, gd1, a1, i1, h1, M1⟩, ⟨g2, gd2, a2, i2, M2⟩, ⟨g3, gd3, a3, i3, M3⟩, ⟨g4, gd4, a4, i4, M4⟩, ⟨g5, gd5, a5, i5, M5⟩, ⟨g6, gd6, a6, i6, M6⟩, ⟨g7, gd7, a7, i7, M7⟩⟩ : ∃ S, Qp.StTop31 _ mg S ∧ Qp.MtG _ S "__getitem__" "Setting.__getitem__" 8 ∧ Qp.MtS _ S "__setitem__" "Setting.__setitem__" 9 ∧ Qp.MtS _ S "__contains__" "Setting.__contains__" 11 ∧ Qp.MtS _ S "__len__" "Setting.__len__" 12 ∧ Qp.MtS _ S "__eq__" "Setting.__eq__" 18 ∧ Qp.MtS _ S "names" "Setting.names" 5 ∧ Qp.MtS _ S "duplicate" "Setting.duplicate" 7 := by
      refine' Qp.st_in31 KX G ?a ?pg ?hd ?po ?sa ?nm ?rd ?ga ?cO ?cD ?cN ?ca ?cn ?ct ?cm ?ty ?fO ?fD ?fN ?gO ?gD ?gN ?nq ?nb ?ini ?m1 ?m2 ?m3 ?m4 ?m5 ?m6 ?m7
      (case a => k_is); (case pg => k_is); (case hd => k_is); (case po => k_is); (case sa => k_is); (case nm => k_is); (case rd => k_is); (case ga => k_is); (case cO => k_is); (case cD => k_is); (case cN => k_is); (case ca => k_is); (case cn => k_is); (case ct => k_is); (case cm => k_is); (case ty => k_is); (case fO => k_is); (case fD => k_is); (case fN => k_is); (case gO => k_is); (case gD => k_is); (case gN => k_is); (case nq => k_is); (case nb => k_is)
      (case ini => (refine' Qp.si_in ?i_mk ?i_at ?i_fn ?i_kc ?i_l ?i_c ?i_D ?i_e; (case i_mk => k_is); (case i_at => k_is); (case i_fn => k_is); (case i_kc => k_is); (case i_l => k_is); (case i_c => k_is); (case i_D => k_is); (case i_e => k_is)))
      (case m1 => (refine' Qp.mG_in ?b1_a ?b1_f ?b1_h ?b1_k ?b1_l ?b1_c; (case b1_a => k_is); (case b1_f => k_is); (case b1_h => k_is); (case b1_k => k_is); (case b1_l => k_is); (case b1_c => k_is)))
      (case m2 => (refine' Qp.ms_in ?b2_a ?b2_f ?b2_k ?b2_l ?b2_c; (case b2_a => k_is); (case b2_f => k_is); (case b2_k => k_is); (case b2_l => k_is); (case b2_c => k_is)))
      (case m3 => (refine' Qp.ms_in ?b3_a ?b3_f ?b3_k ?b3_l ?b3_c; (case b3_a => k_is); (case b3_f => k_is); (case b3_k => k_is); (case b3_l => k_is); (case b3_c => k_is)))
      (case m4 => (refine' Qp.ms_in ?b4_a ?b4_f ?b4_k ?b4_l ?b4_c; (case b4_a => k_is); (case b4_f => k_is); (case b4_k => k_is); (case b4_l => k_is); (case b4_c => k_is)))
      (case m5 => (refine' Qp.ms_in ?b5_a ?b5_f ?b5_k ?b5_l ?b5_c; (case b5_a => k_is); (case b5_f => k_is); (case b5_k => k_is); (case b5_l => k_is); (case b5_c => k_is)))
      (case m6 => (refine' Qp.ms_in ?b6_a ?b6_f ?b6_k ?b6_l ?b6_c; (case b6_a => k_is); (case b6_f => k_is); (case b6_k => k_is); (case b6_l => k_is); (case b6_c => k_is)))
      (case m7 => (refine' Qp.ms_in ?b7_a ?b7_f ?b7_k ?b7_l ?b7_c; (case b7_a => k_is); (case b7_f => k_is); (case b7_k => k_is); (case b7_l => k_is); (case b7_c => k_is)))
    have b1 := F1.F.binds (ps := ["thing"]) fun _ _ _ _ _ _ us hl => match us, hl with | [_], _ => rfl
    have b2 := F2.F.binds (ps := ["things"]) fun _ _ _ _ _ _ us hl => match us, hl with | [_], _ => rfl
    have b3 := F3.F.binds (ps := ["names"]) fun _ _ _ _ _ _ us hl => match us, hl with | [_], _ => rfl
    have b4 := F4.F.binds (ps := ["mode"]) fun _ _ _ _ _ _ us hl => match us, hl with | [_], _ => rfl
    have b5 := F5.F.binds (ps := ["modes"]) fun _ _ _ _ _ _ us hl => match us, hl with | [_], _ => rfl
    have b6 := F6.F.binds (ps := ["pool", "many"]) fun _ _ _ _ _ _ us hl => match us, hl with | [_, _], _ => rfl
    have b7 := F7.F.binds (ps := ["on", "faint"]) fun _ _ _ _ _ _ us hl => match us, hl with | [_, _], _ => rfl
    have b8 := F8.F.binds (ps := ["script"]) fun _ _ _ _ _ _ us hl => match us, hl with | [_], _ => rfl
    have b9 := F9.F.binds (ps := ["pool", "many"]) fun _ _ _ _ _ _ us hl => match us, hl with | [_, _], _ => rfl
    have b10 := F10.F.binds (ps := ["actual", "due"]) fun _ _ _ _ _ _ us hl => match us, hl with | [_, _], _ => rfl
    have b11 := F11.F.binds (ps := ["setting", "modes", "names"]) fun _ _ _ _ _ _ us hl => match us, hl with | [_, _, _], _ => rfl
    have b12 := F12.F.binds (ps := ["pool"]) fun _ _ _ _ _ _ us hl => match us, hl with | [_], _ => rfl
    have b13 := F13.F.binds (ps := ["pool", "names"]) fun _ _ _ _ _ _ us hl => match us, hl with | [_, _], _ => rfl
    have b14 := F14.F.binds (ps := ["pool", "modes"]) fun _ _ _ _ _ _ us hl => match us, hl with | [_, _], _ => rfl
    have d1 := M1.binds (ps := ["self", "name"]) fun _ _ _ _ _ _ us hl => match us, hl with | [_, _], _ => rfl
    have d2 := M2.binds (ps := ["self", "name", "mode"]) fun _ _ _ _ _ _ us hl => match us, hl with | [_, _, _], _ => rfl
    have d3 := M3.binds (ps := ["self", "name"]) fun _ _ _ _ _ _ us hl => match us, hl with | [_, _], _ => rfl
    have d4 := M4.binds (ps := ["self"]) fun _ _ _ _ _ _ us hl => match us, hl with | [_], _ => rfl
    have d5 := M5.binds (ps := ["self", "other"]) fun _ _ _ _ _ _ us hl => match us, hl with | [_, _], _ => rfl
    have d6 := M6.binds (ps := ["self"]) fun _ _ _ _ _ _ us hl => match us, hl with | [_], _ => rfl
    have d7 := M7.binds (ps := ["self"]) fun _ _ _ _ _ _ us hl => match us, hl with | [_], _ => rfl
    have T := ST.T
    obtain ⟨fI, SI⟩ := ST.ini
    have e := hmg.symm.trans F15.m
    cases e
    obtain ⟨oc, od, kV, doc, pm, an, cdv, ct, osl, rfl, lk, hcd⟩ := F15.F.ex
    refine ⟨_, fun s v => .of_eq rfl, fun base _ _ => Qp.ok_law F15.F ?_⟩
    have gNm := Qp.ok_isname (P := PySem.Challenge.rw_quietprobes_k31_settings_made.prog) (w := w) (mg := mg) (base := base) (k := 0) F1.F B mLN
    have gC := Qp.ok_names0 F2.F gNm F1.m F1.F.kp b1
    have gU := Qp.ok_unlike0 (P := PySem.Challenge.rw_quietprobes_k31_settings_made.prog) (w := w) (mg := mg) (base := base) (k := 1) F3.F m_enumerate
    have gCM := Qp.ok_checkmode (P := PySem.Challenge.rw_quietprobes_k31_settings_made.prog) (w := w) (mg := mg) (base := base) (k := 0) F4.F mM hM
    have gK := Qp.ok_newK SI T gC F2.m F2.F.kp b2 gU F3.m F3.F.kp b3
    have g0 := Qp.ok_newP SI T gC F2.m F2.F.kp b2 gU F3.m F3.F.kp b3
    have gSO := Qp.ok_setof T F5.F SI.MK gK
    have q1 := Qp.ok_geti T M1 gC F2.m F2.F.kp b2
    have q2 := Qp.ok_seti T M2 gC F2.m F2.F.kp b2 gCM F4.m F4.F.kp b4
    have q3 := Qp.ok_scont (P := PySem.Challenge.rw_quietprobes_k31_settings_made.prog) (w := w) (mg := mg) (base := base) (k := 0) T B M3
    have q3d := Qp.ok_scontD (P := PySem.Challenge.rw_quietprobes_k31_settings_made.prog) (w := w) (mg := mg) (base := base) (k := 0) T B M3
    have q4 := Qp.ok_slen (P := PySem.Challenge.rw_quietprobes_k31_settings_made.prog) (w := w) (mg := mg) (base := base) (k := 0) T B M4
    have q5 := Qp.ok_eqs (P := PySem.Challenge.rw_quietprobes_k31_settings_made.prog) (w := w) (mg := mg) (base := base) (k := 0) T ST.CL B M5
    have q5t := Qp.ok_eqT (P := PySem.Challenge.rw_quietprobes_k31_settings_made.prog) (w := w) (mg := mg) (base := base) (k := 0) T ST.CL B M5
    have q6 := Qp.ok_nms (P := PySem.Challenge.rw_quietprobes_k31_settings_made.prog) (w := w) (mg := mg) (base := base) (k := 0) T m_sorted M6
    have q7 := Qp.ok_dup T M7 gSO F5.m F5.F.kp b5
    have IT : Qp.SIt _ w _ mg base S g1 := ⟨a1, h1, i1, Qp.fnR0 q1 d1⟩
    have SO : Qp.SSo _ w _ mg base S g2 := ⟨ST.nq, a2, i2, Qp.fnR0 q2 d2⟩
    have CO : Qp.SCo _ w _ mg base S g3 := ⟨a3, i3, Qp.fnR0 q3 d3⟩
    have COD : Qp.SCoD _ w _ mg base S g3 := ⟨a3, i3, Qp.fnR0 q3d d3⟩
    have LN : Qp.SLn _ w _ mg base S g4 := ⟨ST.nb, a4, i4, Qp.fnR0 q4 d4⟩
    have EQ : Qp.SEq _ w _ mg base S g5 := ⟨a5, i5, Qp.fnR0 q5 d5⟩
    have EQT : Qp.SEqT _ w _ mg base S g5 := ⟨a5, i5, Qp.fnR0 q5t d5⟩
    have MN : L2.Meth _ S "names" g6 := ⟨a6, i6, M6.kp⟩
    have MD : L2.Meth _ S "duplicate" g7 := ⟨a7, i7, M7.kp⟩
    have gP := Qp.ok_pool (P := PySem.Challenge.rw_quietprobes_k31_settings_made.prog) (w := w) (mg := mg) (base := base) (k := 0) F8.F B.list
    have gD := Qp.ok_draw (P := PySem.Challenge.rw_quietprobes_k31_settings_made.prog) (w := w) (mg := mg) (base := base) (k := 0) F6.F B.int
    have gL := Qp.ok_lnames F9.F gD F6.m F6.F.kp b6 B.range
    have gS := Qp.ok_same (P := PySem.Challenge.rw_quietprobes_k31_settings_made.prog) (w := w) (mg := mg) (base := base) F10.F B F10.m b10 4
    have gMd := Qp.ok_made T B F7.F SI.MK g0 gK
    have gO := Qp.ok_odd F12.F gD F6.m F6.F.kp b6
    have gCh := Qp.ok_chosen B F13.F gD F6.m F6.F.kp b6 gMd F7.m F7.F.kp b7
    have gLk := Qp.ok_like T B m_sorted F14.F SI.MK g0 SO gD F6.m F6.F.kp b6
    have gH := Qp.ok_holds T B m_sorted F11.F IT CO LN MN q6 d6 gS F10.m F10.F.kp b10
    exact { B := B, S := S, T := T, cO := ST.cO, cD := ST.cD, cN := ST.cN, ge := g5, EQ := EQ, EQT := EQT, gc := g3, CO := COD,
             fP := f8, fdP := fd8, GP := gP, mP := F8.m, kP := F8.F.kp, bP := b8,
             fL := f9, fdL := fd9, GL := gL, mL := F9.m, kL := F9.F.kp, bL := b9,
             fCh := f13, fdCh := fd13, GCh := gCh, mCh := F13.m, kCh := F13.F.kp, bCh := b13,
             fH := f11, fdH := fd11, GH := gH, mH := F11.m, kH := F11.F.kp, bH := b11,
             fLk := f14, fdLk := fd14, GLk := gLk, mLk := F14.m, kLk := F14.F.kp, bLk := b14,
             fO := f12, fdO := fd12, GO := gO, mO := F12.m, kO := F12.F.kp, bO := b12,
             fSm := f10, fdSm := fd10, GSm := gS, mSm := F10.m, kSm := F10.F.kp, bSm := b10,
             fU := g7, fdU := gd7, GU := q7, bU := d7, MU := MD }
