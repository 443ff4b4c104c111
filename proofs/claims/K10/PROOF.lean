import PyProof.Rows.All
import Wide.All
import OpenK.AllK
import Wide.FinOn
import HandS.ForMost
import HandS.Wide
import HandS.WordsExc
import HandS.ExcOwn
import HandS.Exc
import HandS.ExcIs
import HandS.ExcField
import HandS.ExcValue
import PyProof.ReprRoads
import HandS.IsInst
import KE.KExcIs
import HandS.Lambda
import HandS.Strs
import HandS.SortRule
import PyProof.TupleOfSeq
import PyProof.Rows.SortKeyStr
import HandS.EndTab
import HandS.Deep
import PyProof.Rows.CountFlat
import HandS.ExcInit
import HandS.DictComp
import HandS.Defaults
import HandS.Star
import KE.KDictPairs
import HandS.Style
import KE.SortKeyHeap
import HandS.Walk
import HandS.Iter
import HandS.ListItems
import HandS.TupAny
import HandS.HeadHook2
import PySem.Challenge.RW_onlyasked_k10_facts_as_objects
set_option Elab.async false
set_option linter.all false
set_option maxRecDepth 100000
set_option maxHeartbeats 4000000
namespace Kx
open PySem L2
def top (i : Nat) : Stmt := PySem.Challenge.pw_onlyasked_k10_facts_as_objects.main.body.getD i (.Pass ⟨0, 0, 0, 0⟩)
abbrev sPot : Stmt := top 11
abbrev sTake : Stmt := top 12
abbrev sOf : Stmt := top 13
/-! ### the pot -/
def pot (a b c : Int) : HO := .lst [.int a, .int b, .int c]
/-- the numbers of a pot, c at most n -/
structure PotI (a b c : Int) (n : Nat) : Prop where
  a0 : 0 ≤ a
  a1 : a.natAbs < 2 ^ 1000
  b0 : 0 ≤ b
  b1 : b < 2305843009213693952
  c0 : 0 ≤ c
  c1 : c ≤ (n : Int)
theorem PotI.mono {a b c : Int} {n m : Nat} (h : PotI a b c n) (k : n ≤ m) : PotI a b c m := ⟨h.a0, h.a1, h.b0, h.b1, h.c0, by have := h.c1; omega⟩
/-- all but what stands at l is kept -/
def Chg (l : Addr) (H H' : Hp) : Prop := ∀ b o, b ≠ l → H b = some o → H' b = some o
theorem Chg.refl {l : Addr} {H : Hp} : Chg l H H := fun _ _ _ h => h
theorem Chg.trans {l : Addr} {H H1 H2 : Hp} (a : Chg l H H1) (b : Chg l H1 H2) : Chg l H H2 := fun c o n h => b c o n (a c o n h)
theorem Chg.same {l : Addr} {H H' : Hp} (h : Same H H') : Chg l H H' := fun b o _ e => h b o e
theorem Chg.at_ {l : Addr} {H : Hp} {o : HO} : Chg l H (upd H l o) := fun b u n e => by rw [upd_ne n]; exact e
theorem Chg.new {l p : Addr} {H : Hp} {o : HO} (h : H p = none) : Chg l H (upd H p o) := fun b u _ e => by rw [upd_ne (ne_of_none e h)]; exact e
theorem Chg.seqL {K : PySem.W.Frag} {l a : Addr} {H H' : Hp} {xs : List V} (e : Chg l H H') (n : a ≠ l) (h : SqL K H a xs) : SqL K H' a xs := by
  rcases h with (h | ⟨o, h⟩) | h
  · exact .inl (.inl (e _ _ n h))
  · exact .inl (.inr ⟨o, e _ _ n h⟩)
  · exact .inr h
theorem Chg.seqT {K : PySem.W.Frag} {l a : Addr} {H H' : Hp} {xs : List V} (e : Chg l H H') (n : a ≠ l) (h : SqT K H a xs) : SqT K H' a xs := by
  rcases h with (h | ⟨o, h⟩) | h
  · exact .inl (.inl (e _ _ n h))
  · exact .inl (.inr ⟨o, e _ _ n h⟩)
  · exact .inr h
/-! ### promises -/
def spTake : Sp := fun vs H Q _ => ∃ (l : Addr) (a b c u : Int) (n : Nat), vs = [.ref l, .int u] ∧ H l = some (pot a b c) ∧ PotI a b c n ∧ n ≤ 1000000 ∧ 0 < u ∧ u < 1000000 ∧
  ∀ (d a' b' c' : Int) (H' : Hp), 0 ≤ d → d < u → Chg l H H' → H' l = some (pot a' b' c') → PotI a' b' c' (n + 1) → Q (.int d) H'
structure TxtN (K : PySem.W.Frag) (mg : Str → Option Value) : Prop where
  len : mg "len" = none
  abs : mg "abs" = none
  int : mg "int" = none
section
variable {P : Program} {w : World} {K : PySem.W.Frag} {mg : Str → Option Value} {base : Heap}
theorem scTake : FnScope ["pot", "upto", "digit", "prime", "mixed"] ["pot", "upto"] (defScope sTake) := ⟨rfl, rfl, rfl, by decide +kernel, rfl, by decide +kernel, by decide +kernel⟩
theorem ok_take {f : Addr} {fd : FuncData} (F : Fun K "_law_take" "_law_take" sTake f fd) (T : TxtN K mg) : FnOk P w K mg base CX0 1 f fd ["pot", "upto"] spTake := by
  refine F.ok scTake (fun vs H Q E h => ?_) (fun cdv A outer s H vs Q E hr h => ?_)
  · obtain ⟨l, a, b, c, u, n, rfl, _⟩ := h
    rfl
  · obtain ⟨l, a, b, c, u, n, rfl, hl, hp, hn, hu0, hu1, k⟩ := h
    refine ⟨_, pss_cons (ps_if (pt_cmpR op_gt (pe_ix ix_list (pv 0) pe_int (fun _ _ => rfl)) pe_int (nomark _))
        (pss_cons (ps_set (i := 2) scTake.nd rfl (Or.inl rfl) (pe_op op_mod (pe_callTy call_int1 (by rfl) T.int (by decide +kernel) (pa_cons (pe_ix ix_list (pv 0) pe_int (fun _ _ => rfl)) pa_nil)) (pv 1)))
        (pss_cons (ps_asg (pe_op op_fdivW (pe_ix ix_list (pv 0) pe_int (fun _ _ => rfl)) (pv 1)) (pg_sub (pv 0) pe_int set_list))
        (pss_one (ps_ret (pv 2))))) pss_nil)
      (pss_cons (ps_asg (pe_op op_add (pe_ix ix_list (pv 0) pe_int (fun _ _ => rfl)) pe_int) (pg_sub (pv 0) pe_int set_list))
      (pss_cons (ps_set (i := 3) scTake.nd rfl (Or.inl rfl) (pe_ix ix_list (pe_lst (pa_cons pe_int (pa_cons pe_int (pa_cons pe_int (pa_cons pe_int (pa_cons pe_int pa_nil)))))) (pe_op op_mod (pe_callTy call_int1 (by rfl) T.int (by decide +kernel) (pa_cons (pe_ix ix_list (pv 0) pe_int (fun _ _ => rfl)) pa_nil)) pe_int) (fun _ _ => rfl)))
      (pss_cons (ps_set (i := 4) scTake.nd rfl (Or.inl rfl) (pe_op op_mod (pe_op op_pow (pe_callTy call_int1 (by rfl) T.int (by decide +kernel) (pa_cons (pe_op op_add (pe_op op_add (pe_ix ix_list (pv 0) pe_int (fun _ _ => rfl)) (pe_op op_mul (pe_op op_mul pe_int (pe_ix ix_list (pv 0) pe_int (fun _ _ => rfl))) (pe_ix ix_list (pv 0) pe_int (fun _ _ => rfl)))) pe_int) pa_nil)) pe_int) (pv 3)))
      (pss_one (ps_ret (pe_op op_mod (pe_op op_fdiv (pe_op op_mod (pe_callTy call_int1 (by rfl) T.int (by decide +kernel) (pa_cons (pe_op op_mul (pv 4) (pe_op op_add (pe_op op_mod (pe_callTy call_int1 (by rfl) T.int (by decide +kernel) (pa_cons (pv 4) pa_nil)) pe_int) (pe_op op_mul pe_int (pe_ix ix_list (pv 0) pe_int (fun _ _ => rfl))))) pa_nil)) pe_int) pe_int) (pv 1))))))), ?_⟩
    have hq : SqL K H l [.int a, .int b, .int c] := SqL.of hl
    have g0 : atI [V.int a, V.int b, V.int c] 0 = some (V.int a) := by rfl
    refine ⟨_, rfl, l, _, _, _, rfl, rfl, hq, g0, a, 0, rfl, rfl, _, rfl, ?_⟩
    refine ite2 (fun c1 => ?_) (fun c1 => ?_)
    · have ha : 0 < a := of_decide_eq_true c1
      refine ⟨_, rfl, l, _, _, _, rfl, rfl, hq, g0, .inl ⟨_, rfl, _, rfl, _, _, rfl, rfl, hu0, ?_⟩⟩
      refine ⟨_, rfl, l, _, _, _, rfl, rfl, hq, g0, _, rfl, _, _, rfl, rfl, wide_div (b := 30) hu0 (by omega) (by decide) (by decide), ?_⟩
      refine ⟨_, rfl, l, [V.int a, V.int b, V.int c], 0, 0, rfl, rfl, hl, rfl, ?_⟩
      refine ⟨_, rfl, ?_⟩
      refine k _ (a / u) b c _ (Int.emod_nonneg _ (by omega)) (Int.emod_lt_of_pos _ hu0) Chg.at_ upd_same ⟨Int.ediv_nonneg hp.a0 (by omega), ?_, hp.b0, hp.b1, hp.c0, by have := hp.c1; omega⟩
      have h1 : (a / u).natAbs ≤ a.natAbs := by
        have h0 := hp.a0
        have h2 : a / u ≤ a := Int.ediv_le_self u h0
        have h3 : 0 ≤ a / u := Int.ediv_nonneg h0 (by omega)
        omega
      exact Nat.lt_of_le_of_lt h1 hp.a1
    · have g1 : ∀ z, atI [V.int a, V.int b, V.int z] 1 = some (V.int b) := fun _ => by rfl
      have g2 : ∀ z, atI [V.int a, V.int b, V.int z] 2 = some (V.int z) := fun _ => by rfl
      have hc0 := hp.c0
      have hc1 := hp.c1
      have hb0 := hp.b0
      have hb1 := hp.b1
      -- pot[2] = pot[2] + 1
      refine ⟨_, rfl, l, _, _, _, rfl, rfl, hq, g2 c, _, _, rfl, rfl, _, rfl, l, [V.int a, V.int b, V.int c], 2, 2, rfl, rfl, hl, rfl, ?_⟩
      have hl1 : (upd H l (pot a b (c + 1))) l = some (pot a b (c + 1)) := upd_same
      have hq1 : SqL K (upd H l (pot a b (c + 1))) l [.int a, .int b, .int (c + 1)] := SqL.of hl1
      -- prime = [..][int(pot[2]) % 5]
      refine ⟨(by decide), fun p hpn => ?_⟩
      have nlp : l ≠ p := ne_of_none hl1 hpn
      have hq2 : SqL K (upd (upd H l (pot a b (c + 1))) p (.lst [.int 2147483647, .int 2147483629, .int 2147483587, .int 2147483579, .int 2147483563])) l [.int a, .int b, .int (c + 1)] := SqL.of (by rw [upd_ne nlp]; exact hl1)
      have g1 := g1 (c + 1)
      have g2 := g2 (c + 1)
      have hm0 : 0 ≤ (c + 1) % 5 := Int.emod_nonneg _ (by decide)
      have hm1 : (c + 1) % 5 < 5 := Int.emod_lt_of_pos _ (by decide)
      obtain ⟨pr, hpr, hpr0, hpr1⟩ : ∃ pr : Int, atI [V.int 2147483647, V.int 2147483629, V.int 2147483587, V.int 2147483579, V.int 2147483563] ((c + 1) % 5) = some (V.int pr) ∧ 0 < pr ∧ pr < 2147483648 := by
        have : (c + 1) % 5 = 0 ∨ (c + 1) % 5 = 1 ∨ (c + 1) % 5 = 2 ∨ (c + 1) % 5 = 3 ∨ (c + 1) % 5 = 4 := by omega
        rcases this with e | e | e | e | e <;> rw [e]
        · exact ⟨_, rfl, by decide, by decide⟩
        · exact ⟨_, rfl, by decide, by decide⟩
        · exact ⟨_, rfl, by decide, by decide⟩
        · exact ⟨_, rfl, by decide, by decide⟩
        · exact ⟨_, rfl, by decide, by decide⟩
      refine ⟨_, rfl, l, _, _, _, rfl, rfl, hq2, g2, .inl ⟨_, rfl, _, _, rfl, rfl, by show (0 : Int) < 5; decide, p, _, _, _, rfl, rfl, SqL.of upd_same, hpr, ?_⟩⟩
      -- mixed = int(..) ** 3 % prime
      have hcc : 0 ≤ (c + 1) * (c + 1) := Int.mul_nonneg (by omega) (by omega)
      have hcc2 : (c + 1) * (c + 1) ≤ 1000001 * 1000001 := Int.mul_le_mul (by omega) (by omega) (by omega) (by decide)
      have hk1 : 60017 * (c + 1) * (c + 1) = 60017 * ((c + 1) * (c + 1)) := Int.mul_assoc _ _ _
      have hk2 : 0 ≤ 60017 * (c + 1) := by omega
      refine ⟨_, rfl, l, _, _, _, rfl, rfl, hq2, g1, _, rfl, l, _, _, _, rfl, rfl, hq2, g2, _, _, rfl, rfl, .inl (by constructor <;> decide), _, rfl, l, _, _, _, rfl, rfl, hq2, g2, _, _, rfl, rfl, .inl ⟨by omega, by omega⟩, _, _, rfl, rfl, _, _, rfl, rfl, .inl ⟨_, rfl, _, _, rfl, rfl, ⟨by decide, by decide, by show (b + 60017 * (c + 1) * (c + 1) + 37).natAbs < 2 ^ 64; rw [hk1]; omega⟩, _, rfl, _, _, rfl, rfl, hpr0, ?_⟩⟩
      have hx0 : 0 ≤ (b + 60017 * (c + 1) * (c + 1) + 37) ^ (3 : Int).toNat % pr := Int.emod_nonneg _ (by omega)
      have hx1 : (b + 60017 * (c + 1) * (c + 1) + 37) ^ (3 : Int).toNat % pr < pr := Int.emod_lt_of_pos _ hpr0
      have hx2 : -(2 ^ 64) < (b + 60017 * (c + 1) * (c + 1) + 37) ^ (3 : Int).toNat % pr ∧ (b + 60017 * (c + 1) * (c + 1) + 37) ^ (3 : Int).toNat % pr < 2 ^ 64 := ⟨by omega, by omega⟩
      refine ⟨_, rfl, _, rfl, .inl ⟨_, rfl, _, _, rfl, rfl, by show (0 : Int) < 10007; decide, _, rfl, l, _, _, _, rfl, rfl, hq2, g2, _, _, rfl, rfl, .inl (by constructor <;> decide), _, _, rfl, rfl, _, _, rfl, rfl, .inl hx2, .inl ⟨_, rfl, _, _, rfl, rfl, by show (0 : Int) < 2305843009213693951; decide, _, _, rfl, rfl, ⟨by decide, by decide⟩, _, rfl, _, _, rfl, rfl, hu0, ?_⟩⟩⟩
      refine k _ a b (c + 1) _ (Int.emod_nonneg _ (by omega)) (Int.emod_lt_of_pos _ hu0) (Chg.trans Chg.at_ (Chg.new hpn)) (by rw [upd_ne nlp]; exact hl1) ⟨hp.a0, hp.a1, hp.b0, hp.b1, by omega, by omega⟩
def spOf (K : PySem.W.Frag) : Sp := fun vs H Q _ => ∃ (l s : Addr) (a b c : Int) (xs : List V) (n : Nat), vs = [.ref l, .ref s] ∧ H l = some (pot a b c) ∧ PotI a b c n ∧ n ≤ 1000000 ∧ SqL K H s xs ∧ s ≠ l ∧ 0 < xs.length ∧ xs.length < 1000000 ∧
  ∀ (i : Nat) (x : V) (a' b' c' : Int) (H' : Hp), xs[i]? = some x → Chg l H H' → H' l = some (pot a' b' c') → PotI a' b' c' (n + 1) → Q x H'
theorem scOf : FnScope ["pot", "some"] ["pot", "some"] (defScope sOf) := ⟨rfl, rfl, rfl, by decide +kernel, rfl, by decide +kernel, by decide +kernel⟩
theorem ok_of {f fT : Addr} {fd fdT : FuncData} (F : Fun K "_law_of" "_law_of" sOf f fd) (T : TxtN K mg) (G : FnOk P w K mg base CX0 1 fT fdT ["pot", "upto"] spTake) (gT : mg "_law_take" = some (.ref fT)) (kT : PySem.W.keepIn K (.ref fT) = true) (bT : Binds K fdT ["pot", "upto"] []) : FnOk P w K mg base CX0 2 f fd ["pot", "some"] (spOf K) := by
  refine F.ok scOf (fun vs H Q E h => ?_) (fun cdv A outer s H vs Q E hr h => ?_)
  · obtain ⟨l, z, a, b, c, xs, n, rfl, _⟩ := h
    rfl
  · obtain ⟨l, z, a, b, c, xs, n, rfl, hl, hp, hn, hs, ne, hx0, hx1, k⟩ := h
    refine ⟨_, pss_one (ps_ret (pe_ix ix_list (pv 1) (pe_call G hr rfl gT kT bT .nil pass0 (pa_cons (pv 0) (pa_cons (pe_callB call_len_seq (by rfl) T.len PySem.boot_len (pa_cons (pv 1) pa_nil)) pa_nil))) (fun _ _ => rfl))), ?_⟩
    refine ⟨_, rfl, _, rfl, _, rfl, z, xs, rfl, .inl hs, l, a, b, c, (xs.length : Int), n, rfl, hl, hp, hn, by omega, by omega, fun d a' b' c' H' d0 d1 ch hl' hp' => ?_⟩
    obtain ⟨j, rfl⟩ : ∃ j : Nat, d = (j : Int) := ⟨d.toNat, by omega⟩
    have hj : j < xs.length := by omega
    exact ⟨z, xs, _, xs[j], rfl, rfl, ch.seqL ne hs, atI_nat (List.getElem?_eq_getElem hj), k j _ a' b' c' H' (List.getElem?_eq_getElem hj) ch hl' hp'⟩
/-- the pot of a cell: its numbers are some pot's -/
def spPot (K : PySem.W.Frag) : Sp := fun vs H Q _ => ∃ (a : Addr) (ns : List Int) (k : Int), vs = [.ref a, .int k] ∧ SqL K H a (ns.map V.int) ∧ ns.length ≤ 1000 ∧ 0 ≤ k ∧ k ≤ 1000 ∧
  ∀ (l : Addr) (x y : Int) (H' : Hp), H l = none → Same H H' → H' l = some (pot x y 0) → PotI x y 0 0 → Q (.ref l) H'
theorem op_powW {X : Cx} : OpR X (binaryOp .Pow) (rI (fun i j => 0 ≤ j ∧ (Builtin.Int.intBits i : Int) * j ≤ 2 ^ 27) fun i j => .int (i ^ j.toNat)) := opI fun _ _ _ _ _ _ _ hc q => PyProof.Rows.pow_int hc.1 hc.2 q
theorem scPot : FnScope ["script", "k", "cell", "own"] ["script", "k"] (defScope sPot) := ⟨rfl, rfl, rfl, by decide +kernel, rfl, by decide +kernel, by decide +kernel⟩
theorem big_b : Builtin.Int.intBits (10 ^ 60) = 200 := by decide +kernel
theorem big_p : ((10 : Int) ^ 60) ^ 5 = 10 ^ 300 := by rw [← Int.pow_mul]
theorem big_n : ((10 : Int) ^ 300).natAbs < 2 ^ 1000 := by decide +kernel
theorem ok_pot {f : Addr} {fd : FuncData} (F : Fun K "_law_pot_of" "_law_pot_of" sPot f fd) (T : TxtN K mg) : FnOk P w K mg base CX0 1 f fd ["script", "k"] (spPot K) := by
  refine F.ok scPot (fun vs H Q E h => ?_) (fun cdv A outer s H vs Q E hr h => ?_)
  · obtain ⟨a, ns, k, rfl, _⟩ := h
    rfl
  · obtain ⟨a, ns, k, rfl, hS, hlen, k0, k1, q⟩ := h
    refine ⟨_, pss_cons (ps_set (i := 2) scPot.nd rfl (Or.inl rfl) (pe_ifExp (pt_cmpR op_lt (pv 1) (pe_callB call_len_seq (by rfl) T.len PySem.boot_len (pa_cons (pv 0) pa_nil)) (nomark _)) (pe_ix ix_list (pv 0) (pv 1) (fun _ _ => rfl)) (pe_op op_add (pe_op op_mul pe_int (pv 1)) pe_int)))
      (pss_cons (ps_set (i := 3) scPot.nd rfl (Or.inl rfl) (pe_op op_mul (pe_op op_mod (pe_callTy call_int1 (by rfl) T.int (by decide +kernel) (pa_cons (pe_callB call_abs (by rfl) T.abs (by decide +kernel) (pa_cons (pv 2) pa_nil)) pa_nil)) (pe_op op_powW (pe_op op_pow pe_int pe_int) pe_int))
        (pe_callTy call_int1 (by rfl) T.int (by decide +kernel) (pa_cons (pe_cmpR op_ge (pe_callB call_abs (by rfl) T.abs (by decide +kernel) (pa_cons (pv 2) pa_nil)) (pe_op op_pow pe_int pe_int) (nomark _)) pa_nil))))
      (pss_one (ps_ret (pe_lst (pa_cons (pv 3) (pa_cons (pe_op op_mod (pe_op op_add (pe_op op_add (pe_op op_mul (pe_op op_mod (pe_callTy call_int1 (by rfl) T.int (by decide +kernel) (pa_cons (pv 2) pa_nil)) pe_int) pe_int) (pe_op op_mul (pe_op op_mul pe_int (pv 1)) (pv 1))) pe_int) pe_int) (pa_cons pe_int pa_nil))))))), ?_⟩
    refine ⟨_, rfl, _, rfl, a, _, rfl, .inl hS, k, _, rfl, rfl, _, rfl, ?_⟩
    have own : ∀ z : Int, 0 ≤ z % ((10 ^ (60 : Int).toNat) ^ (5 : Int).toNat) ∧ z % ((10 ^ (60 : Int).toNat) ^ (5 : Int).toNat) < 10 ^ 300 := fun z => by
      rw [show ((10 : Int) ^ (60 : Int).toNat) ^ (5 : Int).toNat = 10 ^ 300 from big_p]
      exact ⟨Int.emod_nonneg _ (by decide +kernel), Int.emod_lt_of_pos _ (by decide +kernel)⟩
    have kk2 : 5003 * k * k = 5003 * (k * k) := Int.mul_assoc _ _ _
    have one : ∀ c : Bool, -(2 ^ 64) < (if c = true then (1 : Int) else 0) ∧ (if c = true then (1 : Int) else 0) < 2 ^ 64 := fun c => by cases c <;> decide
    have ownB : ∀ (z : Int) (c : Bool), 0 ≤ z % ((10 ^ (60 : Int).toNat) ^ (5 : Int).toNat) * (if c = true then 1 else 0) ∧ (z % ((10 ^ (60 : Int).toNat) ^ (5 : Int).toNat) * (if c = true then 1 else 0)).natAbs < 2 ^ 1000 := fun z c => by
      obtain ⟨h1, h2⟩ := own z
      have h3 : (z % ((10 ^ (60 : Int).toNat) ^ (5 : Int).toNat)).natAbs < 2 ^ 1000 := Nat.lt_trans (by omega : _ < ((10 : Int) ^ 300).natAbs) big_n
      cases c with
      | true => simp only [if_true, Int.mul_one]; exact ⟨h1, h3⟩
      | false => simp only [Bool.false_eq_true, if_false, Int.mul_zero]; exact ⟨Int.le_refl _, by decide +kernel⟩
    have fin : ∀ (z : Int) (c : Bool), tRet (tLst (tCons (tVar 3) (tCons (tOp (rI (fun x j => 0 < j) fun i j => V.int (i % j)) (tOp (rI0 fun i j => V.int (i + j)) (tOp (rI0 fun i j => V.int (i + j)) (tOp (rI CMul fun i j => V.int (i * j)) (tOp (rI (fun x j => 0 < j) fun i j => V.int (i % j))
        (tCB (fun xs H Q => (∃ i, xs = [V.int i] ∧ Q (V.int i) H) ∨ ∃ k, xs = [V.bl k] ∧ Q (V.int (if k = true then 1 else 0)) H) (tCons (tVar 2) tNil)) (tC (V.int 2305843009213693951))) (tC (V.int 70177))) (tOp (rI CMul fun i j => V.int (i * j)) (tOp (rI CMul fun i j => V.int (i * j)) (tC (V.int 5003)) (tVar 1)) (tVar 1))) (tC (V.int 23))) (tC (V.int 2305843009213693921))) (tCons (tC (V.int 0)) tNil))))
        { nx := fun _ H' => Q V.non H', rt := Q } [some (V.ref a), some (V.int k), some (V.int z), some (V.int ((if z < 0 then -z else z) % ((10 ^ (60 : Int).toNat) ^ (5 : Int).toNat) * (if c = true then 1 else 0)))] H := fun z c => by
      have hz0 : 0 ≤ z % 2305843009213693951 := Int.emod_nonneg _ (by decide)
      have hz1 : z % 2305843009213693951 < 2305843009213693951 := Int.emod_lt_of_pos _ (by decide)
      refine ⟨_, rfl, _, rfl, .inl ⟨_, rfl, _, _, rfl, rfl, by show (0 : Int) < 2305843009213693951; decide, _, _, rfl, rfl, .inr (by constructor <;> decide), _, rfl, _, _, rfl, rfl, .inl (by constructor <;> decide), _, rfl, _, _, rfl, rfl, .inl ⟨by omega, by omega⟩, _, _, rfl, rfl, _, _, rfl, rfl, _, _, rfl, rfl, by show (0 : Int) < 2305843009213693921; decide, by show 3 ≤ sizeLine; decide, fun p hp => ?_⟩⟩
      obtain ⟨o1, o2⟩ := ownB (if z < 0 then -z else z) c
      exact q p _ _ _ hp (fun b o e => by rw [upd_ne (ne_of_none e hp)]; exact e) upd_same ⟨o1, o2, Int.emod_nonneg _ (by decide), Int.lt_trans (Int.emod_lt_of_pos _ (by decide)) (by decide), by decide, by decide⟩
    refine ite2 (fun c1 => ?_) (fun c1 => ?_)
    · have hk : k < ((ns.map V.int).length : Int) := of_decide_eq_true c1
      obtain ⟨j, rfl⟩ : ∃ j : Nat, k = (j : Int) := ⟨k.toNat, by omega⟩
      rw [List.length_map] at hk
      have hj : j < ns.length := by omega
      have hz : atI (ns.map V.int) (j : Int) = some (V.int ns[j]) := atI_nat (by rw [List.getElem?_map, List.getElem?_eq_getElem hj]; rfl)
      refine ⟨_, rfl, _, rfl, a, _, _, _, rfl, rfl, hS, hz, ?_⟩
      generalize ns[j] = z
      refine ⟨_, rfl, _, rfl, .inl ⟨_, rfl, _, _, rfl, rfl, ⟨by decide, by decide, by decide⟩, _, _, rfl, rfl, ⟨by decide, by show (Builtin.Int.intBits (10 ^ 60) : Int) * 5 ≤ 2 ^ 27; rw [big_b]; decide⟩, _, _, rfl, rfl, by show (0 : Int) < (10 ^ (60 : Int).toNat) ^ (5 : Int).toNat; decide +kernel, ?_⟩⟩
      refine ⟨_, rfl, _, rfl, _, _, rfl, rfl, ⟨by decide, by decide, by decide⟩, _, _, rfl, rfl, .inr ⟨_, rfl, _, _, rfl, rfl, .inr (one _), ?_⟩⟩
      exact fin z _
    · refine ⟨_, rfl, _, _, rfl, rfl, .inl (by constructor <;> decide), _, _, rfl, rfl, ?_⟩
      refine ⟨_, rfl, _, rfl, .inl ⟨_, rfl, _, _, rfl, rfl, ⟨by decide, by decide, by decide⟩, _, _, rfl, rfl, ⟨by decide, by show (Builtin.Int.intBits (10 ^ 60) : Int) * 5 ≤ 2 ^ 27; rw [big_b]; decide⟩, _, _, rfl, rfl, by show (0 : Int) < (10 ^ (60 : Int).toNat) ^ (5 : Int).toNat; decide +kernel, ?_⟩⟩
      refine ⟨_, rfl, _, rfl, _, _, rfl, rfl, ⟨by decide, by decide, by decide⟩, _, _, rfl, rfl, .inr ⟨_, rfl, _, _, rfl, rfl, .inr (one _), ?_⟩⟩
      exact fin (29 * k + 11) _
end
end Kx
namespace Vx
open PySem PySem.Spec PyProof.Rows L2
/-! ### a caught exception that is kept -/
/-- an exception object of the class cls, its dict d, at a -/
def ExV (cls : Value) (d : Option Addr) (a : Addr) : HO := .ext fun h => ∃ (oe : Obj) (vs : Array Value), h.get? a = some oe ∧ Zc cls d oe ∧ oe.data = .fields vs
theorem exV_ok {P : Program} {w : World} {H : Hp} {h : Heap} {a : Addr} {cls : Value} {d : Option Addr} {oe : Obj} {vs : Array Value} (e : h.get? a = some oe) (z : Zc cls d oe) (dt : oe.data = .fields vs) : ObjOk P w H h a (ExV cls d a) :=
  ⟨⟨oe, vs, e, z, dt⟩, ⟨oe, e⟩, fun _ _ ⟨o, v, q, r⟩ k => ⟨o, v, k o q, r⟩⟩
section
variable {X : Cx} {pins : List (Addr × Obj)} {σ : L2.St} {H : Hp} {s : Shared}
/-- a pinned object that was not there at the entry is tracked from now on -/
theorem Inv.adopt {a : Addr} {oe : Obj} {vs : Array Value} {cls : Value} {d : Option Addr} (I : Inv (X.suite a ((a, oe) :: (X.pn ++ pins))) [] σ H s) (ok : X.Ok) (hz : Zc cls d oe) (hd : oe.data = .fields vs)
    (n0 : X.s_0.heap.get? a = none) (np : ∀ p ∈ X.pn ++ pins, p.1 ≠ a) : Inv X pins σ (upd H a (ExV cls d a)) s := by
  obtain ⟨ha, hn, nL, nF, ncell⟩ := I.pin (a, oe) (List.mem_append_left _ List.mem_cons_self)
  have J := I.unsuite ok
  have ne0 : ∀ b o, X.s_0.heap.get? b = some o → b ≠ a := fun b o e z => by
    rw [z, n0] at e
    cases e
  have neS : ∀ b o, H b = some o → b ≠ a := fun b o e => ne_of_none e hn
  refine ⟨J.ok, J.os, J.bare, ⟨J.base.keep, J.base.slot, fun b o e n hx => ?_, J.base.there, fun b xs e => ?_, fun b o u e => ?_, fun b ps e => ?_⟩, J.loc, J.cell, ?_, fun x c e => ?_, fun p hp => ?_, ?_, J.len⟩
  · rw [upd_ne (ne0 b o e)]
    exact J.base.free b o e n hx
  · have q := J.base.tups b xs e
    rw [upd_ne (neS b _ q)]
    exact q
  · have q := J.base.frzs b o u e
    rw [upd_ne (neS b _ q)]
    exact q
  · obtain ⟨m, q⟩ := J.base.tbls b ps e
    exact ⟨m, by rw [upd_ne (neS b _ q)]; exact q⟩
  · rw [upd_ne (Ne.symm nL)]
    exact J.free
  · have nc : c ≠ a := fun z => by
      obtain ⟨v, o, ho, hcd⟩ := J.cell x c e
      rw [z, ha] at ho
      cases ho
      exact ncell _ hcd
    rw [upd_ne nc]
    exact J.freeC x c e
  · obtain ⟨e, n, r⟩ := J.pin p hp
    exact ⟨e, by rw [upd_ne (np p hp)]; exact n, r⟩
  · exact HOk.laidN J.hok (fun _ _ e => e) hn (exV_ok ha hz hd)
end
/-- what «except x as n» wishes of an exception of the body, the exception being kept behind the suite's end -/
def wKeep (K : PySem.W.Frag) (c : Value) (i : Nat) (ts : Addr → Value → Option Addr → TS) (Wout : WX) (D : Ends) : WX := fun cls d σ H =>
  ∃ b, PySem.W.exmOne K cls c = some b ∧ (b = true → ∀ a, H a = none → ts a cls d { nx := fun σ' H' => H' a = none → D.nx (σ'.set i none) (upd H' a (ExV cls d a)), rt := D.rt, bk := fun σ' H' => D.bk (σ'.set i none) H', ct := fun σ' H' => D.ct (σ'.set i none) H' } (σ.set i (some (.ref a))) H) ∧
    (b = false → Wout cls d σ H)
/-- a at rest: an exception that nothing of X holds, in a state that keeps the promise of X -/
structure Rest (X : Cx) (pins : List (Addr × Obj)) (σ : L2.St) (H : Hp) (s : Shared) (a : Addr) (cls : Value) (d : Option Addr) (oe : Obj) (vs : Array Value) : Prop where
  inv : Inv X pins σ H s
  at_ : s.heap.get? a = some oe
  kind : Zc cls d oe
  data : oe.data = .fields vs
  free : H a = none
  loc : a ≠ X.env.locals
  frm : a ∉ X.fs
  new : X.s_0.heap.get? a = none
  pin : ∀ p ∈ X.pn ++ pins, p.1 ≠ a
section
variable {X : Cx} {pins : List (Addr × Obj)} {σ : L2.St} {H : Hp} {a : Addr} {cls : Value} {d : Option Addr} {B : Heap}
/-- what an exception of X is when it has come down -/
theorem Rest.of (hex : X.ex = []) (hs : X.stack = X.env :: X.outer) (hf : X.env.frame = some X.env.locals) {sI s : Shared} (J : Inv X pins σ H sI) (nb : ∀ b o, sI.heap.get? b = some o → b ∉ frs X.stack → B.get? b = some o)
    (na : H a = none) {h : Heap} (fl : HandSPX.FlyingZ B (X.env :: X.outer) a (Zc cls d) h) (up : sI.heap.UpToSlots h) (os : s.os = sI.os) (ag : AllBare s.gens) : ∃ oe vs, Rest X pins σ H { s with heap := h } a cls d oe vs := by
  obtain ⟨oe, vs, he, hz, hd⟩ := fl.there
  have out : a ∉ frs (X.env :: X.outer) := fun hm => by
    obtain ⟨_, o, e, k⟩ := fl.2.2.1.mem hm
    cases he.symm.trans e
    exact k _ hd
  have toB : ∀ b o, sI.heap.get? b = some o → b ≠ a := fun b o e z => by
    subst z
    cases (fl.2.1).symm.trans (nb b o e (by rw [hs]; exact out))
  exact ⟨oe, vs, J.landed nb fl.1 up os ag, he, hz, hd, na,
    fun z => out (List.mem_filterMap.mpr ⟨_, .head _, by rw [hf, z]⟩),
    fun hm => by
      obtain ⟨e, m, q⟩ := List.mem_filterMap.mp hm
      exact out (List.mem_filterMap.mpr ⟨e, .tail _ m, q⟩),
    by
      cases e : X.s_0.heap.get? a with
      | none => rfl
      | some o =>
        obtain ⟨o', e'⟩ := J.base.there a o e (by rw [hex]; simp)
        exact absurd rfl (toB a o' e'),
    fun p hp => toB p.1 p.2 (J.pin p hp).1⟩
end
section
variable {X : Cx} {x n : Str} {c : Value} {i : Nat} {suite : List Stmt} {b₀ : Stmt} {np pos pos' : Pos} {ts : Addr → Value → Option Addr → TS} {Wout : WX} {pins : List (Addr × Obj)} {σ : L2.St} {H : Hp} {s : Shared} {a : Addr} {cls : Value} {d : Option Addr} {oe : Obj} {vs : Array Value}
/-- the name of the clause is looked up beside a resting exception -/
theorem Rest.name (R : Rest X pins σ H s a cls d oe vs) (hc : Names X x c) {Q E : Value → Shared → Prop} (q : Q c s) : wpAny (model X.prog X.w) (X.A.mark (some (.ref a))) (eval (.Name x np) X.env) Q E s := by
  have S := R.inv.suite R.at_ R.data R.free R.loc R.frm
  rcases hc with ⟨hg, hd, hm | ⟨hm, hv, hn⟩⟩
  · exact ld_glob S hg hm q hd
  · exact ld_blt S hg hm hv q hn hd
/-- the suite beside a resting exception, and the end of its name -/
theorem Rest.runs (R : Rest X pins σ H s a cls d oe vs) (hN : X.N.Nodup) (hi : X.N[i]? = some n) (hln : X.env.kindOf n = some .local) {D : Ends} {P : Flow → Shared → Prop} {E₁ E₂ : Value → Shared → Prop}
    (hP : ∀ f s6, wpAny (model X.prog X.w) X.A (do bindName X.env n .none; unbindBehindTheSuite X.env n pos') (fun _ s7 => SP X pins D f s7) X.xe s6 → P f s6)
    (hsu : PSs (X.suite a ((a, oe) :: (X.pn ++ pins))) (b₀ :: suite) (ts a cls d))
    (h : ts a cls d { nx := fun σ' H' => H' a = none → D.nx (σ'.set i none) (upd H' a (ExV cls d a)), rt := D.rt, bk := fun σ' H' => D.bk (σ'.set i none) H', ct := fun σ' H' => D.ct (σ'.set i none) H' } (σ.set i (some (.ref a))) H) :
    wpAny (model X.prog X.w) (X.A.mark (some (.ref a))) (storeName X.env n (.ref a)) (fun _ s5 => wpAny (model X.prog X.w) (X.A.mark (some (.ref a))) (execs (b₀ :: suite) X.env) P E₁ s5) E₂ s := by
  have ok := R.inv.ok
  have S := R.inv.suite R.at_ R.data R.free R.loc R.frm
  have gone : ∀ {σ6 : L2.St} {H6 : Hp} {s6 : Shared} {Q : Shared → Prop}, Inv X pins σ6 H6 s6 → (∀ s7, Inv X pins (σ6.set i none) H6 s7 → Q s7) → wpAny (model X.prog X.w) X.A (do bindName X.env n .none; unbindBehindTheSuite X.env n pos') (fun _ s7 => Q s7) X.xe s6 :=
    fun J q => gone_ok J hN hi hln q
  refine store_ok (X := X.suite a ((a, oe) :: (X.pn ++ pins))) (v := .ref a) S hN hi (.inl hln) rfl (fun s5 S5 => ?_) (.inr hln)
  refine wpAny_mono (hsu.run [] s5 _ H _ S5 h) (fun f s6 q => hP f s6 ?_) (fun _ _ z => z.elim)
  rcases f with _ | _ | _ | u
  · obtain ⟨σ6, H6, S6, k⟩ := q
    exact gone (Inv.adopt S6 ok R.kind R.data R.new R.pin) fun s7 J => ⟨_, _, J, k (S6.pin _ (List.mem_append_left _ (.head _))).2.1⟩
  · obtain ⟨σ6, H6, S6, k⟩ := q
    exact gone (S6.unsuite ok) fun s7 J => ⟨_, _, J, k⟩
  · obtain ⟨σ6, H6, S6, k⟩ := q
    exact gone (S6.unsuite ok) fun s7 J => ⟨_, _, J, k⟩
  · obtain ⟨v, σ6, H6, S6, r, k⟩ := q
    exact gone (S6.unsuite ok) fun s7 J => ⟨v, _, _, J, r, k⟩
end
section
variable {X : Cx} {x n : Str} {c : Value} {i : Nat} {body suite : List Stmt} {b₀ : Stmt} {np pos pos' : Pos} {tb : WX → TS} {ts : Addr → Value → Option Addr → TS} {Wout : WX}
/-- try: body / except x as n: suite, the exception being kept -/
theorem ps_try_keep (hex : X.ex = []) (hs : X.stack = X.env :: X.outer) (hf : X.env.frame = some X.env.locals) (hN : X.N.Nodup) (hi : X.N[i]? = some n) (hln : X.env.kindOf n = some .local) (hc : Names X x c) (tk : Takes X Wout)
    (hb : ∀ (W : WX) (pn : List (Addr × Obj)) (xe : Value → Shared → Prop), Takes (X.tr pn xe) W → PassesOwn (model X.prog X.w) X.A X.env xe → PSs (X.tr pn xe) body (tb W))
    (hsu : ∀ (a : Addr) (oe : Obj) (cls : Value) (d : Option Addr) (pn : List (Addr × Obj)), Zc cls d oe → (∃ vs, oe.data = .fields vs) → PSs (X.suite a ((a, oe) :: pn)) (b₀ :: suite) (ts a cls d)) :
    PS X (.Try body [.ExceptHandler (some (.Name x np)) (some n) (b₀ :: suite) pos'] [] [] pos) (fun D σ H => tb (wKeep X.K c i ts Wout D) D σ H) := by
  constructor
  intro pins s σ H D I h
  have ok := I.ok
  refine wpAny_Try_except (wpAny_mono ((hb (wKeep X.K c i ts Wout D) (X.pn ++ pins) (fun e s₁ => wpAny (model X.prog X.w) X.A (noteFrame e X.env) (fun _ s₂ => wpAny (model X.prog X.w) X.A (setFlight e none) (fun _ s₃ =>
    wpAny (model X.prog X.w) X.A (handleBy e X.env [.ExceptHandler (some (.Name x np)) (some n) (b₀ :: suite) pos']) (SP X pins D) X.xe s₃) X.xe s₂) X.xe s₁) ?_ PassesOwn.looking).run [] s σ H D (I.toTry _) h) ?_ fun _ _ z => z)
  · rintro _ s' ⟨a, B, sI, pins', σ', H', cls, d, rfl, J', nb, up, sky, na, os, ag, b, hb1, yes, no⟩
    rw [show X.stack = X.env :: X.outer from hs] at sky
    refine Sky.land Zc.steady (by rw [ok.frames, hs]) hf sky fun h3 fl3 up3 => ?_
    have J : Inv X pins σ' H' sI := J'.ofTry ok
    obtain ⟨oe, vs, R⟩ := Rest.of hex hs hf J nb na fl3 (up.trans up3) os ag
    refine wpAny_handleBy_cons (codeAny_handlers_test (R.name hc ((PySem.W.exm_one (M := model X.prog X.w) R.inv.kIn (fun A Q E s k q => wpAny_typeOf_ref (k _ _ R.at_) (by rw [R.kind.1]; exact q)) hb1).here ?_))) nofun
    match b, hb1, yes, no with
    | true, _, yes, _ =>
      refine codeAny_handlers_suite_as (HandSPX.lands_againZ fl3 fun h4 fl4 up4 => ?_)
      obtain ⟨oe4, vs4, R4⟩ := Rest.of hex hs hf J nb na fl4 ((up.trans up3).trans up4) os ag
      exact R4.runs hN hi hln (fun _ _ z => z) (hsu a oe4 cls d _ R4.kind ⟨_, R4.data⟩) (yes rfl a na)
    | false, _, _, no =>
      refine wpAny_handleBy_nil ?_
      obtain ⟨_, _, _, oe, vs, T, _, _, he, _, hd, h1, _⟩ := id fl3
      unfold PySem.passOn
      refine wpAny_bind (wpAny_field he hd h1 ?_)
      rw [if_neg (show ¬ ((Value.ref T == Value.none) = true) from by simp)]
      refine wpAny_bind ?_
      rw [hf]
      exact HandSPX.setFlight_upZ fl3 fun h4 hh4 up4 => wpAny_throw (tk _ _ ⟨a, B, sI, pins, σ', H', cls, d, rfl, J, nb, (up.trans up3).trans up4, .inr (.inr (by rw [hs]; exact hh4)), na, os, ag, no rfl⟩)
  · rintro (_ | _ | _ | u) s1 q
    · obtain ⟨σ', H', J', q⟩ := q
      exact wpAny_execs_nil ⟨σ', H', J'.ofTry ok, q⟩
    · obtain ⟨σ', H', J', q⟩ := q
      exact ⟨σ', H', J'.ofTry ok, q⟩
    · obtain ⟨σ', H', J', q⟩ := q
      exact ⟨σ', H', J'.ofTry ok, q⟩
    · obtain ⟨v, σ', H', J', r, q⟩ := q
      exact ⟨v, σ', H', J'.ofTry ok, r, q⟩
end
/-! ### reading it -/
/-- isinstance(e, c), e a kept exception of the class D -/
def rIsV (K : PySem.W.Frag) : List V → Hp → VK → Prop := fun xs H Q => ∃ (a D : Addr) (d : Option Addr) (c : V) (cv : Value) (b : Bool), xs = [.ref a, c] ∧ H a = some (ExV (.ref D) d a) ∧ (∀ dd, d = some dd → ∃ fs, H dd = some (.xd fs)) ∧ ExcC K D ∧ ClsV c cv ∧ PySem.W.kitOne K (.ref D) cv = some b ∧ Q (.bl b) H
section
variable {X : Cx} {pins : List (Addr × Obj)} {σ : L2.St} {H : Hp} {s : Shared}
theorem exV_inst {a D : Addr} {d : Option Addr} (I : Inv X pins σ H s) (e : H a = some (ExV (.ref D) d a)) (hd : ∀ dd, d = some dd → ∃ fs, H dd = some (.xd fs)) :
    ∃ (oe : Obj) (od : Option Obj), PySem.W.InstAt s.heap a oe D od ∧ Zc (.ref D) d oe ∧ (∃ vs, oe.data = .fields vs) := by
  obtain ⟨⟨oe, vs, h1, hz, hv⟩, _, _⟩ := I.hok a _ e
  cases d with
  | none => exact ⟨oe, none, ⟨h1, hz.1, by unfold PySem.W.notCls; rw [hv] <;> rfl, by rw [hz.2]; trivial⟩, hz, vs, hv⟩
  | some dd =>
    obtain ⟨fs, hx⟩ := hd dd rfl
    obtain ⟨mA, hns, _⟩ := (show ObjOk X.prog X.w H s.heap dd (.xd fs) from I.hok dd _ hx)
    obtain ⟨od, ho, _⟩ := lookIn_ns hns
    exact ⟨oe, some od, ⟨h1, hz.1, by unfold PySem.W.notCls; rw [hv] <;> rfl, by rw [hz.2]; exact ho⟩, hz, vs, hv⟩
theorem call_isV : CallR X (.builtin "isinstance") (rIsV X.K) := by
  intro pins s σ H xs us Q I r h
  obtain ⟨a, D, d, c, cv, b, rfl, ha, hd, C, k, e, q⟩ := h
  obtain ⟨u1, u2, rfl, r1, r2⟩ := vals2 r
  cases (show u1 = Value.ref a from r1)
  have e2 := k.eq r2
  subst e2
  obtain ⟨oe, od, J, _⟩ := exV_inst I ha hd
  have hcl : (PySem.W.clsIn X.K D).isSome = true := by
    obtain ⟨cd, hc, _⟩ := PySem.W.any_some C.hd
    rw [hc] <;> rfl
  exact PySem.W.kia_one (PySem.W.kitx_exc hcl C.hg C.hk C.hs C.ha C.hn C.ht C.hm) I.kIn J e (fun z => nomatch z) fun tk => ⟨.bl b, H, I.tok tk, rfl, q⟩
/-- e.f, e a kept exception with a dict -/
def tXv (C : Addr) (f : Str) (te : TE) : TE := fun σ H Q => te σ H fun x H1 => ∃ (a dd : Addr) (fs : List (Str × V)) (v : V), x = .ref a ∧ H1 a = some (ExV (.ref C) (some dd) a) ∧ H1 dd = some (.xd fs) ∧ fs.lookup f = some v ∧ Q v H1
theorem pe_xv {C : Addr} {e : Expr} {te : TE} {pos : Pos} {n : Str} (T : XfC X.K C) (hno : PySem.W.findIn X.K (.ref C) n = some none) (he : PE X e te) (hb : attributeBase e n X.env (eval e X.env) = eval e X.env := by rfl) :
    PE X (.Attribute e n pos) (tXv C n te) := by
  refine ⟨fun pins s σ H Q I h => ?_⟩
  refine attr_of hb (thn (he.run pins s σ H _ I h) fun u s1 hh => ?_)
  obtain ⟨x, H1, I1, rx, a, dd, fs, v, ex, ea, ed, l, q⟩ := hh
  subst ex
  obtain rfl : u = Value.ref a := rx
  obtain ⟨⟨oe, vs, h1, hz, hv⟩, _, _⟩ := I1.hok a _ ea
  have hx : ObjOk X.prog X.w H1 s1.heap dd (.xd fs) := I1.hok dd _ ed
  obtain ⟨mA, hns, hr⟩ := hx
  obtain ⟨od, ho, hl⟩ := lookIn_ns hns
  obtain ⟨u, hu, ru⟩ := RelO.some_of (v := v) (o := mA n) (by rw [← l]; exact hr n)
  have J : PySem.W.InstAt s1.heap a oe C (some od) := ⟨h1, hz.1, by unfold PySem.W.notCls; rw [hv] <;> rfl, by rw [hz.2]; exact ho⟩
  exact HandSPX.exc_get I1.kIn J T.ga T.gg T.exC (PySem.W.findObj_own T.hdC hno rfl (by rw [hl, hu])) (handed_of ru) ⟨v, H1, I1.tok _, ru, q⟩
end
/-! ### data: None, bools, ints, texts, lists, tuples, the empty dict -/
mutual
inductive Dq (K : PySem.W.Frag) (H : Hp) : V → PyData → Prop
  | non : Dq K H .non .none
  | bl (b : Bool) : Dq K H (.bl b) (.bool b)
  | int (i : Int) : Dq K H (.int i) (.int i)
  | str (x : Str) : Dq K H (.str x) (.str x)
  | lst {a : Addr} {xs : List V} {ds : List PyData} : SqL K H a xs → (a == sysModules) = false → DqAll K H xs ds → Dq K H (.ref a) (.list ds)
  | tup {a : Addr} {xs : List V} {ds : List PyData} : SqT K H a xs → DqAll K H xs ds → Dq K H (.ref a) (.tuple ds)
  | emp {a : Addr} : H a = some (.dK []) → Dq K H (.ref a) (.dict [])
inductive DqAll (K : PySem.W.Frag) (H : Hp) : List V → List PyData → Prop
  | nil : DqAll K H [] []
  | cons {v : V} {vs : List V} {d : PyData} {ds : List PyData} : Dq K H v d → DqAll K H vs ds → DqAll K H (v :: vs) (d :: ds)
end
section
variable {X : Cx} {pins : List (Addr × Obj)} {σ : L2.St} {H : Hp} {s : Shared}
mutual
theorem Dq.reads (I : Inv X pins σ H s) : ∀ (d : PyData) (v : V) (u : Value), Dq X.K H v d → RelV v u → ∃ as, Reads s.heap u d as ∧ sysModules ∉ as
  | .none, _, _, h, r => by
    cases h
    cases r
    exact ⟨_, Reads.none, by simp⟩
  | .bool b, _, _, h, r => by
    cases h
    cases r
    exact ⟨_, Reads.bool b, by simp⟩
  | .int i, _, _, h, r => by
    cases h
    obtain ⟨t, rfl⟩ := r
    exact ⟨_, Reads.int i t, by simp⟩
  | .str x, _, _, h, r => by
    cases h
    obtain ⟨t, rfl⟩ := r
    exact ⟨_, Reads.str x t, by simp⟩
  | .list ds, _, _, h, r => by
    cases h with
    | lst hs na ha =>
      cases r
      obtain ⟨its, rv, ⟨o, n, ho, hc, _, hd⟩, _⟩ := I.list hs
      obtain ⟨as, hr, hn⟩ := Dq.readsAll I ds _ its ha rv
      exact ⟨_, Reads.list ho hc hd hr, fun z => (List.mem_cons.mp z).elim (fun e => by rw [← e] at na; simp at na) hn⟩
  | .tuple ds, _, _, h, r => by
    cases h with
    | tup hs ha =>
      cases r
      obtain ⟨its, rv, ⟨o, ho, hc, n, hd⟩, _⟩ := I.tuple hs
      obtain ⟨as, hr, hn⟩ := Dq.readsAll I ds _ its ha rv
      exact ⟨_, Reads.tuple ho hc hd hr, hn⟩
  | .dict _, _, _, h, r => by
    cases h with
    | emp h =>
      cases r
      obtain ⟨_, hs, vs, rel, o, es, ep, ho, he, hd, _, hp, _⟩ := (show ObjOk X.prog X.w H s.heap _ (.dK []) from I.hok _ _ h)
      cases rel
      have e0 : es.toList = [] := by
        have := hp.length
        cases q : es.toList with
        | nil => rfl
        | cons a b => rw [q] at hp; cases hp
      refine ⟨_, Reads.dict (kvs := []) ho he.1 hd (as := []) (bs := []) (by rw [e0]; exact .nil) (by rw [e0]; exact .nil), fun z => ?_⟩
      simp at z
      rw [← z] at hs
      simp at hs
theorem Dq.readsAll (I : Inv X pins σ H s) : ∀ (ds : List PyData) (vs : List V) (us : List Value), DqAll X.K H vs ds → Vals vs us → ∃ as, ReadsAll s.heap us ds as ∧ sysModules ∉ as
  | [], _, _, h, r => by
    cases h
    cases r
    exact ⟨_, ReadsAll.nil, by simp⟩
  | d :: ds, _, _, h, r => by
    cases h with
    | cons h1 h2 =>
      cases r with
      | cons r1 r2 =>
        obtain ⟨as, q1, n1⟩ := Dq.reads I d _ _ h1 r1
        obtain ⟨bs, q2, n2⟩ := Dq.readsAll I ds _ _ h2 r2
        exact ⟨_, ReadsAll.cons q1 q2, fun z => (List.mem_append.mp z).elim n1 n2⟩
end
end
/-- repr(x), x data that is a list or a tuple -/
def rReprQ (K : PySem.W.Frag) : List V → Hp → VK → Prop := fun xs H Q => ∃ (a : Addr) (d : PyData), xs = [.ref a] ∧ Dq K H (.ref a) d ∧ d.showable = true ∧ d.shown.length ≤ sizeLine ∧ d.depth ≤ 40 ∧ Q (.str d.shown) H
section
variable {X : Cx}
theorem call_reprQ (hr : Room 0 X.A) (hG : X.A.guards = some []) : CallR X (.builtin "repr") (rReprQ X.K) := by
  intro pins s σ H xs us Q I r h
  obtain ⟨a, d, rfl, hd, hs, hz, hdep, q⟩ := h
  obtain ⟨u1, rfl, r1⟩ := vals1 r
  cases (show u1 = Value.ref a from r1)
  obtain ⟨as, hr', hn⟩ := Dq.reads I d _ _ hd rfl
  refine PySem.repr_of_reads' hr' hs (fun _ => hn) ?_ ?_ (fun _ _ e => e) (fun h' u tk k => ?_) hz
  · exact hG
  · have := hr.units
    omega
  · exact ⟨.str d.shown, H, I.kept k, ⟨_, rfl⟩, q⟩
end
end Vx
namespace Vx
open PySem PySem.Spec PyProof.Rows L2
/-! ### own operators -/
theorem rel_ref (a : Addr) : RelV (.ref a) (.ref a) := rfl
theorem cmpBack_of {X : Cx} {pins : List (Addr × Obj)} {σ : L2.St} {Q : VK} {w : Value} {s : Shared} (h : EP X pins σ Q w s) : PySem.W.CmpBack (EP X pins σ Q) w s := by
  obtain ⟨x, H, I, r, q⟩ := id h
  cases w with
  | notImplemented =>
    cases x with
    | int i => obtain ⟨t, e⟩ := r; cases e
    | str i => obtain ⟨t, e⟩ := r; cases e
    | byt i => obtain ⟨t, e⟩ := r; cases e
    | flt i => obtain ⟨t, e⟩ := r; cases e
    | _ => cases r
  | _ => exact h
section
variable {X : Cx} {CX : CXT} {k : Nat} {f C : Addr} {fd : FuncData} {ps : List Str} {sp : Sp} {E : XK}
/-- a callee's run at any around of the same frames -/
theorem run_at {A : Around} {pins : List (Addr × Obj)} {σ : L2.St} {H : Hp} {s : Shared} {Q : VK} {us : List Value} {vs : List V} (F : FnOk X.prog X.w X.K X.mg X.base CX k f fd ps sp) (hr : Room k A) (hfr : A.frames = X.A.frames) (hb : Binds X.K fd ps []) (hx : Passes CX X E)
    (I : Inv X pins σ H s) (r : Vals vs us) (h : sp vs H Q E) : wpAny (model X.prog X.w) A (call (.ref f) us) (EP X pins σ Q) X.xe s := by
  have e := I.env0
  have e0 : Env0 X.prog X.w X.K X.mg X.base A X.stack s H := ⟨by rw [hfr]; exact e.frames, e.mod, e.bs, e.bsz, e.funs, e.frf, e.hok, e.bare⟩
  have hl : us.length = ps.length := r.length.symm.trans (F.len _ _ _ _ h)
  have bb : BindsTo s fd ⟨us, []⟩ (ps.zip us) := by
    have z := hb s us I.kIn (by rw [List.append_nil]; exact hl)
    rw [List.append_nil] at z
    exact z
  refine wpAny_call (codeAny_mono (F.run A X.stack s H ⟨us, []⟩ us vs Q E hr e0 bb r h) fun q s' hq => ?_)
  match q, hq with
  | .error e, hq => exact hx pins σ H s e s' I hq
  | .ok (.ret u), hq => exact I.after hq
/-- an operator of the class at C: its def at f -/
structure OwnOp (K : PySem.W.Frag) (C : Addr) (name : Str) (f : Addr) : Prop where
  at_ : PySem.W.findIn K (.ref C) name = some (some (.ref f))
  fn : PySem.W.isFn K (.ref f) = true
theorem inst_of {pins : List (Addr × Obj)} {σ : L2.St} {H : Hp} {s : Shared} {a dx : Addr} {fs : List (Str × V)} (I : Inv X pins σ H s) (e : H a = some (.ins C dx fs)) : ∃ od, PySem.W.InstAt s.heap a (PySem.W.instObj C dx) C od := by
  obtain ⟨mA, J, _⟩ := ins_get I.hok e
  obtain ⟨od, J, _⟩ := J.look
  exact ⟨_, J⟩
/-- len(o) -/
def rLenO (C : Addr) (sp : Sp) (E : XK) : List V → Hp → VK → Prop := fun xs H Q => ∃ a dx fs, xs = [.ref a] ∧ H a = some (.ins C dx fs) ∧ sp [.ref a] H (fun v H' => ∃ n : Int, v = .int n ∧ 0 ≤ n ∧ n < 2 ^ 63 ∧ Q (.int n) H') E
theorem call_lenO (o : OwnOp X.K C "__len__" f) (F : FnOk X.prog X.w X.K X.mg X.base CX k f fd ps sp) (hr : Room (k + 1) X.A) (hb : Binds X.K fd ps []) (hx : Passes CX X E) : CallR X (.builtin "len") (rLenO C sp E) := by
  intro pins s σ H xs us Q I r h
  obtain ⟨a, dx, fs, rfl, ha, h⟩ := h
  obtain ⟨u, rfl, r1⟩ := vals1 r
  cases (show u = Value.ref a from r1)
  obtain ⟨od, J⟩ := inst_of I ha
  obtain ⟨m, hF⟩ := I.fr
  refine PySem.W.len_K hF I.ok.mod.kin J o.at_ o.fn (wpAny_mono (run_at F hr.in1 rfl hb hx I (.cons (rel_ref _) .nil) h) (fun v s' z => ?_) fun _ _ z => z)
  obtain ⟨x, H', I', rx, n, ex, n0, n1, q⟩ := z
  subst ex
  obtain ⟨t, rfl⟩ := rx
  exact ⟨⟨n0, n1⟩, .int n, H', I'.tok _, ⟨_, rfl⟩, q⟩
/-- y in o, y not in o -/
def rInO (C : Addr) (sp : Sp) (neg : Bool) (E : XK) : R2 := fun x y H Q => ∃ a dx fs, y = .ref a ∧ H a = some (.ins C dx fs) ∧ sp [.ref a, x] H (fun v H' => ∃ b : Bool, v = .bl b ∧ Q (.bl (if neg then !b else b)) H') E
theorem op_inO (o : OwnOp X.K C "__contains__" f) (F : FnOk X.prog X.w X.K X.mg X.base CX k f fd ps sp) (hr : Room k X.A) (hb : Binds X.K fd ps []) (hx : Passes CX X E) : OpR X (compareOp .In) (rInO C sp false E) := by
  intro pins s σ H x y v u Q I rx ry h
  obtain ⟨a, dx, fs, rfl, ha, h⟩ := h
  cases (show u = Value.ref a from ry)
  obtain ⟨od, J⟩ := inst_of I ha
  obtain ⟨m, hF⟩ := I.fr
  refine PySem.W.in_K hF I.ok.mod.kin J o.at_ o.fn (wpAny_mono (run_at F hr rfl hb hx I (.cons (rel_ref _) (.cons rx .nil)) h) (fun w s' z => ?_) fun _ _ z => z)
  obtain ⟨x', H', I', rx', b, ex, q⟩ := z
  subst ex
  cases rx'
  exact wpAny_truthy_bool ⟨.bl b, H', I', rfl, q⟩
theorem op_notInO (o : OwnOp X.K C "__contains__" f) (F : FnOk X.prog X.w X.K X.mg X.base CX k f fd ps sp) (hr : Room k X.A) (hb : Binds X.K fd ps []) (hx : Passes CX X E) : OpR X (compareOp .NotIn) (rInO C sp true E) := by
  intro pins s σ H x y v u Q I rx ry h
  obtain ⟨a, dx, fs, rfl, ha, h⟩ := h
  cases (show u = Value.ref a from ry)
  obtain ⟨od, J⟩ := inst_of I ha
  obtain ⟨m, hF⟩ := I.fr
  refine PySem.W.notIn_K hF I.ok.mod.kin J o.at_ o.fn (wpAny_mono (run_at F hr rfl hb hx I (.cons (rel_ref _) (.cons rx .nil)) h) (fun w s' z => ?_) fun _ _ z => z)
  obtain ⟨x', H', I', rx', b, ex, q⟩ := z
  subst ex
  cases rx'
  exact wpAny_truthy_bool ⟨.bl (!b), H', I', rfl, q⟩
/-- o[y] -/
def rGetO (C : Addr) (sp : Sp) (E : XK) : R2 := fun x y H Q => ∃ a dx fs, x = .ref a ∧ H a = some (.ins C dx fs) ∧ sp [.ref a, y] H Q E
theorem pe_getO {a b : Expr} {ta tb : TE} {pos : Pos} (o : OwnOp X.K C "__getitem__" f) (hfn : PySem.W.fnIn X.K f = true) (F : FnOk X.prog X.w X.K X.mg X.base CX k f fd ps sp) (hr : Room (k + 1) X.A) (hb : Binds X.K fd ps []) (hx : Passes CX X E) (ha : PE X a ta) (hc : PE X b tb)
    (hsl : ∀ (x : Addr) (i : Value), subscripted b true (.ref x) i = runValue (.builtin "lifetime.subscript" ⟨[.ref x, i], []⟩) := by intro _ _; with_unfolding_all rfl) : PE X (.Subscript a b pos) (tOp (rGetO C sp E) ta tb) := by
  refine ⟨fun pins s σ H Q I h => ?_⟩
  refine Subscript_ (binT ha hc I h fun v u s2 x y H2 I2 rx ry q => ?_)
  obtain ⟨p, dx, fs, rfl, hp, q⟩ := q
  cases (show v = Value.ref p from rx)
  obtain ⟨od, J⟩ := inst_of I2 hp
  obtain ⟨m, hF⟩ := I2.fr
  exact PySem.W.sub_K hF I2.ok.mod.kin J o.at_ hfn o.fn (run_at F hr.in1 rfl hb hx I2 (.cons (rel_ref _) (.cons ry .nil)) q) (hsl p u)
/-- a | b, both of the class at C -/
def rOrO (C : Addr) (sp : Sp) (E : XK) : R2 := fun x y H Q => ∃ a dx fs b dy gs, x = .ref a ∧ y = .ref b ∧ H a = some (.ins C dx fs) ∧ H b = some (.ins C dy gs) ∧ sp [.ref a, .ref b] H (fun v H' => Q v H') E
theorem op_orO (o : OwnOp X.K C (PySem.dunder (Operator.info .BitOr).2) f) (hc : PySem.W.selfFirst X.K C = true) (F : FnOk X.prog X.w X.K X.mg X.base CX k f fd ps sp) (hr : Room k X.A) (hb : Binds X.K fd ps []) (hx : Passes CX X E) : OpR X (binaryOp .BitOr) (rOrO C sp E) := by
  intro pins s σ H x y v u Q I rx ry h
  obtain ⟨a, dx, fs, b, dy, gs, rfl, rfl, ha, hb', h⟩ := h
  cases (show v = Value.ref a from rx)
  cases (show u = Value.ref b from ry)
  obtain ⟨od, J⟩ := inst_of I ha
  obtain ⟨od', J'⟩ := inst_of I hb'
  obtain ⟨m, hF⟩ := I.fr
  refine PySem.W.binop_K hF I.ok.mod.kin J J'.type hc o.at_ o.fn (wpAny_mono (run_at F hr rfl hb hx I (.cons (rel_ref _) (.cons (rel_ref _) .nil)) h) (fun w s' z => ?_) fun _ _ z => z)
  obtain ⟨x', H', I', rx', q⟩ := z
  exact cmpBack_of ⟨x', H', I', rx', q⟩
/-- a == y, a != y, a of the class at C, y of the type t -/
def rEqO (K : PySem.W.Frag) (C : Addr) (sp : Sp) (E : XK) : R2 := fun x y H Q => ∃ a dx fs t, x = .ref a ∧ H a = some (.ins C dx fs) ∧ TyX K H y t ∧ PySem.W.notFirst K C t = true ∧ sp [.ref a, y] H Q E
theorem op_eqO (o : OwnOp X.K C "__eq__" f) (F : FnOk X.prog X.w X.K X.mg X.base CX k f fd ps sp) (hr : Room k X.A) (hb : Binds X.K fd ps []) (hx : Passes CX X E) : OpR X (compareOp .Eq) (rEqO X.K C sp E) := by
  intro pins s σ H x y v u Q I rx ry h
  obtain ⟨a, dx, fs, t, rfl, ha, ty, hn, h⟩ := h
  cases (show v = Value.ref a from rx)
  obtain ⟨od, J⟩ := inst_of I ha
  obtain ⟨m, hF⟩ := I.fr
  obtain ⟨p, Z, hp, _⟩ := kit_of I ry ty
  refine PySem.W.cmp_K (op := .Eq) hr.units0 hF I.ok.mod.kin J (Z.ty _ _ I.kIn hp) hn o.at_ o.fn (wpAny_mono (run_at F hr rfl hb hx I (.cons (rel_ref _) (.cons ry .nil)) h) (fun w s' z => ?_) fun _ _ z => z)
  exact cmpBack_of z
end
end Vx
namespace Vx
open PySem PySem.Spec PyProof.Rows L2
/-! ### the different ones of a list, by first places -/
def put1 {α : Type} [DecidableEq α] (acc : List α) (x : α) : List α := if x ∈ acc then acc else acc ++ [x]
def uniq {α : Type} [DecidableEq α] (xs : List α) : List α := xs.foldl put1 []
theorem put1_len {α : Type} [DecidableEq α] (acc : List α) (x : α) : (put1 acc x).length ≤ acc.length + 1 := by
  unfold put1
  split
  · omega
  · simp
theorem put1_nodup {α : Type} [DecidableEq α] {acc : List α} {x : α} (h : acc.Nodup) : (put1 acc x).Nodup := by
  unfold put1
  split
  · exact h
  · rename_i n
    exact List.nodup_append.mpr ⟨h, by simp, fun a ha b hb e => n (by simp at hb; rw [← hb, ← e]; exact ha)⟩
theorem mem_put1 {α : Type} [DecidableEq α] {acc : List α} {x y : α} : y ∈ put1 acc x ↔ y ∈ acc ∨ y = x := by
  unfold put1
  split
  · rename_i h
    constructor
    · exact .inl
    · rintro (z | z)
      · exact z
      · rw [z]; exact h
  · simp
theorem fold_put {α : Type} [DecidableEq α] : ∀ (xs acc : List α), acc.Nodup → (xs.foldl put1 acc).Nodup ∧ (xs.foldl put1 acc).length ≤ acc.length + xs.length ∧ ((xs.foldl put1 acc).length = acc.length + xs.length ↔ xs.Nodup ∧ ∀ x ∈ xs, x ∉ acc)
  | [], acc, h => ⟨h, by simp, by simp⟩
  | x :: xs, acc, h => by
    obtain ⟨h1, h2, h3⟩ := fold_put xs (put1 acc x) (put1_nodup h)
    have h4 := put1_len acc x
    simp only [List.foldl_cons, List.length_cons, List.nodup_cons]
    refine ⟨h1, by omega, ?_⟩
    by_cases hx : x ∈ acc
    · have e : put1 acc x = acc := if_pos hx
      rw [e] at h2 h3 ⊢
      exact ⟨fun q => by omega, fun q => absurd hx (q.2 x List.mem_cons_self)⟩
    · have e : (put1 acc x).length = acc.length + 1 := by
        unfold put1
        rw [if_neg hx]
        simp
      rw [e] at h3
      constructor
      · intro q
        obtain ⟨a, b⟩ := h3.mp (by omega)
        have nx : x ∉ xs := fun m => b x m (mem_put1.mpr (.inr rfl))
        refine ⟨⟨nx, a⟩, fun y hy => ?_⟩
        rcases List.mem_cons.mp hy with z | z
        · rw [z]; exact hx
        · exact fun m => b y z (mem_put1.mpr (.inl m))
      · rintro ⟨⟨nx, a⟩, b⟩
        have := h3.mpr ⟨a, fun y hy m => by
          rcases mem_put1.mp m with z | z
          · exact b y (List.mem_cons_of_mem _ hy) z
          · exact nx (by rw [← z]; exact hy)⟩
        omega
theorem uniq_len {α : Type} [DecidableEq α] (xs : List α) : (uniq xs).length ≤ xs.length := by
  have := (fold_put xs [] List.nodup_nil).2.1
  simpa [uniq] using this
theorem uniq_all {α : Type} [DecidableEq α] (xs : List α) : (uniq xs).length = xs.length ↔ xs.Nodup := by
  have := (fold_put xs [] List.nodup_nil).2.2
  simpa [uniq] using this
/-! ### set(a list of texts), of any number -/
def metN (key : Nat → Str) : Nat → List Str
  | 0 => []
  | i + 1 => put1 (metN key i) (key i)
theorem metN_len (key : Nat → Str) : ∀ i, (metN key i).length ≤ i
  | 0 => Nat.le_refl _
  | i + 1 => Nat.le_trans (put1_len _ _) (Nat.succ_le_succ (metN_len key i))
theorem metN_list (xs : List Str) : ∀ i, i ≤ xs.length → metN (fun j => xs.getD j Str.empty) i = uniq (xs.take i)
  | 0, _ => rfl
  | i + 1, h => by
    have hi : i < xs.length := h
    have e1 : xs.take (i + 1) = xs.take i ++ [xs[i]] := by rw [List.take_succ, List.getElem?_eq_getElem hi]; rfl
    have e2 : xs.getD i Str.empty = xs[i] := by simp [List.getD, hi]
    show put1 (metN _ i) (xs.getD i Str.empty) = _
    rw [metN_list xs i (Nat.le_of_lt hi), e1, e2]
    unfold uniq
    rw [List.foldl_append]
    rfl
section
variable {prog : Program} {w : World} {A : Around} {R : Result → Shared → Prop} {it : Addr} {fp wr : List Addr} {G : Array GenState → Array GenState → Prop} {n : Nat} {P : Nat → Value → Prop} {Stt : Nat → Shared → Prop}
abbrev SetHas (prog : Program) (w : World) (h : Heap) (S : Addr) (l : List Str) : Prop := h.SetOf (PySem.strKind prog w) S (fun k => decide (k ∈ l)) l.length
theorem SetHas.at {h h' : Heap} {S : Addr} {l : List Str} (x : SetHas prog w h S l) (k : ∀ o, h.get? S = some o → h'.get? S = some o) : SetHas prog w h' S l := by
  obtain ⟨o, es, ep, t, ho, r⟩ := x
  exact ⟨o, es, ep, t, k o ho, r⟩
theorem SetHas.put {h : Heap} {S : Addr} {l : List Str} {x : Str} (y : h.SetOf (PySem.strKind prog w) S (fun k' => decide (k' ∈ l) || decide (k' = x)) (if decide (x ∈ l) = true then l.length else l.length + 1)) : SetHas prog w h S (put1 l x) := by
  refine SetOf_congr y (fun k => ?_) ?_
  · by_cases e : k ∈ put1 l x
    · rw [decide_eq_true e]
      rcases mem_put1.mp e with z | z
      · rw [decide_eq_true z]; rfl
      · rw [decide_eq_true z]; simp
    · rw [decide_eq_false e, decide_eq_false (fun z => e (mem_put1.mpr (.inl z))), decide_eq_false (fun z => e (mem_put1.mpr (.inr z)))]; rfl
  · unfold put1
    by_cases e : x ∈ l
    · rw [if_pos e, if_pos (decide_eq_true e)]
    · rw [if_neg e, if_neg (by rw [decide_eq_false e]; simp)]; simp
theorem upd_loop (W : WalksS prog w A.in1 it fp wr G n P Stt) (S : Addr) (hSf : S ∉ fp) (key : Nat → Str) (hval : ∀ i v, P i v → ∃ t, v = .str (key i) t) (hb : n + 1 < scanBound) (m : Nat) :
    ∀ (i : Nat) (s : Shared), i + m = n → Stt i s → SetHas prog w s.heap S (metN key i) → (∀ s', Moved (S :: wr) G s s' → SetHas prog w s'.heap S (metN key n) → R (.ok (.ret .none)) s') →
      codeAny (model prog w) A (.builtin "set.update.loop" ⟨[.ref S, .ref it], []⟩) R s := by
  have off : S ∉ wr := fun z => hSf (W.sub _ z)
  have into : ∀ b ∈ wr, b ∈ S :: wr := fun b z => List.mem_cons_of_mem _ z
  induction m with
  | zero =>
    intro i s e st hS hR
    have e : i = n := by omega
    subst e
    refine codeAny_builtin PyProof.Rows.F.entry_set_update_loop ?_
    rw [Around.under_plainId PyProof.Rows.F.plain_set_update_loop _]
    show wpAny _ A.in1 (pyNext (.ref it) >>= _) _ _ s
    refine wpAny_bind (W.done s _ _ st fun s' mv => ?_)
    exact wpAny_pure (hR s' (mv.mono into) (hS.at fun o => mv.heap S o off))
  | succ m ih =>
    intro i s e st hS hR
    have lt : i < n := by omega
    refine codeAny_builtin PyProof.Rows.F.entry_set_update_loop ?_
    rw [Around.under_plainId PyProof.Rows.F.plain_set_update_loop _]
    show wpAny _ A.in1 (pyNext (.ref it) >>= _) _ _ s
    refine wpAny_bind (W.item i s _ _ lt st fun v s1 hP st1 mv => ?_)
    obtain ⟨t, ev⟩ := hval i v hP
    subst ev
    have hS1 : SetHas prog w s1.heap S (metN key i) := hS.at fun o => mv.heap S o off
    have room : (metN key i).length + 1 < scanBound := Nat.lt_of_le_of_lt (Nat.succ_le_succ (metN_len key i)) (by omega)
    show wpAny _ A.in1 (holding [Value.str (key i) t] (setAdd S (.str (key i) t)) >>= _) _ _ s1
    refine wpAny_bind (wpAny_holding ?_)
    unfold setAdd
    refine wpAny_holding (wpAny_bind ((PySem.strKind prog w).pyHash (k := key i) (strKind_is _ _ _ _) ?_))
    refine wpAny_setAddHashed_of (knd := PySem.strKind prog w) (s := { s1 with toks := s1.toks + 1 }) (strKind_is _ _ _ _) rfl hS1 room fun h2 same hS2 => ?_
    have keep2 : ∀ b, b ≠ S → ∀ o, s1.heap.get? b = some o → h2.get? b = some o := fun b nb o z => (same.2 b nb).trans z
    refine wpAny_pure ⟨plainId_quiet PyProof.Rows.F.plain_set_update_loop _, ih (i + 1) _ (by omega) (W.frame _ s1 _ _ st1 (Nat.le_succ _) fun b hb o z => keep2 b (fun q => hSf (q ▸ hb)) o z) (SetHas.put hS2) fun s3 mv3 hS3 => ?_⟩
    exact hR s3 (Moved.trans W.gtrans ((mv.mono into).then_heap (Nat.le_succ _) fun b o nb z => keep2 b (fun q => nb (q ▸ List.mem_cons_self)) o z) mv3) hS3
end
section
variable {prog : Program} {w : World} {A : Around} {E : Value → Shared → Prop} {s : Shared}
/-- an empty set, as it is laid -/
abbrev setObj0 (led : Bool) : Obj := { cls := .type "set", dict := none, data := .set #[] 0 (.fresh 0 0 led) }
/-- what the filling of a new set leaves, the set at p, of the texts xs -/
def Filled (prog : Program) (w : World) (h0 : Heap) (p : Addr) (xs : List Str) (h : Heap) : Prop := SetHas prog w h p (uniq xs) ∧ ∀ b o, b < p → h0.get? b = some o → h.get? b = some o
/-- set.__init__ of the new set at the heap's end and the list at l -/
theorem fill_list {l : Addr} {items : Array Value} {xs : List Str} {led : Bool} (hh : A.handled = none) (hl : s.heap.IsList l items) (hi : PyProof.Rows.StrsAre items.toList xs) (hb : xs.length + 1 < scanBound) {Q : Value → Shared → Prop}
    (hq : ∀ h' tk, Filled prog w s.heap s.heap.objs.size xs h' → Q .none { s with heap := h', toks := tk }) :
    codeAny (model prog w) A (.call (.builtin "set.__init__") ⟨[.ref s.heap.objs.size, .ref l], []⟩) (wants Q E) { s with heap := s.heap.push (setObj0 led) } := by
  obtain ⟨S, eS⟩ : ∃ S, S = s.heap.objs.size := ⟨_, rfl⟩
  obtain ⟨hp, eh⟩ : ∃ hp, hp = s.heap.push (setObj0 led) := ⟨_, rfl⟩
  have at0 : hp.get? S = some (setObj0 led) := by rw [eh, eS]; exact Heap.get?_push_size _ rfl
  have szS : hp.objs.size = S + 1 := by rw [eh, Heap.size_push, eS]
  have keep0 : ∀ b o, s.heap.get? b = some o → hp.get? b = some o := fun b o z => by rw [eh]; exact Heap.get?_push_of_some _ z
  obtain ⟨ol, hol, hcl, nl, hdl⟩ := hl
  have lS : l < S := by rw [eS]; exact Heap.lt_size hol
  obtain ⟨ocls, odict, odata, oslots⟩ := ol
  simp only at hcl hdl
  subst hcl
  subst hdl
  rw [← eh, ← eS]
  refine codeAny_call_builtin PySem.F.called_set.init.plain PySem.F.entry_set_init (check_set_init_1 ⟨_, at0, rfl⟩ ?_)
  have lst1 : hp.get? l = some { cls := .type "list", dict := odict, data := .seq items nl, slots := oslots } := keep0 _ _ hol
  have isl : hp.IsList l items := ⟨_, lst1, rfl, nl, rfl⟩
  have f1 := PySem.F.sub_list_set
  have f2 := PySem.F.sub_list_frozenset
  have f3 : (Value.type "list" == Value.type "dict") = false := by decide
  unfold Builtin.«set.__init__» noKeywords Builtin.Frozenset.updateFrom
  generalize hPI : pyIter = PI
  wp_walk
  subst hPI
  refine wpAny_pyIter_list isl (wpAny_bind (wpAny_runValue ?_))
  have hz : xs.length = items.size := by rw [← StrsAre.len_eq hi, Array.length_toList]
  have nI : l ≠ hp.objs.size := by rw [szS]; exact Nat.ne_of_lt (Nat.lt_succ_of_lt lS)
  have apartB : ∀ b : Addr, b ≤ S → b ≠ l → b ∉ [hp.objs.size, l] := fun b hb nb z => by
    rw [szS] at z
    rcases List.mem_cons.mp z with z | z
    · rw [z] at hb
      exact absurd hb (Nat.not_succ_le_self S)
    · exact nb (List.mem_singleton.mp z)
  have apart : S ∉ [hp.objs.size, l] := apartB S (Nat.le_refl _) (Nat.ne_of_gt lS)
  refine upd_loop (n := items.size) ((Walks.list (by simp [hh]) _ l nI items).toS) S apart (fun j => xs.getD j Str.empty) (fun i v hv => SS.strs_at hi i v (by rw [Array.getElem?_toList]; exact hv)) (by rw [← hz]; exact hb) items.size 0 _ (by omega) ⟨⟨_, Heap.get?_push_size _ rfl, rfl, rfl⟩, (isl.push _)⟩ ?start ?stop
  case start =>
    have g : (hp.push { cls := .type "list_iterator", data := .fields #[.ref l, .int 0 0] }).get? S = some (setObj0 led) := Heap.get?_push_of_some _ at0
    exact SetOf_congr ((PyProof.Rows.setObjOf_fresh (knd := PySem.strKind prog w) led).setOf g (by unfold scanBound; omega)) (fun k => by simp [metN]) rfl
  case stop =>
    intro s' mv hS'
    have e1 := mv.gens
    have e2 := mv.drawn
    have e3 := mv.os
    obtain ⟨h', g', d', tk', os'⟩ := s'
    have e1 : g' = s.gens := e1
    have e2 : d' = s.drawn := e2
    have e3 : os' = s.os := e3
    subst e1 e2 e3
    show wpAny _ _ _ _ _ _
    refine wpAny_pure ?_
    show wpAny _ _ (ret Value.none) _ _ _
    refine wpAny_pure (hq h' tk' ⟨?_, fun b o hb e => ?_⟩)
    · have q := metN_list xs items.size (by omega)
      rw [← hz, List.take_length] at q
      rw [← hz] at hS'
      rw [← eS, ← q]
      exact hS'
    · refine mv.heap b o ?_ (Heap.get?_push_of_some _ (keep0 b o e))
      rw [← eS] at hb
      intro z
      rw [szS] at z
      rcases List.mem_cons.mp z with z | z
      · rw [z] at hb
        exact Nat.lt_irrefl _ hb
      · rw [List.mem_singleton.mp z] at hb
        exact absurd hb (Nat.not_lt_of_gt (Nat.lt_succ_self S))
theorem call_set_txt {l : Addr} {items : Array Value} {xs : List Str} {Q : Value → Shared → Prop} (hh : A.handled = none) (hl : s.heap.IsList l items) (hi : PyProof.Rows.StrsAre items.toList xs) (hb : xs.length + 1 < scanBound)
    (hq : ∀ h' tk, Filled prog w s.heap s.heap.objs.size xs h' → Q (.ref s.heap.objs.size) { s with heap := h', toks := tk }) : wpAny (model prog w) A (call (.type "set") [.ref l]) Q E s := by
  obtain ⟨c, tl, hmro⟩ := PySem.F.called_set.mro
  have f1 := PySem.F.called_set.made
  have f2 := PySem.F.called_set.sub
  have f3 := PySem.F.called_set.notType
  have f4 := PySem.F.called_set.canCreate
  have f5 := PySem.F.typeCall_set_1 (.ref l)
  refine wpAny_call (codeAny_of_tree ?_)
  show wpAny _ _ (callAny (.type "set") _) _ _ _
  refine wpAny_pure ⟨Code.quiet_builtin _ (by decide +kernel), codeAny_builtin PySem.F.entry_type_call ?_⟩
  rw [Around.under_plain (weight_type_call_type "set" [.ref l] []) rfl]
  repeat (any_goals (first | assumption | wp_step))
  refine codeAny_mono (code_set_new_1 (.ref l) (E := E) (Q₁ := fun obj s1 => ∃ led : Bool, obj = .ref s.heap.objs.size ∧ s1 = { s with heap := s.heap.push (setObj0 led) }) fun led => ⟨led, rfl, rfl⟩) fun r s1 hr => ?_
  match r, hr with
  | .error e, hr => exact hr
  | .ok (.ret obj), hr =>
    obtain ⟨led, rfl, rfl⟩ := hr
    have at0 : (s.heap.push (setObj0 led)).get? s.heap.objs.size = some (setObj0 led) := Heap.get?_push_size _ rfl
    have ty : Shared.TypeIs { s with heap := s.heap.push (setObj0 led) } (.ref s.heap.objs.size) "set" := ⟨_, at0, rfl⟩
    have g1 := PySem.F.called_set.init.lookup
    have g2 := PySem.F.called_set.init.bind (.ref s.heap.objs.size)
    repeat (any_goals (first | assumption | wp_step))
    refine codeAny_mono (fill_list (E := E) (by simp [hh]) hl hi hb (Q := fun v s2 => v = .none ∧ ∃ h' tk, Filled prog w s.heap s.heap.objs.size xs h' ∧ s2 = { s with heap := h', toks := tk }) fun h' tk z => ⟨rfl, h', tk, z, rfl⟩) fun r2 s2 hr2 => ?_
    match r2, hr2 with
    | .error e, hr2 => exact hr2
    | .ok (.ret v), hr2 =>
      obtain ⟨rfl, h', tk, z, rfl⟩ := hr2
      repeat (any_goals (first | assumption | wp_step))
      exact hq h' tk z
end
end Vx
namespace Vx
open PySem PySem.Spec PyProof.Rows L2
/-- len(set(xs)), xs a list of texts -/
def tLenSetT (K : PySem.W.Frag) (ta : TE) : TE := fun σ H Q => ta σ H fun x H1 => ∃ (l : Addr) (xs : List Str), x = .ref l ∧ SqL K H1 l (xs.map V.str) ∧ xs.length ≤ 4000 ∧ Q (.int ((uniq xs).length : Nat)) H1
section
variable {X : Cx}
theorem pe_lenSetT {a : Expr} {ta : TE} {p p2 q pos : Pos} (hc : X.calm = true) (hg : Gl X "len") (hm : X.mg "len" = none) (hg2 : Gl X "set") (hm2 : X.mg "set" = none) (ha : PE X a ta)
    (na : starEach [a] X.env = (false, eval a X.env) :: starEach [] X.env := by rfl) : PE X (.Call (.Name "len" p) [.Call (.Name "set" p2) [a] [] q] [] pos) (tLenSetT X.K ta) := by
  refine ⟨fun pins s σ H Q I h => ?_⟩
  refine Call_ (ld_blt I hg hm boot_len ?_)
  refine PyProof.Rows.callWith_builtin1 (PyProof.Rows.args_cons ?_ rfl) rfl rfl
  refine Call_ (ld_blt I hg2 hm2 boot_set ?_)
  refine PyProof.Rows.callWith_type1 (PyProof.Rows.args_cons (thn (ha.run pins s σ H _ I h) fun v s1 ⟨x, H1, I1, r1, q1⟩ => PyProof.Rows.args_nil ?_) na) na rfl
  obtain ⟨l, xs, rfl, hq, h1, q1⟩ := q1
  cases r1
  obtain ⟨its, r, pl, hz⟩ := I1.list hq
  refine call_set_txt (xs := xs) (I1.ok.hd hc) pl.isList (by simpa using strsAre_of r) (by unfold scanBound; omega) fun h' tk hF => ?_
  obtain ⟨⟨o, es, ep, t, ho, hex, hd, _, _, _, hf, hn⟩, hk⟩ := hF
  have I2 : Inv X pins σ H1 { s1 with heap := h', toks := tk } := I1.kept fun b o e => hk b o (Heap.lt_size e) e
  have hu := uniq_len xs
  refine PyProof.Rows.args_nil ?_
  exact call_len_set ho hex hd hf (by rw [hn]; omega) ⟨.int ((uniq xs).length : Nat), H1, I2.tok _, ⟨_, by rw [hn]⟩, q1⟩
end
end Vx
namespace Vx
open PySem PySem.Spec PyProof.Rows L2
/-! ### the order of texts -/
abbrev ltS (x y : Str) : Bool := decide (x.cps.toList < y.cps.toList)
theorem ltS_asym {x y : Str} (h : ltS x y = true) : ltS y x = false := decide_eq_false (List.lt_asymm (of_decide_eq_true h))
theorem ltS_tr {x y z : Str} (h1 : ltS y x = false) (h2 : ltS z y = false) : ltS z x = false := by
  have a : x.cps.toList ≤ y.cps.toList := of_decide_eq_false h1
  have b : y.cps.toList ≤ z.cps.toList := of_decide_eq_false h2
  exact decide_eq_false (List.le_trans a b : x.cps.toList ≤ z.cps.toList)
theorem str_ext {x y : Str} (h : x.cps.toList = y.cps.toList) : x = y := by
  cases x
  cases y
  exact congrArg Str.mk (Array.toList_inj.mp h)
theorem ltS_tot {x y : Str} (h1 : ltS x y = false) (h2 : ltS y x = false) : x = y := by
  have a : y.cps.toList ≤ x.cps.toList := of_decide_eq_false h1
  have b : x.cps.toList ≤ y.cps.toList := of_decide_eq_false h2
  exact str_ext (List.le_antisymm b a)
theorem swo_name {α : Type} (k : α → Str) : SrtO.Swo fun x y => ltS (k x) (k y) := ⟨fun _ _ h => ltS_asym h, fun _ _ _ h1 h2 => ltS_tr h1 h2⟩
/-! ### sorted of a list or a tuple, any order -/
section
variable {prog : Program} {w : World} {A : Around} {E : Value → Shared → Prop} {s : Shared}
theorem sorted_seq {l : Addr} {T : String} {o : Obj} {n : Nat} {vs : List Value} {ltv : Value → Value → Bool} {Q : Value → Shared → Prop} (O : SrtO.Swo ltv) (hT : T = "list" ∨ T = "tuple") (ho : s.heap.get? l = some o) (hc : o.cls = .type T) (hd : o.data = .seq vs.toArray n) (hz : vs.length ≤ sizeLine)
    (hS : 2 ≤ vs.length → ∀ (h1 : Heap) (a : Addr), h1.get? a = some (seqObj "list" vs.toArray 0) → (∀ b o, s.heap.get? b = some o → b ≠ a ∧ h1.get? b = some o) → SrtO.SortableO prog w A.in1.in1 { s with heap := h1 } a vs ltv)
    (hq : ∀ (h' : Heap) (d : Addr) (out : List Value) (m : Nat), SrtO.Srtd ltv out → SrtO.Stb ltv out vs → (∀ b o, s.heap.get? b = some o → h'.get? b = some o) → s.heap.get? d = none → h'.get? d = some (seqObj "list" out.toArray m) → Q (.ref d) { s with heap := h' }) :
    wpAny (model prog w) A (call (.builtin "sorted") [.ref l]) Q E s := by
  refine Calls.call_function_entry kind_sorted plain_sorted entry_sorted (args_sorted1 _) ?_
  unfold Builtin.«sorted»
  refine wpAny_bind (m := checkCount "sorted" 1 1 _) (wpAny_pure (wpAny_bind (PySem.wpAny_collect_seq l hT ho hc hd (fun h1 k1 => ?_) (by rw [List.size_toArray]; exact hz))))
  have e0 : vs.toArray.toList = vs := by simp
  rw [e0]
  refine wpAny_bind (wpAny_newList ?_ hz)
  have n0 : s.heap.get? h1.objs.size = none := by
    cases e : s.heap.get? h1.objs.size with
    | none => rfl
    | some o => exact absurd (Heap.lt_size (k1 _ _ e)) (Nat.lt_irrefl _)
  have at2 : (h1.push (seqObj "list" vs.toArray 0)).get? h1.objs.size = some (seqObj "list" vs.toArray 0) := Heap.get?_push_size _ rfl
  have k2 : ∀ b o, s.heap.get? b = some o → b ≠ h1.objs.size ∧ (h1.push (seqObj "list" vs.toArray 0)).get? b = some o := fun b o e => ⟨Nat.ne_of_lt (Heap.lt_size (k1 b o e)), Heap.get?_push_of_some _ (k1 b o e)⟩
  show wpAny _ _ _ _ _ { s with heap := h1.push (seqObj "list" vs.toArray 0) }
  refine wpAny_bind (wpAny_holding (wpAny_call_entry slot_list_sort ⟨_, at2, rfl⟩ entry_list_sort (SrtO.list_sort_ord O at2 hz (fun h2 => hS h2 _ _ at2 k2) fun out hs hb => ⟨_, rfl, ?_⟩) (args_list_sort _)))
  obtain ⟨m, hm⟩ := sortedHeap_at (vs := vs) (out := out.toArray) at2
  refine wpAny_pure ⟨_, rfl, hq _ _ out m hs hb (fun b o e => ?_) n0 hm⟩
  obtain ⟨nb, e2⟩ := k2 b o e
  rw [sortedHeap_old nb (Heap.lt_size e2)]
  exact e2
end
/-! ### pairs of a text and a flat value, by their texts -/
def IsNm (h : Heap) (v : Value) (n : Str) (x : V) : Prop := ∃ a o t u m, v = .ref a ∧ h.get? a = some o ∧ o.cls = .type "tuple" ∧ o.data = .seq #[.str n t, u] m ∧ RelV x u ∧ flatV x = true
theorem IsNm.keeps {h h' : Heap} {v : Value} {n : Str} {x : V} (p : IsNm h v n x) (k : ∀ b o, h.get? b = some o → o.cls = .type "tuple" → h'.get? b = some o) : IsNm h' v n x := by
  obtain ⟨a, o, t, u, m, e, ho, hc, r⟩ := p
  exact ⟨a, o, t, u, m, e, k a o ho hc, hc, r⟩
theorem nm_firsts {h : Heap} : ∀ vs : List Value, (∀ v ∈ vs, ∃ n x, IsNm h v n x) → ∃ fs : List Value, PySem.W.KatTups h vs fs ∧ fs.length = vs.length ∧ ∀ f ∈ fs, ∃ n t, f = Value.str n t
  | [], _ => ⟨[], PySem.W.KatTups.nil, rfl, fun f hf => by simp at hf⟩
  | v :: vs, x => by
    obtain ⟨fs, k, hl, hi⟩ := nm_firsts vs fun u hu => x u (List.mem_cons_of_mem _ hu)
    obtain ⟨n, y, a, o, t, u, m, rfl, ho, hc, hd, _⟩ := x v List.mem_cons_self
    refine ⟨.str n t :: fs, PySem.W.KatTups.cons ho hc hd (by rfl) k, by simp [hl], fun f hf => ?_⟩
    rcases List.mem_cons.mp hf with e | e
    · exact ⟨n, t, e⟩
    · exact hi f e
section
variable {prog : Program} {w : World} {A : Around} {E : Value → Shared → Prop} {s : Shared}
theorem nm_cmp {vs : List Value} {k : Value → Str × V} (hp : ∀ v ∈ vs, IsNm s.heap v (k v).1 (k v).2) (inj : ∀ u ∈ vs, ∀ v ∈ vs, (k u).1 = (k v).1 → u = v) : SrtO.Cmp prog w A s (tuples' true) (fun p => p.1 ∈ vs) (SrtO.lt2 fun u v => ltS (k u).1 (k v).1) := by
  intro p q hm hm'
  obtain ⟨a, o, t, u, m, e, ho, hc, hd, r, f⟩ := hp _ hm
  obtain ⟨a', o', t', u', m', e', ho', hc', hd', r', f'⟩ := hp _ hm'
  show wpAny (model prog w) A (keyLt' (tuples' true) p.1 q.1) (fun r s' => s' = s ∧ r = ltS (k p.1).1 (k q.1).1) (fun _ _ => False) s
  have inj' := inj _ hm _ hm'
  rw [e, e'] at inj'
  have hk : (k p.1).1 = (k q.1).1 → (k p.1).2 = (k q.1).2 := fun z => by rw [inj _ hm _ hm' z]
  generalize hn : (k p.1).1 = n at *
  generalize hn' : (k q.1).1 = n' at *
  rw [e, e']
  refine PySem.W.kat_lt ho hd ho' hd' ?_
  show PySem.W.KatLex prog w A true (decide (2 < 2)) _ [(.str n t, .str n' t'), (u, u')] 0 s
  refine PySem.W.kat_cons ((eqAt_V (A := A) (s := s) (y := .str n) (x := .str n') ⟨t, rfl⟩ ⟨t', rfl⟩ rfl rfl) prog w _ _ ?_)
  show PySem.W.KatGo prog w A true _ _ _ _ _ _ (n == n') s
  refine PySem.W.kat_go (fun e1 => ?_) (fun e1 => ?_)
  · have en : n = n' := by simpa using e1
    have ev := hk en
    rw [ev] at r f
    refine PySem.W.kat_yes (PySem.W.kat_cons ((eqAt_V (A := A) (s := s) r r' f f') prog w _ _ ?_))
    have eq : eqV (k q.1).2 (k q.1).2 = true := by
      cases h : (k q.1).2 with
      | bl b => simp [eqV]
      | int b => simp [eqV]
      | str b => simp [eqV]
      | non => simp [eqV]
      | byt b => rw [h] at f'; cases f'
      | flt b => rw [h] at f'; cases f'
      | ref b => rw [h] at f'; cases f'
      | ty b => rw [h] at f'; cases f'
    rw [eq]
    refine PySem.W.kat_yes (PySem.W.kat_nil ⟨rfl, ?_⟩)
    rw [en]
    exact ((swo_name (fun x : Str => x)).refl n').symm
  · exact PySem.W.kat_no (oneLt_str ⟨rfl, rfl⟩)
theorem nm_sortable {a : Addr} {vs : List Value} {k : Value → Str × V} (h0 : 0 < vs.length) (hp : ∀ v ∈ vs, IsNm s.heap v (k v).1 (k v).2) (inj : ∀ u ∈ vs, ∀ v ∈ vs, (k u).1 = (k v).1 → u = v) (ha : ∀ o, s.heap.get? a = some o → o.cls ≠ .type "tuple") :
    SrtO.SortableO prog w A s a vs fun u v => ltS (k u).1 (k v).1 := by
  intro h' keep
  have hp' : ∀ v ∈ vs, IsNm h' v (k v).1 (k v).2 := fun v hm => (hp v hm).keeps fun b o e c => keep b o (fun z => by rw [z] at e; exact ha o e c) e
  obtain ⟨fs, h1, h2, h3⟩ := nm_firsts vs fun v hm => ⟨_, _, hp' v hm⟩
  refine ⟨tuples' true, fun Q E hq => ?_, nm_cmp hp' inj⟩
  refine PySem.W.kat_kind (T := .type "str") h1 (by omega) (fun f hm => ?_) (by rfl) ?_
  · obtain ⟨n, t, rfl⟩ := h3 f hm
    exact PySem.W.Looks.now
  · have e : (Value.type "str" != Value.type "tuple") = true := by decide +kernel
    rw [e]
    exact hq
end
end Vx
namespace Vx
open PySem PySem.Spec PyProof.Rows L2
/-- what is tracked stands in the heap -/
theorem objOk_there {P : Program} {w : World} {H : Hp} {h : Heap} {a : Addr} {o : HO} (x : ObjOk P w H h a o) : ∃ u, h.get? a = some u := by
  induction o with
  | lst xs => obtain ⟨_, _, _, _, e⟩ := x; exact ⟨_, e⟩
  | tup xs => obtain ⟨_, _, _, o, e, _⟩ := x; exact ⟨o, e⟩
  | dK kvs => obtain ⟨_, _, _, _, o, _, _, e, _⟩ := x; exact ⟨o, e⟩
  | dT kvs => obtain ⟨_, _, _, _, o, _, _, e, _⟩ := x; exact ⟨o, e⟩
  | set S n => obtain ⟨o, _, _, _, e, _⟩ := x; exact ⟨o, e⟩
  | ins C dx fs => obtain ⟨_, _, _, e, _⟩ := x; exact ⟨_, e⟩
  | own y => exact x
  | xd fs => obtain ⟨_, ⟨_, _, _, e, _⟩, _⟩ := x; exact ⟨_, e⟩
  | rng lo hi => obtain ⟨_, _, _, e⟩ := x; exact ⟨_, e⟩
  | frz ob u => exact ⟨_, x.1⟩
  | tbl ps => exact ⟨_, x⟩
  | met f y => exact ⟨_, x⟩
  | ext φ => exact x.2.1
theorem hok_none {P : Program} {w : World} {H : Hp} {h : Heap} {a : Addr} (x : HOk P w H h) (e : h.get? a = none) : H a = none := by
  cases q : H a with
  | none => rfl
  | some o =>
    obtain ⟨u, z⟩ := objOk_there (x a o q)
    rw [e] at z
    cases z
/-- sorted(xs), xs a list or a tuple of pairs of a text and a flat value, no text twice -/
def rSortedNm (K : PySem.W.Frag) : List V → Hp → VK → Prop := fun vs H Q => ∃ (a : Addr) (xs : List V) (k : V → Str × V), vs = [V.ref a] ∧ (SqL K H a xs ∨ SqT K H a xs) ∧ (∀ x ∈ xs, ∃ t, x = V.ref t ∧ SqT K H t [.str (k x).1, (k x).2] ∧ flatV (k x).2 = true) ∧
  (∀ x ∈ xs, ∀ y ∈ xs, (k x).1 = (k y).1 → x = y) ∧ ∀ ys p, ys.Perm xs → SrtO.Srtd (fun x y => ltS (k x).1 (k y).1) ys → H p = none → Q (.ref p) (upd H p (.lst ys))
section
variable {X : Cx}
theorem cr_sortedNm : CallR X (.builtin "sorted") (rSortedNm X.K) := by
  intro pins s σ H vs us Q I r h
  obtain ⟨a, xs, k, rfl, hs, hx, inj, q⟩ := h
  obtain ⟨u, rfl, ru⟩ := vals1 r
  obtain rfl : u = Value.ref a := ru
  have key : ∀ (T : String) (o : Obj) (n : Nat) (its : List Value), Vals xs its → xs.length ≤ sizeLine → (T = "list" ∨ T = "tuple") → s.heap.get? a = some o → o.cls = .type T → o.data = .seq its.toArray n →
      wpAny (model X.prog X.w) X.A (call (.builtin "sorted") [.ref a]) (EP X pins σ Q) X.xe s := by
    intro T o n its rv hz hT ho hc hd
    obtain ⟨e1, e2⟩ := refs_back rv fun x m => by
      obtain ⟨t, e, _⟩ := hx x m
      exact ⟨t, e⟩
    have isnm : ∀ v ∈ its, IsNm s.heap v (k (backV v)).1 (k (backV v)).2 := fun v hv => by
      obtain ⟨t, rfl⟩ := e2 v hv
      have hm : V.ref t ∈ xs := by rw [e1]; exact List.mem_map.mpr ⟨_, hv, rfl⟩
      obtain ⟨t', e, ht, hf⟩ := hx _ hm
      cases e
      obtain ⟨its2, r2, ⟨o, ho, hc, n, hd⟩, _⟩ := I.tuple ht
      obtain ⟨u1, u2, rfl, ri, rj⟩ := vals2 r2
      obtain ⟨t1, rfl⟩ := ri
      exact ⟨t, o, t1, u2, n, rfl, ho, hc, hd, rj, hf⟩
    have inj' : ∀ u ∈ its, ∀ v ∈ its, (k (backV u)).1 = (k (backV v)).1 → u = v := fun u hu v hv z => by
      obtain ⟨t, rfl⟩ := e2 u hu
      obtain ⟨t', rfl⟩ := e2 v hv
      have m1 : V.ref t ∈ xs := by rw [e1]; exact List.mem_map.mpr ⟨_, hu, rfl⟩
      have m2 : V.ref t' ∈ xs := by rw [e1]; exact List.mem_map.mpr ⟨_, hv, rfl⟩
      cases inj _ m1 _ m2 z
      rfl
    refine sorted_seq (ltv := fun u v => ltS (k (backV u)).1 (k (backV v)).1) (swo_name _) hT ho hc hd (by rw [← rv.length]; exact hz) (fun h2 h1 b hb kk => ?_) fun h' d out m h1 h2 kp hn hd' => ?_
    · refine nm_sortable (s := { s with heap := h1 }) (k := fun v => k (backV v)) (by omega) (fun v hm => (isnm v hm).keeps fun c o e _ => (kk c o e).2) inj' fun o e => ?_
      have e' : some o = some (seqObj "list" its.toArray 0) := e.symm.trans hb
      cases e'
      intro c
      exact absurd (Value.type.inj c) (by decide)
    · have h3 : ∀ u ∈ out, ∃ a, u = Value.ref a := fun u hu => e2 u (h2.perm.mem_iff.mp hu)
      have hb : (out.map backV).Perm xs := by
        rw [e1]
        exact h2.perm.map _
      have nH : H d = none := hok_none I.hok hn
      refine ⟨.ref d, upd H d (.lst (out.map backV)), Inv.laidN (t' := s.toks) I kp hn nH ⟨by rw [hb.length_eq]; exact hz, out, m, vals_back h3, hd'⟩, rfl, q _ d hb (SrtO.srtd_map (f := backV) h1) nH⟩
  rcases hs with hs | hs
  · obtain ⟨its, rv, ⟨o, n, ho, hc, _, hd⟩, hz⟩ := I.list hs
    exact key "list" o n its rv hz (.inl rfl) ho hc hd
  · obtain ⟨its, rv, ⟨o, ho, hc, n, hd⟩, hz⟩ := I.tuple hs
    exact key "tuple" o n its rv hz (.inr rfl) ho hc hd
end
end Vx
namespace Vx
open PySem PySem.Spec PyProof.Rows L2
/-! ### defs that are called where no repr is under way -/
structure FnG (P : Program) (w : World) (K : PySem.W.Frag) (mg : Str → Option Value) (base : Heap) (k : Nat) (f : Addr) (fd : FuncData) (ps : List Str) (sp : Sp) : Prop where
  len : ∀ vs H Q E, sp vs H Q E → vs.length = ps.length
  run : ∀ (A : Around) (outer : List Env) (s : Shared) (H : Hp) (args : Args) (us : List Value) (vs : List V) (Q : VK), A.guards = some [] → Room k A → Env0 P w K mg base A outer s H → BindsTo s fd args (ps.zip us) → Vals vs us → sp vs H Q L2.E0 →
    codeAny (model P w) A (.call (.ref f) args) (CR L2.CX0 outer P w H s Q L2.E0) s
section
variable {P : Program} {w : World} {K : PySem.W.Frag} {mg : Str → Option Value} {base : Heap}
theorem FnG.mono {j k : Nat} {f : Addr} {fd : FuncData} {ps : List Str} {sp : Sp} (F : FnG P w K mg base j f fd ps sp) (h : j ≤ k) : FnG P w K mg base k f fd ps sp :=
  ⟨F.len, fun A outer s H args us vs Q hg hr => F.run A outer s H args us vs Q hg (hr.mono h)⟩
theorem fun_okG {x qual : Str} {st : Stmt} {f : Addr} {fd : FuncData} {N ps : List Str} {k : Nat} {sp : Sp} (F : L2.Fun K x qual st f fd) (S : FnScope N ps (defScope st)) (len : ∀ vs H Q E, sp vs H Q E → vs.length = ps.length)
    (hbody : ∀ (cdv : Value) (A : Around) (outer : List Env) (s : Shared) (H : Hp) (vs : List V) (Q : VK), A.guards = some [] → Room k (A.deeper (envOfC qual (defScope st) s.heap.objs.size f cdv)) → sp vs H Q L2.E0 →
      ∃ t, PSs (cxOf L2.CX0 P w K mg base N qual (defScope st) f cdv A outer s H L2.E0).nox (defBody st) t ∧ t { nx := fun _ H' => Q .non H', rt := Q } (start N vs) H) : FnG P w K mg base (k + 1) f fd ps sp := by
  obtain ⟨oc, od, kV, doc, pm, an, cdv, ct, osl, rfl, lk, hcd⟩ := F.ex
  refine ⟨len, fun A outer s H args us vs Q hg hr e0 hb r hsp => LamX.run_ofS lk hcd S hr e0 hb r (len _ _ _ _ hsp) fun hr2 => ?_⟩
  obtain ⟨t, ht, hq⟩ := hbody cdv A outer s H vs Q hg hr2 hsp
  exact ⟨t, ht.nox, hq⟩
end
section
variable {X : Cx} {k : Nat} {f : Addr} {fd : FuncData} {ps : List Str} {sp : Sp} {x : Str} {p pos : Pos} {e : Expr} {es : List Expr} {t : TA}
theorem pe_callG (F : FnG X.prog X.w X.K X.mg X.base k f fd ps sp) (hG : X.A.guards = some []) (hr : Room k X.A) (hg : Gl X x) (hm : X.mg x = some (.ref f)) (hk : PySem.W.keepIn X.K (.ref f) = true) (hb : Binds X.K fd ps []) (ha : PA X (e :: es) t)
    (hdb : (x == ("__debug__" : Str)) = false := by decide) (he : starEach (e :: es) X.env = (false, eval e X.env) :: starEach es X.env := by rfl) (hpl : (backTo pos (starEach es X.env)).any (·.1) = false := by rfl) :
    PE X (.Call (.Name x p) (e :: es) [] pos) (tCall sp [] L2.E0 t) := by
  refine ⟨fun pins s σ H Q I h => ?_⟩
  refine wpAny_Call_Name_kw (ld_glob I hg hm ?_ hdb)
  refine PySem.W.callWith_K (h₀ := X.base) I.ok.mod.kin hk (thn (ha.run pos pins s σ H _ I h) fun us s1 hh => ?_) he hpl
  obtain ⟨vs, H1, I1, r, q⟩ := hh
  rw [List.append_nil] at q
  have hl : us.length = ps.length := r.length.symm.trans (F.len _ _ _ _ q)
  have bb : BindsTo s1 fd ⟨us, []⟩ (ps.zip us) := by
    have z := hb s1 us I1.kIn (by rw [List.append_nil]; exact hl)
    rw [List.append_nil] at z
    exact z
  refine ⟨I1.kIn, wpAny_call (codeAny_mono (F.run X.A X.stack s1 H1 ⟨us, []⟩ us vs Q hG hr I1.env0 bb r q) fun z s2 hq => ?_)⟩
  match z, hq with
  | .error e, hq => exact (show False from hq).elim
  | .ok (.ret u), hq => exact I1.after hq
end
end Vx
namespace Vx
open PySem PySem.Spec PyProof.Rows L2
/-! ### lists of bools -/
theorem dp_bools {K : PySem.W.Frag} {H : Hp} : ∀ bs : List Bool, DpAll K H (bs.map V.bl) (bs.map PyData.bool)
  | [] => .nil
  | b :: bs => .cons (.bl b) (dp_bools bs)
theorem count_bools (k : Bool) : ∀ bs : List Bool, countIn (.bool k) (bs.map PyData.bool) = ((bs.count k : Nat) : Int)
  | [] => rfl
  | b :: bs => by
    rw [List.map_cons, countIn, count_bools k bs, List.count_cons]
    cases b <;> cases k <;> simp [same] <;> omega
section
variable {X : Cx}
def rCountB (K : PySem.W.Frag) : V → List V → Hp → VK → Prop := fun x xs H Q => ∃ (p : Addr) (bs : List Bool) (k : Bool), x = .ref p ∧ xs = [.bl k] ∧ SqL K H p (bs.map V.bl) ∧ Q (.int ((bs.count k : Nat) : Int)) H
theorem mt_countB : MtR X "list.count" (rCountB X.K) := by
  intro pins s σ H x xs v us Q I rx rxs h
  obtain ⟨p, bs, k, rfl, rfl, hs, q⟩ := h
  cases (show v = Value.ref p from rx)
  obtain ⟨u, rfl, ru⟩ := vals1 rxs
  cases (show u = Value.bool k from ru)
  obtain ⟨its, rv, hl, _⟩ := I.list hs
  obtain ⟨as, ra⟩ := Dp.readsAll I _ _ _ (dp_bools bs) rv
  refine count_list_bools hl.isList ra (by induction bs with
    | nil => rfl
    | cons b r _ => simp [Shape.has, List.all_map]) ?_
  rw [count_bools]
  exact ⟨.int _, H, I.tok _, ⟨_, rfl⟩, q⟩
end
end Vx
namespace Vx
open PySem PySem.Spec PyProof.Rows L2
/-! ### comprehensions whose parts only add to the heap -/
theorem same_new {H : Hp} {p : Addr} {o : HO} (h : H p = none) : Same H (upd H p o) := fun b u e => by rw [upd_ne (ne_of_none e h)]; exact e
theorem same_T {K : PySem.W.Frag} {H H' : Hp} {a : Addr} {xs : List V} (e : Same H H') (h : SqT K H a xs) : SqT K H' a xs := by
  rcases h with (h | ⟨o, h⟩) | h
  · exact .inl (.inl (e _ _ h))
  · exact .inl (.inr ⟨o, e _ _ h⟩)
  · exact .inr h
/-- what a comprehension has behind n turns: turn i takes part if p i, its value is f i -/
def took (n : Nat) (p : Nat → Bool) (f : Nat → V) : List V := ((List.range n).filter p).map f
theorem took_succ (n : Nat) (p : Nat → Bool) (f : Nat → V) : took (n + 1) p f = took n p f ++ if p n = true then [f n] else [] := by
  unfold took
  rw [List.range_succ, List.filter_append, List.map_append]
  by_cases h : p n = true
  · rw [if_pos h, List.filter_cons_of_pos h]; rfl
  · rw [if_neg h, List.filter_cons_of_neg h]; rfl
theorem took_le (n : Nat) (p : Nat → Bool) (f : Nat → V) : (took n p f).length ≤ n := by
  unfold took
  rw [List.length_map]
  exact Nat.le_trans (List.length_filter_le _ _) (by simp)
theorem took_list {α : Type} (p : α → Bool) (f : α → V) (d : α) : ∀ ds : List α, took ds.length (fun i => p (ds.getD i d)) (fun i => f (ds.getD i d)) = (ds.filter p).map f := by
  intro ds
  have key : ∀ n, n ≤ ds.length → took n (fun i => p (ds.getD i d)) (fun i => f (ds.getD i d)) = ((ds.take n).filter p).map f := by
    intro n
    induction n with
    | zero => intro _; rfl
    | succ n ih =>
      intro h
      have e : ds.take (n + 1) = ds.take n ++ [ds.getD n d] := by
        rw [List.take_succ_eq_append_getElem (by omega)]
        congr 1
        simp [List.getD, List.getElem?_eq_getElem (show n < ds.length by omega)]
      rw [took_succ, ih (by omega), e, List.filter_append, List.map_append]
      by_cases q : p (ds.getD n d) = true
      · rw [if_pos q, List.filter_cons_of_pos q]; rfl
      · rw [if_neg q, List.filter_cons_of_neg q]; rfl
  rw [key _ (Nat.le_refl _), List.take_length]
/-- the turns of such a comprehension from H1 on, its list at D -/
structure Adds (H1 : Hp) (D : Addr) (p : Nat → Bool) (f : Nat → V) (i : Nat) (H : Hp) : Prop where
  same : Same H1 H
  at_ : H D = some (.lst (took i p f))
section
variable {H1 : Hp} {D : Addr} {p : Nat → Bool} {f : Nat → V} {σ : L2.St} {j : Nat} {tt : TT} {te : TE} {xs : List V}
theorem Adds.first (hD : H1 D = none) : Adds H1 D p f 0 (upd H1 D (.lst [])) := ⟨same_new hD, upd_same⟩
theorem Adds.turn (hD : H1 D = none) (hn : xs.length < sizeLine) (ht : ∀ i x H' (Q' : Bool → Hp → Prop), xs[i]? = some x → Same H1 H' → (∀ H'', Same H' H'' → Q' (p i) H'') → tt ((wipe σ [j]).set j (some x)) H' Q')
    (he : ∀ i x H' (Q' : VK), xs[i]? = some x → p i = true → Same H1 H' → (∀ H'', Same H' H'' → Q' (f i) H'') → te ((wipe σ [j]).set j (some x)) H' Q') (i : Nat) (x : V) (H : Hp) (hx : xs[i]? = some x) (A : Adds H1 D p f i H) :
    gName j x (wipe σ [j]) H fun σ2 H2 => wipe σ2 [j] = wipe σ [j] ∧ tt σ2 H2 fun b H3 => if b = true then te σ2 H3 fun y H4 => ∃ acc, H4 D = some (.lst acc) ∧ acc.length < sizeLine ∧ Adds H1 D p f (i + 1) (upd H4 D (.lst (acc ++ [y]))) else Adds H1 D p f (i + 1) H3 := by
  have hi : i < xs.length := (List.getElem?_eq_some_iff.mp hx).1
  refine ⟨?_, ht i x H _ hx A.same fun H'' s => ?_⟩
  · simp [wipe]
  · have d : H'' D = some (.lst (took i p f)) := s _ _ A.at_
    have s1 : Same H1 H'' := A.same.trans s
    refine ite2 (fun c => ?_) (fun c => ?_)
    · refine he i x H'' _ hx c s1 fun H4 s2 => ?_
      refine ⟨_, s2 _ _ d, Nat.lt_of_le_of_lt (took_le _ _ _) (by omega), fun b o e => ?_, ?_⟩
      · rw [upd_ne (ne_of_none e hD)]
        exact s2 _ _ (s1 _ _ e)
      · rw [upd_same, took_succ, if_pos c]
    · exact ⟨s1, by rw [took_succ, if_neg c, List.append_nil]; exact d⟩
/-- [e for x in xs if t], xs a tuple -/
theorem lc_addT {K : PySem.W.Frag} {a : Addr} {Qd : Hp → Prop} (hD : H1 D = none) (hs : SqT K H1 a xs) (hn : xs.length < sizeLine)
    (ht : ∀ i x H' (Q' : Bool → Hp → Prop), xs[i]? = some x → Same H1 H' → (∀ H'', Same H' H'' → Q' (p i) H'') → tt ((wipe σ [j]).set j (some x)) H' Q')
    (he : ∀ i x H' (Q' : VK), xs[i]? = some x → p i = true → Same H1 H' → (∀ H'', Same H' H'' → Q' (f i) H'') → te ((wipe σ [j]).set j (some x)) H' Q')
    (q : ∀ H2, Same H1 H2 → H2 D = some (.lst (took xs.length p f)) → Qd H2) :
    ∃ W : Nat → Nat → Hp → Prop, (∃ m, W 0 m (upd H1 D (.lst []))) ∧ ∀ i m H, W i m H →
      ((Itt K a).stop i H ∧ Qd H) ∨ ((Itt K a).go i H ∧ ∃ Nx : Hp → Prop, (∀ H', Nx H' → ∃ m', m' < m ∧ W (i + 1) m' H') ∧ ∀ x H', (Itt K a).yld i H x H' → gName j x (wipe σ [j]) H' fun σ2 H2 => wipe σ2 [j] = wipe σ [j] ∧ tt σ2 H2 fun b H3 =>
        if b = true then te σ2 H3 fun y H4 => ∃ acc, H4 D = some (.lst acc) ∧ acc.length < sizeLine ∧ Nx (upd H4 D (.lst (acc ++ [y]))) else Nx H3) :=
  lc_tup (K := K) (a := a) (xs := xs) (Qd := Qd) (Adds H1 D p f) (Adds.first hD) (fun _ _ _ A => same_T A.same hs) (Adds.turn hD hn ht he) fun H A => q H A.same A.at_
/-- .. xs a list -/
theorem lc_addL {K : PySem.W.Frag} {a : Addr} {Qd : Hp → Prop} (hD : H1 D = none) (hs : SqL K H1 a xs) (hn : xs.length < sizeLine)
    (ht : ∀ i x H' (Q' : Bool → Hp → Prop), xs[i]? = some x → Same H1 H' → (∀ H'', Same H' H'' → Q' (p i) H'') → tt ((wipe σ [j]).set j (some x)) H' Q')
    (he : ∀ i x H' (Q' : VK), xs[i]? = some x → p i = true → Same H1 H' → (∀ H'', Same H' H'' → Q' (f i) H'') → te ((wipe σ [j]).set j (some x)) H' Q')
    (q : ∀ H2, Same H1 H2 → H2 D = some (.lst (took xs.length p f)) → Qd H2) :
    ∃ W : Nat → Nat → Hp → Prop, (∃ m, W 0 m (upd H1 D (.lst []))) ∧ ∀ i m H, W i m H →
      ((Itl K a).stop i H ∧ Qd H) ∨ ((Itl K a).go i H ∧ ∃ Nx : Hp → Prop, (∀ H', Nx H' → ∃ m', m' < m ∧ W (i + 1) m' H') ∧ ∀ x H', (Itl K a).yld i H x H' → gName j x (wipe σ [j]) H' fun σ2 H2 => wipe σ2 [j] = wipe σ [j] ∧ tt σ2 H2 fun b H3 =>
        if b = true then te σ2 H3 fun y H4 => ∃ acc, H4 D = some (.lst acc) ∧ acc.length < sizeLine ∧ Nx (upd H4 D (.lst (acc ++ [y]))) else Nx H3) :=
  lc_list (K := K) (a := a) (xs := xs) (Qd := Qd) (Adds H1 D p f) (Adds.first hD) (fun _ _ _ A => A.same.seq hs) (Adds.turn hD hn ht he) fun H A => q H A.same A.at_
end
end Vx
namespace Vx
open PySem PySem.Spec PyProof.Rows L2
/-- the name of a datum's type -/
def tyD : PyData → String
  | .none => "NoneType"
  | .bool _ => "bool"
  | .int _ => "int"
  | .str _ => "str"
  | .list _ => "list"
  | .tuple _ => "tuple"
  | .dict _ => "dict"
theorem sqL_ty {K : PySem.W.Frag} {H : Hp} {a : Addr} {xs : List V} (h : SqL K H a xs) : TyX K H (.ref a) (.type "list") := by
  rcases h with (h | ⟨o, h⟩) | ⟨o, _, _, e, c, _⟩
  · exact .base (.lst h)
  · exact .base (.frz h)
  · exact .kList e c
theorem sqT_ty {K : PySem.W.Frag} {H : Hp} {a : Addr} {xs : List V} (h : SqT K H a xs) : TyX K H (.ref a) (.type "tuple") := by
  rcases h with (h | ⟨o, h⟩) | ⟨o, _, _, e, c, _⟩
  · exact .base (.tup h)
  · exact .fTuple h
  · exact .kTuple e c
theorem Dq.ty {K : PySem.W.Frag} {H : Hp} {v : V} {d : PyData} (h : Dq K H v d) : TyX K H v (.type (tyD d)) := by
  cases h with
  | non => exact .base .non
  | bl b => exact .base (.bl b)
  | int i => exact .base (.int i)
  | str x => exact .base (.str x)
  | lst h _ _ => exact sqL_ty h
  | tup h _ => exact sqT_ty h
  | emp h => exact .base (.dK h)
theorem DqAll.len {K : PySem.W.Frag} {H : Hp} : ∀ {vs : List V} {ds : List PyData}, DqAll K H vs ds → vs.length = ds.length
  | _, _, .nil => rfl
  | _, _, .cons _ t => by rw [List.length_cons, List.length_cons, DqAll.len t]
theorem DqAll.get {K : PySem.W.Frag} {H : Hp} : ∀ {vs : List V} {ds : List PyData} {i : Nat} {d : PyData}, DqAll K H vs ds → ds[i]? = some d → ∃ v, vs[i]? = some v ∧ Dq K H v d
  | _, _, _, _, .nil, e => by simp at e
  | _, _, 0, _, .cons h _, e => by
    simp at e
    subst e
    exact ⟨_, rfl, h⟩
  | _, _, i + 1, d, .cons _ t, e => by
    obtain ⟨v, h1, h2⟩ := DqAll.get (i := i) t (by simpa using e)
    exact ⟨v, by simpa using h1, h2⟩
/-- the class of a built-in type, by its name -/
theorem pe_ty {X : Cx} (n : String) {x : Str} {pos : Pos} (hg : Gl X x) (hm : X.mg x = none) (hv : bootBuiltins x = some (.type n) := by decide +kernel) (hn : x ≠ "__name__" := by decide) (hd : (x == ("__debug__" : Str)) = false := by decide) : PE X (.Name x pos) (tC (.ty n)) := pe_bltn hg hm hv rfl hn hd
/-- a datum's type beside another one -/
def isTy (n : String) (d : PyData) : Bool := tyD d == n || (n == "int" && tyD d == "bool")
theorem kit_names : ∀ a ∈ ["NoneType", "bool", "int", "str", "list", "tuple", "dict"], ∀ n ∈ ["int", "bool", "str", "tuple", "list"], kitB a n = some (a == n || (n == "int" && a == "bool")) := by decide +kernel
theorem tyD_mem (d : PyData) : tyD d ∈ ["NoneType", "bool", "int", "str", "list", "tuple", "dict"] := by cases d <;> simp [tyD]
theorem kit_tyD {K : PySem.W.Frag} (d : PyData) (n : String) (h : n ∈ ["int", "bool", "str", "tuple", "list"] := by simp) : PySem.W.kitOne K (.type (tyD d)) (.type n) = some (isTy n d) := kit_ty (kit_names _ (tyD_mem d) n h)
theorem same_L {K : PySem.W.Frag} {H H' : Hp} {a : Addr} {xs : List V} (e : Same H H') (h : SqL K H a xs) : SqL K H' a xs := e.seq h
mutual
theorem Dq.same {K : PySem.W.Frag} {H H' : Hp} (e : Same H H') : ∀ (d : PyData) (v : V), Dq K H v d → Dq K H' v d
  | .none, _, h => by cases h; exact .non
  | .bool _, _, h => by cases h; exact .bl _
  | .int _, _, h => by cases h; exact .int _
  | .str _, _, h => by cases h; exact .str _
  | .list ds, _, h => by
    cases h with
    | lst a b c => exact .lst (same_L e a) b (Dq.sameAll e ds _ c)
  | .tuple ds, _, h => by
    cases h with
    | tup a c => exact .tup (same_T e a) (Dq.sameAll e ds _ c)
  | .dict _, _, h => by
    cases h with
    | emp h => exact .emp (e _ _ h)
theorem Dq.sameAll {K : PySem.W.Frag} {H H' : Hp} (e : Same H H') : ∀ (ds : List PyData) (vs : List V), DqAll K H vs ds → DqAll K H' vs ds
  | [], _, h => by cases h; exact .nil
  | d :: ds, _, h => by
    cases h with
    | cons a b => exact .cons (Dq.same e d _ a) (Dq.sameAll e ds _ b)
end
theorem Dq.tupled {K : PySem.W.Frag} {H : Hp} {v : V} {d : PyData} (h : Dq K H v d) (c : isTy "tuple" d = true) : ∃ a xs ds, v = .ref a ∧ d = .tuple ds ∧ SqT K H a xs ∧ DqAll K H xs ds := by
  cases h with
  | tup a b => exact ⟨_, _, _, rfl, rfl, a, b⟩
  | _ => simp [isTy, tyD] at c
theorem two_of {K : PySem.W.Frag} {H : Hp} : ∀ {xs : List V} {ds : List PyData}, DqAll K H xs ds → xs.length = 2 → ∃ v0 v1 d0 d1, xs = [v0, v1] ∧ ds = [d0, d1] ∧ Dq K H v0 d0 ∧ Dq K H v1 d1
  | _, _, .nil, e => by simp at e
  | _, _, .cons _ .nil, e => by simp at e
  | _, _, .cons a (.cons b .nil), _ => ⟨_, _, _, _, rfl, rfl, a, b⟩
  | _, _, .cons _ (.cons _ (.cons _ _)), e => by simp at e
/-- the kinds of values of facts -/
def isFlat : PyData → Bool
  | .bool _ => true
  | .int _ => true
  | .str _ => true
  | _ => false
/-- a pair of a text and a bool, an int or a text -/
def isPair : PyData → Bool
  | .tuple [.str _, x] => isFlat x
  | _ => false
theorem kit_flat {K : PySem.W.Frag} (d : PyData) : PySem.W.kitAny K (.type (tyD d)) [.type "int", .type "str"] = some (isFlat d) := by
  have z : isFlat d = (isTy "int" d || isTy "str" d) := by cases d <;> rfl
  rw [z]
  refine kitAny_cons (kit_tyD d "int") (fun e => ?_) (fun e => by rw [e]; rfl)
  rw [e, Bool.false_or]
  exact kitAny_cons (kit_tyD d "str") (fun e => by rw [e]; exact kitAny_nil) (fun e => e)
theorem isPair_two (d0 d1 : PyData) : isPair (.tuple [d0, d1]) = (isTy "str" d0 && isFlat d1) := by
  cases d0 <;> first | rfl | (cases d1 <;> rfl)
theorem isPair_len {ds : List PyData} (h : ds.length ≠ 2) : isPair (.tuple ds) = false := by
  match ds, h with
  | [], _ => rfl
  | [a], _ => cases a <;> rfl
  | [_, _], h => exact absurd rfl h
  | a :: _ :: _ :: _, _ => cases a <;> rfl
theorem isPair_not {d : PyData} (h : isTy "tuple" d = false) : isPair d = false := by
  cases d with
  | tuple _ => simp [isTy, tyD] at h
  | _ => rfl
end Vx
namespace Kx
open PySem L2 Vx
abbrev sIsPair : Stmt := top 6
/-- a promise about data: v is the datum d, the answer is r d, the heap stays or grows -/
def spData (K : PySem.W.Frag) (r : PyData → Bool) : Sp := fun vs H Q _ => ∃ (v : V) (d : PyData), vs = [v] ∧ Dq K H v d ∧ ∀ H', Same H H' → Q (.bl (r d)) H'
structure TxtI (K : PySem.W.Frag) (mg : Str → Option Value) : Prop where
  len : mg "len" = none
  isi : mg "isinstance" = none
  tup : mg "tuple" = none
  int : mg "int" = none
  str : mg "str" = none
section
variable {P : Program} {w : World} {K : PySem.W.Frag} {mg : Str → Option Value} {base : Heap}
theorem scIsPair : FnScope ["value"] ["value"] (defScope sIsPair) := ⟨rfl, rfl, rfl, by decide +kernel, rfl, by decide +kernel, by decide +kernel⟩
theorem ok_isPair {f : Addr} {fd : FuncData} (F : Fun K "is_pair" "is_pair" sIsPair f fd) (T : TxtI K mg) : FnOk P w K mg base CX0 1 f fd ["value"] (spData K isPair) := by
  refine F.ok scIsPair (fun vs H Q E h => ?_) (fun cdv A outer s H vs Q E hr h => ?_)
  · obtain ⟨v, d, rfl, _⟩ := h
    rfl
  · obtain ⟨v, d, rfl, hd, k⟩ := h
    refine ⟨_, pss_one (ps_ret (pe_and (pe_callB call_isi (by rfl) T.isi (by decide +kernel) (pa_cons (pv 0) (pa_cons (pe_ty "tuple" (by rfl) T.tup) pa_nil)))
      (pe_and (pe_cmpR op_eq (pe_callB call_len_seq (by rfl) T.len PySem.boot_len (pa_cons (pv 0) pa_nil)) pe_int (nomark _))
      (pe_and (pe_callB call_isi (by rfl) T.isi (by decide +kernel) (pa_cons (pe_ix ix_tup (pv 0) pe_int (fun _ _ => rfl)) (pa_cons (pe_ty "str" (by rfl) T.str) pa_nil)))
      (pe_one (pe_callB call_isiT (by rfl) T.isi (by decide +kernel) (pa_cons (pe_ix ix_tup (pv 0) pe_int (fun _ _ => rfl)) (pa_cons (pe_tup (pa_cons (pe_ty "int" (by rfl) T.int) (pa_cons (pe_ty "str" (by rfl) T.str) pa_nil))) pa_nil)))))))), ?_⟩
    refine ⟨_, rfl, v, _, _, _, _, rfl, .ty _, hd.ty, kit_tyD d "tuple", _, rfl, ?_⟩
    refine ite2 (fun c => ?_) (fun c => ?_)
    · obtain ⟨a, xs, ds, rfl, rfl, hs, ha⟩ := hd.tupled c
      have hlen := ha.len
      refine ⟨_, rfl, _, xs, rfl, .inr hs, rfl, _, rfl, ?_⟩
      refine ite2 (fun c2 => ?_) (fun c2 => ?_)
      · have c3 : xs.length = 2 := by
          have := V.int.inj (of_decide_eq_true c2)
          omega
        obtain ⟨v0, v1, d0, d1, rfl, rfl, h0, h1⟩ := two_of ha c3
        refine ⟨_, rfl, _, _, _, _, rfl, rfl, hs, rfl, v0, _, _, _, _, rfl, .ty _, h0.ty, kit_tyD d0 "str", _, rfl, ?_⟩
        refine ite2 (fun c4 => ?_) (fun c4 => ?_)
        · refine ⟨_, rfl, _, _, _, _, rfl, rfl, hs, rfl, by show 2 ≤ sizeLine; decide, fun p hp => ?_⟩
          have e := same_new (o := .tup [.ty "int", .ty "str"]) hp
          have h1' := Dq.same e d1 v1 h1
          refine ⟨v1, p, _, _, _, _, rfl, upd_same, .cons (.ty _) (.cons (.ty _) .nil), h1'.ty, kit_flat d1, ?_⟩
          have z := isPair_two d0 d1
          rw [c4, Bool.true_and] at z
          exact z ▸ k _ e
        · have z := isPair_two d0 d1
          rw [show isTy "str" d0 = false from by simpa using c4, Bool.false_and] at z
          exact z ▸ k _ (Same.refl _)
      · have z : isPair (.tuple ds) = false := isPair_len fun e => c2 (by rw [hlen, e]; rfl)
        exact z ▸ k _ (Same.refl _)
    · have z : isPair d = false := isPair_not (by simpa using c)
      exact z ▸ k _ (Same.refl _)
end
end Kx
namespace Vx
open PySem PySem.Spec PyProof.Rows L2
/-- a pair's name, its value -/
def nmD : PyData → Str
  | .tuple (.str x :: _) => x
  | _ => Str.empty
def vlD : PyData → PyData
  | .tuple [_, x] => x
  | _ => .none
def areFacts : PyData → Bool
  | .tuple ds => ds.all isPair && decide ((ds.map nmD).Nodup)
  | _ => false
theorem areFacts_not {d : PyData} (h : isTy "tuple" d = false) : areFacts d = false := by
  cases d with
  | tuple _ => simp [isTy, tyD] at h
  | _ => rfl
theorem isPair_form {d : PyData} (c : isPair d = true) : ∃ x d1, d = .tuple [.str x, d1] ∧ isFlat d1 = true := by
  unfold isPair at c
  split at c
  · exact ⟨_, _, rfl, c⟩
  · cases c
theorem Dq.paired {K : PySem.W.Frag} {H : Hp} {v : V} {d : PyData} (h : Dq K H v d) (c : isPair d = true) : ∃ a x v1 d1, v = .ref a ∧ d = .tuple [.str x, d1] ∧ SqT K H a [.str x, v1] ∧ Dq K H v1 d1 ∧ isFlat d1 = true := by
  obtain ⟨x, d1, rfl, c1⟩ := isPair_form c
  obtain ⟨a, xs, ds, rfl, e, hs, ha⟩ := h.tupled rfl
  injection e with e
  subst e
  obtain ⟨v0, v1, e0, e1, rfl, e, h0, h1⟩ := two_of ha ha.len
  injection e with e2 e
  injection e with e3 _
  subst e2 e3
  cases h0
  exact ⟨a, x, v1, d1, rfl, rfl, hs, h1, c1⟩
theorem DqAll.at_ {K : PySem.W.Frag} {H : Hp} {vs : List V} {ds : List PyData} {i : Nat} {x : V} (h : DqAll K H vs ds) (e : vs[i]? = some x) (d0 : PyData) : Dq K H x (ds.getD i d0) := by
  have hl := h.len
  have hi : i < vs.length := (List.getElem?_eq_some_iff.mp e).1
  obtain ⟨v, h1, h2⟩ := h.get (i := i) (List.getElem?_eq_getElem (by omega : i < ds.length))
  rw [e] at h1
  cases h1
  simpa [List.getD, List.getElem?_eq_getElem (by omega : i < ds.length)] using h2
theorem took_all {α : Type} (f : α → V) (d : α) (ds : List α) (n : Nat) (hn : n = ds.length) : took n (fun _ => true) (fun i => f (ds.getD i d)) = ds.map f := by
  subst hn
  refine (took_list (fun _ : α => true) f d ds).trans ?_
  rw [List.filter_eq_self.mpr fun _ _ => rfl]
end Vx
namespace Kx
open PySem L2 Vx
abbrev sAreFacts : Stmt := top 7
abbrev sWithSort : Stmt := top 8
structure TxtF (K : PySem.W.Frag) (mg : Str → Option Value) : Prop extends TxtI K mg where
  all : mg "all" = none
  set : mg "set" = none
  bool : mg "bool" = none
/-- as spData, for data that are not long -/
def spDataS (K : PySem.W.Frag) (r : PyData → Bool) : Sp := fun vs H Q _ => ∃ (v : V) (d : PyData), vs = [v] ∧ Dq K H v d ∧ (∀ ds, d = .tuple ds → ds.length ≤ 4000) ∧ ∀ H', Same H H' → Q (.bl (r d)) H'
section
variable {P : Program} {w : World} {K : PySem.W.Frag} {mg : Str → Option Value} {base : Heap}
abbrev nAreFacts : List Str := ["value", "one", "pair"]
theorem scAreFacts : FnScope nAreFacts ["value"] (defScope sAreFacts) := ⟨rfl, rfl, rfl, by decide +kernel, rfl, by decide +kernel, by decide +kernel⟩
theorem ok_areFacts {f f6 : Addr} {fd fd6 : FuncData} (F : Fun K "are_facts" "are_facts" sAreFacts f fd) (T : TxtF K mg) (G : FnOk P w K mg base CX0 1 f6 fd6 ["value"] (spData K isPair)) (g6 : mg "is_pair" = some (.ref f6)) (k6 : PySem.W.keepIn K (.ref f6) = true) (b6 : Binds K fd6 ["value"] []) :
    FnOk P w K mg base CX0 2 f fd ["value"] (spDataS K areFacts) := by
  refine F.ok scAreFacts (fun vs H Q E h => ?_) (fun cdv A outer s H vs Q E hr h => ?_)
  · obtain ⟨v, d, rfl, _⟩ := h
    rfl
  · obtain ⟨v, d, rfl, hd, hlen, k⟩ := h
    refine ⟨_, pss_cons (ps_if (PW.pt (pw_or (pt_not (pt_val (pe_callB call_isi (by rfl) T.isi (by decide +kernel) (pa_cons (pv 0) (pa_cons (pe_ty "tuple" (by rfl) T.tup) pa_nil)))))
        (pw_or1 (pt_not (pt_val (pe_callB (cr_all rfl) (by rfl) T.all (by decide +kernel) (pa_cons
          (pe_lc (own := [("one", 1)]) (g := gName 1) (tt := tYes) rfl scAreFacts.nd (pi_tup (pv 0)) (blkOk_by (N := nAreFacts) (sc := defScope sAreFacts) (by decide +kernel)) (fun _ _ _ _ _ => pg_name (i := 1) scAreFacts.nd rfl (Or.inl rfl)) (fun _ _ _ _ _ => pts_nil)
            (fun _ _ _ _ _ => pe_call G hr rfl g6 k6 b6 .nil pass0 (pa_cons (pv 1) pa_nil))) pa_nil))))))) 
        (pss_one (ps_ret pe_bl)) pss_nil)
      (pss_one (ps_ret (pe_cmpR op_eq (pe_lenSetT rfl (by rfl) T.len (by rfl) T.set
          (pe_lc (own := [("pair", 2)]) (g := gName 2) (tt := tYes) (te := tOp (rIxT K) (tVar 2) (tC (.int 0))) rfl scAreFacts.nd (pi_tup (pv 0)) (blkOk_by (N := nAreFacts) (sc := defScope sAreFacts) (by decide +kernel)) (fun _ _ _ _ _ => pg_name (i := 2) scAreFacts.nd rfl (Or.inl rfl)) (fun _ _ _ _ _ => pts_nil)
            (fun _ _ _ _ _ => pe_ix (r := rIxT K) ix_tup (pv 2) pe_int (fun _ _ => rfl))))
        (pe_callB call_len_seq (by rfl) T.len PySem.boot_len (pa_cons (pv 0) pa_nil)) (nomark _)))), ?_⟩
    refine ⟨_, rfl, v, _, _, _, _, rfl, .ty _, hd.ty, kit_tyD d "tuple", _, rfl, ?_⟩
    refine ite2 (fun c => ?_) (fun c => ?_)
    · refine ite2 (fun _ => ?_) (fun q => absurd rfl q)
      have z := areFacts_not (d := d) (by simpa using c)
      exact z ▸ k _ (Same.refl _)
    · obtain ⟨a, xs, ds, rfl, rfl, hs, ha⟩ := hd.tupled (by simpa using c)
      have hl : xs.length = ds.length := ha.len
      have h4 := hlen ds rfl
      have hz : xs.length < sizeLine := by rw [sizeLine_eq]; omega
      refine ⟨_, rfl, a, rfl, ⟨xs, hs⟩, fun D hD => lc_addT (p := fun _ => true) (f := fun i => V.bl (isPair (ds.getD i .none))) hD hs hz (fun i x H' Q' hx s q => q H' (Same.refl _)) (fun i x H' Q' hx _ s q => ⟨_, rfl, x, _, rfl, Dq.same s _ _ (ha.at_ hx .none), q⟩) fun H2 s2 e2 => ?_⟩
      rw [took_all (fun d => V.bl (isPair d)) PyData.none ds _ hl] at e2
      refine ⟨D, ds.map isPair, rfl, SqL.of (by rw [e2, List.map_map]; rfl), _, rfl, ?_⟩
      have eall : (ds.map isPair).all id = ds.all isPair := by rw [List.all_map]; rfl
      rw [eall]
      refine ite2 (fun c2 => ?_) (fun c2 => ?_)
      · have z : areFacts (.tuple ds) = false := by
          show (ds.all isPair && _) = false
          rw [show ds.all isPair = false from by simpa using c2, Bool.false_and]
        exact z ▸ k _ s2
      · have hall : ds.all isPair = true := by simpa using c2
        have hs2 := same_T s2 hs
        refine ⟨_, rfl, a, rfl, ⟨xs, hs2⟩, fun D2 hD2 => lc_addT (p := fun _ => true) (f := fun i => V.str (nmD (ds.getD i .none))) hD2 hs2 hz (fun i x H' Q' hx s q => q H' (Same.refl _)) (fun i x H' Q' hx _ s q => ?_) fun H3 s3 e3 => ?_⟩
        · have hi : i < ds.length := by
            have := (List.getElem?_eq_some_iff.mp hx).1
            omega
          have hp : isPair (ds.getD i .none) = true := by
            have := List.all_eq_true.mp hall _ (List.getElem_mem hi)
            simpa [List.getD, List.getElem?_eq_getElem hi] using this
          obtain ⟨b, y, v1, d1, rfl, e, hb, _, _⟩ := (Dq.same (s2.trans s) _ _ (ha.at_ hx .none)).paired hp
          refine ⟨_, rfl, b, _, _, _, rfl, rfl, hb, rfl, ?_⟩
          rw [e] at q
          exact q H' (Same.refl _)
        · rw [took_all (fun d => V.str (nmD d)) PyData.none ds _ hl] at e3
          refine ⟨D2, ds.map nmD, rfl, SqL.of (by rw [e3, List.map_map]; rfl), by rw [List.length_map]; exact h4, ?_⟩
          refine ⟨_, rfl, a, xs, rfl, .inr (same_T s3 hs2), rfl, ?_⟩
          have hu := uniq_all (ds.map nmD)
          have z : areFacts (.tuple ds) = decide (V.int ((uniq (ds.map nmD)).length : Nat) = V.int xs.length) := by
            show (ds.all isPair && decide _) = _
            rw [hall, Bool.true_and]
            refine decide_eq_decide.mpr (hu.symm.trans ⟨fun e => ?_, fun e => ?_⟩)
            · rw [e, List.length_map, hl]
            · have := V.int.inj e
              rw [List.length_map]
              omega
          exact z ▸ k _ (s2.trans s3)
end
end Kx
namespace Vx
open PySem PySem.Spec PyProof.Rows L2
/-! ### errors that keep their value -/
def spErr (K : PySem.W.Frag) : Sp := fun vs H Q _ => ∃ (a C : Addr) (v : V), vs = [.ref a, v] ∧ OexC K C ∧ PySem.W.findIn K (.ref C) "value" = some none ∧ H a = some (exo a C none) ∧
  ∀ dx, H dx = none → dx ≠ a → Q .non (upd (upd H dx (exd dx [(("value" : Str), v)])) a (exo a C (some dx)))
theorem pa_up {X : Cx} {es : List Expr} {t : TA} (h : PA X es t) : PA X es (fun σ H Q => ∃ Q0, t σ H Q0 ∧ ∀ vs H, Q0 vs H → Q vs H) :=
  ⟨fun pos pins s σ H Q I ⟨_, h0, hq⟩ => thn (h.run pos pins s σ H _ I h0) fun _ _ ⟨vs, H1, I1, r, q⟩ => ⟨vs, H1, I1, r, hq _ _ q⟩⟩
/-- what is known of an error's class at C, its __init__ at f -/
structure ErrC (K : PySem.W.Frag) (C f : Addr) : Prop where
  oex : OexC K C
  no : PySem.W.findIn K (.ref C) "value" = some none
  init : PySem.W.findIn K (.ref C) "__init__" = some (some (.ref f))
  fn : PySem.W.typeIn K (.ref f) = some (.type "function")
def tRaiseE (C : Addr) (W : WX) (ta : TA) : TS := fun _ σ H => ta σ H fun vs H1 => ∃ v, vs = [v] ∧ ∀ d, H1 d = none → W (.ref C) (some d) σ (upd H1 d (.xd [(("value" : Str), v)]))
section
variable {X : Cx} {x : Str} {C f : Addr} {k : Nat} {fd : FuncData} {e : Expr} {ta : TA} {W : WX} {p pos pos2 : Pos}
theorem ps_raiseE (hc : X.calm = true) (T : ErrC X.K C f) (F : FnOk X.prog X.w X.K X.mg X.base CX0 k f fd ["self", "value"] (spErr X.K)) (hr : Room (k + 1) X.A) (hb : Binds X.K fd ["self", "value"] []) (tk : Takes X W) (hg : Gl X x) (hm : X.mg x = some (.ref C)) (ha : PA X [e] ta)
    (hdb : (x == ("__debug__" : Str)) = false := by decide) (hs : starEach (e :: []) X.env = (false, eval e X.env) :: starEach [] X.env := by rfl) (hpl : (backTo pos (starEach [] X.env)).any (·.1) = false := by rfl) :
    PS X (.Raise (some (.Call (.Name x p) [e] [] pos)) none pos2) (tRaiseE C W ta) := by
  have z := ps_raise (pos := pos2) hc tk (pmk_oex (pos := pos) (p := p) T.oex T.init T.fn F hr hb .nil pass0 hg hm ha hdb hs hpl)
  refine ⟨fun pins s σ H D I h => (ps_raise (pos := pos2) hc tk (pmk_oex (pos := pos) (p := p) T.oex T.init T.fn F hr hb .nil pass0 hg hm (pa_up ha) hdb hs hpl)).run pins s σ H D I ⟨_, h, fun vs H1 z => ?_⟩⟩
  obtain ⟨v, rfl, q⟩ := z
  refine ⟨by show 1 ≤ 1000; decide, fun a ha => ⟨a, C, v, rfl, T.oex, T.no, upd_same, fun dx hd hn => ⟨rfl, dx, [(("value" : Str), v)], upd_same, ?_, ?_, ?_⟩⟩⟩
  · rw [upd_ne hn, upd_same]
  · rw [← hd, upd_ne hn]
  · have hd1 : H1 dx = none := by rw [← hd, upd_ne hn]
    have e : upd (del (upd (upd (upd H1 a (exo a C none)) dx (exd dx [(("value" : Str), v)])) a (exo a C (some dx))) a) dx (.xd [(("value" : Str), v)]) = upd H1 dx (.xd [(("value" : Str), v)]) := by
      funext b
      by_cases h1 : b = dx
      · rw [h1, upd_same, upd_same]
      · rw [upd_ne h1, upd_ne h1]
        by_cases h2 : b = a
        · rw [h2, del_same, ha]
        · rw [del_ne h2, upd_ne h2, upd_ne h1, upd_ne h2]
    rw [e]
    exact q dx hd1
end
end Vx
namespace Kx
open PySem L2 Vx
/-- the defs of a class -/
def clsDef (st : Stmt) (i : Nat) : Stmt := match st with
  | .ClassDef (body := b) .. => b.getD i (.Pass ⟨0, 0, 0, 0⟩)
  | _ => .Pass ⟨0, 0, 0, 0⟩
abbrev sErrInit : Stmt := clsDef (top 1) 0
section
variable {P : Program} {w : World} {K : PySem.W.Frag} {mg : Str → Option Value} {base : Heap}
theorem scErrInit : FnScope ["self", "value"] ["self", "value"] (defScope sErrInit) := ⟨rfl, rfl, rfl, by decide +kernel, rfl, by decide +kernel, by decide +kernel⟩
theorem ok_errInit {f : Addr} {fd : FuncData} (F : Fun K "__init__" "AskError.__init__" sErrInit f fd) : FnOk P w K mg base CX0 1 f fd ["self", "value"] (spErr K) := by
  refine F.ok scErrInit (fun vs H Q E h => ?_) (fun cdv A outer s H vs Q E hr h => ?_)
  · obtain ⟨a, C, v, rfl, _⟩ := h
    rfl
  · obtain ⟨a, C, v, rfl, oc, no, ha, k⟩ := h
    exact ⟨_, pss_one (ps_ost (pv 0) (pv 1)), _, rfl, _, rfl, a, C, rfl, oc, no, .inl ⟨ha, k⟩⟩
end
end Kx
namespace Vx
open PySem PySem.Spec PyProof.Rows L2
/-! ### facts, sorted -/
abbrev Fs := List (Str × PyData)
def srt (fs : Fs) : Fs := fs.mergeSort fun a b => !ltS b.1 a.1
theorem srt_perm (fs : Fs) : (srt fs).Perm fs := List.mergeSort_perm _ _
theorem srt_sorted (fs : Fs) : SrtO.Srtd (fun x y : Str × PyData => ltS x.1 y.1) (srt fs) := by
  have h := List.pairwise_mergeSort (le := fun a b : Str × PyData => !ltS b.1 a.1) (fun a b c h1 h2 => by
    have h1' : ltS b.1 a.1 = false := by simpa using h1
    have h2' : ltS c.1 b.1 = false := by simpa using h2
    have := ltS_tr h1' h2'
    simpa using this) (fun a b => by
    cases h : ltS a.1 b.1 with
    | true => simp [ltS_asym h]
    | false => simp) fs
  exact List.Pairwise.imp (fun q => by simpa using q) h
theorem srt_uniq {ys fs : Fs} (hp : ys.Perm fs) (hs : SrtO.Srtd (fun x y : Str × PyData => ltS x.1 y.1) ys) (hn : (fs.map (·.1)).Nodup) : ys = srt fs := by
  refine List.Perm.eq_of_pairwise (le := fun x y : Str × PyData => ltS y.1 x.1 = false) (fun a b ha hb h1 h2 => ?_) hs (srt_sorted fs) (hp.trans (srt_perm fs).symm)
  have e : a.1 = b.1 := ltS_tot h2 h1
  have ha' : a ∈ fs := hp.mem_iff.mp ha
  have hb' : b ∈ fs := (srt_perm fs).mem_iff.mp hb
  have key : ∀ l : Fs, (l.map (·.1)).Nodup → ∀ a ∈ l, ∀ b ∈ l, a.1 = b.1 → a = b := by
    intro l
    induction l with
    | nil => intro _ a h; cases h
    | cons c l ih =>
      intro hn a ha b hb e
      rw [List.map_cons, List.nodup_cons] at hn
      rcases List.mem_cons.mp ha with ea | ha2
      · rcases List.mem_cons.mp hb with eb | hb2
        · rw [ea, eb]
        · exact absurd (show c.1 ∈ l.map (·.1) from List.mem_map.mpr ⟨b, hb2, by rw [← e, ea]⟩) hn.1
      · rcases List.mem_cons.mp hb with eb | hb2
        · exact absurd (show c.1 ∈ l.map (·.1) from List.mem_map.mpr ⟨a, ha2, by rw [e, eb]⟩) hn.1
        · exact ih hn.2 a ha2 b hb2 e
  exact key fs hn a ha' b hb' e
/-! ### values without parts -/
def vD : PyData → V
  | .bool b => .bl b
  | .int i => .int i
  | .str x => .str x
  | _ => .non
theorem Dq.flat {K : PySem.W.Frag} {H : Hp} {v : V} {d : PyData} (h : Dq K H v d) (c : isFlat d = true) : v = vD d := by
  cases h <;> first | rfl | cases c
theorem dq_flat (K : PySem.W.Frag) (H : Hp) {d : PyData} (c : isFlat d = true) : Dq K H (vD d) d := by
  cases d <;> first | exact .bl _ | exact .int _ | exact .str _ | cases c
theorem flatV_vD {d : PyData} (c : isFlat d = true) : flatV (vD d) = true := by
  cases d <;> first | rfl | cases c
def pairD (f : Str × PyData) : PyData := .tuple [.str f.1, f.2]
def factD (d : PyData) : Str × PyData := (nmD d, vlD d)
theorem factD_pair (f : Str × PyData) : factD (pairD f) = f := rfl
theorem pairD_fact {d : PyData} (c : isPair d = true) : pairD (factD d) = d ∧ isFlat (factD d).2 = true := by
  obtain ⟨x, d1, rfl, h⟩ := isPair_form c
  exact ⟨rfl, h⟩
/-- the facts of a datum that is a tuple of pairs -/
def factsD : PyData → Fs
  | .tuple ds => ds.map factD
  | _ => []
def Flats (fs : Fs) : Prop := ∀ f ∈ fs, isFlat f.2 = true
theorem areFacts_of {d : PyData} (h : areFacts d = true) : ∃ fs : Fs, d = .tuple (fs.map pairD) ∧ Flats fs ∧ (fs.map (·.1)).Nodup := by
  unfold areFacts at h
  split at h
  · rename_i ds
    rw [Bool.and_eq_true, decide_eq_true_eq, List.all_eq_true] at h
    refine ⟨ds.map factD, ?_, fun f hf => ?_, ?_⟩
    · rw [List.map_map]
      congr 1
      conv => lhs; rw [← List.map_id ds]
      exact (List.map_congr_left fun d hd => (pairD_fact (h.1 d hd)).1.symm)
    · obtain ⟨d, hd, rfl⟩ := List.mem_map.mp hf
      exact (pairD_fact (h.1 d hd)).2
    · rw [List.map_map]
      exact h.2
  · cases h
theorem areFacts_pairs {fs : Fs} (h1 : Flats fs) (h2 : (fs.map (·.1)).Nodup) : areFacts (.tuple (fs.map pairD)) = true := by
  show ((fs.map pairD).all isPair && decide (((fs.map pairD).map nmD).Nodup)) = true
  rw [Bool.and_eq_true, decide_eq_true_eq, List.all_eq_true]
  refine ⟨fun d hd => ?_, ?_⟩
  · obtain ⟨f, hf, rfl⟩ := List.mem_map.mp hd
    exact h1 f hf
  · rw [List.map_map]
    exact h2
theorem srt_flats {fs : Fs} (h : Flats fs) : Flats (srt fs) := fun f hf => h f ((srt_perm fs).mem_iff.mp hf)
theorem srt_nodup {fs : Fs} (h : (fs.map (·.1)).Nodup) : ((srt fs).map (·.1)).Nodup := ((srt_perm fs).map _).nodup_iff.mpr h
theorem srt_length (fs : Fs) : (srt fs).length = fs.length := (srt_perm fs).length_eq
def sortD (f : Str × PyData) : PyData := .tuple [.str f.1, .tuple [.bool (isTy "bool" f.2), f.2]]
/-- an object of the class at C that has these facts -/
def FactsAt (K : PySem.W.Frag) (C : Addr) (H : Hp) (a : Addr) (fs : Fs) : Prop := ∃ (dx pa na va sa : Addr) (ps ss : List V), H a = some (.ins C dx [("pairs", .ref pa), ("names", .ref na), ("_values", .ref va), ("_sorts", .ref sa)]) ∧
  SqT K H pa ps ∧ DqAll K H ps (fs.map pairD) ∧ SqT K H na (fs.map fun f => V.str f.1) ∧ H va = some (.dK (fs.map fun f => (Sum.inr f.1, vD f.2))) ∧ SqT K H sa ss ∧ DqAll K H ss (fs.map sortD)
theorem FactsAt.same {K : PySem.W.Frag} {C : Addr} {H H' : Hp} {a : Addr} {fs : Fs} (e : Same H H') (h : FactsAt K C H a fs) : FactsAt K C H' a fs := by
  obtain ⟨dx, pa, na, va, sa, ps, ss, h1, h2, h3, h4, h5, h6, h7⟩ := h
  exact ⟨dx, pa, na, va, sa, ps, ss, e _ _ h1, same_T e h2, Dq.sameAll e _ _ h3, same_T e h4, e _ _ h5, same_T e h6, Dq.sameAll e _ _ h7⟩
end Vx
namespace Kx
open PySem L2 Vx
/-- (isinstance(value, bool), value) -/
def spSort (K : PySem.W.Frag) : Sp := fun vs H Q _ => ∃ (v : V) (d : PyData), vs = [v] ∧ Dq K H v d ∧ ∀ p, H p = none → Q (.ref p) (upd H p (.tup [.bl (isTy "bool" d), v]))
section
variable {P : Program} {w : World} {K : PySem.W.Frag} {mg : Str → Option Value} {base : Heap}
theorem scSort : FnScope ["value"] ["value"] (defScope sWithSort) := ⟨rfl, rfl, rfl, by decide +kernel, rfl, by decide +kernel, by decide +kernel⟩
theorem ok_sort {f : Addr} {fd : FuncData} (F : Fun K "with_sort" "with_sort" sWithSort f fd) (T : TxtF K mg) : FnOk P w K mg base CX0 1 f fd ["value"] (spSort K) := by
  refine F.ok scSort (fun vs H Q E h => ?_) (fun cdv A outer s H vs Q E hr h => ?_)
  · obtain ⟨v, d, rfl, _⟩ := h
    rfl
  · obtain ⟨v, d, rfl, hd, k⟩ := h
    refine ⟨_, pss_one (ps_ret (pe_tup (pa_cons (pe_callB call_isi (by rfl) T.isi (by decide +kernel) (pa_cons (pv 0) (pa_cons (pe_ty "bool" (by rfl) T.bool) pa_nil))) (pa_cons (pv 0) pa_nil)))), ?_⟩
    exact ⟨_, rfl, v, _, _, _, _, rfl, .ty _, hd.ty, kit_tyD d "bool", _, rfl, by show 2 ≤ sizeLine; decide, k⟩
end
end Kx
namespace Vx
open PySem PySem.Spec PyProof.Rows L2
/-! ### {k: v for x in t}, t a tuple, no key twice, the parts only add to the heap -/
def tookK (n : Nat) (kf : Nat → Key) (f : Nat → V) : List (Key × V) := (List.range n).map fun i => (kf i, f i)
theorem tookK_succ (n : Nat) (kf : Nat → Key) (f : Nat → V) : tookK (n + 1) kf f = tookK n kf f ++ [(kf n, f n)] := by
  unfold tookK
  rw [List.range_succ, List.map_append]
  rfl
theorem tookK_len (n : Nat) (kf : Nat → Key) (f : Nat → V) : (tookK n kf f).length = n := by
  unfold tookK
  rw [List.length_map, List.length_range]
theorem put_new {kvs : List (Key × V)} {k : Key} {v : V} (h : ∀ p ∈ kvs, p.1 ≠ k) : putK kvs k v = kvs ++ [(k, v)] := by
  unfold putK
  rw [if_neg]
  intro q
  obtain ⟨p, hp, e⟩ := List.any_eq_true.mp q
  exact h p hp (of_decide_eq_true e)
structure AddsK (H1 : Hp) (D : Addr) (kf : Nat → Key) (f : Nat → V) (i : Nat) (H : Hp) : Prop where
  same : Same H1 H
  at_ : H D = some (.dK (tookK i kf f))
section
variable {H1 : Hp} {D : Addr} {kf : Nat → Key} {f : Nat → V} {σ : L2.St} {j : Nat} {tk tv : TE} {xs : List V}
theorem dc_addT {K : PySem.W.Frag} {a : Addr} {Qd : Hp → Prop} (hD : H1 D = none) (hs : SqT K H1 a xs) (hn : xs.length < sizeLine) (inj : ∀ i j, i < j → j < xs.length → kf i ≠ kf j)
    (hk : ∀ i x H' (Q' : VK), xs[i]? = some x → Same H1 H' → (∀ H'', Same H' H'' → Q' (kV (kf i)) H'') → tk ((wipe σ [j]).set j (some x)) H' Q')
    (he : ∀ i x H' (Q' : VK), xs[i]? = some x → Same H1 H' → (∀ H'', Same H' H'' → Q' (f i) H'') → tv ((wipe σ [j]).set j (some x)) H' Q')
    (q : ∀ H2, Same H1 H2 → H2 D = some (.dK (tookK xs.length kf f)) → Qd H2) :
    ∃ W : Nat → Nat → Hp → Prop, (∃ m, W 0 m (upd H1 D (.dK []))) ∧ ∀ i m H, W i m H →
      ((Itt K a).stop i H ∧ Qd H) ∨ ((Itt K a).go i H ∧ ∃ Nx : Hp → Prop, (∀ H', Nx H' → ∃ m', m' < m ∧ W (i + 1) m' H') ∧ ∀ x H', (Itt K a).yld i H x H' → gName j x (wipe σ [j]) H' fun σ2 H2 => wipe σ2 [j] = wipe σ [j] ∧ tYes σ2 H2 fun b H3 =>
        if b = true then tk σ2 H3 fun y H4 => tv σ2 H4 fun z H5 => ∃ kvs k, y = kV k ∧ H5 D = some (.dK kvs) ∧ kvs.length < sizeLine ∧ Nx (upd H5 D (.dK (putK kvs k z))) else Nx H3) := by
  refine dc_tup (K := K) (a := a) (xs := xs) (Qd := Qd) (AddsK H1 D kf f) ⟨same_new hD, upd_same⟩ (fun _ _ _ A => same_T A.same hs) (fun i x H hx A => ?_) fun H A => q H A.same A.at_
  have hi : i < xs.length := (List.getElem?_eq_some_iff.mp hx).1
  refine ⟨?_, ?_⟩
  · simp [wipe]
  · simp only [tYes, if_true]
    refine hk i x H _ hx A.same fun H4 s4 => he i x H4 _ hx (A.same.trans s4) fun H5 s5 => ?_
    have d : H5 D = some (.dK (tookK i kf f)) := s5 _ _ (s4 _ _ A.at_)
    refine ⟨_, kf i, rfl, d, by rw [tookK_len]; omega, fun b o e => ?_, ?_⟩
    · rw [upd_ne (ne_of_none e hD)]
      exact s5 _ _ (s4 _ _ (A.same _ _ e))
    · rw [upd_same, put_new, tookK_succ]
      intro p hp
      obtain ⟨m, hm, rfl⟩ := List.mem_map.mp hp
      exact inj m i (List.mem_range.mp hm) hi
end
end Vx
namespace Vx
open PySem PySem.Spec PyProof.Rows L2
theorem paired_at {α β : Type} {F : α → β → Prop} : ∀ {l : List α} {m : List β} {i : Nat} {a : α} {b : β}, Paired F l m → l[i]? = some a → m[i]? = some b → F a b
  | _, _, _, _, _, .nil, e, _ => by simp at e
  | _, _, 0, _, _, .cons h _, e, e' => by
    simp at e e'
    subst e e'
    exact h
  | _, _, i + 1, _, _, .cons _ t, e, e' => paired_at (i := i) t (by simpa using e) (by simpa using e')
theorem zip_map {α β : Type} (k : α → β) : ∀ (xs : List α) (ks : List β), xs.length = ks.length → (∀ (i : Nat) a b, xs[i]? = some a → ks[i]? = some b → k a = b) → xs.map (fun x => (x, k x)) = xs.zip ks
  | [], [], _, _ => rfl
  | a :: xs, b :: ks, hl, h => by
    rw [List.map_cons, List.zip_cons_cons, h 0 a b rfl rfl, zip_map k xs ks (by simpa using hl) fun i a b e e' => h (i + 1) a b (by simpa using e) (by simpa using e')]
  | [], _ :: _, hl, _ => by simp at hl
  | _ :: _, [], hl, _ => by simp at hl
/-- sorted(xs), xs a list or a tuple of pairs of a text and a flat value, as ks tells them, no text twice -/
def rSortedPr (K : PySem.W.Frag) : List V → Hp → VK → Prop := fun vs H Q => ∃ (a : Addr) (xs : List V) (ks : List (Str × V)), vs = [V.ref a] ∧ (SqL K H a xs ∨ SqT K H a xs) ∧ Paired (fun x k => ∃ t, x = V.ref t ∧ SqT K H t [.str k.1, k.2] ∧ flatV k.2 = true) xs ks ∧
  (ks.map (·.1)).Nodup ∧ ∀ (zs : List (V × (Str × V))) p, zs.Perm (xs.zip ks) → SrtO.Srtd (fun x y : V × (Str × V) => ltS x.2.1 y.2.1) zs → H p = none → Q (.ref p) (upd H p (.lst (zs.map (·.1))))
section
variable {X : Cx}
theorem cr_sortedPr : CallR X (.builtin "sorted") (rSortedPr X.K) := by
  intro pins s σ H vs us Q I r h
  obtain ⟨a, xs, ks, rfl, hs, hp, nd, q⟩ := h
  have hl : xs.length = ks.length := hp.length
  have ixs : ∀ {i : Nat} {x : V}, xs[i]? = some x → ∃ k, ks[i]? = some k ∧ ∃ t, x = V.ref t ∧ SqT X.K H t [.str k.1, k.2] ∧ flatV k.2 = true := fun {i x} e => by
    have hi : i < ks.length := by
      have := (List.getElem?_eq_some_iff.mp e).1
      omega
    exact ⟨ks[i], List.getElem?_eq_getElem hi, paired_at hp e (List.getElem?_eq_getElem hi)⟩
  have same : ∀ {i j : Nat} {x : V}, xs[i]? = some x → xs[j]? = some x → i = j := fun {i j x} e e' => by
    obtain ⟨k, hk, t, ex, ht, _⟩ := ixs e
    obtain ⟨k', hk', t', ex', ht', _⟩ := ixs e'
    rw [ex] at ex'
    cases ex'
    have z := I.tuple_inj ht ht'
    injection z with z1 z2
    injection z1 with z1
    have m1 : (ks.map (·.1))[i]? = some k.1 := by rw [List.getElem?_map, hk]; rfl
    have m2 : (ks.map (·.1))[j]? = some k.1 := by rw [List.getElem?_map, hk', z1]; rfl
    exact nodup_ix nd m1 m2
  have ofm : ∀ {x : V}, x ∈ xs → xs[xs.idxOf x]? = some x := fun {x} m => by
    rw [List.getElem?_eq_getElem (List.idxOf_lt_length_of_mem m), List.getElem_idxOf]
  let k : V → Str × V := fun v => ks.getD (xs.idxOf v) (Str.empty, .non)
  have kat : ∀ (i : Nat) (x : V) (b : Str × V), xs[i]? = some x → ks[i]? = some b → k x = b := fun i x b e e' => by
    have m : x ∈ xs := List.mem_of_getElem? e
    have ei : xs.idxOf x = i := same (ofm m) e
    show ks.getD (xs.idxOf x) _ = b
    rw [ei, List.getD, e']
    rfl
  have kok : ∀ x ∈ xs, ∃ t, x = V.ref t ∧ SqT X.K H t [.str (k x).1, (k x).2] ∧ flatV (k x).2 = true := fun x m => by
    obtain ⟨b, hb, t, ex, ht, hf⟩ := ixs (ofm m)
    rw [kat _ x b (ofm m) hb]
    exact ⟨t, ex, ht, hf⟩
  refine cr_sortedNm pins s σ H _ us Q I r ⟨a, xs, k, rfl, hs, kok, fun x hx y hy e => ?_, fun ys p h1 h2 h3 => ?_⟩
  · obtain ⟨b, hb, _⟩ := ixs (ofm hx)
    obtain ⟨b', hb', _⟩ := ixs (ofm hy)
    rw [kat _ x b (ofm hx) hb, kat _ y b' (ofm hy) hb'] at e
    have m1 : (ks.map (·.1))[xs.idxOf x]? = some b.1 := by rw [List.getElem?_map, hb]; rfl
    have m2 : (ks.map (·.1))[xs.idxOf y]? = some b.1 := by rw [List.getElem?_map, hb', e]; rfl
    have z := nodup_ix nd m1 m2
    have z1 := ofm hx
    rw [z, ofm hy] at z1
    exact (Option.some.inj z1).symm
  · have z := q (ys.map fun y => (y, k y)) p (by rw [← zip_map k xs ks hl kat]; exact h1.map _) (List.pairwise_map.mpr h2) h3
    rw [List.map_map] at z
    have e : (ys.map ((fun x => x.1) ∘ fun y => (y, k y))) = ys := by
      conv => rhs; rw [← List.map_id ys]
      rfl
    rw [e] at z
    exact z
end
end Vx
namespace Vx
open PySem PySem.Spec PyProof.Rows L2
/-! ### data beside a list that grows -/
def hid (H : Hp) (D : Addr) : Hp := fun b => if b = D then none else H b
theorem hid_same (H : Hp) (D : Addr) : Same (hid H D) H := fun b o e => by
  unfold hid at e
  by_cases h : b = D
  · rw [if_pos h] at e
    cases e
  · rwa [if_neg h] at e
theorem hid_mono {H H' : Hp} (D : Addr) (s : Same H H') : Same (hid H D) (hid H' D) := fun b o e => by
  unfold hid at e ⊢
  by_cases h : b = D
  · rw [if_pos h] at e
    cases e
  · rw [if_neg h] at e ⊢
    exact s _ _ e
theorem hid_upd (H : Hp) (D : Addr) (o : HO) : hid (upd H D o) D = hid H D := by
  funext b
  unfold hid
  by_cases h : b = D
  · rw [if_pos h, if_pos h]
  · rw [if_neg h, if_neg h, upd_ne h]
theorem hid_ne {H : Hp} {D b : Addr} (h : b ≠ D) : hid H D b = H b := if_neg h
theorem DqAll.snoc {K : PySem.W.Frag} {H : Hp} {y : V} {d : PyData} (hy : Dq K H y d) : ∀ {vs : List V} {ds : List PyData}, DqAll K H vs ds → DqAll K H (vs ++ [y]) (ds ++ [d])
  | _, _, .nil => .cons hy .nil
  | _, _, .cons a b => .cons a (DqAll.snoc hy b)
/-- [e for x in xs], xs a tuple, e a datum -/
theorem lc_dqT {K : PySem.W.Frag} {H1 : Hp} {D a : Addr} {df : Nat → PyData} {σ : L2.St} {j : Nat} {te : TE} {xs : List V} {Qd : Hp → Prop} (hD : H1 D = none) (hs : SqT K H1 a xs) (hn : xs.length < sizeLine)
    (he : ∀ i x H' (Q' : VK), xs[i]? = some x → Same H1 H' → (∃ acc, H' D = some (.lst acc)) → (∀ y H'', Same H' H'' → Dq K (hid H'' D) y (df i) → Q' y H'') → te ((wipe σ [j]).set j (some x)) H' Q')
    (q : ∀ H2 ys, Same H1 H2 → H2 D = some (.lst ys) → DqAll K H2 ys ((List.range xs.length).map df) → Qd H2) :
    ∃ W : Nat → Nat → Hp → Prop, (∃ m, W 0 m (upd H1 D (.lst []))) ∧ ∀ i m H, W i m H →
      ((Itt K a).stop i H ∧ Qd H) ∨ ((Itt K a).go i H ∧ ∃ Nx : Hp → Prop, (∀ H', Nx H' → ∃ m', m' < m ∧ W (i + 1) m' H') ∧ ∀ x H', (Itt K a).yld i H x H' → gName j x (wipe σ [j]) H' fun σ2 H2 => wipe σ2 [j] = wipe σ [j] ∧ tYes σ2 H2 fun b H3 =>
        if b = true then te σ2 H3 fun y H4 => ∃ acc, H4 D = some (.lst acc) ∧ acc.length < sizeLine ∧ Nx (upd H4 D (.lst (acc ++ [y]))) else Nx H3) := by
  refine lc_tup (K := K) (a := a) (xs := xs) (Qd := Qd) (fun i H => i ≤ xs.length ∧ Same H1 H ∧ ∃ acc, H D = some (.lst acc) ∧ DqAll K (hid H D) acc ((List.range i).map df)) ⟨Nat.zero_le _, same_new hD, [], upd_same, .nil⟩ (fun _ _ _ A => same_T A.2.1 hs) (fun i x H hx A => ?_) fun H A => ?_
  · have hi : i < xs.length := (List.getElem?_eq_some_iff.mp hx).1
    obtain ⟨_, s, acc, ea, ha⟩ := A
    refine ⟨by simp [wipe], ?_⟩
    simp only [tYes, if_true]
    refine he i x H _ hx s ⟨acc, ea⟩ fun y H4 s4 hy => ?_
    have hl := ha.len
    rw [List.length_map, List.length_range] at hl
    refine ⟨acc, s4 _ _ ea, by omega, hi, fun b o e => ?_, acc ++ [y], upd_same, ?_⟩
    · rw [upd_ne (ne_of_none e hD)]
      exact s4 _ _ (s _ _ e)
    · rw [hid_upd, List.range_succ, List.map_append]
      exact DqAll.snoc hy (Dq.sameAll (hid_mono D s4) _ _ ha)
  · obtain ⟨_, s, acc, ea, ha⟩ := A
    exact q H acc s ea (Dq.sameAll (hid_same H D) _ _ ha)
theorem range_list {α β : Type} (f : α → β) (d : α) (l : List α) (n : Nat) (hn : n = l.length) : (List.range n).map (fun i => f (l.getD i d)) = l.map f := by
  subst hn
  refine List.ext_getElem (by simp) fun i h1 h2 => ?_
  rw [List.length_map] at h2
  simp [List.getD, List.getElem?_eq_getElem h2]
theorem getD_map {α β : Type} (f : α → β) (l : List α) (i : Nat) (d : α) : (l.map f).getD i (f d) = f (l.getD i d) := by
  simp only [List.getD, List.getElem?_map]
  cases l[i]? <;> rfl
/-! ### sorted facts -/
theorem perm_lift {α β : Type} (h : α → β) {l m : List β} (p : l.Perm m) : ∀ ws : List α, m = ws.map h → ∃ ws' : List α, ws'.Perm ws ∧ l = ws'.map h := by
  induction p with
  | nil => exact fun ws e => ⟨ws, .refl _, e⟩
  | @cons x l m _ ih =>
    intro ws e
    cases ws with
    | nil => cases e
    | cons w ws =>
      rw [List.map_cons] at e
      injection e with e1 e2
      obtain ⟨ws', p', e'⟩ := ih ws e2
      exact ⟨w :: ws', p'.cons w, by rw [List.map_cons, e1, e']⟩
  | swap x y l =>
    intro ws e
    cases ws with
    | nil => cases e
    | cons w ws =>
      cases ws with
      | nil =>
        rw [List.map_cons] at e
        injection e with _ e2
        cases e2
      | cons w2 ws =>
        rw [List.map_cons, List.map_cons] at e
        injection e with e1 e2
        injection e2 with e2 e3
        exact ⟨w2 :: w :: ws, .swap _ _ _, by rw [List.map_cons, List.map_cons, e1, e2, e3]⟩
  | trans _ _ ih1 ih2 =>
    intro ws e
    obtain ⟨ws', p', e'⟩ := ih2 ws e
    obtain ⟨ws2, p2, e2⟩ := ih1 ws' e'
    exact ⟨ws2, p2.trans p', e2⟩
theorem dq_zip {K : PySem.W.Frag} {H : Hp} : ∀ {xs : List V} {fs : Fs}, DqAll K H xs (fs.map pairD) → ∀ w ∈ xs.zip fs, Dq K H w.1 (pairD w.2)
  | [], _, _, w, hw => by simp at hw
  | _ :: _, [], _, w, hw => by simp at hw
  | x :: xs, f :: fs, .cons a b, w, hw => by
    rw [List.zip_cons_cons] at hw
    rcases List.mem_cons.mp hw with rfl | hw
    · exact a
    · exact dq_zip b w hw
theorem dq_unzip {K : PySem.W.Frag} {H : Hp} : ∀ {ws : List (V × (Str × PyData))}, (∀ w ∈ ws, Dq K H w.1 (pairD w.2)) → DqAll K H (ws.map (·.1)) ((ws.map (·.2)).map pairD)
  | [], _ => .nil
  | w :: ws, h => .cons (h w List.mem_cons_self) (dq_unzip fun v hv => h v (List.mem_cons_of_mem _ hv))
theorem zip_mapr {α β γ : Type} (g : β → γ) : ∀ (xs : List α) (ys : List β), xs.zip (ys.map g) = (xs.zip ys).map fun p => (p.1, g p.2)
  | [], _ => by simp
  | _ :: _, [] => by simp
  | x :: xs, y :: ys => by rw [List.map_cons, List.zip_cons_cons, List.zip_cons_cons, List.map_cons, zip_mapr g xs ys]
theorem zip_snd {α β : Type} : ∀ {xs : List α} {ys : List β}, xs.length = ys.length → (xs.zip ys).map (·.2) = ys
  | [], [], _ => rfl
  | _ :: _, _ :: _, h => by rw [List.zip_cons_cons, List.map_cons, zip_snd (by simpa using h)]
  | [], _ :: _, h => by simp at h
  | _ :: _, [], h => by simp at h
theorem sorted_facts {K : PySem.W.Frag} {H : Hp} {xs : List V} {fs : Fs} {zs : List (V × (Str × V))} (ha : DqAll K H xs (fs.map pairD)) (nd : (fs.map (·.1)).Nodup) (hp : zs.Perm (xs.zip (fs.map fun f => (f.1, vD f.2)))) (hs : SrtO.Srtd (fun x y : V × (Str × V) => ltS x.2.1 y.2.1) zs) :
    DqAll K H (zs.map (·.1)) ((srt fs).map pairD) := by
  have hl : xs.length = fs.length := by
    have := ha.len
    rwa [List.length_map] at this
  obtain ⟨ws, pw, rfl⟩ := perm_lift (fun p : V × (Str × PyData) => (p.1, (p.2.1, vD p.2.2))) hp (xs.zip fs) (zip_mapr _ _ _)
  have pf : (ws.map (·.2)).Perm fs := by
    have := pw.map (·.2)
    rwa [zip_snd hl] at this
  have e : ws.map (·.2) = srt fs := srt_uniq pf (List.pairwise_map.mpr (List.pairwise_map.mp hs)) nd
  rw [← e]
  have z := dq_unzip (K := K) (H := H) (ws := ws) fun w hw => dq_zip ha w (pw.mem_iff.mp hw)
  rw [List.map_map]
  exact z
theorem Dq.pair {K : PySem.W.Frag} {H : Hp} {x : V} {f : Str × PyData} (h : Dq K H x (pairD f)) (c : isFlat f.2 = true) : ∃ t, x = V.ref t ∧ SqT K H t [.str f.1, vD f.2] := by
  obtain ⟨a, y, v1, d1, rfl, e, hs, h1, _⟩ := h.paired (show isPair (pairD f) = true from c)
  injection e with e
  injection e with e1 e
  injection e with e2 _
  injection e1 with e1
  subst e1 e2
  rw [h1.flat c] at hs
  exact ⟨a, rfl, hs⟩
theorem dq_keys {K : PySem.W.Frag} {H : Hp} : ∀ {xs : List V} {fs : Fs}, DqAll K H xs (fs.map pairD) → Flats fs → Paired (fun x k => ∃ t, x = V.ref t ∧ SqT K H t [.str k.1, k.2] ∧ flatV k.2 = true) xs (fs.map fun f => (f.1, vD f.2))
  | [], [], _, _ => .nil
  | x :: xs, f :: fs, .cons a b, c => by
    obtain ⟨t, e, ht⟩ := a.pair (c f List.mem_cons_self)
    exact .cons ⟨t, e, ht, flatV_vD (c f List.mem_cons_self)⟩ (dq_keys b fun g hg => c g (List.mem_cons_of_mem _ hg))
mutual
theorem Dq.chg {K : PySem.W.Frag} {H H' : Hp} {l : Addr} {C dx : Addr} {gs : List (Str × V)} (hl : H l = some (.ins C dx gs)) (e : ∀ b o, b ≠ l → H b = some o → H' b = some o) : ∀ (d : PyData) (v : V), Dq K H v d → Dq K H' v d
  | .none, _, h => by cases h; exact .non
  | .bool _, _, h => by cases h; exact .bl _
  | .int _, _, h => by cases h; exact .int _
  | .str _, _, h => by cases h; exact .str _
  | .list ds, _, h => by
    cases h with
    | lst a b c =>
      refine .lst ?_ b (Dq.chgAll hl e ds _ c)
      rcases a with (a | ⟨o, a⟩) | a
      · exact .inl (.inl (e _ _ (ne_of a hl fun z => nomatch z) a))
      · exact .inl (.inr ⟨o, e _ _ (ne_of a hl fun z => nomatch z) a⟩)
      · exact .inr a
  | .tuple ds, _, h => by
    cases h with
    | tup a c =>
      refine .tup ?_ (Dq.chgAll hl e ds _ c)
      rcases a with (a | ⟨o, a⟩) | a
      · exact .inl (.inl (e _ _ (ne_of a hl fun z => nomatch z) a))
      · exact .inl (.inr ⟨o, e _ _ (ne_of a hl fun z => nomatch z) a⟩)
      · exact .inr a
  | .dict _, _, h => by
    cases h with
    | emp h => exact .emp (e _ _ (ne_of h hl fun z => nomatch z) h)
theorem Dq.chgAll {K : PySem.W.Frag} {H H' : Hp} {l : Addr} {C dx : Addr} {gs : List (Str × V)} (hl : H l = some (.ins C dx gs)) (e : ∀ b o, b ≠ l → H b = some o → H' b = some o) : ∀ (ds : List PyData) (vs : List V), DqAll K H vs ds → DqAll K H' vs ds
  | [], _, h => by cases h; exact .nil
  | d :: ds, _, h => by
    cases h with
    | cons a b => exact .cons (Dq.chg hl e d _ a) (Dq.chgAll hl e ds _ b)
end
end Vx
namespace Vx
open PySem PySem.Spec PyProof.Rows L2
def dflt : Str × PyData := (Str.empty, .int 0)
theorem flats_getD {g : Fs} (h : Flats g) (i : Nat) : isFlat (g.getD i dflt).2 = true := by
  by_cases hi : i < g.length
  · have e : g.getD i dflt = g[i] := by simp [List.getD, List.getElem?_eq_getElem hi]
    rw [e]
    exact h _ (List.getElem_mem hi)
  · have e : g.getD i dflt = dflt := by simp [List.getD, List.getElem?_eq_none (Nat.le_of_not_lt hi)]
    rw [e]
    rfl
end Vx
namespace Kx
open PySem L2 Vx
/-- what is known of the class of facts -/
structure FactsC (K : PySem.W.Frag) (C : Addr) : Prop where
  cls : Cls K C
  pairs : NoAttr K C "pairs"
  names : NoAttr K C "names"
  vals : NoAttr K C "_values"
  sorts : NoAttr K C "_sorts"
/-- a new object of facts; BadFacts, at CB, with the value where it is none -/
def spInit (K : PySem.W.Frag) (C CB : Addr) : Sp := fun vs H Q E => ∃ (x dx : Addr) (v : V) (d : PyData), vs = [.ref x, v] ∧ H x = some (.ins C dx []) ∧ Dq K H v d ∧ (∀ ds, d = .tuple ds → ds.length ≤ 4000) ∧
  (areFacts d = true → ∀ H', Chg x H H' → FactsAt K C H' x (srt (factsD d)) → Q .non H') ∧
  (areFacts d = false → ∀ (dd : Addr) (H' : Hp), Same H H' → H dd = none → H' dd = some (.xd [(("value" : Str), v)]) → E (.ref CB) (some dd) H')
abbrev sInit : Stmt := clsDef (top 9) 0
abbrev nInit : List Str := ["self", "pairs", "pair"]
structure TxtG (K : PySem.W.Frag) (mg : Str → Option Value) : Prop extends TxtF K mg where
  sorted : mg "sorted" = none
section
variable {P : Program} {w : World} {K : PySem.W.Frag} {mg : Str → Option Value} {base : Heap}
theorem scInit : FnScope nInit ["self", "pairs"] (defScope sInit) := ⟨rfl, rfl, rfl, by decide +kernel, rfl, by decide +kernel, by decide +kernel⟩
theorem ok_init {f f7 f8 fE C CB : Addr} {fd fd7 fd8 fdE : FuncData} {dvs : List V} (F : FunD K "__init__" "Facts.__init__" (defArgs sInit) (defBody sInit) (defScope sInit) dvs [] f fd) (T : TxtG K mg) (c : FactsC K C)
    (G7 : FnOk P w K mg base CX0 2 f7 fd7 ["value"] (spDataS K areFacts)) (g7 : mg "are_facts" = some (.ref f7)) (k7 : PySem.W.keepIn K (.ref f7) = true) (b7 : Binds K fd7 ["value"] [])
    (G8 : FnOk P w K mg base CX0 1 f8 fd8 ["value"] (spSort K)) (g8 : mg "with_sort" = some (.ref f8)) (k8 : PySem.W.keepIn K (.ref f8) = true) (b8 : Binds K fd8 ["value"] [])
    (GE : FnOk P w K mg base CX0 1 fE fdE ["self", "value"] (spErr K)) (bE : Binds K fdE ["self", "value"] []) (eB : ErrC K CB fE) (gB : mg "BadFacts" = some (.ref CB)) :
    FnOk P w K mg base (L2.CX P w) 3 f fd ["self", "pairs"] (spInit K C CB) := by
  refine F.ok scInit (fun vs H Q E h => ?_) (fun cdv A outer s H vs Q E hr h => ?_)
  · obtain ⟨x, dx, v, d, rfl, _⟩ := h
    rfl
  · obtain ⟨x, dx, v, d, rfl, hx, hd, hlen, yes, no⟩ := h
    refine ⟨_, pss_cons (ps_if (pt_not (pt_val (pe_call G7 hr rfl g7 k7 b7 .nil pass0 (pa_cons (pv 1) pa_nil)))) (pss_one (ps_raiseE rfl eB GE hr bE (takes_of rfl rfl rfl rfl) rfl gB (pa_cons (pv 1) pa_nil))) pss_nil)
      (PSs.nox (pss_cons (ps_fld (pv 0) (pe_callTy call_tuple_of (by rfl) T.tup (by decide +kernel) (pa_cons (pe_callB cr_sortedPr (by rfl) T.sorted (by decide +kernel) (pa_cons (pv 1) pa_nil)) pa_nil)) (by rfl))
      (pss_cons (ps_fld (pv 0) (pe_callTy call_tuple_of (by rfl) T.tup (by decide +kernel) (pa_cons
          (pe_lc (own := [("pair", 2)]) (g := gName 2) (tt := tYes) (te := tOp (rIxT K) (tVar 2) (tC (.int 0))) rfl scInit.nd (pi_tup (pe_fld (pv 0) (by rfl))) (blkOk_by (N := nInit) (sc := defScope sInit) (by decide +kernel)) (fun _ _ _ _ _ => pg_name (i := 2) scInit.nd rfl (Or.inl rfl)) (fun _ _ _ _ _ => pts_nil)
            (fun _ _ _ _ _ => pe_ix (r := rIxT K) ix_tup (pv 2) pe_int (fun _ _ => rfl))) pa_nil)) (by rfl))
      (pss_cons (ps_fld (pv 0) (pe_dc (own := [("pair", 2)]) (g := gName 2) (tt := tYes) (tk := tOp (rIxT K) (tVar 2) (tC (.int 0))) (tv := tOp (rIxT K) (tVar 2) (tC (.int 1))) rfl scInit.nd (pi_tup (pe_fld (pv 0) (by rfl))) (blkOk_by (N := nInit) (sc := defScope sInit) (by decide +kernel)) (fun _ _ _ _ _ => pg_name (i := 2) scInit.nd rfl (Or.inl rfl)) (fun _ _ _ _ _ => pts_nil)
            (fun _ _ _ _ _ => pe_ix (r := rIxT K) ix_tup (pv 2) pe_int (fun _ _ => rfl)) (fun _ _ _ _ _ => pe_ix (r := rIxT K) ix_tup (pv 2) pe_int (fun _ _ => rfl))) (by rfl))
      (pss_one (ps_fld (pv 0) (pe_callTy call_tuple_of (by rfl) T.tup (by decide +kernel) (pa_cons
          (pe_lc (own := [("pair", 2)]) (g := gName 2) (tt := tYes) (te := tTup (tCons (tOp (rIxT K) (tVar 2) (tC (.int 0))) (tCons (tCall (spSort K) [] E0 (tCons (tOp (rIxT K) (tVar 2) (tC (.int 1))) tNil)) tNil))) rfl scInit.nd (pi_tup (pe_fld (pv 0) (by rfl))) (blkOk_by (N := nInit) (sc := defScope sInit) (by decide +kernel)) (fun _ _ _ _ _ => pg_name (i := 2) scInit.nd rfl (Or.inl rfl)) (fun _ _ _ _ _ => pts_nil)
            (fun _ _ _ _ _ => pe_tup (pa_cons (pe_ix (r := rIxT K) ix_tup (pv 2) pe_int (fun _ _ => rfl)) (pa_cons (pe_call G8 (hr.mono (by decide)) rfl g8 k8 b8 .nil pass0 (pa_cons (pe_ix (r := rIxT K) ix_tup (pv 2) pe_int (fun _ _ => rfl)) pa_nil)) pa_nil)))) pa_nil)) (by rfl))))))), ?_⟩
    refine ⟨_, rfl, v, d, rfl, hd, hlen, fun H1 s1 => ⟨_, rfl, ?_⟩⟩
    refine ite2 (fun cc => ?_) (fun cc => ?_)
    · refine ⟨_, rfl, _, rfl, fun dd hn => no (by simpa using cc) dd _ (s1.trans (same_new hn)) (s1.free hn) upd_same⟩
    · have cf : areFacts d = true := by simpa using cc
      obtain ⟨fs, rfl, hfl, hnd⟩ := areFacts_of cf
      obtain ⟨a, xs, ds, rfl, e, hs, ha⟩ := hd.tupled rfl
      injection e with e
      subst e
      have ef : factsD (.tuple (fs.map pairD)) = fs := by
        show (fs.map pairD).map factD = fs
        rw [List.map_map]
        conv => rhs; rw [← List.map_id fs]
        rfl
      rw [ef] at yes
      have hl : xs.length = fs.length := by
        have := ha.len
        rwa [List.length_map] at this
      have h4 : fs.length ≤ 4000 := by
        have := hlen _ rfl
        rwa [List.length_map] at this
      have hz : (srt fs).length < sizeLine := by rw [srt_length, sizeLine_eq]; omega
      have hs1 := same_T s1 hs
      have ha1 := Dq.sameAll s1 _ _ ha
      have hx1 : H1 x = some (.ins C dx []) := s1 _ _ hx
      have gfl := srt_flats hfl
      have gnd := srt_nodup hnd
      -- self.pairs
      refine ⟨_, rfl, a, xs, _, rfl, .inr hs1, dq_keys ha1 hfl, by rw [List.map_map]; exact hnd, fun zs p hp hst hpn => ⟨p, _, rfl, .inl ⟨SqL.of upd_same, fun l hln => ?_⟩⟩⟩
      have hys := sorted_facts ha1 hnd hp hst
      generalize zs.map (·.1) = ys at hys hln
      have sA : Same H1 (upd (upd H1 p (.lst ys)) l (.tup ys)) := (same_new hpn).trans (same_new hln)
      refine ⟨_, rfl, x, C, dx, [], rfl, sA _ _ hx1, c.cls, c.pairs, by decide, ?_⟩
      have fresh : ∀ {Hx : Hp} {q : Addr} {gs : List (Str × V)}, Hx x = some (.ins C dx gs) → Hx q = none → q ≠ x := fun e n => Ne.symm (ne_of_none e n)
      have put : ∀ {Hx : Hp} {o : HO}, Chg x Hx (upd Hx x o) := fun b u n e => by rw [upd_ne n]; exact e
      have lx : l ≠ x := fresh (Same.trans (same_new hpn) (Same.refl _) _ _ hx1) hln
      have x2 : (upd (upd (upd H1 p (.lst ys)) l (.tup ys)) x (.ins C dx (putF "pairs" (.ref l) []))) x = some (.ins C dx [("pairs", .ref l)]) := by rw [upd_same]; rfl
      have c2 : Chg x H (upd (upd (upd H1 p (.lst ys)) l (.tup ys)) x (.ins C dx (putF "pairs" (.ref l) []))) := Chg.trans (Chg.same (s1.trans sA)) put
      have t2 : SqT K (upd (upd (upd H1 p (.lst ys)) l (.tup ys)) x (.ins C dx (putF "pairs" (.ref l) []))) l ys := SqT.of (by rw [upd_ne lx, upd_same])
      have d2 : DqAll K (upd (upd (upd H1 p (.lst ys)) l (.tup ys)) x (.ins C dx (putF "pairs" (.ref l) []))) ys ((srt fs).map pairD) := Dq.chgAll (sA _ _ hx1) put _ _ (Dq.sameAll sA _ _ hys)
      generalize (upd (upd (upd H1 p (.lst ys)) l (.tup ys)) x (.ins C dx (putF "pairs" (.ref l) []))) = HA at x2 c2 t2 d2 ⊢
      have hyl : ys.length = (srt fs).length := by
        have := d2.len
        rwa [List.length_map] at this
      have hyz : ys.length < sizeLine := by rw [hyl]; exact hz
      have item : ∀ {Hx : Hp} {i : Nat} {y : V}, Same HA Hx → ys[i]? = some y → ∃ t, y = V.ref t ∧ SqT K Hx t [.str ((srt fs).getD i dflt).1, vD ((srt fs).getD i dflt).2] := fun {Hx i y} s e => by
        have z := Dq.same s _ _ (d2.at_ e (pairD dflt))
        rw [getD_map] at z
        exact z.pair (flats_getD gfl i)
      -- self.names
      refine ⟨_, rfl, x, C, dx, _, _, rfl, x2, c.cls, c.pairs, rfl, l, rfl, ⟨ys, t2⟩, fun D hD => lc_addT (p := fun _ => true) (f := fun i => V.str ((srt fs).getD i dflt).1) hD t2 hyz (fun i y H' Q' hy s q => q H' (Same.refl _)) (fun i y H' Q' hy _ s q => ?_) fun H3 s3 e3 => ?_⟩
      · obtain ⟨t, rfl, ht⟩ := item s hy
        exact ⟨_, rfl, t, _, _, _, rfl, rfl, ht, rfl, q H' (Same.refl _)⟩
      rw [took_all (fun f : Str × PyData => V.str f.1) dflt (srt fs) _ hyl] at e3
      refine ⟨D, _, rfl, .inl ⟨SqL.of e3, fun l3 hl3 => ?_⟩⟩
      have x3 := s3 _ _ x2
      have l3x : l3 ≠ x := fresh x3 hl3
      refine ⟨_, rfl, x, C, dx, _, rfl, same_new hl3 _ _ x3, c.cls, c.names, by show 1 < 1000; decide, ?_⟩
      have xA : Same HA (upd H3 l3 (.tup ((srt fs).map fun f => V.str f.1))) := s3.trans (same_new hl3)
      have x4 : (upd (upd H3 l3 (.tup ((srt fs).map fun f => V.str f.1))) x (.ins C dx (putF "names" (.ref l3) [("pairs", .ref l)]))) x = some (.ins C dx [("pairs", .ref l), ("names", .ref l3)]) := by rw [upd_same]; rfl
      have c4 : Chg x H (upd (upd H3 l3 (.tup ((srt fs).map fun f => V.str f.1))) x (.ins C dx (putF "names" (.ref l3) [("pairs", .ref l)]))) := Chg.trans c2 (Chg.trans (Chg.same xA) put)
      have t4 : SqT K (upd (upd H3 l3 (.tup ((srt fs).map fun f => V.str f.1))) x (.ins C dx (putF "names" (.ref l3) [("pairs", .ref l)]))) l ys := Chg.seqT (Chg.trans (Chg.same xA) put) lx t2
      have d4 : DqAll K (upd (upd H3 l3 (.tup ((srt fs).map fun f => V.str f.1))) x (.ins C dx (putF "names" (.ref l3) [("pairs", .ref l)]))) ys ((srt fs).map pairD) := Dq.chgAll (xA _ _ x2) put _ _ (Dq.sameAll xA _ _ d2)
      have n4 : SqT K (upd (upd H3 l3 (.tup ((srt fs).map fun f => V.str f.1))) x (.ins C dx (putF "names" (.ref l3) [("pairs", .ref l)]))) l3 ((srt fs).map fun f => V.str f.1) := SqT.of (by rw [upd_ne l3x, upd_same])
      generalize (upd (upd H3 l3 (.tup ((srt fs).map fun f => V.str f.1))) x (.ins C dx (putF "names" (.ref l3) [("pairs", .ref l)]))) = HB at x4 c4 t4 d4 n4 ⊢
      have item4 : ∀ {Hx : Hp} {i : Nat} {y : V}, Same HB Hx → ys[i]? = some y → ∃ t, y = V.ref t ∧ SqT K Hx t [.str ((srt fs).getD i dflt).1, vD ((srt fs).getD i dflt).2] := fun {Hx i y} s e => by
        have z := Dq.same s _ _ (d4.at_ e (pairD dflt))
        rw [getD_map] at z
        exact z.pair (flats_getD gfl i)
      -- self._values
      refine ⟨_, rfl, x, C, dx, _, _, rfl, x4, c.cls, c.pairs, rfl, l, rfl, ⟨ys, t4⟩, fun D4 hD4 => dc_addT (kf := fun i => Sum.inr ((srt fs).getD i dflt).1) (f := fun i => vD ((srt fs).getD i dflt).2) hD4 t4 hyz (fun i j hij hj e => ?_) (fun i y H' Q' hy s q => ?_) (fun i y H' Q' hy s q => ?_) fun H5 s5 e5 => ?_⟩
      · rw [hyl] at hj
        have ni : ∀ m, m < (srt fs).length → ((srt fs).map (·.1))[m]? = some ((srt fs).getD m dflt).1 := fun m hm => by
          rw [List.getElem?_map, List.getElem?_eq_getElem hm]
          simp [List.getD, List.getElem?_eq_getElem hm]
        have e2 : ((srt fs).getD i dflt).1 = ((srt fs).getD j dflt).1 := Sum.inr.inj e
        have m1 := ni i (by omega)
        rw [e2] at m1
        have z := nodup_ix gnd m1 (ni j hj)
        omega
      · obtain ⟨t, rfl, ht⟩ := item4 s hy
        exact ⟨_, rfl, t, _, _, _, rfl, rfl, ht, rfl, q H' (Same.refl _)⟩
      · obtain ⟨t, rfl, ht⟩ := item4 s hy
        exact ⟨_, rfl, t, _, _, _, rfl, rfl, ht, rfl, q H' (Same.refl _)⟩
      rw [show tookK ys.length (fun i => Sum.inr ((srt fs).getD i dflt).1) (fun i => vD ((srt fs).getD i dflt).2) = (srt fs).map fun f => (Sum.inr f.1, vD f.2) from range_list (fun f : Str × PyData => ((Sum.inr f.1 : Key), vD f.2)) dflt (srt fs) _ hyl] at e5
      have x5 := s5 _ _ x4
      have D4x : D4 ≠ x := fresh x4 hD4
      refine ⟨_, rfl, x, C, dx, _, rfl, x5, c.cls, c.vals, by show 2 < 1000; decide, ?_⟩
      have x6 : (upd H5 x (.ins C dx (putF "_values" (.ref D4) [("pairs", .ref l), ("names", .ref l3)]))) x = some (.ins C dx [("pairs", .ref l), ("names", .ref l3), ("_values", .ref D4)]) := by rw [upd_same]; rfl
      have c6 : Chg x H (upd H5 x (.ins C dx (putF "_values" (.ref D4) [("pairs", .ref l), ("names", .ref l3)]))) := Chg.trans c4 (Chg.trans (Chg.same s5) put)
      have t6 : SqT K (upd H5 x (.ins C dx (putF "_values" (.ref D4) [("pairs", .ref l), ("names", .ref l3)]))) l ys := Chg.seqT (Chg.trans (Chg.same s5) put) lx t4
      have d6 : DqAll K (upd H5 x (.ins C dx (putF "_values" (.ref D4) [("pairs", .ref l), ("names", .ref l3)]))) ys ((srt fs).map pairD) := Dq.chgAll x5 put _ _ (Dq.sameAll s5 _ _ d4)
      have n6 : SqT K (upd H5 x (.ins C dx (putF "_values" (.ref D4) [("pairs", .ref l), ("names", .ref l3)]))) l3 ((srt fs).map fun f => V.str f.1) := Chg.seqT (Chg.trans (Chg.same s5) put) l3x n4
      have v6 : (upd H5 x (.ins C dx (putF "_values" (.ref D4) [("pairs", .ref l), ("names", .ref l3)]))) D4 = some (.dK ((srt fs).map fun f => (Sum.inr f.1, vD f.2))) := by rw [upd_ne D4x]; exact e5
      generalize (upd H5 x (.ins C dx (putF "_values" (.ref D4) [("pairs", .ref l), ("names", .ref l3)]))) = HC at x6 c6 t6 d6 n6 v6 ⊢
      -- self._sorts
      refine ⟨_, rfl, x, C, dx, _, _, rfl, x6, c.cls, c.pairs, rfl, l, rfl, ⟨ys, t6⟩, fun D6 hD6 => lc_dqT (df := fun i => sortD ((srt fs).getD i dflt)) hD6 t6 hyz (fun i y H' Q' hy s eD q => ?_) fun H7 zs7 s7 e7 d7 => ?_⟩
      · have fi := flats_getD gfl i
        have z := Dq.same s _ _ (d6.at_ hy (pairD dflt))
        rw [getD_map] at z
        obtain ⟨t, rfl, ht⟩ := z.pair fi
        obtain ⟨acc, eD⟩ := eD
        refine ⟨_, rfl, t, _, _, _, rfl, rfl, ht, rfl, _, rfl, t, _, _, _, rfl, rfl, ht, rfl, _, _, rfl, dq_flat K H' fi, fun p1 hp1 => ⟨by show 2 ≤ sizeLine; decide, fun p2 hp2 => q _ _ ((same_new hp1).trans (same_new hp2)) ?_⟩⟩
        have n1 : p1 ≠ D6 := Ne.symm (ne_of_none eD hp1)
        have n2 : p2 ≠ D6 := Ne.symm (ne_of_none (same_new hp1 _ _ eD) hp2)
        have n12 : p1 ≠ p2 := ne_of_none upd_same hp2
        refine .tup (SqT.of (by rw [hid_ne n2, upd_same])) (.cons (.str _) (.cons (.tup (SqT.of (by rw [hid_ne n1, upd_ne n12, upd_same])) (.cons (.bl _) (.cons (dq_flat K _ fi) .nil))) .nil))
      rw [range_list sortD dflt (srt fs) _ hyl] at d7
      refine ⟨D6, zs7, rfl, .inl ⟨SqL.of e7, fun l8 hl8 => ?_⟩⟩
      have x8 := same_new (o := .tup zs7) hl8 _ _ (s7 _ _ x6)
      have l8x : l8 ≠ x := fresh (s7 _ _ x6) hl8
      have sC : Same HC (upd H7 l8 (.tup zs7)) := s7.trans (same_new hl8)
      refine ⟨_, rfl, x, C, dx, _, rfl, x8, c.cls, c.sorts, by show 3 < 1000; decide, ?_⟩
      refine yes cf _ (Chg.trans c6 (Chg.trans (Chg.same sC) put)) ⟨dx, l, l3, D4, l8, ys, zs7, upd_same, Chg.seqT (Chg.trans (Chg.same sC) put) lx t6, Dq.chgAll x8 put _ _ (Dq.sameAll sC _ _ d6), Chg.seqT (Chg.trans (Chg.same sC) put) l3x n6, ?_, SqT.of (by rw [upd_ne l8x, upd_same]), Dq.chgAll x8 put _ _ (Dq.sameAll (same_new hl8) _ _ d7)⟩
      rw [upd_ne D4x]
      exact sC _ _ v6
end
end Kx
namespace Vx
open PySem PySem.Spec PyProof.Rows L2
/-! ### questions about facts -/
def findF (fs : Fs) (n : Str) : Option PyData := (fs.find? fun f => decide (f.1 = n)).map (·.2)
def hasD (fs : Fs) : PyData → Bool
  | .str n => (findF fs n).isSome
  | _ => false
theorem valV_facts (fs : Fs) (n : Str) : valV (fs.map fun f => ((Sum.inr f.1 : Key), vD f.2)) (Sum.inr n) = (findF fs n).map vD := by
  unfold valV findF
  rw [List.find?_map]
  have e : ((fun kv : Key × V => decide (kv.1 = Sum.inr n)) ∘ fun f : Str × PyData => ((Sum.inr f.1 : Key), vD f.2)) = fun f => decide (f.1 = n) := by
    funext f
    exact key_rr f.1 n
  rw [e]
  cases fs.find? fun f => decide (f.1 = n) <;> rfl
theorem findF_flat {fs : Fs} (h : Flats fs) {n : Str} {d : PyData} (e : findF fs n = some d) : isFlat d = true := by
  unfold findF at e
  cases q : fs.find? fun f => decide (f.1 = n) with
  | none => rw [q] at e; cases e
  | some f =>
    rw [q] at e
    cases e
    exact h f (List.mem_of_find?_eq_some q)
theorem isTy_str {d : PyData} (h : isTy "str" d = true) : ∃ n, d = .str n := by
  cases d with
  | str n => exact ⟨n, rfl⟩
  | _ => simp [isTy, tyD] at h
theorem hasD_not {fs : Fs} {d : PyData} (h : isTy "str" d = false) : hasD fs d = false := by
  cases d with
  | str n => simp [isTy, tyD] at h
  | _ => rfl
end Vx
namespace Kx
open PySem L2 Vx
abbrev sHas : Stmt := clsDef (top 9) 3
abbrev sLen : Stmt := clsDef (top 9) 4
abbrev sGet : Stmt := clsDef (top 9) 1
/-- name in facts -/
def spHas (K : PySem.W.Frag) (C : Addr) : Sp := fun vs H Q _ => ∃ (x : Addr) (v : V) (d : PyData) (fs : Fs), vs = [.ref x, v] ∧ FactsAt K C H x fs ∧ Dq K H v d ∧ Q (.bl (hasD fs d)) H
/-- len(facts) -/
def spLen (K : PySem.W.Frag) (C : Addr) : Sp := fun vs H Q _ => ∃ (x : Addr) (fs : Fs), vs = [.ref x] ∧ FactsAt K C H x fs ∧ Q (.int fs.length) H
/-- facts[name]; NoName, at CN, with the name where it is none -/
def spGet (K : PySem.W.Frag) (C CN : Addr) : Sp := fun vs H Q E => ∃ (x : Addr) (v : V) (d : PyData) (fs : Fs), vs = [.ref x, v] ∧ FactsAt K C H x fs ∧ Dq K H v d ∧
  (∀ n y, d = .str n → findF fs n = some y → Q (vD y) H) ∧
  (hasD fs d = false → ∀ (dd : Addr) (H' : Hp), Same H H' → H dd = none → H' dd = some (.xd [(("value" : Str), v)]) → E (.ref CN) (some dd) H')
section
variable {P : Program} {w : World} {K : PySem.W.Frag} {mg : Str → Option Value} {base : Heap}
theorem scHas : FnScope ["self", "name"] ["self", "name"] (defScope sHas) := ⟨rfl, rfl, rfl, by decide +kernel, rfl, by decide +kernel, by decide +kernel⟩
theorem ok_has {f C : Addr} {fd : FuncData} (F : Fun K "__contains__" "Facts.__contains__" sHas f fd) (T : TxtF K mg) (c : FactsC K C) : FnOk P w K mg base CX0 1 f fd ["self", "name"] (spHas K C) := by
  refine F.ok scHas (fun vs H Q E h => ?_) (fun cdv A outer s H vs Q E hr h => ?_)
  · obtain ⟨x, v, d, fs, rfl, _⟩ := h
    rfl
  · obtain ⟨x, v, d, fs, rfl, hf, hd, q⟩ := h
    have hu : (cxOf CX0 P w K mg base ["self", "name"] "Facts.__contains__" (defScope sHas) f cdv A outer s H E).nox.A.units + 1 < cLine := by
      have := hr.units
      show (A.deeper _).units + 1 < _
      omega
    refine ⟨_, pss_one (ps_ret (pe_and (pe_callB call_isi (by rfl) T.isi (by decide +kernel) (pa_cons (pv 1) (pa_cons (pe_ty "str" (by rfl) T.str) pa_nil)))
      (pe_one (pe_cmp (pc_din hu (pv 1) (pe_fld (pv 0) (by rfl))))))), ?_⟩
    refine ⟨_, rfl, v, _, _, _, _, rfl, .ty _, hd.ty, kit_tyD d "str", _, rfl, ?_⟩
    refine ite2 (fun cc => ?_) (fun cc => ?_)
    · obtain ⟨n, rfl⟩ := isTy_str cc
      cases hd
      obtain ⟨dx, pa, na, va, sa, ps, ss, h1, h2, h3, h4, h5, h6, h7⟩ := hf
      refine ⟨_, rfl, _, rfl, x, C, dx, _, _, rfl, h1, c.cls, c.vals, rfl, va, _, rfl, DGet.k (k := Sum.inr n) h5, ?_⟩
      rw [valV_facts]
      have e : ((findF fs n).map vD).isSome = (findF fs n).isSome := by cases findF fs n <;> rfl
      rw [e]
      exact q
    · have z : hasD fs d = false := hasD_not (by simpa using cc)
      rw [z] at q
      exact q
theorem scLen : FnScope ["self"] ["self"] (defScope sLen) := ⟨rfl, rfl, rfl, by decide +kernel, rfl, by decide +kernel, by decide +kernel⟩
theorem ok_len {f C : Addr} {fd : FuncData} (F : Fun K "__len__" "Facts.__len__" sLen f fd) (T : TxtF K mg) (c : FactsC K C) : FnOk P w K mg base CX0 1 f fd ["self"] (spLen K C) := by
  refine F.ok scLen (fun vs H Q E h => ?_) (fun cdv A outer s H vs Q E hr h => ?_)
  · obtain ⟨x, fs, rfl, _⟩ := h
    rfl
  · obtain ⟨x, fs, rfl, hf, q⟩ := h
    refine ⟨_, pss_one (ps_ret (pe_callB call_len_seq (by rfl) T.len PySem.boot_len (pa_cons (pe_fld (pv 0) (by rfl)) pa_nil))), ?_⟩
    obtain ⟨dx, pa, na, va, sa, ps, ss, h1, h2, h3, h4, h5, h6, h7⟩ := hf
    have hl : ps.length = fs.length := by
      have := h3.len
      rwa [List.length_map] at this
    exact ⟨_, rfl, x, C, dx, _, _, rfl, h1, c.cls, c.pairs, rfl, pa, ps, rfl, .inr h2, by rw [hl]; exact q⟩
theorem scGet : FnScope ["self", "name"] ["self", "name"] (defScope sGet) := ⟨rfl, rfl, rfl, by decide +kernel, rfl, by decide +kernel, by decide +kernel⟩
theorem ok_get {f fH fE C CN : Addr} {fd fdH fdE : FuncData} (F : Fun K "__getitem__" "Facts.__getitem__" sGet f fd) (c : FactsC K C)
    (GH : FnOk P w K mg base CX0 1 fH fdH ["self", "name"] (spHas K C)) (oH : OwnOp K C "__contains__" fH) (bH : Binds K fdH ["self", "name"] [])
    (GE : FnOk P w K mg base CX0 1 fE fdE ["self", "value"] (spErr K)) (bE : Binds K fdE ["self", "value"] []) (eN : ErrC K CN fE) (gN : mg "NoName" = some (.ref CN)) :
    FnOk P w K mg base (L2.CX P w) 3 f fd ["self", "name"] (spGet K C CN) := by
  refine F.okX scGet (fun vs H Q E h => ?_) (fun cdv A outer s H vs Q E hr h => ?_)
  · obtain ⟨x, v, d, fs, rfl, _⟩ := h
    rfl
  · obtain ⟨x, v, d, fs, rfl, hf, hd, yes, no⟩ := h
    have hu : (cxOf (L2.CX P w) P w K mg base ["self", "name"] "Facts.__getitem__" (defScope sGet) f cdv A outer s H E).nox.A.units + 1 < cLine := by
      have := hr.units
      show (A.deeper _).units + 1 < _
      omega
    refine ⟨_, pss_cons (ps_if (pt_cmpR (op_notInO oH GH (hr.mono (by decide)) bH pass0) (pv 1) (pv 0) rfl) (pss_one (ps_raiseE rfl eN GE hr bE (takes_of rfl rfl rfl rfl) rfl gN (pa_cons (pv 1) pa_nil))) pss_nil)
      (PSs.nox (pss_one (ps_ret (pe_dget hu (pe_fld (pv 0) (by rfl)) (pv 1) (fun _ _ => rfl))))), ?_⟩
    obtain ⟨dx, pa, na, va, sa, ps, ss, h1, h2, h3, h4, h5, h6, h7⟩ := id hf
    refine ⟨_, rfl, _, rfl, x, dx, _, rfl, h1, x, v, d, fs, rfl, hf, hd, _, rfl, _, rfl, ?_⟩
    refine ite2 (fun cc => ?_) (fun cc => ?_)
    · exact ⟨_, rfl, _, rfl, fun dd hn => no (by simpa using cc) dd _ (same_new hn) hn upd_same⟩
    · have z : hasD fs d = true := by simpa using cc
      match d, z, hd, yes with
      | .str n, z, .str _, yes =>
        obtain ⟨y, ey⟩ := Option.isSome_iff_exists.mp (show (findF fs n).isSome = true from z)
        have g : DGet H va (V.str n) (some (vD y)) := by
          have z := DGet.k (k := Sum.inr n) h5
          rw [valV_facts, ey] at z
          exact z
        exact ⟨_, rfl, x, C, dx, _, _, rfl, h1, c.cls, c.vals, rfl, _, rfl, va, _, rfl, g, yes n y rfl ey⟩
end
end Kx
namespace Vx
open PySem PySem.Spec PyProof.Rows L2
/-- facts as objects have them: values without parts, no name twice, not too many, all texts are texts -/
structure GoodF (fs : Fs) : Prop where
  flat : Flats fs
  nodup : (fs.map (·.1)).Nodup
  len : fs.length ≤ 4000
  lay : ∀ f ∈ fs, PyData.canLay0 (pairD f) = true
theorem GoodF.filter {fs : Fs} (g : GoodF fs) (p : Str × PyData → Bool) : GoodF (fs.filter p) :=
  ⟨fun f hf => g.flat f (List.mem_filter.mp hf).1, (List.Sublist.map _ List.filter_sublist).nodup g.nodup, Nat.le_trans (List.length_filter_le _ _) g.len, fun f hf => g.lay f (List.mem_filter.mp hf).1⟩
theorem GoodF.perm {fs gs : Fs} (g : GoodF fs) (p : gs.Perm fs) : GoodF gs :=
  ⟨fun f hf => g.flat f (p.mem_iff.mp hf), (p.map _).nodup_iff.mpr g.nodup, by rw [p.length_eq]; exact g.len, fun f hf => g.lay f (p.mem_iff.mp hf)⟩
theorem GoodF.srt {fs : Fs} (g : GoodF fs) : GoodF (srt fs) := g.perm (srt_perm fs)
theorem took_dq {K : PySem.W.Frag} {H : Hp} {ys : List V} {fs : Fs} (h : DqAll K H ys (fs.map pairD)) (p : Str × PyData → Bool) : DqAll K H (took ys.length (fun i => p (fs.getD i dflt)) (fun i => ys.getD i .non)) ((fs.filter p).map pairD) := by
  have hl : ys.length = fs.length := by
    have := h.len
    rwa [List.length_map] at this
  have key : ∀ n, n ≤ ys.length → DqAll K H (took n (fun i => p (fs.getD i dflt)) (fun i => ys.getD i .non)) (((fs.take n).filter p).map pairD) := by
    intro n
    induction n with
    | zero => intro _; exact .nil
    | succ n ih =>
      intro hn
      have e : fs.take (n + 1) = fs.take n ++ [fs.getD n dflt] := by
        rw [List.take_succ_eq_append_getElem (by omega)]
        congr 1
        simp [List.getD, List.getElem?_eq_getElem (show n < fs.length by omega)]
      rw [took_succ, e, List.filter_append, List.map_append]
      by_cases q : p (fs.getD n dflt) = true
      · rw [if_pos q, List.filter_cons_of_pos q]
        have ey : ys[n]? = some (ys.getD n .non) := by simp [List.getD, List.getElem?_eq_getElem (show n < ys.length by omega)]
        have z := h.at_ ey (pairD dflt)
        rw [getD_map] at z
        exact DqAll.snoc z (ih (by omega))
      · rw [if_neg q, List.filter_cons_of_neg q, List.append_nil]
        show DqAll K H _ (_ ++ [])
        rw [List.append_nil]
        exact ih (by omega)
  have z := key _ (Nat.le_refl _)
  rw [hl, List.take_length] at z
  rw [hl]
  exact z
mutual
theorem Dq.dp {K : PySem.W.Frag} {H : Hp} : ∀ (d : PyData) (v : V), PyData.canLay0 d = true → Dq K H v d → Dp K H v d
  | .none, _, _, h => by cases h; exact .non
  | .bool _, _, _, h => by cases h; exact .bl _
  | .int _, _, _, h => by cases h; exact .int _
  | .str _, _, _, h => by cases h; exact .str _
  | .list ds, _, c, h => by
    cases h with
    | lst a _ b => exact .lst a (Dq.dpAll ds _ (by simpa [PyData.canLay0] using c) b)
  | .tuple ds, _, c, h => by
    cases h with
    | tup a b => exact .tup a (Dq.dpAll ds _ (by simpa [PyData.canLay0] using c) b)
  | .dict _, _, c, _ => by simp [PyData.canLay0] at c
theorem Dq.dpAll {K : PySem.W.Frag} {H : Hp} : ∀ (ds : List PyData) (vs : List V), PyData.canLayAll0 ds = true → DqAll K H vs ds → DpAll K H vs ds
  | [], _, _, h => by cases h; exact .nil
  | d :: ds, _, c, h => by
    cases h with
    | cons a b =>
      rw [PyData.canLayAll0, Bool.and_eq_true] at c
      exact .cons (Dq.dp d _ c.1 a) (Dq.dpAll ds _ c.2 b)
end
theorem canLayAll_of : ∀ {ds : List PyData}, (∀ d ∈ ds, PyData.canLay0 d = true) → PyData.canLayAll0 ds = true
  | [], _ => rfl
  | d :: ds, h => by
    rw [PyData.canLayAll0, Bool.and_eq_true]
    exact ⟨h d List.mem_cons_self, canLayAll_of fun e he => h e (List.mem_cons_of_mem _ he)⟩
theorem depthAll_le {n : Nat} : ∀ {ds : List PyData}, (∀ d ∈ ds, d.depth ≤ n) → PyData.depthAll ds ≤ n
  | [], _ => Nat.zero_le _
  | d :: ds, h => by
    rw [PyData.depthAll]
    exact Nat.max_le.mpr ⟨h d List.mem_cons_self, depthAll_le fun e he => h e (List.mem_cons_of_mem _ he)⟩
theorem flat_depth {d : PyData} (h : isFlat d = true) : d.depth = 0 := by
  cases d <;> first | rfl | cases h
theorem lay_pair {f : Str × PyData} (h : PyData.canLay0 (pairD f) = true) : PyData.canLay0 (.str f.1) = true ∧ PyData.canLay0 f.2 = true := by
  simpa [pairD, PyData.canLay0, PyData.canLayAll0] using h
theorem sorts_shaped {fs : Fs} (g : GoodF fs) : SeqAt.shaped (.tuple (fs.map sortD)) = true := by
  unfold SeqAt.shaped
  rw [Bool.and_eq_true, decide_eq_true_eq]
  constructor
  · rw [PyData.canLay0]
    refine canLayAll_of fun d hd => ?_
    obtain ⟨f, hf, rfl⟩ := List.mem_map.mp hd
    obtain ⟨h1, h2⟩ := lay_pair (g.lay f hf)
    simp [sortD, PyData.canLay0, PyData.canLayAll0] at h1 ⊢
    exact ⟨h1, h2⟩
  · rw [PyData.depth]
    have : PyData.depthAll (fs.map sortD) ≤ 2 := depthAll_le fun d hd => by
      obtain ⟨f, hf, rfl⟩ := List.mem_map.mp hd
      have := flat_depth (g.flat f hf)
      simp [sortD, PyData.depth, PyData.depthAll, this]
    omega
/-- equality of facts as the objects have it -/
def eqF (fs gs : Fs) : Bool := PyData.eqv (.tuple (fs.map sortD)) (.tuple (gs.map sortD))
theorem inV_strs (n : Str) : ∀ ns : List Str, inV (.str n) (ns.map V.str) = ns.any fun m => decide (m = n)
  | [] => rfl
  | m :: ns => by
    have := inV_strs n ns
    unfold inV at this ⊢
    rw [List.map_cons, List.any_cons, List.any_cons, this]
    congr 1
end Vx
namespace Kx
open PySem L2 Vx
abbrev sEq : Stmt := clsDef (top 9) 5
abbrev sOnly : Stmt := clsDef (top 9) 7
/-- what isinstance asks of the class of facts -/
structure FactsT (K : PySem.W.Frag) (C : Addr) : Prop where
  ha : PySem.W.findIn K (.ref C) "__class__" = some (some (.builtin "object.__class__"))
  hn : PySem.W.specialIn K (.builtin "object.__class__") "__get__" = some (some (.builtin "getset_descriptor.__get__"))
  htk : PySem.W.takesIn K (.builtin "object.__class__") = some true
  hm : PySem.W.mroIn K C (.type "object") = some true
  self : PySem.W.kitOne K (.ref C) (.ref C) = some true
  other : ∀ n ∈ ["NoneType", "bool", "int", "str", "list", "tuple", "dict"], PySem.W.kitOne K (.type n) (.ref C) = some false
/-- facts == v: v of a built-in type, or facts -/
def spEq (K : PySem.W.Frag) (C : Addr) : Sp := fun vs H Q _ => ∃ (x : Addr) (v : V) (fs : Fs), vs = [.ref x, v] ∧ FactsAt K C H x fs ∧ GoodF fs ∧
  ((∃ n, TyX K H v (.type n) ∧ n ∈ ["NoneType", "bool", "int", "str", "list", "tuple", "dict"] ∧ Q (.bl false) H) ∨ ∃ (y : Addr) (gs : Fs), v = .ref y ∧ FactsAt K C H y gs ∧ GoodF gs ∧ Q (.bl (eqF fs gs)) H)
section
variable {P : Program} {w : World} {K : PySem.W.Frag} {mg : Str → Option Value} {base : Heap}
theorem factsAt_ty {C : Addr} {H : Hp} {x : Addr} {fs : Fs} (h : FactsAt K C H x fs) (c : FactsC K C) (t : FactsT K C) : TyX K H (.ref x) (.ref C) := by
  obtain ⟨dx, pa, na, va, sa, ps, ss, h1, _⟩ := h
  exact .base (.ins h1 c.cls t.ha t.hn t.htk t.hm)
theorem scEq : FnScope ["self", "other"] ["self", "other"] (defScope sEq) := ⟨rfl, rfl, rfl, by decide +kernel, rfl, by decide +kernel, by decide +kernel⟩
theorem ok_eq {f C : Addr} {fd : FuncData} (F : Fun K "__eq__" "Facts.__eq__" sEq f fd) (T : TxtF K mg) (c : FactsC K C) (ct : FactsT K C) (gC : mg "Facts" = some (.ref C)) : FnOk P w K mg base CX0 1 f fd ["self", "other"] (spEq K C) := by
  refine F.ok scEq (fun vs H Q E h => ?_) (fun cdv A outer s H vs Q E hr h => ?_)
  · obtain ⟨x, v, fs, rfl, _⟩ := h
    rfl
  · obtain ⟨x, v, fs, rfl, hf, gf, alt⟩ := h
    have hu : (cxOf CX0 P w K mg base ["self", "other"] "Facts.__eq__" (defScope sEq) f cdv A outer s H E).nox.A.units + 64 < cLine := by
      have := hr.units
      show (A.deeper _).units + 64 < _
      omega
    refine ⟨_, pss_one (ps_ret (pe_and (pe_callB call_isi (by rfl) T.isi (by decide +kernel) (pa_cons (pv 1) (pa_cons (pe_glob (v := .ref C) (by rfl) gC rfl) pa_nil)))
      (pe_one (pe_cmpR (op_eqD hu) (pe_fld (pv 0) (by rfl)) (pe_fld (pv 1) (by rfl)) (nomark _))))), ?_⟩
    rcases alt with ⟨n, hty, hn, q⟩ | ⟨y, gs, rfl, hg, gg, q⟩
    · refine ⟨_, rfl, v, _, _, _, _, rfl, .own C, hty, ct.other _ hn, _, rfl, ?_⟩
      exact ite2 (fun q => nomatch q) (fun _ => q)
    · refine ⟨_, rfl, .ref y, _, _, _, _, rfl, .own C, factsAt_ty hg c ct, ct.self, _, rfl, ?_⟩
      refine ite2 (fun _ => ?_) (fun q => absurd rfl q)
      obtain ⟨dx, pa, na, va, sa, ps, ss, h1, h2, h3, h4, h5, h6, h7⟩ := hf
      obtain ⟨dy, qa, ma, wa, ta, qs, ts, k1, k2, k3, k4, k5, k6, k7⟩ := hg
      have l1 := sorts_shaped gf
      have l2 := sorts_shaped gg
      exact ⟨_, rfl, x, C, dx, _, _, rfl, h1, c.cls, c.sorts, rfl, _, rfl, y, C, dy, _, _, rfl, k1, c.cls, c.sorts, rfl, _, _, Dq.dp _ _ (SeqAt.canLay_of_shaped l1) (.tup h6 h7), Dq.dp _ _ (SeqAt.canLay_of_shaped l2) (.tup k6 k7), l1, l2, q⟩
/-- facts.only(names): new facts -/
def spOnly (K : PySem.W.Frag) (C : Addr) : Sp := fun vs H Q _ => ∃ (x na : Addr) (fs : Fs) (ns : List Str), vs = [.ref x, .ref na] ∧ FactsAt K C H x fs ∧ GoodF fs ∧ SqT K H na (ns.map V.str) ∧
  ∀ a H', Same H H' → FactsAt K C H' a (srt (fs.filter fun f => ns.any fun m => decide (m = f.1))) → Q (.ref a) H'
abbrev nOnly : List Str := ["self", "names", "pair"]
theorem scOnly : FnScope nOnly ["self", "names"] (defScope sOnly) := ⟨rfl, rfl, rfl, by decide +kernel, rfl, by decide +kernel, by decide +kernel⟩
/-- Facts(..) of facts, as a call within a def -/
theorem made_facts {C CB : Addr} {H1 : Hp} {Q : VK} {fs : Fs} {v : V} (g : GoodF fs) (hv : Dq K H1 v (.tuple (fs.map pairD))) (q : ∀ a H', Same H1 H' → FactsAt K C H' a (srt fs) → Q (.ref a) H') {E : XK} :
    ∀ x dx, H1 x = none → H1 dx = none → dx ≠ x → spInit K C CB (.ref x :: ([v] ++ [])) (upd (upd H1 dx (.own x)) x (.ins C dx [])) (fun u H2 => u = .non ∧ Q (.ref x) H2) E := by
  intro x dx hx hd ne
  have n2 : (upd H1 dx (.own x)) x = none := by rw [upd_ne (Ne.symm ne)]; exact hx
  have s : Same H1 (upd (upd H1 dx (.own x)) x (.ins C dx [])) := (same_new hd).trans (same_new n2)
  have ef : factsD (.tuple (fs.map pairD)) = fs := by
    show (fs.map pairD).map factD = fs
    rw [List.map_map]
    conv => rhs; rw [← List.map_id fs]
    rfl
  have af := areFacts_pairs g.flat g.nodup
  refine ⟨x, dx, v, _, rfl, upd_same, Dq.same s _ _ hv, fun ds e => ?_, fun _ H' ch hf => ⟨rfl, q x H' (fun b o e => ch b o (ne_of_none e hx) (s b o e)) ?_⟩, fun z => ?_⟩
  · injection e with e
    rw [← e, List.length_map]
    exact g.len
  · rw [ef] at hf
    exact hf
  · rw [af] at z
    cases z
theorem ok_only {f fI C CB : Addr} {fd fdI : FuncData} (F : Fun K "only" "Facts.only" sOnly f fd) (T : TxtF K mg) (c : FactsC K C) (gC : mg "Facts" = some (.ref C)) (M : Mk K C fI)
    (GI : FnOk P w K mg base (L2.CX P w) 3 fI fdI ["self", "pairs"] (spInit K C CB)) (bI : Binds K fdI ["self", "pairs"] []) : FnOk P w K mg base CX0 5 f fd ["self", "names"] (spOnly K C) := by
  refine F.ok scOnly (fun vs H Q E h => ?_) (fun cdv A outer s H vs Q E hr h => ?_)
  · obtain ⟨x, na, fs, ns, rfl, _⟩ := h
    rfl
  · obtain ⟨x, na, fs, ns, rfl, hf, gf, hn, q⟩ := h
    refine ⟨_, pss_one (ps_ret (pe_make M GI hr rfl gC bI .nil passL (pa_cons (pe_callTy call_tuple_of (by rfl) T.tup (by decide +kernel) (pa_cons
        (pe_lc (own := [("pair", 2)]) (g := gName 2) (tt := tTest (tOp (rIn K false) (tOp (rIxT K) (tVar 2) (tC (.int 0))) (tVar 1))) (te := tVar 2) rfl scOnly.nd (pi_tup (pe_fld (pv 0) (by rfl))) (blkOk_by (N := nOnly) (sc := defScope sOnly) (by decide +kernel)) (fun _ _ _ _ _ => pg_name (i := 2) scOnly.nd rfl (Or.inl rfl))
          (fun _ _ _ _ _ => pts_one (pt_cmpR (r := rIn K false) op_in_seq (pe_ix (r := rIxT K) ix_tup (pv 2) pe_int (fun _ _ => rfl)) (pv 1) rfl)) (fun _ _ _ _ _ => pv 2)) pa_nil)) pa_nil))), ?_⟩
    obtain ⟨dx, pa, ma, va, sa, ps, ss, h1, h2, h3, h4, h5, h6, h7⟩ := hf
    have hl : ps.length = fs.length := by
      have := h3.len
      rwa [List.length_map] at this
    have hz : ps.length < sizeLine := by
      have := gf.len
      rw [hl, sizeLine_eq]
      omega
    refine ⟨_, rfl, x, C, dx, _, _, rfl, h1, c.cls, c.pairs, rfl, pa, rfl, ⟨ps, h2⟩, fun D hD => lc_addT (p := fun i => ns.any fun m => decide (m = (fs.getD i dflt).1)) (f := fun i => ps.getD i .non) hD h2 hz (fun i y H' Q' hy s k => ?_) (fun i y H' Q' hy _ s k => ?_) fun H3 s3 e3 => ?_⟩
    · have z := Dq.same s _ _ (h3.at_ hy (pairD dflt))
      rw [getD_map] at z
      obtain ⟨t, rfl, ht⟩ := z.pair (flats_getD gf.flat i)
      refine ⟨_, rfl, t, _, _, _, rfl, rfl, ht, rfl, _, rfl, na, _, rfl, .inr (same_T s hn), rfl, ?_, _, rfl, ?_⟩
      · rw [List.all_map]
        exact List.all_eq_true.mpr fun _ _ => rfl
      · show Q' (if false = true then _ else _) H'
        rw [if_neg Bool.false_ne_true, inV_strs]
        exact k H' (Same.refl _)
    · have e : y = ps.getD i .non := by simp [List.getD, hy]
      exact ⟨y, rfl, e ▸ k H' (Same.refl _)⟩
    · have z := took_dq (Dq.sameAll s3 _ _ h3) fun f => ns.any fun m => decide (m = f.1)
      refine ⟨D, _, rfl, .inl ⟨SqL.of e3, fun l hl => ?_⟩⟩
      exact made_facts (gf.filter _) (.tup (SqT.of upd_same) (Dq.sameAll (same_new hl) _ _ z)) fun a H' s hf => q a H' ((s3.trans (same_new hl)).trans s) hf
end
end Kx
namespace Vx
open PySem PySem.Spec PyProof.Rows L2
/-! ### facts joined -/
def sortV (d : PyData) : PyData := .tuple [.bool (isTy "bool" d), d]
/-- two values are of one sort and equal, as the objects have it -/
def sameD (d e : PyData) : Bool := PyData.eqv (sortV d) (sortV e)
/-- a fact that is told otherwise in gs -/
def unl (gs : Fs) (f : Str × PyData) : Bool := match findF gs f.1 with
  | some e => !sameD f.2 e
  | none => false
def joinF (fs gs : Fs) : Fs := fs ++ gs.filter fun g => !(findF fs g.1).isSome
theorem findF_some {fs : Fs} (nd : (fs.map (·.1)).Nodup) {f : Str × PyData} (h : f ∈ fs) : findF fs f.1 = some f.2 := by
  unfold findF
  induction fs with
  | nil => cases h
  | cons c fs ih =>
    rw [List.map_cons, List.nodup_cons] at nd
    rcases List.mem_cons.mp h with e | h
    · rw [e, List.find?_cons_of_pos (by simp)]
      rfl
    · rw [List.find?_cons_of_neg]
      · exact ih nd.2 h
      · intro z
        have z : c.1 = f.1 := of_decide_eq_true z
        exact nd.1 (by rw [z]; exact List.mem_map.mpr ⟨f, h, rfl⟩)
theorem findF_none {fs : Fs} {n : Str} : (findF fs n).isSome = false ↔ n ∉ fs.map (·.1) := by
  unfold findF
  rw [Option.isSome_map]
  constructor
  · intro h m
    obtain ⟨f, hf, e⟩ := List.mem_map.mp m
    have : (fs.find? fun f => decide (f.1 = n)).isSome = true := by
      rw [List.find?_isSome]
      exact ⟨f, hf, by simpa using e⟩
    rw [h] at this
    cases this
  · intro h
    cases q : fs.find? fun f => decide (f.1 = n) with
    | none => rfl
    | some f =>
      have h1 := List.mem_of_find?_eq_some q
      have h2 : f.1 = n := by simpa using List.find?_some q
      exact absurd (List.mem_map.mpr ⟨f, h1, h2⟩) h
theorem GoodF.join {fs gs : Fs} (g : GoodF fs) (k : GoodF gs) (hl : fs.length + gs.length ≤ 4000) : GoodF (joinF fs gs) := by
  refine ⟨fun f hf => ?_, ?_, ?_, fun f hf => ?_⟩
  · rcases List.mem_append.mp hf with h | h
    · exact g.flat f h
    · exact (k.filter _).flat f h
  · unfold joinF
    rw [List.map_append]
    refine List.nodup_append.mpr ⟨g.nodup, (k.filter _).nodup, fun a ha b hb e => ?_⟩
    obtain ⟨f, hf, rfl⟩ := List.mem_map.mp hb
    have z : (findF fs f.1).isSome = false := by
      have := (List.mem_filter.mp hf).2
      simpa using this
    exact findF_none.mp z (e ▸ ha)
  · unfold joinF
    rw [List.length_append]
    have := List.length_filter_le (fun g : Str × PyData => !(findF fs g.1).isSome) gs
    omega
  · rcases List.mem_append.mp hf with h | h
    · exact g.lay f h
    · exact (k.filter _).lay f h
theorem DqAll.append {K : PySem.W.Frag} {H : Hp} {ys : List V} {es : List PyData} (h : DqAll K H ys es) : ∀ {xs : List V} {ds : List PyData}, DqAll K H xs ds → DqAll K H (xs ++ ys) (ds ++ es)
  | _, _, .nil => h
  | _, _, .cons a b => .cons a (DqAll.append h b)
theorem sortV_shaped {d : PyData} (h : isFlat d = true) (l : PyData.canLay0 d = true) : SeqAt.shaped (sortV d) = true := by
  unfold SeqAt.shaped
  rw [Bool.and_eq_true, decide_eq_true_eq]
  constructor
  · simp [sortV, PyData.canLay0, PyData.canLayAll0, l]
  · simp [sortV, PyData.depth, PyData.depthAll, flat_depth h]
theorem findF_lay {fs : Fs} (g : GoodF fs) {n : Str} {d : PyData} (e : findF fs n = some d) : PyData.canLay0 d = true := by
  unfold findF at e
  cases q : fs.find? fun f => decide (f.1 = n) with
  | none => rw [q] at e; cases e
  | some f =>
    rw [q] at e
    cases e
    exact (lay_pair (g.lay f (List.mem_of_find?_eq_some q))).2
end Vx
namespace Kx
open PySem L2 Vx
abbrev sOr : Stmt := clsDef (top 9) 6
abbrev nOr : List Str := ["self", "other", "name", "pair", "added"]
/-- facts | facts; Unlike, at CU, with the first name that is told otherwise -/
def spOr (K : PySem.W.Frag) (C CU : Addr) : Sp := fun vs H Q E => ∃ (x y : Addr) (fs gs : Fs), vs = [.ref x, .ref y] ∧ FactsAt K C H x fs ∧ FactsAt K C H y gs ∧ GoodF fs ∧ GoodF gs ∧ fs.length + gs.length ≤ 4000 ∧
  (fs.find? (unl gs) = none → ∀ a H', Same H H' → FactsAt K C H' a (srt (joinF fs gs)) → Q (.ref a) H') ∧
  (∀ f, fs.find? (unl gs) = some f → ∀ (dd : Addr) (H' : Hp), Same H H' → H dd = none → H' dd = some (.xd [(("value" : Str), .str f.1)]) → E (.ref CU) (some dd) H')
section
variable {P : Program} {w : World} {K : PySem.W.Frag} {mg : Str → Option Value} {base : Heap}
theorem scOr : FnScope nOr ["self", "other"] (defScope sOr) := ⟨rfl, rfl, rfl, by decide +kernel, rfl, by decide +kernel, by decide +kernel⟩
theorem ok_or {f fI fH fG f8 fE C CB CN CU : Addr} {fd fdI fdH fdG fd8 fdE : FuncData} (F : Fun K "__or__" "Facts.__or__" sOr f fd) (T : TxtF K mg) (c : FactsC K C) (gC : mg "Facts" = some (.ref C)) (M : Mk K C fI)
    (GI : FnOk P w K mg base (L2.CX P w) 3 fI fdI ["self", "pairs"] (spInit K C CB)) (bI : Binds K fdI ["self", "pairs"] [])
    (GH : FnOk P w K mg base CX0 1 fH fdH ["self", "name"] (spHas K C)) (oH : OwnOp K C "__contains__" fH) (bH : Binds K fdH ["self", "name"] [])
    (GG : FnOk P w K mg base (L2.CX P w) 3 fG fdG ["self", "name"] (spGet K C CN)) (oG : OwnOp K C "__getitem__" fG) (nG : PySem.W.fnIn K fG = true) (bG : Binds K fdG ["self", "name"] [])
    (G8 : FnOk P w K mg base CX0 1 f8 fd8 ["value"] (spSort K)) (g8 : mg "with_sort" = some (.ref f8)) (k8 : PySem.W.keepIn K (.ref f8) = true) (b8 : Binds K fd8 ["value"] [])
    (GE : FnOk P w K mg base CX0 1 fE fdE ["self", "value"] (spErr K)) (bE : Binds K fdE ["self", "value"] []) (eU : ErrC K CU fE) (gU : mg "Unlike" = some (.ref CU)) :
    FnOk P w K mg base (L2.CX P w) 5 f fd ["self", "other"] (spOr K C CU) := by
  refine F.okX scOr (fun vs H Q E h => ?_) (fun cdv A outer s H vs Q E hr h => ?_)
  · obtain ⟨x, y, fs, gs, rfl, _⟩ := h
    rfl
  · obtain ⟨x, y, fs, gs, rfl, hf, hg, gf, gg, hl, yes, no⟩ := h
    have hu : (cxOf (L2.CX P w) P w K mg base nOr "Facts.__or__" (defScope sOr) f cdv A outer s H E).A.units + 64 < cLine := by
      have := hr.units
      show (A.deeper _).units + 64 < _
      omega
    refine ⟨_, pss_cons (ps_for (passes_of rfl) rfl (pi_tup (pe_fld (pv 0) (by rfl))) (pg_name (i := 2) scOr.nd rfl (Or.inl rfl))
        (pss_one (ps_if (PW.pt (pw_and (pt_cmpR (op_inO oH GH (hr.mono (by decide)) bH pass0) (pv 2) (pv 1) rfl)
          (pw_and1 (pt_cmpR (op_neD hu) (pe_call G8 (hr.mono (by decide)) rfl g8 k8 b8 .nil pass0 (pa_cons (pe_getO oG nG GG hr bG passL (pv 0) (pv 2)) pa_nil))
            (pe_call G8 (hr.mono (by decide)) rfl g8 k8 b8 .nil pass0 (pa_cons (pe_getO oG nG GG hr bG passL (pv 1) (pv 2)) pa_nil)) (nomark _)))))
          (pss_one (ps_raiseE rfl eU GE (hr.mono (by decide)) bE (takes_of rfl rfl rfl rfl) rfl gU (pa_cons (pv 2) pa_nil))) pss_nil)))
      (PSs.nox (pss_cons (ps_setLc (i := 4) (own := [("pair", 3)]) (g := gName 3) (tt := tTest (tOp (rInO C (spHas K C) true E0) (tOp (rIxT K) (tVar 3) (tC (.int 0))) (tVar 0))) (te := tVar 3) rfl scOr.nd rfl rfl (sw_true rfl rfl rfl (by decide +kernel)) (pi_tup (pe_fld (pv 1) (by rfl))) (blkOk_by (N := nOr) (sc := defScope sOr) (by decide +kernel)) (fun _ _ _ _ _ => pg_name (i := 3) scOr.nd rfl (Or.inl rfl))
          (fun _ _ _ _ _ => pts_one (pt_cmpR (op_notInO oH GH (hr.mono (by decide)) bH pass0) (pe_ix (r := rIxT K) ix_tup (pv 3) pe_int (fun _ _ => rfl)) (pv 0) rfl)) (fun _ _ _ _ _ => pv 3))
        (pss_one (ps_ret (pe_make M GI hr rfl gC bI .nil passL (pa_cons (pe_tup (StX.pa_star (pe_fld (pv 0) (by rfl)) (StX.pa_star (pv 4) pa_nil))) pa_nil)))))), ?_⟩
    obtain ⟨dx, pa, na, va, sa, ps, ss, h1, h2, h3, h4, h5, h6, h7⟩ := id hf
    obtain ⟨dy, qa, ma, wa, ta, qs, ts, k1, k2, k3, k4, k5, k6, k7⟩ := id hg
    have hql : qs.length = gs.length := by
      have := k3.len
      rwa [List.length_map] at this
    have hz : qs.length < sizeLine := by
      rw [hql, sizeLine_eq]
      omega
    have hpl : ps.length = fs.length := by
      have := h3.len
      rwa [List.length_map] at this
    refine ⟨_, rfl, x, C, dx, _, _, rfl, h1, c.cls, c.names, rfl, na, rfl, ⟨_, h4⟩, for_tup (xs := fs.map fun f : Str × PyData => V.str f.1) (fun i σ' H' => (∃ nm, σ' = [some (.ref x), some (.ref y), nm, none, none]) ∧ Same H H' ∧ ∀ j f, j < i → fs[j]? = some f → unl gs f = false) ⟨⟨_, rfl⟩, Same.refl _, fun j f hj => absurd hj (Nat.not_lt_zero _)⟩ (fun i σ' H' _ A => same_T A.2.1 h4) (fun i v σ' H' hv A => ?_) fun σ' H' A => ?_⟩
    · obtain ⟨⟨nm, rfl⟩, s, hno⟩ := A
      rw [List.getElem?_map] at hv
      obtain ⟨f, ef, rfl⟩ : ∃ f, fs[i]? = some f ∧ V.str f.1 = v := by
        cases q : fs[i]? with
        | none => rw [q] at hv; cases hv
        | some f => rw [q] at hv; exact ⟨f, rfl, by simpa using hv⟩
      have mf : f ∈ fs := List.mem_of_getElem? ef
      have ff := findF_some gf.nodup mf
      have fl := gf.flat f mf
      have next : unl gs f = false → ∀ H2, Same H' H2 → (∃ nm, [some (V.ref x), some (V.ref y), some (V.str f.1), none, none] = [some (.ref x), some (.ref y), nm, none, none]) ∧ Same H H2 ∧ ∀ j g, j < i + 1 → fs[j]? = some g → unl gs g = false := fun hu2 H2 s2 => by
        refine ⟨⟨_, rfl⟩, s.trans s2, fun j g hj eg => ?_⟩
        by_cases h : j < i
        · exact hno j g h eg
        · have : j = i := by omega
          subst this
          rw [ef] at eg
          cases eg
          exact hu2
      -- name in other
      refine ⟨_, rfl, _, rfl, y, dy, _, rfl, s _ _ k1, y, _, .str f.1, gs, rfl, hg.same s, .str _, _, rfl, _, rfl, ?_⟩
      refine ite2 (fun cc => ?_) (fun cc => ?_)
      · obtain ⟨e, ee⟩ := Option.isSome_iff_exists.mp (show (findF gs f.1).isSome = true from cc)
        have el := findF_flat gg.flat ee
        have has1 : hasD fs (.str f.1) = true := by
          show (findF fs f.1).isSome = true
          rw [ff]
          rfl
        -- with_sort(self[name]) != with_sort(other[name])
        refine ⟨_, rfl, _, rfl, x, dx, _, rfl, s _ _ h1, x, _, .str f.1, fs, rfl, hf.same s, .str _, fun n z en ez => ?_, fun z => ?_⟩
        · cases en
          rw [ff] at ez
          cases ez
          refine ⟨_, _, rfl, dq_flat K H' fl, fun p1 hp1 => ?_⟩
          have s1 := same_new (o := .tup [.bl (isTy "bool" f.2), vD f.2]) hp1
          refine ⟨_, rfl, _, rfl, y, dy, _, rfl, s1 _ _ (s _ _ k1), y, _, .str f.1, gs, rfl, hg.same (s.trans s1), .str _, fun n z en ez => ?_, fun z => ?_⟩
          · cases en
            rw [ee] at ez
            cases ez
            refine ⟨_, _, rfl, dq_flat K _ el, fun p2 hp2 => ?_⟩
            have s2 := same_new (o := .tup [.bl (isTy "bool" e), vD e]) hp2
            have n12 : p1 ≠ p2 := ne_of_none upd_same hp2
            have l1 := sortV_shaped fl (lay_pair (gf.lay f mf)).2
            have l2 := sortV_shaped el (findF_lay gg ee)
            have eu : unl gs f = !sameD f.2 e := by
              unfold unl
              rw [ee]
            refine ⟨sortV f.2, sortV e, .tup (SqT.of (by rw [upd_ne n12, upd_same])) (.cons (.bl _) (.cons (Dq.dp _ _ (lay_pair (gf.lay f mf)).2 (dq_flat K _ fl)) .nil)), .tup (SqT.of upd_same) (.cons (.bl _) (.cons (Dq.dp _ _ (findF_lay gg ee) (dq_flat K _ el)) .nil)), l1, l2, _, rfl, ?_⟩
            refine ite2 (fun cu => ?_) (fun cu => ?_)
            · refine ⟨_, rfl, _, rfl, fun dd hn => ?_⟩
              refine no f ?_ dd _ (s.trans (s1.trans (s2.trans (same_new hn)))) ((s.trans (s1.trans s2)).free hn) upd_same
              refine List.find?_eq_some_iff_getElem.mpr ⟨eu.trans cu, i, (List.getElem?_eq_some_iff.mp ef).1, (List.getElem?_eq_some_iff.mp ef).2, fun j hj => ?_⟩
              have hjl : j < fs.length := Nat.lt_trans hj (List.getElem?_eq_some_iff.mp ef).1
              rw [hno j fs[j] hj (List.getElem?_eq_getElem hjl)]
              rfl
            · exact next (by rw [eu]; simpa [sameD] using cu) _ (s1.trans s2)
          · exact absurd (show hasD gs (.str f.1) = true from cc) (by rw [z]; exact Bool.false_ne_true)
        · rw [has1] at z
          cases z
      · refine next ?_ H' (Same.refl _)
        unfold unl
        have : (findF gs f.1).isSome = false := by simpa using (show ¬ (findF gs f.1).isSome = true from cc)
        cases q : findF gs f.1 with
        | none => rfl
        | some e => rw [q] at this; cases this
    · obtain ⟨⟨nm, rfl⟩, s, hno⟩ := A
      have hnone : fs.find? (unl gs) = none := List.find?_eq_none.mpr fun f hf => by
        obtain ⟨j, hj, e⟩ := List.getElem_of_mem hf
        rw [hno j f (by rw [List.length_map]; exact hj) (by rw [← e]; exact List.getElem?_eq_getElem hj)]
        exact Bool.false_ne_true
      refine ⟨_, rfl, y, C, dy, _, _, rfl, s _ _ k1, c.cls, c.pairs, rfl, qa, rfl, ⟨qs, same_T s k2⟩, fun D hD => lc_addT (p := fun i => !(findF fs (gs.getD i dflt).1).isSome) (f := fun i => qs.getD i .non) hD (same_T s k2) hz (fun i v H2 Q' hv s2 q => ?_) (fun i v H2 Q' hv _ s2 q => ?_) fun H3 s3 e3 => ?_⟩
      · have z := Dq.same (s.trans s2) _ _ (k3.at_ hv (pairD dflt))
        rw [getD_map] at z
        obtain ⟨t, rfl, ht⟩ := z.pair (flats_getD gg.flat i)
        exact ⟨_, rfl, t, _, _, _, rfl, rfl, ht, rfl, _, rfl, x, dx, _, rfl, s2 _ _ (s _ _ h1), x, _, .str (gs.getD i dflt).1, fs, rfl, hf.same (s.trans s2), .str _, _, rfl, _, rfl, q H2 (Same.refl _)⟩
      · have e : v = qs.getD i .non := by simp [List.getD, hv]
        exact ⟨v, rfl, e ▸ q H2 (Same.refl _)⟩
      · have sH := s.trans s3
        have z := took_dq (Dq.sameAll sH _ _ k3) fun g => !(findF fs g.1).isSome
        refine ⟨_, rfl, x, C, dx, _, _, rfl, sH _ _ h1, c.cls, c.pairs, rfl, pa, ps, rfl, .inl (same_T sH h2), _, rfl, D, _, rfl, .inr (SqL.of e3), ?_, fun p hp => ?_⟩
        · rw [List.append_nil, List.length_append, hpl, sizeLine_eq]
          have := took_le qs.length (fun i => !(findF fs (gs.getD i dflt).1).isSome) (fun i => qs.getD i .non)
          omega
        · refine made_facts (gf.join gg hl) (.tup (SqT.of upd_same) ?_) fun a H' s4 hfa => yes hnone a H' ((sH.trans (same_new hp)).trans s4) hfa
          unfold joinF
          rw [List.append_nil, List.map_append]
          exact DqAll.append (Dq.sameAll (same_new hp) _ _ z) (Dq.sameAll (sH.trans (same_new hp)) _ _ h3)
end
end Kx
namespace Vx
open PySem PySem.Spec PyProof.Rows L2
/-- e.f, e a kept exception with a dict, of any class that is known -/
def tXvA (K : PySem.W.Frag) (f : Str) (te : TE) : TE := fun σ H Q => te σ H fun x H1 => ∃ (a C dd : Addr) (fs : List (Str × V)) (v : V), x = .ref a ∧ XfC K C ∧ PySem.W.findIn K (.ref C) f = some none ∧ H1 a = some (ExV (.ref C) (some dd) a) ∧ H1 dd = some (.xd fs) ∧ fs.lookup f = some v ∧ Q v H1
theorem pe_xvA {X : Cx} {e : Expr} {te : TE} {pos : Pos} {n : Str} (he : PE X e te) (hb : attributeBase e n X.env (eval e X.env) = eval e X.env := by rfl) : PE X (.Attribute e n pos) (tXvA X.K n te) := by
  refine ⟨fun pins s σ H Q I h => attr_of hb (thn (he.run pins s σ H _ I h) fun u s1 hh => ?_)⟩
  obtain ⟨x, H1, I1, rx, a, C, dd, fs, v, rfl, T, hno, ea, ed, l, q⟩ := hh
  obtain rfl : u = Value.ref a := rx
  obtain ⟨oe, od, J, hz, vs, hv⟩ := exV_inst I1 ea fun d' e => ⟨fs, by cases e; exact ed⟩
  obtain ⟨mA, hns, hr⟩ := (show ObjOk X.prog X.w H1 s1.heap dd (.xd fs) from I1.hok dd _ ed)
  obtain ⟨o2, ho2, hl⟩ := lookIn_ns hns
  obtain ⟨u, hu, ru⟩ := RelO.some_of (v := v) (o := mA n) (by rw [← l]; exact hr n)
  have J2 : PySem.W.InstAt s1.heap a oe C (some o2) := ⟨J.at_, hz.1, by unfold PySem.W.notCls; rw [hv] <;> rfl, by rw [hz.2]; exact ho2⟩
  exact HandSPX.exc_get I1.kIn J2 T.ga T.gg T.exC (PySem.W.findObj_own T.hdC hno rfl (by rw [hl, hu])) (handed_of ru) ⟨v, H1, I1.tok _, ru, q⟩

/-- the slots of an exception in the air are as many as the names -/
theorem takes_len {X : Cx} {W : WX} (tk : Takes X W) : Takes X (fun cls d σ H => σ.length = X.N.length → W cls d σ H) := fun u s' ⟨a, B, sI, pins, σ, H, cls, d, e, I, nb, up, sky, na, os, ag, w⟩ =>
  tk u s' ⟨a, B, sI, pins, σ, H, cls, d, e, I, nb, up, sky, na, os, ag, w I.len⟩
theorem pe_up {X : Cx} {e : Expr} {t : TE} (h : PE X e t) : PE X e (fun σ H Q => ∃ Q0, t σ H Q0 ∧ ∀ v H, Q0 v H → Q v H) :=
  ⟨fun pins s σ H Q I ⟨_, h0, hq⟩ => thn (h.run pins s σ H _ I h0) fun _ _ ⟨v, H1, I1, r, q⟩ => ⟨v, H1, I1, r, hq _ _ q⟩⟩
end Vx
namespace Vx
open PySem PySem.Spec PyProof.Rows L2
/-- repr(x), x any datum -/
def rReprA (K : PySem.W.Frag) : List V → Hp → VK → Prop := fun xs H Q => ∃ (v : V) (d : PyData), xs = [v] ∧ Dq K H v d ∧ d.showable = true ∧ d.shown.length ≤ sizeLine ∧ d.depth ≤ 40 ∧ (∀ i, d = .int i → i.natAbs.log2 < 1920) ∧ Q (.str d.shown) H
section
variable {X : Cx}
theorem call_reprA (hr : Room 0 X.A) (hG : X.A.guards = some []) : CallR X (.builtin "repr") (rReprA X.K) := by
  intro pins s σ H xs us Q I r h
  obtain ⟨v, d, rfl, hd, hs, hz, hdep, hi, q⟩ := h
  cases hd with
  | non =>
    obtain ⟨u, rfl, r1⟩ := vals1 r
    cases r1
    exact PySem.P.repr_of_none ⟨.str _, H, I.tok _, ⟨_, rfl⟩, q⟩
  | bl b =>
    obtain ⟨u, rfl, r1⟩ := vals1 r
    cases r1
    exact PySem.P.repr_of_bool ⟨.str _, H, I.tok _, ⟨_, rfl⟩, by cases b <;> exact q⟩
  | int i =>
    obtain ⟨u, rfl, t, rfl⟩ := vals1 r
    exact PySem.P.repr_of_int (hi i rfl) ⟨.str _, H, I.tok _, ⟨_, rfl⟩, q⟩
  | str x =>
    obtain ⟨u, rfl, t, rfl⟩ := vals1 r
    exact PySem.P.repr_of_str ⟨.str _, H, I.tok _, ⟨_, rfl⟩, q⟩ hz
  | lst a b c => exact call_reprQ hr hG pins s σ H _ us Q I r ⟨_, _, rfl, .lst a b c, hs, hz, hdep, q⟩
  | tup a b => exact call_reprQ hr hG pins s σ H _ us Q I r ⟨_, _, rfl, .tup a b, hs, hz, hdep, q⟩
  | emp a => exact call_reprQ hr hG pins s σ H _ us Q I r ⟨_, _, rfl, .emp a, hs, hz, hdep, q⟩
/-! ### tuples without a dict of their own -/
/-- the tuple at a, its object without a dict -/
def Tup0 (H : Hp) (a : Addr) (xs : List V) : Prop := ∃ o, H a = some (.frz o (.tup xs)) ∧ o.dict = none
theorem Tup0.seq {K : PySem.W.Frag} {H : Hp} {a : Addr} {xs : List V} (h : Tup0 H a xs) : SqT K H a xs := by
  obtain ⟨o, e, _⟩ := h
  exact .inl (.inr ⟨o, e⟩)
theorem Tup0.same {H H' : Hp} {a : Addr} {xs : List V} (s : Same H H') (h : Tup0 H a xs) : Tup0 H' a xs := by
  obtain ⟨o, e, n⟩ := h
  exact ⟨o, s _ _ e, n⟩
theorem inv_tup0 {pins : List (Addr × Obj)} {σ : L2.St} {H : Hp} {s : Shared} {ys : List V} {its : List Value} (I : Inv X pins σ H s) (r : Vals ys its) (hz : ys.length ≤ sizeLine) :
    Inv X pins σ (upd H s.heap.objs.size (.frz { cls := .type "tuple", data := .seq its.toArray } (.tup ys))) { s with heap := s.heap.push { cls := .type "tuple", data := .seq its.toArray } } :=
  I.laid (t' := s.toks) (fun b o e => Heap.get?_push_of_some _ e) (Nat.le_refl _) ⟨Heap.get?_push_size _ rfl, show ObjOk X.prog X.w _ _ _ (.tup ys) from ⟨hz, its, r, IsTup.new _ _⟩⟩
/-- tuple(l), l a list -/
def rTup0 (K : PySem.W.Frag) : List V → Hp → VK → Prop := fun xs H Q => ∃ p ys, xs = [.ref p] ∧ SqL K H p ys ∧ ∀ l o, H l = none → o.dict = none → Q (.ref l) (upd H l (.frz o (.tup ys)))
theorem call_tuple0 : CallR X (.type "tuple") (rTup0 X.K) := by
  intro pins s σ H xs us Q I r h
  obtain ⟨p, ys, rfl, hq, q⟩ := h
  obtain ⟨u, rfl, rx⟩ := vals1 r
  cases rx
  obtain ⟨its, r', pl, hz⟩ := I.list hq
  have hlen := r'.length
  refine call_tuple_list pl.isList (fun h' kp => ?_) (by simp only [List.size_toArray] <;> omega)
  have I1 : Inv X pins σ H { s with heap := h' } := I.kept (t' := s.toks) kp
  exact ⟨.ref h'.objs.size, _, inv_tup0 I1 r' hz, rfl, q _ _ (I1.hok.fresh (Nat.le_refl _)) rfl⟩
/-- t[lo:hi], not the whole of it -/
def rSlT0 (K : PySem.W.Frag) : V → Option Int → Option Int → Hp → VK → Prop := fun x lo hi H Q => ∃ a xs, x = .ref a ∧ SqT K H a xs ∧
  ¬ (HT.sIx xs.length 0 lo = 0 ∧ HT.sIx xs.length xs.length hi = xs.length) ∧ ∀ p o, H p = none → o.dict = none → Q (.ref p) (upd H p (.frz o (.tup (cutV xs lo hi))))
theorem sl_tup0 : SlR X (rSlT0 X.K) := by
  intro pins s σ H x v vl vu lo hi sl Q I rx hs pl pu h
  obtain ⟨a, xs, rfl, hx, hw, q⟩ := h
  cases rx
  obtain ⟨its, r, ht, hz⟩ := I.tuple hx
  have hlen : its.toArray.size = xs.length := by rw [List.size_toArray]; exact r.length.symm
  refine ⟨"tuple", _, PyProof.Rows.slot_tuple_getitem.lookup, ht.typeIs, ?_⟩
  refine HT.getItem_tuple_cut ht hs pl pu (by rw [hlen]; exact hw) ?_ (by rw [hlen]; exact hz)
  rw [hlen]
  exact ⟨.ref s.heap.objs.size, _, inv_tup0 I ((r.drop (HT.sIx xs.length 0 lo)).take (HT.sIx xs.length xs.length hi - HT.sIx xs.length 0 lo)) (Nat.le_trans (cutV_length xs lo hi) hz), rfl, q _ _ (I.hok.fresh (Nat.le_refl _)) rfl⟩
/-- (a, b, ..) -/
def tTup0 (t : TA) : TE := fun σ H Q => t σ H fun xs H1 => xs.length ≤ sizeLine ∧ ∀ p o, H1 p = none → o.dict = none → Q (.ref p) (upd H1 p (.frz o (.tup xs)))
theorem pe_tup0 {es : List Expr} {x1 : Nat} {pos : Pos} {t : TA} (h : PA X es t) : PE X (.Tuple es x1 pos) (tTup0 t) := by
  refine ⟨fun pins s σ H Q I hq => ?_⟩
  refine wpAny_Tuple_spliced (thn (h.run pos pins s σ H _ I hq) fun us s1 ⟨xs, H1, I1, r, z, q⟩ => ⟨by rw [← r.length]; exact z, ?_⟩)
  exact ⟨.ref s1.heap.objs.size, _, inv_tup0 I1 r z, rfl, q _ _ (I1.hok.fresh (Nat.le_refl _)) rfl⟩
/-! ### dict(t), t a tuple of pairs -/
def rDictT (K : PySem.W.Frag) : List V → Hp → VK → Prop := fun xs H Q => ∃ (a : Addr) (ps : List Addr) (kvs : List (Key × V)), xs = [.ref a] ∧ Tup0 H a (ps.map V.ref) ∧ Paired (fun p kv => SqT K H p [kV kv.1, kv.2]) ps kvs ∧
  ∀ p, H p = none → Q (.ref p) (upd H p (.dK (mergeK [] kvs)))
theorem call_dictT (hcalm : X.calm = true) : CallR X (.type "dict") (rDictT X.K) := by
  intro pins s σ H xs us Q I r q
  obtain ⟨a, ps, kvs, rfl, hq, hp, q⟩ := q
  obtain ⟨u, rfl, rx⟩ := vals1 r
  cases rx
  obtain ⟨oa, ea, hdn⟩ := hq
  obtain ⟨hoa, hz, its, rv, o2, ho2, hc2, n2, hd2⟩ := (show ObjOk X.prog X.w H s.heap a (.frz oa (.tup (ps.map V.ref))) from I.hok _ _ ea)
  rw [hoa] at ho2
  cases ho2
  have ei := refs_at rv
  subst ei
  rw [List.length_map] at hz
  obtain ⟨prs, rel, hl, hpr⟩ := pairs_of I hp
  -- the pairs as values
  have key : ∀ j, j < prs.length → ∃ b u, ps[j]? = some b ∧ IsTup s.heap b #[u, (prs.getD j (.inl 0, .none)).2] ∧ keyIs (prs.getD j (.inl 0, .none)).1 u = true := fun j hj => by
    obtain ⟨b, u, e1, e2, e3⟩ := hpr j prs[j] (List.getElem?_eq_getElem hj)
    have e : prs.getD j (.inl 0, .none) = prs[j] := by simp [List.getD, List.getElem?_eq_getElem hj]
    rw [e]
    exact ⟨b, u, e1, e2, e3⟩
  have ux : ∃ uf : Nat → Value, ∀ j, j < prs.length → ∃ b, ps[j]? = some b ∧ IsTup s.heap b #[uf j, (prs.getD j (.inl 0, .none)).2] ∧ keyIs (prs.getD j (.inl 0, .none)).1 (uf j) = true := by
    refine ⟨fun j => if hj : j < prs.length then Classical.choose (Classical.choose_spec (key j hj)) else .none, fun j hj => ?_⟩
    simp only [dif_pos hj]
    exact ⟨_, Classical.choose_spec (Classical.choose_spec (key j hj))⟩
  obtain ⟨uf, hu⟩ := ux
  let pv : List (Value × Value) := (List.range prs.length).map fun j => (uf j, (prs.getD j (.inl 0, .none)).2)
  have pvl : pv.length = prs.length := by simp [pv]
  have pvat : ∀ j p, pv[j]? = some p → j < prs.length ∧ p = (uf j, (prs.getD j (.inl 0, .none)).2) := fun j p e => by
    have hj : j < pv.length := (List.getElem?_eq_some_iff.mp e).1
    rw [pvl] at hj
    refine ⟨hj, ?_⟩
    simp only [pv, List.getElem?_map, List.getElem?_range hj, Option.map_some] at e
    exact (Option.some.inj e).symm
  have items : PairItems s.heap (ps.map Value.ref).toArray (fun j => ps.getD j 0) pv := by
    refine ⟨by rw [pvl]; simp [hl], fun j k v e => ?_⟩
    obtain ⟨hj, ep⟩ := pvat j _ e
    injection ep with e1 e2
    subst e1 e2
    obtain ⟨b, hb, ht, _⟩ := hu j hj
    have eb : ps.getD j 0 = b := by simp [List.getD, hb]
    show (ps.map Value.ref).toArray[j]? = some (.ref (ps.getD j 0)) ∧ PairAt s.heap (ps.getD j 0) (uf j) (prs.getD j (.inl 0, .none)).2
    rw [eb]
    obtain ⟨o, ho, hc, m, hd⟩ := ht
    exact ⟨by simp [hb], .inl ⟨o, ho, hc, m, hd⟩⟩
  have have2 : PairsHave (mixKind X.prog X.w) pv.length (PairRel pv) prs := by
    refine ⟨pvl.symm, fun i key v e => ?_⟩
    obtain ⟨hj, ep⟩ := pvat i _ e
    injection ep with e1 e2
    obtain ⟨_, _, _, hk⟩ := hu i hj
    have e : prs.getD i (.inl 0, .none) = prs[i] := by simp [List.getD, List.getElem?_eq_getElem hj]
    rw [e] at e2 hk
    rw [e1, e2]
    exact ⟨prs[i].1, List.getElem?_eq_getElem hj, hk⟩
  refine PySem.call_dict_pairs (PairArg.tuple a (ps.map Value.ref).toArray (fun j => ps.getD j 0) pv) (I.ok.hd hcalm) ⟨⟨oa, n2, hoa, hc2, hdn, hd2⟩, items⟩ have2 (by rw [pvl, hl]; exact hz) fun h' tk hd' k => ?_
  have hm : (s.heap.objs.size == sysModules) = false := beq_eq_false_iff_ne.mpr (Nat.ne_of_gt I.big)
  have hlen : (mergeK [] kvs).length ≤ sizeLine := by
    refine Nat.le_trans (length_mergeK kvs []) ?_
    rw [List.length_nil, Nat.zero_add, rel.length, hl]
    exact hz
  exact ⟨.ref s.heap.objs.size, upd H s.heap.objs.size (.dK (mergeK [] kvs)), I.laid (t' := tk) (fun b o e => k b o (by simp) e) (Nat.le_refl _) (show ObjOk X.prog X.w _ _ _ (.dK (mergeK [] kvs)) from ⟨hlen, hm, merged [] prs, KV.merge rel .nil, hd'⟩), rfl, q _ (I.hok.fresh (Nat.le_refl _))⟩
end
/-- a list display; the list isn't the table of modules -/
def tLstB (t : TA) : TE := fun σ H Q => t σ H fun xs H1 => xs.length ≤ sizeLine ∧ ∀ p, H1 p = none → (p == sysModules) = false → Q (.ref p) (upd H1 p (.lst xs))
theorem pe_lstB {X : Cx} {es : List Expr} {pos : Pos} {t : TA} (h : PA X es t) : PE X (.List es pos) (tLstB t) := by
  refine ⟨fun pins s σ H Q I hq => ?_⟩
  refine wpAny_List_spliced (thn (h.run pos pins s σ H _ I hq) fun us s1 ⟨xs, H1, I1, r, z, q⟩ => ⟨by rw [← r.length]; exact z, ?_⟩)
  have hm : (s1.heap.objs.size == sysModules) = false := beq_eq_false_iff_ne.mpr (Nat.ne_of_gt I1.big)
  exact ⟨.ref s1.heap.objs.size, upd H1 s1.heap.objs.size (.lst xs), I1.laid (t' := s1.toks) (fun b u e => Heap.get?_push_of_some _ e) (Nat.le_refl _) ⟨z, us, 0, r, Heap.get?_push_size _ rfl⟩, rfl, q _ (I1.hok.fresh (Nat.le_refl _)) hm⟩
end Vx
namespace Kx
open PySem PySem.Spec L2 Vx
abbrev sCaught : Stmt := top 15
abbrev nCaught : List Str := ["ask", "caught", "error", "flags"]
/-- what is known of an error's class beside the three: b0, b1, b2 tell which one it is -/
structure ErrT (K : PySem.W.Frag) (CA C0 C1 C2 : Addr) (C : Addr) (b0 b1 b2 : Bool) : Prop where
  exc : ExcC K C
  xf : XfC K C
  no : PySem.W.findIn K (.ref C) "value" = some none
  k0 : PySem.W.kitOne K (.ref C) (.ref C0) = some b0
  k1 : PySem.W.kitOne K (.ref C) (.ref C1) = some b1
  k2 : PySem.W.kitOne K (.ref C) (.ref C2) = some b2
  te : PySem.W.exmOne K (.ref C) (.ref CA) = some true
/-- an error of the three, its word -/
def Err3 (K : PySem.W.Frag) (CA C0 C1 C2 : Addr) (cls : Value) (wd : Str) : Prop :=
  (cls = .ref C0 ∧ wd = "facts" ∧ ErrT K CA C0 C1 C2 C0 true false false) ∨ (cls = .ref C1 ∧ wd = "name" ∧ ErrT K CA C0 C1 C2 C1 false true false) ∨ (cls = .ref C2 ∧ wd = "unlike" ∧ ErrT K CA C0 C1 C2 C2 false false true)
/-- caught(ask): None, or the word and the value of the error -/
def TTc (K : PySem.W.Frag) (CA C0 C1 C2 : Addr) : (XK → Hp → VK → Prop) → Hp → VK → Prop := fun tl H Q =>
  tl (fun cls d H' => ∃ (wd : Str) (dd : Addr) (v : V), Err3 K CA C0 C1 C2 cls wd ∧ d = some dd ∧ H' dd = some (.xd [(("value" : Str), v)]) ∧ ∀ (r : Addr) (H'' : Hp), Same H' H'' → H' r = none → (r == sysModules) = false → H'' r = some (.lst [.str wd, v]) → Q (.ref r) H'') H (fun _ H' => Q .non H')
structure TxtC (mg : Str → Option Value) (CA C0 C1 C2 : Addr) : Prop where
  isi : mg "isinstance" = none
  ask : mg "AskError" = some (.ref CA)
  bad : mg "BadFacts" = some (.ref C0)
  nam : mg "NoName" = some (.ref C1)
  unl : mg "Unlike" = some (.ref C2)
theorem Err3.pick {K : PySem.W.Frag} {CA C0 C1 C2 : Addr} {cls : Value} {wd : Str} (h : Err3 K CA C0 C1 C2 cls wd) : ∃ (C : Addr) (b0 b1 b2 : Bool) (j : Nat), cls = .ref C ∧ ErrT K CA C0 C1 C2 C b0 b1 b2 ∧ [b0, b1, b2].count true = 1 ∧ [b0, b1, b2][j]? = some true ∧
    (∀ m z, m < j → [b0, b1, b2][m]? = some z → z = false) ∧ [V.str "facts", V.str "name", V.str "unlike"][j]? = some (.str wd) := by
  rcases h with ⟨rfl, rfl, T⟩ | ⟨rfl, rfl, T⟩ | ⟨rfl, rfl, T⟩
  · exact ⟨_, _, _, _, 0, rfl, T, rfl, rfl, fun m z hm => absurd hm (Nat.not_lt_zero _), rfl⟩
  · refine ⟨_, _, _, _, 1, rfl, T, rfl, rfl, fun m z hm e => ?_, rfl⟩
    have : m = 0 := by omega
    subst this
    exact (Option.some.inj e).symm
  · refine ⟨_, _, _, _, 2, rfl, T, rfl, rfl, fun m z hm e => ?_, rfl⟩
    have : m = 0 ∨ m = 1 := by omega
    rcases this with rfl | rfl <;> exact (Option.some.inj e).symm
theorem scCaught : FnScope nCaught ["ask"] (defScope sCaught) := ⟨rfl, rfl, rfl, by decide +kernel, rfl, by decide +kernel, by decide +kernel⟩
theorem caught_gives {X : Cx} {g CA C0 C1 C2 : Addr} {cdg : Value} {q : Str} (T : TxtC X.mg CA C0 C1 C2) (hu : X.A.units + 300 < cLine) : LamX.GivesTo X nCaught "_law_caught" (defScope sCaught) g cdg (defBody sCaught) "ask" q (TTc X.K CA C0 C1 C2) := by
  intro f c' s H Q tl act hc h
  have hu2 : (cxOf C8.CX0 X.prog X.w X.K X.mg X.base nCaught "_law_caught" (defScope sCaught) g cdg X.A X.stack s H C8.E0).nox.A.units + 65 < cLine := by
    show X.A.units + 3 + 65 < _
    omega
  refine ⟨_, pss_cons (ps_set (i := 1) scCaught.nd rfl (Or.inl rfl) pe_non)
    (pss_cons (ps_try_keep (X := (cxOf C8.CX0 X.prog X.w X.K X.mg X.base nCaught "_law_caught" (defScope sCaught) g cdg X.A X.stack s H C8.E0).nox) (i := 2) (c := .ref CA)
      (tb := fun W D σ H => ∃ (Ech : XK) (R : VK), (∀ cls d σ' H', Ech cls d H' → σ'.length = 4 → W cls d σ' H') ∧ (∀ v H1, R v H1 → D.nx σ H1) ∧ σ[0]? = some (some (.ref f)) ∧ H c' = some (LamX.CodeO c' q) ∧ tl Ech H R)
      rfl rfl rfl scCaught.nd rfl rfl ⟨rfl, by decide, .inl T.ask⟩ L2.takes0 (fun W pn xe tk _ => ?_) (fun a oe cls d pn _ _ => pss_one (ps_set (i := 1) scCaught.nd rfl (Or.inl rfl) (pv 2))))
    (pss_cons (ps_if (pt_cmp (pc_isN (pv 1))) (pss_one (ps_ret pe_non)) pss_nil)
    (pss_cons (ps_set (i := 3) scCaught.nd rfl (Or.inl rfl) (pe_lst (pa_cons (pe_callB call_isV (by rfl) T.isi (by decide +kernel) (pa_cons (pv 1) (pa_cons (pe_glob (v := .ref C0) (by rfl) T.bad rfl) pa_nil)))
      (pa_cons (pe_callB call_isV (by rfl) T.isi (by decide +kernel) (pa_cons (pv 1) (pa_cons (pe_glob (v := .ref C1) (by rfl) T.nam rfl) pa_nil)))
      (pa_cons (pe_callB call_isV (by rfl) T.isi (by decide +kernel) (pa_cons (pv 1) (pa_cons (pe_glob (v := .ref C2) (by rfl) T.unl rfl) pa_nil))) pa_nil)))))
    (pss_cons (ps_if (pt_cmpR op_ne (pe_bm PySem.F.plainAttrs_list PySem.F.slot_list_count PySem.F.type_list_count mt_countB (pv 3) (pa_cons pe_bl pa_nil)) pe_int (nomark _)) (pss_one (ps_ret (pe_lst (pa_cons pe_str (pa_cons pe_non pa_nil))))) pss_nil)
    (pss_one (ps_ret (pe_lstB (pa_cons (pe_ix ix_list (pe_lst (pa_cons pe_str (pa_cons pe_str (pa_cons pe_str pa_nil)))) (pe_bm PySem.F.plainAttrs_list PySem.F.slot_list_index PySem.F.type_list_index (mt_indexD hu2) (pv 3) (pa_cons pe_bl pa_nil)) (fun _ _ => rfl))
      (pa_cons (pe_xvA (pv 1)) pa_nil))))))))), ?_⟩
  · refine ⟨fun pins s' σ H' D I h' => ?_⟩
    obtain ⟨Ech, R, hW, hR, h1, h2, h3⟩ := h'
    exact (pss_one (ps_expr (pe_up (act _ pn xe Ech _ _ (takes_len tk) (fun cls d σ' H' e hl => hW cls d σ' H' e hl))))).run pins s' σ H' D I ⟨R, ⟨h1, h2, h3⟩, fun v H1 q => hR v H1 q⟩
  · refine ⟨_, _, fun cls d σ' H' hE hl => ?_, fun v H1 q => ?_, rfl, hc, h⟩
    rotate_left
    · refine ⟨_, rfl, _, rfl, ?_⟩
      exact ite2 (fun _ => q) (fun z => absurd rfl z)
    obtain ⟨wd, dd, v, e3, rfl, hdd, k⟩ := hE
    obtain ⟨C, b0, b1, b2, j, rfl, E, hcount, hj, hbef, hw⟩ := e3.pick
    refine ⟨true, E.te, fun _ a ha => ?_, fun z => nomatch z⟩
    match σ', hl with
    | [o0, o1, o2, o3], _ =>
      refine ⟨_, rfl, fun ha2 => ?_⟩
      have nad : a ≠ dd := Ne.symm (ne_of_none hdd ha)
      have sE : Same H' (upd H' a (ExV (.ref C) (some dd) a)) := same_new ha
      have hE : (upd H' a (ExV (.ref C) (some dd) a)) a = some (ExV (.ref C) (some dd) a) := upd_same
      generalize (upd H' a (ExV (.ref C) (some dd) a)) = HE at sE hE ⊢
      have hx : ∀ d', some dd = some d' → ∃ fs, HE d' = some (.xd fs) := fun d' e => by
        cases e
        exact ⟨_, sE _ _ hdd⟩
      refine ⟨_, rfl, _, rfl, ?_⟩
      refine ite2 (fun z => by cases z) (fun _ => ?_)
      refine ⟨_, rfl, a, C, some dd, _, _, b0, rfl, hE, hx, E.exc, .own _, E.k0, _, rfl, a, C, some dd, _, _, b1, rfl, hE, hx, E.exc, .own _, E.k1, _, rfl, a, C, some dd, _, _, b2, rfl, hE, hx, E.exc, .own _, E.k2, by show 3 ≤ sizeLine; decide, fun l hln => ?_⟩
      have sL := same_new (o := .lst [.bl b0, .bl b1, .bl b2]) hln
      have hL : SqL X.K (upd HE l (.lst [.bl b0, .bl b1, .bl b2])) l ([b0, b1, b2].map V.bl) := SqL.of upd_same
      generalize (upd HE l (.lst [.bl b0, .bl b1, .bl b2])) = HL at sL hL ⊢
      refine ⟨_, rfl, .inl ⟨rfl, _, hL⟩, l, [b0, b1, b2], true, rfl, rfl, hL, rfl, _, rfl, ?_⟩
      rw [hcount]
      refine ite2 (fun z => by cases z) (fun _ => ?_)
      refine ⟨by show 3 ≤ sizeLine; decide, fun l2 hl2 => ?_⟩
      have s2 := same_new (o := .lst [.str "facts", .str "name", .str "unlike"]) hl2
      have h2 : SqL X.K (upd HL l2 (.lst [.str "facts", .str "name", .str "unlike"])) l2 [.str "facts", .str "name", .str "unlike"] := SqL.of upd_same
      have hL2 := same_L s2 hL
      generalize (upd HL l2 (.lst [.str "facts", .str "name", .str "unlike"])) = HM at s2 h2 hL2 ⊢
      have sM := sE.trans (sL.trans s2)
      have sh3 : SeqAt.shaped (.list ([b0, b1, b2].map PyData.bool)) = true := by cases b0 <;> cases b1 <;> cases b2 <;> rfl
      refine ⟨_, rfl, .inl ⟨rfl, _, hL2⟩, l, .bl true, .bool true, [b0, b1, b2].map PyData.bool, j, .bool true, rfl, rfl, .lst hL2 (dp_bools _), .bl true, sh3, rfl, ?_, rfl, fun m z hm e => ?_, ?_⟩
      · rw [List.getElem?_map, hj]
        rfl
      · rw [List.getElem?_map] at e
        cases q : [b0, b1, b2][m]? with
        | none => rw [q] at e; cases e
        | some b =>
          rw [q] at e
          cases e
          rw [hbef m b hm q]
          rfl
      · refine ⟨l2, _, _, _, rfl, rfl, h2, atI_nat hw, _, rfl, a, C, dd, _, v, rfl, E.xf, E.no, (sL.trans s2) _ _ hE, sM _ _ hdd, rfl, by show 2 ≤ sizeLine; decide, fun r hr hsy => ?_⟩
        exact k r _ (sM.trans (same_new hr)) (sM.free hr) hsy upd_same
end Kx
namespace Vx
open PySem PySem.Spec PyProof.Rows L2
/-- of one sort and equal -/
def sameV (d e : PyData) : Bool := decide (isTy "bool" d = isTy "bool" e) && PyData.eqv d e
theorem sameD_V (d e : PyData) : sameD d e = sameV d e := by
  unfold sameD sameV sortV
  cases h1 : isTy "bool" d <;> cases h2 : isTy "bool" e <;> simp [PyData.eqv, PyData.eqvAll]
theorem not_tuple {d : PyData} (h : isFlat d = true) : isTy "tuple" d = false := by
  cases d <;> first | rfl | cases h
end Vx
namespace Kx
open PySem L2 Vx
abbrev sSame : Stmt := top 14
abbrev sIsPairs : Stmt := top 17
def spSame (K : PySem.W.Frag) : Sp := fun vs H Q _ => ∃ (u v : V) (d e : PyData), vs = [u, v] ∧ Dq K H u d ∧ Dq K H v e ∧ isFlat d = true ∧ isFlat e = true ∧ PyData.canLay0 d = true ∧ PyData.canLay0 e = true ∧ Q (.bl (sameV d e)) H
section
variable {P : Program} {w : World} {K : PySem.W.Frag} {mg : Str → Option Value} {base : Heap}
theorem scSame : FnScope ["one", "other"] ["one", "other"] (defScope sSame) := ⟨rfl, rfl, rfl, by decide +kernel, rfl, by decide +kernel, by decide +kernel⟩
theorem flat_shaped {d : PyData} (h : isFlat d = true) (l : PyData.canLay0 d = true) : SeqAt.shaped d = true := by
  unfold SeqAt.shaped
  rw [l, flat_depth h]
  rfl
theorem ok_same {f : Addr} {fd : FuncData} (F : Fun K "_law_same" "_law_same" sSame f fd) (T : TxtF K mg) : FnOk P w K mg base CX0 1 f fd ["one", "other"] (spSame K) := by
  refine F.ok scSame (fun vs H Q E h => ?_) (fun cdv A outer s H vs Q E hr h => ?_)
  · obtain ⟨u, v, d, e, rfl, _⟩ := h
    rfl
  · obtain ⟨u, v, d, e, rfl, hd, he, fd', fe, ld, le, q⟩ := h
    have hu : (cxOf CX0 P w K mg base ["one", "other"] "_law_same" (defScope sSame) f cdv A outer s H E).nox.A.units + 64 < cLine := by
      have := hr.units
      show (A.deeper _).units + 64 < _
      omega
    refine ⟨_, pss_cons (ps_if (PW.pt (pw_and (pt_val (pe_callB call_isi (by rfl) T.isi (by decide +kernel) (pa_cons (pv 0) (pa_cons (pe_ty "tuple" (by rfl) T.tup) pa_nil))))
        (pw_and1 (pt_val (pe_callB call_isi (by rfl) T.isi (by decide +kernel) (pa_cons (pv 1) (pa_cons (pe_ty "tuple" (by rfl) T.tup) pa_nil))))))) pss_never pss_nil)
      (pss_one (ps_ret (pe_and (pe_cmpR op_eq (pe_callB call_isi (by rfl) T.isi (by decide +kernel) (pa_cons (pv 0) (pa_cons (pe_ty "bool" (by rfl) T.bool) pa_nil))) (pe_callB call_isi (by rfl) T.isi (by decide +kernel) (pa_cons (pv 1) (pa_cons (pe_ty "bool" (by rfl) T.bool) pa_nil))) (nomark _))
        (pe_one (pe_cmpR (op_eqD hu) (pv 0) (pv 1) (nomark _)))))), ?_⟩
    refine ⟨_, rfl, u, _, _, _, _, rfl, .ty _, hd.ty, kit_tyD d "tuple", _, rfl, ?_⟩
    refine ite2 (fun cc => ?_) (fun _ => ?_)
    · rw [not_tuple fd'] at cc
      cases cc
    · refine ite2 (fun z => nomatch z) (fun _ => ?_)
      refine ⟨_, rfl, u, _, _, _, _, rfl, .ty _, hd.ty, kit_tyD d "bool", _, rfl, v, _, _, _, _, rfl, .ty _, he.ty, kit_tyD e "bool", rfl, _, rfl, ?_⟩
      have ed : decide (V.bl (isTy "bool" d) = V.bl (isTy "bool" e)) = decide (isTy "bool" d = isTy "bool" e) := by
        cases isTy "bool" d <;> cases isTy "bool" e <;> rfl
      rw [ed]
      refine ite2 (fun cc => ?_) (fun cc => ?_)
      · refine ⟨_, rfl, _, rfl, d, e, Dq.dp _ _ ld hd, Dq.dp _ _ le he, flat_shaped fd' ld, flat_shaped fe le, ?_⟩
        have z : sameV d e = PyData.eqv d e := by
          unfold sameV
          rw [cc, Bool.true_and]
        exact z ▸ q
      · have z : sameV d e = false := by
          unfold sameV
          rw [show decide (isTy "bool" d = isTy "bool" e) = false from by simpa using cc, Bool.false_and]
        exact z ▸ q
abbrev nIsPairs : List Str := ["thing", "one"]
theorem scIsPairs : FnScope nIsPairs ["thing"] (defScope sIsPairs) := ⟨rfl, rfl, rfl, by decide +kernel, rfl, by decide +kernel, by decide +kernel⟩
theorem ok_isPairs {f : Addr} {fd : FuncData} (F : Fun K "_law_is_pairs" "_law_is_pairs" sIsPairs f fd) (T : TxtF K mg) : FnOk P w K mg base CX0 1 f fd ["thing"] (spDataS K areFacts) := by
  refine F.ok scIsPairs (fun vs H Q E h => ?_) (fun cdv A outer s H vs Q E hr h => ?_)
  · obtain ⟨v, d, rfl, _⟩ := h
    rfl
  · obtain ⟨v, d, rfl, hd, hlen, k⟩ := h
    refine ⟨_, pss_cons (ps_if (pt_not (pt_val (pe_callB call_isi (by rfl) T.isi (by decide +kernel) (pa_cons (pv 0) (pa_cons (pe_ty "tuple" (by rfl) T.tup) pa_nil))))) (pss_one (ps_ret pe_bl)) pss_nil)
      (pss_cons (ps_for PassesOwn.never rfl (pi_tup (pv 0)) (pg_name (i := 1) scIsPairs.nd rfl (Or.inl rfl))
        (pss_cons (ps_if (PW.pt (pw_or (pt_not (pt_val (pe_callB call_isi (by rfl) T.isi (by decide +kernel) (pa_cons (pv 1) (pa_cons (pe_ty "tuple" (by rfl) T.tup) pa_nil)))))
            (pw_or (pt_cmpR op_ne (pe_callB call_len_seq (by rfl) T.len PySem.boot_len (pa_cons (pv 1) pa_nil)) pe_int (nomark _))
            (pw_or1 (pt_not (pt_val (pe_callB call_isi (by rfl) T.isi (by decide +kernel) (pa_cons (pe_ix ix_tup (pv 1) pe_int (fun _ _ => rfl)) (pa_cons (pe_ty "str" (by rfl) T.str) pa_nil)))))))) ) (pss_one (ps_ret pe_bl)) pss_nil)
        (pss_one (ps_if (pt_not (pt_val (pe_callB call_isiT (by rfl) T.isi (by decide +kernel) (pa_cons (pe_ix ix_tup (pv 1) pe_int (fun _ _ => rfl)) (pa_cons (pe_tup (pa_cons (pe_ty "int" (by rfl) T.int) (pa_cons (pe_ty "str" (by rfl) T.str) pa_nil))) pa_nil))))) (pss_one (ps_ret pe_bl)) pss_nil))))
      (pss_one (ps_ret (pe_cmpR op_eq (pe_lenSetT rfl (by rfl) T.len (by rfl) T.set
          (pe_lc (own := [("one", 1)]) (g := gName 1) (tt := tYes) (te := tOp (rIxT K) (tVar 1) (tC (.int 0))) rfl scIsPairs.nd (pi_tup (pv 0)) (blkOk_by (N := nIsPairs) (sc := defScope sIsPairs) (by decide +kernel)) (fun _ _ _ _ _ => pg_name (i := 1) scIsPairs.nd rfl (Or.inl rfl)) (fun _ _ _ _ _ => pts_nil)
            (fun _ _ _ _ _ => pe_ix (r := rIxT K) ix_tup (pv 1) pe_int (fun _ _ => rfl))))
        (pe_callB call_len_seq (by rfl) T.len PySem.boot_len (pa_cons (pv 0) pa_nil)) (nomark _))))), ?_⟩
    refine ⟨_, rfl, v, _, _, _, _, rfl, .ty _, hd.ty, kit_tyD d "tuple", _, rfl, ?_⟩
    refine ite2 (fun c => ?_) (fun c => ?_)
    · have z := areFacts_not (d := d) (by simpa using c)
      exact z ▸ k _ (Same.refl _)
    · obtain ⟨a, xs, ds, rfl, rfl, hs, ha⟩ := hd.tupled (by simpa using c)
      have hl : xs.length = ds.length := ha.len
      have h4 := hlen ds rfl
      have hz : xs.length < sizeLine := by rw [sizeLine_eq]; omega
      have bad : ∀ i, i < ds.length → isPair (ds.getD i .none) = false → ∀ H', Same H H' → Q (.bl false) H' := fun i hi hp H' s => by
        have z : areFacts (.tuple ds) = false := by
          show (ds.all isPair && _) = false
          have : ds.all isPair = false := by
            rw [List.all_eq_false]
            refine ⟨ds[i], List.getElem_mem hi, ?_⟩
            have e : ds.getD i .none = ds[i] := by simp [List.getD, List.getElem?_eq_getElem hi]
            rw [e] at hp
            rw [hp]
            exact Bool.false_ne_true
          rw [this, Bool.false_and]
        exact z ▸ k H' s
      refine ⟨_, rfl, a, rfl, ⟨xs, hs⟩, for_tup (xs := xs) (fun i σ' H' => (∃ o, σ' = [some (.ref a), o]) ∧ Same H H' ∧ ∀ j, j < i → isPair (ds.getD j .none) = true) ⟨⟨_, rfl⟩, Same.refl _, fun j hj => absurd hj (Nat.not_lt_zero _)⟩ (fun i σ' H' _ A => same_T A.2.1 hs) (fun i v σ' H' hv A => ?_) fun σ' H' A => ?_⟩
      · obtain ⟨⟨o, rfl⟩, s, hyes⟩ := A
        have hi : i < ds.length := by
          have := (List.getElem?_eq_some_iff.mp hv).1
          omega
        have hdi := Dq.same s _ _ (ha.at_ hv .none)
        have bad2 := bad i hi
        have next : isPair (ds.getD i .none) = true → ∀ H2, Same H' H2 → (∃ o, [some (V.ref a), some v] = [some (.ref a), o]) ∧ Same H H2 ∧ ∀ j, j < i + 1 → isPair (ds.getD j .none) = true := fun hp H2 s2 => by
          refine ⟨⟨_, rfl⟩, s.trans s2, fun j hj => ?_⟩
          by_cases h : j < i
          · exact hyes j h
          · have : j = i := by omega
            rw [this]
            exact hp
        generalize ds.getD i .none = di at hdi bad2 next
        refine ⟨_, rfl, v, _, _, _, _, rfl, .ty _, hdi.ty, kit_tyD di "tuple", _, rfl, ?_⟩
        refine ite2 (fun c1 => ?_) (fun c1 => ?_)
        · refine ite2 (fun _ => ?_) (fun z => absurd rfl z)
          exact bad2 (isPair_not (by simpa using c1)) H' s
        · obtain ⟨b, ys, es, rfl, rfl, hb, hes⟩ := hdi.tupled (by simpa using c1)
          have hyl := hes.len
          refine ⟨_, rfl, b, ys, rfl, .inr hb, rfl, _, rfl, ?_⟩
          refine ite2 (fun c2 => ?_) (fun c2 => ?_)
          · refine ite2 (fun _ => ?_) (fun z => absurd rfl z)
            refine bad2 (isPair_len fun e => ?_) H' s
            rw [hyl, e] at c2
            cases c2
          · have c3 : ys.length = 2 := by
              have z : ¬ (!decide (V.int (ys.length : Nat) = V.int 2)) = true := c2
              have z2 : V.int (ys.length : Nat) = V.int 2 := by simpa using z
              have := V.int.inj z2
              omega
            obtain ⟨v0, v1, d0, d1, rfl, rfl, q0, q1⟩ := two_of hes c3
            refine ⟨_, rfl, b, _, _, _, rfl, rfl, hb, rfl, v0, _, _, _, _, rfl, .ty _, q0.ty, kit_tyD d0 "str", _, rfl, ?_⟩
            refine ite2 (fun c4 => ?_) (fun c4 => ?_)
            · refine bad2 ?_ H' s
              rw [isPair_two, show isTy "str" d0 = false from by simpa using c4, Bool.false_and]
            · refine ⟨_, rfl, b, _, _, _, rfl, rfl, hb, rfl, by show 2 ≤ sizeLine; decide, fun p hp => ?_⟩
              have e := same_new (o := .tup [.ty "int", .ty "str"]) hp
              refine ⟨v1, p, _, _, _, _, rfl, upd_same, .cons (.ty _) (.cons (.ty _) .nil), (Dq.same e _ _ q1).ty, kit_flat d1, _, rfl, ?_⟩
              have s0 : isTy "str" d0 = true := by simpa using c4
              refine ite2 (fun c5 => ?_) (fun c5 => ?_)
              · refine bad2 ?_ _ (s.trans e)
                rw [isPair_two, s0, Bool.true_and]
                simpa using c5
              · refine next ?_ _ e
                rw [isPair_two, s0, Bool.true_and]
                simpa using c5
      · obtain ⟨⟨o, rfl⟩, s, hyes⟩ := A
        have hs2 := same_T s hs
        have hall : ds.all isPair = true := List.all_eq_true.mpr fun d hd => by
          obtain ⟨j, hj, e⟩ := List.getElem_of_mem hd
          have := hyes j (by omega)
          have e2 : ds.getD j .none = ds[j] := by simp [List.getD, List.getElem?_eq_getElem hj]
          rw [e2, e] at this
          exact this
        refine ⟨_, rfl, a, rfl, ⟨xs, hs2⟩, fun D2 hD2 => lc_addT (p := fun _ => true) (f := fun i => V.str (nmD (ds.getD i .none))) hD2 hs2 hz (fun i x H' Q' hx s q => q H' (Same.refl _)) (fun i x H3 Q' hx _ s3 q => ?_) fun H3 s3 e3 => ?_⟩
        · have hi : i < xs.length := (List.getElem?_eq_some_iff.mp hx).1
          obtain ⟨b, y, v1, d1, rfl, e, hb, _, _⟩ := (Dq.same (s.trans s3) _ _ (ha.at_ hx .none)).paired (hyes i hi)
          refine ⟨_, rfl, b, _, _, _, rfl, rfl, hb, rfl, ?_⟩
          rw [e] at q
          exact q H3 (Same.refl _)
        · rw [took_all (fun d => V.str (nmD d)) PyData.none ds _ hl] at e3
          refine ⟨D2, ds.map nmD, rfl, SqL.of (by rw [e3, List.map_map]; rfl), by rw [List.length_map]; exact h4, ?_⟩
          refine ⟨_, rfl, a, xs, rfl, .inr (same_T s3 hs2), rfl, ?_⟩
          have hu := uniq_all (ds.map nmD)
          have z : areFacts (.tuple ds) = decide (V.int ((uniq (ds.map nmD)).length : Nat) = V.int xs.length) := by
            show (ds.all isPair && decide _) = _
            rw [hall, Bool.true_and]
            refine decide_eq_decide.mpr (hu.symm.trans ⟨fun e => ?_, fun e => ?_⟩)
            · rw [e, List.length_map, hl]
            · have := V.int.inj e
              rw [List.length_map]
              omega
          exact z ▸ k _ (s.trans s3)
end
end Kx
namespace Vx
open PySem PySem.Spec PyProof.Rows L2
/-- all tuples stay -/
def KeepT (H H' : Hp) : Prop := ∀ b xs, Rd H b (.tup xs) → Rd H' b (.tup xs)
theorem KeepT.trans {H H1 H2 : Hp} (a : KeepT H H1) (b : KeepT H1 H2) : KeepT H H2 := fun c xs h => b c xs (a c xs h)
theorem KeepT.of_same {H H' : Hp} (s : Same H H') : KeepT H H' := fun b xs h => by
  rcases h with h | ⟨o, h⟩
  · exact .inl (s _ _ h)
  · exact .inr ⟨o, s _ _ h⟩
/-- the list at l may change -/
theorem KeepT.of_list {H H' : Hp} {l : Addr} {ys : List V} (hl : H l = some (.lst ys)) (s : ∀ b o, b ≠ l → H b = some o → H' b = some o) : KeepT H H' := fun b xs h => by
  rcases h with h | ⟨o, h⟩
  · exact .inl (s _ _ (ne_of h hl fun z => nomatch z) h)
  · exact .inr ⟨o, s _ _ (ne_of h hl fun z => nomatch z) h⟩
theorem KeepT.seq {K : PySem.W.Frag} {H H' : Hp} {a : Addr} {xs : List V} (k : KeepT H H') (h : SqT K H a xs) : SqT K H' a xs := h.imp (k a xs) id
theorem pairs_keep {K : PySem.W.Frag} {H H' : Hp} (k : KeepT H H') : ∀ {ps : List V} {fs : Fs}, Flats fs → DqAll K H ps (fs.map pairD) → DqAll K H' ps (fs.map pairD)
  | [], [], _, _ => .nil
  | p :: ps, f :: fs, c, .cons a b => by
    have cf := c f List.mem_cons_self
    obtain ⟨t, rfl, ht⟩ := a.pair cf
    exact .cons (.tup (k.seq ht) (.cons (.str _) (.cons (dq_flat K H' cf) .nil))) (pairs_keep k (fun g hg => c g (List.mem_cons_of_mem _ hg)) b)
def names7 : List Str := ["a", "a.f", "b.f", "", "B", "a.f.g", "z z"]
def vals8 : List PyData := [.bool true, .int 1, .int 0, .bool false, .str "x", .str "", .int 7, .int (10 ^ 12)]
theorem names7_nodup : names7.Nodup := by decide +kernel
theorem names7_lay : ∀ n ∈ names7, PyData.canLay0 (.str n) = true := by decide +kernel
theorem vals8_flat : ∀ d ∈ vals8, isFlat d = true ∧ PyData.canLay0 d = true := by decide +kernel
/-- facts as the law draws them -/
structure SmallF (fs : Fs) : Prop where
  nodup : (fs.map (·.1)).Nodup
  len : fs.length ≤ 7
  nam : ∀ f ∈ fs, f.1 ∈ names7
  val : ∀ f ∈ fs, f.2 ∈ vals8
theorem SmallF.good {fs : Fs} (s : SmallF fs) : GoodF fs :=
  ⟨fun f hf => (vals8_flat _ (s.val f hf)).1, s.nodup, by have := s.len; omega, fun f hf => by
    have h1 := names7_lay _ (s.nam f hf)
    have h2 := (vals8_flat _ (s.val f hf)).2
    simp [pairD, PyData.canLay0, PyData.canLayAll0] at h1 ⊢
    exact ⟨h1, h2⟩⟩
theorem erase_map {α β : Type} (f : α → β) : ∀ (l : List α) (k : Nat), (l.map f).eraseIdx k = (l.eraseIdx k).map f
  | [], _ => rfl
  | _ :: _, 0 => rfl
  | a :: l, k + 1 => by
    rw [List.map_cons, List.eraseIdx_cons_succ, List.eraseIdx_cons_succ, List.map_cons, erase_map f l k]
theorem erase_perm {α : Type} : ∀ (l : List α) (k : Nat) (y : α), l[k]? = some y → (y :: l.eraseIdx k).Perm l
  | [], _, _, h => by simp at h
  | a :: l, 0, y, h => by
    simp at h
    subst h
    exact .refl _
  | a :: l, k + 1, y, h => by
    rw [List.eraseIdx_cons_succ]
    exact (List.Perm.swap a y _).trans ((erase_perm l k y (by simpa using h)).cons a)
theorem seqIndex_nat {k n : Nat} (h : k < n) : seqIndex? (k : Int) n = some k := by
  unfold seqIndex?
  have h1 : ¬ ((k : Int) < 0) := by omega
  simp only [if_neg h1]
  rw [if_pos (by simp; omega)]
  simp
/-- what stands within the loop of drawn_pairs -/
structure DrawnI (K : PySem.W.Frag) (H H' : Hp) (l F1 L1 : Addr) (a b c : Int) (n i : Nat) (left : List Str) (fs : Fs) (fv : List V) : Prop where
  chg : ∀ q o, q ≠ l → H q = some o → H' q = some o
  pot : H' l = some (.lst [.int a, .int b, .int c])
  fnd : H' F1 = some (.lst fv)
  lft : H' L1 = some (.lst (left.map V.str))
  dq : DqAll K H' fv (fs.map pairD)
  len : fs.length = i
  llen : left.length = 7 - i
  perm : (left ++ fs.map (·.1)).Perm names7
  val : ∀ f ∈ fs, f.2 ∈ vals8
theorem DrawnI.small {K : PySem.W.Frag} {H H' : Hp} {l F1 L1 : Addr} {a b c : Int} {n i : Nat} {left : List Str} {fs : Fs} {fv : List V} (I : DrawnI K H H' l F1 L1 a b c n i left fs fv) (hi : i ≤ 7) : SmallF fs := by
  refine ⟨?_, by rw [I.len]; exact hi, fun f hf => ?_, I.val⟩
  · have z := I.perm.nodup_iff.mpr names7_nodup
    exact (List.nodup_append.mp z).2.1
  · exact I.perm.mem_iff.mp (List.mem_append_right _ (List.mem_map.mpr ⟨f, hf, rfl⟩))
end Vx
namespace Kx
open PySem L2 Vx
abbrev sDrawn : Stmt := top 16
abbrev nDrawn : List Str := ["pot", "found", "left", "turn", "name"]
def spDrawn (K : PySem.W.Frag) : Sp := fun vs H Q _ => ∃ (l : Addr) (a b c : Int) (n : Nat), vs = [.ref l] ∧ H l = some (pot a b c) ∧ PotI a b c n ∧ n + 20 ≤ 1000000 ∧
  ∀ (p : Addr) (ps : List V) (fs : Fs) (a' b' c' : Int) (H' : Hp), SmallF fs → Tup0 H' p ps → DqAll K H' ps (fs.map pairD) → Chg l H H' → H' l = some (pot a' b' c') → PotI a' b' c' (n + 20) → Q (.ref p) H'
section
variable {P : Program} {w : World} {K : PySem.W.Frag} {mg : Str → Option Value} {base : Heap}
theorem scDrawn : FnScope nDrawn ["pot"] (defScope sDrawn) := ⟨rfl, rfl, rfl, by decide +kernel, rfl, by decide +kernel, by decide +kernel⟩
theorem ok_drawn {f fT fO : Addr} {fd fdT fdO : FuncData} (F : Fun K "_law_drawn_pairs" "_law_drawn_pairs" sDrawn f fd) (T : TxtF K mg) (hR : mg "range" = none)
    (GT : FnOk P w K mg base CX0 1 fT fdT ["pot", "upto"] spTake) (gT : mg "_law_take" = some (.ref fT)) (kT : PySem.W.keepIn K (.ref fT) = true) (bT : Binds K fdT ["pot", "upto"] [])
    (GO : FnOk P w K mg base CX0 2 fO fdO ["pot", "some"] (spOf K)) (gO : mg "_law_of" = some (.ref fO)) (kO : PySem.W.keepIn K (.ref fO) = true) (bO : Binds K fdO ["pot", "some"] []) :
    FnOk P w K mg base CX0 3 f fd ["pot"] (spDrawn K) := by
  refine F.ok scDrawn (fun vs H Q E h => ?_) (fun cdv A outer s H vs Q E hr h => ?_)
  · obtain ⟨l, a, b, c, n, rfl, _⟩ := h
    rfl
  · obtain ⟨l, a, b, c, n, rfl, hl, hp, hn, k⟩ := h
    refine ⟨_, pss_cons (ps_par (i := 1) (j := 2) rfl scDrawn.nd rfl rfl (by decide) rfl rfl (pa_cons (pe_lst pa_nil) (pa_cons (pe_lst (pa_cons pe_str (pa_cons pe_str (pa_cons pe_str (pa_cons pe_str (pa_cons pe_str (pa_cons pe_str (pa_cons pe_str pa_nil)))))))) pa_nil)) (by rfl))
      (pss_cons (ps_for PassesOwn.never rfl (pi_range1 rfl hR (pa_cons (pe_call GT (hr.mono (by decide)) rfl gT kT bT .nil pass0 (pa_cons (pv 0) (pa_cons pe_int pa_nil))) pa_nil)) (pg_name (i := 3) scDrawn.nd rfl (Or.inl rfl))
        (pss_cons (ps_set (i := 4) scDrawn.nd rfl (Or.inl rfl) (pe_bm PySem.F.plainAttrs_list PySem.F.slot_list_pop PySem.F.type_list_pop mt_popAt (pv 2) (pa_cons (pe_call GT (hr.mono (by decide)) rfl gT kT bT .nil pass0 (pa_cons (pv 0) (pa_cons (pe_callB call_len_seq (by rfl) T.len PySem.boot_len (pa_cons (pv 2) pa_nil)) pa_nil))) pa_nil)))
        (pss_one (ps_expr (pe_bm PySem.F.plainAttrs_list PySem.F.slot_list_append PySem.F.type_list_append mt_append (pv 1) (pa_cons (pe_tup (pa_cons (pv 4) (pa_cons (pe_call GO hr rfl gO kO bO .nil pass0 (pa_cons (pv 0)
          (pa_cons (pe_lst (pa_cons pe_bl (pa_cons pe_int (pa_cons pe_int (pa_cons pe_bl (pa_cons pe_str (pa_cons pe_str (pa_cons pe_int (pa_cons (pe_op op_pow pe_int pe_int) pa_nil))))))))) pa_nil))) pa_nil))) pa_nil))))))
      (pss_one (ps_ret (pe_callTy call_tuple0 (by rfl) T.tup (by decide +kernel) (pa_cons (pv 1) pa_nil))))), ?_⟩
    refine ⟨by show 0 ≤ sizeLine; decide, fun F1 hF1 => ⟨by show 7 ≤ sizeLine; decide, fun L1 hL1 => ⟨_, _, rfl, ?_⟩⟩⟩
    have nFL : F1 ≠ L1 := ne_of_none upd_same hL1
    have nlF : l ≠ F1 := ne_of_none hl hF1
    have hHL : H L1 = none := by
      have z := hL1
      rw [upd_ne (Ne.symm nFL)] at z
      exact z
    have nlL : l ≠ L1 := ne_of_none (same_new hF1 _ _ hl) hL1
    have s0 : Same H (upd (upd H F1 (.lst [])) L1 (.lst [.str "a", .str "a.f", .str "b.f", .str "", .str "B", .str "a.f.g", .str "z z"])) := (same_new hF1).trans (same_new hL1)
    have f0 : (upd (upd H F1 (.lst [])) L1 (.lst [.str "a", .str "a.f", .str "b.f", .str "", .str "B", .str "a.f.g", .str "z z"])) F1 = some (.lst []) := by rw [upd_ne nFL, upd_same]
    have l0 : (upd (upd H F1 (.lst [])) L1 (.lst [.str "a", .str "a.f", .str "b.f", .str "", .str "B", .str "a.f.g", .str "z z"])) L1 = some (.lst (names7.map V.str)) := upd_same
    generalize (upd (upd H F1 (.lst [])) L1 (.lst [.str "a", .str "a.f", .str "b.f", .str "", .str "B", .str "a.f.g", .str "z z"])) = H0 at s0 f0 l0 ⊢
    refine ⟨_, rfl, l, a, b, c, 7, n, rfl, s0 _ _ hl, hp, by omega, by decide, by decide, fun d a1 b1 c1 H1 d0 d1 ch1 hl1 hp1 => ?_⟩
    obtain ⟨m, rfl⟩ : ∃ m : Nat, d = (m : Int) := ⟨d.toNat, by omega⟩
    have c0 : Chg l H H1 := Chg.trans (Chg.same s0) ch1
    refine ⟨(m : Int), rfl, by omega, by omega, for_range (n := m) (fun i σ' H' => ∃ (left : List Str) (fs : Fs) (fv : List V) (a2 b2 c2 : Int) (o3 o4 : Option V), σ' = [some (.ref l), some (.ref F1), some (.ref L1), o3, o4] ∧ PotI a2 b2 c2 (n + 1 + 2 * i) ∧ DrawnI K H H' l F1 L1 a2 b2 c2 n i left fs fv)
      ⟨names7, [], [], a1, b1, c1, _, _, rfl, hp1, ⟨c0, hl1, ch1 _ _ (Ne.symm nlF) f0, ch1 _ _ (Ne.symm nlL) l0, .nil, rfl, rfl, by rw [List.map_nil, List.append_nil], fun f hf => absurd hf (by simp)⟩⟩ (fun i σ' H' hi A => ?_) fun σ' H' A => ?_⟩
    · obtain ⟨left, fs, fv, a2, b2, c2, o3, o4, rfl, hp2, I⟩ := A
      have hll := I.llen
      have hfl := I.len
      have hsm := I.small (by omega)
      -- name = left.pop(..)
      refine ⟨_, rfl, .inl ⟨rfl, _, SqL.of I.lft⟩, _, rfl, _, rfl, L1, _, rfl, .inl (SqL.of I.lft), l, a2, b2, c2, _, _, rfl, I.pot, hp2, by omega, by rw [List.length_map]; omega, by rw [List.length_map]; omega, fun d a3 b3 c3 H3 dd0 dd1 ch3 hl3 hp3 => ?_⟩
      obtain ⟨kk, rfl⟩ : ∃ kk : Nat, d = (kk : Int) := ⟨d.toNat, by omega⟩
      rw [List.length_map] at dd1
      have hkk : kk < left.length := by omega
      have ek : left[kk]? = some left[kk] := List.getElem?_eq_getElem hkk
      have L3 := ch3 _ _ (Ne.symm nlL) I.lft
      have F3 := ch3 _ _ (Ne.symm nlF) I.fnd
      refine ⟨L1, _, _, kk, .str left[kk], rfl, rfl, L3, by omega, by omega, seqIndex_nat (by rw [List.length_map]; exact hkk), by rw [List.getElem?_map, ek]; rfl, ?_⟩
      rw [erase_map]
      have L4 : (upd H3 L1 (.lst ((left.eraseIdx kk).map V.str))) L1 = some (.lst ((left.eraseIdx kk).map V.str)) := upd_same
      have F4 : (upd H3 L1 (.lst ((left.eraseIdx kk).map V.str))) F1 = some (.lst fv) := by rw [upd_ne nFL]; exact F3
      have P4 : (upd H3 L1 (.lst ((left.eraseIdx kk).map V.str))) l = some (pot a3 b3 c3) := by rw [upd_ne nlL]; exact hl3
      have K4 : KeepT H' (upd H3 L1 (.lst ((left.eraseIdx kk).map V.str))) := (KeepT.of_list I.pot ch3).trans (KeepT.of_list L3 fun b o nb e => by rw [upd_ne nb]; exact e)
      have C4 : Chg l H (upd H3 L1 (.lst ((left.eraseIdx kk).map V.str))) := fun q o nq e => by
        rw [upd_ne (ne_of_none e hHL)]
        exact ch3 q o nq (I.chg q o nq e)
      have D4 := pairs_keep K4 hsm.good.flat I.dq
      generalize (upd H3 L1 (.lst ((left.eraseIdx kk).map V.str))) = H4 at L4 F4 P4 K4 C4 D4 ⊢
      -- found.append((name, of(pot, [..])))
      refine ⟨_, rfl, .inl ⟨rfl, _, SqL.of F4⟩, _, rfl, _, rfl, _, _, rfl, rfl, ⟨by decide, by decide, by decide⟩, by show 8 ≤ sizeLine; decide, fun z hz => ?_⟩
      have sz := same_new (o := .lst [V.bl true, V.int 1, V.int 0, V.bl false, V.str "x", V.str "", V.int 7, V.int (10 ^ (12 : Int).toNat)]) hz
      have nzl : z ≠ l := Ne.symm (ne_of_none P4 hz)
      have nzF : z ≠ F1 := Ne.symm (ne_of_none F4 hz)
      have nzL : z ≠ L1 := Ne.symm (ne_of_none L4 hz)
      refine ⟨l, z, a3, b3, c3, vals8.map vD, _, rfl, sz _ _ P4, hp3, by omega, SqL.of upd_same, nzl, by decide, by decide, fun vi x a5 b5 c5 H5 hx ch5 hl5 hp5 => ?_⟩
      obtain ⟨dv, hdv, rfl⟩ : ∃ dv, vals8[vi]? = some dv ∧ vD dv = x := by
        rw [List.getElem?_map] at hx
        cases q : vals8[vi]? with
        | none => rw [q] at hx; cases hx
        | some dv => rw [q] at hx; exact ⟨dv, rfl, by simpa using hx⟩
      have mdv : dv ∈ vals8 := List.mem_of_getElem? hdv
      refine ⟨by show 2 ≤ sizeLine; decide, fun p hp => ?_⟩
      have s6 := same_new (o := .tup [.str left[kk], vD dv]) hp
      have F5 := ch5 _ _ (Ne.symm nlF) (sz _ _ F4)
      have L5 := ch5 _ _ (Ne.symm nlL) (sz _ _ L4)
      have npF : p ≠ F1 := Ne.symm (ne_of_none F5 hp)
      have npL : p ≠ L1 := Ne.symm (ne_of_none L5 hp)
      have hvl : fv.length = fs.length := by
        have := D4.len
        rwa [List.length_map] at this
      refine ⟨F1, fv, .ref p, rfl, rfl, s6 _ _ F5, by rw [hvl, sizeLine_eq]; omega, ?_⟩
      have K5 : KeepT H4 (upd (upd H5 p (.tup [.str left[kk], vD dv])) F1 (.lst (fv ++ [.ref p]))) :=
        ((KeepT.of_same sz).trans (KeepT.of_list (sz _ _ P4) ch5)).trans ((KeepT.of_same s6).trans (KeepT.of_list (s6 _ _ F5) fun b o nb e => by rw [upd_ne nb]; exact e))
      refine ⟨left.eraseIdx kk, fs ++ [(left[kk], dv)], fv ++ [.ref p], a5, b5, c5, _, _, rfl, hp5.mono (by omega), ⟨fun q o nq e => ?_, ?_, upd_same, ?_, ?_, by rw [List.length_append, hfl]; rfl, by rw [List.length_eraseIdx, if_pos hkk]; omega, ?_, fun f hf => ?_⟩⟩
      · rw [upd_ne (ne_of_none e hF1)]
        exact s6 _ _ (ch5 q o nq (sz _ _ (C4 q o nq e)))
      · rw [upd_ne nlF]
        exact s6 _ _ hl5
      · rw [upd_ne (Ne.symm nFL)]
        exact s6 _ _ L5
      · rw [List.map_append]
        refine DqAll.snoc (d := pairD (left[kk], dv)) (.tup (SqT.of ?_) (.cons (.str _) (.cons (dq_flat K _ (vals8_flat _ mdv).1) .nil))) (pairs_keep K5 hsm.good.flat D4)
        rw [upd_ne npF, upd_same]
      · refine List.Perm.trans ?_ I.perm
        rw [List.map_append]
        refine List.Perm.trans ?_ ((Vx.erase_perm left kk left[kk] ek).append_right _)
        have e1 : left.eraseIdx kk ++ (fs.map (·.1) ++ [left[kk]]) = (left.eraseIdx kk ++ fs.map (·.1)) ++ [left[kk]] := (List.append_assoc _ _ _).symm
        exact e1 ▸ List.perm_append_comm
      · rcases List.mem_append.mp hf with h | h
        · exact I.val f h
        · rw [List.mem_singleton.mp h]
          exact mdv
    · obtain ⟨left, fs, fv, a2, b2, c2, o3, o4, rfl, hp2, I⟩ := A
      refine ⟨_, rfl, F1, fv, rfl, SqL.of I.fnd, fun q oq hq hoq => ?_⟩
      refine k q fv fs a2 b2 c2 _ (I.small (by omega)) ⟨oq, upd_same, hoq⟩ (Dq.sameAll (same_new hq) _ _ I.dq) (Chg.trans I.chg (Chg.new hq)) (same_new hq _ _ I.pot) (hp2.mono (by omega))
end
end Kx
namespace Vx
open PySem PySem.Spec PyProof.Rows L2 HT
section
variable {prog : Program} {w : World} {A : Around} {E : Value → Shared → Prop} {s : Shared}
theorem rev_places (n : Nat) : Builtin.Slice.sliceAdjust none none (-1) (n : Int) = ((n : Int) - 1, -1) ∧ Builtin.Slice.slicePlaces ((n : Int) - 1) (-1) (-1) = n := by
  constructor
  · unfold Builtin.Slice.sliceAdjust
    rfl
  · unfold Builtin.Slice.slicePlaces
    have h1 : ¬ ((-1 : Int) > 0) := by decide
    simp only [h1, if_false]
    have h2 : (- -1 : Int) = 1 := by decide
    simp only [h2, Int.ediv_one]
    split <;> omega
theorem sliceRev {sl : Addr} {vl vu vs : Value} {n : Nat} {Q : Int × Int × Nat → Shared → Prop} (hs : s.heap.IsSliceOf sl vl vu vs) (pl : IsPart vl none) (pu : IsPart vu none) (ps : IsPart vs (some (-1)))
    (h : Q ((n : Int) - 1, -1, n) s) : wpAny (model prog w) A (Builtin.Slice.sliceApplied (.ref sl) (pure (n : Int))) Q E s := by
  obtain ⟨os, hos, hcs, hds⟩ := id hs
  unfold Builtin.Slice.sliceApplied Builtin.Slice.sliceFields
  refine wpAny_bind (wpAny_bind (wpAny_field hos hds (x := vl) rfl (wpAny_bind (wpAny_field hos hds (x := vu) rfl (wpAny_bind (wpAny_field hos hds (x := vs) rfl (wpAny_pure ?_)))))))
  refine wpAny_bind (slicePart_ ps ?_)
  show wpAny _ _ (if ((-1 : Int) == 0) = true then _ else _) _ _ s
  rw [if_neg (by decide)]
  refine wpAny_bind (slicePart_ pl (wpAny_bind (slicePart_ pu (wpAny_bind (wpAny_pure ?_)))))
  show wpAny _ _ (match Builtin.Slice.sliceAdjust none none (-1) (n : Int) with | (lo, hi) => pure (lo, (-1 : Int), Builtin.Slice.slicePlaces lo hi (-1))) _ _ s
  rw [(rev_places n).1]
  show wpAny _ _ (pure ((n : Int) - 1, (-1 : Int), Builtin.Slice.slicePlaces ((n : Int) - 1) (-1) (-1))) _ _ s
  rw [(rev_places n).2]
  exact wpAny_pure h
theorem pick_rev (xs : Array Value) : ((List.range xs.size).filterMap fun (m : Nat) => xs[((xs.size : Int) - 1 + (m : Int) * -1).toNat]?).toArray = xs.toList.reverse.toArray := by
  congr 1
  have key : ∀ l : List Value, ∀ n, n ≤ l.length → ((List.range n).filterMap fun (m : Nat) => l[((l.length : Int) - 1 + (m : Int) * -1).toNat]?) = l.reverse.take n := by
    intro l n
    induction n with
    | zero => intro _; rfl
    | succ n ih =>
      intro hn
      rw [List.range_succ, List.filterMap_append, ih (by omega)]
      have e : ((l.length : Int) - 1 + (n : Int) * -1).toNat = l.length - 1 - n := by omega
      have hi : l.length - 1 - n < l.length := by omega
      have e2 : l.reverse.take (n + 1) = l.reverse.take n ++ [l.reverse[n]'(by rw [List.length_reverse]; omega)] := List.take_succ_eq_append_getElem _
      rw [e2, List.getElem_reverse]
      congr 1
      simp only [List.filterMap_cons, List.filterMap_nil, e, List.getElem?_eq_getElem hi]
  have z := key xs.toList xs.toList.length (Nat.le_refl _)
  rw [List.take_of_length_le (by rw [List.length_reverse]; exact Nat.le_refl _)] at z
  rw [Array.length_toList] at z
  simpa using z
theorem getItem_rev {t sl : Addr} {its : List Value} {vl vu vs : Value} {Q : Value → Shared → Prop} (ht : IsTup s.heap t its.toArray) (hs : s.heap.IsSliceOf sl vl vu vs) (pl : IsPart vl none) (pu : IsPart vu none) (ps : IsPart vs (some (-1)))
    (h : Q (.ref s.heap.objs.size) { s with heap := s.heap.push { cls := .type "tuple", data := .seq its.reverse.toArray } }) (hsz : its.length ≤ sizeLine) : wpAny (model prog w) A (getItem (.ref t) (.ref sl)) Q E s := by
  obtain ⟨os, hos, hcs, hds⟩ := id hs
  have hTs : s.TypeIs (.ref sl) "slice" := ⟨os, hos, hcs⟩
  unfold getItem
  try with_reducible refine wpAny_holding ?_
  first | refine wpAny_bind (wpAny_pure ?_) | skip
  refine wpAny_bind (wpAny_sequenceKey ht.typeIs (by decide) ?_)
  refine wpAny_bind (wpAny_callSpecial?_slot (name := Str.ofString "__getitem__") ht.typeIs PyProof.Rows.slot_tuple_getitem
    (wpAny_call_entry PyProof.Rows.slot_tuple_getitem ht.typeIs entry_tuple_getitem ?_ (args_tuple_getitem _ _)))
  show wpAny _ _ (Builtin.Tuple.tupleItemsOf (.ref t) >>= _) _ _ s
  refine wpAny_bind (tupleItemsOf_ ht ?_)
  refine wpAny_bind (wpAny_typeOf hTs ?_)
  rw [if_pos (by decide)]
  refine wpAny_bind (sliceRev hs pl pu ps ?_)
  have hno : ¬ (((its.toArray.size : Int) - 1 == 0 && (-1 : Int) == 1 && its.toArray.size == its.toArray.size) = true) := by
    rw [show ((-1 : Int) == 1) = false from rfl, Bool.and_false, Bool.false_and]
    exact Bool.false_ne_true
  show wpAny _ _ (if ((its.toArray.size : Int) - 1 == 0 && (-1 : Int) == 1 && its.toArray.size == its.toArray.size) = true then _ else _) _ _ s
  rw [if_neg hno, pick_rev]
  have htake : sizeOk (.seq its.reverse.toArray) := by
    show its.reverse.toArray.size ≤ sizeLine
    rw [List.size_toArray, List.length_reverse]
    exact hsz
  first
    | exact wpAny_bind (m := Builtin.Tuple.tupleExact _) (wpAny_newObj_type (wpAny_pure ⟨_, rfl, wpAny_pure h⟩) htake)
    | exact wpAny_bind (m := Builtin.Tuple.tupleExact _) (wpAny_newObj_type (wpAny_bind (wpAny_pure (wpAny_pure ⟨_, rfl, wpAny_pure h⟩))) htake)
    | exact wpAny_bind (wpAny_bind (m := Builtin.Tuple.tupleExact _) (wpAny_newObj_type (wpAny_pure (wpAny_pure ⟨_, rfl, wpAny_pure h⟩)) htake))
    | exact wpAny_bind (wpAny_bind (m := Builtin.Tuple.tupleExact _) (wpAny_newObj_type (wpAny_pure ⟨_, rfl, wpAny_pure h⟩) htake))
end
section
variable {X : Cx}
/-- t[::-1], t a tuple -/
def tRevT0 (K : PySem.W.Frag) (te : TE) : TE := fun σ H Q => te σ H fun x H1 => ∃ a xs, x = .ref a ∧ SqT K H1 a xs ∧ ∀ p o, H1 p = none → o.dict = none → Q (.ref p) (upd H1 p (.frz o (.tup xs.reverse)))
theorem pe_revT0 {e : Expr} {te : TE} {k : Nat} {p1 p2 p3 pos : Pos} (he : PE X e te) : PE X (.Subscript e (.Slice none none (some (.UnaryOp .USub (.Constant (.int 1) k p1) p2)) p3) pos) (tRevT0 X.K te) := by
  refine ⟨fun pins s σ H Q I h => Subscript_ (thn (he.run pins s σ H _ I h) fun v s1 ⟨x, H1, I1, r1, q1⟩ => ?_)⟩
  obtain ⟨a, xs, rfl, hx, q⟩ := q1
  cases r1
  have hst : PO X (some (.UnaryOp .USub (.Constant (.int 1) k p1) p2)) (tPart (tUn (rU fun i => .int (-i)) (tC (.int 1)))) := po_some (pe_un un_neg pe_int)
  refine wpAny_Slice (thn (po_none.run pins s1 σ H1 (fun o H2 => o = none ∧ H2 = H1) I1 ⟨rfl, rfl⟩) fun vl s2 z2 => ?_)
  obtain ⟨_, _, I2, pl, rfl, rfl⟩ := z2
  refine thn (po_none.run pins s2 σ _ (fun o H3 => o = none ∧ H3 = _) I2 ⟨rfl, rfl⟩) fun vu s3 z3 => ?_
  obtain ⟨_, _, I3, pu, rfl, rfl⟩ := z3
  refine thn (hst.run pins s3 σ _ (fun o H4 => o = some (-1) ∧ H4 = _) I3 ⟨1, rfl, -1, rfl, rfl, rfl⟩) fun vs s4 z4 => ?_
  obtain ⟨_, _, I4, ps, rfl, rfl⟩ := z4
  have I5 : Inv X pins σ _ { s4 with heap := s4.heap.push { cls := .type "slice", data := .fields #[vl, vu, vs] } } := I4.kept (t' := s4.toks) fun b ob q => Heap.get?_push_of_some _ q
  obtain ⟨its, r, ht, hz⟩ := I5.tuple hx
  show wpAny (model X.prog X.w) X.A (subscriptTail e (.Slice none none (some (.UnaryOp .USub (.Constant (.int 1) k p1) p2)) p3) (.ref a) (.ref s4.heap.objs.size)) (EP X pins σ Q) X.xe { s4 with heap := s4.heap.push { cls := .type "slice", data := .fields #[vl, vu, vs] } }
  refine tail_any (ops := [.ref a, .ref s4.heap.objs.size]) ht.typeIs (PyProof.Rows.slot_tuple_getitem.lookup) ?_ (by with_unfolding_all rfl)
  refine getItem_rev ht (Heap.IsSliceOf.new _ vl vu vs) pl pu ps ?_ (by rw [← r.length]; exact hz)
  exact ⟨.ref _, _, inv_tup0 I5 r.reverse (by rw [List.length_reverse]; exact hz), rfl, q _ _ (I5.hok.fresh (Nat.le_refl _)) rfl⟩
end
end Vx
namespace Vx
open PySem PySem.Spec PyProof.Rows L2
/-- merging pairs with distinct keys -/
theorem merge_new : ∀ (more kvs : List (Key × V)), (∀ p ∈ kvs, ∀ q ∈ more, p.1 ≠ q.1) → (more.map (·.1)).Nodup → mergeK kvs more = kvs ++ more
  | [], kvs, _, _ => by simp [mergeK]
  | q :: more, kvs, h, nd => by
    rw [List.map_cons, List.nodup_cons] at nd
    show mergeK (putK kvs q.1 q.2) more = _
    rw [put_new fun p hp => h p hp q List.mem_cons_self, merge_new more _ (fun p hp r hr => ?_) nd.2, List.append_assoc]
    · rfl
    · rcases List.mem_append.mp hp with hp | hp
      · exact h p hp r (List.mem_cons_of_mem _ hr)
      · rw [List.mem_singleton.mp hp]
        intro e
        exact nd.1 (by rw [show q.1 = r.1 from e]; exact List.mem_map.mpr ⟨r, hr, rfl⟩)
def dictF (fs : Fs) : List (Key × V) := fs.map fun f => (Sum.inr f.1, vD f.2)
theorem merge_facts {fs : Fs} (nd : (fs.map (·.1)).Nodup) : mergeK [] (dictF fs) = dictF fs := by
  rw [merge_new _ _ (fun p hp => absurd hp (by simp)) ?_, List.nil_append]
  unfold dictF
  rw [List.map_map]
  have e : (fs.map ((fun x : Key × V => x.1) ∘ fun f : Str × PyData => ((Sum.inr f.1 : Key), vD f.2))) = (fs.map (·.1)).map Sum.inr := by
    rw [List.map_map]
    rfl
  rw [e]
  exact List.pairwise_map.mpr (List.Pairwise.imp (fun h e => h (Sum.inr.inj e)) nd)
theorem dq_paired {K : PySem.W.Frag} {H : Hp} : ∀ {xs : List V} {fs : Fs}, DqAll K H xs (fs.map pairD) → Flats fs → ∃ ps : List Addr, xs = ps.map V.ref ∧ Paired (fun p kv => SqT K H p [kV kv.1, kv.2]) ps (dictF fs)
  | [], [], _, _ => ⟨[], rfl, .nil⟩
  | x :: xs, f :: fs, .cons a b, c => by
    obtain ⟨t, rfl, ht⟩ := a.pair (c f List.mem_cons_self)
    obtain ⟨ps, rfl, hp⟩ := dq_paired b fun g hg => c g (List.mem_cons_of_mem _ hg)
    exact ⟨t :: ps, rfl, .cons ht hp⟩
end Vx
namespace Vx
open PySem PySem.Spec PyProof.Rows L2
/-- what repr asks of a datum -/
structure Shows (d : PyData) : Prop where
  showable : d.showable = true
  len : d.shown.length ≤ sizeLine
  depth : d.depth ≤ 40
  int : ∀ i, d = .int i → i.natAbs.log2 < 1920
theorem shows_of {d : PyData} (c : PyData.canLay0 d = true) (w : d.weight ≤ 2 ^ 20) (p : d.depth ≤ 40) (i : d.intsShort 13 = true) (s : d.showable = true) : Shows d := by
  refine ⟨s, ?_, p, fun j e => ?_⟩
  · have hl : PyData.layable0 d = true := by
      unfold PyData.layable0
      rw [c, Bool.true_and, Bool.and_eq_true, decide_eq_true_eq, decide_eq_true_eq]
      exact ⟨by omega, w⟩
    have := shown_le13 hl i
    rw [sizeLine_eq]
    omega
  · subst e
    simpa [PyData.showable] using s
/-- the parts of a datum that is a list or a tuple -/
structure Small1 (d : PyData) (w : Nat) : Prop where
  lay : PyData.canLay0 d = true
  wt : d.weight ≤ w
  dp : d.depth ≤ 10
  sh : d.intsShort 13 = true
  sw : d.showable = true
theorem small_all {w : Nat} : ∀ {ds : List PyData}, (∀ d ∈ ds, Small1 d w) → PyData.canLayAll0 ds = true ∧ PyData.weightAll ds ≤ ds.length * (w + 1) ∧ PyData.depthAll ds ≤ 10 ∧ PyData.intsShortAll 13 ds = true ∧ PyData.showableAll ds = true
  | [], _ => ⟨rfl, Nat.zero_le _, Nat.zero_le _, rfl, rfl⟩
  | d :: ds, h => by
    obtain ⟨a, b, c, e, f⟩ := small_all (ds := ds) fun x hx => h x (List.mem_cons_of_mem _ hx)
    have k := h d List.mem_cons_self
    refine ⟨by rw [PyData.canLayAll0, k.lay, a]; rfl, ?_, ?_, by rw [PyData.intsShortAll, k.sh, e]; rfl, by rw [PyData.showableAll, k.sw, f]; rfl⟩
    · rw [PyData.weightAll, List.length_cons, Nat.succ_mul]
      have := k.wt
      omega
    · rw [PyData.depthAll]
      exact Nat.max_le.mpr ⟨k.dp, c⟩
theorem shows_tuple {ds : List PyData} {w : Nat} (h : ∀ d ∈ ds, Small1 d w) (hw : ds.length * (w + 1) ≤ 2 ^ 20) : Shows (.tuple ds) := by
  obtain ⟨a, b, c, e, f⟩ := small_all h
  exact shows_of (by rw [PyData.canLay0]; exact a) (by rw [PyData.weight]; omega) (by rw [PyData.depth]; omega) (by rw [PyData.intsShort]; exact e) (by rw [PyData.showable]; exact f)
theorem small_tuple {ds : List PyData} {w : Nat} (h : ∀ d ∈ ds, Small1 d w) (hd : PyData.depthAll ds ≤ 9) : Small1 (.tuple ds) (ds.length * (w + 1)) := by
  obtain ⟨a, b, c, e, f⟩ := small_all h
  exact ⟨by rw [PyData.canLay0]; exact a, by rw [PyData.weight]; exact b, by rw [PyData.depth]; omega, by rw [PyData.intsShort]; exact e, by rw [PyData.showable]; exact f⟩
theorem shows_list {ds : List PyData} {w : Nat} (h : ∀ d ∈ ds, Small1 d w) (hw : ds.length * (w + 1) ≤ 2 ^ 20) : Shows (.list ds) := by
  obtain ⟨a, b, c, e, f⟩ := small_all h
  exact shows_of (by rw [PyData.canLay0]; exact a) (by rw [PyData.weight]; omega) (by rw [PyData.depth]; omega) (by rw [PyData.intsShort]; exact e) (by rw [PyData.showable]; exact f)
theorem names7_small : ∀ n ∈ names7, (PyData.canLay0 (.str n) && decide (PyData.weight (.str n) ≤ 50)) = true := by decide +kernel
theorem vals8_small : ∀ d ∈ vals8, (PyData.canLay0 d && decide (d.weight ≤ 50) && decide (d.depth = 0) && d.intsShort 13 && d.showable) = true := by decide +kernel
theorem small_name {n : Str} (h : n ∈ names7) : Small1 (.str n) 50 := by
  have := names7_small n h
  rw [Bool.and_eq_true, decide_eq_true_eq] at this
  exact ⟨this.1, this.2, Nat.zero_le _, rfl, rfl⟩
theorem small_val {d : PyData} (h : d ∈ vals8) : Small1 d 50 ∧ d.depth = 0 := by
  have := vals8_small d h
  simp only [Bool.and_eq_true, decide_eq_true_eq] at this
  obtain ⟨⟨⟨⟨a, b⟩, c⟩, e⟩, f⟩ := this
  exact ⟨⟨a, b, by omega, e, f⟩, c⟩
theorem small_pair {f : Str × PyData} (h1 : f.1 ∈ names7) (h2 : f.2 ∈ vals8) : Small1 (pairD f) 102 := by
  have hd := (small_val h2).2
  refine small_tuple (ds := [.str f.1, f.2]) (w := 50) (fun d hd => ?_) ?_
  · simp only [List.mem_cons, List.not_mem_nil, or_false] at hd
    rcases hd with rfl | rfl
    · exact small_name h1
    · exact (small_val h2).1
  · simp [PyData.depthAll, PyData.depth, hd]
theorem SmallF.pairs_show {fs : Fs} (s : SmallF fs) : Shows (.tuple (fs.map pairD)) :=
  shows_tuple (w := 102) (fun d hd => by
    obtain ⟨f, hf, rfl⟩ := List.mem_map.mp hd
    exact small_pair (s.nam f hf) (s.val f hf)) (by
    have := s.len
    rw [List.length_map]
    omega)
theorem SmallF.val_show {fs : Fs} (s : SmallF fs) {f : Str × PyData} (h : f ∈ fs) : Shows f.2 := by
  obtain ⟨k, hd⟩ := small_val (s.val f h)
  exact shows_of k.lay (by have := k.wt; omega) (by omega) k.sh k.sw
/-- [names, how many] -/
def namesN (fs : Fs) : PyData := .list [.tuple (fs.map fun f => .str f.1), .int (fs.length : Nat)]
theorem ints_small : ∀ n : Fin 8, ((PyData.int ((n.val : Nat) : Int)).intsShort 13 && (PyData.int ((n.val : Nat) : Int)).showable && decide ((PyData.int ((n.val : Nat) : Int)).weight ≤ 50)) = true := by decide +kernel
theorem SmallF.names_show {fs : Fs} (s : SmallF fs) : Shows (namesN fs) := by
  have hl := s.len
  have t : Small1 (.tuple (fs.map fun f => PyData.str f.1)) (7 * 51) := by
    have := small_tuple (ds := fs.map fun f => PyData.str f.1) (w := 50) (fun d hd => by
      obtain ⟨f, hf, rfl⟩ := List.mem_map.mp hd
      exact small_name (s.nam f hf)) (Nat.le_trans (depthAll_le (n := 0) fun d hd => by
      obtain ⟨f, hf, rfl⟩ := List.mem_map.mp hd
      exact Nat.le_refl _) (by decide))
    refine ⟨this.lay, Nat.le_trans this.wt ?_, this.dp, this.sh, this.sw⟩
    rw [List.length_map]
    omega
  have i : Small1 (.int ((fs.length : Nat) : Int)) (7 * 51) := by
    have := ints_small ⟨fs.length, by omega⟩
    simp only [Bool.and_eq_true, decide_eq_true_eq] at this
    exact ⟨rfl, by omega, Nat.zero_le _, this.1.1, this.1.2⟩
  refine shows_list (w := 7 * 51) (fun d hd => ?_) (by show 2 * (7 * 51 + 1) ≤ 2 ^ 20; decide)
  simp only [List.mem_cons, List.not_mem_nil, or_false] at hd
  rcases hd with rfl | rfl
  · exact t
  · exact i
theorem SmallF.perm {fs gs : Fs} (s : SmallF fs) (p : gs.Perm fs) : SmallF gs :=
  ⟨(p.map _).nodup_iff.mpr s.nodup, by rw [p.length_eq]; exact s.len, fun f hf => s.nam f (p.mem_iff.mp hf), fun f hf => s.val f (p.mem_iff.mp hf)⟩
theorem SmallF.sub {fs gs : Fs} (s : SmallF fs) (p : gs.Sublist fs) : SmallF gs :=
  ⟨(p.map _).nodup s.nodup, Nat.le_trans p.length_le s.len, fun f hf => s.nam f (p.subset hf), fun f hf => s.val f (p.subset hf)⟩
end Vx
namespace Vx
open PySem PySem.Spec PyProof.Rows L2
theorem rising_pw : ∀ (r : List Str) (x : Str), risingS x r = true → (x :: r).Pairwise fun a b => ltS b a = false
  | [], x, _ => List.pairwise_singleton _ _
  | y :: r, x, h => by
    have h1 : ltS y x = false ∧ risingS y r = true := by
      have z : (!ltCps y.cps.toList x.cps.toList && risingS y r) = true := h
      rw [PyProof.Rows.ltCps_eq, Bool.and_eq_true, Bool.not_eq_true'] at z
      exact z
    have ih := rising_pw r y h1.2
    refine List.pairwise_cons.mpr ⟨fun z hz => ?_, ih⟩
    rcases List.mem_cons.mp hz with e | hz
    · rw [e]; exact h1.1
    · exact ltS_tr h1.1 ((List.pairwise_cons.mp ih).1 z hz)
theorem sorted_names {fs : Fs} {ys : List Str} (hp : ys.Perm (fs.map (·.1))) (hs : sortedS ys = true) : ys = (srt fs).map (·.1) := by
  have h1 : ys.Pairwise fun a b => ltS b a = false := by
    cases ys with
    | nil => exact List.Pairwise.nil
    | cons x r => exact rising_pw r x hs
  have h2 : ((srt fs).map (·.1)).Pairwise fun a b => ltS b a = false := List.pairwise_map.mpr (srt_sorted fs)
  exact List.Perm.eq_of_pairwise (le := fun a b => ltS b a = false) (fun a b _ _ q r => ltS_tot r q) h1 h2 (hp.trans ((srt_perm fs).map _).symm)
section
variable {X : Cx}
/-- len(d), d a dict -/
theorem call_lenK : CallR X (.builtin "len") (fun xs H Q => ∃ a kvs, xs = [.ref a] ∧ Rd H a (.dK kvs) ∧ Q (.int ((kvs.length : Nat) : Int)) H) := by
  intro pins s σ H xs us Q I r h
  obtain ⟨a, kvs, rfl, e, q⟩ := h
  obtain ⟨u, rfl, ru⟩ := vals1 r
  obtain rfl : u = Value.ref a := ru
  exact d_len I e fun t s' I' => ⟨.int _, H, I', ⟨t, rfl⟩, q⟩
end
end Vx
namespace Vx
open PySem PySem.Spec PyProof.Rows L2
def tookG {β : Type} (n : Nat) (p : Nat → Bool) (f : Nat → β) : List β := ((List.range n).filter p).map f
theorem tookG_succ {β : Type} (n : Nat) (p : Nat → Bool) (f : Nat → β) : tookG (n + 1) p f = tookG n p f ++ if p n = true then [f n] else [] := by
  unfold tookG
  rw [List.range_succ, List.filter_append, List.map_append]
  by_cases h : p n = true
  · rw [if_pos h, List.filter_cons_of_pos h]; rfl
  · rw [if_neg h, List.filter_cons_of_neg h]; rfl
theorem tookG_le {β : Type} (n : Nat) (p : Nat → Bool) (f : Nat → β) : (tookG n p f).length ≤ n := by
  unfold tookG
  rw [List.length_map]
  exact Nat.le_trans (List.length_filter_le _ _) (by simp)
theorem tookG_list {α β : Type} (p : α → Bool) (f : α → β) (d : α) (ds : List α) (m : Nat) (hm : m = ds.length) : tookG m (fun i => p (ds.getD i d)) (fun i => f (ds.getD i d)) = (ds.filter p).map f := by
  subst hm
  have key : ∀ n, n ≤ ds.length → tookG n (fun i => p (ds.getD i d)) (fun i => f (ds.getD i d)) = ((ds.take n).filter p).map f := by
    intro n
    induction n with
    | zero => intro _; rfl
    | succ n ih =>
      intro h
      have e : ds.take (n + 1) = ds.take n ++ [ds.getD n d] := by
        rw [List.take_succ_eq_append_getElem (by omega)]
        congr 1
        simp [List.getD, List.getElem?_eq_getElem (show n < ds.length by omega)]
      rw [tookG_succ, ih (by omega), e, List.filter_append, List.map_append]
      by_cases q : p (ds.getD n d) = true
      · rw [if_pos q, List.filter_cons_of_pos q]; rfl
      · rw [if_neg q, List.filter_cons_of_neg q]; rfl
  rw [key _ (Nat.le_refl _), List.take_length]
/-- [e for x in xs if t], xs a list, e a datum -/
theorem lc_dqL {K : PySem.W.Frag} {H1 : Hp} {D a : Addr} {p : Nat → Bool} {df : Nat → PyData} {σ : L2.St} {j : Nat} {tt : TT} {te : TE} {xs : List V} {Qd : Hp → Prop} (hD : H1 D = none) (hs : SqL K H1 a xs) (hn : xs.length < sizeLine)
    (ht : ∀ i x H' (Q' : Bool → Hp → Prop), xs[i]? = some x → Same H1 H' → (∀ H'', Same H' H'' → Q' (p i) H'') → tt ((wipe σ [j]).set j (some x)) H' Q')
    (he : ∀ i x H' (Q' : VK), xs[i]? = some x → p i = true → Same H1 H' → (∃ acc, H' D = some (.lst acc)) → (∀ y H'', Same H' H'' → Dq K (hid H'' D) y (df i) → Q' y H'') → te ((wipe σ [j]).set j (some x)) H' Q')
    (q : ∀ H2 ys, Same H1 H2 → H2 D = some (.lst ys) → DqAll K H2 ys (tookG xs.length p df) → Qd H2) :
    ∃ W : Nat → Nat → Hp → Prop, (∃ m, W 0 m (upd H1 D (.lst []))) ∧ ∀ i m H, W i m H →
      ((Itl K a).stop i H ∧ Qd H) ∨ ((Itl K a).go i H ∧ ∃ Nx : Hp → Prop, (∀ H', Nx H' → ∃ m', m' < m ∧ W (i + 1) m' H') ∧ ∀ x H', (Itl K a).yld i H x H' → gName j x (wipe σ [j]) H' fun σ2 H2 => wipe σ2 [j] = wipe σ [j] ∧ tt σ2 H2 fun b H3 =>
        if b = true then te σ2 H3 fun y H4 => ∃ acc, H4 D = some (.lst acc) ∧ acc.length < sizeLine ∧ Nx (upd H4 D (.lst (acc ++ [y]))) else Nx H3) := by
  refine lc_list (K := K) (a := a) (xs := xs) (Qd := Qd) (fun i H => i ≤ xs.length ∧ Same H1 H ∧ ∃ acc, H D = some (.lst acc) ∧ DqAll K (hid H D) acc (tookG i p df)) ⟨Nat.zero_le _, same_new hD, [], upd_same, .nil⟩ (fun _ _ _ A => A.2.1.seq hs) (fun i x H hx A => ?_) fun H A => ?_
  · have hi : i < xs.length := (List.getElem?_eq_some_iff.mp hx).1
    obtain ⟨_, s, acc, ea, ha⟩ := A
    refine ⟨by simp [wipe], ht i x H _ hx s fun H3 s3 => ?_⟩
    have ea3 := s3 _ _ ea
    have ha3 := Dq.sameAll (hid_mono D s3) _ _ ha
    refine ite2 (fun c => ?_) (fun c => ?_)
    · refine he i x H3 _ hx c (s.trans s3) ⟨acc, ea3⟩ fun y H4 s4 hy => ?_
      have hl := ha.len
      have hle := tookG_le i p df
      refine ⟨acc, s4 _ _ ea3, by omega, hi, fun b o e => ?_, acc ++ [y], upd_same, ?_⟩
      · rw [upd_ne (ne_of_none e hD)]
        exact s4 _ _ (s3 _ _ (s _ _ e))
      · rw [hid_upd, tookG_succ, if_pos c]
        exact DqAll.snoc hy (Dq.sameAll (hid_mono D s4) _ _ ha3)
    · exact ⟨hi, s.trans s3, acc, ea3, by rw [tookG_succ, if_neg c, List.append_nil]; exact ha3⟩
  · obtain ⟨_, s, acc, ea, ha⟩ := A
    exact q H acc s ea (Dq.sameAll (hid_same H D) _ _ ha)
/-! ### what facts tell in another sequence -/
theorem findF_perm {fs gs : Fs} (nd : (fs.map (·.1)).Nodup) (p : gs.Perm fs) (n : Str) : findF gs n = findF fs n := by
  have nd2 : (gs.map (·.1)).Nodup := (p.map _).nodup_iff.mpr nd
  by_cases h : n ∈ fs.map (·.1)
  · obtain ⟨f, hf, rfl⟩ := List.mem_map.mp h
    rw [findF_some nd hf, findF_some nd2 (p.mem_iff.mpr hf)]
  · have h2 : n ∉ gs.map (·.1) := fun m => h ((p.map _).mem_iff.mp m)
    have a := findF_none.mpr h
    have b := findF_none.mpr h2
    cases e1 : findF fs n with
    | some x => rw [e1] at a; cases a
    | none =>
      cases e2 : findF gs n with
      | some x => rw [e2] at b; cases b
      | none => rfl
theorem findF_mem {fs : Fs} {n : Str} {d : PyData} (h : findF fs n = some d) : (n, d) ∈ fs := by
  unfold findF at h
  cases q : fs.find? fun f => decide (f.1 = n) with
  | none => rw [q] at h; cases h
  | some f =>
    rw [q] at h
    cases h
    have h1 := List.mem_of_find?_eq_some q
    have h2 : f.1 = n := by simpa using List.find?_some q
    rw [← h2]
    exact h1
theorem dget_facts {H : Hp} {a : Addr} {fs : Fs} (e : H a = some (.dK (dictF fs))) (n : Str) : DGet H a (.str n) ((findF fs n).map vD) := by
  have z := DGet.k (k := Sum.inr n) e
  rw [show valV (dictF fs) (Sum.inr n) = (findF fs n).map vD from valV_facts fs n] at z
  exact z
theorem dictF_keys (fs : Fs) : (dictF fs).map (·.1) = (fs.map (·.1)).map Sum.inr := by
  unfold dictF
  rw [List.map_map, List.map_map]
  rfl
end Vx
namespace Vx
open PySem PySem.Spec PyProof.Rows L2 LamX
theorem ext_T {K : PySem.W.Frag} {H H' : Hp} {a : Addr} {xs : List V} (e : ExtN H H') (h : SqT K H a xs) : SqT K H' a xs := by
  rcases h with (h | ⟨o, h⟩) | h
  · exact .inl (.inl (e _ _ h fun _ z => nomatch z))
  · exact .inl (.inr ⟨o, e _ _ h fun _ z => nomatch z⟩)
  · exact .inr h
theorem ext_L {K : PySem.W.Frag} {H H' : Hp} {a : Addr} {xs : List V} (e : ExtN H H') (h : SqL K H a xs) : SqL K H' a xs := by
  rcases h with (h | ⟨o, h⟩) | h
  · exact .inl (.inl (e _ _ h fun _ z => nomatch z))
  · exact .inl (.inr ⟨o, e _ _ h fun _ z => nomatch z⟩)
  · exact .inr h
mutual
theorem Dq.ext {K : PySem.W.Frag} {H H' : Hp} (e : ExtN H H') : ∀ (d : PyData) (v : V), Dq K H v d → Dq K H' v d
  | .none, _, h => by cases h; exact .non
  | .bool _, _, h => by cases h; exact .bl _
  | .int _, _, h => by cases h; exact .int _
  | .str _, _, h => by cases h; exact .str _
  | .list ds, _, h => by
    cases h with
    | lst a b c => exact .lst (ext_L e a) b (Dq.extAll e ds _ c)
  | .tuple ds, _, h => by
    cases h with
    | tup a c => exact .tup (ext_T e a) (Dq.extAll e ds _ c)
  | .dict _, _, h => by
    cases h with
    | emp h => exact .emp (e _ _ h fun _ z => nomatch z)
theorem Dq.extAll {K : PySem.W.Frag} {H H' : Hp} (e : ExtN H H') : ∀ (ds : List PyData) (vs : List V), DqAll K H vs ds → DqAll K H' vs ds
  | [], _, h => by cases h; exact .nil
  | d :: ds, _, h => by
    cases h with
    | cons a b => exact .cons (Dq.ext e d _ a) (Dq.extAll e ds _ b)
end
theorem FactsAt.ext {K : PySem.W.Frag} {C : Addr} {H H' : Hp} {a : Addr} {fs : Fs} (e : ExtN H H') (h : FactsAt K C H a fs) : FactsAt K C H' a fs := by
  obtain ⟨dx, pa, na, va, sa, ps, ss, h1, h2, h3, h4, h5, h6, h7⟩ := h
  exact ⟨dx, pa, na, va, sa, ps, ss, e _ _ h1 (fun _ z => nomatch z), ext_T e h2, Dq.extAll e _ _ h3, ext_T e h4, e _ _ h5 (fun _ z => nomatch z), ext_T e h6, Dq.extAll e _ _ h7⟩
theorem ext_same {H H' : Hp} (s : Same H H') : ExtN H H' := ExtN.of s
/-- the things that are looked up -/
def things12 : List PyData := [.str "a", .str "a.f", .str "b.f", .str "", .str "B", .str "q", .none, .int 1, .bool true, .tuple [.str "a"], .list [.str "a"], .dict []]
theorem things12_show : ∀ d ∈ things12, ((PyData.list [.str "name", d]).showable && decide ((PyData.list [.str "name", d]).shown.length ≤ 1000) && decide ((PyData.list [.str "name", d]).depth ≤ 40)) = true := by decide +kernel
theorem thing_shows {d : PyData} (h : d ∈ things12) : Shows (.list [.str "name", d]) := by
  have := things12_show d h
  simp only [Bool.and_eq_true, decide_eq_true_eq] at this
  obtain ⟨⟨a, b⟩, c⟩ := this
  exact ⟨a, by rw [sizeLine_eq]; omega, c, fun i e => nomatch e⟩
end Vx
namespace Vx
open PySem PySem.Spec PyProof.Rows L2 LamX
mutual
def noL : PyData → Bool
  | .list _ => false
  | .dict _ => false
  | .tuple ds => noLAll ds
  | _ => true
def noLAll : List PyData → Bool
  | [] => true
  | d :: ds => noL d && noLAll ds
end
mutual
theorem Dq.keepT {K : PySem.W.Frag} {H H' : Hp} (e : KeepT H H') : ∀ (d : PyData) (v : V), noL d = true → Dq K H v d → Dq K H' v d
  | .none, _, _, h => by cases h; exact .non
  | .bool _, _, _, h => by cases h; exact .bl _
  | .int _, _, _, h => by cases h; exact .int _
  | .str _, _, _, h => by cases h; exact .str _
  | .list _, _, c, _ => by simp [noL] at c
  | .tuple ds, _, c, h => by
    cases h with
    | tup a b => exact .tup (e.seq a) (Dq.keepTAll e ds _ (by simpa [noL] using c) b)
  | .dict _, _, c, _ => by simp [noL] at c
theorem Dq.keepTAll {K : PySem.W.Frag} {H H' : Hp} (e : KeepT H H') : ∀ (ds : List PyData) (vs : List V), noLAll ds = true → DqAll K H vs ds → DqAll K H' vs ds
  | [], _, _, h => by cases h; exact .nil
  | d :: ds, _, c, h => by
    cases h with
    | cons a b =>
      rw [noLAll, Bool.and_eq_true] at c
      exact .cons (Dq.keepT e d _ c.1 a) (Dq.keepTAll e ds _ c.2 b)
end
theorem noL_all : ∀ {ds : List PyData}, (∀ d ∈ ds, noL d = true) → noLAll ds = true
  | [], _ => rfl
  | d :: ds, h => by
    rw [noLAll, h d List.mem_cons_self, noL_all fun e he => h e (List.mem_cons_of_mem _ he)]
    rfl
theorem noL_flat {d : PyData} (h : isFlat d = true) : noL d = true := by
  cases d <;> first | rfl | cases h
/-- facts stay when a list changes -/
theorem FactsAt.list {K : PySem.W.Frag} {C : Addr} {H H' : Hp} {a l : Addr} {ys : List V} {fs : Fs} (g : Flats fs) (hl : H l = some (.lst ys)) (s : ∀ b o, b ≠ l → H b = some o → H' b = some o) (h : FactsAt K C H a fs) : FactsAt K C H' a fs := by
  obtain ⟨dx, pa, na, va, sa, ps, ss, h1, h2, h3, h4, h5, h6, h7⟩ := h
  have k := KeepT.of_list hl s
  refine ⟨dx, pa, na, va, sa, ps, ss, s _ _ (ne_of h1 hl fun z => nomatch z) h1, k.seq h2, pairs_keep k g h3, k.seq h4, s _ _ (ne_of h5 hl fun z => nomatch z) h5, k.seq h6, Dq.keepTAll k _ _ (noL_all fun d hd => ?_) h7⟩
  obtain ⟨f, hf, rfl⟩ := List.mem_map.mp hd
  simp [sortD, noL, noLAll, noL_flat (g f hf)]
theorem cut_map {α : Type} (f : α → V) (xs : List α) (lo hi : Option Int) : ∃ ys : List α, cutV (xs.map f) lo hi = ys.map f := by
  unfold cutV
  exact ⟨(xs.drop (HT.sIx (xs.map f).length 0 lo)).take (HT.sIx (xs.map f).length (xs.map f).length hi - HT.sIx (xs.map f).length 0 lo), by rw [List.map_take, List.map_drop]⟩
end Vx
namespace Vx
open PySem PySem.Spec PyProof.Rows L2
/-- a def whose code object stands at c -/
structure FunL (K : PySem.W.Frag) (x qual : Str) (st : Stmt) (f : Addr) (fd : FuncData) (c : Addr) : Prop where
  ex : ∃ (oc : Value) (od : Option Addr) (kV doc pm : Value) (an : Option Addr) (ct : Value) (osl : Array (Option Value)),
    fd = PySem.W.fnOf x qual (defArgs st) (defBody st) (defScope st) .none kV doc pm an (.ref c) ct ∧ K.lookup f = some ⟨oc, od, .func fd, osl⟩ ∧ PySem.W.codeIn K (.ref c) qual = true
  kp : PySem.W.keepIn K (.ref f) = true
theorem fun_okGL {P : Program} {w : World} {K : PySem.W.Frag} {mg : Str → Option Value} {base : Heap} {x qual : Str} {st : Stmt} {f c : Addr} {fd : FuncData} {N ps : List Str} {k : Nat} {sp : Sp} (F : FunL K x qual st f fd c) (S : FnScope N ps (defScope st)) (len : ∀ vs H Q E, sp vs H Q E → vs.length = ps.length)
    (hbody : ∀ (A : Around) (outer : List Env) (s : Shared) (H : Hp) (vs : List V) (Q : VK), A.guards = some [] → Room k (A.deeper (envOfC qual (defScope st) s.heap.objs.size f (.ref c))) → sp vs H Q L2.E0 →
      ∃ t, PSs (cxOf L2.CX0 P w K mg base N qual (defScope st) f (.ref c) A outer s H L2.E0).nox (defBody st) t ∧ t { nx := fun _ H' => Q .non H', rt := Q } (start N vs) H) : FnG P w K mg base (k + 1) f fd ps sp := by
  obtain ⟨oc, od, kV, doc, pm, an, ct, osl, rfl, lk, hcd⟩ := F.ex
  refine ⟨len, fun A outer s H args us vs Q hg hr e0 hb r hsp => LamX.run_ofS lk hcd S hr e0 hb r (len _ _ _ _ hsp) fun hr2 => ?_⟩
  obtain ⟨t, ht, hq⟩ := hbody A outer s H vs Q hg hr2 hsp
  exact ⟨t, ht.nox, hq⟩
end Vx
namespace Kx
open PySem PySem.Spec L2 Vx
abbrev sObj : Stmt := top 18
abbrev nObj : List Str := ["pot", "pairs", "made", "own", "name", "is_held", "some"]
structure TxtO (K : PySem.W.Frag) (mg : Str → Option Value) : Prop extends TxtG K mg where
  dict : mg "dict" = none
  repr : mg "repr" = none
theorem scObj : FnScope nObj ["pot", "pairs"] (defScope sObj) := ⟨rfl, rfl, rfl, by decide +kernel, rfl, by decide +kernel, by decide +kernel⟩
section
variable {P : Program} {w : World} {K : PySem.W.Frag} {mg : Str → Option Value} {base : Heap}
/-- what is known of the class of facts and of its defs -/
structure Kit (P : Program) (w : World) (K : PySem.W.Frag) (mg : Str → Option Value) (base : Heap) (C CB CN CU : Addr) : Prop where
  gC : mg "Facts" = some (.ref C)
  c : FactsC K C
  ct : FactsT K C
  init : ∃ f fd, Mk K C f ∧ FnOk P w K mg base (L2.CX P w) 3 f fd ["self", "pairs"] (spInit K C CB) ∧ Binds K fd ["self", "pairs"] []
  len : ∃ f fd, OwnOp K C "__len__" f ∧ FnOk P w K mg base CX0 1 f fd ["self"] (spLen K C) ∧ Binds K fd ["self"] []
  has : ∃ f fd, OwnOp K C "__contains__" f ∧ FnOk P w K mg base CX0 1 f fd ["self", "name"] (spHas K C) ∧ Binds K fd ["self", "name"] []
  get : ∃ f fd, OwnOp K C "__getitem__" f ∧ PySem.W.fnIn K f = true ∧ FnOk P w K mg base (L2.CX P w) 3 f fd ["self", "name"] (spGet K C CN) ∧ Binds K fd ["self", "name"] []
  only : ∃ f fd, Meth K C "only" f ∧ FnOk P w K mg base CX0 5 f fd ["self", "names"] (spOnly K C) ∧ Binds K fd ["self", "names"] []
theorem paired_same {H H' : Hp} (s : Same H H') : ∀ {pas : List Addr} {kvs : List (Key × V)}, Paired (fun p kv => SqT K H p [kV kv.1, kv.2]) pas kvs → Paired (fun p kv => SqT K H' p [kV kv.1, kv.2]) pas kvs
  | _, _, .nil => .nil
  | _, _, .cons a b => .cons (same_T s a) (paired_same s b)
theorem dq_strs {H : Hp} : ∀ fs : Fs, DqAll K H (fs.map fun f => V.str f.1) (fs.map fun f => .str f.1)
  | [] => .nil
  | _ :: fs => .cons (.str _) (dq_strs fs)
theorem made_factsR {C CB : Addr} {H1 : Hp} {R : Addr → Hp → Prop} {fs : Fs} {v : V} (g : GoodF fs) (hv : Dq K H1 v (.tuple (fs.map pairD))) (q : ∀ a H', Same H1 H' → FactsAt K C H' a (srt fs) → R a H') {E : XK} :
    ∀ x dx, H1 x = none → H1 dx = none → dx ≠ x → spInit K C CB (.ref x :: ([v] ++ [])) (upd (upd H1 dx (.own x)) x (.ins C dx [])) (fun u H2 => u = .non ∧ R x H2) E := fun x dx hx hd ne =>
  made_facts (Q := fun v H' => ∃ a, v = .ref a ∧ R a H') g hv (fun a H' s f => ⟨a, rfl, q a H' s f⟩) x dx hx hd ne |> fun h => by
    obtain ⟨x', dx', v', d, e, h1, h2, h3, h4, h5⟩ := h
    refine ⟨x', dx', v', d, e, h1, h2, h3, fun a H' ch f => ?_, h5⟩
    obtain ⟨e1, a', e2, r⟩ := h4 a H' ch f
    cases e2
    exact ⟨e1, r⟩
abbrev lamScO : Scope := ⟨.function, [("made", .free), ("name", .free)], false, false, []⟩
def tGetL (K : PySem.W.Frag) (C CN : Addr) : XK → TE := fun E => tOp (rGetO C (spGet K C CN) E) (tVar 2) (tVar 4)
theorem obj_reads {Q : VK} {l p : Addr} {ps : List V} {fs : Fs} {a b c : Int} {n : Nat} {f fT fC cO PO_ C CB CN CU CA : Addr} {fd fdT fdC : FuncData} {TT : List (Addr × Str)} {A : Around} {outer : List Env} {s : Shared} {H : Hp}
    (T : TxtO K mg) (Z : Kit P w K mg base C CB CN CU) (hG : A.guards = some []) (hr : Room 9 (A.deeper (PyProof.Rows.envOfC "_law_object_right" (defScope sObj) s.heap.objs.size f (.ref cO))))
    (GT : FnOk P w K mg base CX0 1 fT fdT ["pot", "upto"] spTake) (gT : mg "_law_take" = some (.ref fT)) (kT : PySem.W.keepIn K (.ref fT) = true) (bT : Binds K fdT ["pot", "upto"] [])
    (FC : Fun K "_law_caught" "_law_caught" sCaught fC fdC) (gC' : mg "_law_caught" = some (.ref fC)) (bC : L2.Binds K fdC ["ask"] []) (TC : TxtC mg CA CB CN CU)
    (TB : LamX.TabB base mg cO PO_) (hmT : (PO_, (PyProof.Rows.envOfC "_law_object_right" (defScope sObj) s.heap.objs.size f (.ref cO)).qual ++ "<lambda>") ∈ TT) (eC : TxtC mg CA CB CN CU) (eN : ErrT K CA CB CN CU CN false true false) (hT : LamX.Tabs TT H) (hl : H l = some (pot a b c)) (hp : PotI a b c n) (hn : n + 10 ≤ 1000000) (hpt : Tup0 H p ps) (hdq : DqAll K H ps (fs.map pairD)) (sm : SmallF fs)
    (k : ∀ (a' b' c' : Int) (H' : Hp), (∀ x o, x ≠ l → H x = some o → (∀ ts, o ≠ .tbl ts) → H' x = some o) → H' l = some (pot a' b' c') → PotI a' b' c' (n + 1) → LamX.Tabs TT H' → Q (.bl true) H') (huT : ∀ p ∈ TT, p.1 = PO_ → p.2 = (PyProof.Rows.envOfC "_law_object_right" (defScope sObj) s.heap.objs.size f (.ref cO)).qual ++ "<lambda>") :
    ∃ t, PSs (cxOf L2.CX0 P w K mg base nObj "_law_object_right" (defScope sObj) f (.ref cO) A outer s H L2.E0).nox (defBody sObj) t ∧ t { nx := fun _ H' => Q .non H', rt := Q } (L2.start nObj [.ref l, .ref p]) H := by
  obtain ⟨fI, fdI, M, GI, bI⟩ := Z.init
  obtain ⟨fL, fdL, oL, GL, bL⟩ := Z.len
  obtain ⟨fH, fdH, oH, GH, bH⟩ := Z.has
  obtain ⟨fG, fdG, oG, nG, GG, bG⟩ := Z.get
  obtain ⟨fO, fdO, mO, GO, bO⟩ := Z.only
  obtain ⟨oc, od, kV, doc, pm, an, cdv, ct, osl, rfl, lkC, hcC⟩ := FC.ex
  have gC := Z.gC
  have hG2 : (cxOf L2.CX0 P w K mg base nObj "_law_object_right" (defScope sObj) f (.ref cO) A outer s H L2.E0).nox.A.guards = some [] := hG
  have hu1 : (cxOf L2.CX0 P w K mg base nObj "_law_object_right" (defScope sObj) f (.ref cO) A outer s H L2.E0).nox.A.units + 1 < cLine := by
    have := hr.units
    show (A.deeper _).units + 1 < _
    omega
  have hu3 : (cxOf L2.CX0 P w K mg base nObj "_law_object_right" (defScope sObj) f (.ref cO) A outer s H L2.E0).nox.A.units + 300 < cLine := by
    have := hr.un
    show (A.deeper _).units + 300 < _
    omega
  have hr0 : Room 0 (cxOf L2.CX0 P w K mg base nObj "_law_object_right" (defScope sObj) f (.ref cO) A outer s H L2.E0).nox.A := hr.mono (by decide)
  refine ⟨_, pss_cons (ps_asg (pe_tup (pa_cons (pe_make M GI (hr.mono (by decide)) rfl gC bI .nil passL (pa_cons (pv 1) pa_nil)) (pa_cons (pe_callTy (call_dictT rfl) (by rfl) T.dict (by decide +kernel) (pa_cons (pv 1) pa_nil)) pa_nil)))
      (pg_tup rfl (pgs_cons (pg_name (i := 2) scObj.nd rfl (Or.inr rfl)) (pgs_cons (pg_name (i := 3) scObj.nd rfl (Or.inr rfl)) pgs_nil))))
    (pss_cons (ps_if (pt_cmpR op_ne (pe_callB (call_reprA hr0 hG2) (by rfl) T.repr (by decide +kernel) (pa_cons (pe_lstB (pa_cons (pe_fld (pv 2) (by rfl)) (pa_cons (pe_callB (call_lenO oL GL (hr.mono (by decide)) bL pass0) (by rfl) T.len PySem.boot_len (pa_cons (pv 2) pa_nil)) pa_nil))) pa_nil))
        (pe_callB (call_reprA hr0 hG2) (by rfl) T.repr (by decide +kernel) (pa_cons (pe_lstB (pa_cons (pe_callTy call_tuple_of (by rfl) T.tup (by decide +kernel) (pa_cons (pe_callB (call_sortedD rfl) (by rfl) T.sorted (by decide +kernel) (pa_cons (pv 3) pa_nil)) pa_nil))
          (pa_cons (pe_callB call_lenK (by rfl) T.len PySem.boot_len (pa_cons (pv 3) pa_nil)) pa_nil))) pa_nil)) (nomark _)) (pss_one (ps_ret pe_bl)) pss_nil)
    (pss_cons (ps_if (pt_cmpR op_ne (pe_callB (call_reprA hr0 hG2) (by rfl) T.repr (by decide +kernel) (pa_cons (pe_fld (pv 2) (by rfl)) pa_nil))
        (pe_callB (call_reprA hr0 hG2) (by rfl) T.repr (by decide +kernel) (pa_cons (pe_callTy call_tuple_of (by rfl) T.tup (by decide +kernel) (pa_cons
          (pe_lc (own := [("name", 4)]) (g := gName 4) (tt := tYes) (te := tTup (tCons (tVar 4) (tCons (tDGet (tVar 3) (tVar 4)) tNil))) rfl scObj.nd (pi_list (pe_callB (call_sortedD rfl) (by rfl) T.sorted (by decide +kernel) (pa_cons (pv 3) pa_nil))) (blkOk_by (N := nObj) (sc := defScope sObj) (by decide +kernel)) (fun _ _ _ _ _ => pg_name (i := 4) scObj.nd rfl (Or.inl rfl)) (fun _ _ _ _ _ => pts_nil)
            (fun _ _ _ _ _ => pe_tup (pa_cons (pv 4) (pa_cons (pe_dget hu1 (pv 3) (pv 4) (fun _ _ => rfl)) pa_nil)))) pa_nil)) pa_nil)) (nomark _)) (pss_one (ps_ret pe_bl)) pss_nil)
    (pss_cons (ps_for PassesOwn.never rfl (pi_list (pe_lst (pa_cons pe_str (pa_cons pe_str (pa_cons pe_str (pa_cons pe_str (pa_cons pe_str (pa_cons pe_str (pa_cons pe_non (pa_cons pe_int (pa_cons pe_bl (pa_cons (pe_tup (pa_cons pe_str pa_nil)) (pa_cons (pe_lstB (pa_cons pe_str pa_nil)) (pa_cons pe_dnewK pa_nil)))))))))))))) (pg_name (i := 4) scObj.nd rfl (Or.inr rfl))
      (pss_cons (ps_set (i := 5) scObj.nd rfl (Or.inl rfl) (pe_and (pe_callB call_isi (by rfl) T.isi (by decide +kernel) (pa_cons (pv 4) (pa_cons (pe_ty "str" (by rfl) T.str) pa_nil))) (pe_one (pe_cmp (pc_din hu1 (pv 4) (pv 3))))))
      (pss_cons (ps_if (pt_cmpR op_ne (pe_cmpR (op_inO oH GH (hr.mono (by decide)) bH pass0) (pv 4) (pv 2) rfl) (pv 5) (nomark _)) (pss_one (ps_ret pe_bl)) pss_nil)
      (pss_cons (ps_if (PW.pt (pw_and (pt_val (pv 5)) (pw_and1 (pt_cmpR op_ne (pe_callB (call_reprA hr0 hG2) (by rfl) T.repr (by decide +kernel) (pa_cons (pe_getO oG nG GG (hr.mono (by decide)) bG passL (pv 2) (pv 4)) pa_nil)) (pe_callB (call_reprA hr0 hG2) (by rfl) T.repr (by decide +kernel) (pa_cons (pe_dget hu1 (pv 3) (pv 4) (fun _ _ => rfl)) pa_nil)) (nomark _))))) (pss_one (ps_ret pe_bl)) pss_nil)
      (pss_one (ps_if (PW.pt (pw_and (pt_not (pt_val (pv 5))) (pw_and1 (pt_cmpR op_ne (pe_callB (call_reprA hr0 hG2) (by rfl) T.repr (by decide +kernel) (pa_cons
          (LamX.pe_lamcall (T := TT) (TT := TTc K CA CB CN CU) (t := tGetL K C CN) (k := 4) rfl gC' FC.kp lkC hcC bC scCaught rfl (Or.inl rfl) (caught_gives TC hu3) TB rfl hmT huT (hr.mono (by decide)) (LamX.lamS_by (show LamX.lamSB (defScope sObj) lamScO = true from by decide +kernel)) rfl (fun _ _ _ _ _ => rfl)
            (fun A outer s H E f c' hr2 => pe_getO oG nG GG hr2 bG (passes_call (takes_of rfl rfl rfl rfl) (fun _ _ _ _ h => h)) (pe_var (i := 2) rfl (Or.inr (Or.inr rfl))) (pe_var (i := 4) rfl (Or.inr (Or.inr rfl))))) pa_nil))
        (pe_callB (call_reprA hr0 hG2) (by rfl) T.repr (by decide +kernel) (pa_cons (pe_lstB (pa_cons pe_str (pa_cons (pv 4) pa_nil))) pa_nil)) (nomark _))))) (pss_one (ps_ret pe_bl)) pss_nil))))))
    (pss_cons (ps_set (i := 6) scObj.nd rfl (Or.inr rfl) (pe_callTy call_tuple_of (by rfl) T.tup (by decide +kernel) (pa_cons (pe_slice sl_list (pe_lst (pa_cons pe_str (pa_cons pe_str (pa_cons pe_str (pa_cons pe_str (pa_cons pe_str pa_nil)))))) (po_some (pe_call GT (hr.mono (by decide)) rfl gT kT bT .nil pass0 (pa_cons (pv 0) (pa_cons pe_int pa_nil)))) po_none) pa_nil)))
    (pss_one (ps_ret (pe_cmpR op_eq (pe_callB (call_reprA hr0 hG2) (by rfl) T.repr (by decide +kernel) (pa_cons (pe_fld (pe_meth (pv 2) Z.c.cls mO GO (hr.mono (by decide)) bO .nil pass0 (pa_cons (pv 6) pa_nil)) (by rfl)) pa_nil))
      (pe_callB (call_reprA hr0 hG2) (by rfl) T.repr (by decide +kernel) (pa_cons (pe_callTy call_tuple_of (by rfl) T.tup (by decide +kernel) (pa_cons
          (pe_lc (own := [("name", 4)]) (g := gName 4) (tt := tTest (tOp (rIn K false) (tVar 4) (tVar 6))) (te := tTup (tCons (tVar 4) (tCons (tDGet (tVar 3) (tVar 4)) tNil))) rfl scObj.nd (pi_list (pe_callB (call_sortedD rfl) (by rfl) T.sorted (by decide +kernel) (pa_cons (pv 3) pa_nil))) (blkOk_by (N := nObj) (sc := defScope sObj) (by decide +kernel)) (fun _ _ _ _ _ => pg_name (i := 4) scObj.nd rfl (Or.inl rfl))
            (fun _ _ _ _ _ => pts_one (pt_cmpR (r := rIn K false) op_in_seq (pv 4) (pv 6) rfl))
            (fun _ _ _ _ _ => pe_tup (pa_cons (pv 4) (pa_cons (pe_dget hu1 (pv 3) (pv 4) (fun _ _ => rfl)) pa_nil)))) pa_nil)) pa_nil)) (nomark _)))))))), ?_⟩
  have gd := sm.good
  have gs := gd.srt
  have sms : SmallF (srt fs) := sm.perm (srt_perm fs)
  have flen : (srt fs).length = fs.length := srt_length fs
  have l7 := sm.len
  have hv : Dq K H (.ref p) (.tuple (fs.map pairD)) := .tup hpt.seq hdq
  obtain ⟨pas, rfl, hpp⟩ := dq_paired hdq gd.flat
  refine ⟨_, rfl, made_factsR gd hv fun x H1 s1 hf => ⟨_, rfl, p, pas, dictF fs, rfl, hpt.same s1, ?_, fun q hq => ⟨by show 2 ≤ sizeLine; decide, fun t ht => ⟨t, _, rfl, SqT.of upd_same, rfl, _, _, rfl, _, _, rfl, rfl, ?_⟩⟩⟩⟩
  · exact paired_same s1 hpp
  · rw [merge_facts sm.nodup] at ht
    rw [merge_facts sm.nodup]
    have sX : Same H (upd (upd H1 q (.dK (dictF fs))) t (.tup [.ref x, .ref q])) := s1.trans ((same_new hq).trans (same_new ht))
    have fX : FactsAt K C (upd (upd H1 q (.dK (dictF fs))) t (.tup [.ref x, .ref q])) x (srt fs) := hf.same ((same_new hq).trans (same_new ht))
    have dX : (upd (upd H1 q (.dK (dictF fs))) t (.tup [.ref x, .ref q])) q = some (.dK (dictF fs)) := same_new ht _ _ upd_same
    generalize (upd (upd H1 q (.dK (dictF fs))) t (.tup [.ref x, .ref q])) = HX at sX fX dX ⊢
    have klen : (fs.map (·.1)).length < 64 := by rw [List.length_map]; omega
    -- repr([made.names, len(made)]) != repr([tuple(sorted(own)), len(own)])
    obtain ⟨dx, pa, na, va, sa, qs, ss, h1, h2, h3, h4, h5, h6, h7⟩ := id fX
    refine ⟨_, rfl, x, C, dx, _, _, rfl, h1, Z.c.cls, Z.c.names, rfl, _, rfl, x, dx, _, rfl, h1, x, srt fs, rfl, fX, _, rfl, by omega, by omega, by show 2 ≤ sizeLine; decide, fun r1 hr1 hy1 => ?_⟩
    refine ⟨_, namesN (srt fs), rfl, .lst (SqL.of upd_same) hy1 (.cons (.tup (same_T (same_new hr1) h4) (dq_strs _)) (.cons (.int _) .nil)), sms.names_show.showable, sms.names_show.len, sms.names_show.depth, sms.names_show.int, ?_⟩
    have sR1 := same_new (o := .lst [V.ref na, V.int ((srt fs).length : Nat)]) hr1
    generalize (upd HX r1 (.lst [V.ref na, V.int ((srt fs).length : Nat)])) = HR1 at sR1 ⊢
    refine ⟨_, rfl, q, dictF fs, fs.map (·.1), rfl, .inl (sR1 _ _ dX), dictF_keys fs, klen, fun ys p1 hpm hso hp1 => ⟨p1, _, rfl, .inl ⟨SqL.of upd_same, fun t1 ht1 => ?_⟩⟩⟩
    have eys := sorted_names hpm hso
    subst eys
    have sR2 : Same HR1 (upd (upd HR1 p1 (.lst (((srt fs).map (·.1)).map V.str))) t1 (.tup (((srt fs).map (·.1)).map V.str))) := (same_new hp1).trans (same_new ht1)
    have tR2 : SqT K (upd (upd HR1 p1 (.lst (((srt fs).map (·.1)).map V.str))) t1 (.tup (((srt fs).map (·.1)).map V.str))) t1 ((srt fs).map fun f => V.str f.1) := SqT.of (by rw [upd_same, List.map_map]; rfl)
    generalize (upd (upd HR1 p1 (.lst (((srt fs).map (·.1)).map V.str))) t1 (.tup (((srt fs).map (·.1)).map V.str))) = HR2 at sR2 tR2 ⊢
    have dlen : (dictF fs).length = (srt fs).length := by unfold dictF; rw [List.length_map, flen]
    refine ⟨_, rfl, q, _, rfl, .inl ((sR1.trans sR2) _ _ dX), by show 2 ≤ sizeLine; decide, fun r2 hr2 hy2 => ?_⟩
    rw [dlen]
    refine ⟨_, namesN (srt fs), rfl, .lst (SqL.of upd_same) hy2 (.cons (.tup (same_T (same_new hr2) tR2) (dq_strs _)) (.cons (.int _) .nil)), sms.names_show.showable, sms.names_show.len, sms.names_show.depth, sms.names_show.int, rfl, _, rfl, ?_⟩
    refine ite2 (fun z => absurd z (by simp)) (fun _ => ?_)
    have sR3 := sR1.trans (sR2.trans (same_new (o := .lst [V.ref t1, V.int ((srt fs).length : Nat)]) hr2))
    generalize (upd HR2 r2 (.lst [V.ref t1, V.int ((srt fs).length : Nat)])) = HY at sR3 ⊢
    have sY := sX.trans sR3
    have fY := fX.same sR3
    have dY := sR3 _ _ dX
    -- repr(made.pairs) != repr(tuple([..]))
    have nameAt : ∀ {i : Nat} {v : V}, (((srt fs).map (·.1)).map V.str)[i]? = some v → i < (srt fs).length ∧ v = .str ((srt fs).getD i dflt).1 := fun {i v} e => by
      rw [List.map_map, List.getElem?_map] at e
      cases z : (srt fs)[i]? with
      | none => rw [z] at e; cases e
      | some g =>
        rw [z] at e
        have hi := (List.getElem?_eq_some_iff.mp z).1
        refine ⟨hi, ?_⟩
        have e2 : (srt fs).getD i dflt = g := by simp [List.getD, z]
        rw [e2]
        exact (Option.some.inj e).symm
    have ownAt : ∀ {Hx : Hp} {i : Nat}, Hx q = some (.dK (dictF fs)) → i < (srt fs).length → DGet Hx q (.str ((srt fs).getD i dflt).1) (some (vD ((srt fs).getD i dflt).2)) := fun {Hx i} e hi => by
      have e2 : (srt fs).getD i dflt = (srt fs)[i] := by simp [List.getD, List.getElem?_eq_getElem hi]
      have m : (srt fs)[i] ∈ fs := (srt_perm fs).mem_iff.mp (List.getElem_mem hi)
      have z := dget_facts e ((srt fs)[i]).1
      rw [findF_some sm.nodup m] at z
      rw [e2]
      exact z
    have pairAt : ∀ {Hx : Hp} {D p3 : Addr} {i : Nat} {acc : List V}, Hx D = some (.lst acc) → Hx p3 = none → Dq K (hid (upd Hx p3 (.tup [.str ((srt fs).getD i dflt).1, vD ((srt fs).getD i dflt).2])) D) (.ref p3) (pairD ((srt fs).getD i dflt)) := fun {Hx D p3 i acc} eD hn => by
      have np : p3 ≠ D := Ne.symm (ne_of_none eD hn)
      exact .tup (SqT.of (by rw [hid_ne np, upd_same])) (.cons (.str _) (.cons (dq_flat K _ (flats_getD gs.flat i)) .nil))
    have nlen : (((srt fs).map (·.1)).map V.str).length = (srt fs).length := by rw [List.length_map, List.length_map]
    have nlz : (((srt fs).map (·.1)).map V.str).length < sizeLine := by rw [nlen, sizeLine_eq]; omega
    obtain ⟨dx2, pa2, na2, va2, sa2, qs2, ss2, y1, y2, y3, _⟩ := id fY
    refine ⟨_, rfl, x, C, dx2, _, _, rfl, y1, Z.c.cls, Z.c.pairs, rfl, _, .tuple ((srt fs).map pairD), rfl, .tup y2 y3, sms.pairs_show.showable, sms.pairs_show.len, sms.pairs_show.depth, sms.pairs_show.int, ?_⟩
    refine ⟨_, rfl, q, dictF fs, fs.map (·.1), rfl, .inl dY, dictF_keys fs, klen, fun ys p2 hpm hso hp2 => ?_⟩
    have eys := sorted_names hpm hso
    subst eys
    refine ⟨p2, rfl, ⟨_, SqL.of upd_same⟩, fun D hD => lc_dqL (p := fun _ => true) (df := fun i => pairD ((srt fs).getD i dflt)) hD (SqL.of upd_same) nlz (fun i v H' Q' hv s k => k H' (Same.refl _)) (fun i v H' Q' hv _ s eD k => ?_) fun H2 ws s2 e2 d2 => ?_⟩
    · obtain ⟨hi, rfl⟩ := nameAt hv
      obtain ⟨acc, eD⟩ := eD
      exact ⟨_, rfl, _, rfl, _, rfl, q, _, rfl, ownAt (s _ _ (same_new hp2 _ _ dY)) hi, by show 2 ≤ sizeLine; decide, fun p3 hp3 => k _ _ (same_new hp3) (pairAt eD hp3)⟩
    · rw [tookG_list (fun _ => true) pairD dflt (srt fs) _ nlen, List.filter_eq_self.mpr fun _ _ => rfl] at d2
      have sW := (same_new (o := .lst (((srt fs).map (·.1)).map V.str)) hp2).trans s2
      refine ⟨D, ws, rfl, .inl ⟨SqL.of e2, fun t2 ht2 => ?_⟩⟩
      refine ⟨_, .tuple ((srt fs).map pairD), rfl, .tup (SqT.of upd_same) (Dq.sameAll (same_new ht2) _ _ d2), sms.pairs_show.showable, sms.pairs_show.len, sms.pairs_show.depth, sms.pairs_show.int, rfl, _, rfl, ?_⟩
      refine ite2 (fun z => absurd z (by simp)) (fun _ => ?_)
      have sV := sW.trans (same_new (o := .tup ws) ht2)
      generalize (upd H2 t2 (.tup ws)) = HV at sV ⊢
      have sA := sY.trans sV
      have fA := fY.same sV
      have dA := sV _ _ dY
      have tA : LamX.Tabs TT HV := hT.ext sA
      -- for name in [..]
      refine ⟨by show 1 ≤ sizeLine; decide, fun tp htp => ⟨by show 1 ≤ sizeLine; decide, fun lp hlp hly => fun dp hdp => ⟨by show 12 ≤ sizeLine; decide, fun li hli => ⟨li, rfl, ⟨_, SqL.of upd_same⟩, ?_⟩⟩⟩⟩
      have s4a := same_new (o := .tup [.str "a"]) htp
      have s4b := same_new (o := .lst [.str "a"]) hlp
      have s4c := same_new (o := .dK []) hdp
      have s4d := same_new (o := .lst [.str "a", .str "a.f", .str "b.f", .str "", .str "B", .str "q", .non, .int 1, .bl true, .ref tp, .ref lp, .ref dp]) hli
      have qL : SqL K (upd (upd (upd (upd HV tp (.tup [.str "a"])) lp (.lst [.str "a"])) dp (.dK [])) li (.lst [.str "a", .str "a.f", .str "b.f", .str "", .str "B", .str "q", .non, .int 1, .bl true, .ref tp, .ref lp, .ref dp])) li [.str "a", .str "a.f", .str "b.f", .str "", .str "B", .str "q", .non, .int 1, .bl true, .ref tp, .ref lp, .ref dp] := SqL.of upd_same
      have dL : DqAll K (upd (upd (upd (upd HV tp (.tup [.str "a"])) lp (.lst [.str "a"])) dp (.dK [])) li (.lst [.str "a", .str "a.f", .str "b.f", .str "", .str "B", .str "q", .non, .int 1, .bl true, .ref tp, .ref lp, .ref dp])) [.str "a", .str "a.f", .str "b.f", .str "", .str "B", .str "q", .non, .int 1, .bl true, .ref tp, .ref lp, .ref dp] things12 :=
        .cons (.str _) (.cons (.str _) (.cons (.str _) (.cons (.str _) (.cons (.str _) (.cons (.str _) (.cons .non (.cons (.int _) (.cons (.bl _) (.cons (.tup (same_T (s4b.trans (s4c.trans s4d)) (SqT.of upd_same)) (.cons (.str _) .nil)) (.cons (.lst (same_L (s4c.trans s4d) (SqL.of upd_same)) hly (.cons (.str _) .nil)) (.cons (.emp (s4d _ _ upd_same)) .nil)))))))))))
      have sL := s4a.trans (s4b.trans (s4c.trans s4d))
      generalize (upd (upd (upd (upd HV tp (.tup [.str "a"])) lp (.lst [.str "a"])) dp (.dK [])) li (.lst [.str "a", .str "a.f", .str "b.f", .str "", .str "B", .str "q", .non, .int 1, .bl true, .ref tp, .ref lp, .ref dp])) = HL at qL dL sL ⊢
      have hthl : ([.str "a", .str "a.f", .str "b.f", .str "", .str "B", .str "q", .non, .int 1, .bl true, .ref tp, .ref lp, .ref dp] : List V).length = 12 := rfl
      generalize ([.str "a", .str "a.f", .str "b.f", .str "", .str "B", .str "q", .non, .int 1, .bl true, .ref tp, .ref lp, .ref dp] : List V) = vs12 at qL dL hthl ⊢
      refine for_list (xs := vs12) (fun i σ' H' => (∃ o4 o5, σ' = [some (.ref l), some (.ref p), some (.ref x), some (.ref q), o4, o5, none]) ∧ LamX.ExtN HL H' ∧ LamX.Tabs TT H') ⟨⟨_, _, rfl⟩, LamX.ExtN.refl _, tA.ext sL⟩ (fun i σ' H' _ A => ext_L A.2.1 qL) (fun i v σ' H' hvi A => ?_) fun σ' H' A => ?_
      · obtain ⟨⟨o4, o5, rfl⟩, eL, tL⟩ := A
        have hi : i < things12.length := by
          have := (List.getElem?_eq_some_iff.mp hvi).1
          have h12 : things12.length = 12 := rfl
          omega
        have hdv := Dq.ext eL _ _ (dL.at_ hvi .none)
        have hth : things12.getD i .none ∈ things12 := by
          have e : things12.getD i .none = things12[i] := by simp [List.getD, List.getElem?_eq_getElem hi]
          rw [e]
          exact List.getElem_mem hi
        generalize things12.getD i .none = d at hdv hth
        have eAll : LamX.ExtN HV H' := (ext_same sL).trans eL
        have fT' := fA.ext eAll
        have dT' : H' q = some (.dK (dictF fs)) := eAll _ _ dA fun _ z => nomatch z
        obtain ⟨dx3, pa3, na3, va3, sa3, qs3, ss3, z1, _⟩ := id fT'
        have hasP : hasD (srt fs) d = hasD fs d := by
          cases d with
          | str nn =>
            show (findF (srt fs) nn).isSome = (findF fs nn).isSome
            rw [findF_perm sm.nodup (srt_perm fs)]
          | _ => rfl
        refine ⟨_, rfl, v, _, _, _, _, rfl, .ty _, hdv.ty, kit_tyD d "str", _, rfl, ?_⟩
        refine ite2 (fun cs => ?_) (fun cs => ?_)
        · obtain ⟨nn, rfl⟩ := isTy_str cs
          cases hdv
          cases ey : findF fs nn with
          | some y =>
            have g := dget_facts dT' nn
            rw [ey] at g
            have hy := findF_mem ey
            have shy := sm.val_show hy
            have hyf := gd.flat _ hy
            have has1 : hasD (srt fs) (.str nn) = true := by
              rw [hasP]
              show (findF fs nn).isSome = true
              rw [ey]
              rfl
            refine ⟨_, rfl, _, rfl, q, some (vD y), rfl, g, ?_⟩
            refine ⟨_, rfl, _, rfl, x, dx3, _, rfl, z1, x, _, .str nn, srt fs, rfl, fT', .str _, _, rfl, _, rfl, ?_⟩
            rw [has1]
            refine ⟨rfl, _, rfl, ite2 (fun z => nomatch z) (fun _ => ?_)⟩
            refine ⟨_, rfl, true, rfl, ite2 (fun _ => ?_) (fun z => absurd rfl z)⟩
            refine ⟨_, rfl, _, rfl, x, dx3, _, rfl, z1, x, _, .str nn, srt fs, rfl, fT', .str _, fun n2 y2 en ey2 => ?_, fun z => ?_⟩
            · cases en
              rw [findF_perm sm.nodup (srt_perm fs), ey] at ey2
              cases ey2
              refine ⟨_, y, rfl, dq_flat K _ hyf, shy.showable, shy.len, shy.depth, shy.int, ?_⟩
              refine ⟨_, rfl, _, rfl, q, _, rfl, g, _, y, rfl, dq_flat K _ hyf, shy.showable, shy.len, shy.depth, shy.int, rfl, _, rfl, ?_⟩
              refine ite2 (fun z => absurd z (by simp)) (fun _ => ?_)
              refine ⟨_, rfl, true, rfl, ite2 (fun z => nomatch z) (fun _ => ?_)⟩
              refine ite2 (fun z => nomatch z) (fun _ => ?_)
              exact ⟨⟨_, _, rfl⟩, eL, tL⟩
            · rw [has1] at z
              cases z
          | none =>
            have g := dget_facts dT' nn
            rw [ey] at g
            have hns : hasD (srt fs) (.str nn) = false := by
              rw [hasP]
              show (findF fs nn).isSome = false
              rw [ey]
              rfl
            have hdv : Dq K H' (.str nn) (.str nn) := .str _
            refine ⟨_, rfl, _, rfl, q, none, rfl, g, ?_⟩
            refine ⟨_, rfl, _, rfl, x, dx3, _, rfl, z1, x, _, .str nn, srt fs, rfl, fT', .str _, _, rfl, _, rfl, ?_⟩
            rw [hns]
            refine ⟨rfl, _, rfl, ite2 (fun z => nomatch z) (fun _ => ?_)⟩
            generalize V.str nn = v at hdv ⊢
            generalize PyData.str nn = d at hdv hns hth ⊢
            -- the lambda: NoName with the name
            refine ⟨_, rfl, false, rfl, ite2 (fun z => nomatch z) (fun _ => ?_)⟩
            refine ite2 (fun z => nomatch z) (fun _ => ?_)
            refine ⟨_, rfl, false, rfl, ite2 (fun _ => ?_) (fun z => absurd rfl z)⟩
            refine ⟨tL, fun H5 e5 t5 => ⟨_, rfl, _, rfl, x, dx3, _, rfl, e5 _ _ z1 (fun _ z => nomatch z), x, v, d, srt fs, rfl, fT'.ext e5, Dq.ext e5 _ _ hdv, fun nn yy en ey => ?_, fun _ dd H6 s6 hdd0 hdd => ?_⟩⟩
            · subst en
              have z : hasD (srt fs) (.str nn) = true := by
                show (findF (srt fs) nn).isSome = true
                rw [ey]
                rfl
              rw [hns] at z
              cases z
            · refine ⟨"name", dd, v, .inr (.inl ⟨rfl, rfl, eN⟩), rfl, hdd, fun r H7 s7 hr7 hy7 hr7' => ?_⟩
              have sh := thing_shows hth
              have e7 : LamX.ExtN H' H7 := e5.trans (ext_same (s6.trans s7))
              have t7 : LamX.Tabs TT H7 := t5.ext (s6.trans s7)
              have d7 := Dq.ext e7 _ _ hdv
              refine ⟨_, .list [.str "name", d], rfl, .lst (SqL.of hr7') hy7 (.cons (.str _) (.cons d7 .nil)), sh.showable, sh.len, sh.depth, sh.int, ?_⟩
              refine ⟨_, rfl, by show 2 ≤ sizeLine; decide, fun r8 hr8 hy8 => ?_⟩
              have s8 := same_new (o := .lst [.str "name", v]) hr8
              refine ⟨_, .list [.str "name", d], rfl, .lst (SqL.of upd_same) hy8 (.cons (.str _) (.cons (Dq.same s8 _ _ d7) .nil)), sh.showable, sh.len, sh.depth, sh.int, rfl, _, rfl, ?_⟩
              refine ite2 (fun z => absurd z (by simp)) (fun _ => ?_)
              exact ⟨⟨_, _, rfl⟩, eL.trans (e7.trans (ext_same s8)), t7.ext s8⟩
        · have hns : hasD (srt fs) d = false := hasD_not (by simpa using cs)
          refine ⟨_, rfl, _, rfl, x, dx3, _, rfl, z1, x, _, d, srt fs, rfl, fT', hdv, _, rfl, _, rfl, ?_⟩
          rw [hns]
          refine ⟨rfl, _, rfl, ite2 (fun z => nomatch z) (fun _ => ?_)⟩
          -- the lambda: NoName with the name
          refine ⟨_, rfl, false, rfl, ite2 (fun z => nomatch z) (fun _ => ?_)⟩
          refine ite2 (fun z => nomatch z) (fun _ => ?_)
          refine ⟨_, rfl, false, rfl, ite2 (fun _ => ?_) (fun z => absurd rfl z)⟩
          refine ⟨tL, fun H5 e5 t5 => ⟨_, rfl, _, rfl, x, dx3, _, rfl, e5 _ _ z1 (fun _ z => nomatch z), x, v, d, srt fs, rfl, fT'.ext e5, Dq.ext e5 _ _ hdv, fun nn yy en ey => ?_, fun _ dd H6 s6 hdd0 hdd => ?_⟩⟩
          · subst en
            have z : hasD (srt fs) (.str nn) = true := by
              show (findF (srt fs) nn).isSome = true
              rw [ey]
              rfl
            rw [hns] at z
            cases z
          · refine ⟨"name", dd, v, .inr (.inl ⟨rfl, rfl, eN⟩), rfl, hdd, fun r H7 s7 hr7 hy7 hr7' => ?_⟩
            have sh := thing_shows hth
            have e7 : LamX.ExtN H' H7 := e5.trans (ext_same (s6.trans s7))
            have t7 : LamX.Tabs TT H7 := t5.ext (s6.trans s7)
            have d7 := Dq.ext e7 _ _ hdv
            refine ⟨_, .list [.str "name", d], rfl, .lst (SqL.of hr7') hy7 (.cons (.str _) (.cons d7 .nil)), sh.showable, sh.len, sh.depth, sh.int, ?_⟩
            refine ⟨_, rfl, by show 2 ≤ sizeLine; decide, fun r8 hr8 hy8 => ?_⟩
            have s8 := same_new (o := .lst [.str "name", v]) hr8
            refine ⟨_, .list [.str "name", d], rfl, .lst (SqL.of upd_same) hy8 (.cons (.str _) (.cons (Dq.same s8 _ _ d7) .nil)), sh.showable, sh.len, sh.depth, sh.int, rfl, _, rfl, ?_⟩
            refine ite2 (fun z => absurd z (by simp)) (fun _ => ?_)
            exact ⟨⟨_, _, rfl⟩, eL.trans (e7.trans (ext_same s8)), t7.ext s8⟩
      · obtain ⟨⟨o4, o5, rfl⟩, eL, tL⟩ := A
        have eAll : LamX.ExtN HV H' := (ext_same sL).trans eL
        have fT' := fA.ext eAll
        have dT' : H' q = some (.dK (dictF fs)) := eAll _ _ dA fun _ z => nomatch z
        have potT : H' l = some (pot a b c) := eAll _ _ (sA _ _ hl) fun _ z => nomatch z
        -- some = tuple([..][take(pot, 5):])
        refine ⟨by show 5 ≤ sizeLine; decide, fun l5 hl5 => ?_⟩
        have s5 := same_new (o := .lst [.str "a", .str "q", .str "B", .str "a", .str "z z"]) hl5
        have q5 : SqL K (upd H' l5 (.lst [.str "a", .str "q", .str "B", .str "a", .str "z z"])) l5 ((["a", "q", "B", "a", "z z"] : List Str).map V.str) := SqL.of upd_same
        have n5 : l5 ≠ l := Ne.symm (ne_of_none potT hl5)
        generalize (upd H' l5 (.lst [.str "a", .str "q", .str "B", .str "a", .str "z z"])) = H5 at s5 q5 ⊢
        refine ⟨_, rfl, l, a, b, c, 5, n, rfl, s5 _ _ potT, hp, by omega, by decide, by decide, fun d a6 b6 c6 H6 d0 d1 ch6 hl6 hp6 => ⟨d, rfl, l5, _, rfl, Chg.seqL ch6 n5 q5, fun p7 hp7 => ?_⟩⟩
        obtain ⟨ns, ens⟩ := cut_map V.str (["a", "q", "B", "a", "z z"] : List Str) (some d) none
        rw [ens]
        refine ⟨p7, _, rfl, .inl ⟨SqL.of upd_same, fun t8 ht8 => ?_⟩⟩
        have s8 := (same_new (o := .lst (ns.map V.str)) hp7).trans (same_new (o := .tup (ns.map V.str)) ht8)
        have q8 : SqT K (upd (upd H6 p7 (.lst (ns.map V.str))) t8 (.tup (ns.map V.str))) t8 (ns.map V.str) := SqT.of upd_same
        generalize (upd (upd H6 p7 (.lst (ns.map V.str))) t8 (.tup (ns.map V.str))) = H8 at s8 q8 ⊢
        have f6 := FactsAt.list gs.flat (s5 _ _ potT) ch6 (fT'.same s5)
        have d6 : H6 q = some (.dK (dictF fs)) := ch6 _ _ (ne_of (s5 _ _ dT') (s5 _ _ potT) fun z => nomatch z) (s5 _ _ dT')
        have f8 := f6.same s8
        have d8 := s8 _ _ d6
        obtain ⟨dx8, pa8, na8, va8, sa8, qs8, ss8, w1, _⟩ := id f8
        let pn : Str × PyData → Bool := fun f => ns.any fun m => decide (m = f.1)
        have smF : SmallF ((srt fs).filter pn) := sms.sub List.filter_sublist
        have eF : srt ((srt fs).filter pn) = (srt fs).filter pn := (srt_uniq (List.Perm.refl _) (List.Pairwise.filter _ (srt_sorted fs)) smF.nodup).symm
        refine ⟨_, rfl, x, dx8, _, rfl, w1, rfl, _, rfl, x, t8, srt fs, ns, rfl, f8, gs, q8, fun a9 H9 s9 f9 => ?_⟩
        have f9' : FactsAt K C H9 a9 ((srt fs).filter pn) := eF ▸ f9
        obtain ⟨dx9, pa9, na9, va9, sa9, qs9, ss9, v1, v2, v3, _⟩ := id f9'
        refine ⟨a9, C, dx9, _, _, rfl, v1, Z.c.cls, Z.c.pairs, rfl, _, .tuple (((srt fs).filter pn).map pairD), rfl, .tup v2 v3, smF.pairs_show.showable, smF.pairs_show.len, smF.pairs_show.depth, smF.pairs_show.int, ?_⟩
        refine ⟨_, rfl, q, dictF fs, fs.map (·.1), rfl, .inl (s9 _ _ d8), dictF_keys fs, klen, fun ys p2 hpm hso hp2 => ?_⟩
        have eys := sorted_names hpm hso
        subst eys
        refine ⟨p2, rfl, ⟨_, SqL.of upd_same⟩, fun D hD => lc_dqL (p := fun i => pn ((srt fs).getD i dflt)) (df := fun i => pairD ((srt fs).getD i dflt)) hD (SqL.of upd_same) nlz (fun i v H' Q' hv s k => ?_) (fun i v H' Q' hv _ s eD k => ?_) fun H2 ws s2 e2 d2 => ?_⟩
        · obtain ⟨hi, rfl⟩ := nameAt hv
          refine ⟨_, rfl, _, rfl, t8, _, rfl, .inr (same_T (s9.trans ((same_new hp2).trans s)) q8), rfl, ?_, _, rfl, ?_⟩
          · rw [List.all_map]
            exact List.all_eq_true.mpr fun _ _ => rfl
          · show Q' (if false = true then _ else _) H'
            rw [if_neg Bool.false_ne_true, inV_strs]
            exact k H' (Same.refl _)
        · obtain ⟨hi, rfl⟩ := nameAt hv
          obtain ⟨acc, eD⟩ := eD
          exact ⟨_, rfl, _, rfl, _, rfl, q, _, rfl, ownAt (s _ _ (same_new hp2 _ _ (s9 _ _ d8))) hi, by show 2 ≤ sizeLine; decide, fun p3 hp3 => k _ _ (same_new hp3) (pairAt eD hp3)⟩
        · rw [tookG_list pn pairD dflt (srt fs) _ nlen] at d2
          refine ⟨D, ws, rfl, .inl ⟨SqL.of e2, fun t2 ht2 => ?_⟩⟩
          refine ⟨_, .tuple (((srt fs).filter pn).map pairD), rfl, .tup (SqT.of upd_same) (Dq.sameAll (same_new ht2) _ _ d2), smF.pairs_show.showable, smF.pairs_show.len, smF.pairs_show.depth, smF.pairs_show.int, rfl, ?_⟩
          have sEnd := s8.trans (s9.trans ((same_new (o := .lst (((srt fs).map (·.1)).map V.str)) hp2).trans (s2.trans (same_new (o := .tup ws) ht2))))
          have tru : decide (V.str (PyData.tuple (((srt fs).filter pn).map pairD)).shown = V.str (PyData.tuple (((srt fs).filter pn).map pairD)).shown) = true := by simp
          rw [tru]
          refine k a6 b6 c6 _ (fun y o ny ey nt => sEnd _ _ (ch6 y o ny (s5 _ _ (eAll _ _ (sA _ _ ey) nt)))) (sEnd _ _ hl6) hp6 fun pq hpq => ?_
          obtain ⟨tps, u1, u2, u3⟩ := (tL.ext s5) pq hpq
          have npq : pq.1 ≠ l := ne_of u1 (s5 _ _ potT) fun z => nomatch z
          refine ⟨tps, sEnd _ _ (ch6 _ _ npq u1), u2, fun ps cv hc => ?_⟩
          obtain ⟨cc, g1, g2⟩ := u3 ps cv hc
          exact ⟨cc, g1, sEnd _ _ (ch6 _ _ (ne_of g2 (s5 _ _ potT) fun z => nomatch z) g2)⟩
end
end Kx
namespace Kx
open PySem PySem.Spec L2 Vx
/-- all but the pot at l and the tables stay -/
def Kept (l : Addr) (H H' : Hp) : Prop := ∀ x o, x ≠ l → H x = some o → (∀ ts, o ≠ .tbl ts) → H' x = some o
/-- the name of a def's lambda -/
def lamN (q : Str) : Str := (PyProof.Rows.envOfC q (defScope sObj) 0 0 .none).qual ++ "<lambda>"
def spObj (K : PySem.W.Frag) (TT : List (Addr × Str)) : Sp := fun vs H Q _ => ∃ (l p : Addr) (ps : List V) (fs : Fs) (a b c : Int) (n : Nat), vs = [.ref l, .ref p] ∧ H l = some (pot a b c) ∧ PotI a b c n ∧ n + 10 ≤ 1000000 ∧ Tup0 H p ps ∧ DqAll K H ps (fs.map pairD) ∧ SmallF fs ∧ LamX.Tabs TT H ∧
  ∀ (a' b' c' : Int) (H' : Hp), Kept l H H' → H' l = some (pot a' b' c') → PotI a' b' c' (n + 1) → LamX.Tabs TT H' → Q (.bl true) H'
section
variable {P : Program} {w : World} {K : PySem.W.Frag} {mg : Str → Option Value} {base : Heap}
theorem ok_obj {f fT fC cO PO_ C CB CN CU CA : Addr} {fd fdT fdC : FuncData} {TT : List (Addr × Str)} (F : FunL K "_law_object_right" "_law_object_right" sObj f fd cO)
    (T : TxtO K mg) (Z : Kit P w K mg base C CB CN CU)
    (GT : FnOk P w K mg base CX0 1 fT fdT ["pot", "upto"] spTake) (gT : mg "_law_take" = some (.ref fT)) (kT : PySem.W.keepIn K (.ref fT) = true) (bT : Binds K fdT ["pot", "upto"] [])
    (FC : Fun K "_law_caught" "_law_caught" sCaught fC fdC) (gC' : mg "_law_caught" = some (.ref fC)) (bC : L2.Binds K fdC ["ask"] []) (TC : TxtC mg CA CB CN CU)
    (TB : LamX.TabB base mg cO PO_) (hmT : (PO_, lamN "_law_object_right") ∈ TT) (huT : ∀ p ∈ TT, p.1 = PO_ → p.2 = lamN "_law_object_right") (eN : ErrT K CA CB CN CU CN false true false) :
    FnG P w K mg base 10 f fd ["pot", "pairs"] (spObj K TT) := by
  refine fun_okGL F scObj (fun vs H Q E h => ?_) (fun A outer s H vs Q hg hr h => ?_)
  · obtain ⟨l, p, ps, fs, a, b, c, n, rfl, _⟩ := h
    rfl
  · obtain ⟨l, p, ps, fs, a, b, c, n, rfl, hl, hp, hn, hpt, hdq, sm, hT, k⟩ := h
    exact obj_reads (fd := fd) T Z hg hr GT gT kT bT FC gC' bC TC TB hmT TC eN hT hl hp hn hpt hdq sm (fun a' b' c' H' h1 h2 h3 h4 => k a' b' c' H' h1 h2 h3 h4) huT
end
end Kx
namespace Vx
open PySem PySem.Spec PyProof.Rows L2 PySem.W
section
variable {prog : Program} {w : World} {A : Around} {E : Value → Shared → Prop} {s : Shared} {β : Type} {R : Value → β → Prop} {bs : List β}
/-- sorted(xs, key=f), xs a list or a tuple; f's calls keep all and give alike data -/
theorem sorted_seqKey {l : Addr} {T : String} {o : Obj} {n : Nat} {vs : List Value} {qf : Addr} {Q : Value → Shared → Prop} (k : β → PyData) (hT : T = "list" ∨ T = "tuple") (ho : s.heap.get? l = some o) (hc : o.cls = .type T) (hd : o.data = .seq vs.toArray n) (hz : vs.length ≤ sizeLine)
    (e : EachIs R vs bs) (hal : AllAlike (bs.map k)) (hk : PySem.W.Sortable (bs.map k)) (hu : ∀ x, x ∈ bs → A.units + 2 + (k x).depth < cLine)
    (turn : ∀ (v : Value) (x : β), R v x → x ∈ bs → ∀ (h : Heap) (tk : Nat), (∀ b o, s.heap.get? b = some o → h.get? b = some o) →
      wpAny (model prog w) A.in1.in1 (call (.ref qf) [v]) (KeyPure (k x) { s with heap := h, toks := tk }) (fun _ _ => False) { s with heap := h, toks := tk })
    (hq : ∀ (h' : Heap) (tk : Nat) (d : Addr) (out : List Value) (m : Nat), out.length = bs.length → EachIs R out (bs.mergeSort (dataLe false k)) → (∀ b o, s.heap.get? b = some o → h'.get? b = some o) → s.heap.get? d = none → h'.get? d = some (seqObj "list" out.toArray m) → Q (.ref d) { s with heap := h', toks := tk }) :
    wpAny (model prog w) A (call (.builtin "sorted") [.ref l] [(Str.ofString "key", .ref qf)]) Q E s := by
  refine call_function_entry_kw kind_sorted plain_sorted entry_sorted (ksk_s1 _ _) ?_
  unfold Builtin.«sorted»
  refine wpAny_bind (m := checkCount "sorted" 1 1 _) (wpAny_pure (wpAny_bind (PySem.wpAny_collect_seq l hT ho hc hd (fun h1 k1 => ?_) (by rw [List.size_toArray]; exact hz))))
  have e0 : vs.toArray.toList = vs := by simp
  rw [e0]
  refine wpAny_bind (wpAny_newList ?_ hz)
  have n0 : s.heap.get? h1.objs.size = none := by
    cases e : s.heap.get? h1.objs.size with
    | none => rfl
    | some o => exact absurd (Heap.lt_size (k1 _ _ e)) (Nat.lt_irrefl _)
  have at2 : (h1.push (seqObj "list" vs.toArray 0)).get? h1.objs.size = some (seqObj "list" vs.toArray 0) := Heap.get?_push_size _ rfl
  have k2 : ∀ b o, s.heap.get? b = some o → b ≠ h1.objs.size ∧ (h1.push (seqObj "list" vs.toArray 0)).get? b = some o := fun b o e => ⟨Nat.ne_of_lt (Heap.lt_size (k1 b o e)), Heap.get?_push_of_some _ (k1 b o e)⟩
  show wpAny _ _ _ _ _ { s with heap := h1.push (seqObj "list" vs.toArray 0) }
  have up : ∀ {g : Heap}, KeepsBut h1.objs.size (h1.push (seqObj "list" vs.toArray 0)) g → ∀ b o, s.heap.get? b = some o → g.get? b = some o := fun {g} kp b o e => kp b o (k2 b o e).1 (k2 b o e).2
  refine wpAny_bind (wpAny_holding (list_sort_key_data (A := A.in1) (s := { s with heap := h1.push (seqObj "list" vs.toArray 0) }) (b := false) k at2 e hal hk (by rw [← e.length]; exact hz) (fun x hx => ?_) (ksk_l1 _ _) ?_ (fun v x hR hx h tk kp => turn v x hR hx h tk (up kp)) fun out c h' tk kp hD hl ho => ?_))
  · have := hu x hx
    show A.units + 1 + 1 + (k x).depth < cLine
    omega
  · exact ksk_t1 _ _
  · exact wpAny_pure ⟨_, rfl, hq _ _ _ out c hl ho (up kp) n0 hD⟩
end
end Vx
namespace Vx
open PySem PySem.Spec PyProof.Rows L2 PySem.W
/-- the scope of lambda x: x[0] -/
def scFirst (x : Str) : Scope := ⟨.function, [(x, .local)], false, false, []⟩
section
variable {prog : Program} {w : World} {A : Around} {s : Shared}
/-- (lambda x: x[0])(t), t a tuple whose first item is a text -/
theorem first_call {f c' t : Addr} {q x : Str} {params : Arguments} {cl : List (Str × Addr)} {pm ctv u : Value} {n : Str} {tn : Tok} {k0 : Nat} {p1 p2 p3 : Pos} {E : Value → Shared → Prop}
    (hroom : A.depth < recursionLimit) (of : s.heap.get? f = some (kla_obj "<lambda>" q params (.Subscript (.Name x p1) (.Constant (.int 0) k0 p2) p3) (scFirst x) cl pm c' ctv))
    (code : s.heap.CodeRec (.ref c') q) (lim : s.heap.NoLimit) (ht : IsTup s.heap t #[.str n tn, u])
    (hbind : ∀ v, bindArgs (kla_fn "<lambda>" q params (.Subscript (.Name x p1) (.Constant (.int 0) k0 p2) p3) (scFirst x) cl pm (.ref c') ctv) ⟨[v], []⟩ = pure [(x, v)])
    (hd : (x == ("__debug__" : Str)) = false := by decide) :
    wpAny (model prog w) A (call (.ref f) [.ref t]) (KeyPure (.str n) s) E s := by
  refine wpAny_call (kla_callFunE hroom of rfl rfl rfl rfl code ?_)
  rw [hbind]
  refine wpAny_pure (wpAny_newFunctionEnv (fun y hy => ?_) (fun y hy => ?_) (fun h₁ hns hsb => ⟨lim.fresh _ hsb, ?_⟩) rfl)
  · have : y = (x, NameKind.local) := by simpa [scFirst] using hy
    rw [this]
    exact fun z => nomatch z
  · have : y = (x, Value.ref t) := by simpa using hy
    rw [this]
    show List.lookup x [(x, NameKind.local)] = some .local
    simp [List.lookup]
  · have kp : ∀ b o, s.heap.get? b = some o → h₁.get? b = some o := fun b o e => hsb.extBut b o (Nat.ne_of_lt (Heap.lt_size e)) (Heap.get?_push_of_some _ e)
    have hl : List.lookup x [(x, NameKind.local)] = some .local := by simp [List.lookup]
    have hv : ([(x, Value.ref t)] : List (Str × Value)).reverse.lookup x = some (.ref t) := by simp [List.lookup]
    refine kla_codeExpr (Subscript_ (wpAny_Name (wpAny_loadName_local (v := .ref t) rfl hl hns hv (wpAny_Constant_int ?_)) hd))
    refine subscriptTail_builtinR (x := .str n tn) (T := "tuple") ((ht.keeps kp).typeIs) slot_tuple_getitem.lookup
      (getItem_tuple (j := 0) (Q := fun r s' => r = .str n tn ∧ _) (ht.keeps kp) (by decide) (by decide) rfl rfl ⟨rfl, ?_⟩) (by with_unfolding_all rfl)
    exact ⟨_, _, rfl, kp, Reads.str n tn⟩
end
end Vx
namespace Vx
open PySem PySem.Spec PyProof.Rows L2 PySem.W
theorem sort_by_name {β : Type} (k : β → Str) (bs : List β) : (bs.mergeSort (dataLe false fun b => .str (k b))).Perm bs ∧ SrtO.Srtd (fun x y => ltS (k x) (k y)) (bs.mergeSort (dataLe false fun b => .str (k b))) := by
  refine ⟨List.mergeSort_perm _ _, ?_⟩
  rw [dataLe_str]
  have h := List.pairwise_mergeSort (le := fun a b : β => decide ((k a).cps.toList ≤ (k b).cps.toList)) (fun a b c h1 h2 => by
    have h1' := of_decide_eq_true h1
    have h2' := of_decide_eq_true h2
    exact decide_eq_true (List.le_trans h1' h2')) (fun a b => by
    rw [Bool.or_eq_true, decide_eq_true_eq, decide_eq_true_eq]
    exact List.le_total _ _) bs
  exact List.Pairwise.imp (fun q => decide_eq_false (fun z => (of_decide_eq_true q) z)) h
/-- sorted(xs, key=lambda x: x[0]), xs a list or a tuple of pairs of a text and a flat value, no text twice -/
def tSortFirst (K : PySem.W.Frag) (T : List (Addr × Str)) (te : TE) : TE := fun σ H Q => te σ H fun x H1 => LamX.Tabs T H1 ∧ ∃ (a : Addr) (xs : List V) (ks : List (Str × V)), x = V.ref a ∧ (SqL K H1 a xs ∨ SqT K H1 a xs) ∧ Paired (fun x k => ∃ t, x = V.ref t ∧ SqT K H1 t [.str k.1, k.2] ∧ flatV k.2 = true) xs ks ∧
  ∀ (zs : List (V × (Str × V))) (p : Addr) (H2 : Hp), LamX.ExtN H1 H2 → LamX.Tabs T H2 → zs.Perm (xs.zip ks) → SrtO.Srtd (fun x y : V × (Str × V) => ltS x.2.1 y.2.1) zs → H2 p = none → Q (.ref p) (upd H2 p (.lst (zs.map (·.1))))
/-- one value -/
def one1 (R : V → Hp → Prop) (vs : List V) (H : Hp) : Prop := ∃ x, vs = [x] ∧ R x H
section
variable {X : Cx}
theorem pa_name {y : Str} {py : Pos} {te : TE} (he : PE X (.Name y py) te) : PA X [.Name y py] (fun σ H Q => te σ H fun x H1 => Q [x] H1) := pa_cons he pa_nil
theorem ext_pairs {K : PySem.W.Frag} {H H' : Hp} (e : LamX.ExtN H H') : ∀ {xs : List V} {ks : List (Str × V)}, Paired (fun x k => ∃ t, x = V.ref t ∧ SqT K H t [.str k.1, k.2] ∧ flatV k.2 = true) xs ks → Paired (fun x k => ∃ t, x = V.ref t ∧ SqT K H' t [.str k.1, k.2] ∧ flatV k.2 = true) xs ks
  | _, _, .nil => .nil
  | _, _, .cons ⟨t, a, b, c⟩ r => .cons ⟨t, a, ext_T e b, c⟩ (ext_pairs e r)
theorem each_of {H : Hp} {pins : List (Addr × Obj)} {σ : L2.St} {s : Shared} (I : Inv X pins σ H s) : ∀ {xs : List V} {ks : List (Str × V)} {its : List Value}, Vals xs its → Paired (fun x k => ∃ t, x = V.ref t ∧ SqT X.K H t [.str k.1, k.2] ∧ flatV k.2 = true) xs ks →
    EachIs (fun (v : Value) (b : V × (Str × V)) => ∃ t tn u, v = .ref t ∧ b.1 = .ref t ∧ IsTup s.heap t #[.str b.2.1 tn, u]) its (xs.zip ks)
  | _, _, _, .nil, .nil => .nil
  | _, _, _, .cons r rs, .cons ⟨t, ex, ht, _⟩ ps => by
    subst ex
    cases r
    obtain ⟨its2, r2, hit, _⟩ := I.tuple ht
    obtain ⟨u1, u2, rfl, ⟨tn, rfl⟩, _⟩ := vals2 r2
    exact .cons ⟨t, tn, u2, rfl, rfl, hit⟩ (each_of I rs ps)
theorem vals_each {h : Heap} : ∀ {out : List Value} {zs : List (V × (Str × V))}, EachIs (fun (v : Value) (b : V × (Str × V)) => ∃ t tn u, v = .ref t ∧ b.1 = .ref t ∧ IsTup h t #[.str b.2.1 tn, u]) out zs → Vals (zs.map (·.1)) out
  | _, _, .nil => .nil
  | _, _, .cons ⟨t, tn, u, ev, eb, _⟩ r => by
    rw [List.map_cons, eb, ev]
    exact .cons rfl (vals_each r)
theorem pe_sortFirst {T : List (Addr × Str)} {c P : Addr} {y : Str} {py : Pos} {te : TE} {x : Str} {params : Arguments} {k0 : Nat} {p p1 p2 p3 lpos kpos pos : Pos} (hg : Gl X "sorted") (hm : X.mg "sorted" = none) (he : PE X (.Name y py) te)
    (TB : LamX.TabB X.base X.mg c P) (hcode : X.env.code = .ref c) (hmT : (P, X.env.qual ++ "<lambda>") ∈ T) (huT : ∀ p ∈ T, p.1 = P → p.2 = X.env.qual ++ "<lambda>") (hr : Room 2 X.A) (hdef : defaultsOf params X.env = ([], []))
    (hbind : ∀ (q : Str) (cl : List (Str × Addr)) (pm cv ctv v : Value), bindArgs (kla_fn "<lambda>" q params (.Subscript (.Name x p1) (.Constant (.int 0) k0 p2) p3) (scFirst x) cl pm cv ctv) ⟨[v], []⟩ = pure [(x, v)]) (hfree : ∀ y ∈ (scFirst x).names, y.2 = .free → ∃ c, X.env.cells.lookup y.1 = some c) (hd : (x == ("__debug__" : Str)) = false := by decide) :
    PE X (.Call (.Name "sorted" p) [.Name y py] [⟨some "key", .Lambda params (.Subscript (.Name x p1) (.Constant (.int 0) k0 p2) p3) (scFirst x) lpos, kpos⟩] pos) (tSortFirst X.K T te) := by
  refine ⟨fun pins s σ H Q I h => ?_⟩
  refine wpAny_Call_Name_kw (ld_blt I hg hm (by decide +kernel : bootBuiltins "sorted" = some (.builtin "sorted")) ?_)
  refine PyProof.Rows.callWith_kw (thn ((pa_name (pe_up he)).run pos pins s σ H (one1 _) I ⟨_, h, fun x H1 q => ⟨x, rfl, q⟩⟩) fun us s1 hh => ?_) (by rfl) (by rfl) (by rfl) (by rfl)
  obtain ⟨vs, H1, I1, r1, v, rfl, hT, a, xs, ks, rfl, hseq, hp, q⟩ := hh
  obtain ⟨u, rfl, ru⟩ := vals1 r1
  obtain rfl : u = Value.ref a := ru
  show wpAny _ _ (evalAll ((do let v ← eval (.Lambda params (.Subscript (.Name x p1) (.Constant (.int 0) k0 p2) p3) (scFirst x) lpos) X.env; standAt pos; pure v) :: [])) _ _ s1
  refine wpAny_evalAll_cons (wpAny_bind (LamX.lam_make2 I1 TB hcode hmT huT hT hdef hfree fun f c' pm ctv H2 s' I2 eN T2 hf hfn hfr hco => wpAny_bind (wpAny_standAt (wpAny_pure (wpAny_evalAll_nil ?_)))))
  show wpAny _ _ (call (.builtin "sorted") [.ref a] [(Str.ofString "key", .ref f)]) _ _ s'
  obtain ⟨⟨oc, vs, tk, hoc, hdc, hvc⟩, _, _⟩ := I2.hok c' _ hco
  have hp2 := ext_pairs eN hp
  have key : ∀ (Ty : String) (o : Obj) (n : Nat) (its : List Value), Vals xs its → xs.length ≤ sizeLine → (Ty = "list" ∨ Ty = "tuple") → s'.heap.get? a = some o → o.cls = .type Ty → o.data = .seq its.toArray n →
      wpAny (model X.prog X.w) X.A (call (.builtin "sorted") [.ref a] [(Str.ofString "key", .ref f)]) (EP X pins σ Q) X.xe s' := by
    intro Ty o n its rv hz hTy ho hc hd2
    have ee := each_of I2 rv hp2
    refine sorted_seqKey (fun b : V × (Str × V) => PyData.str b.2.1) hTy ho hc hd2 (by rw [← rv.length]; exact hz) ee (fun d hd d' hd' => ?_) (.inr fun d hd => ?_) (fun b hb => ?_) (fun v b hR hb h tk kp => ?_) fun h' tk d out m hl ho kp hn hD => ?_
    · obtain ⟨b, _, rfl⟩ := List.mem_map.mp hd
      obtain ⟨b', _, rfl⟩ := List.mem_map.mp hd'
      rfl
    · obtain ⟨b, _, rfl⟩ := List.mem_map.mp hd
      exact ⟨fun z => (nomatch z), fun _ z => (nomatch z)⟩
    · have := hr.units
      show X.A.units + 2 + 0 < cLine
      omega
    · obtain ⟨t, tn, u, rfl, _, ht⟩ := hR
      exact first_call (s := { s' with heap := h, toks := tk }) hr.depth (kp _ _ hf) ⟨c', oc, vs, _, rfl, kp _ _ hoc, hdc, hvc⟩ (I2.nolimit.keeps kp) (ht.keeps kp) (fun v => hbind _ _ _ _ _ v) hd
    · obtain ⟨hperm, hsrt⟩ := sort_by_name (fun b : V × (Str × V) => b.2.1) (xs.zip ks)
      have nH : H2 d = none := hok_none I2.hok hn
      have hlz : ((xs.zip ks).mergeSort (dataLe false fun b : V × (Str × V) => PyData.str b.2.1)).length ≤ sizeLine := by
        rw [hperm.length_eq, List.length_zip, ← hp.length, Nat.min_self]
        exact hz
      refine ⟨.ref d, _, Inv.laidN (t' := tk) (o := .lst (((xs.zip ks).mergeSort (dataLe false fun b : V × (Str × V) => PyData.str b.2.1)).map (·.1))) I2 kp hn nH ⟨by rw [List.length_map]; exact hlz, out, m, vals_each ho, hD⟩, rfl, q _ d H2 eN T2 hperm hsrt nH⟩
  rcases hseq with hs | hs
  · obtain ⟨its, rv, ⟨o, n, ho, hc, _, hd3⟩, hz⟩ := I2.list (ext_L eN hs)
    exact key "list" o n its rv hz (.inl rfl) ho hc hd3
  · obtain ⟨its, rv, ⟨o, ho, hc, n, hd3⟩, hz⟩ := I2.tuple (ext_T eN hs)
    exact key "tuple" o n its rv hz (.inr rfl) ho hc hd3
end
end Vx
namespace Vx
open PySem PySem.Spec PyProof.Rows L2
/-- [e for k in d if t], d a dict under its lock, the parts only add to the heap -/
theorem lc_addK {H1 : Hp} {D d : Addr} {o : Obj} {kvs : List (Key × V)} {p : Nat → Bool} {f : Nat → V} {σ : L2.St} {j : Nat} {tt : TT} {te : TE} {Qd : Hp → Prop} (hD : H1 D = none) (hs : H1 d = some (.frz o (.dK kvs))) (hn : kvs.length < sizeLine)
    (ht : ∀ i k v H' (Q' : Bool → Hp → Prop), kvs[i]? = some (k, v) → Same H1 H' → (∀ H'', Same H' H'' → Q' (p i) H'') → tt ((wipe σ [j]).set j (some (kV k))) H' Q')
    (he : ∀ i k v H' (Q' : VK), kvs[i]? = some (k, v) → p i = true → Same H1 H' → (∀ H'', Same H' H'' → Q' (f i) H'') → te ((wipe σ [j]).set j (some (kV k))) H' Q')
    (q : ∀ H2, Same H1 H2 → H2 D = some (.lst (took kvs.length p f)) → Qd H2) :
    ∃ W : Nat → Nat → Hp → Prop, (∃ m, W 0 m (upd H1 D (.lst []))) ∧ ∀ i m H, W i m H →
      ((Itk d o kvs).stop i H ∧ Qd H) ∨ ((Itk d o kvs).go i H ∧ ∃ Nx : Hp → Prop, (∀ H', Nx H' → ∃ m', m' < m ∧ W (i + 1) m' H') ∧ ∀ x H', (Itk d o kvs).yld i H x H' → gName j x (wipe σ [j]) H' fun σ2 H2 => wipe σ2 [j] = wipe σ [j] ∧ tt σ2 H2 fun b H3 =>
        if b = true then te σ2 H3 fun y H4 => ∃ acc, H4 D = some (.lst acc) ∧ acc.length < sizeLine ∧ Nx (upd H4 D (.lst (acc ++ [y]))) else Nx H3) := by
  refine lc_it (g := gName j) (vs := [j]) (Qd := Qd) (walk_keys (d := d) (o := o) (kvs := kvs)) (Adds H1 D p f) (Adds.first hD) (fun i H _ A => A.same _ _ hs) (fun i x H H' hi A y => ?_) fun H A => q H A.same A.at_
  obtain ⟨rfl, k, v, ek, rfl⟩ := y
  refine ⟨by simp [wipe], ht i k v H' _ ek A.same fun H3 s => ?_⟩
  have e : H3 D = some (.lst (took i p f)) := s _ _ A.at_
  have s1 : Same H1 H3 := A.same.trans s
  refine ite2 (fun c => ?_) (fun c => ⟨s1, by rw [took_succ, if_neg c, List.append_nil]; exact e⟩)
  refine he i k v H3 _ ek c s1 fun H4 s2 => ⟨_, s2 _ _ e, Nat.lt_of_le_of_lt (took_le _ _ _) (by omega), fun b o z => ?_, by rw [upd_same, took_succ, if_pos c]⟩
  rw [upd_ne (ne_of_none z hD)]
  exact s2 _ _ (s1 _ _ z)
end Vx
namespace Vx
open PySem PySem.Spec PyProof.Rows L2
/-! ### two lots of facts beside one another -/
theorem eqv_sortD (f g : Str × PyData) : PyData.eqv (sortD f) (sortD g) = (decide (f.1 = g.1) && sameD f.2 g.2) := by
  unfold sameD sortV
  simp only [sortD, PyData.eqv, PyData.eqvAll, Bool.and_true]
  congr 1
theorem eqF_cons (f g : Str × PyData) (fs gs : Fs) : eqF (f :: fs) (g :: gs) = (decide (f.1 = g.1) && sameD f.2 g.2 && eqF fs gs) := by
  unfold eqF
  rw [List.map_cons, List.map_cons]
  show (PyData.eqv (sortD f) (sortD g) && PyData.eqvAll _ _) = _
  rw [eqv_sortD]
  rfl
/-- place by place -/
theorem eqF_iff : ∀ {fs gs : Fs}, eqF fs gs = true ↔ fs.map (·.1) = gs.map (·.1) ∧ ∀ (i : Nat) f g, fs[i]? = some f → gs[i]? = some g → sameD f.2 g.2 = true
  | [], [] => ⟨fun _ => ⟨rfl, fun i f g e => by simp at e⟩, fun _ => rfl⟩
  | [], _ :: _ => ⟨fun h => (nomatch h), fun h => (nomatch h.1)⟩
  | _ :: _, [] => ⟨fun h => (nomatch h), fun h => (nomatch h.1)⟩
  | f :: fs, g :: gs => by
    rw [eqF_cons, Bool.and_eq_true, Bool.and_eq_true, decide_eq_true_eq, eqF_iff (fs := fs) (gs := gs), List.map_cons, List.map_cons]
    constructor
    · rintro ⟨⟨a, b⟩, c, d⟩
      refine ⟨by rw [a, c], fun i x y e e' => ?_⟩
      cases i with
      | zero =>
        simp at e e'
        subst e e'
        exact b
      | succ i => exact d i x y (by simpa using e) (by simpa using e')
    · rintro ⟨a, b⟩
      injection a with a1 a2
      exact ⟨⟨a1, b 0 f g rfl rfl⟩, a2, fun i x y e e' => b (i + 1) x y (by simpa using e) (by simpa using e')⟩
/-- f is told the same in gs -/
def toldSame (gs : Fs) (f : Str × PyData) : Bool := match findF gs f.1 with
  | some e => sameV f.2 e
  | none => false
theorem perm_sub {α : Type} [DecidableEq α] : ∀ {l m : List α}, l.Nodup → l ⊆ m → m.length ≤ l.length → l.Perm m
  | [], m, _, _, h => by
    have : m = [] := List.length_eq_zero_iff.mp (Nat.le_zero.mp h)
    rw [this]
  | a :: l, m, nd, s, h => by
    rw [List.nodup_cons] at nd
    have ha : a ∈ m := s List.mem_cons_self
    have p := List.perm_cons_erase ha
    refine ((perm_sub (m := m.erase a) nd.2 (fun b hb => ?_) ?_).cons a).trans p.symm
    · have hb2 := p.mem_iff.mp (s (List.mem_cons_of_mem _ hb))
      rcases List.mem_cons.mp hb2 with e | hb2
      · exact absurd (e ▸ hb) nd.1
      · exact hb2
    · have := p.length_eq
      rw [List.length_cons] at this h
      omega
theorem names_srt {fs gs : Fs} (h : (fs.map (·.1)).Perm (gs.map (·.1))) : (srt fs).map (·.1) = (srt gs).map (·.1) :=
  List.Perm.eq_of_pairwise (le := fun a b => ltS b a = false) (fun a b _ _ q r => ltS_tot r q) (List.pairwise_map.mpr (srt_sorted fs)) (List.pairwise_map.mpr (srt_sorted gs)) (((srt_perm fs).map _).trans (h.trans ((srt_perm gs).map _).symm))
theorem at_name {gs : Fs} {i : Nat} {g : Str × PyData} (h : gs[i]? = some g) : (gs.map (·.1))[i]? = some g.1 := by
  rw [List.getElem?_map, h]
  rfl
theorem eqF_told {fs gs : Fs} (nf : (fs.map (·.1)).Nodup) (ng : (gs.map (·.1)).Nodup) : eqF (srt fs) (srt gs) = (decide (fs.length = gs.length) && fs.all (toldSame gs)) := by
  have hs : ∀ {f : Str × PyData}, f ∈ fs ↔ f ∈ srt fs := fun {f} => (srt_perm fs).mem_iff.symm
  rw [Bool.eq_iff_iff, Bool.and_eq_true, decide_eq_true_eq, List.all_eq_true, eqF_iff]
  constructor
  · rintro ⟨a, b⟩
    have hl : fs.length = gs.length := by
      have := congrArg List.length a
      rwa [List.length_map, List.length_map, srt_length, srt_length] at this
    refine ⟨hl, fun f hf => ?_⟩
    obtain ⟨i, hi, e⟩ := List.getElem_of_mem (hs.mp hf)
    have hi2 : i < (srt gs).length := by rw [srt_length] at hi ⊢; omega
    have e1 : (srt fs)[i]? = some f := by rw [List.getElem?_eq_getElem hi, e]
    have e2 : (srt gs)[i]? = some (srt gs)[i] := List.getElem?_eq_getElem hi2
    have en : f.1 = ((srt gs)[i]).1 := by
      have x := at_name e1
      rw [a, at_name e2] at x
      exact (Option.some.inj x).symm
    have z := b i f _ e1 e2
    unfold toldSame
    rw [en, findF_some ng ((srt_perm gs).mem_iff.mp (List.getElem_mem hi2))]
    show sameV f.2 (srt gs)[i].2 = true
    rw [← sameD_V]
    exact z
  · rintro ⟨hl, h⟩
    have sub : fs.map (·.1) ⊆ gs.map (·.1) := fun n hn => by
      obtain ⟨f, hf, rfl⟩ := List.mem_map.mp hn
      have z := h f hf
      unfold toldSame at z
      cases q : findF gs f.1 with
      | none => rw [q] at z; cases z
      | some e => exact List.mem_map.mpr ⟨_, findF_mem q, rfl⟩
    have hp : (fs.map (·.1)).Perm (gs.map (·.1)) := perm_sub nf sub (by rw [List.length_map, List.length_map]; omega)
    have a := names_srt hp
    refine ⟨a, fun i f g e e' => ?_⟩
    have en : f.1 = g.1 := by
      have x := at_name e
      rw [a, at_name e'] at x
      exact (Option.some.inj x).symm
    have z := h f (hs.mpr (List.mem_of_getElem? e))
    unfold toldSame at z
    rw [en, findF_some ng ((srt_perm gs).mem_iff.mp (List.mem_of_getElem? e'))] at z
    rw [sameD_V]
    exact z
end Vx
namespace Vx
open PySem PySem.Spec PyProof.Rows L2
theorem sameV_eq {d e : PyData} (fd : isFlat d = true) (fe : isFlat e = true) (h : sameV d e = true) : d = e := by
  unfold sameV at h
  rw [Bool.and_eq_true, decide_eq_true_eq] at h
  cases d with
  | bool a =>
    cases e with
    | bool b => simpa [PyData.eqv] using h.2
    | int b => simp [isTy, tyD] at h
    | str b => simp [isTy, tyD] at h
    | _ => cases fe
  | int a =>
    cases e with
    | bool b => simp [isTy, tyD] at h
    | int b => simpa [PyData.eqv] using h.2
    | str b => simp [PyData.eqv] at h
    | _ => cases fe
  | str a =>
    cases e with
    | bool b => simp [isTy, tyD] at h
    | int b => simp [PyData.eqv] at h
    | str b => simpa [PyData.eqv] using h.2
    | _ => cases fe
  | _ => cases fd
theorem unl_perm {gs gs' : Fs} (nd : (gs.map (·.1)).Nodup) (p : gs'.Perm gs) : unl gs' = unl gs := by
  funext f
  unfold unl
  rw [findF_perm nd p]
theorem srt_filter {fs : Fs} (nd : (fs.map (·.1)).Nodup) (p : Str × PyData → Bool) : (srt fs).filter p = srt (fs.filter p) :=
  srt_uniq ((srt_perm fs).filter p) (List.Pairwise.filter _ (srt_sorted fs)) ((List.Sublist.map _ List.filter_sublist).nodup nd)
/-- the first of the sorted ones that are told otherwise -/
theorem first_unl {fs gs : Fs} (nf : (fs.map (·.1)).Nodup) (ng : (gs.map (·.1)).Nodup) : (srt fs).find? (unl (srt gs)) = (srt (fs.filter (unl gs))).head? := by
  rw [unl_perm ng (srt_perm gs), ← srt_filter nf, List.head?_filter]
theorem joinF_perm {fs gs fs' gs' : Fs} (nf : (fs.map (·.1)).Nodup) (p : fs'.Perm fs) (q : gs'.Perm gs) : (joinF fs' gs').Perm (joinF fs gs) := by
  unfold joinF
  have e : (fun g : Str × PyData => !(findF fs' g.1).isSome) = fun g => !(findF fs g.1).isSome := by
    funext g
    rw [findF_perm nf p]
  rw [e]
  exact p.append (q.filter _)
theorem srt_join {fs gs : Fs} (gf : GoodF fs) (gg : GoodF gs) (hl : fs.length + gs.length ≤ 4000) : srt (joinF (srt fs) (srt gs)) = srt (joinF fs gs) :=
  srt_uniq ((srt_perm _).trans (joinF_perm gf.nodup (srt_perm fs) (srt_perm gs))) (srt_sorted _) (gf.join gg hl).nodup
/-! ### the merged dict -/
theorem put_same {kvs : List (Key × V)} {k : Key} {v : V} (nd : (kvs.map (·.1)).Nodup) (h : (k, v) ∈ kvs) : putK kvs k v = kvs := by
  unfold putK
  rw [if_pos (List.any_eq_true.mpr ⟨_, h, by simp⟩)]
  conv => rhs; rw [← List.map_id kvs]
  refine List.map_congr_left fun kv hkv => ?_
  by_cases e : kv.1 = k
  · rw [if_pos e]
    have e2 : kv = (k, v) := by
      obtain ⟨i, hi, ei⟩ := List.getElem_of_mem hkv
      obtain ⟨j, hj, ej⟩ := List.getElem_of_mem h
      have m1 : (kvs.map (·.1))[i]? = some k := by rw [List.getElem?_map, List.getElem?_eq_getElem hi, ei]; simp [e]
      have m2 : (kvs.map (·.1))[j]? = some k := by rw [List.getElem?_map, List.getElem?_eq_getElem hj, ej]; rfl
      have ij : i = j := (List.getElem?_inj (by rw [List.length_map]; exact hi) nd).mp (m1.trans m2.symm)
      subst ij
      rw [← ei, ej]
    rw [e2]
    rfl
  · rw [if_neg e]
    rfl
theorem merge_join {fs : Fs} (ff : Flats fs) (nf : (fs.map (·.1)).Nodup) : ∀ (gs acc : Fs), (∀ g ∈ gs, isFlat g.2 = true) → (gs.map (·.1)).Nodup → (∀ g ∈ gs, ∀ d, findF fs g.1 = some d → d = g.2) → (∀ g ∈ gs, g.1 ∉ acc.map (·.1)) → ((fs ++ acc).map (·.1)).Nodup →
    mergeK (dictF (fs ++ acc)) (dictF gs) = dictF (fs ++ acc ++ gs.filter fun g => !(findF fs g.1).isSome)
  | [], acc, _, _, _, _, _ => by simp [dictF, mergeK]
  | g :: gs, acc, fg, ng, same, na, nd => by
    rw [List.map_cons, List.nodup_cons] at ng
    have kd : ((dictF (fs ++ acc)).map (·.1)).Nodup := by
      rw [dictF_keys]
      exact List.pairwise_map.mpr (List.Pairwise.imp (fun h e => h (Sum.inr.inj e)) nd)
    show mergeK (putK (dictF (fs ++ acc)) (Sum.inr g.1) (vD g.2)) (dictF gs) = _
    cases q : findF fs g.1 with
    | some d =>
      have e := same g List.mem_cons_self d q
      subst e
      have m : ((Sum.inr g.1 : Key), vD g.2) ∈ dictF (fs ++ acc) := List.mem_map.mpr ⟨(g.1, g.2), List.mem_append_left _ (findF_mem q), rfl⟩
      rw [put_same kd m, merge_join ff nf gs acc (fun x hx => fg x (List.mem_cons_of_mem _ hx)) ng.2 (fun x hx => same x (List.mem_cons_of_mem _ hx)) (fun x hx => na x (List.mem_cons_of_mem _ hx)) nd,
        List.filter_cons_of_neg (by rw [q]; simp)]
    | none =>
      have hn : g.1 ∉ fs.map (·.1) := findF_none.mp (by rw [q]; rfl)
      have hna := na g List.mem_cons_self
      have nw : ∀ p ∈ dictF (fs ++ acc), p.1 ≠ Sum.inr g.1 := fun p hp e => by
        obtain ⟨f, hf, rfl⟩ := List.mem_map.mp hp
        have e : f.1 = g.1 := Sum.inr.inj e
        rcases List.mem_append.mp hf with h | h
        · exact hn (e ▸ List.mem_map.mpr ⟨f, h, rfl⟩)
        · exact hna (e ▸ List.mem_map.mpr ⟨f, h, rfl⟩)
      have ed : dictF (fs ++ acc) ++ [((Sum.inr g.1 : Key), vD g.2)] = dictF (fs ++ (acc ++ [g])) := by
        unfold dictF
        rw [← List.append_assoc, List.map_append (l₁ := fs ++ acc)]
        rfl
      rw [put_new nw, ed, merge_join ff nf gs (acc ++ [g]) (fun x hx => fg x (List.mem_cons_of_mem _ hx)) ng.2 (fun x hx => same x (List.mem_cons_of_mem _ hx)) (fun x hx m => ?_) ?_,
        List.filter_cons_of_pos (by rw [q]; rfl)]
      · simp
      · rw [← List.append_assoc, List.map_append]
        refine List.nodup_append.mpr ⟨nd, by simp, fun a ha b hb e => ?_⟩
        have eb : b = g.1 := by simpa using hb
        rw [List.map_append] at ha
        rcases List.mem_append.mp ha with h | h
        · exact hn (by rw [← eb, ← e]; exact h)
        · exact hna (by rw [← eb, ← e]; exact h)
      · rw [List.map_append] at m
        rcases List.mem_append.mp m with h | h
        · exact na x (List.mem_cons_of_mem _ hx) h
        · have : x.1 = g.1 := by simpa using h
          exact ng.1 (this ▸ List.mem_map.mpr ⟨x, hx, rfl⟩)
end Vx
namespace Vx
open PySem PySem.Spec PyProof.Rows L2
theorem nodup_le {α : Type} [DecidableEq α] : ∀ {l m : List α}, l.Nodup → l ⊆ m → l.length ≤ m.length
  | [], _, _, _ => Nat.zero_le _
  | a :: l, m, nd, s => by
    rw [List.nodup_cons] at nd
    have ha : a ∈ m := s List.mem_cons_self
    have h := nodup_le (m := m.erase a) nd.2 fun b hb => by
      have hb2 := s (List.mem_cons_of_mem _ hb)
      exact (List.mem_erase_of_ne (fun e => by subst e; exact nd.1 hb)).mpr hb2
    rw [List.length_erase_of_mem ha] at h
    have : 0 < m.length := List.length_pos_of_mem ha
    rw [List.length_cons]
    omega
theorem SmallF.join {fs gs : Fs} (a : SmallF fs) (b : SmallF gs) : SmallF (joinF fs gs) := by
  have g := a.good.join b.good (by have := a.len; have := b.len; omega)
  have mem : ∀ f ∈ joinF fs gs, f ∈ fs ∨ f ∈ gs := fun f hf => by
    rcases List.mem_append.mp hf with h | h
    · exact .inl h
    · exact .inr (List.mem_filter.mp h).1
  have nam : ∀ f ∈ joinF fs gs, f.1 ∈ names7 := fun f hf => by
    rcases mem f hf with h | h
    · exact a.nam f h
    · exact b.nam f h
  refine ⟨g.nodup, ?_, nam, fun f hf => ?_⟩
  · have := nodup_le (m := names7) g.nodup fun n hn => by
      obtain ⟨f, hf, rfl⟩ := List.mem_map.mp hn
      exact nam f hf
    rw [List.length_map] at this
    exact this
  · rcases mem f hf with h | h
    · exact a.val f h
    · exact b.val f h
theorem dp_strs {K : PySem.W.Frag} {H : Hp} : ∀ ns : List Str, DpAll K H (ns.map V.str) (ns.map PyData.str)
  | [] => .nil
  | _ :: ns => .cons (.str _) (dp_strs ns)
theorem shaped_strs : ∀ {ns : List Str}, (∀ n ∈ ns, PyData.canLay0 (.str n) = true) → SeqAt.shaped (.list (ns.map PyData.str)) = true := by
  intro ns h
  have h1 : PyData.canLayAll0 (ns.map PyData.str) = true := by
    induction ns with
    | nil => rfl
    | cons n ns ih =>
      rw [List.map_cons, PyData.canLayAll0, h n List.mem_cons_self, ih fun m hm => h m (List.mem_cons_of_mem _ hm)]
      rfl
  have h2 : PyData.depthAll (ns.map PyData.str) = 0 := by
    clear h h1
    induction ns with
    | nil => rfl
    | cons n ns ih =>
      rw [List.map_cons, PyData.depthAll, ih]
      rfl
  unfold SeqAt.shaped
  rw [Bool.and_eq_true, decide_eq_true_eq]
  constructor
  · rw [PyData.canLay0]
    exact h1
  · rw [PyData.depth, h2]
    decide
theorem unl_told {gs : Fs} {f : Str × PyData} (h : (findF gs f.1).isSome = true) : unl gs f = !toldSame gs f := by
  unfold unl toldSame
  cases q : findF gs f.1 with
  | none => rw [q] at h; cases h
  | some e => simp only [sameD_V]
theorem unl_none {gs : Fs} {f : Str × PyData} (h : ¬ (findF gs f.1).isSome = true) : unl gs f = false := by
  unfold unl
  cases q : findF gs f.1 with
  | none => rfl
  | some e => rw [q] at h; exact absurd rfl h
/-- nothing is told otherwise: what both have is the same -/
theorem same_of_none {fs gs : Fs} (gf : GoodF fs) (gg : GoodF gs) (h : (srt fs).find? (unl (srt gs)) = none) : ∀ g ∈ gs, ∀ d, findF fs g.1 = some d → d = g.2 := fun g hg d e => by
  have hm := findF_mem e
  rw [unl_perm gg.nodup (srt_perm gs)] at h
  have z := List.find?_eq_none.mp h (g.1, d) ((srt_perm fs).mem_iff.mpr hm)
  have ff : findF gs g.1 = some g.2 := findF_some gg.nodup hg
  have z2 : unl gs (g.1, d) = !sameD d g.2 := by
    unfold unl
    show (match findF gs g.1 with | some e => !sameD d e | none => false) = _
    rw [ff]
  rw [z2] at z
  refine sameV_eq (gf.flat _ hm) (gg.flat g hg) ?_
  rw [← sameD_V]
  cases q : sameD d g.2 with
  | true => rfl
  | false => rw [q] at z; exact absurd rfl z
theorem merge_both {fs gs : Fs} (gf : GoodF fs) (gg : GoodF gs) (h : (srt fs).find? (unl (srt gs)) = none) : mergeK [] (dictF fs ++ dictF gs) = dictF (joinF fs gs) := by
  have e1 : mergeK [] (dictF fs ++ dictF gs) = mergeK (mergeK [] (dictF fs)) (dictF gs) := by
    unfold mergeK
    rw [List.foldl_append]
  rw [e1, merge_facts gf.nodup]
  have z := merge_join gf.flat gf.nodup gs [] gg.flat gg.nodup (same_of_none gf gg h) (fun g _ => by simp) (by simpa using gf.nodup)
  rw [List.append_nil] at z
  exact z
theorem paired_app {α β : Type} {F : α → β → Prop} : ∀ {xs : List α} {ys : List β}, Paired F xs ys → ∀ {zs : List α} {ws : List β}, Paired F zs ws → Paired F (xs ++ zs) (ys ++ ws)
  | _, _, .nil, _, _, h => h
  | _, _, .cons a r, _, _, h => .cons a (paired_app r h)
theorem paired_imp {α β : Type} {F G : α → β → Prop} (h : ∀ a b, F a b → G a b) : ∀ {xs : List α} {ys : List β}, Paired F xs ys → Paired G xs ys
  | _, _, .nil => .nil
  | _, _, .cons a r => .cons (h _ _ a) (paired_imp h r)
theorem unlike_show : ∀ n ∈ names7, ((PyData.list [.str "unlike", .str n]).showable && decide ((PyData.list [.str "unlike", .str n]).shown.length ≤ 1000) && decide ((PyData.list [.str "unlike", .str n]).depth ≤ 40)) = true := by decide +kernel
theorem unlike_shows {n : Str} (h : n ∈ names7) : Shows (.list [.str "unlike", .str n]) := by
  have := unlike_show n h
  simp only [Bool.and_eq_true, decide_eq_true_eq] at this
  obtain ⟨⟨a, b⟩, c⟩ := this
  exact ⟨a, by rw [sizeLine_eq]; omega, c, fun i e => nomatch e⟩
end Vx
namespace Kx
open PySem PySem.Spec L2 Vx
abbrev sTwo : Stmt := top 19
abbrev nTwo : List Str := ["one", "other", "mine", "its", "same", "wrong", "both", "left", "right", "name"]
theorem scTwo : FnScope nTwo ["one", "other"] (defScope sTwo) := ⟨rfl, rfl, rfl, by decide +kernel, rfl, by decide +kernel, by decide +kernel⟩
structure TxtW (K : PySem.W.Frag) (mg : Str → Option Value) : Prop extends TxtO K mg where
  list : mg "list" = none
/-- more of the class of facts -/
structure Kit2 (P : Program) (w : World) (K : PySem.W.Frag) (mg : Str → Option Value) (base : Heap) (C CB CN CU : Addr) : Prop extends Kit P w K mg base C CB CN CU where
  eq : ∃ f fd, OwnOp K C "__eq__" f ∧ FnOk P w K mg base CX0 1 f fd ["self", "other"] (spEq K C) ∧ Binds K fd ["self", "other"] []
  or : ∃ f fd, OwnOp K C (PySem.dunder (Operator.info .BitOr).2) f ∧ PySem.W.selfFirst K C = true ∧ FnOk P w K mg base (L2.CX P w) 5 f fd ["self", "other"] (spOr K C CU) ∧ Binds K fd ["self", "other"] []
theorem andV_pure {ta tb : TE} {σ : L2.St} {H : Hp} {Q : VK} {b1 b2 : Bool} (ha : ∀ R : VK, R (.bl b1) H → ta σ H R) (hb : b1 = true → ∀ R : VK, R (.bl b2) H → tb σ H R) (q : Q (.bl (b1 && b2)) H) : tAndV ta tb σ H Q := by
  refine ha _ ⟨b1, rfl, ?_⟩
  cases b1 with
  | true => exact hb rfl _ (by simpa using q)
  | false => simpa using q
theorem dget_frz {H : Hp} {a : Addr} {o : Obj} {fs : Fs} (e : H a = some (.frz o (.dK (dictF fs)))) (n : Str) : DGet H a (.str n) ((findF fs n).map vD) := by
  refine .inl ⟨dictF fs, Sum.inr n, .inr ⟨o, e⟩, rfl, (valV_facts fs n).symm⟩
theorem dictF_at {fs : Fs} {i : Nat} {k : Key} {v : V} (e : (dictF fs)[i]? = some (k, v)) : i < fs.length ∧ k = Sum.inr (fs.getD i dflt).1 ∧ fs.getD i dflt ∈ fs := by
  unfold dictF at e
  rw [List.getElem?_map] at e
  cases z : fs[i]? with
  | none => rw [z] at e; cases e
  | some f =>
    rw [z] at e
    have hi := (List.getElem?_eq_some_iff.mp z).1
    have e2 : fs.getD i dflt = f := by simp [List.getD, z]
    rw [e2]
    cases e
    exact ⟨hi, rfl, List.mem_of_getElem? z⟩
theorem unlocked {H H2 : Hp} {d : Addr} {o : Obj} {u : HO} (h : H d = some u) (s : Same (upd H d (.frz o u)) H2) : Same H (upd H2 d u) := fun b x e => by
  by_cases hb : b = d
  · rw [hb, upd_same, ← h, ← e, hb]
  · rw [upd_ne hb]
    exact s _ _ (by rw [upd_ne hb]; exact e)
abbrev lamScT : Scope := ⟨.function, [("left", .free), ("right", .free)], false, false, []⟩
section
variable {P : Program} {w : World} {K : PySem.W.Frag} {mg : Str → Option Value} {base : Heap}
theorem two_reads {Q : VK} {p1 p2 : Addr} {ps1 ps2 : List V} {fs gs : Fs} {f fS fC cO PO_ C CB CN CU CA : Addr} {fd fdS fdC : FuncData} {TT : List (Addr × Str)} {A : Around} {outer : List Env} {s : Shared} {H : Hp}
    (T : TxtW K mg) (Z : Kit2 P w K mg base C CB CN CU) (hG : A.guards = some []) (hr : Room 9 (A.deeper (PyProof.Rows.envOfC "_law_two_right" (defScope sTwo) s.heap.objs.size f (.ref cO))))
    (GS : FnOk P w K mg base CX0 1 fS fdS ["one", "other"] (spSame K)) (gS : mg "_law_same" = some (.ref fS)) (kS : PySem.W.keepIn K (.ref fS) = true) (bS : Binds K fdS ["one", "other"] [])
    (FC : Fun K "_law_caught" "_law_caught" sCaught fC fdC) (gC' : mg "_law_caught" = some (.ref fC)) (bC : L2.Binds K fdC ["ask"] []) (TC : TxtC mg CA CB CN CU)
    (TB : LamX.TabB base mg cO PO_) (hmT : (PO_, (PyProof.Rows.envOfC "_law_two_right" (defScope sTwo) s.heap.objs.size f (.ref cO)).qual ++ "<lambda>") ∈ TT) (eU : ErrT K CA CB CN CU CU false false true) (hnf : PySem.W.notFirst K C (.ref C) = true) (hT : LamX.Tabs TT H) (h1t : Tup0 H p1 ps1) (h1d : DqAll K H ps1 (fs.map pairD)) (sm1 : SmallF fs) (h2t : Tup0 H p2 ps2) (h2d : DqAll K H ps2 (gs.map pairD)) (sm2 : SmallF gs)
    (k : ∀ (H' : Hp), LamX.ExtN H H' → LamX.Tabs TT H' → Q (.bl true) H') (huT : ∀ p ∈ TT, p.1 = PO_ → p.2 = (PyProof.Rows.envOfC "_law_two_right" (defScope sTwo) s.heap.objs.size f (.ref cO)).qual ++ "<lambda>") :
    ∃ t, PSs (cxOf L2.CX0 P w K mg base nTwo "_law_two_right" (defScope sTwo) f (.ref cO) A outer s H L2.E0).nox (defBody sTwo) t ∧ t { nx := fun _ H' => Q .non H', rt := Q } (L2.start nTwo [.ref p1, .ref p2]) H := by
  obtain ⟨fI, fdI, M, GI, bI⟩ := Z.init
  obtain ⟨fE, fdE, oE, GE, bE⟩ := Z.eq
  obtain ⟨fR, fdR, oR, sR, GR, bR⟩ := Z.or
  obtain ⟨oc, od, kV, doc, pm, an, cdv, ct, osl, rfl, lkC, hcC⟩ := FC.ex
  have gC := Z.gC
  have hG2 : (cxOf L2.CX0 P w K mg base nTwo "_law_two_right" (defScope sTwo) f (.ref cO) A outer s H L2.E0).nox.A.guards = some [] := hG
  have hu1 : (cxOf L2.CX0 P w K mg base nTwo "_law_two_right" (defScope sTwo) f (.ref cO) A outer s H L2.E0).nox.A.units + 1 < cLine := by
    have := hr.units
    show (A.deeper _).units + 1 < _
    omega
  have hu64 : (cxOf L2.CX0 P w K mg base nTwo "_law_two_right" (defScope sTwo) f (.ref cO) A outer s H L2.E0).nox.A.units + 64 < cLine := hr.units
  have hu3 : (cxOf L2.CX0 P w K mg base nTwo "_law_two_right" (defScope sTwo) f (.ref cO) A outer s H L2.E0).nox.A.units + 300 < cLine := by
    have := hr.un
    show (A.deeper _).units + 300 < _
    omega
  have hr0 : Room 0 (cxOf L2.CX0 P w K mg base nTwo "_law_two_right" (defScope sTwo) f (.ref cO) A outer s H L2.E0).nox.A := hr.mono (by decide)
  refine ⟨_, pss_cons (ps_asg (pe_tup (pa_cons (pe_callTy (call_dictT rfl) (by rfl) T.dict (by decide +kernel) (pa_cons (pv 0) pa_nil)) (pa_cons (pe_callTy (call_dictT rfl) (by rfl) T.dict (by decide +kernel) (pa_cons (pv 1) pa_nil)) pa_nil)))
      (pg_tup rfl (pgs_cons (pg_name (i := 2) scTwo.nd rfl (Or.inr rfl)) (pgs_cons (pg_name (i := 3) scTwo.nd rfl (Or.inr rfl)) pgs_nil))))
    (pss_cons (ps_asg (pe_tup (pa_cons (pe_make M GI (hr.mono (by decide)) rfl gC bI .nil passL (pa_cons (pv 0) pa_nil)) (pa_cons (pe_make M GI (hr.mono (by decide)) rfl gC bI .nil passL (pa_cons (pv 1) pa_nil)) pa_nil)))
      (pg_tup rfl (pgs_cons (pg_name (i := 7) scTwo.nd rfl (Or.inr rfl)) (pgs_cons (pg_name (i := 8) scTwo.nd rfl (Or.inr rfl)) pgs_nil))))
    (pss_cons (ps_lock (ps_setLc (i := 4) (own := [("name", 9)]) (g := gName 9) (tt := tYes) (te := tAndV (tDIn (tVar 9) (tVar 3)) (tCall (spSame K) [] L2.E0 (tCons (tDGet (tVar 2) (tVar 9)) (tCons (tDGet (tVar 3) (tVar 9)) tNil)))) rfl scTwo.nd rfl rfl (sw_true rfl rfl rfl (by decide +kernel)) (pi_keys (pv 2)) (blkOk_by (N := nTwo) (sc := defScope sTwo) (by decide +kernel)) (fun _ _ _ _ _ => pg_name (i := 9) scTwo.nd rfl (Or.inl rfl)) (fun _ _ _ _ _ => pts_nil)
        (fun _ _ _ _ _ => pe_and (pe_cmp (pc_din hu1 (pv 9) (pv 3))) (pe_one (pe_call GS (hr.mono (by decide)) rfl gS kS bS .nil pass0 (pa_cons (pe_dget hu1 (pv 2) (pv 9) (fun _ _ => rfl)) (pa_cons (pe_dget hu1 (pv 3) (pv 9) (fun _ _ => rfl)) pa_nil)))))))
    (pss_cons (ps_if (pt_cmpR op_ne (pe_cmpR (op_eqO oE GE (hr.mono (by decide)) bE pass0) (pv 7) (pv 8) (nomark _)) (pe_and (pe_cmpR op_eq (pe_callB call_lenK (by rfl) T.len PySem.boot_len (pa_cons (pv 2) pa_nil)) (pe_callB call_lenK (by rfl) T.len PySem.boot_len (pa_cons (pv 3) pa_nil)) (nomark _)) (pe_one (pe_callB (cr_all rfl) (by rfl) T.all (by decide +kernel) (pa_cons (pv 4) pa_nil)))) (nomark _)) (pss_one (ps_ret pe_bl)) pss_nil)
    (pss_cons (ps_set (i := 5) scTwo.nd rfl (Or.inl rfl) (pe_callB cr_sortedS (by rfl) T.sorted (by decide +kernel) (pa_cons (pe_lock
      (pe_lc (own := [("name", 9)]) (g := gName 9) (tt := tAnd (tB (tDIn (tVar 9) (tVar 3))) (tNot (tB (tCall (spSame K) [] L2.E0 (tCons (tDGet (tVar 2) (tVar 9)) (tCons (tDGet (tVar 3) (tVar 9)) tNil)))))) (te := tVar 9) rfl scTwo.nd (pi_keys (pv 2)) (blkOk_by (N := nTwo) (sc := defScope sTwo) (by decide +kernel)) (fun _ _ _ _ _ => pg_name (i := 9) scTwo.nd rfl (Or.inl rfl))
        (fun _ _ _ _ _ => pts_one (PW.pt (pw_and (pt_cmp (pc_din hu1 (pv 9) (pv 3))) (pw_and1 (pt_not (pt_val (pe_call GS (hr.mono (by decide)) rfl gS kS bS .nil pass0 (pa_cons (pe_dget hu1 (pv 2) (pv 9) (fun _ _ => rfl)) (pa_cons (pe_dget hu1 (pv 3) (pv 9) (fun _ _ => rfl)) pa_nil)))))))))
        (fun _ _ _ _ _ => pv 9))) pa_nil)))
    (pss_cons (ps_if (pt_cmpR (op_neD hu64) (pv 5) (pe_lst pa_nil) (nomark _)) (pss_one (ps_ret (pe_cmpR op_eq (pe_callB (call_reprA hr0 hG2) (by rfl) T.repr (by decide +kernel) (pa_cons
          (LamX.pe_lamcall (T := TT) (TT := TTc K CA CB CN CU) (t := fun E => tOp (rOrO C (spOr K C CU) E) (tVar 7) (tVar 8)) (k := 5) rfl gC' FC.kp lkC hcC bC scCaught rfl (Or.inl rfl) (caught_gives TC hu3) TB rfl hmT huT (hr.mono (by decide)) (LamX.lamS_by (show LamX.lamSB (defScope sTwo) lamScT = true from by decide +kernel)) rfl (fun _ _ _ _ _ => rfl)
            (fun A outer s H E f c' hr2 => pe_op (op_orO oR sR GR hr2 bR (passes_call (takes_of rfl rfl rfl rfl) (fun _ _ _ _ h => h))) (pe_var (i := 7) rfl (Or.inr (Or.inr rfl))) (pe_var (i := 8) rfl (Or.inr (Or.inr rfl))))) pa_nil))
        (pe_callB (call_reprA hr0 hG2) (by rfl) T.repr (by decide +kernel) (pa_cons (pe_lstB (pa_cons pe_str (pa_cons (pe_ix ix_list (pv 5) pe_int (fun _ _ => rfl)) pa_nil))) pa_nil)) (nomark _)))) pss_nil)
    (pss_cons (ps_set (i := 6) scTwo.nd rfl (Or.inr rfl) (pe_callTy (call_dictP rfl) (by rfl) T.dict (by decide +kernel) (pa_cons (pe_op op_cat (LiI.pe_listItems rfl (pv 2) rfl T.list PyProof.Rows.boot_list) (LiI.pe_listItems rfl (pv 3) rfl T.list PyProof.Rows.boot_list)) pa_nil)))
    (pss_cons (ps_if (pt_cmpR op_ne (pe_callB (call_reprA hr0 hG2) (by rfl) T.repr (by decide +kernel) (pa_cons (pe_fld (pe_op (op_orO oR sR GR (hr.mono (by decide)) bR passL) (pv 7) (pv 8)) (by rfl)) pa_nil))
        (pe_callB (call_reprA hr0 hG2) (by rfl) T.repr (by decide +kernel) (pa_cons (pe_callTy call_tuple_of (by rfl) T.tup (by decide +kernel) (pa_cons
          (pe_lc (own := [("name", 9)]) (g := gName 9) (tt := tYes) (te := tTup (tCons (tVar 9) (tCons (tDGet (tVar 6) (tVar 9)) tNil))) rfl scTwo.nd (pi_list (pe_callB (call_sortedD rfl) (by rfl) T.sorted (by decide +kernel) (pa_cons (pv 6) pa_nil))) (blkOk_by (N := nTwo) (sc := defScope sTwo) (by decide +kernel)) (fun _ _ _ _ _ => pg_name (i := 9) scTwo.nd rfl (Or.inl rfl)) (fun _ _ _ _ _ => pts_nil)
            (fun _ _ _ _ _ => pe_tup (pa_cons (pv 9) (pa_cons (pe_dget hu1 (pv 6) (pv 9) (fun _ _ => rfl)) pa_nil)))) pa_nil)) pa_nil)) (nomark _)) (pss_one (ps_ret pe_bl)) pss_nil)
    (pss_one (ps_ret (pe_cmpR op_eq (pe_callB (call_reprA hr0 hG2) (by rfl) T.repr (by decide +kernel) (pa_cons (pe_fld (pv 7) (by rfl)) pa_nil))
      (pe_callB (call_reprA hr0 hG2) (by rfl) T.repr (by decide +kernel) (pa_cons (pe_callTy call_tuple_of (by rfl) T.tup (by decide +kernel) (pa_cons
        (pe_sortFirst (T := TT) rfl T.sorted (pv 0) TB rfl hmT huT (hr.mono (by decide)) rfl (fun _ _ _ _ _ _ => rfl) (fun y hy e => by
          have z : y = (("pair" : Str), NameKind.local) := by simpa [scFirst] using hy
          rw [z] at e
          cases e)) pa_nil)) pa_nil)) (nomark _))))))))))), ?_⟩
  have g1 := sm1.good
  have g2 := sm2.good
  have k1 := sm1.len
  have k2 := sm2.len
  have v1 : Dq K H (.ref p1) (.tuple (fs.map pairD)) := .tup h1t.seq h1d
  have v2 : Dq K H (.ref p2) (.tuple (gs.map pairD)) := .tup h2t.seq h2d
  obtain ⟨pas, rfl, pp1⟩ := dq_paired h1d g1.flat
  obtain ⟨pbs, rfl, pp2⟩ := dq_paired h2d g2.flat
  -- mine, its = dict(one), dict(other)
  refine ⟨_, rfl, p1, pas, dictF fs, rfl, h1t, pp1, fun qm hqm => ⟨_, rfl, p2, pbs, dictF gs, rfl, h2t.same (same_new hqm), paired_same (same_new hqm) pp2, fun qi hqi => ⟨by show 2 ≤ sizeLine; decide, fun t1 ht1 => ⟨t1, _, rfl, SqT.of upd_same, rfl, _, _, rfl, _, _, rfl, rfl, ?_⟩⟩⟩⟩
  rw [merge_facts sm1.nodup] at hqi ht1
  rw [merge_facts sm2.nodup] at ht1
  rw [merge_facts sm1.nodup, merge_facts sm2.nodup]
  have nmi : qm ≠ qi := ne_of_none upd_same hqi
  have sA : Same H (upd (upd (upd H qm (.dK (dictF fs))) qi (.dK (dictF gs))) t1 (.tup [.ref qm, .ref qi])) := (same_new hqm).trans ((same_new hqi).trans (same_new ht1))
  have mA : (upd (upd (upd H qm (.dK (dictF fs))) qi (.dK (dictF gs))) t1 (.tup [.ref qm, .ref qi])) qm = some (.dK (dictF fs)) := same_new ht1 _ _ (same_new hqi _ _ upd_same)
  have iA : (upd (upd (upd H qm (.dK (dictF fs))) qi (.dK (dictF gs))) t1 (.tup [.ref qm, .ref qi])) qi = some (.dK (dictF gs)) := same_new ht1 _ _ upd_same
  generalize (upd (upd (upd H qm (.dK (dictF fs))) qi (.dK (dictF gs))) t1 (.tup [.ref qm, .ref qi])) = HA at sA mA iA ⊢
  -- left, right = Facts(one), Facts(other)
  refine ⟨_, rfl, made_factsR g1 (Dq.same sA _ _ v1) fun xl H3 s3 f3 => ⟨_, rfl, made_factsR g2 (Dq.same (sA.trans s3) _ _ v2) fun xr H4 s4 f4 => ⟨by show 2 ≤ sizeLine; decide, fun t2 ht2 => ⟨t2, _, rfl, SqT.of upd_same, rfl, _, _, rfl, _, _, rfl, rfl, ?_⟩⟩⟩⟩
  have sB : Same HA (upd H4 t2 (.tup [.ref xl, .ref xr])) := s3.trans (s4.trans (same_new ht2))
  have lB := f3.same (s4.trans (same_new (o := .tup [.ref xl, .ref xr]) ht2))
  have rB := f4.same (same_new (o := .tup [.ref xl, .ref xr]) ht2)
  have mB := sB _ _ mA
  have iB := sB _ _ iA
  generalize (upd H4 t2 (.tup [.ref xl, .ref xr])) = HB at sB lB rB mB iB ⊢
  -- same = [..]
  refine ⟨qm, _, mB, trivial, fun od => ?_⟩
  have mL : (upd HB qm (.frz od (.dK (dictF fs)))) qm = some (.frz od (.dK (dictF fs))) := upd_same
  have iL : (upd HB qm (.frz od (.dK (dictF fs)))) qi = some (.dK (dictF gs)) := by rw [upd_ne (Ne.symm nmi)]; exact iB
  have dl1 : (dictF fs).length < sizeLine := by unfold dictF; rw [List.length_map, sizeLine_eq]; omega
  have dlen1 : (dictF fs).length = fs.length := by unfold dictF; rw [List.length_map]
  have told : ∀ {ow : Obj} {Hx : Hp} {i : Nat} {kk : Key} {v : V} {Q' : VK} {σ' : L2.St}, (dictF fs)[i]? = some (kk, v) → Hx qm = some (.frz ow (.dK (dictF fs))) → Hx qi = some (.dK (dictF gs)) → σ'[2]? = some (some (.ref qm)) → σ'[3]? = some (some (.ref qi)) → σ'[9]? = some (some (L2.kV kk)) → (findF gs (fs.getD i dflt).1).isSome = true → Q' (.bl (toldSame gs (fs.getD i dflt))) Hx →
      tCall (spSame K) [] L2.E0 (tCons (tDGet (tVar 2) (tVar 9)) (tCons (tDGet (tVar 3) (tVar 9)) tNil)) σ' Hx Q' := fun {ow Hx i kk v Q' σ'} ek hm hi s2 s3 s9 hs q => by
    obtain ⟨hil, rfl, hmem⟩ := dictF_at ek
    obtain ⟨e, ee⟩ := Option.isSome_iff_exists.mp hs
    have ff := findF_some sm1.nodup hmem
    have gm := dget_frz hm (fs.getD i dflt).1
    rw [ff] at gm
    have gi := dget_facts hi (fs.getD i dflt).1
    rw [ee] at gi
    refine ⟨_, s2, _, s9, qm, _, rfl, gm, _, s3, _, s9, qi, _, rfl, gi, _, _, (fs.getD i dflt).2, e, rfl, dq_flat K _ (g1.flat _ hmem), dq_flat K _ (findF_flat g2.flat ee), g1.flat _ hmem, findF_flat g2.flat ee, (lay_pair (g1.lay _ hmem)).2, findF_lay g2 ee, ?_⟩
    have z : toldSame gs (fs.getD i dflt) = sameV (fs.getD i dflt).2 e := by
      unfold toldSame
      rw [ee]
    exact z ▸ q
  refine ⟨_, rfl, qm, od, rfl, .inl ⟨dictF fs, mL, fun D hD => lc_addK (p := fun _ => true) (f := fun i => V.bl (toldSame gs (fs.getD i dflt))) hD mL dl1 (fun i kk v H' Q' ek s k => k H' (Same.refl _)) (fun i kk v H' Q' ek _ s q => ?_) fun H2 s2 e2 => ⟨s2 _ _ mL, ?_⟩⟩⟩
  · obtain ⟨hil, ekk, hmem⟩ := dictF_at ek
    have gi := dget_facts (s _ _ iL) (fs.getD i dflt).1
    have e9 : L2.kV kk = V.str (fs.getD i dflt).1 := by rw [ekk]; rfl
    rw [← e9] at gi
    refine ⟨_, rfl, _, rfl, qi, _, rfl, gi, _, rfl, ?_⟩
    refine ite2 (fun cs => ?_) (fun cs => ?_)
    · exact told ek (s _ _ mL) (s _ _ iL) rfl rfl rfl (by simpa using cs) (q H' (Same.refl _))
    · have z : toldSame gs (fs.getD i dflt) = false := by
        unfold toldSame
        cases zz : findF gs (fs.getD i dflt).1 with
        | none => rfl
        | some e => rw [zz] at cs; exact absurd rfl cs
      rw [z] at q
      exact q H' (Same.refl _)
  · rw [took_all (fun f => V.bl (toldSame gs f)) dflt fs _ dlen1] at e2
    have nDm : D ≠ qm := Ne.symm (ne_of_none mL hD)
    have sU := unlocked mB s2
    have eU2 : (upd H2 qm (.dK (dictF fs))) D = some (.lst ((fs.map (toldSame gs)).map V.bl)) := by rw [upd_ne nDm, e2, List.map_map]; rfl
    have mU : (upd H2 qm (.dK (dictF fs))) qm = some (.dK (dictF fs)) := upd_same
    generalize (upd H2 qm (.dK (dictF fs))) = HU at sU eU2 mU ⊢
    have sH := sA.trans (sB.trans sU)
    have iU := sU _ _ iB
    have lU := lB.same sU
    have rU := rB.same sU
    have eqb := eqF_told sm1.nodup sm2.nodup
    obtain ⟨dxl, pal, nal, val, sal, psl, ssl, x1, _⟩ := id lU
    -- (left == right) != (..)
    refine ⟨_, rfl, _, rfl, xl, dxl, _, .ref C, rfl, x1, factsAt_ty rU Z.c Z.ct, hnf, xl, .ref xr, srt fs, rfl, lU, g1.srt, .inr ⟨xr, srt gs, rfl, rU, g2.srt, ?_⟩⟩
    refine andV_pure (b1 := decide (fs.length = gs.length)) (b2 := fs.all (toldSame gs)) (fun R r => ?_) (fun _ R r => ?_) ?_
    · refine ⟨_, rfl, qm, _, rfl, .inl mU, _, rfl, qi, _, rfl, .inl iU, rfl, ?_⟩
      have e : decide (V.int ((dictF fs).length : Nat) = V.int ((dictF gs).length : Nat)) = decide (fs.length = gs.length) := by
        unfold dictF
        rw [List.length_map, List.length_map, dec_int]
        by_cases h : fs.length = gs.length
        · simp [h]
        · simp [h]
          omega
      rw [e]
      exact r
    · refine ⟨_, rfl, D, _, rfl, SqL.of eU2, ?_⟩
      have e : (fs.map (toldSame gs)).all id = fs.all (toldSame gs) := by rw [List.all_map]; rfl
      rw [e]
      exact r
    · rw [eqb]
      refine ⟨rfl, _, rfl, ite2 (fun z => absurd z (by simp)) (fun _ => ?_)⟩
      -- wrong = sorted([..])
      refine ⟨qm, _, mU, trivial, fun od2 => ?_⟩
      have mL2 : (upd HU qm (.frz od2 (.dK (dictF fs)))) qm = some (.frz od2 (.dK (dictF fs))) := upd_same
      have iL2 : (upd HU qm (.frz od2 (.dK (dictF fs)))) qi = some (.dK (dictF gs)) := by rw [upd_ne (Ne.symm nmi)]; exact iU
      refine ⟨_, rfl, qm, od2, rfl, .inl ⟨dictF fs, mL2, fun D3 hD3 => lc_addK (p := fun i => unl gs (fs.getD i dflt)) (f := fun i => V.str (fs.getD i dflt).1) hD3 mL2 dl1 (fun i kk v H' Q' ek s k => ?_) (fun i kk v H' Q' ek _ s q => ?_) fun H3 s3 e3 => ⟨s3 _ _ mL2, ?_⟩⟩⟩
      · obtain ⟨hil, ekk, hmem⟩ := dictF_at ek
        have gi := dget_facts (s _ _ iL2) (fs.getD i dflt).1
        have e9 : L2.kV kk = V.str (fs.getD i dflt).1 := by rw [ekk]; rfl
        rw [← e9] at gi
        refine ⟨_, rfl, _, rfl, qi, _, rfl, gi, _, rfl, ?_⟩
        refine ite2 (fun cs => ?_) (fun cs => ?_)
        · have hs : (findF gs (fs.getD i dflt).1).isSome = true := by simpa using cs
          refine told ek (s _ _ mL2) (s _ _ iL2) rfl rfl rfl hs ⟨_, rfl, ?_⟩
          show Q' (!toldSame gs (fs.getD i dflt)) H'
          rw [← unl_told hs]
          exact k H' (Same.refl _)
        · have hs : ¬ (findF gs (fs.getD i dflt).1).isSome = true := by simpa using cs
          have z := unl_none hs
          have k2 := k H' (Same.refl _)
          rw [z] at k2
          exact k2
      · obtain ⟨hil, ekk, hmem⟩ := dictF_at ek
        have e9 : L2.kV kk = V.str (fs.getD i dflt).1 := by rw [ekk]; rfl
        refine ⟨_, rfl, ?_⟩
        rw [e9]
        exact q H' (Same.refl _)
      · rw [dlen1, took_list (unl gs) (fun f => V.str f.1) dflt fs] at e3
        have nD3 : D3 ≠ qm := Ne.symm (ne_of_none mL2 hD3)
        have sU3 := unlocked mU s3
        have eU3 : (upd H3 qm (.dK (dictF fs))) D3 = some (.lst (((fs.filter (unl gs)).map (·.1)).map V.str)) := by rw [upd_ne nD3, e3, List.map_map]; rfl
        have mU3 : (upd H3 qm (.dK (dictF fs))) qm = some (.dK (dictF fs)) := upd_same
        generalize (upd H3 qm (.dK (dictF fs))) = HW at sU3 eU3 mU3 ⊢
        have fl := List.length_filter_le (unl gs) fs
        refine ⟨D3, (fs.filter (unl gs)).map (·.1), rfl, SqL.of eU3, by rw [List.length_map]; omega, fun ys pw hpm hso hpw => ?_⟩
        have eys := sorted_names hpm hso
        subst eys
        have sW := same_new (o := .lst (((srt (fs.filter (unl gs))).map (·.1)).map V.str)) hpw
        have eW : (upd HW pw (.lst (((srt (fs.filter (unl gs))).map (·.1)).map V.str))) pw = some (.lst (((srt (fs.filter (unl gs))).map (·.1)).map V.str)) := upd_same
        generalize (upd HW pw (.lst (((srt (fs.filter (unl gs))).map (·.1)).map V.str))) = HX at sW eW ⊢
        have sUX := sU3.trans sW
        have mX := sW _ _ mU3
        have iX := sUX _ _ iU
        have lX := lU.same sUX
        have rX := rU.same sUX
        have sHX := sH.trans sUX
        have tX := hT.ext sHX
        obtain ⟨dx1, pa1, na1, va1, sa1, qs1, ss1, y1, y2, y3, _⟩ := id lX
        obtain ⟨dx2, pa2, na2, va2, sa2, qs2, ss2, z1, _⟩ := id rX
        have fu := first_unl sm1.nodup sm2.nodup
        have smW : SmallF (srt (fs.filter (unl gs))) := (sm1.sub List.filter_sublist).perm (srt_perm _)
        -- if wrong != []
        refine ⟨_, rfl, Nat.zero_le _, fun pe hpe => ⟨.list (((srt (fs.filter (unl gs))).map (·.1)).map .str), .list [], .lst (same_L (same_new hpe) (SqL.of eW)) (dp_strs _), .lst (SqL.of upd_same) .nil, shaped_strs fun n hn => ?_, rfl, _, rfl, ?_⟩⟩
        · obtain ⟨f, hf, rfl⟩ := List.mem_map.mp hn
          exact names7_lay _ (smW.nam f hf)
        · have sPE := same_new (o := .lst []) hpe
          have eWE := sPE _ _ eW
          generalize (upd HX pe (.lst [])) = HE at sPE eWE ⊢
          have lE := lX.same sPE
          have rE := rX.same sPE
          have tE := tX.ext sPE
          have mE := sPE _ _ mX
          have iE := sPE _ _ iX
          have sHE := sHX.trans sPE
          have y1E := sPE _ _ y1
          have z1E := sPE _ _ z1
          refine ite2 (fun cw => ?_) (fun cw => ?_)
          · have hne : srt (fs.filter (unl gs)) ≠ [] := fun e => by
              rw [e] at cw
              cases cw
            obtain ⟨f0, rest, e0⟩ := List.exists_cons_of_ne_nil hne
            have hfind : (srt fs).find? (unl (srt gs)) = some f0 := by rw [fu, e0]; rfl
            have m0 : f0.1 ∈ names7 := smW.nam f0 (by rw [e0]; exact List.mem_cons_self)
            have sh := unlike_shows m0
            -- repr(caught(lambda: left | right))
            refine ⟨tE, fun H5 e5 t5 => ⟨_, rfl, _, rfl, xl, dx1, _, xr, dx2, _, rfl, rfl, e5 _ _ y1E (fun _ z => nomatch z), e5 _ _ z1E (fun _ z => nomatch z), xl, xr, srt fs, srt gs, rfl, lE.ext e5, rE.ext e5, g1.srt, g2.srt, by rw [srt_length, srt_length]; omega, fun z => ?_, fun f hf dd H6 s6 hdd0 hdd => ?_⟩⟩
            · rw [hfind] at z
              cases z
            · rw [hfind] at hf
              cases hf
              refine ⟨"unlike", dd, .str f0.1, .inr (.inr ⟨rfl, rfl, eU⟩), rfl, hdd, fun r H7 s7 hr7 hy7 hr7' => ?_⟩
              have e7 : LamX.ExtN HE H7 := e5.trans (ext_same (s6.trans s7))
              have t7 : LamX.Tabs TT H7 := t5.ext (s6.trans s7)
              refine ⟨_, .list [.str "unlike", .str f0.1], rfl, .lst (SqL.of hr7') hy7 (.cons (.str _) (.cons (.str _) .nil)), sh.showable, sh.len, sh.depth, sh.int, ?_⟩
              refine ⟨_, rfl, pw, _, 0, .str f0.1, rfl, rfl, SqL.of (e7 _ _ eWE fun _ z => nomatch z), by rw [e0]; exact atI_nat (j := 0) rfl, by show 2 ≤ sizeLine; decide, fun r8 hr8 hy8 => ?_⟩
              have s8 := same_new (o := .lst [.str "unlike", .str f0.1]) hr8
              refine ⟨_, .list [.str "unlike", .str f0.1], rfl, .lst (SqL.of upd_same) hy8 (.cons (.str _) (.cons (.str _) .nil)), sh.showable, sh.len, sh.depth, sh.int, rfl, ?_⟩
              have tru : decide (V.str (PyData.list [.str "unlike", .str f0.1]).shown = V.str (PyData.list [.str "unlike", .str f0.1]).shown) = true := by simp
              rw [tru]
              exact k _ ((ext_same sHE).trans (e7.trans (ext_same s8))) (t7.ext s8)
          · have hnil : srt (fs.filter (unl gs)) = [] := by
              cases e : srt (fs.filter (unl gs)) with
              | nil => rfl
              | cons a r =>
                rw [e] at cw
                exact absurd rfl cw
            have hfind : (srt fs).find? (unl (srt gs)) = none := by rw [fu, hnil]; rfl
            have hm := merge_both g1 g2 hfind
            have smj := sm1.join sm2
            have smsj : SmallF (srt (joinF fs gs)) := smj.perm (srt_perm _)
            have lj := smj.len
            have esj := srt_join g1 g2 (by omega)
            have dl2 : (dictF gs).length = gs.length := by unfold dictF; rw [List.length_map]
            -- both = dict(list(mine.items()) + list(its.items()))
            refine ⟨_, rfl, qm, dictF fs, rfl, mE, fun H5 l1 ts1 k5 hl1 ht1 nl1 e5 P1 => ⟨_, rfl, qi, dictF gs, rfl, k5 _ _ iE, fun H6 l2 ts2 k6 hl2 ht2 nl2 e6 P2 => ⟨l1, l2, _, _, rfl, rfl, k6 _ _ e5, e6, ?_, fun l3 hl3 => ⟨l3, ts1 ++ ts2, dictF fs ++ dictF gs, rfl, SqL.of (by rw [upd_same, List.map_append]), ?_, fun q3 hq3 => ?_⟩⟩⟩⟩
            · rw [List.length_map, List.length_map, P1.length, P2.length, dlen1, dl2, sizeLine_eq]
              omega
            · exact paired_app (paired_imp (fun t q h => SqT.of (same_new hl3 _ _ (k6 _ _ h))) P1) (paired_imp (fun t q h => SqT.of (same_new hl3 _ _ h)) P2)
            · rw [hm]
              have sJ : Same HE (upd (upd H6 l3 (.lst (ts1.map V.ref ++ ts2.map V.ref))) q3 (.dK (dictF (joinF fs gs)))) := Same.trans (show Same HE H6 from fun b o e => k6 _ _ (k5 b o e)) ((same_new hl3).trans (same_new hq3))
              have dJ : (upd (upd H6 l3 (.lst (ts1.map V.ref ++ ts2.map V.ref))) q3 (.dK (dictF (joinF fs gs)))) q3 = some (.dK (dictF (joinF fs gs))) := upd_same
              generalize (upd (upd H6 l3 (.lst (ts1.map V.ref ++ ts2.map V.ref))) q3 (.dK (dictF (joinF fs gs)))) = HJ at sJ dJ ⊢
              generalize joinF fs gs = js at hm smj smsj lj esj dJ
              have gj := smsj.good
              have lJ := lE.same sJ
              have rJ := rE.same sJ
              have tJ := tE.ext sJ
              have sHJ := sHE.trans sJ
              have nameAt : ∀ {i : Nat} {v : V}, (((srt js).map (·.1)).map V.str)[i]? = some v → i < (srt js).length ∧ v = .str ((srt js).getD i dflt).1 := fun {i v} e => by
                rw [List.map_map, List.getElem?_map] at e
                cases z : (srt js)[i]? with
                | none => rw [z] at e; cases e
                | some g =>
                  rw [z] at e
                  have hi := (List.getElem?_eq_some_iff.mp z).1
                  refine ⟨hi, ?_⟩
                  have e2 : (srt js).getD i dflt = g := by simp [List.getD, z]
                  rw [e2]
                  exact (Option.some.inj e).symm
              have ownAt : ∀ {Hx : Hp} {i : Nat}, Hx q3 = some (.dK (dictF js)) → i < (srt js).length → DGet Hx q3 (.str ((srt js).getD i dflt).1) (some (vD ((srt js).getD i dflt).2)) := fun {Hx i} e hi => by
                have e2 : (srt js).getD i dflt = (srt js)[i] := by simp [List.getD, List.getElem?_eq_getElem hi]
                have m : (srt js)[i] ∈ js := (srt_perm js).mem_iff.mp (List.getElem_mem hi)
                have z := dget_facts e ((srt js)[i]).1
                rw [findF_some smj.nodup m] at z
                rw [e2]
                exact z
              have pairAt : ∀ {Hx : Hp} {D p3 : Addr} {i : Nat} {acc : List V}, Hx D = some (.lst acc) → Hx p3 = none → Dq K (hid (upd Hx p3 (.tup [.str ((srt js).getD i dflt).1, vD ((srt js).getD i dflt).2])) D) (.ref p3) (pairD ((srt js).getD i dflt)) := fun {Hx D p3 i acc} eD hn => by
                have np : p3 ≠ D := Ne.symm (ne_of_none eD hn)
                exact .tup (SqT.of (by rw [hid_ne np, upd_same])) (.cons (.str _) (.cons (dq_flat K _ (flats_getD gj.flat i)) .nil))
              have nlen : (((srt js).map (·.1)).map V.str).length = (srt js).length := by rw [List.length_map, List.length_map]
              have nlz : (((srt js).map (·.1)).map V.str).length < sizeLine := by rw [nlen, srt_length, sizeLine_eq]; omega
              have klen : (js.map (·.1)).length < 64 := by rw [List.length_map]; omega
              -- repr((left | right).pairs) != repr(tuple([..]))
              refine ⟨_, rfl, _, rfl, xl, dx1, _, xr, dx2, _, rfl, rfl, sJ _ _ y1E, sJ _ _ z1E, xl, xr, srt fs, srt gs, rfl, lJ, rJ, g1.srt, g2.srt, by rw [srt_length, srt_length]; omega, fun _ a9 H9 s9 f9 => ?_, fun f hf => by rw [hfind] at hf; cases hf⟩
              rw [esj] at f9
              obtain ⟨dx9, pa9, na9, va9, sa9, qs9, ss9, v1, v2, v3, _⟩ := id f9
              refine ⟨a9, C, dx9, _, _, rfl, v1, Z.c.cls, Z.c.pairs, rfl, _, .tuple ((srt js).map pairD), rfl, .tup v2 v3, smsj.pairs_show.showable, smsj.pairs_show.len, smsj.pairs_show.depth, smsj.pairs_show.int, ?_⟩
              refine ⟨_, rfl, q3, dictF js, js.map (·.1), rfl, .inl (s9 _ _ dJ), dictF_keys js, klen, fun ys p2 hpm hso hp2 => ?_⟩
              have eys := sorted_names hpm hso
              subst eys
              refine ⟨p2, rfl, ⟨_, SqL.of upd_same⟩, fun D hD => lc_dqL (p := fun _ => true) (df := fun i => pairD ((srt js).getD i dflt)) hD (SqL.of upd_same) nlz (fun i v H' Q' hv s k => k H' (Same.refl _)) (fun i v H' Q' hv _ s eD k => ?_) fun H2 ws s2 e2 d2 => ?_⟩
              · obtain ⟨hi, rfl⟩ := nameAt hv
                obtain ⟨acc, eD⟩ := eD
                exact ⟨_, rfl, _, rfl, _, rfl, q3, _, rfl, ownAt (s _ _ (same_new hp2 _ _ (s9 _ _ dJ))) hi, by show 2 ≤ sizeLine; decide, fun p3 hp3 => k _ _ (same_new hp3) (pairAt eD hp3)⟩
              · rw [tookG_list (fun _ => true) pairD dflt (srt js) _ nlen, List.filter_eq_self.mpr fun _ _ => rfl] at d2
                have sW := (same_new (o := .lst (((srt js).map (·.1)).map V.str)) hp2).trans s2
                refine ⟨D, ws, rfl, .inl ⟨SqL.of e2, fun t2 ht2 => ?_⟩⟩
                refine ⟨_, .tuple ((srt js).map pairD), rfl, .tup (SqT.of upd_same) (Dq.sameAll (same_new ht2) _ _ d2), smsj.pairs_show.showable, smsj.pairs_show.len, smsj.pairs_show.depth, smsj.pairs_show.int, rfl, _, rfl, ?_⟩
                refine ite2 (fun z => absurd z (by simp)) (fun _ => ?_)
                have sV := s9.trans (sW.trans (same_new (o := .tup ws) ht2))
                generalize (upd H2 t2 (.tup ws)) = HV at sV ⊢
                have sHV := sHJ.trans sV
                have lV := lJ.same sV
                have tV := tJ.ext sV
                have sms1 : SmallF (srt fs) := sm1.perm (srt_perm fs)
                obtain ⟨dx5, pa5, na5, va5, sa5, qs5, ss5, u1, u2, u3, _⟩ := id lV
                -- repr(left.pairs) == repr(tuple(sorted(one, key=..)))
                refine ⟨_, rfl, xl, C, dx5, _, _, rfl, u1, Z.c.cls, Z.c.pairs, rfl, _, .tuple ((srt fs).map pairD), rfl, .tup u2 u3, sms1.pairs_show.showable, sms1.pairs_show.len, sms1.pairs_show.depth, sms1.pairs_show.int, ?_⟩
                have h1d' := Dq.sameAll sHV _ _ h1d
                refine ⟨_, rfl, tV, p1, _, fs.map (fun f : Str × PyData => (f.1, vD f.2)), rfl, .inr (same_T sHV h1t.seq), dq_keys h1d' g1.flat, fun zs p5 H5' e5' t5' hperm hsrt hp5 => ?_⟩
                refine ⟨p5, _, rfl, .inl ⟨SqL.of upd_same, fun t6 ht6 => ?_⟩⟩
                have s6 := (same_new (o := .lst (zs.map (·.1))) hp5).trans (same_new (o := .tup (zs.map (·.1))) ht6)
                have dz := Dq.sameAll s6 _ _ (Dq.extAll e5' _ _ (sorted_facts h1d' sm1.nodup hperm hsrt))
                refine ⟨_, .tuple ((srt fs).map pairD), rfl, .tup (SqT.of upd_same) dz, sms1.pairs_show.showable, sms1.pairs_show.len, sms1.pairs_show.depth, sms1.pairs_show.int, rfl, ?_⟩
                have tru : decide (V.str (PyData.tuple ((srt fs).map pairD)).shown = V.str (PyData.tuple ((srt fs).map pairD)).shown) = true := by simp
                rw [tru]
                exact k _ ((ext_same sHV).trans (e5'.trans (ext_same s6))) (t5'.ext s6)
end
end Kx
namespace Kx
open PySem PySem.Spec L2 Vx
def spTwo (K : PySem.W.Frag) (TT : List (Addr × Str)) : Sp := fun vs H Q _ => ∃ (p1 p2 : Addr) (ps1 ps2 : List V) (fs gs : Fs), vs = [.ref p1, .ref p2] ∧ Tup0 H p1 ps1 ∧ DqAll K H ps1 (fs.map pairD) ∧ SmallF fs ∧ Tup0 H p2 ps2 ∧ DqAll K H ps2 (gs.map pairD) ∧ SmallF gs ∧ LamX.Tabs TT H ∧
  ∀ (H' : Hp), LamX.ExtN H H' → LamX.Tabs TT H' → Q (.bl true) H'
section
variable {P : Program} {w : World} {K : PySem.W.Frag} {mg : Str → Option Value} {base : Heap}
theorem ok_two {f fS fC cO PO_ C CB CN CU CA : Addr} {fd fdS fdC : FuncData} {TT : List (Addr × Str)} (F : FunL K "_law_two_right" "_law_two_right" sTwo f fd cO)
    (T : TxtW K mg) (Z : Kit2 P w K mg base C CB CN CU)
    (GS : FnOk P w K mg base CX0 1 fS fdS ["one", "other"] (spSame K)) (gS : mg "_law_same" = some (.ref fS)) (kS : PySem.W.keepIn K (.ref fS) = true) (bS : Binds K fdS ["one", "other"] [])
    (FC : Fun K "_law_caught" "_law_caught" sCaught fC fdC) (gC' : mg "_law_caught" = some (.ref fC)) (bC : L2.Binds K fdC ["ask"] []) (TC : TxtC mg CA CB CN CU)
    (TB : LamX.TabB base mg cO PO_) (hmT : (PO_, lamN "_law_two_right") ∈ TT) (huT : ∀ p ∈ TT, p.1 = PO_ → p.2 = lamN "_law_two_right") (eU : ErrT K CA CB CN CU CU false false true) (hnf : PySem.W.notFirst K C (.ref C) = true) :
    FnG P w K mg base 10 f fd ["one", "other"] (spTwo K TT) := by
  refine fun_okGL F scTwo (fun vs H Q E h => ?_) (fun A outer s H vs Q hg hr h => ?_)
  · obtain ⟨p1, p2, ps1, ps2, fs, gs, rfl, _⟩ := h
    rfl
  · obtain ⟨p1, p2, ps1, ps2, fs, gs, rfl, h1t, h1d, sm1, h2t, h2d, sm2, hT, k⟩ := h
    exact two_reads (fd := fd) T Z hg hr GS gS kS bS FC gC' bC TC TB hmT eU hnf hT h1t h1d sm1 h2t h2d sm2 k huT
end
end Kx
namespace Vx
open PySem PySem.Spec PyProof.Rows L2
/-! ### displays of data -/
def MkS (K : PySem.W.Frag) (σ : L2.St) (H : Hp) (te : TE) (d : PyData) : Prop := ∀ (H1 : Hp), Same H H1 → ∀ Q : VK, (∀ v H', Same H1 H' → Dq K H' v d → Q v H') → te σ H1 Q
def MkA (K : PySem.W.Frag) (σ : L2.St) (H : Hp) (t : TA) (ds : List PyData) : Prop := ∀ (H1 : Hp), Same H H1 → ∀ Q : List V → Hp → Prop, (∀ vs H', Same H1 H' → DqAll K H' vs ds → Q vs H') → t σ H1 Q
section
variable {K : PySem.W.Frag} {σ : L2.St} {H : Hp}
theorem mk_str {x : Str} : MkS K σ H (tC (.str x)) (.str x) := fun H1 _ Q q => q _ H1 (Same.refl _) (.str _)
theorem mk_int {i : Int} : MkS K σ H (tC (.int i)) (.int i) := fun H1 _ Q q => q _ H1 (Same.refl _) (.int _)
theorem mk_bl {b : Bool} : MkS K σ H (tC (.bl b)) (.bool b) := fun H1 _ Q q => q _ H1 (Same.refl _) (.bl _)
theorem mk_non : MkS K σ H (tC .non) .none := fun H1 _ Q q => q _ H1 (Same.refl _) .non
theorem mka_nil : MkA K σ H tNil [] := fun H1 _ Q q => q _ H1 (Same.refl _) .nil
theorem mka_cons {te : TE} {t : TA} {d : PyData} {ds : List PyData} (a : MkS K σ H te d) (b : MkA K σ H t ds) : MkA K σ H (tCons te t) (d :: ds) := fun H1 s Q q =>
  a H1 s _ fun v H2 s2 hd => b H2 (s.trans s2) _ fun vs H3 s3 hds => q _ H3 (s2.trans s3) (.cons (Dq.same s3 _ _ hd) hds)
theorem mk_tup {t : TA} {ds : List PyData} (a : MkA K σ H t ds) (hl : ds.length ≤ 1000 := by decide) : MkS K σ H (tTup t) (.tuple ds) := fun H1 s Q q =>
  a H1 s _ fun vs H2 s2 hd => ⟨by rw [hd.len, sizeLine_eq]; omega, fun p hp => q _ _ (s2.trans (same_new hp)) (.tup (SqT.of upd_same) (Dq.sameAll (same_new hp) _ _ hd))⟩
theorem mk_lst {t : TA} {ds : List PyData} (a : MkA K σ H t ds) (hl : ds.length ≤ 1000 := by decide) : MkS K σ H (tLstB t) (.list ds) := fun H1 s Q q =>
  a H1 s _ fun vs H2 s2 hd => ⟨by rw [hd.len, sizeLine_eq]; omega, fun p hp hy => q _ _ (s2.trans (same_new hp)) (.lst (SqL.of upd_same) hy (Dq.sameAll (same_new hp) _ _ hd))⟩
theorem mk_emp : MkS K σ H tDNewK (.dict []) := fun H1 s Q q p hp => q _ _ (same_new hp) (.emp upd_same)
end
/-! ### list(l) that isn't the table of modules -/
section
variable {X : Cx}
def rListB (K : PySem.W.Frag) : List V → Hp → VK → Prop := fun xs H Q => ∃ p ys, xs = [.ref p] ∧ (SqL K H p ys ∨ SqT K H p ys) ∧ ∀ l, H l = none → (l == sysModules) = false → Q (.ref l) (upd H l (.lst ys))
theorem call_listB : CallR X (.type "list") (rListB X.K) := by
  intro pins s σ H xs us Q I r h
  obtain ⟨p, ys, rfl, hq, q⟩ := h
  obtain ⟨u, rfl, rx⟩ := vals1 r
  cases rx
  have hm : (s.heap.objs.size == sysModules) = false := beq_eq_false_iff_ne.mpr (Nat.ne_of_gt I.big)
  have fin : ∀ (its : List Value), Vals ys its → ys.length ≤ sizeLine → ∀ (h' : Heap) (c' : Nat), (∀ b o', s.heap.get? b = some o' → h'.get? b = some o') →
      h'.get? s.heap.objs.size = some { cls := .type "list", dict := none, data := .seq its.toArray c', slots := #[] } → EP X pins σ Q (.ref s.heap.objs.size) { s with heap := h' } := fun its r' hz h' c' kp e =>
    ⟨.ref s.heap.objs.size, _, I.laid (t' := s.toks) kp (Nat.le_refl _) (show ObjOk X.prog X.w _ h' _ (.lst ys) from ⟨hz, its, c', r', e⟩), rfl, q _ (I.hok.fresh (Nat.le_refl _)) hm⟩
  rcases hq with hq | hq
  · obtain ⟨its, r', pl, hz⟩ := I.list hq
    have hlen := r'.length
    obtain ⟨o, ho, hc, n, hd⟩ := pl.isList
    exact call_list_seq p (.inl rfl) ho hc hd (fun h' c' kp e => fin its r' hz h' c' kp e) (by simp only [List.size_toArray] <;> omega)
  · obtain ⟨its, r', pl, hz⟩ := I.tuple hq
    have hlen := r'.length
    obtain ⟨o, ho, hc, n, hd⟩ := pl
    exact call_list_seq p (.inr rfl) ho hc hd (fun h' c' kp e => fin its r' hz h' c' kp e) (by simp only [List.size_toArray] <;> omega)
/-! ### a slice of a tuple of any kind -/
def rSlA0 (K : PySem.W.Frag) : V → Option Int → Option Int → Hp → VK → Prop := fun x lo hi H Q => ∃ a xs, x = .ref a ∧ SqT K H a xs ∧
  (HT.sIx xs.length 0 lo = 0 ∧ HT.sIx xs.length xs.length hi = xs.length → Q (.ref a) H) ∧ (¬ (HT.sIx xs.length 0 lo = 0 ∧ HT.sIx xs.length xs.length hi = xs.length) → ∀ p o, H p = none → o.dict = none → Q (.ref p) (upd H p (.frz o (.tup (cutV xs lo hi)))))
theorem sl_tupA0 : SlR X (rSlA0 X.K) := by
  intro pins s σ H x v vl vu lo hi sl Q I rx hs pl pu h
  obtain ⟨a, xs, rfl, hx, q1, q2⟩ := h
  by_cases hw : HT.sIx xs.length 0 lo = 0 ∧ HT.sIx xs.length xs.length hi = xs.length
  · cases rx
    obtain ⟨its, r, ht, hz⟩ := I.tuple hx
    have hlen : its.toArray.size = xs.length := by rw [List.size_toArray]; exact r.length.symm
    refine ⟨"tuple", _, PyProof.Rows.slot_tuple_getitem.lookup, ht.typeIs, ?_⟩
    exact getItem_tuple_whole ht hs pl pu (by rw [hlen]; exact hw) ⟨.ref a, H, I, rfl, q1 hw⟩
  · exact sl_tup0 pins s σ H _ v vl vu lo hi sl Q I rx hs pl pu ⟨a, xs, rfl, hx, hw, q2 hw⟩
end
/-! ### tables -/
theorem tabs_lst {TT : List (Addr × Str)} {H : Hp} {D : Addr} {xs ys : List V} (h : LamX.Tabs TT H) (e : H D = some (.lst xs)) : LamX.Tabs TT (upd H D (.lst ys)) := by
  intro p hp
  obtain ⟨ps, h1, h2, h3⟩ := h p hp
  refine ⟨ps, ?_, h2, fun pos cv hc => ?_⟩
  · rw [upd_ne (ne_of h1 e fun z => nomatch z)]
    exact h1
  · obtain ⟨c, e1, e2⟩ := h3 pos cv hc
    refine ⟨c, e1, ?_⟩
    rw [upd_ne (ne_of e2 e fun z => nomatch z)]
    exact e2
/-! ### [e for x in xs], all true -/
theorem lc_trueL {K : PySem.W.Frag} {a : Addr} {xs : List V} {σ : L2.St} {H1 : Hp} {D : Addr} {j : Nat} {te : TE} {Qd : Hp → Prop} (J : Nat → Hp → Prop) (hn : xs.length < sizeLine) (h0 : J 0 (upd H1 D (.lst []))) (hs : ∀ i H, J i H → SqL K H a xs)
    (st : ∀ i H acc acc', J i H → H D = some (.lst acc) → J i (upd H D (.lst acc')))
    (he : ∀ (i : Nat) (x : V) (H : Hp) (Q' : VK), xs[i]? = some x → J i H → (∃ acc, H D = some (.lst acc)) → (∀ H', J (i + 1) H' → (∀ acc, H D = some (.lst acc) → H' D = some (.lst acc)) → Q' (.bl true) H') → te ((wipe σ [j]).set j (some x)) H Q')
    (q : ∀ H2, J xs.length H2 → H2 D = some (.lst ((List.replicate xs.length true).map V.bl)) → Qd H2) :
    ∃ W : Nat → Nat → Hp → Prop, (∃ m, W 0 m (upd H1 D (.lst []))) ∧ ∀ i m H, W i m H →
      ((Itl K a).stop i H ∧ Qd H) ∨ ((Itl K a).go i H ∧ ∃ Nx : Hp → Prop, (∀ H', Nx H' → ∃ m', m' < m ∧ W (i + 1) m' H') ∧ ∀ x H', (Itl K a).yld i H x H' → gName j x (wipe σ [j]) H' fun σ2 H2 => wipe σ2 [j] = wipe σ [j] ∧ tYes σ2 H2 fun b H3 =>
        if b = true then te σ2 H3 fun y H4 => ∃ acc, H4 D = some (.lst acc) ∧ acc.length < sizeLine ∧ Nx (upd H4 D (.lst (acc ++ [y]))) else Nx H3) := by
  refine lc_list (K := K) (a := a) (xs := xs) (Qd := Qd) (fun i H => J i H ∧ H D = some (.lst ((List.replicate i true).map V.bl))) ⟨h0, by rw [upd_same]; rfl⟩ (fun i H _ A => hs i H A.1) (fun i x H hx A => ?_) fun H A => q H A.1 A.2
  have hi : i < xs.length := (List.getElem?_eq_some_iff.mp hx).1
  refine ⟨by simp [wipe], ?_⟩
  unfold tYes
  dsimp only
  rw [if_pos rfl]
  refine he i x H _ hx A.1 ⟨_, A.2⟩ fun H' a k => ?_
  have e := k _ A.2
  refine ⟨_, e, by rw [List.length_map, List.length_replicate]; omega, st _ _ _ _ a e, ?_⟩
  rw [upd_same, List.replicate_succ', List.map_append]
  rfl
theorem all_true (n : Nat) : (List.replicate n true).all id = true := by
  rw [List.all_eq_true]
  intro b hb
  exact (List.mem_replicate.mp hb).2
/-! ### what repr asks of the things -/
theorem small_list {ds : List PyData} {w : Nat} (h : ∀ d ∈ ds, Small1 d w) (hd : PyData.depthAll ds ≤ 9) : Small1 (.list ds) (ds.length * (w + 1)) := by
  obtain ⟨a, b, c, e, f⟩ := small_all h
  exact ⟨by rw [PyData.canLay0]; exact a, by rw [PyData.weight]; exact b, by rw [PyData.depth]; omega, by rw [PyData.intsShort]; exact e, by rw [PyData.showable]; exact f⟩
theorem Small1.up {d : PyData} {w w' : Nat} (h : Small1 d w) (k : w ≤ w') : Small1 d w' := ⟨h.lay, Nat.le_trans h.wt k, h.dp, h.sh, h.sw⟩
def small1B (d : PyData) (w : Nat) : Bool := d.canLay0 && decide (d.weight ≤ w) && decide (d.depth ≤ 10) && d.intsShort 13 && d.showable
theorem small1_of {d : PyData} {w : Nat} (h : small1B d w = true) : Small1 d w := by
  simp only [small1B, Bool.and_eq_true, decide_eq_true_eq] at h
  obtain ⟨⟨⟨⟨a, b⟩, c⟩, e⟩, f⟩ := h
  exact ⟨a, b, c, e, f⟩
theorem facts_shows {d : PyData} {w : Nat} (h : Small1 d w) (hw : w ≤ 10000) (h50 : 50 ≤ w) : Shows (.list [.str "facts", d]) := by
  refine shows_list (w := w) (fun e he => ?_) (by show 2 * (w + 1) ≤ 2 ^ 20; omega)
  simp only [List.mem_cons, List.not_mem_nil, or_false] at he
  rcases he with rfl | rfl
  · exact (small1_of (w := 50) (by decide +kernel)).up h50
  · exact h
theorem pairs_small {fs : Fs} (s : SmallF fs) : ∀ d ∈ fs.map pairD, Small1 d 102 := fun d hd => by
  obtain ⟨f, hf, rfl⟩ := List.mem_map.mp hd
  exact small_pair (s.nam f hf) (s.val f hf)
theorem pairs_depth {fs : Fs} (s : SmallF fs) : PyData.depthAll (fs.map pairD) ≤ 1 := depthAll_le fun d hd => by
  obtain ⟨f, hf, rfl⟩ := List.mem_map.mp hd
  have := (small_val (s.val f hf)).2
  simp [pairD, PyData.depth, PyData.depthAll, this]
end Vx
namespace Vx
open PySem PySem.Spec PyProof.Rows L2
section
variable {K : PySem.W.Frag} {σ : L2.St} {H : Hp}
theorem mk_var {i : Nat} {v : V} {d : PyData} (e : σ[i]? = some (some v)) (h : Dq K H v d) : MkS K σ H (tVar i) d := fun H1 s Q q => ⟨v, e, q v H1 (Same.refl _) (Dq.same s _ _ h)⟩
theorem mk_listT {te : TE} {ds : List PyData} (a : MkS K σ H te (.tuple ds)) : MkS K σ H (tCB (rListB K) (tCons te tNil)) (.list ds) := fun H1 s Q q =>
  a H1 s _ fun v H2 s2 hd => by
    obtain ⟨p, xs, ds', rfl, e, hs, ha⟩ := hd.tupled rfl
    injection e with e
    subst e
    exact ⟨p, xs, rfl, .inr hs, fun l hl hy => q _ _ (s2.trans (same_new hl)) (.lst (SqL.of upd_same) hy (Dq.sameAll (same_new hl) _ _ ha))⟩
theorem mk_cat {te tf : TE} {ds es : List PyData} (a : MkS K σ H te (.tuple ds)) (b : MkS K σ H tf (.tuple es)) (hl : ds.length + es.length ≤ 1000) : MkS K σ H (tOp (rCatA K) te tf) (.tuple (ds ++ es)) := fun H1 s Q q =>
  a H1 s _ fun v H2 s2 hd => b H2 (s.trans s2) _ fun u H3 s3 he => by
    obtain ⟨p, xs, ds', rfl, e, hs, ha⟩ := hd.tupled rfl
    injection e with e
    subst e
    obtain ⟨p', ys, es', rfl, e, hs', ha'⟩ := he.tupled rfl
    injection e with e
    subst e
    have l1 := ha.len
    have l2 := ha'.len
    have hs3 := same_T s3 hs
    have ha3 := Dq.sameAll s3 _ _ ha
    have hc := DqAll.append ha' ha3
    refine ⟨p, p', xs, ys, rfl, rfl, hs3, hs', by rw [sizeLine_eq]; omega, fun ex => ?_, fun _ ey => ?_, fun _ _ r hr => ?_⟩
    · refine q _ _ (s2.trans s3) (.tup (xs := xs ++ ys) ?_ hc)
      rw [ex]
      exact hs'
    · refine q _ _ (s2.trans s3) (.tup (xs := xs ++ ys) ?_ hc)
      rw [ey, List.append_nil]
      exact hs3
    · exact q _ _ ((s2.trans s3).trans (same_new hr)) (.tup (SqT.of upd_same) (Dq.sameAll (same_new hr) _ _ hc))
end
/-- a lot of facts -/
def LotAt (K : PySem.W.Frag) (H : Hp) (p : Addr) : Prop := ∃ (ps : List V) (fs : Fs), Tup0 H p ps ∧ DqAll K H ps (fs.map pairD) ∧ SmallF fs
theorem Tup0.ext {H H' : Hp} {a : Addr} {xs : List V} (s : LamX.ExtN H H') (h : Tup0 H a xs) : Tup0 H' a xs := by
  obtain ⟨o, e, n⟩ := h
  exact ⟨o, s _ _ e (fun _ z => nomatch z), n⟩
theorem LotAt.ext {K : PySem.W.Frag} {H H' : Hp} {p : Addr} (e : LamX.ExtN H H') (h : LotAt K H p) : LotAt K H' p := by
  obtain ⟨ps, fs, a, b, c⟩ := h
  exact ⟨ps, fs, a.ext e, Dq.extAll e _ _ b, c⟩
/-- the list at l and tables may change -/
theorem KeepT.of_kept {H H' : Hp} {l : Addr} {ys : List V} (hl : H l = some (.lst ys)) (s : ∀ b o, b ≠ l → H b = some o → (∀ ts, o ≠ .tbl ts) → H' b = some o) : KeepT H H' := fun b xs h => by
  rcases h with h | ⟨o, h⟩
  · exact .inl (s _ _ (ne_of h hl fun z => nomatch z) h fun _ z => nomatch z)
  · exact .inr ⟨o, s _ _ (ne_of h hl fun z => nomatch z) h fun _ z => nomatch z⟩
theorem Tup0.kept {H H' : Hp} {l a : Addr} {xs ys : List V} (hl : H l = some (.lst ys)) (s : ∀ b o, b ≠ l → H b = some o → (∀ ts, o ≠ .tbl ts) → H' b = some o) (h : Tup0 H a xs) : Tup0 H' a xs := by
  obtain ⟨o, e, n⟩ := h
  exact ⟨o, s _ _ (ne_of e hl fun z => nomatch z) e (fun _ z => nomatch z), n⟩
theorem LotAt.kept {K : PySem.W.Frag} {H H' : Hp} {p l : Addr} {ys : List V} (hl : H l = some (.lst ys)) (s : ∀ b o, b ≠ l → H b = some o → (∀ ts, o ≠ .tbl ts) → H' b = some o) (h : LotAt K H p) : LotAt K H' p := by
  obtain ⟨ps, fs, a, b, c⟩ := h
  exact ⟨ps, fs, a.kept hl s, pairs_keep (KeepT.of_kept hl s) c.good.flat b, c⟩
theorem tabs_chg {TT : List (Addr × Str)} {H H' : Hp} {l : Addr} {xs : List V} (h : LamX.Tabs TT H) (hl : H l = some (.lst xs)) (s : ∀ b o, b ≠ l → H b = some o → H' b = some o) : LamX.Tabs TT H' := by
  intro p hp
  obtain ⟨ps, h1, h2, h3⟩ := h p hp
  refine ⟨ps, s _ _ (ne_of h1 hl fun z => nomatch z) h1, h2, fun pos cv hc => ?_⟩
  obtain ⟨c, e1, e2⟩ := h3 pos cv hc
  exact ⟨c, e1, s _ _ (ne_of e2 hl fun z => nomatch z) e2⟩
/-! ### lots -/
section
variable {X : Cx}
def rSlLot : V → Option Int → Option Int → Hp → VK → Prop := fun x lo hi H Q => ∃ a xs, x = .ref a ∧ Tup0 H a xs ∧ ∀ p H', Same H H' → Tup0 H' p (cutV xs lo hi) → Q (.ref p) H'
theorem sl_lot : SlR X rSlLot := by
  intro pins s σ H x v vl vu lo hi sl Q I rx hs pl pu h
  obtain ⟨a, xs, e, ht, q⟩ := h
  refine sl_tupA0 pins s σ H x v vl vu lo hi sl Q I rx hs pl pu ⟨a, xs, e, ht.seq, fun w => q a H (Same.refl _) ?_, fun _ p o hp ho => q p _ (same_new hp) ⟨o, upd_same, ho⟩⟩
  have z : cutV xs lo hi = xs := by
    unfold cutV
    rw [w.1, w.2, List.drop_zero, Nat.sub_zero, List.take_length]
  rw [z]
  exact ht
end
theorem cut_one (xs : List V) : cutV xs (some 1) none = xs.drop 1 := by
  cases xs with
  | nil => rfl
  | cons x xs =>
    unfold cutV
    have h1 : HT.sIx (x :: xs).length 0 (some 1) = 1 := by
      unfold HT.sIx
      simp
    have h2 : HT.sIx (x :: xs).length (x :: xs).length none = (x :: xs).length := rfl
    rw [h1, h2]
    have : (x :: xs).length - 1 = ((x :: xs).drop 1).length := by simp
    rw [this, List.take_length]
theorem use_lst {K : PySem.W.Frag} {σ : L2.St} {H : Hp} {t : TA} {ds : List PyData} {Q : VK} (m : MkA K σ H t ds) (hl : ds.length ≤ 1000) (q : ∀ vs H' p, Same H H' → DqAll K H' vs ds → H' p = none → Q (.ref p) (upd H' p (.lst vs))) : tLst t σ H Q :=
  m H (Same.refl _) _ fun vs H' s d => ⟨by rw [d.len, sizeLine_eq]; omega, fun p hp => q vs H' p s d hp⟩
theorem seq_asg {te : TE} {g : TG} {t2 : TS} {D : Ends} {σ : L2.St} {H : Hp} (h : te σ H fun x H1 => g x σ H1 fun σ' H' => t2 D σ' H') : tSeq (tAsg te g) t2 D σ H := h
theorem none_shows : Shows .none := ⟨rfl, by rw [sizeLine_eq]; decide +kernel, by decide, fun _ e => nomatch e⟩
theorem SmallF.rev {fs : Fs} (s : SmallF fs) : SmallF fs.reverse := s.perm (List.reverse_perm fs)
theorem dqAll_rev {K : PySem.W.Frag} {H : Hp} : ∀ {xs : List V} {ds : List PyData}, DqAll K H xs ds → DqAll K H xs.reverse ds.reverse
  | _, _, .nil => .nil
  | _, _, .cons a b => by
    rw [List.reverse_cons, List.reverse_cons]
    exact DqAll.append (.cons a .nil) (dqAll_rev b)
theorem dqAll_drop {K : PySem.W.Frag} {H : Hp} : ∀ {xs : List V} {ds : List PyData} (n : Nat), DqAll K H xs ds → DqAll K H (xs.drop n) (ds.drop n)
  | _, _, 0, h => h
  | _, _, _ + 1, .nil => .nil
  | _, _, n + 1, .cons _ b => dqAll_drop n b
/-! ### the things that are no facts, and some that are -/
def fixD : List PyData := [.none, .int 0, .str "a", .list [], .dict [], .tuple [.tuple []], .tuple [.tuple [.str "a"]], .tuple [.tuple [.str "a", .int 1, .int 2]], .tuple [.tuple [.str "a", .none]], .tuple [.tuple [.str "a", .tuple [.int 1]]],
  .tuple [.tuple [.int 1, .int 1]], .tuple [.tuple [.str "a", .int 1], .tuple [.str "a", .int 1]], .tuple [.list [.str "a", .int 1]], .tuple [.tuple [.str "a", .bool false]]]
def shortB : PyData → Bool
  | .tuple ds => decide (ds.length ≤ 4000)
  | _ => true
theorem fixD_ok : ∀ d ∈ fixD, ((PyData.list [.str "facts", d]).showable && decide ((PyData.list [.str "facts", d]).shown.length ≤ 1000) && decide ((PyData.list [.str "facts", d]).depth ≤ 40) && shortB d) = true := by decide +kernel
structure ThingOk (d : PyData) : Prop where
  short : ∀ ds, d = .tuple ds → ds.length ≤ 4000
  shows : Shows (.list [.str "facts", d])
theorem fix_thing {d : PyData} (h : d ∈ fixD) : ThingOk d := by
  have := fixD_ok d h
  simp only [Bool.and_eq_true, decide_eq_true_eq] at this
  obtain ⟨⟨⟨a, b⟩, c⟩, e⟩ := this
  refine ⟨fun ds z => ?_, ⟨a, by rw [sizeLine_eq]; omega, c, fun i e => nomatch e⟩⟩
  subst z
  exact of_decide_eq_true e
theorem q_small : Small1 (.tuple [.str "q", .list []]) 102 := small1_of (by decide +kernel)
theorem list_thing {fs : Fs} (s : SmallF fs) : ThingOk (.list (fs.map pairD)) := by
  have hl := s.len
  refine ⟨fun ds z => (nomatch z), facts_shows (w := 7 * 103) ((small_list (w := 102) (pairs_small s) (by have := pairs_depth s; omega)).up ?_) (by decide) (by decide)⟩
  rw [List.length_map]
  omega
theorem tuple_thing {fs : Fs} {ds : List PyData} (s : SmallF fs) (h : ∀ d ∈ ds, Small1 d 102) (hd : PyData.depthAll ds ≤ 3) (hn : ds.length ≤ 7) : ThingOk (.tuple (fs.map pairD ++ ds)) := by
  have hl := s.len
  have hlen : (fs.map pairD ++ ds).length ≤ 14 := by rw [List.length_append, List.length_map]; omega
  refine ⟨fun es z => ?_, facts_shows (w := 14 * 103) ((small_tuple (w := 102) (fun d hd => ?_) ?_).up ?_) (by decide) (by decide)⟩
  · injection z with z
    rw [← z]
    omega
  · rcases List.mem_append.mp hd with h1 | h1
    · exact pairs_small s d h1
    · exact h d h1
  · refine Nat.le_trans (depthAll_le (n := 3) fun d hdm => ?_) (by decide)
    rcases List.mem_append.mp hdm with h1 | h1
    · have := pairs_depth s
      obtain ⟨f, hf, rfl⟩ := List.mem_map.mp h1
      have := (small_val (s.val f hf)).2
      simp [pairD, PyData.depth, PyData.depthAll, this]
    · refine Nat.le_trans ?_ hd
      clear hd h hn hlen hdm
      induction ds with
      | nil => cases h1
      | cons c ds ih =>
        rw [PyData.depthAll]
        rcases List.mem_cons.mp h1 with e | h1
        · rw [e]; exact Nat.le_max_left _ _
        · exact Nat.le_trans (ih h1) (Nat.le_max_right _ _)
  · have : (fs.map pairD ++ ds).length * 103 ≤ 14 * 103 := Nat.mul_le_mul_right _ hlen
    exact this
def things1 (fs : Fs) : List PyData := [.none, .int 0, .str "a", .list [], .list (fs.map pairD), .dict [], .tuple [.tuple []], .tuple [.tuple [.str "a"]], .tuple [.tuple [.str "a", .int 1, .int 2]], .tuple [.tuple [.str "a", .none]], .tuple [.tuple [.str "a", .tuple [.int 1]]]]
def things2 (fs : Fs) : List PyData := [.tuple [.tuple [.int 1, .int 1]], .tuple [.tuple [.str "a", .int 1], .tuple [.str "a", .int 1]], .tuple [.list [.str "a", .int 1]], .tuple (fs.map pairD ++ fs.map pairD), .tuple (fs.map pairD ++ [.tuple [.str "q", .list []]]), .tuple [.tuple [.str "a", .bool false]]]
theorem things_ok {fs : Fs} (s : SmallF fs) : ∀ d ∈ things1 fs ++ things2 fs, ThingOk d := by
  have t1 := list_thing s
  have t2 := tuple_thing s (pairs_small s) (by have := pairs_depth s; omega) (by rw [List.length_map]; exact s.len)
  have t3 := tuple_thing s (ds := [.tuple [.str "q", .list []]]) (fun d hd => by rw [List.mem_singleton.mp hd]; exact q_small) (by decide) (by decide)
  intro d hd
  simp only [things1, things2, List.cons_append, List.nil_append, List.mem_cons, List.not_mem_nil, or_false] at hd
  rcases hd with rfl | rfl | rfl | rfl | rfl | rfl | rfl | rfl | rfl | rfl | rfl | rfl | rfl | rfl | rfl | rfl | rfl
  all_goals first | exact t1 | exact t2 | exact t3 | exact fix_thing (by simp [fixD])
end Vx
namespace Kx
open PySem PySem.Spec L2 Vx
abbrev sRight : Stmt := top 20
abbrev nRight : List Str := ["pot", "one", "other", "lots", "pairs", "first", "second", "things", "thing", "due"]
theorem scRight : FnScope nRight ["pot"] (defScope sRight) := ⟨rfl, rfl, rfl, by decide +kernel, rfl, by decide +kernel, by decide +kernel⟩
structure TxtR (K : PySem.W.Frag) (mg : Str → Option Value) : Prop extends TxtW K mg where
  any : mg "any" = none
abbrev builtinNames : List String := ["NoneType", "bool", "int", "str", "list", "tuple", "dict"]
/-- still more of the class of facts -/
structure Kit3 (P : Program) (w : World) (K : PySem.W.Frag) (mg : Str → Option Value) (base : Heap) (C CB CN CU : Addr) : Prop extends Kit2 P w K mg base C CB CN CU where
  init0 : ∃ f fd e0 ds, Mk K C f ∧ FnOk P w K mg base (L2.CX P w) 3 f fd ["self", "pairs"] (spInit K C CB) ∧ Vals [.ref e0] ds ∧ Binds K fd ["self", "pairs"] ds ∧ ∀ H, SqT K H e0 []
  nf : PySem.W.notFirst K C (.ref C) = true
  nft : ∀ n ∈ builtinNames, PySem.W.notFirst K C (.type n) = true
abbrev lamScR : Scope := ⟨.function, [("Facts", .globalImplicit), ("thing", .free)], false, false, []⟩
section
variable {P : Program} {w : World} {K : PySem.W.Frag} {mg : Str → Option Value} {base : Heap}
theorem right_reads {Q : VK} {l : Addr} {a b c : Int} {n : Nat} {f fD fO fT fP fC cO PO_ C CB CN CU CA : Addr} {fd fdD fdO fdT fdP fdC : FuncData} {TT : List (Addr × Str)} {A : Around} {outer : List Env} {s : Shared} {H : Hp}
    (T : TxtR K mg) (Z : Kit3 P w K mg base C CB CN CU) (hG : A.guards = some []) (hr : Room 12 (A.deeper (PyProof.Rows.envOfC "_law_right" (defScope sRight) s.heap.objs.size f (.ref cO))))
    (GD : FnOk P w K mg base CX0 3 fD fdD ["pot"] (spDrawn K)) (gD : mg "_law_drawn_pairs" = some (.ref fD)) (kD : PySem.W.keepIn K (.ref fD) = true) (bD : Binds K fdD ["pot"] [])
    (GO : FnG P w K mg base 10 fO fdO ["pot", "pairs"] (spObj K TT)) (gO : mg "_law_object_right" = some (.ref fO)) (kO : PySem.W.keepIn K (.ref fO) = true) (bO : Binds K fdO ["pot", "pairs"] [])
    (GT : FnG P w K mg base 10 fT fdT ["one", "other"] (spTwo K TT)) (gT : mg "_law_two_right" = some (.ref fT)) (kT : PySem.W.keepIn K (.ref fT) = true) (bT : Binds K fdT ["one", "other"] [])
    (GP : FnOk P w K mg base CX0 1 fP fdP ["thing"] (spDataS K areFacts)) (gP : mg "_law_is_pairs" = some (.ref fP)) (kP : PySem.W.keepIn K (.ref fP) = true) (bP : Binds K fdP ["thing"] [])
    (FC : Fun K "_law_caught" "_law_caught" sCaught fC fdC) (gC' : mg "_law_caught" = some (.ref fC)) (bC : L2.Binds K fdC ["ask"] []) (TC : TxtC mg CA CB CN CU)
    (TB : LamX.TabB base mg cO PO_) (hmT : (PO_, (PyProof.Rows.envOfC "_law_right" (defScope sRight) s.heap.objs.size f (.ref cO)).qual ++ "<lambda>") ∈ TT) (eB : ErrT K CA CB CN CU CB true false false) (hT : LamX.Tabs TT H) (hl : H l = some (pot a b c)) (hp : PotI a b c n) (hn : n + 60 ≤ 1000000)
    (k : ∀ (H' : Hp), Kept l H H' → LamX.Tabs TT H' → Q (.bl true) H') (huT : ∀ p ∈ TT, p.1 = PO_ → p.2 = (PyProof.Rows.envOfC "_law_right" (defScope sRight) s.heap.objs.size f (.ref cO)).qual ++ "<lambda>") :
    ∃ t, PSs (cxOf L2.CX0 P w K mg base nRight "_law_right" (defScope sRight) f (.ref cO) A outer s H L2.E0).nox (defBody sRight) t ∧ t { nx := fun _ H' => Q .non H', rt := Q } (L2.start nRight [.ref l]) H := by
  obtain ⟨fI, fdI, M, GI, bI⟩ := Z.init
  obtain ⟨fI0, fdI0, e0, ds0, M0, GI0, vI0, bI0, hE0⟩ := Z.init0
  obtain ⟨fE, fdE, oE, GE, bE⟩ := Z.eq
  obtain ⟨oc, od, kV, doc, pm, an, cdv, ct, osl, rfl, lkC, hcC⟩ := FC.ex
  have gC := Z.gC
  have hG2 : (cxOf L2.CX0 P w K mg base nRight "_law_right" (defScope sRight) f (.ref cO) A outer s H L2.E0).nox.A.guards = some [] := hG
  have hu3 : (cxOf L2.CX0 P w K mg base nRight "_law_right" (defScope sRight) f (.ref cO) A outer s H L2.E0).nox.A.units + 300 < cLine := by
    have := hr.un
    show (A.deeper _).units + 300 < _
    omega
  have hr0 : Room 0 (cxOf L2.CX0 P w K mg base nRight "_law_right" (defScope sRight) f (.ref cO) A outer s H L2.E0).nox.A := hr.mono (by decide)
  refine ⟨_, pss_cons (ps_asg (pe_tup (pa_cons (pe_call GD (hr.mono (by decide)) rfl gD kD bD .nil pass0 (pa_cons (pv 0) pa_nil)) (pa_cons (pe_call GD (hr.mono (by decide)) rfl gD kD bD .nil pass0 (pa_cons (pv 0) pa_nil)) pa_nil)))
      (pg_tup rfl (pgs_cons (pg_name (i := 1) scRight.nd rfl (Or.inr rfl)) (pgs_cons (pg_name (i := 2) scRight.nd rfl (Or.inl rfl)) pgs_nil))))
    (pss_cons (ps_set (i := 3) scRight.nd rfl (Or.inl rfl) (pe_lst (pa_cons (pv 1) (pa_cons (pv 2) (pa_cons (pe_revT0 (pv 1)) (pa_cons (pe_slice sl_lot (pv 1) (po_some pe_int) po_none) (pa_cons (pe_tup0 pa_nil) pa_nil)))))))
    (pss_cons (ps_if (pt_not (pt_val (pe_callB (cr_all rfl) (by rfl) T.all (by decide +kernel) (pa_cons
        (pe_lc (own := [("pairs", 4)]) (g := gName 4) (tt := tYes) (te := tCall (spObj K TT) [] L2.E0 (tCons (tVar 0) (tCons (tVar 4) tNil))) rfl scRight.nd (pi_list (pv 3)) (blkOk_by (N := nRight) (sc := defScope sRight) (by decide +kernel)) (fun _ _ _ _ _ => pg_name (i := 4) scRight.nd rfl (Or.inl rfl)) (fun _ _ _ _ _ => pts_nil)
          (fun _ _ _ _ _ => pe_callG GO hG2 (hr.mono (by decide)) rfl gO kO bO (pa_cons (pv 0) (pa_cons (pv 4) pa_nil)))) pa_nil)))) (pss_one (ps_ret pe_bl)) pss_nil)
    (pss_cons (ps_for PassesOwn.never rfl (pi_list (pv 3)) (pg_name (i := 5) scRight.nd rfl (Or.inr rfl))
      (pss_one (ps_if (pt_not (pt_val (pe_callB (cr_all rfl) (by rfl) T.all (by decide +kernel) (pa_cons
        (pe_lc (own := [("second", 6)]) (g := gName 6) (tt := tYes) (te := tCall (spTwo K TT) [] L2.E0 (tCons (tVar 5) (tCons (tVar 6) tNil))) rfl scRight.nd (pi_list (pv 3)) (blkOk_by (N := nRight) (sc := defScope sRight) (by decide +kernel)) (fun _ _ _ _ _ => pg_name (i := 6) scRight.nd rfl (Or.inl rfl)) (fun _ _ _ _ _ => pts_nil)
          (fun _ _ _ _ _ => pe_callG GT hG2 (hr.mono (by decide)) rfl gT kT bT (pa_cons (pv 5) (pa_cons (pv 6) pa_nil)))) pa_nil)))) (pss_one (ps_ret pe_bl)) pss_nil)))
    (pss_cons (ps_set (i := 7) scRight.nd rfl (Or.inl rfl) (pe_lst (pa_cons pe_non (pa_cons pe_int (pa_cons pe_str (pa_cons (pe_lstB pa_nil) (pa_cons (pe_callTy call_listB (by rfl) T.list (by decide +kernel) (pa_cons (pv 1) pa_nil)) (pa_cons pe_dnewK
        (pa_cons (pe_tup (pa_cons (pe_tup pa_nil) pa_nil)) (pa_cons (pe_tup (pa_cons (pe_tup (pa_cons pe_str pa_nil)) pa_nil)) (pa_cons (pe_tup (pa_cons (pe_tup (pa_cons pe_str (pa_cons pe_int (pa_cons pe_int pa_nil)))) pa_nil))
        (pa_cons (pe_tup (pa_cons (pe_tup (pa_cons pe_str (pa_cons pe_non pa_nil))) pa_nil)) (pa_cons (pe_tup (pa_cons (pe_tup (pa_cons pe_str (pa_cons (pe_tup (pa_cons pe_int pa_nil)) pa_nil))) pa_nil)) pa_nil)))))))))))))
    (pss_cons (ps_set (i := 7) scRight.nd rfl (Or.inl rfl) (pe_op op_cat (pv 7) (pe_lst (pa_cons (pe_tup (pa_cons (pe_tup (pa_cons pe_int (pa_cons pe_int pa_nil))) pa_nil)) (pa_cons (pe_tup (pa_cons (pe_tup (pa_cons pe_str (pa_cons pe_int pa_nil))) (pa_cons (pe_tup (pa_cons pe_str (pa_cons pe_int pa_nil))) pa_nil)))
        (pa_cons (pe_tup (pa_cons (pe_lstB (pa_cons pe_str (pa_cons pe_int pa_nil))) pa_nil)) (pa_cons (pe_op op_catA (pv 1) (pv 1)) (pa_cons (pe_op op_catA (pv 1) (pe_tup (pa_cons (pe_tup (pa_cons pe_str (pa_cons (pe_lstB pa_nil) pa_nil))) pa_nil)))
        (pa_cons (pe_tup (pa_cons (pe_tup (pa_cons pe_str (pa_cons pe_bl pa_nil))) pa_nil)) pa_nil)))))))))
    (pss_cons (ps_for PassesOwn.never rfl (pi_list (pv 7)) (pg_name (i := 8) scRight.nd rfl (Or.inr rfl))
      (pss_cons (ps_set (i := 9) scRight.nd rfl (Or.inl rfl) (pe_callB (call_reprA hr0 hG2) (by rfl) T.repr (by decide +kernel) (pa_cons (pe_ifExp (pt_val (pe_call GP (hr.mono (by decide)) rfl gP kP bP .nil pass0 (pa_cons (pv 8) pa_nil))) pe_non (pe_lstB (pa_cons pe_str (pa_cons (pv 8) pa_nil)))) pa_nil)))
      (pss_one (ps_if (pt_cmpR op_ne (pe_callB (call_reprA hr0 hG2) (by rfl) T.repr (by decide +kernel) (pa_cons
          (LamX.pe_lamcall (T := TT) (TT := TTc K CA CB CN CU) (t := fun E => tMake C (spInit K C CB) [] E (tCons (tVar 8) tNil)) (k := 5) rfl gC' FC.kp lkC hcC bC scCaught rfl (Or.inl rfl) (caught_gives TC hu3) TB rfl hmT huT (hr.mono (by decide)) (LamX.lamS_by (show LamX.lamSB (defScope sRight) lamScR = true from by decide +kernel)) rfl (fun _ _ _ _ _ => rfl)
            (fun A outer s H E f c' hr2 => pe_make M GI (hr2.mono (by decide)) rfl gC bI .nil (passes_call (takes_of rfl rfl rfl rfl) (fun _ _ _ _ h => h)) (pa_cons (pe_var (i := 8) rfl (Or.inr (Or.inr rfl))) pa_nil))) pa_nil))
        (pv 9) (nomark _)) (pss_one (ps_ret pe_bl)) pss_nil))))
    (pss_one (ps_ret (pe_and (pe_cmpR (op_eqO oE GE (hr.mono (by decide)) bE pass0) (pe_make0 M0 GI0 (hr.mono (by decide)) rfl gC bI0 vI0 passL) (pe_make M GI (hr.mono (by decide)) rfl gC bI .nil passL (pa_cons (pe_tup pa_nil) pa_nil)) (nomark _))
      (pe_one (pe_not (pe_callB (cr_any rfl) (by rfl) T.any (by decide +kernel) (pa_cons
        (pe_lc (own := [("thing", 8)]) (g := gName 8) (tt := tYes) (te := tOp (rEqO K C (spEq K C) L2.E0) (tMake C (spInit K C CB) [] L2.E0 (tCons (tVar 1) tNil)) (tVar 8)) rfl scRight.nd (pi_tup (pe_tup (pa_cons (pv 1) (pa_cons pe_non (pa_cons (pe_tup pa_nil) (pa_cons (pe_lst pa_nil) (pa_cons (pe_callTy (call_dictT rfl) (by rfl) T.dict (by decide +kernel) (pa_cons (pv 1) pa_nil)) (pa_cons pe_int pa_nil)))))))) (blkOk_by (N := nRight) (sc := defScope sRight) (by decide +kernel)) (fun _ _ _ _ _ => pg_name (i := 8) scRight.nd rfl (Or.inl rfl)) (fun _ _ _ _ _ => pts_nil)
          (fun _ _ _ _ _ => pe_cmpR (op_eqO oE GE (hr.mono (by decide)) bE pass0) (pe_make M GI (hr.mono (by decide)) rfl gC bI .nil passL (pa_cons (pv 1) pa_nil)) (pv 8) (nomark _))) pa_nil))))))))))))), ?_⟩
  -- one, other = drawn_pairs(pot), drawn_pairs(pot)
  refine ⟨_, rfl, l, a, b, c, n, rfl, hl, hp, by omega, fun p1 ps1 fs a1 b1 c1 H1 sm1 t1 d1 ch1 hl1 hp1 => ⟨_, rfl, l, a1, b1, c1, n + 20, rfl, hl1, hp1, by omega, fun p2 ps2 gs a2 b2 c2 H2 sm2 t2 d2 ch2 hl2 hp2 => ⟨by show 2 ≤ sizeLine; decide, fun tp htp => ⟨tp, _, rfl, SqT.of upd_same, rfl, _, _, rfl, _, _, rfl, rfl, ?_⟩⟩⟩⟩
  have sA := same_new (o := .tup [.ref p1, .ref p2]) htp
  have tA1 : Tup0 (upd H2 tp (.tup [.ref p1, .ref p2])) p1 ps1 := (t1.kept hl1 (fun b o n e _ => ch2 b o n e)).same sA
  have dA1 : DqAll K (upd H2 tp (.tup [.ref p1, .ref p2])) ps1 (fs.map pairD) := Dq.sameAll sA _ _ (pairs_keep (KeepT.of_list hl1 ch2) sm1.good.flat d1)
  have tA2 : Tup0 (upd H2 tp (.tup [.ref p1, .ref p2])) p2 ps2 := t2.same sA
  have dA2 : DqAll K (upd H2 tp (.tup [.ref p1, .ref p2])) ps2 (gs.map pairD) := Dq.sameAll sA _ _ d2
  have lA : (upd H2 tp (.tup [.ref p1, .ref p2])) l = some (pot a2 b2 c2) := sA _ _ hl2
  have cA : Chg l H (upd H2 tp (.tup [.ref p1, .ref p2])) := (ch1.trans ch2).trans (Chg.same sA)
  have tabA : LamX.Tabs TT (upd H2 tp (.tup [.ref p1, .ref p2])) := tabs_chg hT hl cA
  generalize (upd H2 tp (.tup [.ref p1, .ref p2])) = HA at tA1 dA1 tA2 dA2 lA cA tabA ⊢
  -- lots = [..]
  refine ⟨_, rfl, _, rfl, _, rfl, p1, ps1, rfl, tA1.seq, fun p3 o3 hp3 ho3 => ⟨_, rfl, 1, rfl, p1, ps1, rfl, tA1.same (same_new hp3), fun p4 H4 s4 t4 => ⟨Nat.zero_le _, fun p5 o5 hp5 ho5 => ⟨by show 5 ≤ sizeLine; decide, fun pl hpl => ?_⟩⟩⟩⟩
  have s3 := same_new (o := .frz o3 (.tup ps1.reverse)) hp3
  have s5 := same_new (o := .frz o5 (.tup [])) hp5
  have sL := same_new (o := .lst [.ref p1, .ref p2, .ref p3, .ref p4, .ref p5]) hpl
  have sB := s3.trans (s4.trans (s5.trans sL))
  have plL : pl ≠ l := Ne.symm (ne_of_none ((s3.trans (s4.trans s5)) _ _ lA) hpl)
  have qB : (upd (upd H4 p5 (.frz o5 (.tup []))) pl (.lst [.ref p1, .ref p2, .ref p3, .ref p4, .ref p5])) pl = some (.lst [.ref p1, .ref p2, .ref p3, .ref p4, .ref p5]) := upd_same
  have lotB : ∀ (i : Nat) (x : V), ([V.ref p1, V.ref p2, V.ref p3, V.ref p4, V.ref p5] : List V)[i]? = some x → ∃ p, x = V.ref p ∧ LotAt K (upd (upd H4 p5 (.frz o5 (.tup []))) pl (.lst [.ref p1, .ref p2, .ref p3, .ref p4, .ref p5])) p := by
    intro i x hx
    rw [cut_one] at t4
    match i, hx with
    | 0, hx =>
      cases hx
      exact ⟨_, rfl, ps1, fs, tA1.same sB, Dq.sameAll sB _ _ dA1, sm1⟩
    | 1, hx =>
      cases hx
      exact ⟨_, rfl, ps2, gs, tA2.same sB, Dq.sameAll sB _ _ dA2, sm2⟩
    | 2, hx =>
      cases hx
      refine ⟨_, rfl, ps1.reverse, fs.reverse, (show Tup0 _ p3 ps1.reverse from ⟨o3, upd_same, ho3⟩).same (s4.trans (s5.trans sL)), ?_, sm1.rev⟩
      rw [List.map_reverse]
      exact Dq.sameAll sB _ _ (dqAll_rev dA1)
    | 3, hx =>
      cases hx
      refine ⟨_, rfl, ps1.drop 1, fs.drop 1, t4.same (s5.trans sL), ?_, sm1.sub (List.drop_sublist 1 fs)⟩
      rw [List.map_drop]
      exact Dq.sameAll sB _ _ (dqAll_drop 1 dA1)
    | 4, hx =>
      cases hx
      exact ⟨_, rfl, [], [], (show Tup0 _ p5 [] from ⟨o5, upd_same, ho5⟩).same sL, .nil, ⟨List.nodup_nil, Nat.zero_le _, fun f hf => absurd hf (by simp), fun f hf => absurd hf (by simp)⟩⟩
    | i + 5, hx => simp at hx
  have tB1 := tA1.same sB
  have dB1 := Dq.sameAll sB _ _ dA1
  have lB := sB _ _ lA
  have cB : Chg l H (upd (upd H4 p5 (.frz o5 (.tup []))) pl (.lst [.ref p1, .ref p2, .ref p3, .ref p4, .ref p5])) := cA.trans (Chg.same sB)
  have tabB := tabA.ext sB
  have len5 : ([V.ref p1, V.ref p2, V.ref p3, V.ref p4, V.ref p5] : List V).length = 5 := rfl
  generalize (upd (upd H4 p5 (.frz o5 (.tup []))) pl (.lst [.ref p1, .ref p2, .ref p3, .ref p4, .ref p5])) = HB at qB lotB tB1 dB1 lB cB tabB ⊢
  generalize ([V.ref p1, V.ref p2, V.ref p3, V.ref p4, V.ref p5] : List V) = vs5 at qB lotB len5
  have l5z : vs5.length < sizeLine := by rw [len5, sizeLine_eq]; omega
  -- if not all([object_right(pot, pairs) for pairs in lots])
  refine ⟨_, rfl, pl, rfl, ⟨vs5, SqL.of qB⟩, fun D hD => lc_trueL (fun i Hx => Kept l HB Hx ∧ (∃ a b c, Hx l = some (pot a b c) ∧ PotI a b c (n + 40 + i)) ∧ LamX.Tabs TT Hx) l5z ?_ (fun i Hx J => SqL.of (J.1 _ _ plL qB fun _ z => nomatch z)) (fun i Hx acc acc' J eD => ?_) (fun i x Hx Q' hx J hDx k' => ?_) fun H3 J e3 => ?_⟩
  · have nDl : D ≠ l := Ne.symm (ne_of_none lB hD)
    refine ⟨fun b o nb e _ => same_new hD _ _ e, ⟨a2, b2, c2, same_new hD _ _ lB, hp2.mono (by omega)⟩, tabB.ext (same_new hD)⟩
  · have nDl : D ≠ l := Ne.symm (ne_of_none lB hD)
    obtain ⟨j1, ⟨a', b', c', j2, j3⟩, j4⟩ := J
    refine ⟨fun b o nb e nt => ?_, ⟨a', b', c', by rw [upd_ne (Ne.symm nDl)]; exact j2, j3⟩, tabs_lst j4 eD⟩
    rw [upd_ne (ne_of_none e hD)]
    exact j1 b o nb e nt
  · have nDl : D ≠ l := Ne.symm (ne_of_none lB hD)
    obtain ⟨j1, ⟨a', b', c', j2, j3⟩, j4⟩ := J
    obtain ⟨p, rfl, hlot⟩ := lotB i x hx
    obtain ⟨ps, es, u1, u2, u3⟩ := hlot.kept lB j1
    have hi : i < 5 := by rw [← len5]; exact (List.getElem?_eq_some_iff.mp hx).1
    refine ⟨_, rfl, _, rfl, l, p, ps, es, a', b', c', n + 40 + i, rfl, j2, j3, by omega, u1, u2, u3, j4, fun a'' b'' c'' H' k1 k2 k3 k4 => k' H' ⟨fun b o nb e nt => k1 b o nb (j1 b o nb e nt) nt, ⟨_, _, _, k2, k3⟩, k4⟩ fun acc eD => k1 _ _ nDl eD fun _ z => nomatch z⟩
  obtain ⟨j1, ⟨a3, b3, c3, j2, j3⟩, j4⟩ := J
  refine ⟨D, _, rfl, SqL.of e3, _, rfl, ?_⟩
  rw [all_true]
  refine ite2 (fun z => nomatch z) (fun _ => ?_)
  have lotC : ∀ (i : Nat) (x : V), vs5[i]? = some x → ∃ p, x = V.ref p ∧ LotAt K H3 p := fun i x hx => by
    obtain ⟨p, e, h⟩ := lotB i x hx
    exact ⟨p, e, h.kept lB j1⟩
  have qC := j1 _ _ plL qB fun _ z => nomatch z
  have tC1 := tB1.kept lB j1
  have dC1 := pairs_keep (KeepT.of_kept lB j1) sm1.good.flat dB1
  have kC : Kept l H H3 := fun b o nb e nt => j1 b o nb (cB b o nb e) nt
  clear lotB qB tB1 dB1 lB cB tabB e3 hD tabA tA1 dA1 tA2 dA2 lA cA j1 j2 j3
  -- for first in lots
  refine ⟨_, rfl, pl, rfl, ⟨_, SqL.of qC⟩, ?_⟩
  refine for_list (xs := vs5) (fun i σ' H' => (∃ o4 o5 o6 o7 o8 o9, σ' = [some (.ref l), some (.ref p1), some (.ref p2), some (.ref pl), o4, o5, o6, o7, o8, o9]) ∧ LamX.ExtN H3 H' ∧ LamX.Tabs TT H') ⟨⟨_, _, _, _, _, _, rfl⟩, LamX.ExtN.refl _, j4⟩ (fun i σ' H' _ A => ext_L A.2.1 (SqL.of qC)) (fun i v σ' H' hvi A => ?_) fun σ' H' A => ?_
  · obtain ⟨⟨o4, o5, o6, o7, o8, o9, rfl⟩, eL, tL⟩ := A
    obtain ⟨pf, rfl, lotf⟩ := lotC i v hvi
    refine ⟨_, rfl, pl, rfl, ⟨vs5, ext_L eL (SqL.of qC)⟩, fun D hD => lc_trueL (fun i Hx => LamX.ExtN H' Hx ∧ LamX.Tabs TT Hx) l5z ⟨ext_same (same_new hD), tL.ext (same_new hD)⟩ (fun i Hx J => ext_L (eL.trans J.1) (SqL.of qC)) (fun i Hx acc acc' J eD => ⟨fun b o e nt => ?_, tabs_lst J.2 eD⟩) (fun i x Hx Q' hx J hDx k' => ?_) fun H5 J e5 => ?_⟩
    · rw [upd_ne (ne_of_none e hD)]
      exact J.1 b o e nt
    · obtain ⟨p, rfl, hlot⟩ := lotC i x hx
      obtain ⟨ps, es, u1, u2, u3⟩ := hlot.ext (eL.trans J.1)
      obtain ⟨ps', es', w1, w2, w3⟩ := lotf.ext (eL.trans J.1)
      exact ⟨_, rfl, _, rfl, pf, p, ps', ps, es', es, rfl, w1, w2, w3, u1, u2, u3, J.2, fun H6 x6 t6 => k' H6 ⟨J.1.trans x6, t6⟩ fun acc eD => x6 _ _ eD fun _ z => nomatch z⟩
    · refine ⟨D, _, rfl, SqL.of e5, _, rfl, ?_⟩
      rw [all_true]
      refine ite2 (fun z => nomatch z) (fun _ => ?_)
      exact ⟨⟨_, _, _, _, _, _, rfl⟩, eL.trans J.1, J.2⟩
  obtain ⟨⟨o4, o5', o6, o7, o8, o9, rfl⟩, eL, tL⟩ := A
  have kD : Kept l H H' := fun b o nb e nt => eL b o (kC b o nb e nt) nt
  have tD1 := tC1.ext eL
  have dD1 := Dq.extAll eL _ _ dC1
  clear qC tC1 dC1 kC lotC eL j4
  -- things = [..]
  have hone : ∀ {σ : L2.St} {Hx : Hp}, σ[1]? = some (some (.ref p1)) → Same H' Hx → MkS K σ Hx (tVar 1) (.tuple (fs.map pairD)) := fun {σ Hx} e s => mk_var e (.tup (same_T s tD1.seq) (Dq.sameAll s _ _ dD1))
  have mA : MkA K [some (.ref l), some (.ref p1), some (.ref p2), some (.ref pl), o4, o5', o6, o7, o8, o9] H' _ (things1 fs) :=
    (mka_cons mk_non (mka_cons mk_int (mka_cons mk_str (mka_cons (mk_lst mka_nil) (mka_cons (mk_listT (hone rfl (Same.refl _))) (mka_cons mk_emp (mka_cons (mk_tup (mka_cons (mk_tup mka_nil) mka_nil)) (mka_cons (mk_tup (mka_cons (mk_tup (mka_cons mk_str mka_nil)) mka_nil))
    (mka_cons (mk_tup (mka_cons (mk_tup (mka_cons mk_str (mka_cons mk_int (mka_cons mk_int mka_nil)))) mka_nil)) (mka_cons (mk_tup (mka_cons (mk_tup (mka_cons mk_str (mka_cons mk_non mka_nil))) mka_nil)) (mka_cons (mk_tup (mka_cons (mk_tup (mka_cons mk_str (mka_cons (mk_tup (mka_cons mk_int mka_nil)) mka_nil))) mka_nil)) mka_nil)))))))))))
  dsimp only
  refine seq_asg ?_
  refine use_lst mA (by show 11 ≤ 1000; decide) fun vs1 HE pe sE dE hpe => ?_
  have sE1 := sE.trans (same_new (o := .lst vs1) hpe)
  have eE1 : (upd HE pe (.lst vs1)) pe = some (.lst vs1) := upd_same
  have dE1 := Dq.sameAll (same_new (o := .lst vs1) hpe) _ _ dE
  generalize (upd HE pe (.lst vs1)) = HF at sE1 eE1 dE1 ⊢
  -- things = things + [..]
  have mB : MkA K [some (.ref l), some (.ref p1), some (.ref p2), some (.ref pl), o4, o5', o6, some (.ref pe), o8, o9] HF _ (things2 fs) :=
    (mka_cons (mk_tup (mka_cons (mk_tup (mka_cons mk_int (mka_cons mk_int mka_nil))) mka_nil)) (mka_cons (mk_tup (mka_cons (mk_tup (mka_cons mk_str (mka_cons mk_int mka_nil))) (mka_cons (mk_tup (mka_cons mk_str (mka_cons mk_int mka_nil))) mka_nil)))
    (mka_cons (mk_tup (mka_cons (mk_lst (mka_cons mk_str (mka_cons mk_int mka_nil))) mka_nil)) (mka_cons (mk_cat (hone rfl sE1) (hone rfl sE1) (by have := sm1.len; rw [List.length_map]; omega)) (mka_cons (mk_cat (hone rfl sE1) (mk_tup (mka_cons (mk_tup (mka_cons mk_str (mka_cons (mk_lst mka_nil) mka_nil))) mka_nil)) (by have := sm1.len; rw [List.length_map]; show fs.length + 1 ≤ 1000; omega))
    (mka_cons (mk_tup (mka_cons (mk_tup (mka_cons mk_str (mka_cons mk_bl mka_nil))) mka_nil)) mka_nil))))))
  dsimp only [gName]
  refine seq_asg ?_
  refine ⟨_, rfl, ?_⟩
  refine use_lst mB (by show 6 ≤ 1000; decide) fun vs2 HG pg sG dG hpg => ?_
  have eG1 := same_new (o := .lst vs2) hpg _ _ (sG _ _ eE1)
  have l1 := dE1.len
  have l2 := dG.len
  refine ⟨pe, pg, vs1, vs2, rfl, rfl, eG1, upd_same, by rw [l1, l2]; show 11 + 6 ≤ sizeLine; rw [sizeLine_eq]; omega, fun pt hpt => ?_⟩
  have sT := (sE1.trans (sG.trans (same_new (o := .lst vs2) hpg))).trans (same_new (o := .lst (vs1 ++ vs2)) hpt)
  have dT : DqAll K (upd (upd HG pg (.lst vs2)) pt (.lst (vs1 ++ vs2))) (vs1 ++ vs2) (things1 fs ++ things2 fs) :=
    DqAll.append (Dq.sameAll ((same_new hpg).trans (same_new hpt)) _ _ dG) (Dq.sameAll ((sG.trans (same_new hpg)).trans (same_new hpt)) _ _ dE1)
  have qT : SqL K (upd (upd HG pg (.lst vs2)) pt (.lst (vs1 ++ vs2))) pt (vs1 ++ vs2) := SqL.of upd_same
  have tT := tL.ext sT
  have tT1 := tD1.same sT
  have dT1 := Dq.sameAll sT _ _ dD1
  have kT' : Kept l H (upd (upd HG pg (.lst vs2)) pt (.lst (vs1 ++ vs2))) := fun b o nb e nt => sT _ _ (kD b o nb e nt)
  generalize (upd (upd HG pg (.lst vs2)) pt (.lst (vs1 ++ vs2))) = HT at dT qT tT tT1 dT1 kT' ⊢
  have lT := dT.len
  have hok := things_ok sm1
  generalize vs1 ++ vs2 = vs at dT qT lT ⊢
  generalize things1 fs ++ things2 fs = ds at dT lT hok
  clear mA mB hone sT
  -- for thing in things
  refine ⟨_, rfl, pt, rfl, ⟨_, qT⟩, ?_⟩
  refine for_list (xs := vs) (fun i σ' H' => (∃ o4 o5 o6 o8 o9, σ' = [some (.ref l), some (.ref p1), some (.ref p2), some (.ref pl), o4, o5, o6, some (.ref pt), o8, o9]) ∧ LamX.ExtN HT H' ∧ LamX.Tabs TT H') ⟨⟨_, _, _, _, _, rfl⟩, LamX.ExtN.refl _, tT⟩ (fun i σ' H' _ A => ext_L A.2.1 qT) (fun i v σ' H' hvi A => ?_) fun σ' H' A => ?_
  · obtain ⟨⟨o4, o5, o6, o8, o9, rfl⟩, eL, tL⟩ := A
    have hi : i < ds.length := by
      rw [← lT]
      exact (List.getElem?_eq_some_iff.mp hvi).1
    have hdv := Dq.ext eL _ _ (dT.at_ hvi .none)
    have hth : ThingOk (ds.getD i .none) := by
      have e : ds.getD i .none = ds[i] := by simp [List.getD, List.getElem?_eq_getElem hi]
      rw [e]
      exact hok _ (List.getElem_mem hi)
    generalize ds.getD i .none = d at hdv hth
    have sh := hth.shows
    -- due = repr(..)
    refine ⟨_, rfl, v, d, rfl, hdv, hth.short, fun H3 s3 => ⟨_, rfl, ?_⟩⟩
    have hd3 := Dq.same s3 _ _ hdv
    have tL3 := tL.ext s3
    refine ite2 (fun cf => ?_) (fun cf => ?_)
    · refine ⟨_, .none, rfl, .non, none_shows.showable, none_shows.len, none_shows.depth, none_shows.int, ?_⟩
      refine ⟨tL3, fun H5 e5 t5 => ⟨_, rfl, fun x dx hx hdx ne => ?_⟩⟩
      have nx2 : (upd H5 dx (.own x)) x = none := by rw [upd_ne (Ne.symm ne)]; exact hx
      have sI : Same H5 (upd (upd H5 dx (.own x)) x (.ins C dx [])) := (same_new hdx).trans (same_new nx2)
      refine ⟨x, dx, v, d, rfl, upd_same, Dq.same sI _ _ (Dq.ext e5 _ _ hd3), hth.short, fun _ H6 ch6 f6 => ⟨rfl, ?_⟩, fun z => ?_⟩
      · have s6 : Same H5 H6 := fun b o e => ch6 b o (ne_of_none e hx) (sI b o e)
        refine ⟨_, .none, rfl, .non, none_shows.showable, none_shows.len, none_shows.depth, none_shows.int, _, rfl, rfl, _, rfl, ?_⟩
        refine ite2 (fun z => absurd z (by simp)) (fun _ => ?_)
        exact ⟨⟨_, _, _, _, _, rfl⟩, eL.trans ((ext_same s3).trans (e5.trans (ext_same s6))), t5.ext s6⟩
      · rw [cf] at z
        cases z
    · have cf' : areFacts d = false := by simpa using cf
      refine ⟨_, rfl, by show 2 ≤ sizeLine; decide, fun r3 hr3 hy3 => ?_⟩
      have s4 := same_new (o := .lst [.str "facts", v]) hr3
      refine ⟨_, .list [.str "facts", d], rfl, .lst (SqL.of upd_same) hy3 (.cons (.str _) (.cons (Dq.same s4 _ _ hd3) .nil)), sh.showable, sh.len, sh.depth, sh.int, ?_⟩
      refine ⟨tL3.ext s4, fun H5 e5 t5 => ⟨_, rfl, fun x dx hx hdx ne => ?_⟩⟩
      have nx2 : (upd H5 dx (.own x)) x = none := by rw [upd_ne (Ne.symm ne)]; exact hx
      have sI : Same H5 (upd (upd H5 dx (.own x)) x (.ins C dx [])) := (same_new hdx).trans (same_new nx2)
      have hd5 := Dq.ext e5 _ _ (Dq.same s4 _ _ hd3)
      refine ⟨x, dx, v, d, rfl, upd_same, Dq.same sI _ _ hd5, hth.short, fun z => ?_, fun _ dd H6 s6 hdd0 hdd => ?_⟩
      · rw [cf'] at z
        cases z
      · refine ⟨"facts", dd, v, .inl ⟨rfl, rfl, eB⟩, rfl, hdd, fun r H7 s7 hr7 hy7 hr7' => ?_⟩
        have s57 := sI.trans (s6.trans s7)
        refine ⟨_, .list [.str "facts", d], rfl, .lst (SqL.of hr7') hy7 (.cons (.str _) (.cons (Dq.same s57 _ _ hd5) .nil)), sh.showable, sh.len, sh.depth, sh.int, _, rfl, rfl, _, rfl, ?_⟩
        refine ite2 (fun z => absurd z (by simp)) (fun _ => ?_)
        exact ⟨⟨_, _, _, _, _, rfl⟩, eL.trans ((ext_same (s3.trans s4)).trans (e5.trans (ext_same s57))), t5.ext s57⟩
  · obtain ⟨⟨o4, o5, o6, o8, o9, rfl⟩, eL, tL⟩ := A
    have sm0 : SmallF ([] : Fs) := ⟨List.nodup_nil, Nat.zero_le _, fun f hf => absurd hf (by simp), fun f hf => absurd hf (by simp)⟩
    have g0 := sm0.good
    have g1 := sm1.good
    have tX1 := tT1.ext eL
    have dX1 := Dq.extAll eL _ _ dT1
    -- Facts() == Facts(())
    refine made_factsR (fs := []) g0 (.tup (hE0 _) .nil) fun x1 H3 s3 f3 => ⟨Nat.zero_le _, fun tq htq => made_factsR (fs := []) g0 (.tup (SqT.of upd_same) .nil) fun x2 H4 s4 f4 => ?_⟩
    have s34 := (same_new (o := .tup []) htq).trans s4
    have f3' := f3.same s34
    obtain ⟨dx1, pa1, na1, va1, sa1, qs1, ss1, y1, _⟩ := id f3'
    refine ⟨x1, dx1, _, .ref C, rfl, y1, factsAt_ty f4 Z.c Z.ct, Z.nf, x1, .ref x2, srt [], rfl, f3', g0.srt, .inr ⟨x2, srt [], rfl, f4, g0.srt, ?_⟩⟩
    rw [eqF_told (fs := []) (gs := []) List.nodup_nil List.nodup_nil]
    refine ⟨_, rfl, ite2 (fun _ => ?_) (fun z => absurd rfl z)⟩
    have sX := s3.trans s34
    have tY1 := tX1.same sX
    have dY1 := Dq.sameAll sX _ _ dX1
    have tabY := tL.ext sX
    have kY : Kept l H H4 := fun b o nb e nt => sX _ _ (eL _ _ (kT' b o nb e nt) nt)
    clear s3 f3 s4 s34 f3' y1 f4 sX tX1 dX1
    obtain ⟨pas, rfl, hpp⟩ := dq_paired dY1 g1.flat
    -- not any([Facts(one) == thing for thing in (..)])
    refine ⟨_, rfl, Nat.zero_le _, fun q1 hq1 => ⟨Nat.zero_le _, fun q2 hq2 => ⟨_, rfl, p1, pas, dictF fs, rfl, tY1.same ((same_new hq1).trans (same_new hq2)), paired_same ((same_new hq1).trans (same_new hq2)) hpp, fun q3 hq3 => ⟨by show 6 ≤ sizeLine; decide, fun q4 hq4 => ?_⟩⟩⟩⟩
    have sQ := (same_new (o := .tup []) hq1).trans ((same_new (o := .lst []) hq2).trans ((same_new (o := .dK (mergeK [] (dictF fs))) hq3).trans (same_new (o := .tup [.ref p1, .non, .ref q1, .ref q2, .ref q3, .int 0]) hq4)))
    have z1 := ((same_new (o := .lst []) hq2).trans ((same_new (o := .dK (mergeK [] (dictF fs))) hq3).trans (same_new (o := .tup [.ref p1, .non, .ref q1, .ref q2, .ref q3, .int 0]) hq4))) _ _ upd_same
    have z2 := ((same_new (o := .dK (mergeK [] (dictF fs))) hq3).trans (same_new (o := .tup [.ref p1, .non, .ref q1, .ref q2, .ref q3, .int 0]) hq4)) _ _ upd_same
    have z3 := (same_new (o := .tup [.ref p1, .non, .ref q1, .ref q2, .ref q3, .int 0]) hq4) _ _ upd_same
    have z4 : (upd (upd (upd (upd H4 q1 (.tup [])) q2 (.lst [])) q3 (.dK (mergeK [] (dictF fs)))) q4 (.tup [.ref p1, .non, .ref q1, .ref q2, .ref q3, .int 0])) q4 = some (.tup [.ref p1, .non, .ref q1, .ref q2, .ref q3, .int 0]) := upd_same
    have tZ1 := tY1.same sQ
    have dZ1 := Dq.sameAll sQ _ _ dY1
    have tabZ := tabY.ext sQ
    have kZ : Kept l H (upd (upd (upd (upd H4 q1 (.tup [])) q2 (.lst [])) q3 (.dK (mergeK [] (dictF fs)))) q4 (.tup [.ref p1, .non, .ref q1, .ref q2, .ref q3, .int 0])) := fun b o nb e nt => sQ _ _ (kY b o nb e nt)
    generalize (upd (upd (upd (upd H4 q1 (.tup [])) q2 (.lst [])) q3 (.dK (mergeK [] (dictF fs)))) q4 (.tup [.ref p1, .non, .ref q1, .ref q2, .ref q3, .int 0])) = HZ at z1 z2 z3 z4 tZ1 dZ1 tabZ kZ ⊢
    have tyAll : ∀ (i : Nat) (x : V), ([.ref p1, .non, .ref q1, .ref q2, .ref q3, .int 0] : List V)[i]? = some x → ∃ n ∈ builtinNames, ∀ Hx, Same HZ Hx → TyX K Hx x (.type n) := by
      intro i x hx
      match i, hx with
      | 0, hx => cases hx; exact ⟨"tuple", by simp, fun Hx s => sqT_ty (same_T s tZ1.seq)⟩
      | 1, hx => cases hx; exact ⟨"NoneType", by simp, fun Hx s => .base .non⟩
      | 2, hx => cases hx; exact ⟨"tuple", by simp, fun Hx s => sqT_ty (SqT.of (s _ _ z1))⟩
      | 3, hx => cases hx; exact ⟨"list", by simp, fun Hx s => sqL_ty (SqL.of (s _ _ z2))⟩
      | 4, hx => cases hx; exact ⟨"dict", by simp, fun Hx s => .base (.dK (s _ _ z3))⟩
      | 5, hx => cases hx; exact ⟨"int", by simp, fun Hx s => .base (.int _)⟩
      | i + 6, hx => simp at hx
    refine ⟨q4, rfl, ⟨_, SqT.of z4⟩, fun D hD => lc_addT (p := fun _ => true) (f := fun _ => V.bl false) hD (SqT.of z4) (by show 6 < sizeLine; decide) (fun i x H' Q' hx s q => q H' (Same.refl _)) (fun i x H' Q' hx _ s q => ?_) fun H5 s5 e5 => ?_⟩
    · obtain ⟨nm, hnm, hty⟩ := tyAll i x hx
      refine ⟨_, rfl, made_factsR g1 (.tup (same_T s tZ1.seq) (Dq.sameAll s _ _ dZ1)) fun xo H6 s6 f6 => ?_⟩
      obtain ⟨dxo, pao, nao, vao, sao, qso, sso, yo, _⟩ := id f6
      exact ⟨_, rfl, xo, dxo, _, .type nm, rfl, yo, hty _ (s.trans s6), Z.nft nm hnm, xo, x, srt fs, rfl, f6, g1.srt, .inl ⟨nm, hty _ (s.trans s6), hnm, q _ s6⟩⟩
    · refine ⟨D, List.replicate 6 false, rfl, SqL.of (by rw [e5]; rfl), _, rfl, ?_⟩
      exact k _ (fun b o nb e nt => s5 _ _ (kZ b o nb e nt)) (tabZ.ext s5)
end
end Kx
namespace Kx
open PySem PySem.Spec L2 Vx
def spRight (K : PySem.W.Frag) (TT : List (Addr × Str)) : Sp := fun vs H Q _ => ∃ (l : Addr) (a b c : Int) (n : Nat), vs = [.ref l] ∧ H l = some (pot a b c) ∧ PotI a b c n ∧ n + 60 ≤ 1000000 ∧ LamX.Tabs TT H ∧
  ∀ (H' : Hp), Kept l H H' → LamX.Tabs TT H' → Q (.bl true) H'
section
variable {P : Program} {w : World} {K : PySem.W.Frag} {mg : Str → Option Value} {base : Heap}
theorem ok_right {f fD fO fT fP fC cO PO_ C CB CN CU CA : Addr} {fd fdD fdO fdT fdP fdC : FuncData} {TT : List (Addr × Str)} (F : FunL K "_law_right" "_law_right" sRight f fd cO)
    (T : TxtR K mg) (Z : Kit3 P w K mg base C CB CN CU)
    (GD : FnOk P w K mg base CX0 3 fD fdD ["pot"] (spDrawn K)) (gD : mg "_law_drawn_pairs" = some (.ref fD)) (kD : PySem.W.keepIn K (.ref fD) = true) (bD : Binds K fdD ["pot"] [])
    (GO : FnG P w K mg base 10 fO fdO ["pot", "pairs"] (spObj K TT)) (gO : mg "_law_object_right" = some (.ref fO)) (kO : PySem.W.keepIn K (.ref fO) = true) (bO : Binds K fdO ["pot", "pairs"] [])
    (GT : FnG P w K mg base 10 fT fdT ["one", "other"] (spTwo K TT)) (gT : mg "_law_two_right" = some (.ref fT)) (kT : PySem.W.keepIn K (.ref fT) = true) (bT : Binds K fdT ["one", "other"] [])
    (GP : FnOk P w K mg base CX0 1 fP fdP ["thing"] (spDataS K areFacts)) (gP : mg "_law_is_pairs" = some (.ref fP)) (kP : PySem.W.keepIn K (.ref fP) = true) (bP : Binds K fdP ["thing"] [])
    (FC : Fun K "_law_caught" "_law_caught" sCaught fC fdC) (gC' : mg "_law_caught" = some (.ref fC)) (bC : L2.Binds K fdC ["ask"] []) (TC : TxtC mg CA CB CN CU)
    (TB : LamX.TabB base mg cO PO_) (hmT : (PO_, lamN "_law_right") ∈ TT) (huT : ∀ p ∈ TT, p.1 = PO_ → p.2 = lamN "_law_right") (eB : ErrT K CA CB CN CU CB true false false) :
    FnG P w K mg base 13 f fd ["pot"] (spRight K TT) := by
  refine fun_okGL F scRight (fun vs H Q E h => ?_) (fun A outer s H vs Q hg hr h => ?_)
  · obtain ⟨l, a, b, c, n, rfl, _⟩ := h
    rfl
  · obtain ⟨l, a, b, c, n, rfl, hl, hp, hn, hT, k⟩ := h
    exact right_reads (fd := fd) T Z hg hr GD gD kD bD GO gO kO bO GT gT kT bT GP gP kP bP FC gC' bC TC TB hmT eB hT hl hp hn k huT
abbrev sLaw : Stmt := top 21
abbrev nLaw : List Str := ["script", "k"]
theorem scLaw : FnScope nLaw ["script"] (defScope sLaw) := ⟨rfl, rfl, rfl, by decide +kernel, rfl, by decide +kernel, by decide +kernel⟩
structure TxtL (K : PySem.W.Frag) (mg : Str → Option Value) : Prop extends TxtR K mg where
  max : mg "max" = none
  min : mg "min" = none
  range : mg "range" = none
def spLaw (K : PySem.W.Frag) (TT : List (Addr × Str)) : Sp := fun vs H Q _ => ∃ (a : Addr) (ns : List Int), vs = [.ref a] ∧ SqL K H a (ns.map V.int) ∧ ns.length ≤ 1000 ∧ LamX.Tabs TT H ∧ ∀ H', Q (.bl true) H'
theorem seqL_kept {l a : Addr} {H H3 H4 : Hp} {xs : List V} (s : Same H H3) (e : Kept l H3 H4) (n : H l = none) (h : SqL K H a xs) : SqL K H4 a xs := by
  rcases h with (h | ⟨o, h⟩) | h
  · exact .inl (.inl (e _ _ (ne_of_none h n) (s _ _ h) fun _ z => nomatch z))
  · exact .inl (.inr ⟨o, e _ _ (ne_of_none h n) (s _ _ h) fun _ z => nomatch z⟩)
  · exact .inr h
theorem ok_law {f fR fP : Addr} {fd fdR fdP : FuncData} {TT : List (Addr × Str)} (F : Fun K "law" "law" sLaw f fd) (T : TxtL K mg)
    (GR : FnG P w K mg base 13 fR fdR ["pot"] (spRight K TT)) (gR : mg "_law_right" = some (.ref fR)) (kR : PySem.W.keepIn K (.ref fR) = true) (bR : Binds K fdR ["pot"] [])
    (GP : FnOk P w K mg base CX0 1 fP fdP ["script", "k"] (spPot K)) (gP : mg "_law_pot_of" = some (.ref fP)) (kP : PySem.W.keepIn K (.ref fP) = true) (bP : Binds K fdP ["script", "k"] []) :
    FnG P w K mg base 14 f fd ["script"] (spLaw K TT) := by
  refine fun_okG F scLaw (fun vs H Q E h => ?_) (fun cdv A outer s H vs Q hg hr h => ?_)
  · obtain ⟨a, ns, rfl, _⟩ := h
    rfl
  · obtain ⟨a, ns, rfl, hS, hlen, hT, k⟩ := h
    have hG2 : (cxOf L2.CX0 P w K mg base nLaw "law" (defScope sLaw) f cdv A outer s H L2.E0).nox.A.guards = some [] := hg
    refine ⟨_, pss_cons (ps_for PassesOwn.never rfl (pi_range1 rfl T.range (pa_cons (pe_callB (call_max2 rfl) (by rfl) T.max (by decide +kernel) (pa_cons pe_int (pa_cons (pe_callB (call_min2 rfl) (by rfl) T.min (by decide +kernel) (pa_cons pe_int (pa_cons (pe_callB call_len_seq (by rfl) T.len PySem.boot_len (pa_cons (pv 0) pa_nil)) pa_nil))) pa_nil))) pa_nil)) (pg_name (i := 1) scLaw.nd rfl (Or.inl rfl))
        (pss_one (ps_if (pt_not (pt_val (pe_callG GR hG2 hr rfl gR kR bR (pa_cons (pe_call GP (hr.mono (by decide)) rfl gP kP bP .nil pass0 (pa_cons (pv 0) (pa_cons (pv 1) pa_nil))) pa_nil)))) (pss_one (ps_ret pe_bl)) pss_nil)))
      (pss_one (ps_ret pe_bl)), ?_⟩
    refine ⟨_, rfl, a, _, rfl, .inl hS, _, _, rfl, _, _, rfl, ?_⟩
    obtain ⟨m, hm, hm2⟩ : ∃ m : Nat, (if (if ((ns.map V.int).length : Int) < 3 then ((ns.map V.int).length : Int) else 3) > 1 then (if ((ns.map V.int).length : Int) < 3 then ((ns.map V.int).length : Int) else 3) else (1 : Int)) = (m : Int) ∧ m ≤ 3 := by
      refine ⟨(if (if ((ns.map V.int).length : Int) < 3 then ((ns.map V.int).length : Int) else 3) > 1 then (if ((ns.map V.int).length : Int) < 3 then ((ns.map V.int).length : Int) else 3) else (1 : Int)).toNat, ?_, ?_⟩ <;> split <;> split at * <;> omega
    refine ⟨(m : Int), by rw [← hm], by omega, by omega, for_range (n := m) (fun i σ' H' => (∃ o, σ' = [some (.ref a), o]) ∧ SqL K H' a (ns.map V.int) ∧ LamX.Tabs TT H') ⟨⟨_, rfl⟩, hS, hT⟩ (fun i σ' H' hi A => ?_) fun σ' H' A => ?_⟩
    · obtain ⟨⟨o, rfl⟩, hS2, hT2⟩ := A
      refine ⟨_, rfl, _, rfl, a, ns, _, rfl, hS2, hlen, by omega, by omega, fun l x y H3 hln s3 hl3 hp3 => ?_⟩
      refine ⟨l, x, y, 0, 0, rfl, hl3, hp3, by decide, hT2.ext s3, fun H4 k4 t4 => ⟨_, rfl, ite2 (fun z => nomatch z) (fun _ => ?_)⟩⟩
      exact ⟨⟨_, rfl⟩, seqL_kept s3 k4 hln hS2, t4⟩
    · exact k H'
end
end Kx
namespace Vx
open PySem PySem.Spec PyProof.Rows L2
/-! ### the law's call, where no repr is under way -/
/-- what is tracked when the law is called: the tables, and the script where the row has no word of it -/
def trk (K : PySem.W.Frag) (ts : List Addr) (a : Addr) (o : Obj) (xs : List V) : Hp := fun b =>
  if b ∈ ts then some (.tbl #[]) else if b = a ∧ K.lookup a = none then some (.frz o (.lst xs)) else none
section
variable {K : PySem.W.Frag} {ts : List Addr} {a : Addr} {o : Obj} {xs : List V}
theorem trk_tab {b : Addr} (h : b ∈ ts) : trk K ts a o xs b = some (.tbl #[]) := if_pos h
theorem trk_scr (h : a ∉ ts) (n : K.lookup a = none) : trk K ts a o xs a = some (.frz o (.lst xs)) := (if_neg h).trans (if_pos ⟨rfl, n⟩)
theorem trk_some {b : Addr} {u : HO} (h : trk K ts a o xs b = some u) : (b ∈ ts ∧ u = .tbl #[]) ∨ (b ∉ ts ∧ b = a ∧ K.lookup a = none ∧ u = .frz o (.lst xs)) := by
  unfold trk at h
  split at h
  · rename_i m
    exact .inl ⟨m, (Option.some.inj h).symm⟩
  · rename_i m
    split at h
    · rename_i m2
      exact .inr ⟨m, m2.1, m2.2, (Option.some.inj h).symm⟩
    · cases h
end
theorem end_call {P : Program} {w : World} {K : PySem.W.Frag} {mg mb : Str → Option Value} {fa a : Addr} {tb : List (Addr × Addr)} {s : Shared} {its : List Value} {ns : List Int}
    (kin : K.In s.heap) (gl : s.heap.Ns mainGlobals mg) (bn : s.heap.Ns builtinsNs mb) (bb : ∀ y : Str, y ≠ "__name__" → mb y = bootBuiltins y) (lim : s.heap.NoLimit) (gens : s.gens = #[])
    (tbs : ∀ q ∈ tb, s.heap.get? q.2 = some { cls := .none, data := .fields #[] }) (tbK : ∀ q ∈ tb, K.lookup q.2 = none) (hds : ∀ q ∈ tb, PySem.W.CodeHd s.heap q.1 q.2)
    (bmod : ∃ (m : Addr) (om : Obj), mg "__builtins__" = some (.ref m) ∧ m ≠ builtinsNs ∧ s.heap.get? m = some om ∧ om.cls = .type "module" ∧ om.dict = some builtinsNs ∧ om.data = .plain)
    (lst : s.heap.get? a = some { cls := .type "list", data := .seq its.toArray }) (zs0 : IntsAre its ns) (sm : ns.length ≤ sizeLine)
    (run : ∀ (base : Heap) (H : Hp), K.In base → base.Ns mainGlobals mg → (∀ q ∈ tb, LamX.TabB base mg q.1 q.2) → Env0 P w K mg base callerA [] s H → (∀ q ∈ tb, H q.2 = some (.tbl #[])) → SqL K H a (ns.map V.int) →
      codeAny (model P w) callerA (.call (.ref fa) ⟨[.ref a], []⟩) (CR L2.CX0 [] P w H s (fun v _ => v = .bl true) L2.E0) s) :
    codeAny (model P w) callerA (.call (.ref fa) ⟨[.ref a], []⟩) (fun r s' => r = .ok (.ret (.bool true)) ∧ OldK s.heap s'.heap ∧ s'.os = s.os ∧ AllBare s'.gens) s := by
  have rel := vals_ints zs0
  have tbA : ∀ b ∈ tb.map (·.2), s.heap.get? b = some { cls := .none, data := .fields #[] } ∧ K.lookup b = none := by
    intro b hb
    obtain ⟨q, hq, rfl⟩ := List.mem_map.mp hb
    exact ⟨tbs q hq, tbK q hq⟩
  have apart : a ∉ tb.map (·.2) := by
    intro m
    have e := (tbA a m).1.symm.trans lst
    have e2 : Data.fields #[] = Data.seq its.toArray _ := congrArg Obj.data (Option.some.inj e)
    cases e2
  have shut : ∀ q ∈ tb, trk K (tb.map (·.2)) a { cls := .type "list", data := .seq its.toArray } (ns.map V.int) q.2 = some (.tbl #[]) := fun q hq => trk_tab (List.mem_map.mpr ⟨q, hq, rfl⟩)
  have ok : HOk P w (trk K (tb.map (·.2)) a { cls := .type "list", data := .seq its.toArray } (ns.map V.int)) s.heap := by
    intro b u h
    rcases trk_some h with ⟨m, rfl⟩ | ⟨_, rfl, _, rfl⟩
    · exact (tbA b m).1
    · exact ⟨lst, by rw [List.length_map]; exact sm, its, _, rel, lst⟩
  have scr : SqL K (trk K (tb.map (·.2)) a { cls := .type "list", data := .seq its.toArray } (ns.map V.int)) a (ns.map V.int) := by
    cases q : K.lookup a with
    | none => exact .inl (.inr ⟨_, trk_scr apart q⟩)
    | some ob =>
      have e := (kin a ob q).symm.trans lst
      cases e
      exact .inr ⟨_, its.toArray, _, q, rfl, rfl, rfl, by rw [List.size_toArray, zs0.length]; exact sm, by simpa using rel⟩
  have atMost : ∀ {b : Addr} {u : HO}, trk K (tb.map (·.2)) a { cls := .type "list", data := .seq its.toArray } (ns.map V.int) b = some u → b ∈ tb.map (·.2) ∨ (b = a ∧ K.lookup a = none ∧ ∃ ob ys, u = .frz ob (.lst ys)) := by
    intro b u h
    rcases trk_some h with ⟨m, _⟩ | ⟨_, e1, e2, e3⟩
    · exact .inl m
    · exact .inr ⟨e1, e2, _, _, e3⟩
  generalize hTr : trk K (tb.map (·.2)) a { cls := .type "list", data := .seq its.toArray } (ns.map V.int) = H at shut ok scr atMost
  -- what is not tracked
  have off : ∀ {b : Addr} {ob : Obj}, s.heap.get? b = some ob → (∀ xs n, ob.data ≠ .seq xs n) → ob.data ≠ .fields #[] → H b = none := by
    intro b ob e n1 n2
    cases q : H b with
    | none => rfl
    | some u =>
      exfalso
      rcases atMost q with m | ⟨rfl, _⟩
      · have z := (tbA b m).1.symm.trans e
        cases z
        exact n2 rfl
      · have z := lst.symm.trans e
        cases z
        exact n1 _ _ rfl
  have under : ∀ {b : Addr} {ob : Obj}, s.heap.get? b = some ob → (∀ xs n, ob.data ≠ .seq xs n) → ob.data ≠ .fields #[] → (hidT s.heap H).get? b = some ob := fun e n1 n2 => hidT_get e (off e n1 n2)
  have names : ∀ {b : Addr} {m : Str → Option Value}, s.heap.Ns b m → (hidT s.heap H).Ns b m := by
    rintro b m ⟨ob, es, ep, e, d, r⟩
    refine ⟨ob, es, ep, under e ?_ ?_, d, r⟩
    · intro xs n z
      rw [d] at z
      cases z
    · intro z
      rw [d] at z
      cases z
  have kbase : K.In (hidT s.heap H) := by
    intro b ob e
    refine hidT_get (kin b ob e) ?_
    cases q : H b with
    | none => rfl
    | some u =>
      exfalso
      rcases atMost q with m | ⟨rfl, z, _⟩
      · rw [(tbA b m).2] at e
        cases e
      · rw [z] at e
        cases e
  have limB : (hidT s.heap H).NoLimit := by
    obtain ⟨mc, n1, n2⟩ := lim
    exact ⟨mc, names n1, n2⟩
  have tabB : ∀ q ∈ tb, LamX.TabB (hidT s.heap H) mg q.1 q.2 := by
    intro q hq
    have hT := tbs q hq
    refine ⟨?_, ?_, ?_⟩
    · obtain ⟨co, us, file, tf, flags, tg, inF, text, tt, e1, r1, r2, rest⟩ := hds q hq
      refine ⟨co, us, file, tf, flags, tg, inF, text, tt, under e1 ?_ ?_, r1, r2, rest⟩
      · intro xs n z
        rw [r2] at z
        cases z
      · intro z
        rw [r2] at z
        cases z
        have := rest.1
        simp at this
    · obtain ⟨m, om, b1, b2, b3, b4, b5, b6⟩ := bmod
      have n1 : m ≠ mainGlobals := by
        intro z
        obtain ⟨ob, es, ep, e, hd, _⟩ := gl
        rw [z, e] at b3
        cases b3
        rw [hd] at b6
        cases b6
      have n2 : m ≠ q.2 := by
        intro z
        rw [z, hT] at b3
        cases b3
        cases b6
      refine ⟨m, om, b1, b2, n1, n2, under b3 ?_ ?_, b4, b5, b6⟩
      · intro xs n z
        rw [b6] at z
        cases z
      · intro z
        rw [b6] at z
        cases z
    · intro z
      obtain ⟨ob, es, ep, e, hd, _⟩ := gl
      rw [z, hT] at e
      cases e
      cases hd
  have env : Env0 P w K mg (hidT s.heap H) callerA [] s H :=
    ⟨rfl, ⟨kbase, names gl, ⟨mb, names bn, bb⟩, limB⟩, fun b ob e => of_hidT e, Nat.le_of_eq (hidT_size _ _), trivial, fun b hb => (List.not_mem_nil hb).elim, ok, .of_eq gens⟩
  refine codeAny_mono (run _ H kbase (names gl) tabB env shut scr) ?_
  rintro (e | fl) s' h
  · exact False.elim h
  cases fl with
  | next => exact False.elim h
  | brk => exact False.elim h
  | cont => exact False.elim h
  | ret u =>
    obtain ⟨v, H', os, bare, un, ok', r', hv⟩ := h
    cases (show v = .bl true from hv)
    cases (show u = Value.bool true from r')
    have table : ∀ q ∈ tb, ∃ more : Array Value, s'.heap.get? q.2 = some { cls := .none, data := .fields more } := by
      intro q hq
      obtain ⟨more, z⟩ := un.tbls q.2 #[] (shut q hq)
      exact ⟨_, ok' q.2 _ z⟩
    have other : ∀ b ob, b ∉ tb.map (·.2) → s.heap.get? b = some ob → s'.heap.get? b = some ob := by
      intro b ob nb e
      cases q : H b with
      | none => exact un.keep b ob e q (fun z => List.not_mem_nil z) (by simp)
      | some u =>
        rcases atMost q with m | ⟨_, _, o2, ys, rfl⟩
        · exact (nb m).elim
        · have g1 := (ok b _ q).1
          have g2 := (ok' b _ (un.frzs b o2 _ q)).1
          rw [e] at g1
          cases g1
          exact g2
    refine ⟨rfl, ⟨?_, ?_⟩, os, bare⟩
    · intro b ob e
      by_cases m : b ∈ tb.map (·.2)
      · obtain ⟨q, hq, rfl⟩ := List.mem_map.mp m
        obtain ⟨more, z⟩ := table q hq
        rw [tbs q hq] at e
        cases e
        exact .inr (.inl ⟨((hds q hq).tab (tbs q hq)).isCodeTable, rfl, #[], more, rfl, by rw [z, Array.empty_append]⟩)
      · exact .inl (other b ob m e)
    · intro b ob e
      by_cases m : b ∈ tb.map (·.2)
      · obtain ⟨q, hq, rfl⟩ := List.mem_map.mp m
        obtain ⟨more, z⟩ := table q hq
        exact ⟨_, z⟩
      · exact ⟨ob, other b ob m e⟩
end Vx
namespace Kx
open PySem PySem.Spec L2 Vx
/-! ### what the row's top has left, as one check each -/
def dErr : He.DefD := ⟨("AskError", some "__init__"), "__init__", "AskError.__init__", defArgs sErrInit, defBody sErrInit, defScope sErrInit, [], []⟩
def dIsPair : He.DefD := ⟨("is_pair", none), "is_pair", "is_pair", defArgs sIsPair, defBody sIsPair, defScope sIsPair, [], []⟩
def dAre : He.DefD := ⟨("are_facts", none), "are_facts", "are_facts", defArgs sAreFacts, defBody sAreFacts, defScope sAreFacts, [], []⟩
def dSort : He.DefD := ⟨("with_sort", none), "with_sort", "with_sort", defArgs sWithSort, defBody sWithSort, defScope sWithSort, [], []⟩
def dInit : He.DefD := ⟨("Facts", some "__init__"), "__init__", "Facts.__init__", defArgs sInit, defBody sInit, defScope sInit, [.adr (He.dflAt ("Facts", some "__init__") 0)], []⟩
def dGet : He.DefD := ⟨("Facts", some "__getitem__"), "__getitem__", "Facts.__getitem__", defArgs sGet, defBody sGet, defScope sGet, [], []⟩
def dHas : He.DefD := ⟨("Facts", some "__contains__"), "__contains__", "Facts.__contains__", defArgs sHas, defBody sHas, defScope sHas, [], []⟩
def dLen : He.DefD := ⟨("Facts", some "__len__"), "__len__", "Facts.__len__", defArgs sLen, defBody sLen, defScope sLen, [], []⟩
def dEq : He.DefD := ⟨("Facts", some "__eq__"), "__eq__", "Facts.__eq__", defArgs sEq, defBody sEq, defScope sEq, [], []⟩
def dOr : He.DefD := ⟨("Facts", some "__or__"), "__or__", "Facts.__or__", defArgs sOr, defBody sOr, defScope sOr, [], []⟩
def dOnly : He.DefD := ⟨("Facts", some "only"), "only", "Facts.only", defArgs sOnly, defBody sOnly, defScope sOnly, [], []⟩
def dPot : He.DefD := ⟨("_law_pot_of", none), "_law_pot_of", "_law_pot_of", defArgs sPot, defBody sPot, defScope sPot, [], []⟩
def dTake : He.DefD := ⟨("_law_take", none), "_law_take", "_law_take", defArgs sTake, defBody sTake, defScope sTake, [], []⟩
def dOf : He.DefD := ⟨("_law_of", none), "_law_of", "_law_of", defArgs sOf, defBody sOf, defScope sOf, [], []⟩
def dSame : He.DefD := ⟨("_law_same", none), "_law_same", "_law_same", defArgs sSame, defBody sSame, defScope sSame, [], []⟩
def dCaught : He.DefD := ⟨("_law_caught", none), "_law_caught", "_law_caught", defArgs sCaught, defBody sCaught, defScope sCaught, [], []⟩
def dDrawn : He.DefD := ⟨("_law_drawn_pairs", none), "_law_drawn_pairs", "_law_drawn_pairs", defArgs sDrawn, defBody sDrawn, defScope sDrawn, [], []⟩
def dIsPairs : He.DefD := ⟨("_law_is_pairs", none), "_law_is_pairs", "_law_is_pairs", defArgs sIsPairs, defBody sIsPairs, defScope sIsPairs, [], []⟩
def dObj : He.DefD := ⟨("_law_object_right", none), "_law_object_right", "_law_object_right", defArgs sObj, defBody sObj, defScope sObj, [], []⟩
def dTwo : He.DefD := ⟨("_law_two_right", none), "_law_two_right", "_law_two_right", defArgs sTwo, defBody sTwo, defScope sTwo, [], []⟩
def dRight : He.DefD := ⟨("_law_right", none), "_law_right", "_law_right", defArgs sRight, defBody sRight, defScope sRight, [], []⟩
def dLaw : He.DefD := ⟨("law", none), "law", "law", defArgs sLaw, defBody sLaw, defScope sLaw, [], []⟩
def fnAll : List He.DefD := [dErr, dIsPair, dAre, dSort, dInit, dGet, dHas, dLen, dEq, dOr, dOnly, dPot, dTake, dOf, dSame, dCaught, dDrawn, dIsPairs, dObj, dTwo, dRight, dLaw]
def gloAll : List Str := ["AskError", "BadFacts", "NoName", "Unlike", "Facts", "is_pair", "are_facts", "with_sort", "_law_pot_of", "_law_take", "_law_of", "_law_same", "_law_caught", "_law_drawn_pairs", "_law_is_pairs", "_law_object_right", "_law_two_right", "_law_right", "law"]
def freeAll : List Str := ["len", "isinstance", "tuple", "int", "str", "all", "set", "bool", "sorted", "dict", "repr", "list", "any", "max", "min", "range", "abs"]
section
variable (K : PySem.W.Frag)
def errB (C f : Addr) : Bool := He.eqO (PySem.W.findIn K (.ref C) "value") (some none) && (He.eqO (PySem.W.findIn K (.ref C) "__init__") (some (some (.ref f))) && (decide (PySem.W.typeIn K (.ref f) = some (.type "function")) &&
  (He.eqO (PySem.W.findIn K (.ref C) "__setattr__") (some (some (.builtin "object.__setattr__"))) && (decide (PySem.W.subIn K (.ref C) (.type "BaseException") = some true) && (decide (PySem.W.typeIn K (.ref C) = some (.type "type")) && PySem.W.keepIn K (.ref C))))))
def isB (C : Addr) : Bool := He.eqO (PySem.W.findIn K (.ref C) "__class__") (some (some (.builtin "object.__class__"))) && (He.eqO (PySem.W.specialIn K (.builtin "object.__class__") "__get__") (some (some (.builtin "getset_descriptor.__get__"))) &&
  (decide (PySem.W.takesIn K (.builtin "object.__class__") = some true) && decide (PySem.W.mroIn K C (.type "object") = some true)))
def err3B (CA C0 C1 C2 C : Addr) (b0 b1 b2 : Bool) : Bool := xfB K C && (isB K C && (decide (PySem.W.kitOne K (.ref C) (.ref C0) = some b0) && (decide (PySem.W.kitOne K (.ref C) (.ref C1) = some b1) && (decide (PySem.W.kitOne K (.ref C) (.ref C2) = some b2) && decide (PySem.W.exmOne K (.ref C) (.ref CA) = some true)))))
def opB (C : Addr) (n : Str) : Bool := He.eqO (PySem.W.findIn K (.ref C) n) (some (some (.ref (He.ma K C n)))) && PySem.W.isFn K (.ref (He.ma K C n))
def clsB (C : Addr) : Bool := isB K C && (decide (PySem.W.kitOne K (.ref C) (.ref C) = some true) && (builtinNames.all (fun n => decide (PySem.W.kitOne K (.type n) (.ref C) = some false) && PySem.W.notFirst K C (.type n)) && (PySem.W.notFirst K C (.ref C) &&
  (PySem.W.selfFirst K C && (PySem.W.fnIn K (He.ma K C "__getitem__") && (opB K C "__len__" && (opB K C "__contains__" && (opB K C "__getitem__" && (opB K C "__eq__" && opB K C "__or__")))))))))
/-- the code object of the def at f, and its table -/
def codeOf (f : Addr) : Addr := match K.lookup f with
  | some ⟨_, _, .func fd, _⟩ => (match fd.code with
    | .ref c => c
    | _ => 0)
  | _ => 0
def tabOf (c : Addr) : Addr := match K.lookup c with
  | some ⟨_, _, .fields us, _⟩ => (match (us[11]? : Option Value) with
    | some (.ref p) => p
    | _ => 0)
  | _ => 0
def codB (f : Addr) : Bool := (match K.lookup f with
  | some ⟨_, _, .func fd, _⟩ => decide (fd.code = .ref (codeOf K f))
  | _ => false) && (PySem.W.codeHdIn K (codeOf K f) (tabOf K (codeOf K f)) && (K.lookup (tabOf K (codeOf K f))).isNone)
def emptyTupB (a : Addr) : Bool := match K.lookup a with
  | some ⟨.type c, _, .seq its _, _⟩ => decide (c = "tuple") && decide (its.size = 0)
  | _ => false
def tabsK : List Addr := [tabOf K (codeOf K (He.ga K "_law_object_right")), tabOf K (codeOf K (He.ga K "_law_two_right")), tabOf K (codeOf K (He.ga K "_law_right"))]
def restB : Bool := errB K (He.ga K "BadFacts") (He.ma K (He.ga K "AskError") "__init__") && (errB K (He.ga K "NoName") (He.ma K (He.ga K "AskError") "__init__") && (errB K (He.ga K "Unlike") (He.ma K (He.ga K "AskError") "__init__") &&
  (err3B K (He.ga K "AskError") (He.ga K "BadFacts") (He.ga K "NoName") (He.ga K "Unlike") (He.ga K "BadFacts") true false false && (err3B K (He.ga K "AskError") (He.ga K "BadFacts") (He.ga K "NoName") (He.ga K "Unlike") (He.ga K "NoName") false true false &&
  (err3B K (He.ga K "AskError") (He.ga K "BadFacts") (He.ga K "NoName") (He.ga K "Unlike") (He.ga K "Unlike") false false true && (clsB K (He.ga K "Facts") && ((He.Fa.cls "Facts").ok K && ((He.Fa.mkr "Facts").ok K && ((He.Fa.meth "Facts" "only").ok K &&
  ((He.Fa.noat "Facts" "pairs").ok K && ((He.Fa.noat "Facts" "names").ok K && ((He.Fa.noat "Facts" "_values").ok K && ((He.Fa.noat "Facts" "_sorts").ok K &&
  (codB K (He.ga K "_law_object_right") && (codB K (He.ga K "_law_two_right") && (codB K (He.ga K "_law_right") && (emptyTupB K (He.dflAt ("Facts", some "__init__") 0 K) && decide (tabsK K).Nodup)))))))))))))))))
end
section
variable {K : PySem.W.Frag}
theorem fun_of {x qual : Str} {st : Stmt} {f : Addr} {fd : FuncData} (F : FunD K x qual (defArgs st) (defBody st) (defScope st) [] [] f fd) : Fun K x qual st f fd := by
  obtain ⟨oc, od, dV, kV, doc, pm, an, cdv, ct, osl, rfl, lk, hcd, hD, _⟩ := F.ex
  rcases hD with ⟨_, rfl⟩ | ⟨z, _⟩
  · exact ⟨⟨oc, od, kV, doc, pm, an, cdv, ct, osl, rfl, lk, hcd⟩, F.kp⟩
  · exact absurd rfl z
theorem funL_of {x qual : Str} {st : Stmt} {f : Addr} {fd : FuncData} (F : Fun K x qual st f fd) (b : codB K f = true) : FunL K x qual st f fd (codeOf K f) := by
  obtain ⟨oc, od, kV, doc, pm, an, cdv, ct, osl, rfl, lk, hcd⟩ := F.ex
  have b1 := (He.ba b).1
  rw [lk] at b1
  have e : cdv = .ref (codeOf K f) := of_decide_eq_true b1
  rw [e] at lk hcd ⊢
  exact ⟨⟨oc, od, kV, doc, pm, an, ct, osl, rfl, lk, hcd⟩, F.kp⟩
theorem op_of {C : Addr} {n : Str} (h : opB K C n = true) : OwnOp K C n (He.ma K C n) := ⟨He.eqO_ok (He.ba h).1, (He.ba h).2⟩
theorem emptyTup_of {a : Addr} (h : emptyTupB K a = true) (H : Hp) : SqT K H a [] := by
  unfold emptyTupB at h
  split at h
  · rename_i c _ its n _ q
    obtain ⟨h1, h2⟩ := He.ba h
    have e1 : c = "tuple" := of_decide_eq_true h1
    have e2 : its.size = 0 := of_decide_eq_true h2
    subst e1
    refine .inr ⟨_, its, n, q, rfl, rfl, by rw [e2]; exact Nat.zero_le _, ?_⟩
    have : its = #[] := Array.eq_empty_of_size_eq_zero e2
    rw [this]
    exact .nil
  · cases h
theorem exc_of {C : Addr} (h : isB K C = true) (x : xfB K C = true) : ExcC K C := by
  obtain ⟨h1, h⟩ := He.ba h
  obtain ⟨h2, h⟩ := He.ba h
  obtain ⟨h3, h4⟩ := He.ba h
  have X := xfB_ok x
  exact ⟨X.ga, X.gg, X.exC, X.hdC, He.eqO_ok h1, He.eqO_ok h2, of_decide_eq_true h3, of_decide_eq_true h4⟩
theorem err_of {C f : Addr} (h : errB K C f = true) (c : ∃ nm q N bs bm sn sub ab col dd k0 k1 k2 k3 k5, K.lookup C = some (excClassObj nm q C N bs bm true sn sub ab col dd k0 k1 k2 k3 k5 "ValueError.__new__") ∧ PySem.HandSPX.refsVE bm = true) : ErrC K C f := by
  obtain ⟨h1, h⟩ := He.ba h
  obtain ⟨h2, h⟩ := He.ba h
  obtain ⟨h3, h⟩ := He.ba h
  obtain ⟨h4, h⟩ := He.ba h
  obtain ⟨h5, h⟩ := He.ba h
  obtain ⟨h6, h7⟩ := He.ba h
  exact ⟨⟨c, He.eqO_ok h4, of_decide_eq_true h5, of_decide_eq_true h6, h7⟩, He.eqO_ok h1, He.eqO_ok h2, of_decide_eq_true h3⟩
theorem err3_of {CA C0 C1 C2 C f : Addr} {b0 b1 b2 : Bool} (e : errB K C f = true) (h : err3B K CA C0 C1 C2 C b0 b1 b2 = true) : ErrT K CA C0 C1 C2 C b0 b1 b2 := by
  obtain ⟨h1, h⟩ := He.ba h
  obtain ⟨h2, h⟩ := He.ba h
  obtain ⟨h3, h⟩ := He.ba h
  obtain ⟨h4, h⟩ := He.ba h
  obtain ⟨h5, h6⟩ := He.ba h
  exact ⟨exc_of h2 h1, xfB_ok h1, He.eqO_ok (He.ba e).1, of_decide_eq_true h3, of_decide_eq_true h4, of_decide_eq_true h5, of_decide_eq_true h6⟩
end
end Kx
namespace Kx
open PySem PySem.Spec L2 Vx
/-- what is asked of the heap's part that the row tells of -/
structure HeadOk (K : PySem.W.Frag) : Prop where
  fnv : fnAll.map (fun d => He.fnW K d.at_) = fnAll.map He.DefD.val
  fno : (fnAll.all fun d => d.ok K) = true
  glo : (gloAll.all fun x => (He.Fa.glo x).ok K) = true
  free : (freeAll.all fun x => (He.Fa.free x).ok K) = true
  rest : restB K = true
  cB : ∃ nm q N bs bm sn sub ab col dd k0 k1 k2 k3 k5, K.lookup (He.ga K "BadFacts") = some (excClassObj nm q (He.ga K "BadFacts") N bs bm true sn sub ab col dd k0 k1 k2 k3 k5 "ValueError.__new__") ∧ PySem.HandSPX.refsVE bm = true
  cN : ∃ nm q N bs bm sn sub ab col dd k0 k1 k2 k3 k5, K.lookup (He.ga K "NoName") = some (excClassObj nm q (He.ga K "NoName") N bs bm true sn sub ab col dd k0 k1 k2 k3 k5 "ValueError.__new__") ∧ PySem.HandSPX.refsVE bm = true
  cU : ∃ nm q N bs bm sn sub ab col dd k0 k1 k2 k3 k5, K.lookup (He.ga K "Unlike") = some (excClassObj nm q (He.ga K "Unlike") N bs bm true sn sub ab col dd k0 k1 k2 k3 k5 "ValueError.__new__") ∧ PySem.HandSPX.refsVE bm = true
theorem HeadOk.def_ {K : PySem.W.Frag} (h : HeadOk K) (i : Nat) {d : He.DefD} (e : fnAll[i]? = some d) : ∃ fd, FunD K d.name d.qual d.params d.body d.scope (d.dvs K) (d.kws K) (He.fAd K d.at_) fd := by
  have m : d ∈ fnAll := List.mem_of_getElem? e
  refine He.DefD.funD ?_ (List.all_eq_true.mp h.fno d m)
  have z := congrArg (fun l => l[i]?) h.fnv
  simp only [List.getElem?_map, e, Option.map_some] at z
  exact Option.some.inj z
/-- tables and their names -/
def tabNames (K : PySem.W.Frag) : List (Addr × Str) := [(tabOf K (codeOf K (He.ga K "_law_object_right")), lamN "_law_object_right"), (tabOf K (codeOf K (He.ga K "_law_two_right")), lamN "_law_two_right"), (tabOf K (codeOf K (He.ga K "_law_right")), lamN "_law_right")]
def codTabs (K : PySem.W.Frag) : List (Addr × Addr) := [(codeOf K (He.ga K "_law_object_right"), tabOf K (codeOf K (He.ga K "_law_object_right"))), (codeOf K (He.ga K "_law_two_right"), tabOf K (codeOf K (He.ga K "_law_two_right"))), (codeOf K (He.ga K "_law_right"), tabOf K (codeOf K (He.ga K "_law_right")))]
theorem name_once {a b c : Addr} {x y z : Str} (n : [a, b, c].Nodup) : (∀ p ∈ [(a, x), (b, y), (c, z)], p.1 = a → p.2 = x) ∧ (∀ p ∈ [(a, x), (b, y), (c, z)], p.1 = b → p.2 = y) ∧ (∀ p ∈ [(a, x), (b, y), (c, z)], p.1 = c → p.2 = z) := by
  simp only [List.nodup_cons, List.mem_cons, List.not_mem_nil, or_false, not_or] at n
  obtain ⟨⟨n1, n2⟩, n3, _⟩ := n
  refine ⟨fun p hp e => ?_, fun p hp e => ?_, fun p hp e => ?_⟩ <;> simp only [List.mem_cons, List.not_mem_nil, or_false] at hp <;> rcases hp with rfl | rfl | rfl
  · rfl
  · exact absurd e.symm n1
  · exact absurd e.symm n2
  · exact absurd e n1
  · rfl
  · exact absurd e.symm n3
  · exact absurd e n2
  · exact absurd e n3
  · rfl
section
variable {P : Program} {w : World} {K : PySem.W.Frag} {mg : Str → Option Value} {h : Heap}
theorem head_law (O : HeadOk K) (X : K.In h) (G : h.Ns mainGlobals mg) {fa : Addr} (hfa : mg "law" = some (.ref fa)) :
    ∃ fd : FuncData, (∀ (s : Shared) (v : Value), BindsTo s fd ⟨[v], []⟩ [("script", v)]) ∧ ∀ base : Heap, K.In base → base.Ns mainGlobals mg → (∀ q ∈ codTabs K, LamX.TabB base mg q.1 q.2) → FnG P w K mg base 14 fa fd ["script"] (spLaw K (tabNames K)) := by
  have gl : ∀ x ∈ gloAll, mg x = some (.ref (He.ga K x)) := fun x hx => He.glo_ok X G (List.all_eq_true.mp O.glo x hx)
  have fr : ∀ x ∈ freeAll, mg x = none := fun x hx => He.free_ok X G (List.all_eq_true.mp O.free x hx)
  have e := hfa.symm.trans (gl "law" (by decide +kernel))
  cases e
  obtain ⟨r1, hr⟩ := He.ba (show (_ && _) = true from O.rest)
  obtain ⟨r2, hr⟩ := He.ba hr
  obtain ⟨r3, hr⟩ := He.ba hr
  obtain ⟨r4, hr⟩ := He.ba hr
  obtain ⟨r5, hr⟩ := He.ba hr
  obtain ⟨r6, hr⟩ := He.ba hr
  obtain ⟨r7, hr⟩ := He.ba hr
  obtain ⟨r8, hr⟩ := He.ba hr
  obtain ⟨r9, hr⟩ := He.ba hr
  obtain ⟨r10, hr⟩ := He.ba hr
  obtain ⟨r11, hr⟩ := He.ba hr
  obtain ⟨r12, hr⟩ := He.ba hr
  obtain ⟨r13, hr⟩ := He.ba hr
  obtain ⟨r14, hr⟩ := He.ba hr
  obtain ⟨r15, hr⟩ := He.ba hr
  obtain ⟨r16, hr⟩ := He.ba hr
  obtain ⟨r17, hr⟩ := He.ba hr
  obtain ⟨r18, r19⟩ := He.ba hr
  -- the class of facts
  obtain ⟨c1, hc⟩ := He.ba (show (_ && _) = true from r7)
  obtain ⟨c2, hc⟩ := He.ba hc
  obtain ⟨c3, hc⟩ := He.ba hc
  obtain ⟨c4, hc⟩ := He.ba hc
  obtain ⟨c5, hc⟩ := He.ba hc
  obtain ⟨c6, hc⟩ := He.ba hc
  obtain ⟨c7, hc⟩ := He.ba hc
  obtain ⟨c8, hc⟩ := He.ba hc
  obtain ⟨c9, hc⟩ := He.ba hc
  obtain ⟨c10, c11⟩ := He.ba hc
  obtain ⟨i1, hi⟩ := He.ba (show (_ && _) = true from c1)
  obtain ⟨i2, hi⟩ := He.ba hi
  obtain ⟨i3, i4⟩ := He.ba hi
  have hall : ∀ n ∈ builtinNames, PySem.W.kitOne K (.type n) (.ref (He.ga K "Facts")) = some false ∧ PySem.W.notFirst K (He.ga K "Facts") (.type n) = true := fun n hn => by
    obtain ⟨z1, z2⟩ := He.ba (List.all_eq_true.mp c3 n hn)
    exact ⟨of_decide_eq_true z1, z2⟩
  have C : FactsC K (He.ga K "Facts") := ⟨He.cls_ok r8, He.noat_ok r11, He.noat_ok r12, He.noat_ok r13, He.noat_ok r14⟩
  have CT : FactsT K (He.ga K "Facts") := ⟨He.eqO_ok i1, He.eqO_ok i2, of_decide_eq_true i3, of_decide_eq_true i4, of_decide_eq_true c2, fun n hn => (hall n hn).1⟩
  have M : Mk K (He.ga K "Facts") (He.ma K (He.ga K "Facts") "__init__") := He.mkr_ok r9
  have eB := err_of r1 O.cB
  have eN := err_of r2 O.cN
  have eU := err_of r3 O.cU
  have tB := err3_of r1 r4
  have tN := err3_of r2 r5
  have tU := err3_of r3 r6
  -- the texts
  have T : TxtL K mg := by
    refine ⟨⟨⟨⟨⟨⟨⟨?_, ?_, ?_, ?_, ?_⟩, ?_, ?_, ?_⟩, ?_⟩, ?_, ?_⟩, ?_⟩, ?_⟩, ?_, ?_, ?_⟩ <;> exact fr _ (by decide +kernel)
  have TN : TxtN K mg := ⟨fr _ (by decide +kernel), fr _ (by decide +kernel), fr _ (by decide +kernel)⟩
  have TC : TxtC mg (He.ga K "AskError") (He.ga K "BadFacts") (He.ga K "NoName") (He.ga K "Unlike") := ⟨fr _ (by decide +kernel), gl _ (by decide +kernel), gl _ (by decide +kernel), gl _ (by decide +kernel), gl _ (by decide +kernel)⟩
  -- the defs
  obtain ⟨fdE, DE⟩ := O.def_ 0 (d := dErr) rfl
  obtain ⟨fd6, D6⟩ := O.def_ 1 (d := dIsPair) rfl
  obtain ⟨fd7, D7⟩ := O.def_ 2 (d := dAre) rfl
  obtain ⟨fd8, D8⟩ := O.def_ 3 (d := dSort) rfl
  obtain ⟨fdI, DI⟩ := O.def_ 4 (d := dInit) rfl
  obtain ⟨fdG, DG⟩ := O.def_ 5 (d := dGet) rfl
  obtain ⟨fdH, DH⟩ := O.def_ 6 (d := dHas) rfl
  obtain ⟨fdL, DL⟩ := O.def_ 7 (d := dLen) rfl
  obtain ⟨fdQ, DQ⟩ := O.def_ 8 (d := dEq) rfl
  obtain ⟨fdR, DR⟩ := O.def_ 9 (d := dOr) rfl
  obtain ⟨fdO, DO⟩ := O.def_ 10 (d := dOnly) rfl
  obtain ⟨fdP, DP⟩ := O.def_ 11 (d := dPot) rfl
  obtain ⟨fdT, DT⟩ := O.def_ 12 (d := dTake) rfl
  obtain ⟨fdF, DF⟩ := O.def_ 13 (d := dOf) rfl
  obtain ⟨fdS, DS⟩ := O.def_ 14 (d := dSame) rfl
  obtain ⟨fdC, DC⟩ := O.def_ 15 (d := dCaught) rfl
  obtain ⟨fdD, DD⟩ := O.def_ 16 (d := dDrawn) rfl
  obtain ⟨fdK, DK⟩ := O.def_ 17 (d := dIsPairs) rfl
  obtain ⟨fdX, DX⟩ := O.def_ 18 (d := dObj) rfl
  obtain ⟨fdY, DY⟩ := O.def_ 19 (d := dTwo) rfl
  obtain ⟨fdZ, DZ⟩ := O.def_ 20 (d := dRight) rfl
  obtain ⟨fdW, DW⟩ := O.def_ 21 (d := dLaw) rfl
  have bE := FunD.bindsN (ps := ["self", "value"]) DE fun _ _ _ _ _ _ us hl => match us, hl with | [_, _], _ => rfl
  have b6 := FunD.bindsN (ps := ["value"]) D6 fun _ _ _ _ _ _ us hl => match us, hl with | [_], _ => rfl
  have b7 := FunD.bindsN (ps := ["value"]) D7 fun _ _ _ _ _ _ us hl => match us, hl with | [_], _ => rfl
  have b8 := FunD.bindsN (ps := ["value"]) D8 fun _ _ _ _ _ _ us hl => match us, hl with | [_], _ => rfl
  have bG := FunD.bindsN (ps := ["self", "name"]) DG fun _ _ _ _ _ _ us hl => match us, hl with | [_, _], _ => rfl
  have bH := FunD.bindsN (ps := ["self", "name"]) DH fun _ _ _ _ _ _ us hl => match us, hl with | [_, _], _ => rfl
  have bL := FunD.bindsN (ps := ["self"]) DL fun _ _ _ _ _ _ us hl => match us, hl with | [_], _ => rfl
  have bQ := FunD.bindsN (ps := ["self", "other"]) DQ fun _ _ _ _ _ _ us hl => match us, hl with | [_, _], _ => rfl
  have bR := FunD.bindsN (ps := ["self", "other"]) DR fun _ _ _ _ _ _ us hl => match us, hl with | [_, _], _ => rfl
  have bO := FunD.bindsN (ps := ["self", "names"]) DO fun _ _ _ _ _ _ us hl => match us, hl with | [_, _], _ => rfl
  have bP := FunD.bindsN (ps := ["script", "k"]) DP fun _ _ _ _ _ _ us hl => match us, hl with | [_, _], _ => rfl
  have bT := FunD.bindsN (ps := ["pot", "upto"]) DT fun _ _ _ _ _ _ us hl => match us, hl with | [_, _], _ => rfl
  have bF := FunD.bindsN (ps := ["pot", "some"]) DF fun _ _ _ _ _ _ us hl => match us, hl with | [_, _], _ => rfl
  have bS := FunD.bindsN (ps := ["one", "other"]) DS fun _ _ _ _ _ _ us hl => match us, hl with | [_, _], _ => rfl
  have bC := FunD.bindsN (ps := ["ask"]) DC fun _ _ _ _ _ _ us hl => match us, hl with | [_], _ => rfl
  have bD := FunD.bindsN (ps := ["pot"]) DD fun _ _ _ _ _ _ us hl => match us, hl with | [_], _ => rfl
  have bK := FunD.bindsN (ps := ["thing"]) DK fun _ _ _ _ _ _ us hl => match us, hl with | [_], _ => rfl
  have bX := FunD.bindsN (ps := ["pot", "pairs"]) DX fun _ _ _ _ _ _ us hl => match us, hl with | [_, _], _ => rfl
  have bY := FunD.bindsN (ps := ["one", "other"]) DY fun _ _ _ _ _ _ us hl => match us, hl with | [_, _], _ => rfl
  have bZ := FunD.bindsN (ps := ["pot"]) DZ fun _ _ _ _ _ _ us hl => match us, hl with | [_], _ => rfl
  have bW := FunD.bindsA (ps := ["script"]) DW fun _ _ _ _ _ _ us hl => match us, hl with | [_], _ => rfl
  obtain ⟨di2, vi2, bI2⟩ := FunD.binds1 (ps := ["self", "pairs"]) DI 2 1 (List.cons_ne_nil _ _) rfl fun _ _ _ _ _ _ _ us its h1 h2 => match us, h1, its, h2 with | [_, _], _, [_], _ => ⟨_, rfl, rfl⟩
  obtain ⟨di1, vi1, bI1⟩ := FunD.binds1 (ps := ["self", "pairs"]) DI 1 0 (List.cons_ne_nil _ _) rfl fun _ _ _ _ _ _ _ us its h1 h2 => match us, h1, its, h2 with | [_], _, [_], _ => ⟨_, rfl, rfl⟩
  cases vi2
  refine ⟨fdW, fun s v => bW s [v] rfl, fun base kb nb htb => ?_⟩
  have oE := ok_errInit (P := P) (w := w) (mg := mg) (base := base) (fun_of DE)
  have o6 := ok_isPair (P := P) (w := w) (base := base) (fun_of D6) T.toTxtI
  have o7 := ok_areFacts (P := P) (w := w) (base := base) (fun_of D7) T.toTxtF o6 (gl _ (by decide +kernel)) D6.kp b6
  have o8 := ok_sort (P := P) (w := w) (base := base) (fun_of D8) T.toTxtF
  have oI := ok_init (P := P) (w := w) (base := base) DI T.toTxtG C o7 (gl _ (by decide +kernel)) D7.kp b7 o8 (gl _ (by decide +kernel)) D8.kp b8 oE bE eB (gl _ (by decide +kernel))
  have oH := ok_has (P := P) (w := w) (base := base) (fun_of DH) T.toTxtF C
  have oL := ok_len (P := P) (w := w) (base := base) (fun_of DL) T.toTxtF C
  have oG := ok_get (P := P) (w := w) (base := base) (fun_of DG) C oH (op_of c8) bH oE bE eN (gl _ (by decide +kernel))
  have oQ := ok_eq (P := P) (w := w) (base := base) (fun_of DQ) T.toTxtF C CT (gl _ (by decide +kernel))
  have oO := ok_only (P := P) (w := w) (base := base) (fun_of DO) T.toTxtF C (gl _ (by decide +kernel)) M oI bI2
  have oR := ok_or (P := P) (w := w) (base := base) (fun_of DR) T.toTxtF C (gl _ (by decide +kernel)) M oI bI2 oH (op_of c8) bH oG (op_of c9) c6 bG o8 (gl _ (by decide +kernel)) D8.kp b8 oE bE eU (gl _ (by decide +kernel))
  have Z : Kit3 P w K mg base (He.ga K "Facts") (He.ga K "BadFacts") (He.ga K "NoName") (He.ga K "Unlike") :=
    { gC := gl _ (by decide +kernel), c := C, ct := CT
      init := ⟨_, _, M, oI, bI2⟩
      len := ⟨_, _, op_of c7, oL, bL⟩
      has := ⟨_, _, op_of c8, oH, bH⟩
      get := ⟨_, _, op_of c9, c6, oG, bG⟩
      only := ⟨_, _, He.meth_ok r10, oO, bO⟩
      eq := ⟨_, _, op_of c10, oQ, bQ⟩
      or := ⟨_, _, op_of c11, c5, oR, bR⟩
      init0 := ⟨_, _, _, di1, M, oI, vi1, bI1, emptyTup_of r18⟩
      nf := c4
      nft := fun n hn => (hall n hn).2 }
  have oT := ok_take (P := P) (w := w) (base := base) (fun_of DT) TN
  have oF := ok_of (P := P) (w := w) (base := base) (fun_of DF) TN oT (gl _ (by decide +kernel)) DT.kp bT
  have oP := ok_pot (P := P) (w := w) (base := base) (fun_of DP) TN
  have oS := ok_same (P := P) (w := w) (base := base) (fun_of DS) T.toTxtF
  have oK := ok_isPairs (P := P) (w := w) (base := base) (fun_of DK) T.toTxtF
  have oD := ok_drawn (P := P) (w := w) (base := base) (fun_of DD) T.toTxtF T.range oT (gl _ (by decide +kernel)) DT.kp bT oF (gl _ (by decide +kernel)) DF.kp bF
  obtain ⟨n1, n2, n3⟩ := name_once (x := lamN "_law_object_right") (y := lamN "_law_two_right") (z := lamN "_law_right") (show (tabsK K).Nodup from of_decide_eq_true r19)
  have oX := ok_obj (P := P) (w := w) (base := base) (TT := tabNames K) (funL_of (fun_of DX) r15) T.toTxtO Z.toKit oT (gl _ (by decide +kernel)) DT.kp bT (fun_of DC) (gl _ (by decide +kernel)) bC TC (htb _ List.mem_cons_self) List.mem_cons_self n1 tN
  have oY := ok_two (P := P) (w := w) (base := base) (TT := tabNames K) (funL_of (fun_of DY) r16) T.toTxtW Z.toKit2 oS (gl _ (by decide +kernel)) DS.kp bS (fun_of DC) (gl _ (by decide +kernel)) bC TC (htb _ (List.mem_cons_of_mem _ List.mem_cons_self)) (List.mem_cons_of_mem _ List.mem_cons_self) n2 tU c4
  have oZ := ok_right (P := P) (w := w) (base := base) (TT := tabNames K) (funL_of (fun_of DZ) r17) T.toTxtR Z oD (gl _ (by decide +kernel)) DD.kp bD oX (gl _ (by decide +kernel)) DX.kp bX oY (gl _ (by decide +kernel)) DY.kp bY oK (gl _ (by decide +kernel)) DK.kp bK (fun_of DC) (gl _ (by decide +kernel)) bC TC (htb _ (List.mem_cons_of_mem _ (List.mem_cons_of_mem _ List.mem_cons_self))) (List.mem_cons_of_mem _ (List.mem_cons_of_mem _ List.mem_cons_self)) n3 tB
  exact ok_law (P := P) (w := w) (base := base) (fun_of DW) T oZ (gl _ (by decide +kernel)) DZ.kp bZ oP (gl _ (by decide +kernel)) DP.kp bP
end
end Kx
namespace Kx
open PySem PySem.Spec L2 Vx
/-- the law's def at the head's heap -/
def LawG (l : PySem.W.OpenLaw) (w : World) (K : PySem.W.Frag) (n : Nat) (x : Str) (mg : Str → Option Value) (fa : Addr) (h : Heap) : Prop :=
  ∃ (fd : FuncData) (tb : List (Addr × Addr)) (k : Nat) (sp : Sp), (∀ q ∈ tb, h.get? q.2 = some { cls := .none, data := .fields #[] }) ∧ (∀ q ∈ tb, K.lookup q.2 = none) ∧ (∀ q ∈ tb, PySem.W.CodeHd h q.1 q.2) ∧ Room k callerA ∧ (∀ (s : Shared) (v : Value), BindsTo s fd ⟨[v], []⟩ [(x, v)]) ∧
    (∀ (H : Hp) (a : Addr) (ns : List Int), ns.length ≤ n → (∀ q ∈ tb, H q.2 = some (.tbl #[])) → SqL K H a (ns.map V.int) → sp [.ref a] H (fun v _ => v = .bl true) L2.E0) ∧
    ∀ base : Heap, K.In base → base.Ns mainGlobals mg → (∀ q ∈ tb, LamX.TabB base mg q.1 q.2) → FnG l.prog w K mg base k fa fd [x] sp
theorem walkG {l : PySem.W.OpenLaw} {n : Nat} {q : Program} {loose : List Str} {XP : (Str → Option Value) → Heap → Prop} {YP : World → Heap → Prop} {d : DefRec} {K : Params → PySem.W.Frag} {x : Str} (hn : l.most = some n) (hz : n ≤ sizeLine) (hdf : d.params.defaults = []) (hY : ∀ (w : World) (h : Heap), YP w h → (K w.params).In h)
    (F : ∀ (w : World) (mg : Str → Option Value) (fa : Addr) (h : Heap), YP w h → (K w.params).In h → h.Ns mainGlobals mg → mg d.name = some (.ref fa) → LawG l w (K w.params) n x mg fa h) : PySem.W.WalkO q loose XP YP l.row.toRowW d [] (fun f vs => PySem.call f vs) := by
  refine Att.attach_callB hn hdf ?_
  intro w s0 s mg mb fa o pm cd doc a vs ns G Y ho hd hcd hmg hobj hints hlen hbits hg
  have kin := hY w _ Y
  obtain ⟨fd, tb, k, sp, hT, nT, hC, hr, hb, hsp, hF⟩ := F w mg fa _ Y kin G.T.g hmg
  refine end_call kin G.T.g G.T.b G.T.builtins G.T.nolimit hg hT nT hC G.T.bmain hobj hints (Nat.le_trans hlen hz) fun base H kb nb tbB env shut scr => ?_
  exact (hF base kb nb tbB).run callerA [] s H ⟨[.ref a], []⟩ [.ref a] [.ref a] _ rfl hr env (hb s (.ref a)) (.cons rfl .nil) (hsp H a ns hlen shut scr)
theorem rest_tabs {K : PySem.W.Frag} (r : restB K = true) : ∀ q ∈ codTabs K, PySem.W.codeHdIn K q.1 q.2 = true ∧ K.lookup q.2 = none := by
  obtain ⟨_, hr⟩ := He.ba (show (_ && _) = true from r)
  obtain ⟨_, hr⟩ := He.ba hr
  obtain ⟨_, hr⟩ := He.ba hr
  obtain ⟨_, hr⟩ := He.ba hr
  obtain ⟨_, hr⟩ := He.ba hr
  obtain ⟨_, hr⟩ := He.ba hr
  obtain ⟨_, hr⟩ := He.ba hr
  obtain ⟨_, hr⟩ := He.ba hr
  obtain ⟨_, hr⟩ := He.ba hr
  obtain ⟨_, hr⟩ := He.ba hr
  obtain ⟨_, hr⟩ := He.ba hr
  obtain ⟨_, hr⟩ := He.ba hr
  obtain ⟨_, hr⟩ := He.ba hr
  obtain ⟨_, hr⟩ := He.ba hr
  obtain ⟨r15, hr⟩ := He.ba hr
  obtain ⟨r16, hr⟩ := He.ba hr
  obtain ⟨r17, hr⟩ := He.ba hr
  have one : ∀ f : Addr, codB K f = true → PySem.W.codeHdIn K (codeOf K f) (tabOf K (codeOf K f)) = true ∧ K.lookup (tabOf K (codeOf K f)) = none := fun f h => by
    obtain ⟨_, h2⟩ := He.ba h
    obtain ⟨h3, h4⟩ := He.ba h2
    exact ⟨h3, Option.isNone_iff_eq_none.mp h4⟩
  intro q hq
  simp only [codTabs, List.mem_cons, List.not_mem_nil, or_false] at hq
  rcases hq with rfl | rfl | rfl
  · exact one _ r15
  · exact one _ r16
  · exact one _ r17
theorem exc_is {K : PySem.W.Frag} {x : Str} {C : Addr} {nm q : Str} {N bs bm sn sub ab col dd k0 k1 k2 k3 k5} (a : PySem.W.nsIn K mainGlobals x = some (some (.ref C))) (l : K.lookup C = some (excClassObj nm q C N bs bm true sn sub ab col dd k0 k1 k2 k3 k5 "ValueError.__new__")) (m : PySem.HandSPX.refsVE bm = true) :
    ∃ nm q N bs bm sn sub ab col dd k0 k1 k2 k3 k5, K.lookup (He.ga K x) = some (excClassObj nm q (He.ga K x) N bs bm true sn sub ab col dd k0 k1 k2 k3 k5 "ValueError.__new__") ∧ PySem.HandSPX.refsVE bm = true := by
  have e : He.ga K x = C := by
    unfold He.ga
    rw [a]
  rw [e]
  exact ⟨_, _, _, _, _, _, _, _, _, _, _, _, _, _, _, l, m⟩
theorem law_end {l : PySem.W.OpenLaw} {w : World} {K : PySem.W.Frag} {mg : Str → Option Value} {fa : Addr} {h : Heap} {ts : List Addr} (O : HeadOk K) (X : K.In h) (G : h.Ns mainGlobals mg) (hfa : mg "law" = some (.ref fa)) (tb : ∀ p ∈ ts, h.get? p = some (PySem.W.tabObj #[])) (sub : ((codTabs K).all fun q => ts.contains q.2) = true) : LawG l w K 63 "script" mg fa h := by
  obtain ⟨fd, hb, hF⟩ := head_law (P := l.prog) (w := w) O X G hfa
  have rt := rest_tabs O.rest
  refine ⟨fd, codTabs K, 14, spLaw K (tabNames K), fun q hq => tb _ ?_, fun q hq => (rt q hq).2, fun q hq => PySem.W.codeHd_of_K X (rt q hq).1, ⟨rfl, by decide, by decide⟩, hb, fun H a ns hl shut scr => ⟨a, ns, rfl, scr, by omega, ?_, fun _ => rfl⟩, hF⟩
  · exact List.contains_iff_mem.mp (List.all_eq_true.mp sub q hq)
  · intro p hp
    simp only [tabNames, List.mem_cons, List.not_mem_nil, or_false] at hp
    rcases hp with rfl | rfl | rfl
    · exact LamX.TabS.nil (shut _ List.mem_cons_self)
    · exact LamX.TabS.nil (shut _ (List.mem_cons_of_mem _ List.mem_cons_self))
    · exact LamX.TabS.nil (shut _ (List.mem_cons_of_mem _ (List.mem_cons_of_mem _ List.mem_cons_self)))
end Kx
open PySem PySem.W PyProof.Rows
set_option maxRecDepth 100000 in
set_option maxHeartbeats 0 in
theorem PySem.Challenge.cw_onlyasked_k10_facts_as_objects_holds : PySem.Challenge.rw_onlyasked_k10_facts_as_objects.Holds := by
  w_on; o_law; k_head; (case hw => w_witness2)
  k_fill
  refine Kx.walkG (l := PySem.Challenge.rw_onlyasked_k10_facts_as_objects) (n := 63) (x := "script") rfl (by decide) rfl (fun w h Y => km_in_of Y) ?F
  case F =>
    intro w mg fa h Y KX G hmg
    refine Kx.law_end ?O KX G hmg (km_tabs_of Y) ?S
    case S => kernel_rfl
    case O =>
      refine' ⟨?v, ?o, ?g, ?f, ?r, Kx.exc_is ?a1 ?l1 ?m1, Kx.exc_is ?a2 ?l2 ?m2, Kx.exc_is ?a3 ?l3 ?m3⟩
      (case v => kernel_rfl)
      (case o => kernel_rfl)
      (case g => kernel_rfl)
      (case f => kernel_rfl)
      (case r => kernel_rfl)
      (case a1 => k_is)
      (case l1 => k_is)
      (case m1 => kernel_rfl)
      (case a2 => k_is)
      (case l2 => k_is)
      (case m2 => kernel_rfl)
      (case a3 => k_is)
      (case l3 => k_is)
      (case m3 => kernel_rfl)
