import PyProof.Rows.All
import Wide.All
import OpenK.AllK
import Wide.FinOn
import PySem.Challenge.RW_bymarks_k02_whole_meets
import HandS.ForMost
import HandS.Codes
import HandS.Wide
import HandS.WideBits
import HandS.Gcd
import HandS.IsInst
import HandS.NoneIn
import HandS.Style
set_option Elab.async false
set_option linter.all false
set_option maxRecDepth 100000
set_option maxHeartbeats 4000000
/-! own text: rules beside the layer's, steps over readings, heaps that are kept, a law's source of numbers -/
namespace My
open PySem PySem.Spec PyProof.Rows L2
open C8 (Cal pe_c pe_gc)
/-! ### rules -/
def CPowW (i j : Int) : Prop := 0 ≤ j ∧ (Builtin.Int.intBits i : Int) * j ≤ 2 ^ 27
section
variable {X : Cx}
theorem op_powW : OpR X (binaryOp .Pow) (rI CPowW fun i j => .int (i ^ j.toNat)) := opI fun _ _ _ _ _ _ _ hc q => pow_int hc.1 hc.2 q
theorem call_divmodB : CallR X (.builtin "divmod") (fun xs H Q => ∃ i j, xs = [.int i, .int j] ∧ CDivW i j ∧ ∀ p, H p = none → Q (.ref p) (upd H p (.tup [.int (i / j), .int (i % j)]))) := by
  intro pins s σ H xs us Q I r h
  obtain ⟨i, j, rfl, hc, q⟩ := h
  exact call_divmodW pins s σ H _ us Q I r ⟨i, j, rfl, ⟨hc.1, PyProof.noPylong_of_log2 hc.2⟩, q⟩
theorem call_intI : CallR X (.type "int") (fun xs H Q => ∃ i, xs = [.int i] ∧ Q (.int i) H) := by
  intro pins s σ H xs us Q I r h
  exact call_int1 pins s σ H xs us Q I r (.inl h)
theorem call_absI : CallR X (.builtin "abs") (fun xs H Q => ∃ i, xs = [.int i] ∧ Q (.int (i.natAbs : Int)) H) := by
  intro pins s σ H xs us Q I r h
  obtain ⟨i, e, q⟩ := h
  refine call_abs pins s σ H xs us Q I r ⟨i, e, ?_⟩
  have e2 : (if i < 0 then -i else i) = (i.natAbs : Int) := by split <;> omega
  rw [e2]
  exact q
theorem call_intB : CallR X (.type "int") (fun xs H Q => ∃ k : Bool, xs = [.bl k] ∧ Q (.int (if k then 1 else 0)) H) := by
  intro pins s σ H xs us Q I r h
  exact call_int1 pins s σ H xs us Q I r (.inr h)
end
/-! ### a def of the text, by its name -/
def Has (K : PySem.W.Frag) (mg : Str → Option Value) (x : Str) (st : Stmt) (ps : List Str) : Prop := ∃ (f : Addr) (fd : FuncData), Fun K x x st f fd ∧ mg x = some (.ref f) ∧ Binds K fd ps []
section
variable {P : Program} {w : World} {K : PySem.W.Frag} {mg : Str → Option Value} {base : Heap}
theorem mkCal {x : Str} {st : Stmt} {f : Addr} {fd : FuncData} {N ps : List Str} {k : Nat} {sp : Sp} (F : Fun K x x st f fd) (gF : mg x = some (.ref f)) (b : Binds K fd ps []) (S : FnScope N ps (defScope st)) (len : ∀ vs H Q E, sp vs H Q E → vs.length = ps.length)
    (hbody : ∀ (cdv : Value) (A : Around) (outer : List Env) (s : Shared) (H : Hp) (vs : List V) (Q : VK) (E : XK), Room k (A.deeper (envOfC x (defScope st) s.heap.objs.size f cdv)) → sp vs H Q E →
      ∃ t, PSs (cxOf CX0 P w K mg base N x (defScope st) f cdv A outer s H E).nox (defBody st) t ∧ t { nx := fun _ H' => Q .non H', rt := Q } (start N vs) H) : Cal P w K mg base (k + 1) x sp [] :=
  ⟨f, fd, ps, [], F.ok S len hbody, gF, F.kp, b, .nil⟩
theorem has_mk {x : Str} {st : Stmt} {h : Heap} {f : Addr} {oc : Value} {od an : Option Addr} {osl : Array (Option Value)} {kV doc pm cdv ct : Value} {ps : List Str} (X : K.In h) (G : h.Ns mainGlobals mg)
    (a : PySem.W.nsIn K mainGlobals x = some (some (.ref f))) (l : K.lookup f = some ⟨oc, od, .func (PySem.W.fnOf x x (defArgs st) (defBody st) (defScope st) .none kV doc pm an cdv ct), osl⟩)
    (c : PySem.W.codeIn K cdv x = true) (k : PySem.W.keepIn K (.ref f) = true)
    (hb : ∀ (kV doc pm : Value) (an : Option Addr) (cdv ct : Value) (us : List Value), us.length = ps.length → bindArgs (PySem.W.fnOf x x (defArgs st) (defBody st) (defScope st) .none kV doc pm an cdv ct) ⟨us, []⟩ = pure (ps.zip us)) : Has K mg x st ps :=
  ⟨f, _, fun_mk (st := st) l c k, PySem.W.mg_of X G a, (fun_mk (st := st) l c k).binds hb⟩
end
/-! ### steps over readings -/
section
variable {σ : L2.St} {H : Hp} {D : Ends} {Q : VK} {K : PySem.W.Frag} {ta tb te tc : TE} {t u : TS} {c c' : TT} {g : TG}
theorem r_seq (h : t { D with nx := u D } σ H) : tSeq t u D σ H := h
theorem r_nx {f : L2.St → Hp → Prop} {r b e} (h : f σ H) : Ends.nx ⟨f, r, b, e⟩ σ H := h
theorem r_rt {f : V → Hp → Prop} {n b e} {v : V} (h : f v H) : Ends.rt ⟨n, f, b, e⟩ v H := h
theorem r_bk {f : L2.St → Hp → Prop} {n r e} (h : f σ H) : Ends.bk ⟨n, r, f, e⟩ σ H := h
theorem r_ct {f : L2.St → Hp → Prop} {n r b} (h : f σ H) : Ends.ct ⟨n, r, b, f⟩ σ H := h
theorem r_next (h : D.nx σ H) : tNext D σ H := h
theorem r_asg (h : te σ H fun x H1 => g x σ H1 D.nx) : tAsg te g D σ H := h
theorem r_name {i : Nat} {v : V} {R : L2.St → Hp → Prop} (h : R (σ.set i (some v)) H) : gName i v σ H R := h
theorem r_ret (h : te σ H D.rt) : tRet te D σ H := h
theorem r_drop (h : te σ H fun _ H1 => D.nx σ H1) : tDrop te D σ H := h
theorem r_ifS (h : c σ H fun b H1 => if b = true then t D σ H1 else u D σ H1) : tIfS c t u D σ H := h
theorem r_test {R : Bool → Hp → Prop} (h : te σ H fun x H' => ∃ k, x = .bl k ∧ R k H') : tTest te σ H R := h
theorem r_tB {R : Bool → Hp → Prop} (h : te σ H fun x H' => ∃ k, x = .bl k ∧ R k H') : tB te σ H R := h
theorem r_isbl {b : Bool} {R : Bool → Prop} (h : R b) : ∃ k, V.bl b = .bl k ∧ R k := ⟨b, rfl, h⟩
theorem r_and {R : Bool → Hp → Prop} (h : c σ H fun b H1 => if b = true then c' σ H1 R else R false H1) : tAnd c c' σ H R := h
theorem r_or {R : Bool → Hp → Prop} (h : c σ H fun b H1 => if b = true then R true H1 else c' σ H1 R) : tOr c c' σ H R := h
theorem r_not {R : Bool → Hp → Prop} (h : c σ H fun b H1 => R (!b) H1) : tNot c σ H R := h
theorem r_var {i : Nat} {v : V} (e : σ[i]? = some (some v)) (h : Q v H) : tVar i σ H Q := ⟨v, e, h⟩
theorem r_c {v : V} (h : Q v H) : tC v σ H Q := h
theorem r_op {r : R2} (h : ta σ H fun x H1 => tb σ H1 fun y H2 => r x y H2 Q) : tOp r ta tb σ H Q := h
theorem r_un {r : V → Hp → VK → Prop} (h : ta σ H fun x H1 => r x H1 Q) : tUn r ta σ H Q := h
theorem r_I0 {f : Int → Int → V} {i j : Int} (h : Q (f i j) H) : rI0 f (.int i) (.int j) H Q := ⟨i, j, rfl, rfl, h⟩
theorem r_I {C : Int → Int → Prop} {f : Int → Int → V} {i j : Int} (hc : C i j) (h : Q (f i j) H) : rI C f (.int i) (.int j) H Q := ⟨i, j, rfl, rfl, hc, h⟩
theorem r_U {f : Int → V} {i : Int} (h : Q (f i) H) : rU f (.int i) H Q := ⟨i, rfl, h⟩
theorem r_eq {x y : V} (hs : scal x y = true) (h : Q (.bl (decide (x = y))) H) : rEq x y H Q := ⟨hs, h⟩
theorem r_ne {x y : V} (hs : scal x y = true) (h : Q (.bl (!decide (x = y))) H) : rNe x y H Q := ⟨hs, h⟩
theorem r_eqI {i j : Int} (h : Q (.bl (decide (i = j))) H) : rEq (.int i) (.int j) H Q := by
  refine ⟨rfl, ?_⟩
  rw [show decide (V.int i = V.int j) = decide (i = j) by rw [dec_int]; exact Bool.beq_eq_decide_eq i j]
  exact h
theorem r_neI {i j : Int} (h : Q (.bl (!decide (i = j))) H) : rNe (.int i) (.int j) H Q := by
  refine ⟨rfl, ?_⟩
  rw [show decide (V.int i = V.int j) = decide (i = j) by rw [dec_int]; exact Bool.beq_eq_decide_eq i j]
  exact h
theorem r_nil {R : List V → Hp → Prop} (h : R [] H) : tNil σ H R := h
theorem r_cons {tr : TA} {R : List V → Hp → Prop} (h : ta σ H fun x H1 => tr σ H1 fun xs H2 => R (x :: xs) H2) : tCons ta tr σ H R := h
theorem r_tup {tr : TA} (h : tr σ H fun xs H1 => xs.length ≤ sizeLine ∧ ∀ p, H1 p = none → Q (.ref p) (upd H1 p (.tup xs))) : tTup tr σ H Q := h
theorem r_lst {tr : TA} (h : tr σ H fun xs H1 => xs.length ≤ sizeLine ∧ ∀ p, H1 p = none → Q (.ref p) (upd H1 p (.lst xs))) : tLst tr σ H Q := h
theorem r_call {sp : Sp} {dvs : List V} {E : XK} {tr : TA} (h : tr σ H fun vs H1 => sp (vs ++ dvs) H1 Q E) : tCall sp dvs E tr σ H Q := h
theorem r_cb {r : List V → Hp → VK → Prop} {tr : TA} (h : tr σ H fun vs H1 => r vs H1 Q) : tCB r tr σ H Q := h
theorem r_ixL {p : Addr} {xs : List V} {i : Int} {v : V} (hs : SqL K H p xs) (ha : atI xs i = some v) (h : Q v H) : rIxL K (.ref p) (.int i) H Q := ⟨p, xs, i, v, rfl, rfl, hs, ha, h⟩
theorem r_ixT {p : Addr} {xs : List V} {i : Int} {v : V} (hs : SqT K H p xs) (ha : atI xs i = some v) (h : Q v H) : rIxT K (.ref p) (.int i) H Q := ⟨p, xs, i, v, rfl, rfl, hs, ha, h⟩
theorem r_andV (h : ta σ H fun x H1 => ∃ c, x = .bl c ∧ if c = true then tb σ H1 Q else Q (.bl false) H1) : tAndV ta tb σ H Q := h
theorem r_orV (h : ta σ H fun x H1 => ∃ c, x = .bl c ∧ if c = true then Q (.bl true) H1 else tb σ H1 Q) : tOrV ta tb σ H Q := h
theorem r_notV (h : ta σ H fun x H1 => ∃ c, x = .bl c ∧ Q (.bl (!c)) H1) : tNotV ta σ H Q := h
theorem r_ite {p A B : Prop} [Decidable p] (h1 : p → A) (h2 : ¬ p → B) : if p then A else B := by
  by_cases h : p
  · rw [if_pos h]; exact h1 h
  · rw [if_neg h]; exact h2 h
theorem r_dec {p A B : Prop} [Decidable p] (h1 : p → A) (h2 : ¬ p → B) : if decide p = true then A else B := by
  by_cases h : p
  · rw [decide_eq_true h]; exact h1 h
  · rw [decide_eq_false h]; exact h2 h
theorem r_ndec {p A B : Prop} [Decidable p] (h1 : ¬ p → A) (h2 : p → B) : if (!decide p) = true then A else B := by
  by_cases h : p
  · rw [decide_eq_true h]; exact h2 h
  · rw [decide_eq_false h]; exact h1 h
theorem r_T {A B : Prop} (h : A) : if true = true then A else B := h
theorem r_F {A B : Prop} (h : B) : if false = true then A else B := by rw [if_neg Bool.false_ne_true]; exact h
theorem r_nT {A B : Prop} (h : B) : if (!true) = true then A else B := r_F h
theorem r_nF {A B : Prop} (h : A) : if (!false) = true then A else B := h
theorem r_sl {r : V → Option Int → Option Int → Hp → VK → Prop} {tl th : TO} (h : te σ H fun x H1 => tl σ H1 fun l H2 => th σ H2 fun u H3 => r x l u H3 Q) : L2.tSl r te tl th σ H Q := h
theorem r_slL {p : Addr} {xs : List V} {lo hi : Option Int} (hs : SqL K H p xs) (h : ∀ q, H q = none → Q (.ref q) (upd H q (.lst (cutV xs lo hi)))) : rSlL K (.ref p) lo hi H Q := ⟨p, xs, rfl, hs, h⟩
theorem r_par {i j : Nat} {tr : TA} (h : tr σ H fun vs H1 => ∃ v w, vs = [v, w] ∧ D.nx ((σ.set i (some v)).set j (some w)) H1) : tPar i j tr D σ H := h
theorem r_sub {to ti : TE} {ts : TSet} {v : V} {R : L2.St → Hp → Prop} (h : to σ H fun o H1 => ti σ H1 fun i H2 => ts o i v H2 fun H3 => R σ H3) : gSub to ti ts v σ H R := h
theorem r_setL {p : Addr} {xs : List V} {k : Int} {j : Nat} {v : V} {R : Hp → Prop} (hp : H p = some (.lst xs)) (hj : ixN xs.length k = some j) (h : R (upd H p (.lst (xs.set j v)))) : rSetL (.ref p) (.int k) v H R := ⟨p, xs, k, j, rfl, rfl, hp, hj, h⟩
theorem r_int {i : Int} {R : Int → Prop} (h : R i) : ∃ i', [V.int i] = [V.int i'] ∧ R i' := ⟨i, rfl, h⟩
theorem r_int2 {i j : Int} {R : Int → Int → Prop} (h : R i j) : ∃ i' j', [V.int i, V.int j] = [V.int i', V.int j'] ∧ R i' j' := ⟨i, j, rfl, h⟩
theorem r_gtup {n : Nat} {tg : TGs} {p : Addr} {xs : List V} {R : L2.St → Hp → Prop} (hs : SqT K H p xs) (hl : xs.length = n) (h : tg xs σ H R) : gTup K n tg (.ref p) σ H R := ⟨p, xs, rfl, hs, hl, h⟩
theorem r_gunl {n : Nat} {tg : TGs} {p : Addr} {xs : List V} {R : L2.St → Hp → Prop} (hs : SqL K H p xs) (hl : xs.length = n) (h : tg xs σ H R) : gUnl K n tg (.ref p) σ H R := ⟨p, xs, rfl, hs, hl, h⟩
theorem r_gcons {tg : TG} {us : TGs} {v : V} {r : List V} {R : L2.St → Hp → Prop} (h : tg v σ H fun σ' H' => us r σ' H' R) : gCons tg us (v :: r) σ H R := ⟨v, r, rfl, h⟩
theorem r_gnil {R : L2.St → Hp → Prop} (h : R σ H) : gNil [] σ H R := ⟨rfl, h⟩
theorem r_chain {r r' : R2} (h : ta σ H fun x H1 => tb σ H1 fun y H2 => r x y H2 fun z H3 => ∃ k, z = .bl k ∧ (if k = true then tc σ H3 fun w' H4 => r' y w' H4 Q else Q (.bl false) H3)) : tChain r r' ta tb tc σ H Q := h
theorem r_tuple2 {v w : V} {R : V → V → Prop} (h : R v w) : ∃ v' w', [v, w] = [v', w'] ∧ R v' w' := ⟨v, w, rfl, h⟩
end
theorem r_start {N : List Str} {vs : List V} {σ : L2.St} {H : Hp} {D : Ends} {t : TS} (e : L2.start N vs = σ) (h : t D σ H) : t D (L2.start N vs) H := by rw [e]; exact h
section
variable {σ : L2.St} {H : Hp} {te : TE}
theorem r_part {R : Option Int → Hp → Prop} (h : te σ H fun x H1 => ∃ i, x = .int i ∧ R (some i) H1) : tPart te σ H R := h
theorem r_nopart {R : Option Int → Hp → Prop} (h : R none H) : tNoPart σ H R := h
theorem r_isint {i : Int} {R : Int → Prop} (h : R i) : ∃ k, V.int i = .int k ∧ R k := ⟨i, rfl, h⟩
end
theorem r_lenL {K : PySem.W.Frag} {H : Hp} {p : Addr} {ys : List V} {R : List V → Prop} (hs : SqL K H p ys) (h : R ys) : ∃ p' ys', [V.ref p] = [V.ref p'] ∧ (SqL K H p' ys' ∨ SqT K H p' ys') ∧ R ys' := ⟨p, ys, rfl, .inl hs, h⟩
theorem r_lenT {K : PySem.W.Frag} {H : Hp} {p : Addr} {ys : List V} {R : List V → Prop} (hs : SqT K H p ys) (h : R ys) : ∃ p' ys', [V.ref p] = [V.ref p'] ∧ (SqL K H p' ys' ∨ SqT K H p' ys') ∧ R ys' := ⟨p, ys, rfl, .inr hs, h⟩
theorem r_sz {n : Nat} {R : Prop} (hn : n ≤ 16777216) (h : R) : n ≤ sizeLine ∧ R := ⟨Nat.le_trans hn (by decide), h⟩
theorem r_eqD {K : PySem.W.Frag} {H : Hp} {x y : V} {d e : PyData} {R : PyData → PyData → Prop} (hd : Dp K H x d) (he : Dp K H y e) (h1 : SeqAt.shaped d = true) (h2 : SeqAt.shaped e = true) (h : R d e) :
    ∃ d' e', Dp K H x d' ∧ Dp K H y e' ∧ SeqAt.shaped d' = true ∧ SeqAt.shaped e' = true ∧ R d' e' := ⟨d, e, hd, he, h1, h2, h⟩
theorem r_non {R : Prop} (h : R) : V.non = V.non ∧ R := ⟨rfl, h⟩
theorem r_neB {H : Hp} {Q : VK} {a b : Bool} (h : Q (.bl (!decide (a = b))) H) : rNe (.bl a) (.bl b) H Q := by
  refine ⟨rfl, ?_⟩
  rw [show decide (V.bl a = V.bl b) = decide (a = b) from decide_eq_decide.mpr ⟨fun e => V.bl.inj e, fun e => by rw [e]⟩]
  exact h
theorem r_eqB {H : Hp} {Q : VK} {a b : Bool} (h : Q (.bl (decide (a = b))) H) : rEq (.bl a) (.bl b) H Q := by
  refine ⟨rfl, ?_⟩
  rw [show decide (V.bl a = V.bl b) = decide (a = b) from decide_eq_decide.mpr ⟨fun e => V.bl.inj e, fun e => by rw [e]⟩]
  exact h
theorem cx_K {CX : CXT} {P : Program} {w : World} {K : PySem.W.Frag} {mg : Str → Option Value} {base : Heap} {N : List Str} {qual : Str} {scope : Scope} {f : Addr} {cd : Value} {A : Around} {outer : List Env} {s : Shared} {H : Hp} {E : XK} :
    (cxOf CX P w K mg base N qual scope f cd A outer s H E).K = K := rfl
/-! ### loops -/
def LoopW (J : It) (g : TG) (ts : TS) (D : Ends) (σ : L2.St) (H : Hp) : Prop := ∃ W : Nat → Nat → L2.St → Hp → Prop, (∃ m, W 0 m σ H) ∧ ∀ i m σ H, W i m σ H →
  (J.stop i H ∧ D.nx σ H) ∨ (J.go i H ∧ ∃ N : L2.St → Hp → Prop, (∀ σ' H', N σ' H' → ∃ m', m' < m ∧ W (i + 1) m' σ' H') ∧ ∀ x H', J.yld i H x H' → g x σ H' fun σ2 H2 => ts { D with nx := N, ct := N, bk := D.nx } σ2 H2)
def LcW (J : It) (g : TG) (tt : TT) (te : TE) (vs : List Nat) (σ : L2.St) (H1 : Hp) (Dl : Addr) (Qd : Hp → Prop) : Prop := ∃ W : Nat → Nat → Hp → Prop, (∃ m, W 0 m (upd H1 Dl (.lst []))) ∧ ∀ i m H, W i m H →
  (J.stop i H ∧ Qd H) ∨ (J.go i H ∧ ∃ Nx : Hp → Prop, (∀ H', Nx H' → ∃ m', m' < m ∧ W (i + 1) m' H') ∧ ∀ x H', J.yld i H x H' → g x (wipe σ vs) H' fun σ2 H2 => wipe σ2 vs = wipe σ vs ∧ tt σ2 H2 fun b H3 =>
    if b = true then te σ2 H3 fun y H4 => ∃ acc, H4 Dl = some (.lst acc) ∧ acc.length < sizeLine ∧ Nx (upd H4 Dl (.lst (acc ++ [y]))) else Nx H3)
section
variable {σ : L2.St} {H : Hp} {D : Ends} {Q : VK} {K : PySem.W.Frag} {ta : TA} {tl tb te : TE} {ts : TS} {c tt : TT} {g : TG} {wi : TI} {vs : List Nat}
theorem r_for (h : wi σ H fun J H1 => LoopW J g ts D σ H1) : tFor wi g ts D σ H := h
theorem r_lc (h : wi σ H fun J H1 => ∀ Dl, H1 Dl = none → LcW J g tt te vs σ H1 Dl fun H' => Q (.ref Dl) H') : tLc wi g tt te vs σ H Q := h
theorem r_rng1 {R : It → Hp → Prop} (h : ta σ H fun us H1 => ∃ j : Int, us = [.int j] ∧ -(2 ^ 62) ≤ j ∧ j < 2 ^ 62 ∧ R (Itr 0 j.toNat) H1) : iRng1 ta σ H R := h
theorem r_rng2 {R : It → Hp → Prop} (h : ta σ H fun us H1 => ∃ i j : Int, us = [.int i, .int j] ∧ (-(2 ^ 62) ≤ i ∧ i < 2 ^ 62 ∧ -(2 ^ 62) ≤ j ∧ j < 2 ^ 62) ∧ R (Itr i (j - i).toNat) H1) : iRng2 ta σ H R := h
theorem r_ilist {R : It → Hp → Prop} (h : tl σ H fun x H1 => ∃ a, x = .ref a ∧ (∃ xs, SqL K H1 a xs) ∧ R (Itl K a) H1) : iList K tl σ H R := h
theorem r_itup {R : It → Hp → Prop} (h : tl σ H fun x H1 => ∃ a, x = .ref a ∧ (∃ xs, SqT K H1 a xs) ∧ R (Itt K a) H1) : iTup K tl σ H R := h
theorem r_rgL (n : Nat) {j : Int} (e : j = (n : Int)) (hn : n < 2 ^ 62) (h : LoopW (Itr 0 n) g ts D σ H) : -(2 ^ 62) ≤ j ∧ j < 2 ^ 62 ∧ LoopW (Itr 0 j.toNat) g ts D σ H := by
  subst e
  exact ⟨by omega, by omega, by rw [Int.toNat_natCast]; exact h⟩
theorem r_rgC {R : Addr → Hp → Prop} (n : Nat) {j : Int} (e : j = (n : Int)) (hn : n < 2 ^ 62) (h : ∀ Dl, H Dl = none → LcW (Itr 0 n) g tt te vs σ H Dl (R Dl)) :
    -(2 ^ 62) ≤ j ∧ j < 2 ^ 62 ∧ ∀ Dl, H Dl = none → LcW (Itr 0 j.toNat) g tt te vs σ H Dl (R Dl) := by
  subst e
  exact ⟨by omega, by omega, by rw [Int.toNat_natCast]; exact h⟩
theorem r_islist {R : Addr → Prop} {a : Addr} {xs : List V} (hs : SqL K H a xs) (h : R a) : ∃ a', V.ref a = .ref a' ∧ (∃ xs, SqL K H a' xs) ∧ R a' := ⟨a, rfl, ⟨xs, hs⟩, h⟩
theorem r_istup {R : Addr → Prop} {a : Addr} {xs : List V} (hs : SqT K H a xs) (h : R a) : ∃ a', V.ref a = .ref a' ∧ (∃ xs, SqT K H a' xs) ∧ R a' := ⟨a, rfl, ⟨xs, hs⟩, h⟩
theorem loop_range {n : Nat} (Pv : Nat → L2.St → Hp → Prop) (h0 : Pv 0 σ H)
    (hs : ∀ i σ' H', i < n → Pv i σ' H' → g (.int (i : Int)) σ' H' fun σ2 H2 => ts { D with nx := Pv (i + 1), ct := Pv (i + 1), bk := D.nx } σ2 H2) (hd : ∀ σ' H', Pv n σ' H' → D.nx σ' H') : LoopW (Itr 0 n) g ts D σ H :=
  for_range Pv h0 (fun i σ' H' hi p => by rw [Int.zero_add]; exact hs i σ' H' hi p) hd
theorem loop_list {a : Addr} {xs : List V} (Pv : Nat → L2.St → Hp → Prop) (h0 : Pv 0 σ H) (hl : ∀ i σ' H', i ≤ xs.length → Pv i σ' H' → SqL K H' a xs)
    (hs : ∀ i x σ' H', xs[i]? = some x → Pv i σ' H' → g x σ' H' fun σ2 H2 => ts { D with nx := Pv (i + 1), ct := Pv (i + 1), bk := D.nx } σ2 H2) (hd : ∀ σ' H', Pv xs.length σ' H' → D.nx σ' H') : LoopW (Itl K a) g ts D σ H := for_list Pv h0 hl hs hd
theorem loop_tup {a : Addr} {xs : List V} (Pv : Nat → L2.St → Hp → Prop) (h0 : Pv 0 σ H) (hl : ∀ i σ' H', i ≤ xs.length → Pv i σ' H' → SqT K H' a xs)
    (hs : ∀ i x σ' H', xs[i]? = some x → Pv i σ' H' → g x σ' H' fun σ2 H2 => ts { D with nx := Pv (i + 1), ct := Pv (i + 1), bk := D.nx } σ2 H2) (hd : ∀ σ' H', Pv xs.length σ' H' → D.nx σ' H') : LoopW (Itt K a) g ts D σ H := for_tup Pv h0 hl hs hd
theorem comp_range {n : Nat} {H1 : Hp} {Dl : Addr} {Qd : Hp → Prop} (Pv : Nat → Hp → Prop) (h0 : Pv 0 (upd H1 Dl (.lst [])))
    (hs : ∀ i H, i < n → Pv i H → g (.int (i : Int)) (wipe σ vs) H fun σ2 H2 => wipe σ2 vs = wipe σ vs ∧ tt σ2 H2 fun b H3 =>
      if b = true then te σ2 H3 fun y H4 => ∃ acc, H4 Dl = some (.lst acc) ∧ acc.length < sizeLine ∧ Pv (i + 1) (upd H4 Dl (.lst (acc ++ [y]))) else Pv (i + 1) H3) (hd : ∀ H, Pv n H → Qd H) : LcW (Itr 0 n) g tt te vs σ H1 Dl Qd :=
  lc_range Pv h0 (fun i H hi p => by rw [Int.zero_add]; exact hs i H hi p) hd
theorem comp_list {a : Addr} {xs : List V} {H1 : Hp} {Dl : Addr} {Qd : Hp → Prop} (Pv : Nat → Hp → Prop) (h0 : Pv 0 (upd H1 Dl (.lst []))) (hl : ∀ i H, i ≤ xs.length → Pv i H → SqL K H a xs)
    (hs : ∀ i x H, xs[i]? = some x → Pv i H → g x (wipe σ vs) H fun σ2 H2 => wipe σ2 vs = wipe σ vs ∧ tt σ2 H2 fun b H3 =>
      if b = true then te σ2 H3 fun y H4 => ∃ acc, H4 Dl = some (.lst acc) ∧ acc.length < sizeLine ∧ Pv (i + 1) (upd H4 Dl (.lst (acc ++ [y]))) else Pv (i + 1) H3) (hd : ∀ H, Pv xs.length H → Qd H) : LcW (Itl K a) g tt te vs σ H1 Dl Qd := lc_list Pv h0 hl hs hd
theorem r_while (W : Nat → L2.St → Hp → Prop) (m : Nat) (h0 : W m σ H)
    (hs : ∀ m σ H, W m σ H → c σ H fun b H1 => if b = true then ∃ N : L2.St → Hp → Prop, (∀ σ' H', N σ' H' → ∃ m', m' < m ∧ W m' σ' H') ∧ ts { D with nx := N, ct := N, bk := D.nx } σ H1 else D.nx σ H1) : tWhile c ts D σ H := ⟨W, ⟨m, h0⟩, hs⟩
theorem r_again {R : L2.St → Hp → Prop} {rt : V → Hp → Prop} {bk : L2.St → Hp → Prop} (h : ts ⟨R, rt, bk, R⟩ σ H) :
    ∃ N : L2.St → Hp → Prop, (∀ σ' H', N σ' H' → R σ' H') ∧ ts ⟨N, rt, bk, N⟩ σ H := ⟨_, fun _ _ h => h, h⟩
theorem r_gcdN {a b : Nat} (h : Q (.int ((Nat.gcd a b : Nat) : Int)) H) : rGcd [.int (a : Int), .int (b : Int)] H Q := ⟨a, b, rfl, h⟩
theorem r_wipe {A : Prop} {σ2 : L2.St} (e : wipe σ2 vs = wipe σ vs) (h : A) : wipe σ2 vs = wipe σ vs ∧ A := ⟨e, h⟩
end
/-! ### heaps that are kept -/
def Keep (a c : Addr) (H H' : Hp) : Prop := ∀ b o, b ≠ a → b ≠ c → H b = some o → H' b = some o
def Bd (n : Int) : Prop := n.natAbs < 2 ^ 4000
/-- a source of drawn numbers: the list at a holds the cells' list at c and the turn -/
structure Src (H : Hp) (a c : Addr) (t : Int) : Prop where
  src : H a = some (.lst [.ref c, .int t])
  cells : ∃ ns : List Int, H c = some (.lst (ns.map V.int)) ∧ 0 < ns.length ∧ ns.length ≤ 63 ∧ ∀ n ∈ ns, Bd n
  turn : 0 ≤ t
  ne : c ≠ a
abbrev Big : Int := 2 ^ 60
theorem Keep.refl (a c : Addr) (H : Hp) : Keep a c H H := fun _ _ _ _ h => h
theorem Keep.trans {a c : Addr} {H H1 H2 : Hp} (x : Keep a c H H1) (y : Keep a c H1 H2) : Keep a c H H2 := fun b o h1 h2 h => y b o h1 h2 (x b o h1 h2 h)
theorem same_keep {a c : Addr} {H H1 : Hp} (x : Same H H1) : Keep a c H H1 := fun b o _ _ h => x b o h
theorem Same.new {H : Hp} {p : Addr} {o : HO} (h : H p = none) : Same H (upd H p o) := fun b u e => by
  rw [upd_ne (ne_of_none e h)]
  exact e
theorem Src.same {H H' : Hp} {a c : Addr} {t : Int} (s : Src H a c t) (x : Same H H') : Src H' a c t := by
  obtain ⟨h1, ⟨ns, h2, h3⟩, h4, h5⟩ := s
  exact ⟨x _ _ h1, ⟨ns, x _ _ h2, h3⟩, h4, h5⟩
theorem Src.new {H : Hp} {a c p : Addr} {t : Int} {o : HO} (s : Src H a c t) (h : H p = none) : Src (upd H p o) a c t := s.same (Same.new h)
theorem Src.ne_tup {H : Hp} {a c p : Addr} {t : Int} {xs : List V} (s : Src H a c t) (h : H p = some (.tup xs)) : p ≠ a ∧ p ≠ c := by
  obtain ⟨h1, ⟨ns, h2, _⟩, _⟩ := s
  exact ⟨fun e => (by rw [e, h1] at h; cases h), fun e => (by rw [e, h2] at h; cases h)⟩
theorem Src.ne_frz {H : Hp} {a c p : Addr} {t : Int} {o : Obj} {u : HO} (s : Src H a c t) (h : H p = some (.frz o u)) : p ≠ a ∧ p ≠ c := by
  obtain ⟨h1, ⟨ns, h2, _⟩, _⟩ := s
  exact ⟨fun e => (by rw [e, h1] at h; cases h), fun e => (by rw [e, h2] at h; cases h)⟩
theorem Src.ne_none {H : Hp} {a c p : Addr} {t : Int} (s : Src H a c t) (h : H p = none) : p ≠ a ∧ p ≠ c := by
  obtain ⟨h1, ⟨ns, h2, _⟩, _⟩ := s
  exact ⟨fun e => (by rw [e, h1] at h; cases h), fun e => (by rw [e, h2] at h; cases h)⟩
theorem Keep.tup {K : PySem.W.Frag} {H H' : Hp} {a c p : Addr} {t : Int} {xs : List V} (k : Keep a c H H') (s : Src H a c t) (h : SqT K H p xs) : SqT K H' p xs := by
  rcases h with (h | ⟨o, h⟩) | h
  · exact .inl (.inl (k _ _ (s.ne_tup h).1 (s.ne_tup h).2 h))
  · exact .inl (.inr ⟨o, k _ _ (s.ne_frz h).1 (s.ne_frz h).2 h⟩)
  · exact .inr h
theorem Same.tup {K : PySem.W.Frag} {H H' : Hp} {p : Addr} {xs : List V} (k : Same H H') (h : SqT K H p xs) : SqT K H' p xs := by
  rcases h with (h | ⟨o, h⟩) | h
  · exact .inl (.inl (k _ _ h))
  · exact .inl (.inr ⟨o, k _ _ h⟩)
  · exact .inr h
theorem atI0 {α : Type} {x : α} {xs : List α} : atI (x :: xs) 0 = some x := atI_nat (j := 0) rfl
theorem atI1 {α : Type} {x y : α} {xs : List α} : atI (x :: y :: xs) 1 = some y := atI_nat (j := 1) rfl
theorem cut63 {xs : List V} (h : xs.length ≤ 63) : cutV xs none (some 63) = xs := by
  unfold cutV
  rw [show HT.sIx xs.length 0 none = 0 from rfl, show HT.sIx xs.length xs.length (some 63) = min 63 xs.length from HT.sIx_nat xs.length xs.length 63]
  rw [List.drop_zero, show min 63 xs.length - 0 = xs.length by omega, List.take_length]
theorem ixN_nat {n j : Nat} (h : j < n) : ixN n (j : Int) = some j := by
  unfold ixN
  rw [if_pos (by omega), if_pos (by omega), Int.toNat_natCast]
theorem map_set {ns : List Int} {j : Nat} {x : Int} : (ns.map V.int).set j (.int x) = (ns.set j x).map V.int := by
  rw [List.map_set]
theorem bd_small {n : Int} (h : n.natAbs < 2 ^ 64) : Bd n := Nat.lt_of_lt_of_le h (Nat.pow_le_pow_right (by decide) (by decide))
theorem bd_le {n m : Int} (h0 : 0 ≤ n) (h : n ≤ m) (b : Bd m) : Bd n := Nat.lt_of_le_of_lt (by omega) b
/-! ### data -/
def Shp (n : Nat) (d : PyData) : Prop := d.canLay0 = true ∧ d.depth ≤ n
theorem Shp.mono {n m : Nat} {d : PyData} (h : Shp n d) (e : n ≤ m) : Shp m d := ⟨h.1, Nat.le_trans h.2 e⟩
theorem shp_int {n : Nat} {i : Int} : Shp n (.int i) := ⟨by simp [PyData.canLay0], by simp [PyData.depth]⟩
theorem shp_bl {n : Nat} {i : Bool} : Shp n (.bool i) := ⟨by simp [PyData.canLay0], by simp [PyData.depth]⟩
theorem shp_non {n : Nat} : Shp n .none := ⟨by simp [PyData.canLay0], by simp [PyData.depth]⟩
theorem shp_all {n : Nat} : ∀ {ds : List PyData}, (∀ d ∈ ds, Shp n d) → PyData.canLayAll0 ds = true ∧ PyData.depthAll ds ≤ n
  | [], _ => ⟨by simp [PyData.canLayAll0], by simp [PyData.depthAll]⟩
  | d :: ds, h => by
    obtain ⟨h1, h2⟩ := h d List.mem_cons_self
    obtain ⟨h3, h4⟩ := shp_all (ds := ds) fun e he => h e (List.mem_cons_of_mem _ he)
    refine ⟨by rw [PyData.canLayAll0, h1, h3] <;> rfl, ?_⟩
    rw [PyData.depthAll]
    omega
theorem shp_list {n : Nat} {ds : List PyData} (h : ∀ d ∈ ds, Shp n d) : Shp (n + 1) (.list ds) := by
  obtain ⟨h1, h2⟩ := shp_all h
  exact ⟨by rw [PyData.canLay0]; exact h1, by rw [PyData.depth]; omega⟩
theorem shp_tup {n : Nat} {ds : List PyData} (h : ∀ d ∈ ds, Shp n d) : Shp (n + 1) (.tuple ds) := by
  obtain ⟨h1, h2⟩ := shp_all h
  exact ⟨by rw [PyData.canLay0]; exact h1, by rw [PyData.depth]; omega⟩
theorem Shp.ok {n : Nat} {d : PyData} (h : Shp n d) (hn : n ≤ 64 := by decide) : SeqAt.shaped d = true := by
  unfold SeqAt.shaped
  rw [h.1, decide_eq_true (Nat.le_trans h.2 hn)] <;> rfl
theorem eqvAll_map {α : Type} [DecidableEq α] {f : α → PyData} (h : ∀ x y, PyData.eqv (f x) (f y) = decide (x = y)) : ∀ xs ys : List α, PyData.eqvAll (xs.map f) (ys.map f) = decide (xs = ys)
  | [], [] => by simp [PyData.eqvAll]
  | x :: xs, [] => by simp [PyData.eqvAll]
  | [], y :: ys => by simp [PyData.eqvAll]
  | x :: xs, y :: ys => by
    rw [List.map_cons, List.map_cons, PyData.eqvAll, h, eqvAll_map h xs ys]
    by_cases e1 : x = y
    · by_cases e2 : xs = ys
      · simp [e1, e2]
      · simp [e1, e2]
    · simp [e1]
theorem eqv_int (x y : Int) : PyData.eqv (.int x) (.int y) = decide (x = y) := by
  rw [PyData.eqv]
  exact Bool.beq_eq_decide_eq x y
theorem eqv_list {α : Type} [DecidableEq α] {f : α → PyData} (h : ∀ x y, PyData.eqv (f x) (f y) = decide (x = y)) (xs ys : List α) : PyData.eqv (.list (xs.map f)) (.list (ys.map f)) = decide (xs = ys) := by
  rw [PyData.eqv]
  exact eqvAll_map h xs ys
section
variable {K : PySem.W.Frag} {H : Hp}
theorem dp_map {α : Type} {f : α → V} {g : α → PyData} : ∀ {xs : List α}, (∀ x ∈ xs, Dp K H (f x) (g x)) → DpAll K H (xs.map f) (xs.map g)
  | [], _ => .nil
  | x :: xs, h => .cons (h x List.mem_cons_self) (dp_map fun y hy => h y (List.mem_cons_of_mem _ hy))
theorem dp_ints {p : Addr} {ns : List Int} (h : SqL K H p (ns.map V.int)) : Dp K H (.ref p) (.list (ns.map PyData.int)) := .lst h (dp_map fun x _ => .int x)
theorem shp_ints {ns : List Int} : Shp 1 (.list (ns.map PyData.int)) := shp_list fun d hd => by
  obtain ⟨x, _, rfl⟩ := List.mem_map.mp hd
  exact shp_int
end
theorem atI_int {ns : List Int} {j : Nat} {x : Int} (h : ns[j]? = some x) : atI (ns.map V.int) (j : Int) = some (.int x) := atI_nat (by rw [List.getElem?_map, h]; rfl)
theorem get_of {α : Type} {xs : List α} {j : Nat} (h : j < xs.length) : ∃ x, xs[j]? = some x := ⟨xs[j], List.getElem?_eq_getElem h⟩
/-! ### written powers -/
def E1200 : Int := ((10 : Int) ^ 60) ^ 20
theorem e1200_pos : (0 : Int) < E1200 := by decide +kernel
theorem bd_e1200 {n : Int} (h0 : 0 ≤ n) (h : n < E1200) : Bd n := by
  have h2 : E1200.natAbs < 2 ^ 4000 := by decide +kernel
  have h3 : n.natAbs ≤ E1200.natAbs := by omega
  exact Nat.lt_of_le_of_lt h3 h2
section
variable {H : Hp} {Q : VK}
theorem pw_ok {i j n : Int} (h1 : 0 ≤ j) (h2 : (Builtin.Int.intBits i : Int) * j ≤ 2 ^ 27) (e : i ^ j.toNat = n) (h : Q (.int n) H) : rI CPowW (fun i j => V.int (i ^ j.toNat)) (.int i) (.int j) H Q := ⟨i, j, rfl, rfl, ⟨h1, h2⟩, by subst e; exact h⟩
theorem r_pow18 (h : Q (.int 1000000000000000000) H) : rI CPowW (fun i j => V.int (i ^ j.toNat)) (.int 10) (.int 18) H Q := pw_ok (by decide) (by decide) (by decide +kernel) h
theorem r_pow30 (h : Q (.int 1000000000000000000000000000000) H) : rI CPowW (fun i j => V.int (i ^ j.toNat)) (.int 10) (.int 30) H Q := pw_ok (by decide) (by decide) (by decide +kernel) h
theorem r_pow60 (h : Q (.int ((10 : Int) ^ 60)) H) : rI CPowW (fun i j => V.int (i ^ j.toNat)) (.int 10) (.int 60) H Q := pw_ok (by decide) (by decide) (by decide +kernel) h
theorem r_pow1200 (h : Q (.int E1200) H) : rI CPowW (fun i j => V.int (i ^ j.toNat)) (.int ((10 : Int) ^ 60)) (.int 20) H Q := pw_ok (by decide) (by decide +kernel) (by decide +kernel) h
theorem r_mod {i j : Int} (hj : 0 < j) (h : Q (.int (i % j)) H) : rI (fun _ j => 0 < j) (fun i j => V.int (i % j)) (.int i) (.int j) H Q := ⟨i, j, rfl, rfl, hj, h⟩
theorem r_mul {i j : Int} (hc : CMulX i j) (h : Q (.int (i * j)) H) : rI CMulX (fun i j => V.int (i * j)) (.int i) (.int j) H Q := ⟨i, j, rfl, rfl, hc, h⟩
theorem r_div {i j : Int} (hc : CDivW i j) (h : Q (.int (i / j)) H) : rI CDivW (fun i j => V.int (i / j)) (.int i) (.int j) H Q := ⟨i, j, rfl, rfl, hc, h⟩
end
def Sm (i : Int) : Prop := i.natAbs < 2 ^ 20000
theorem mul_sm {i j : Int} (hi : Sm i) (hj : Sm j) : CMulX i j := mulx_ok hi hj (by decide)
theorem Bd.sm {i : Int} (h : Bd i) : Sm i := Nat.lt_trans h (Nat.pow_lt_pow_right (by decide) (by decide))
theorem sm_small {n : Int} (h : n.natAbs < 2 ^ 64) : Sm n := (bd_small h).sm
theorem div_bd {i j : Int} (h0 : 0 < j) (h : Bd j) : CDivW i j := wide_div h0 h (by decide) (by decide)
/-! ### one list changes -/
def Kept (l : Addr) (H H' : Hp) : Prop := ∀ b o, b ≠ l → H b = some o → H' b = some o
theorem Kept.refl (l : Addr) (H : Hp) : Kept l H H := fun _ _ _ h => h
theorem Kept.trans {l : Addr} {H H1 H2 : Hp} (x : Kept l H H1) (y : Kept l H1 H2) : Kept l H H2 := fun b o h1 h => y b o h1 (x b o h1 h)
theorem Kept.same {l : Addr} {H H1 H2 : Hp} (x : Kept l H H1) (y : Same H1 H2) : Kept l H H2 := fun b o h1 h => y b o (x b o h1 h)
theorem Kept.upd {l : Addr} {H H1 : Hp} {o : HO} (x : Kept l H H1) : Kept l H (upd H1 l o) := fun b u h1 h => by
  rw [upd_ne h1]
  exact x b u h1 h
theorem Kept.all {l : Addr} {H H1 H2 : Hp} (s : Same H H1) (hl : H l = none) (k : Kept l H1 H2) : Same H H2 := fun b o h => k b o (ne_of_none h hl) (s b o h)
theorem Kept.tup {K : PySem.W.Frag} {l p : Addr} {H H' : Hp} {xs ys : List V} (k : Kept l H H') (hl : H l = some (.lst ys)) (h : SqT K H p xs) : SqT K H' p xs := by
  rcases h with (h | ⟨o, h⟩) | h
  · exact .inl (.inl (k _ _ (fun e => by rw [e, hl] at h; cases h) h))
  · exact .inl (.inr ⟨o, k _ _ (fun e => by rw [e, hl] at h; cases h) h⟩)
  · exact .inr h
theorem r_app {K : PySem.W.Frag} {σ : L2.St} {H : Hp} {Q : VK} {l : Addr} {t : TA} (hx : ∃ xs, SqL K H l xs) (h : t σ H fun vs H2 => rAppend (.ref l) vs H2 Q) : tyV K "list" (.ref l) H ∧ t σ H fun vs H2 => rAppend (.ref l) vs H2 Q := ⟨.inl ⟨rfl, hx⟩, h⟩
theorem r_append {H : Hp} {Q : VK} {l : Addr} {xs : List V} {y : V} (h : H l = some (.lst xs)) (hn : xs.length < 16777216) (q : Q .non (upd H l (.lst (xs ++ [y])))) : rAppend (.ref l) [y] H Q := ⟨l, xs, y, rfl, rfl, h, hn, q⟩
theorem r_bm {K : PySem.W.Frag} {σ : L2.St} {H : Hp} {Q : VK} {T : String} {r : V → List V → Hp → VK → Prop} {to : TE} {t : TA} (h : to σ H fun x H1 => tyV K T x H1 ∧ t σ H1 fun xs H2 => r x xs H2 Q) : tBM K T r to t σ H Q := h
/-! ### the mathematics of classes -/
/-- the marks of the class (m, r) -/
def MeetR (m1 r1 m2 r2 : Nat) : Option (Nat × Nat) → Prop
  | none => ¬ ((r1 : Int) - r2) % ((Nat.gcd m1 m2 : Nat) : Int) = 0
  | some (L, x) => ((r1 : Int) - r2) % ((Nat.gcd m1 m2 : Nat) : Int) = 0 ∧ L = m1 * (m2 / Nat.gcd m1 m2) ∧ x < L ∧ x % m1 = r1 ∧ x % m2 = r2
theorem dvd_of_mods {x y m : Nat} (h : x % m = y % m) : (m : Int) ∣ (x : Int) - y := Int.dvd_of_emod_eq_zero (by
  have h2 : ((x : Int) % m) = ((y : Int) % m) := by exact_mod_cast h
  exact Int.emod_eq_emod_iff_emod_sub_eq_zero.mp h2)
theorem mods_of_dvd {x y m : Nat} (h : (m : Int) ∣ (x : Int) - y) : x % m = y % m := by
  have h2 : ((x : Int) % m) = ((y : Int) % m) := Int.emod_eq_emod_iff_emod_sub_eq_zero.mpr (Int.emod_eq_zero_of_dvd h)
  exact_mod_cast h2
theorem fits_of {m1 r1 m2 r2 h : Nat} (h1 : h % m1 = r1) (h2 : h % m2 = r2) : ((r1 : Int) - r2) % ((Nat.gcd m1 m2 : Nat) : Int) = 0 := by
  have a1 : ((Nat.gcd m1 m2 : Nat) : Int) ∣ (h : Int) - r1 := by
    refine Int.dvd_trans (Int.natCast_dvd_natCast.mpr (Nat.gcd_dvd_left m1 m2)) (dvd_of_mods ?_)
    rw [← h1, Nat.mod_mod]
  have a2 : ((Nat.gcd m1 m2 : Nat) : Int) ∣ (h : Int) - r2 := by
    refine Int.dvd_trans (Int.natCast_dvd_natCast.mpr (Nat.gcd_dvd_right m1 m2)) (dvd_of_mods ?_)
    rw [← h2, Nat.mod_mod]
  refine Int.emod_eq_zero_of_dvd ?_
  have e : (r1 : Int) - r2 = ((h : Int) - r2) - ((h : Int) - r1) := by omega
  rw [e]
  exact Int.dvd_sub a2 a1
theorem lcm_of {m1 m2 : Nat} : m1 * (m2 / Nat.gcd m1 m2) = Nat.lcm m1 m2 := by
  unfold Nat.lcm
  rw [Nat.mul_div_assoc _ (Nat.gcd_dvd_right m1 m2)]
theorem mod_mod_dvd {h L m : Nat} (d : m ∣ L) : h % L % m = h % m := Nat.mod_mod_of_dvd h d
/-- the class that is met holds just the marks of both -/
theorem met_iff {m1 r1 m2 r2 L x : Nat} (M : MeetR m1 r1 m2 r2 (some (L, x))) (h : Nat) : h % L = x ↔ h % m1 = r1 ∧ h % m2 = r2 := by
  obtain ⟨_, hL, hx, h1, h2⟩ := M
  rw [lcm_of] at hL
  subst hL
  constructor
  · intro e
    subst e
    rw [mod_mod_dvd (Nat.dvd_lcm_left m1 m2)] at h1
    rw [mod_mod_dvd (Nat.dvd_lcm_right m1 m2)] at h2
    exact ⟨h1, h2⟩
  · rintro ⟨e1, e2⟩
    have d1 : (m1 : Int) ∣ (h : Int) - x := dvd_of_mods (e1.trans h1.symm)
    have d2 : (m2 : Int) ∣ (h : Int) - x := dvd_of_mods (e2.trans h2.symm)
    have d3 : Nat.lcm m1 m2 ∣ ((h : Int) - x).natAbs := Nat.lcm_dvd (Int.ofNat_dvd_left.mp d1) (Int.ofNat_dvd_left.mp d2)
    have d4 : ((Nat.lcm m1 m2 : Nat) : Int) ∣ (h : Int) - x := Int.ofNat_dvd_left.mpr d3
    rw [mods_of_dvd d4, Nat.mod_eq_of_lt hx]
theorem met_none {m1 r1 m2 r2 : Nat} (M : MeetR m1 r1 m2 r2 none) (h : Nat) : ¬ (h % m1 = r1 ∧ h % m2 = r2) := fun ⟨h1, h2⟩ => M (fits_of h1 h2)
/-- a set of marks told as a class, or as empty -/
def Tells (S : Nat → Prop) : Option (Nat × Nat) → Prop
  | none => ∀ h, ¬ S h
  | some (L, x) => x < L ∧ ∀ h, h % L = x ↔ S h
theorem tells_meet {m1 r1 m2 r2 : Nat} : ∀ {o : Option (Nat × Nat)}, MeetR m1 r1 m2 r2 o → Tells (fun h => h % m1 = r1 ∧ h % m2 = r2) o
  | none, M => met_none M
  | some (_, _), M => ⟨M.2.2.1, met_iff M⟩
theorem tells_one {S : Nat → Prop} : ∀ {o o' : Option (Nat × Nat)}, Tells S o → Tells S o' → o = o'
  | none, none, _, _ => rfl
  | none, some (L, x), h, h' => absurd ((h'.2 x).mp (Nat.mod_eq_of_lt h'.1)) (h x)
  | some (L, x), none, h', h => absurd ((h'.2 x).mp (Nat.mod_eq_of_lt h'.1)) (h x)
  | some (L, x), some (L', x'), ⟨hx, h⟩, ⟨hx', h'⟩ => by
    have a1 : x % L' = x' := (h' x).mpr ((h x).mp (Nat.mod_eq_of_lt hx))
    have a2 : x' % L = x := (h x').mpr ((h' x').mp (Nat.mod_eq_of_lt hx'))
    have e : x = x' := Nat.le_antisymm (by rw [← a2]; exact Nat.mod_le _ _) (by rw [← a1]; exact Nat.mod_le _ _)
    subst e
    have b1 : (x + L) % L' = x := (h' _).mpr ((h _).mp (by rw [Nat.add_mod_right]; exact Nat.mod_eq_of_lt hx))
    have b2 : (x + L') % L = x := (h _).mpr ((h' _).mp (by rw [Nat.add_mod_right]; exact Nat.mod_eq_of_lt hx'))
    have d1 : L' ∣ L := by
      have := dvd_of_mods (x := x + L) (y := x) (m := L') (by rw [b1, Nat.mod_eq_of_lt hx'])
      have e : ((x + L : Nat) : Int) - x = (L : Int) := by omega
      rw [e] at this
      exact Int.natCast_dvd_natCast.mp this
    have d2 : L ∣ L' := by
      have := dvd_of_mods (x := x + L') (y := x) (m := L) (by rw [b2, Nat.mod_eq_of_lt hx])
      have e : ((x + L' : Nat) : Int) - x = (L' : Int) := by omega
      rw [e] at this
      exact Int.natCast_dvd_natCast.mp this
    rw [Nat.dvd_antisymm d2 d1]
/-- the class that the program reckons -/
theorem met_mk {m1 r1 m2 r2 : Nat} {inv : Int} (p1 : 0 < m1) (p2 : 0 < m2) (l1 : r1 < m1) (l2 : r2 < m2) (hf : ((r1 : Int) - r2) % ((Nat.gcd m1 m2 : Nat) : Int) = 0)
    (hi : (((m2 / Nat.gcd m1 m2 : Nat) : Int)) ∣ ((m1 / Nat.gcd m1 m2 : Nat) : Int) * inv - 1) :
    ∃ x : Nat, (r1 : Int) + m1 * ((((r2 : Int) - r1) / ((Nat.gcd m1 m2 : Nat) : Int) * inv) % ((m2 / Nat.gcd m1 m2 : Nat) : Int)) = (x : Int) ∧ MeetR m1 r1 m2 r2 (some (m1 * (m2 / Nat.gcd m1 m2), x)) := by
  have gp : 0 < Nat.gcd m1 m2 := Nat.gcd_pos_of_pos_left _ p1
  generalize hg : Nat.gcd m1 m2 = g at hf hi gp ⊢
  have da : g ∣ m1 := hg ▸ Nat.gcd_dvd_left m1 m2
  have db : g ∣ m2 := hg ▸ Nat.gcd_dvd_right m1 m2
  obtain ⟨a, ha⟩ := da
  obtain ⟨f, hf2⟩ := db
  have ea : m1 / g = a := by rw [ha]; exact Nat.mul_div_cancel_left _ gp
  have ef : m2 / g = f := by rw [hf2]; exact Nat.mul_div_cancel_left _ gp
  rw [ea, ef] at hi
  rw [ef]
  have fp : 0 < f := by
    rcases Nat.eq_zero_or_pos f with e | e
    · rw [e, Nat.mul_zero] at hf2; omega
    · exact e
  obtain ⟨d, hd⟩ := Int.dvd_of_emod_eq_zero hf
  have ed : ((r2 : Int) - r1) / (g : Int) = -d := by
    have e : (r2 : Int) - r1 = (g : Int) * (-d) := by rw [Int.mul_neg, ← hd]; omega
    rw [e]
    exact Int.mul_ediv_cancel_left _ (by omega)
  rw [ed]
  generalize hs : (-d * inv) % (f : Int) = s
  have s0 : 0 ≤ s := hs ▸ Int.emod_nonneg _ (by omega)
  have s1 : s < (f : Int) := hs ▸ Int.emod_lt_of_pos _ (by omega)
  obtain ⟨t, rfl⟩ : ∃ t : Nat, s = (t : Int) := ⟨s.toNat, by omega⟩
  refine ⟨r1 + m1 * t, by rw [Int.natCast_add, Int.natCast_mul], ?_, ?_, ?_, ?_, ?_⟩
  · rw [hg]; exact hf
  · rw [hg, ef]
  · have : m1 * (t + 1) ≤ m1 * f := Nat.mul_le_mul_left _ (by omega)
    rw [Nat.mul_add, Nat.mul_one] at this
    omega
  · rw [Nat.add_mul_mod_self_left]
    exact Nat.mod_eq_of_lt l1
  · have q1 : (f : Int) ∣ -d * inv - t := by
      refine Int.dvd_of_emod_eq_zero ?_
      rw [← hs, Int.sub_emod, Int.emod_emod, ← Int.sub_emod, Int.sub_self, Int.zero_emod]
    obtain ⟨u, hu⟩ := hi
    obtain ⟨v, hv⟩ := q1
    have key : (m2 : Int) ∣ ((r1 + m1 * t : Nat) : Int) - (r2 : Nat) := by
      refine ⟨-d * u - a * v, ?_⟩
      have e1 : ((r1 + m1 * t : Nat) : Int) - (r2 : Nat) = (g : Int) * d + (g * a : Nat) * t := by
        rw [Int.natCast_add, Int.natCast_mul, ← ha, ← hd]
        omega
      have e2 : (t : Int) = -d * inv - f * v := by omega
      have e3 : (a : Int) * inv = 1 + f * u := by omega
      rw [e1, e2, hf2, Int.natCast_mul, Int.natCast_mul]
      have e4 : (g : Int) * a * (-d * inv - f * v) = (g : Int) * (-d * (a * inv)) - g * f * (a * v) := by
        rw [Int.mul_sub]
        congr 1
        · simp only [Int.neg_mul, Int.mul_neg]; congr 1; simp only [Int.mul_assoc, Int.mul_left_comm]
        · simp only [Int.mul_assoc, Int.mul_left_comm]
      rw [e4, e3]
      simp only [Int.mul_add, Int.mul_sub, Int.mul_one, Int.mul_neg, Int.neg_mul, Int.mul_assoc, Int.mul_left_comm]
      omega
    rw [mods_of_dvd key]
    exact Nat.mod_eq_of_lt l2
theorem cop_div {m1 m2 : Nat} (p1 : 0 < m1) : Nat.gcd (m1 / Nat.gcd m1 m2) (m2 / Nat.gcd m1 m2) = 1 :=
  Nat.gcd_div_gcd_div_gcd_of_pos_left p1
/-! ### classes as values -/
def IsC (K : PySem.W.Frag) (H : Hp) (v : V) (m r : Nat) : Prop := ∃ p, v = .ref p ∧ SqT K H p [.int (m : Int), .int (r : Int)]
def CC (m r : Nat) : Prop := r < m ∧ Bd (m : Int)
def OptC (K : PySem.W.Frag) (H : Hp) (v : V) : Option (Nat × Nat) → Prop
  | none => v = .non
  | some (m, r) => IsC K H v m r
section
variable {K : PySem.W.Frag} {H H' : Hp} {v : V} {m r : Nat}
theorem IsC.same (h : IsC K H v m r) (s : Same H H') : IsC K H' v m r := let ⟨p, e, q⟩ := h; ⟨p, e, Same.tup s q⟩
theorem IsC.keep {a c : Addr} {t : Int} (h : IsC K H v m r) (k : Keep a c H H') (s : Src H a c t) : IsC K H' v m r := let ⟨p, e, q⟩ := h; ⟨p, e, k.tup s q⟩
theorem OptC.same : ∀ {o : Option (Nat × Nat)}, OptC K H v o → Same H H' → OptC K H' v o
  | none, h, _ => h
  | some (_, _), h, s => IsC.same h s
theorem OptC.keep {a c : Addr} {t : Int} : ∀ {o : Option (Nat × Nat)}, OptC K H v o → Keep a c H H' → Src H a c t → OptC K H' v o
  | none, h, _, _ => h
  | some (_, _), h, k, s => IsC.keep h k s
theorem tyx_tup {p : Addr} {xs : List V} (h : SqT K H p xs) : TyX K H (.ref p) (.type "tuple") := by
  rcases h with (h | ⟨o, h⟩) | ⟨o, its, n, h1, h2, _⟩
  · exact .base (.tup h)
  · exact .fTuple h
  · exact .kTuple h1 h2
theorem tyx_lst {p : Addr} {xs : List V} (h : SqL K H p xs) : TyX K H (.ref p) (.type "list") := by
  rcases h with (h | ⟨o, h⟩) | ⟨o, its, n, h1, h2, _⟩
  · exact .base (.lst h)
  · exact .base (.frz h)
  · exact .kList h1 h2
theorem tyx_int {i : Int} : TyX K H (.int i) (.type "int") := .base (.int i)
theorem tyx_bl {i : Bool} : TyX K H (.bl i) (.type "bool") := .base (.bl i)
theorem tyx_non : TyX K H .non (.type "NoneType") := .base .non
theorem r_isi {Q : VK} {x : V} {n t : String} {b : Bool} (ht : TyX K H x (.type t)) (hk : kitB t n = some b) (h : Q (.bl b) H) : rIsi K [x, .ty n] H Q := ⟨x, _, _, _, b, rfl, .ty n, ht, kit_ty hk, h⟩
theorem k_tt : kitB "tuple" "tuple" = some true := by decide +kernel
theorem k_nt : kitB "NoneType" "tuple" = some false := by decide +kernel
theorem k_ii : kitB "int" "int" = some true := by decide +kernel
theorem k_ib : kitB "int" "bool" = some false := by decide +kernel
theorem k_bb : kitB "bool" "bool" = some true := by decide +kernel
theorem k_bi : kitB "bool" "int" = some true := by decide +kernel
theorem k_ll : kitB "list" "list" = some true := by decide +kernel
end
def cdat (z : Nat × Nat) : PyData := .tuple [.int (z.1 : Int), .int (z.2 : Int)]
def odat : Option (Nat × Nat) → PyData
  | none => .none
  | some z => cdat z
theorem cdat_eqv (z w : Nat × Nat) : PyData.eqv (cdat z) (cdat w) = decide (z = w) := by
  obtain ⟨a, b⟩ := z
  obtain ⟨c, d⟩ := w
  unfold cdat
  rw [PyData.eqv, PyData.eqvAll, PyData.eqvAll, PyData.eqvAll, eqv_int, eqv_int]
  by_cases e1 : a = c
  · by_cases e2 : b = d
    · simp [e1, e2]
    · have e3 : ¬ (b : Int) = (d : Int) := by omega
      simp [e1, e2, e3]
  · have e3 : ¬ (a : Int) = (c : Int) := by omega
    simp [e1, e3]
theorem odat_eqv (z w : Option (Nat × Nat)) : PyData.eqv (odat z) (odat w) = decide (z = w) := by
  cases z with
  | none =>
    cases w with
    | none => simp [odat, PyData.eqv]
    | some w => simp [odat, cdat, PyData.eqv]
  | some z =>
    cases w with
    | none => simp [odat, cdat, PyData.eqv]
    | some w =>
      show PyData.eqv (cdat z) (cdat w) = _
      rw [cdat_eqv]
      by_cases e : z = w <;> simp [e]
theorem shp_cdat {z : Nat × Nat} : Shp 1 (cdat z) := shp_tup fun d hd => by
  rcases List.mem_cons.mp hd with e | hd
  · subst e; exact shp_int
  · rcases List.mem_cons.mp hd with e | hd
    · subst e; exact shp_int
    · cases hd
theorem shp_odat : ∀ {o : Option (Nat × Nat)}, Shp 1 (odat o)
  | none => shp_non
  | some _ => shp_cdat
section
variable {K : PySem.W.Frag} {H : Hp} {v : V} {m r : Nat}
theorem IsC.dp (h : IsC K H v m r) : Dp K H v (cdat (m, r)) := by
  obtain ⟨p, rfl, hq⟩ := h
  exact .tup hq (.cons (.int _) (.cons (.int _) .nil))
theorem OptC.dp : ∀ {o : Option (Nat × Nat)}, OptC K H v o → Dp K H v (odat o)
  | none, h => by
    have e : v = .non := h
    rw [e]
    exact .non
  | some (_, _), h => IsC.dp h
end
theorem sm_mul {i j : Int} {a b : Nat} (hi : i.natAbs < 2 ^ a) (hj : j.natAbs < 2 ^ b) (h : a + b ≤ 20000) : Sm (i * j) := Nat.lt_of_lt_of_le (wide_lt hi hj) (Nat.pow_le_pow_right (by decide) h)
theorem bd_nat {a b : Nat} (h : a ≤ b) (hb : Bd (b : Int)) : Bd (a : Int) := Nat.lt_of_le_of_lt (by omega) hb
theorem le_mul_abs {a b : Int} (h : 1 ≤ b) : (a.natAbs : Int) ≤ (a.natAbs : Int) * b := by
  have := Int.mul_le_mul_of_nonneg_left h (show 0 ≤ (a.natAbs : Int) by omega)
  omega
theorem abs_step {af rf q : Int} (hq : 0 ≤ q) : ((af - q * rf).natAbs : Int) ≤ (af.natAbs : Int) + q * (rf.natAbs : Int) := by
  have h1 : (af - q * rf).natAbs ≤ af.natAbs + (q * rf).natAbs := Int.natAbs_sub_le af (q * rf)
  have h2 : ((q * rf).natAbs : Int) = q * (rf.natAbs : Int) := by
    rw [Int.natAbs_mul, Int.natCast_mul]
    congr 1
    omega
  omega
/-- one turn of the reckoning of an inverse -/
structure InvW (n m : Int) (a r af rf : Int) : Prop where
  a1 : 1 ≤ a
  a2 : a ≤ m
  r0 : 0 ≤ r
  r1 : r < m
  g : Int.gcd a r = 1
  d1 : m ∣ af * n - a
  d2 : m ∣ rf * n - r
  sz : (af.natAbs : Int) * r + (rf.natAbs : Int) * a ≤ m
theorem InvW.turn {n m a r af rf : Int} (h : InvW n m a r af rf) (hr : 0 < r) : InvW n m r (a % r) rf (af - a / r * rf) := by
  have q0 : 0 ≤ a / r := Int.ediv_nonneg (by have := h.a1; omega) (by omega)
  have e1 : a / r * r + a % r = a := by rw [Int.mul_comm]; exact Int.mul_ediv_add_emod a r
  have m0 := Int.emod_nonneg a (show r ≠ 0 by omega)
  have m1 := Int.emod_lt_of_pos a hr
  refine ⟨by omega, by have := h.r1; omega, m0, by have := h.r1; omega, ?_, h.d2, ?_, ?_⟩
  · have hg := h.g
    obtain ⟨A, rfl⟩ : ∃ A : Nat, a = (A : Int) := ⟨a.toNat, by have := h.a1; omega⟩
    obtain ⟨R, rfl⟩ : ∃ R : Nat, r = (R : Int) := ⟨r.toNat, by omega⟩
    have hg2 : Nat.gcd A R = 1 := hg
    show Nat.gcd R ((A : Int) % (R : Int)).natAbs = 1
    rw [show ((A : Int) % (R : Int)).natAbs = A % R by rw [← Int.natCast_emod]; rfl, Nat.gcd_comm, ← Nat.gcd_rec, Nat.gcd_comm]
    exact hg2
  · obtain ⟨u, hu⟩ := h.d1
    obtain ⟨v, hv⟩ := h.d2
    refine ⟨u - a / r * v, ?_⟩
    rw [Int.sub_mul, Int.mul_assoc, Int.mul_sub, ← hu, Int.mul_left_comm m, ← hv, Int.mul_sub]
    omega
  · have s := h.sz
    have k := abs_step (af := af) (rf := rf) q0
    have k2 := Int.mul_le_mul_of_nonneg_right k (show 0 ≤ r by omega)
    rw [Int.add_mul] at k2
    have e2 : a / r * (rf.natAbs : Int) * r = (rf.natAbs : Int) * (a / r * r) := by
      rw [Int.mul_comm (a / r) (rf.natAbs : Int), Int.mul_assoc]
    rw [e2] at k2
    have e3 : (rf.natAbs : Int) * a = (rf.natAbs : Int) * (a / r * r) + (rf.natAbs : Int) * (a % r) := by rw [← Int.mul_add, e1]
    omega
theorem InvW.bd {n m a r af rf : Int} (h : InvW n m a r af rf) (hm : Bd m) : Bd rf := by
  have s := h.sz
  have k := le_mul_abs (a := rf) h.a1
  have z : 0 ≤ (af.natAbs : Int) * r := Int.mul_nonneg (by omega) h.r0
  have e : (rf.natAbs : Int) ≤ m := by omega
  exact Nat.lt_of_le_of_lt (by omega) hm
theorem inv_end {n m af : Int} (h : m ∣ af * n - 1) : m ∣ n * (af % m) - 1 := by
  obtain ⟨u, hu⟩ := h
  refine ⟨u - n * (af / m), ?_⟩
  have e := Int.mul_ediv_add_emod af m
  have e2 : n * (af % m) = n * af - n * (m * (af / m)) := by rw [← Int.mul_sub]; congr 1; omega
  rw [e2, Int.mul_sub, ← hu, Int.mul_left_comm m n, Int.mul_comm af n]
  omega
theorem gcd_start {n m : Nat} (h : Nat.gcd n m = 1) : Int.gcd (m : Int) ((n : Int) % (m : Int)) = 1 := by
  show Nat.gcd m ((n : Int) % (m : Int)).natAbs = 1
  rw [show ((n : Int) % (m : Int)).natAbs = n % m by rw [← Int.natCast_emod]; rfl, Nat.gcd_comm, ← Nat.gcd_rec, Nat.gcd_comm]
  exact h
section
variable {K : PySem.W.Frag} {H : Hp} {v : V} {m r : Nat} {Q : VK}
theorem r_c0 (h : IsC K H v m r) (q : Q (.int (m : Int)) H) : rIxT K v (.int 0) H Q := by
  obtain ⟨p, rfl, hp⟩ := h
  exact r_ixT hp atI0 q
theorem r_c1 (h : IsC K H v m r) (q : Q (.int (r : Int)) H) : rIxT K v (.int 1) H Q := by
  obtain ⟨p, rfl, hp⟩ := h
  exact r_ixT hp atI1 q
theorem r_isC {b : Bool} (h : IsC K H v m r) (q : Q (.bl true) H) : rIsi K [v, .ty "tuple"] H Q := by
  obtain ⟨p, rfl, hp⟩ := h
  exact r_isi (tyx_tup hp) k_tt q
theorem r_lenC {R : List V → Prop} (h : IsC K H v m r) (q : R [.int (m : Int), .int (r : Int)]) : ∃ p' ys', [v] = [V.ref p'] ∧ (SqL K H p' ys' ∨ SqT K H p' ys') ∧ R ys' := by
  obtain ⟨p, rfl, hp⟩ := h
  exact r_lenT hp q
theorem r_neD {x y : V} {a b : PyData} (ha : Dp K H x a) (hb : Dp K H y b) (h1 : SeqAt.shaped a = true) (h2 : SeqAt.shaped b = true) (q : Q (.bl (!PyData.eqv a b)) H) : rNeD K x y H Q := ⟨a, b, ha, hb, h1, h2, q⟩
theorem r_eqDD {x y : V} {a b : PyData} (ha : Dp K H x a) (hb : Dp K H y b) (h1 : SeqAt.shaped a = true) (h2 : SeqAt.shaped b = true) (q : Q (.bl (PyData.eqv a b)) H) : rEqD K x y H Q := ⟨a, b, ha, hb, h1, h2, q⟩
theorem r_neO {x y : V} {o o' : Option (Nat × Nat)} (ha : OptC K H x o) (hb : OptC K H y o') (q : Q (.bl (!decide (o = o'))) H) : rNeD K x y H Q := r_neD ha.dp hb.dp shp_odat.ok shp_odat.ok (by rw [odat_eqv]; exact q)
theorem r_eqO {x y : V} {o o' : Option (Nat × Nat)} (ha : OptC K H x o) (hb : OptC K H y o') (q : Q (.bl (decide (o = o'))) H) : rEqD K x y H Q := r_eqDD ha.dp hb.dp shp_odat.ok shp_odat.ok (by rw [odat_eqv]; exact q)
theorem nat_mod_cast {a b c : Nat} : decide ((a : Int) % (b : Int) = (c : Int)) = decide (a % b = c) := decide_eq_decide.mpr (by rw [← Int.natCast_emod]; omega)
theorem natV {l : List Nat} : l.map (fun k : Nat => V.int (k : Int)) = (l.map fun k : Nat => (k : Int)).map V.int := by rw [List.map_map]; rfl
theorem r_neNats {a b : Addr} {xs ys : List Nat} (hx : SqL K H a (xs.map fun k : Nat => V.int (k : Int))) (hy : SqL K H b (ys.map fun k : Nat => V.int (k : Int))) (q : Q (.bl (!decide (xs = ys))) H) : rNeD K (.ref a) (.ref b) H Q := by
  rw [natV] at hx hy
  refine r_neD (dp_ints hx) (dp_ints hy) shp_ints.ok shp_ints.ok ?_
  rw [List.map_map, List.map_map, eqv_list (f := PyData.int ∘ fun k : Nat => (k : Int)) (fun x y => by show PyData.eqv (.int (x : Int)) (.int (y : Int)) = _; rw [eqv_int]; exact decide_eq_decide.mpr (by omega))]
  exact q
theorem comp_filter {i n : Nat} {σ : L2.St} {H1 : Hp} {Dl : Addr} {tt : TT} {Qd : Hp → Prop} (p : Nat → Bool) (hi : i < σ.length) (hn : n < 1000000) (hD : H1 Dl = none)
    (ht : ∀ (k : Nat) H', k < n → Same H1 H' → ∀ R : Bool → Hp → Prop, (∀ H2, Same H' H2 → R (p k) H2) → tt ((wipe σ [i]).set i (some (.int (k : Int)))) H' R)
    (hq : ∀ H', Same H1 H' → H' Dl = some (.lst (((List.range n).filter p).map fun k : Nat => V.int (k : Int))) → Qd H') : LcW (Itr 0 n) (gName i) tt (tVar i) [i] σ H1 Dl Qd := by
  refine comp_range (fun j H' => Same H1 H' ∧ H' Dl = some (.lst (((List.range j).filter p).map fun k : Nat => V.int (k : Int)))) ⟨Same.new hD, upd_same⟩ ?_ (fun H' ⟨a, b⟩ => hq H' a b)
  rintro j H' hj ⟨sm, hl⟩
  refine ⟨?_, ht j H' hj sm _ fun H2 s2 => ?_⟩
  · show ((σ.set i none).set i _).set i none = σ.set i none
    rw [List.set_set, List.set_set]
  · have hl2 := s2 _ _ hl
    have ln : (((List.range j).filter p).map fun k : Nat => V.int (k : Int)).length ≤ j := by
      rw [List.length_map]
      have := List.length_filter_le p (List.range j)
      rw [List.length_range] at this
      exact this
    have sm2 : ∀ o, Same H1 (upd H2 Dl o) := fun o b u e => by
      rw [upd_ne (ne_of_none e hD)]
      exact s2 _ _ (sm _ _ e)
    cases hp : p j with
    | true =>
      refine r_T (r_var (v := .int (j : Int)) ?_ ⟨_, hl2, Nat.lt_of_le_of_lt ln (Nat.lt_of_lt_of_le (Nat.lt_trans hj hn) (by decide)), sm2 _, ?_⟩)
      · show ((σ.set i none).set i _)[i]? = _
        rw [List.getElem?_set_self (by rw [List.length_set]; exact hi)]
      · rw [List.range_succ, List.filter_append, List.map_append, List.filter_cons, if_pos hp]
        exact upd_same
    | false =>
      refine r_F ⟨sm.trans s2, ?_⟩
      rw [List.range_succ, List.filter_append, List.map_append, List.filter_cons, if_neg (by rw [hp]; decide)]
      show H2 Dl = some (.lst (_ ++ []))
      rw [List.append_nil]
      exact hl2
end
variable {P : Program} {w : World} {K : PySem.W.Frag} {mg : Str → Option Value} {base : Heap}
local macro_rules | `(tactic| walk_at "s1") => `(tactic| first
  | with_reducible refine r_seq ?_ | with_reducible refine r_asg ?_ | with_reducible refine r_ret ?_ | with_reducible refine r_drop ?_ | with_reducible refine r_ifS ?_ | with_reducible refine r_par ?_
  | with_reducible refine r_nx ?_ | with_reducible refine r_rt ?_ | with_reducible refine r_bk ?_ | with_reducible refine r_ct ?_ | with_reducible refine r_next ?_
  | with_reducible refine r_op ?_ | with_reducible refine r_un ?_ | (focus ((with_reducible refine' r_var ?_ ?_); rotate_left; exact rfl)) | with_reducible refine r_c ?_
  | with_reducible refine r_test ?_ | with_reducible refine r_tB ?_ | with_reducible refine r_isbl ?_ | with_reducible refine r_and ?_ | with_reducible refine r_or ?_ | with_reducible refine r_not ?_
  | with_reducible refine r_I0 ?_ | with_reducible refine r_U ?_ | with_reducible refine r_eqI ?_ | with_reducible refine r_neI ?_
  | with_reducible refine r_nil ?_ | with_reducible refine r_cons ?_ | with_reducible refine r_tup ?_ | with_reducible refine r_lst ?_ | with_reducible refine r_call ?_ | with_reducible refine r_cb ?_
  | with_reducible refine r_andV ?_ | with_reducible refine r_orV ?_ | with_reducible refine r_notV ?_ | with_reducible refine r_chain ?_
  | with_reducible refine r_int ?_ | ((with_reducible refine r_name ?_); dsimp only [List.set]) | with_reducible refine r_sl ?_ | with_reducible refine r_sub ?_ | with_reducible refine r_gcons ?_ | with_reducible refine r_gnil ?_
  | ((with_reducible refine r_tuple2 ?_); dsimp only [List.set]) | with_reducible refine r_part ?_ | with_reducible refine r_nopart ?_ | with_reducible refine r_isint ?_ | with_reducible refine r_int2 ?_ | with_reducible refine r_for ?_ | with_reducible refine r_lc ?_ | with_reducible refine r_rng1 ?_ | with_reducible refine r_rng2 ?_ | with_reducible refine r_ilist ?_ | with_reducible refine r_itup ?_
  | with_reducible refine r_T ?_ | with_reducible refine r_F ?_ | with_reducible refine r_nT ?_ | with_reducible refine r_nF ?_ | with_reducible refine r_pow18 ?_ | with_reducible refine r_pow30 ?_ | with_reducible refine r_pow60 ?_ | with_reducible refine r_pow1200 ?_ | with_reducible refine r_mod (by omega) ?_ | with_reducible refine r_gcdN ?_ | with_reducible refine r_non ?_ | with_reducible refine r_neB ?_ | with_reducible refine r_eqB ?_ | with_reducible refine r_bm ?_ | dsimp only [cx_K])
local macro_rules | `(tactic| walk_at "st") => `(tactic| repeat walk_at "s1")
def topS (i : Nat) : Stmt := PySem.Challenge.pw_bymarks_k02_whole_meets.main.body.getD i (.Pass ⟨0, 0, 0, 0⟩)
abbrev s__law_source : Stmt := topS 16
abbrev nm__law_source : List Str := ["_law_script", "_law_cells", "_law_k"]
theorem sc__law_source : FnScope nm__law_source ["_law_script"] (defScope s__law_source) := ⟨rfl, rfl, rfl, by decide +kernel, rfl, by decide +kernel, by decide +kernel⟩
abbrev s__law_draw : Stmt := topS 17
abbrev nm__law_draw : List Str := ["_law_source_here", "_law_limit", "_law_cells", "_law_turn", "_law_place", "_law_cell", "_law_number"]
theorem sc__law_draw : FnScope nm__law_draw ["_law_source_here", "_law_limit"] (defScope s__law_draw) := ⟨rfl, rfl, rfl, by decide +kernel, rfl, by decide +kernel, by decide +kernel⟩
abbrev s_is_integer : Stmt := topS 5
abbrev nm_is_integer : List Str := ["value"]
theorem sc_is_integer : FnScope nm_is_integer ["value"] (defScope s_is_integer) := ⟨rfl, rfl, rfl, by decide +kernel, rfl, by decide +kernel, by decide +kernel⟩
abbrev s_inverse : Stmt := topS 6
abbrev nm_inverse : List Str := ["number", "modulus", "ahead", "rest", "ahead_factor", "rest_factor", "times", "left"]
theorem sc_inverse : FnScope nm_inverse ["number", "modulus"] (defScope s_inverse) := ⟨rfl, rfl, rfl, by decide +kernel, rfl, by decide +kernel, by decide +kernel⟩
abbrev s_lies_in : Stmt := topS 10
abbrev nm_lies_in : List Str := ["mark", "one"]
theorem sc_lies_in : FnScope nm_lies_in ["mark", "one"] (defScope s_lies_in) := ⟨rfl, rfl, rfl, by decide +kernel, rfl, by decide +kernel, by decide +kernel⟩
abbrev s_is_class : Stmt := topS 8
abbrev nm_is_class : List Str := ["value", "modulus", "remainder"]
theorem sc_is_class : FnScope nm_is_class ["value"] (defScope s_is_class) := ⟨rfl, rfl, rfl, by decide +kernel, rfl, by decide +kernel, by decide +kernel⟩
abbrev s_check_class : Stmt := topS 9
abbrev nm_check_class : List Str := ["value"]
theorem sc_check_class : FnScope nm_check_class ["value"] (defScope s_check_class) := ⟨rfl, rfl, rfl, by decide +kernel, rfl, by decide +kernel, by decide +kernel⟩
abbrev s_have_common : Stmt := topS 11
abbrev nm_have_common : List Str := ["one", "other"]
theorem sc_have_common : FnScope nm_have_common ["one", "other"] (defScope s_have_common) := ⟨rfl, rfl, rfl, by decide +kernel, rfl, by decide +kernel, by decide +kernel⟩
abbrev s_common_class : Stmt := topS 12
abbrev nm_common_class : List Str := ["one", "other", "modulus", "remainder", "shared", "further", "steps"]
theorem sc_common_class : FnScope nm_common_class ["one", "other"] (defScope s_common_class) := ⟨rfl, rfl, rfl, by decide +kernel, rfl, by decide +kernel, by decide +kernel⟩
abbrev s_meet : Stmt := topS 13
abbrev nm_meet : List Str := ["one", "other"]
theorem sc_meet : FnScope nm_meet ["one", "other"] (defScope s_meet) := ⟨rfl, rfl, rfl, by decide +kernel, rfl, by decide +kernel, by decide +kernel⟩
abbrev s_is_within : Stmt := topS 14
abbrev nm_is_within : List Str := ["one", "other"]
theorem sc_is_within : FnScope nm_is_within ["one", "other"] (defScope s_is_within) := ⟨rfl, rfl, rfl, by decide +kernel, rfl, by decide +kernel, by decide +kernel⟩
abbrev s__law_divisor : Stmt := topS 18
abbrev nm__law_divisor : List Str := ["_law_one", "_law_other"]
theorem sc__law_divisor : FnScope nm__law_divisor ["_law_one", "_law_other"] (defScope s__law_divisor) := ⟨rfl, rfl, rfl, by decide +kernel, rfl, by decide +kernel, by decide +kernel⟩
abbrev s__law_great : Stmt := topS 19
abbrev nm__law_great : List Str := ["_law_source_here", "_law_digits", "_law_number", "_law_k"]
theorem sc__law_great : FnScope nm__law_great ["_law_source_here", "_law_digits"] (defScope s__law_great) := ⟨rfl, rfl, rfl, by decide +kernel, rfl, by decide +kernel, by decide +kernel⟩
abbrev s__law_modulus : Stmt := topS 20
abbrev nm__law_modulus : List Str := ["_law_source_here", "_law_way"]
theorem sc__law_modulus : FnScope nm__law_modulus ["_law_source_here"] (defScope s__law_modulus) := ⟨rfl, rfl, rfl, by decide +kernel, rfl, by decide +kernel, by decide +kernel⟩
abbrev s__law_class : Stmt := topS 21
abbrev nm__law_class : List Str := ["_law_source_here", "_law_mark", "_law_m"]
theorem sc__law_class : FnScope nm__law_class ["_law_source_here", "_law_mark"] (defScope s__law_class) := ⟨rfl, rfl, rfl, by decide +kernel, rfl, by decide +kernel, by decide +kernel⟩
abbrev s__law_lies : Stmt := topS 22
abbrev nm__law_lies : List Str := ["_law_mark", "_law_one"]
theorem sc__law_lies : FnScope nm__law_lies ["_law_mark", "_law_one"] (defScope s__law_lies) := ⟨rfl, rfl, rfl, by decide +kernel, rfl, by decide +kernel, by decide +kernel⟩
abbrev s__law_fits : Stmt := topS 23
abbrev nm__law_fits : List Str := ["_law_one", "_law_other", "_law_found", "_law_great_here", "_law_both", "_law_mark"]
theorem sc__law_fits : FnScope nm__law_fits ["_law_one", "_law_other"] (defScope s__law_fits) := ⟨rfl, rfl, rfl, by decide +kernel, rfl, by decide +kernel, by decide +kernel⟩
abbrev s__law_three_fit : Stmt := topS 24
abbrev nm__law_three_fit : List Str := ["_law_first", "_law_second", "_law_third", "_law_found", "_law_one", "_law_other", "_law_last", "_law_both"]
theorem sc__law_three_fit : FnScope nm__law_three_fit ["_law_first", "_law_second", "_law_third"] (defScope s__law_three_fit) := ⟨rfl, rfl, rfl, by decide +kernel, rfl, by decide +kernel, by decide +kernel⟩
abbrev s_law : Stmt := topS 25
abbrev nm_law : List Str := ["_law_script", "_law_source_here", "_law_turn", "_law_mark", "_law_one", "_law_other", "_law_part"]
theorem sc_law : FnScope nm_law ["_law_script"] (defScope s_law) := ⟨rfl, rfl, rfl, by decide +kernel, rfl, by decide +kernel, by decide +kernel⟩
structure Txt (K : PySem.W.Frag) (mg : Str → Option Value) : Prop where
  f__law_source : My.Has K mg "_law_source" s__law_source ["_law_script"]
  f__law_draw : My.Has K mg "_law_draw" s__law_draw ["_law_source_here", "_law_limit"]
  f_is_integer : My.Has K mg "is_integer" s_is_integer ["value"]
  f_inverse : My.Has K mg "inverse" s_inverse ["number", "modulus"]
  f_lies_in : My.Has K mg "lies_in" s_lies_in ["mark", "one"]
  f_is_class : My.Has K mg "is_class" s_is_class ["value"]
  f_check_class : My.Has K mg "check_class" s_check_class ["value"]
  f_have_common : My.Has K mg "have_common" s_have_common ["one", "other"]
  f_common_class : My.Has K mg "common_class" s_common_class ["one", "other"]
  f_meet : My.Has K mg "meet" s_meet ["one", "other"]
  f_is_within : My.Has K mg "is_within" s_is_within ["one", "other"]
  f__law_divisor : My.Has K mg "_law_divisor" s__law_divisor ["_law_one", "_law_other"]
  f__law_great : My.Has K mg "_law_great" s__law_great ["_law_source_here", "_law_digits"]
  f__law_modulus : My.Has K mg "_law_modulus" s__law_modulus ["_law_source_here"]
  f__law_class : My.Has K mg "_law_class" s__law_class ["_law_source_here", "_law_mark"]
  f__law_lies : My.Has K mg "_law_lies" s__law_lies ["_law_mark", "_law_one"]
  f__law_fits : My.Has K mg "_law_fits" s__law_fits ["_law_one", "_law_other"]
  f__law_three_fit : My.Has K mg "_law_three_fit" s__law_three_fit ["_law_first", "_law_second", "_law_third"]
  f_law : My.Has K mg "law" s_law ["_law_script"]
  b_abs : mg "abs" = none
  b_bool : mg "bool" = none
  b_divmod : mg "divmod" = none
  b_int : mg "int" = none
  b_isinstance : mg "isinstance" = none
  b_len : mg "len" = none
  b_range : mg "range" = none
  b_tuple : mg "tuple" = none
  v_gcd : mg "gcd" = some (.builtin "math.gcd")
local macro_rules | `(tactic| walk_at "s1") => `(tactic| first
  | with_reducible refine r_seq ?_ | with_reducible refine r_asg ?_ | with_reducible refine r_ret ?_ | with_reducible refine r_drop ?_ | with_reducible refine r_ifS ?_ | with_reducible refine r_par ?_
  | with_reducible refine r_nx ?_ | with_reducible refine r_rt ?_ | with_reducible refine r_bk ?_ | with_reducible refine r_ct ?_ | with_reducible refine r_next ?_
  | with_reducible refine r_op ?_ | with_reducible refine r_un ?_ | (focus ((with_reducible refine' r_var ?_ ?_); rotate_left; exact rfl)) | with_reducible refine r_c ?_
  | with_reducible refine r_test ?_ | with_reducible refine r_tB ?_ | with_reducible refine r_isbl ?_ | with_reducible refine r_and ?_ | with_reducible refine r_or ?_ | with_reducible refine r_not ?_
  | with_reducible refine r_I0 ?_ | with_reducible refine r_U ?_ | with_reducible refine r_eqI ?_ | with_reducible refine r_neI ?_
  | with_reducible refine r_nil ?_ | with_reducible refine r_cons ?_ | with_reducible refine r_tup ?_ | with_reducible refine r_lst ?_ | with_reducible refine r_call ?_ | with_reducible refine r_cb ?_
  | with_reducible refine r_andV ?_ | with_reducible refine r_orV ?_ | with_reducible refine r_notV ?_ | with_reducible refine r_chain ?_
  | with_reducible refine r_int ?_ | ((with_reducible refine r_name ?_); dsimp only [List.set]) | with_reducible refine r_sl ?_ | with_reducible refine r_sub ?_ | with_reducible refine r_gcons ?_ | with_reducible refine r_gnil ?_
  | ((with_reducible refine r_tuple2 ?_); dsimp only [List.set]) | with_reducible refine r_part ?_ | with_reducible refine r_nopart ?_ | with_reducible refine r_isint ?_ | with_reducible refine r_int2 ?_ | with_reducible refine r_for ?_ | with_reducible refine r_lc ?_ | with_reducible refine r_rng1 ?_ | with_reducible refine r_rng2 ?_ | with_reducible refine r_ilist ?_ | with_reducible refine r_itup ?_
  | with_reducible refine r_T ?_ | with_reducible refine r_F ?_ | with_reducible refine r_nT ?_ | with_reducible refine r_nF ?_ | with_reducible refine r_pow18 ?_ | with_reducible refine r_pow30 ?_ | with_reducible refine r_pow60 ?_ | with_reducible refine r_pow1200 ?_ | with_reducible refine r_mod (by omega) ?_ | with_reducible refine r_gcdN ?_ | with_reducible refine r_non ?_ | with_reducible refine r_neB ?_ | with_reducible refine r_eqB ?_ | with_reducible refine r_bm ?_ | dsimp only [cx_K])
local macro_rules | `(tactic| walk_at "st") => `(tactic| repeat walk_at "s1")
/-! ### the law's source of drawn numbers -/
def sp__law_source (K : PySem.W.Frag) : Sp := fun vs H Q _ => ∃ (s : Addr) (ns : List Int), vs = [.ref s] ∧ SqL K H s (ns.map V.int) ∧ ns.length ≤ 63 ∧ ∀ a c H', Same H H' → Src H' a c 0 → H a = none → H c = none → Q (.ref a) H'
def sp__law_draw (K : PySem.W.Frag) : Sp := fun vs H Q _ => ∃ (a c : Addr) (t n : Int), vs = [.ref a, .int n] ∧ Src H a c t ∧ t + 1 ≤ Big ∧ 0 < n ∧ Bd n ∧ ∀ r t' H', 0 ≤ r → r < n → Keep a c H H' → Src H' a c t' → t ≤ t' → t' ≤ t + 1 → Q (.int r) H'
theorem cal__law_source (T : Txt K mg)  : Cal P w K mg base 1 "_law_source" (sp__law_source K) [] := by
  obtain ⟨f, fd, F, gF, b⟩ := T.f__law_source
  refine My.mkCal F gF b sc__law_source (fun vs H Q E h => ?len) (fun cdv A outer s H vs Q E hr h => ?body)
  case len => first | (obtain ⟨rfl, _⟩ := h; rfl) | (obtain ⟨_, rfl, _⟩ := h; rfl) | (obtain ⟨_, _, rfl, _⟩ := h; rfl) | (obtain ⟨_, _, _, rfl, _⟩ := h; rfl) | (obtain ⟨_, _, _, _, rfl, _⟩ := h; rfl) | (obtain ⟨_, _, _, _, _, rfl, _⟩ := h; rfl) | (obtain ⟨_, _, _, _, _, _, rfl, _⟩ := h; rfl) | (obtain ⟨_, _, _, _, _, _, _, rfl, _⟩ := h; rfl) | (obtain ⟨_, _, _, _, _, _, _, _, rfl, _⟩ := h; rfl) | (obtain ⟨_, _, _, _, _, _, _, _, _, rfl, _⟩ := h; rfl) | (obtain ⟨_, _, _, _, _, _, _, _, _, _, rfl, _⟩ := h; rfl) | (obtain ⟨_, _, _, _, _, _, _, _, _, _, _, rfl, _⟩ := h; rfl) | (obtain ⟨_, _, _, _, _, _, _, _, _, _, _, _, rfl, _⟩ := h; rfl) | (obtain ⟨_, _, _, _, _, _, _, _, _, _, _, _, _, rfl, _⟩ := h; rfl) | (obtain ⟨_, _, _, _, _, _, _, _, _, _, _, _, _, _, rfl, _⟩ := h; rfl)
  case body =>
    refine ⟨_, (pss_cons (ps_set (i := 1) sc__law_source.nd rfl (Or.inl rfl) (pe_slice sl_list (pv 0) po_none (po_some pe_int)))
      (pss_cons (ps_for PassesOwn.never rfl (pi_range1 (by rfl) T.b_range (pa_cons (pe_callB call_len_seq (by rfl) T.b_len (by decide +kernel) (pa_cons (pv 1) pa_nil)) pa_nil)) (pg_name (i := 2) sc__law_source.nd rfl (Or.inl rfl))
      (pss_one (ps_if (pt_cmpR op_ge (pe_callB My.call_absI (by rfl) T.b_abs (by decide +kernel) (pa_cons (pe_ix ix_list (pv 1) (pv 2) (fun _ _ => rfl)) pa_nil)) (pe_op My.op_powW pe_int pe_int) (nomark _))
      (pss_one (ps_asg (pe_op op_mod (pe_callTy My.call_intI (by rfl) T.b_int (by decide +kernel) (pa_cons (pe_ix ix_list (pv 1) (pv 2) (fun _ _ => rfl)) pa_nil)) (pe_op My.op_powW (pe_op My.op_powW pe_int pe_int) pe_int)) (pg_sub (pv 1) (pv 2) set_list)))
      pss_nil)))
      (pss_cons (ps_if (pt_cmpR (op_eqD hr.units) (pv 1) (pe_lst pa_nil) (nomark _))
      (pss_one (ps_set (i := 1) sc__law_source.nd rfl (Or.inl rfl) (pe_lst (pa_cons pe_int pa_nil))))
      pss_nil)
      (pss_one (ps_ret (pe_lst (pa_cons (pv 1) (pa_cons pe_int pa_nil)))))))), ?_⟩
    obtain ⟨s0, ns, rfl, hS, hlen, q⟩ := h
    refine My.r_start (σ := [some _, none, none]) rfl ?_; walk_at "st"
    refine r_slL hS fun c hc => ?_
    rw [cut63 (by simpa using hlen)]
    walk_at "st"
    refine r_lenL (.of upd_same) ?_
    walk_at "st"
    rw [List.length_map]
    refine r_rgL ns.length rfl (by omega) ?_
    refine loop_range (fun i σ' H' => ∃ (v : Option V) (ms : List Int), σ' = [some (.ref s0), some (.ref c), v] ∧ Same H H' ∧ H' c = some (.lst (ms.map V.int)) ∧ ms.length = ns.length ∧ ∀ j x, j < i → ms[j]? = some x → Bd x) ?_ ?_ ?_
    · exact ⟨none, ns, rfl, Same.new hc, upd_same, rfl, fun j x hj => absurd hj (Nat.not_lt_zero _)⟩
    · rintro i σ' H' hi ⟨v, ms, rfl, sm, hc', hl, hb⟩
      obtain ⟨x, hx⟩ := get_of (xs := ms) (j := i) (by omega)
      walk_at "st"
      refine r_ixL (.of hc') (atI_int hx) ?_
      walk_at "st"
      refine r_dec (fun g => ?_) (fun g => ?_)
      · walk_at "st"
        refine r_ixL (.of hc') (atI_int hx) ?_
        walk_at "st"
        refine r_mod e1200_pos ?_
        walk_at "st"
        refine r_setL hc' (ixN_nat (by rw [List.length_map]; omega)) ?_
        rw [map_set]
        refine ⟨_, _, rfl, fun b o e => ?_, upd_same, by rw [List.length_set]; exact hl, fun j y hj hy => ?_⟩
        · rw [upd_ne (ne_of_none e hc)]
          exact sm b o e
        · rw [List.getElem?_set] at hy
          by_cases hji : i = j
          · rw [if_pos hji, if_pos (by omega)] at hy
            have e := Option.some.inj hy
            rw [← e]
            exact bd_e1200 (Int.emod_nonneg _ (by have := e1200_pos; omega)) (Int.emod_lt_of_pos _ e1200_pos)
          · rw [if_neg hji] at hy
            exact hb j y (by omega) hy
      · walk_at "st"
        refine ⟨_, ms, rfl, sm, hc', hl, fun j y hj hy => ?_⟩
        by_cases hji : j = i
        · subst hji
          rw [hx] at hy
          have e := Option.some.inj hy
          subst e
          exact bd_small (by omega)
        · exact hb j y (by omega) hy
    · rintro σ' H' ⟨v, ms, rfl, sm, hc', hl, hb⟩
      walk_at "st"
      refine r_sz (by decide) fun p hp => ?_
      refine r_eqD (dp_ints ((Same.new hp).seq (.of hc'))) (dp_ints (ns := []) (.of upd_same)) shp_ints.ok shp_ints.ok ?_
      rw [eqv_list eqv_int]
      walk_at "st"
      refine r_dec (fun g => ?_) (fun g => ?_)
      · walk_at "st"
        refine r_sz (Nat.le_of_ble_eq_true rfl) fun c2 hc2 => ?_
        walk_at "st"
        refine r_sz (Nat.le_of_ble_eq_true rfl) fun a ha => ?_
        have hs0 : Same H (upd (upd H' p (.lst [])) c2 (.lst [.int 0])) := (sm.trans (Same.new hp)).trans (Same.new hc2)
        have hc20 : H c2 = none := (sm.trans (Same.new hp)).free hc2
        have ha0 : H a = none := hs0.free ha
        refine q a c2 _ (hs0.trans (Same.new ha)) ⟨upd_same, ⟨[0], ?_, by decide, by decide, fun n hn => ?_⟩, by decide, ne_of_none upd_same ha⟩ ha0 hc20
        · exact (Same.new ha) _ _ upd_same
        · rw [List.mem_singleton] at hn
          subst hn
          exact bd_small (by decide)
      · walk_at "st"
        refine r_sz (Nat.le_of_ble_eq_true rfl) fun a ha => ?_
        have hs0 : Same H (upd H' p (.lst [])) := sm.trans (Same.new hp)
        refine q a c _ (hs0.trans (Same.new ha)) ⟨upd_same, ⟨ms, ?_, ?_, by omega, fun n hn => ?_⟩, by decide, ne_of_none ((Same.new hp) _ _ hc') ha⟩ (hs0.free ha) hc
        · exact (Same.new ha) _ _ ((Same.new hp) _ _ hc')
        · exact List.length_pos_iff.mpr g
        · obtain ⟨j, hj⟩ := List.getElem?_of_mem hn
          have := (List.getElem?_eq_some_iff.mp hj).1
          exact hb j n (by omega) hj
theorem cal__law_draw (T : Txt K mg)  : Cal P w K mg base 1 "_law_draw" (sp__law_draw K) [] := by
  obtain ⟨f, fd, F, gF, b⟩ := T.f__law_draw
  refine My.mkCal F gF b sc__law_draw (fun vs H Q E h => ?len) (fun cdv A outer s H vs Q E hr h => ?body)
  case len => first | (obtain ⟨rfl, _⟩ := h; rfl) | (obtain ⟨_, rfl, _⟩ := h; rfl) | (obtain ⟨_, _, rfl, _⟩ := h; rfl) | (obtain ⟨_, _, _, rfl, _⟩ := h; rfl) | (obtain ⟨_, _, _, _, rfl, _⟩ := h; rfl) | (obtain ⟨_, _, _, _, _, rfl, _⟩ := h; rfl) | (obtain ⟨_, _, _, _, _, _, rfl, _⟩ := h; rfl) | (obtain ⟨_, _, _, _, _, _, _, rfl, _⟩ := h; rfl) | (obtain ⟨_, _, _, _, _, _, _, _, rfl, _⟩ := h; rfl) | (obtain ⟨_, _, _, _, _, _, _, _, _, rfl, _⟩ := h; rfl) | (obtain ⟨_, _, _, _, _, _, _, _, _, _, rfl, _⟩ := h; rfl) | (obtain ⟨_, _, _, _, _, _, _, _, _, _, _, rfl, _⟩ := h; rfl) | (obtain ⟨_, _, _, _, _, _, _, _, _, _, _, _, rfl, _⟩ := h; rfl) | (obtain ⟨_, _, _, _, _, _, _, _, _, _, _, _, _, rfl, _⟩ := h; rfl) | (obtain ⟨_, _, _, _, _, _, _, _, _, _, _, _, _, _, rfl, _⟩ := h; rfl)
  case body =>
    refine ⟨_, (pss_cons (ps_asg (pv 0) (pg_unl (by rfl) (pgs_cons (pg_name (i := 2) sc__law_draw.nd rfl (Or.inl rfl)) (pgs_cons (pg_name (i := 3) sc__law_draw.nd rfl (Or.inl rfl)) pgs_nil))))
      (pss_cons (ps_set (i := 4) sc__law_draw.nd rfl (Or.inl rfl) (pe_op op_mod (pe_callTy My.call_intI (by rfl) T.b_int (by decide +kernel) (pa_cons (pv 3) pa_nil)) (pe_callB call_len_seq (by rfl) T.b_len (by decide +kernel) (pa_cons (pv 2) pa_nil))))
      (pss_cons (ps_set (i := 5) sc__law_draw.nd rfl (Or.inl rfl) (pe_ix ix_list (pv 2) (pv 4) (fun _ _ => rfl)))
      (pss_cons (ps_asg (pe_op op_add (pv 3) pe_int) (pg_sub (pv 0) pe_int set_list))
      (pss_cons (ps_if (pt_cmpR op_ge (pv 5) (pe_op My.op_powW pe_int pe_int) (nomark _))
      (pss_cons (ps_asg (pe_op op_fdivW (pv 5) (pv 1)) (pg_sub (pv 2) (pv 4) set_list))
      (pss_one (ps_ret (pe_op op_mod (pe_callTy My.call_intI (by rfl) T.b_int (by decide +kernel) (pa_cons (pv 5) pa_nil)) (pv 1)))))
      pss_nil)
      (pss_cons (ps_set (i := 6) sc__law_draw.nd rfl (Or.inl rfl) (pe_op op_mod (pe_callTy My.call_intI (by rfl) T.b_int (by decide +kernel) (pa_cons (pe_op op_add (pe_op op_add (pe_op op_mulX (pe_op op_mod (pe_callTy My.call_intI (by rfl) T.b_int (by decide +kernel) (pa_cons (pv 5) pa_nil)) pe_int) pe_int) (pe_op op_mulX (pe_op op_mulX (pv 3) (pv 3)) pe_int)) pe_int) pa_nil)) pe_int))
      (pss_cons (ps_set (i := 6) sc__law_draw.nd rfl (Or.inl rfl) (pe_op op_mod (pe_callTy My.call_intI (by rfl) T.b_int (by decide +kernel) (pa_cons (pe_op op_mulX (pv 6) (pv 6)) pa_nil)) pe_int))
      (pss_cons (ps_set (i := 6) sc__law_draw.nd rfl (Or.inl rfl) (pe_op op_mod (pe_callTy My.call_intI (by rfl) T.b_int (by decide +kernel) (pa_cons (pe_op op_mulX (pv 6) (pv 6)) pa_nil)) pe_int))
      (pss_one (ps_ret (pe_op op_mod (pe_callTy My.call_intI (by rfl) T.b_int (by decide +kernel) (pa_cons (pv 6) pa_nil)) (pv 1)))))))))))), ?_⟩
    obtain ⟨a, c, t, n, rfl, hs, ht, hn, hb, q⟩ := h
    refine My.r_start (σ := [some _, some _, none, none, none, none, none]) rfl ?_; walk_at "st"
    have hsrc := hs
    obtain ⟨h1, ⟨ns, h2, h3, h4, h5⟩, h6, hac⟩ := hs
    refine r_gunl (.of h1) rfl ?_
    walk_at "st"
    refine r_lenL (.of h2) ?_
    walk_at "st"
    rw [List.length_map]
    walk_at "st"
    have hm0 : 0 ≤ t % (ns.length : Int) := Int.emod_nonneg _ (by omega)
    have hm1 : t % (ns.length : Int) < (ns.length : Int) := Int.emod_lt_of_pos _ (by omega)
    obtain ⟨j, hj⟩ : ∃ j : Nat, t % (ns.length : Int) = (j : Int) := ⟨(t % (ns.length : Int)).toNat, by omega⟩
    rw [hj] at hm1 ⊢
    obtain ⟨x, hx⟩ := get_of (xs := ns) (j := j) (by omega)
    have hxb : Bd x := h5 x (List.mem_of_getElem? hx)
    refine r_ixL (.of h2) (atI_int hx) ?_
    walk_at "st"
    refine r_setL h1 (j := 1) (by rfl) ?_
    walk_at "st"
    have k1 : Keep a c H (upd H a (.lst ([V.ref c, .int t].set 1 (.int (t + 1))))) := fun b o hb1 hb2 e => by
      rw [upd_ne hb1]
      exact e
    have e1 : upd H a (.lst ([V.ref c, .int t].set 1 (.int (t + 1)))) a = some (.lst [.ref c, .int (t + 1)]) := upd_same
    have e2 : upd H a (.lst ([V.ref c, .int t].set 1 (.int (t + 1)))) c = some (.lst (ns.map V.int)) := by
      rw [upd_ne hac]
      exact h2
    refine r_dec (fun g => ?_) (fun g => ?_)
    · walk_at "st"
      refine r_div (div_bd hn hb) ?_
      walk_at "st"
      refine r_setL e2 (ixN_nat (by rw [List.length_map]; omega)) ?_
      walk_at "st"
      rw [map_set]
      refine q _ (t + 1) _ (Int.emod_nonneg _ (by omega)) (Int.emod_lt_of_pos _ hn) (fun b o hb1 hb2 e => ?_) ⟨?_, ⟨_, upd_same, by rw [List.length_set]; omega, by rw [List.length_set]; omega, fun m hm => ?_⟩, by omega, hac⟩ (by omega) (by omega)
      · rw [upd_ne hb2]
        exact k1 b o hb1 hb2 e
      · rw [upd_ne hac.symm]
        exact e1
      · rcases List.mem_or_eq_of_mem_set hm with hm | hm
        · exact h5 m hm
        · subst hm
          exact bd_le (Int.ediv_nonneg (by omega) (by omega)) (Int.ediv_le_self _ (by omega)) hxb
    · have sm1 : ∀ (z : Int) (k : Int), 0 < k → k < 2147483648 → Sm (z % k) := fun z k hk hk2 => by
        have b1 := Int.emod_nonneg z (show k ≠ 0 by omega)
        have b2 := Int.emod_lt_of_pos z hk
        exact sm_small (by omega)
      have smt : Sm t := sm_small (by
        have hB : Big = 1152921504606846976 := by decide
        omega)
      have smtt : Sm (t * t) := by
        have hB : Big = 1152921504606846976 := by decide
        have ht2 : t.natAbs < 2 ^ 64 := by omega
        exact Nat.lt_trans (wide_lt ht2 ht2) (Nat.pow_lt_pow_right (by decide) (by decide))
      walk_at "st"
      refine r_mul (mul_sm (sm1 _ _ (by decide) (by decide)) (sm_small (by decide))) ?_
      walk_at "st"
      refine r_mul (mul_sm smt smt) ?_
      walk_at "st"
      refine r_mul (mul_sm smtt (sm_small (by decide))) ?_
      walk_at "st"
      refine r_mul (mul_sm (sm1 _ _ (by decide) (by decide)) (sm1 _ _ (by decide) (by decide))) ?_
      walk_at "st"
      refine r_mul (mul_sm (sm1 _ _ (by decide) (by decide)) (sm1 _ _ (by decide) (by decide))) ?_
      walk_at "st"
      exact q _ (t + 1) _ (Int.emod_nonneg _ (by omega)) (Int.emod_lt_of_pos _ hn) k1 ⟨e1, ⟨ns, e2, h3, h4, h5⟩, by omega, hac⟩ (by omega) (by omega)

/-! ### the program's functions on classes -/
def sp_is_integer (K : PySem.W.Frag) : Sp := fun vs H Q _ => ∃ (i : Int), vs = [.int i] ∧ Q (.bl true) H
def sp_inverse (K : PySem.W.Frag) : Sp := fun vs H Q _ => ∃ (n m : Nat), vs = [.int (n : Int), .int (m : Int)] ∧ 1 ≤ m ∧ Nat.gcd n m = 1 ∧ Bd (m : Int) ∧ ∀ r H', Same H H' → 0 ≤ r → r < (m : Int) → (m : Int) ∣ (n : Int) * r - 1 → Q (.int r) H'
def sp_is_class (K : PySem.W.Frag) : Sp := fun vs H Q _ => ∃ (v : V) (m r : Nat), vs = [v] ∧ IsC K H v m r ∧ r < m ∧ Q (.bl true) H
def sp_check_class (K : PySem.W.Frag) : Sp := fun vs H Q _ => ∃ (v : V) (m r : Nat), vs = [v] ∧ IsC K H v m r ∧ r < m ∧ Q .non H
def sp_lies_in (K : PySem.W.Frag) : Sp := fun vs H Q _ => ∃ (h : Int) (v : V) (m r : Nat), vs = [.int h, v] ∧ IsC K H v m r ∧ 0 < m ∧ Q (.bl (decide (h % (m : Int) = (r : Int)))) H
def Fits (m1 r1 m2 r2 : Nat) : Prop := ((r1 : Int) - r2) % ((Nat.gcd m1 m2 : Nat) : Int) = 0
instance (m1 r1 m2 r2 : Nat) : Decidable (Fits m1 r1 m2 r2) := inferInstanceAs (Decidable (_ = _))
def sp_have_common (K : PySem.W.Frag) : Sp := fun vs H Q _ => ∃ (v1 v2 : V) (m1 r1 m2 r2 : Nat), vs = [v1, v2] ∧ IsC K H v1 m1 r1 ∧ IsC K H v2 m2 r2 ∧ 0 < m1 ∧ Q (.bl (decide (Fits m1 r1 m2 r2))) H
def sp_common_class (K : PySem.W.Frag) : Sp := fun vs H Q _ => ∃ (v1 v2 : V) (m1 r1 m2 r2 : Nat), vs = [v1, v2] ∧ IsC K H v1 m1 r1 ∧ IsC K H v2 m2 r2 ∧ CC m1 r1 ∧ CC m2 r2 ∧ ∀ v o H', Same H H' → MeetR m1 r1 m2 r2 o → OptC K H' v o → Q v H'
def sp_meet (K : PySem.W.Frag) : Sp := sp_common_class K
def sp_is_within (K : PySem.W.Frag) : Sp := fun vs H Q _ => ∃ (v1 v2 : V) (m1 r1 m2 r2 : Nat), vs = [v1, v2] ∧ IsC K H v1 m1 r1 ∧ IsC K H v2 m2 r2 ∧ r1 < m1 ∧ r2 < m2 ∧ Q (.bl (decide (m1 % m2 = 0 ∧ r1 % m2 = r2))) H
theorem cal_is_integer (T : Txt K mg)  : Cal P w K mg base 1 "is_integer" (sp_is_integer K) [] := by
  obtain ⟨f, fd, F, gF, b⟩ := T.f_is_integer
  refine My.mkCal F gF b sc_is_integer (fun vs H Q E h => ?len) (fun cdv A outer s H vs Q E hr h => ?body)
  case len => first | (obtain ⟨rfl, _⟩ := h; rfl) | (obtain ⟨_, rfl, _⟩ := h; rfl) | (obtain ⟨_, _, rfl, _⟩ := h; rfl) | (obtain ⟨_, _, _, rfl, _⟩ := h; rfl) | (obtain ⟨_, _, _, _, rfl, _⟩ := h; rfl) | (obtain ⟨_, _, _, _, _, rfl, _⟩ := h; rfl) | (obtain ⟨_, _, _, _, _, _, rfl, _⟩ := h; rfl) | (obtain ⟨_, _, _, _, _, _, _, rfl, _⟩ := h; rfl) | (obtain ⟨_, _, _, _, _, _, _, _, rfl, _⟩ := h; rfl) | (obtain ⟨_, _, _, _, _, _, _, _, _, rfl, _⟩ := h; rfl) | (obtain ⟨_, _, _, _, _, _, _, _, _, _, rfl, _⟩ := h; rfl) | (obtain ⟨_, _, _, _, _, _, _, _, _, _, _, rfl, _⟩ := h; rfl) | (obtain ⟨_, _, _, _, _, _, _, _, _, _, _, _, rfl, _⟩ := h; rfl) | (obtain ⟨_, _, _, _, _, _, _, _, _, _, _, _, _, rfl, _⟩ := h; rfl) | (obtain ⟨_, _, _, _, _, _, _, _, _, _, _, _, _, _, rfl, _⟩ := h; rfl)
  case body =>
    refine ⟨_, (pss_one (ps_ret (pe_and (pe_callB call_isi (by rfl) T.b_isinstance (by decide +kernel) (pa_cons (pv 0) (pa_cons (pe_bltn (v := .ty "int") (by rfl) T.b_int (by decide +kernel) rfl) pa_nil))) (pe_one (pe_not (pe_callB call_isi (by rfl) T.b_isinstance (by decide +kernel) (pa_cons (pv 0) (pa_cons (pe_bltn (v := .ty "bool") (by rfl) T.b_bool (by decide +kernel) rfl) pa_nil)))))))), ?_⟩
    obtain ⟨i, rfl, q⟩ := h
    refine My.r_start (σ := [some _]) rfl ?_; walk_at "st"
    refine r_isi tyx_int k_ii ?_
    walk_at "st"
    refine r_isi tyx_int k_ib ?_
    walk_at "st"
    exact q
theorem cal_inverse (T : Txt K mg)  : Cal P w K mg base 1 "inverse" (sp_inverse K) [] := by
  obtain ⟨f, fd, F, gF, b⟩ := T.f_inverse
  refine My.mkCal F gF b sc_inverse (fun vs H Q E h => ?len) (fun cdv A outer s H vs Q E hr h => ?body)
  case len => first | (obtain ⟨rfl, _⟩ := h; rfl) | (obtain ⟨_, rfl, _⟩ := h; rfl) | (obtain ⟨_, _, rfl, _⟩ := h; rfl) | (obtain ⟨_, _, _, rfl, _⟩ := h; rfl) | (obtain ⟨_, _, _, _, rfl, _⟩ := h; rfl) | (obtain ⟨_, _, _, _, _, rfl, _⟩ := h; rfl) | (obtain ⟨_, _, _, _, _, _, rfl, _⟩ := h; rfl) | (obtain ⟨_, _, _, _, _, _, _, rfl, _⟩ := h; rfl) | (obtain ⟨_, _, _, _, _, _, _, _, rfl, _⟩ := h; rfl) | (obtain ⟨_, _, _, _, _, _, _, _, _, rfl, _⟩ := h; rfl) | (obtain ⟨_, _, _, _, _, _, _, _, _, _, rfl, _⟩ := h; rfl) | (obtain ⟨_, _, _, _, _, _, _, _, _, _, _, rfl, _⟩ := h; rfl) | (obtain ⟨_, _, _, _, _, _, _, _, _, _, _, _, rfl, _⟩ := h; rfl) | (obtain ⟨_, _, _, _, _, _, _, _, _, _, _, _, _, rfl, _⟩ := h; rfl) | (obtain ⟨_, _, _, _, _, _, _, _, _, _, _, _, _, _, rfl, _⟩ := h; rfl)
  case body =>
    refine ⟨_, (pss_cons (ps_par (i := 2) (j := 3) (by rfl) sc_inverse.nd rfl rfl (by decide) rfl rfl (pa_cons (pv 1) (pa_cons (pe_op op_mod (pv 0) (pv 1)) pa_nil)) (by rfl))
      (pss_cons (ps_asg (pe_tup (pa_cons pe_int (pa_cons pe_int pa_nil))) (pg_tup (by rfl) (pgs_cons (pg_name (i := 4) sc_inverse.nd rfl (Or.inl rfl)) (pgs_cons (pg_name (i := 5) sc_inverse.nd rfl (Or.inl rfl)) pgs_nil))))
      (pss_cons (ps_while PassesOwn.never (pt_cmpR op_gt (pv 3) pe_int (nomark _))
      (pss_cons (ps_asg (pe_callB My.call_divmodB (by rfl) T.b_divmod (by decide +kernel) (pa_cons (pv 2) (pa_cons (pv 3) pa_nil))) (pg_tup (by rfl) (pgs_cons (pg_name (i := 6) sc_inverse.nd rfl (Or.inl rfl)) (pgs_cons (pg_name (i := 7) sc_inverse.nd rfl (Or.inl rfl)) pgs_nil))))
      (pss_cons (ps_par (i := 2) (j := 3) (by rfl) sc_inverse.nd rfl rfl (by decide) rfl rfl (pa_cons (pv 3) (pa_cons (pv 7) pa_nil)) (by rfl))
      (pss_one (ps_par (i := 4) (j := 5) (by rfl) sc_inverse.nd rfl rfl (by decide) rfl rfl (pa_cons (pv 5) (pa_cons (pe_op op_sub (pv 4) (pe_op op_mulX (pv 6) (pv 5))) pa_nil)) (by rfl))))))
      (pss_one (ps_ret (pe_op op_mod (pv 4) (pv 1))))))), ?_⟩
    obtain ⟨n, m, rfl, hm, hg, hb, q⟩ := h
    refine My.r_start (σ := [some _, some _, none, none, none, none, none, none]) rfl ?_; walk_at "st"
    refine r_sz (by decide) fun p0 hp0 => ?_
    walk_at "st"
    refine r_gtup (.of upd_same) rfl ?_
    walk_at "st"
    refine r_while (fun k σ' H' => ∃ (a r af rf : Int) (x y : Option V), σ' = [some (.int (n : Int)), some (.int (m : Int)), some (.int a), some (.int r), some (.int af), some (.int rf), x, y] ∧ k = r.toNat ∧ Same H H' ∧ InvW n m a r af rf) _
      ⟨(m : Int), (n : Int) % (m : Int), 0, 1, none, none, rfl, rfl, Same.new hp0, ⟨by omega, Int.le_refl _, Int.emod_nonneg _ (by omega), Int.emod_lt_of_pos _ (by omega), gcd_start hg, ⟨-1, by omega⟩, ?_, by simp⟩⟩ ?_
    · refine ⟨(n : Int) / (m : Int), ?_⟩
      have := Int.mul_ediv_add_emod (n : Int) (m : Int)
      omega
    · rintro k σ' H' ⟨a, r, af, rf, x, y, rfl, rfl, sm, I⟩
      walk_at "st"
      refine r_dec (fun g => ?_) (fun g => ?_)
      · refine r_again ?_
        walk_at "st"
        have hbr : Bd r := Nat.lt_of_le_of_lt (by have := I.r1; omega) hb
        refine ⟨div_bd g hbr, fun p hp => ?_⟩
        walk_at "st"
        refine r_gtup (.of upd_same) rfl ?_
        walk_at "st"
        have q0 : 0 ≤ a / r := Int.ediv_nonneg (by have := I.a1; omega) (by omega)
        have hq : a / r ≤ a := Int.ediv_le_self _ (by have := I.a1; omega)
        refine r_mul (mul_sm (Bd.sm (Nat.lt_of_le_of_lt (by have := I.a2; omega) hb)) (I.bd hb).sm) ?_
        walk_at "st"
        have T := I.turn g
        exact ⟨_, by have := T.r0; have := Int.emod_lt_of_pos a g; omega, _, _, _, _, _, _, rfl, rfl, sm.trans (Same.new hp), T⟩
      · walk_at "st"
        have r0 : r = 0 := by have := I.r0; omega
        subst r0
        have ha : a = 1 := by
          have := I.g
          have h1 := I.a1
          rw [Int.gcd_zero_right] at this
          omega
        refine q _ H' sm (Int.emod_nonneg _ (by omega)) (Int.emod_lt_of_pos _ (by omega)) ?_
        subst ha
        exact inv_end I.d1
theorem cal_lies_in (T : Txt K mg)  : Cal P w K mg base 1 "lies_in" (sp_lies_in K) [] := by
  obtain ⟨f, fd, F, gF, b⟩ := T.f_lies_in
  refine My.mkCal F gF b sc_lies_in (fun vs H Q E h => ?len) (fun cdv A outer s H vs Q E hr h => ?body)
  case len => first | (obtain ⟨rfl, _⟩ := h; rfl) | (obtain ⟨_, rfl, _⟩ := h; rfl) | (obtain ⟨_, _, rfl, _⟩ := h; rfl) | (obtain ⟨_, _, _, rfl, _⟩ := h; rfl) | (obtain ⟨_, _, _, _, rfl, _⟩ := h; rfl) | (obtain ⟨_, _, _, _, _, rfl, _⟩ := h; rfl) | (obtain ⟨_, _, _, _, _, _, rfl, _⟩ := h; rfl) | (obtain ⟨_, _, _, _, _, _, _, rfl, _⟩ := h; rfl) | (obtain ⟨_, _, _, _, _, _, _, _, rfl, _⟩ := h; rfl) | (obtain ⟨_, _, _, _, _, _, _, _, _, rfl, _⟩ := h; rfl) | (obtain ⟨_, _, _, _, _, _, _, _, _, _, rfl, _⟩ := h; rfl) | (obtain ⟨_, _, _, _, _, _, _, _, _, _, _, rfl, _⟩ := h; rfl) | (obtain ⟨_, _, _, _, _, _, _, _, _, _, _, _, rfl, _⟩ := h; rfl) | (obtain ⟨_, _, _, _, _, _, _, _, _, _, _, _, _, rfl, _⟩ := h; rfl) | (obtain ⟨_, _, _, _, _, _, _, _, _, _, _, _, _, _, rfl, _⟩ := h; rfl)
  case body =>
    refine ⟨_, (pss_one (ps_ret (pe_cmpR op_eq (pe_op op_mod (pv 0) (pe_ix ix_tup (pv 1) pe_int (fun _ _ => rfl))) (pe_ix ix_tup (pv 1) pe_int (fun _ _ => rfl)) (nomark _)))), ?_⟩
    obtain ⟨x, v, m, r, rfl, ⟨p, rfl, hp⟩, h0, q⟩ := h
    refine My.r_start (σ := [some _, some _]) rfl ?_; walk_at "st"
    refine r_ixT hp atI0 ?_
    walk_at "st"
    refine r_ixT hp atI1 ?_
    walk_at "st"
    exact q
theorem cal_is_class (T : Txt K mg) (c_is_integer : Cal P w K mg base 1 "is_integer" (sp_is_integer K) []) : Cal P w K mg base 2 "is_class" (sp_is_class K) [] := by
  obtain ⟨f, fd, F, gF, b⟩ := T.f_is_class
  refine My.mkCal F gF b sc_is_class (fun vs H Q E h => ?len) (fun cdv A outer s H vs Q E hr h => ?body)
  case len => first | (obtain ⟨rfl, _⟩ := h; rfl) | (obtain ⟨_, rfl, _⟩ := h; rfl) | (obtain ⟨_, _, rfl, _⟩ := h; rfl) | (obtain ⟨_, _, _, rfl, _⟩ := h; rfl) | (obtain ⟨_, _, _, _, rfl, _⟩ := h; rfl) | (obtain ⟨_, _, _, _, _, rfl, _⟩ := h; rfl) | (obtain ⟨_, _, _, _, _, _, rfl, _⟩ := h; rfl) | (obtain ⟨_, _, _, _, _, _, _, rfl, _⟩ := h; rfl) | (obtain ⟨_, _, _, _, _, _, _, _, rfl, _⟩ := h; rfl) | (obtain ⟨_, _, _, _, _, _, _, _, _, rfl, _⟩ := h; rfl) | (obtain ⟨_, _, _, _, _, _, _, _, _, _, rfl, _⟩ := h; rfl) | (obtain ⟨_, _, _, _, _, _, _, _, _, _, _, rfl, _⟩ := h; rfl) | (obtain ⟨_, _, _, _, _, _, _, _, _, _, _, _, rfl, _⟩ := h; rfl) | (obtain ⟨_, _, _, _, _, _, _, _, _, _, _, _, _, rfl, _⟩ := h; rfl) | (obtain ⟨_, _, _, _, _, _, _, _, _, _, _, _, _, _, rfl, _⟩ := h; rfl)
  case body =>
    refine ⟨_, (pss_cons (ps_if (PW.pt (pw_or (pt_not (pt_val (pe_callB call_isi (by rfl) T.b_isinstance (by decide +kernel) (pa_cons (pv 0) (pa_cons (pe_bltn (v := .ty "tuple") (by rfl) T.b_tuple (by decide +kernel) rfl) pa_nil))))) (pw_or1 (pt_cmpR op_ne (pe_callB call_len_seq (by rfl) T.b_len (by decide +kernel) (pa_cons (pv 0) pa_nil)) pe_int (nomark _)))))
      (pss_one (ps_ret pe_bl))
      pss_nil)
      (pss_cons (ps_asg (pv 0) (pg_tup (by rfl) (pgs_cons (pg_name (i := 1) sc_is_class.nd rfl (Or.inl rfl)) (pgs_cons (pg_name (i := 2) sc_is_class.nd rfl (Or.inl rfl)) pgs_nil))))
      (pss_one (ps_ret (pe_and (pe_c c_is_integer hr (by decide) (by rfl) (pa_cons (pv 1) pa_nil)) (pe_and (pe_c c_is_integer hr (by decide) (by rfl) (pa_cons (pv 2) pa_nil)) (pe_one (pe_chain op_le op_lt pe_int (pv 2) (pv 1))))))))), ?_⟩
    obtain ⟨v, m, r, rfl, ⟨p, rfl, hp⟩, h0, q⟩ := h
    refine My.r_start (σ := [some _, none, none]) rfl ?_; walk_at "st"
    refine r_isi (tyx_tup hp) k_tt ?_
    walk_at "st"
    refine r_lenT hp ?_
    walk_at "st"
    refine r_ndec (fun g => absurd rfl g) (fun _ => ?_)
    walk_at "st"
    refine r_gtup hp rfl ?_
    walk_at "st"
    refine ⟨_, rfl, ?_⟩
    walk_at "st"
    refine ⟨_, rfl, ?_⟩
    walk_at "st"
    refine r_dec (fun g => ?_) (fun g => absurd (by omega) g)
    walk_at "st"
    rw [decide_eq_true (show (r : Int) < (m : Int) by omega)]
    exact q
theorem cal_check_class (T : Txt K mg) (c_is_class : Cal P w K mg base 2 "is_class" (sp_is_class K) []) : Cal P w K mg base 3 "check_class" (sp_check_class K) [] := by
  obtain ⟨f, fd, F, gF, b⟩ := T.f_check_class
  refine My.mkCal F gF b sc_check_class (fun vs H Q E h => ?len) (fun cdv A outer s H vs Q E hr h => ?body)
  case len => first | (obtain ⟨rfl, _⟩ := h; rfl) | (obtain ⟨_, rfl, _⟩ := h; rfl) | (obtain ⟨_, _, rfl, _⟩ := h; rfl) | (obtain ⟨_, _, _, rfl, _⟩ := h; rfl) | (obtain ⟨_, _, _, _, rfl, _⟩ := h; rfl) | (obtain ⟨_, _, _, _, _, rfl, _⟩ := h; rfl) | (obtain ⟨_, _, _, _, _, _, rfl, _⟩ := h; rfl) | (obtain ⟨_, _, _, _, _, _, _, rfl, _⟩ := h; rfl) | (obtain ⟨_, _, _, _, _, _, _, _, rfl, _⟩ := h; rfl) | (obtain ⟨_, _, _, _, _, _, _, _, _, rfl, _⟩ := h; rfl) | (obtain ⟨_, _, _, _, _, _, _, _, _, _, rfl, _⟩ := h; rfl) | (obtain ⟨_, _, _, _, _, _, _, _, _, _, _, rfl, _⟩ := h; rfl) | (obtain ⟨_, _, _, _, _, _, _, _, _, _, _, _, rfl, _⟩ := h; rfl) | (obtain ⟨_, _, _, _, _, _, _, _, _, _, _, _, _, rfl, _⟩ := h; rfl) | (obtain ⟨_, _, _, _, _, _, _, _, _, _, _, _, _, _, rfl, _⟩ := h; rfl)
  case body =>
    refine ⟨_, (pss_one (ps_if (pt_not (pt_val (pe_c c_is_class hr (by decide) (by rfl) (pa_cons (pv 0) pa_nil))))
      (pss_one ps_never)
      pss_nil)), ?_⟩
    obtain ⟨v, m, r, rfl, hc, h0, q⟩ := h
    refine My.r_start (σ := [some _]) rfl ?_; walk_at "st"
    refine ⟨v, m, r, rfl, hc, h0, ?_⟩
    walk_at "st"
    exact q
theorem cal_have_common (T : Txt K mg)  : Cal P w K mg base 1 "have_common" (sp_have_common K) [] := by
  obtain ⟨f, fd, F, gF, b⟩ := T.f_have_common
  refine My.mkCal F gF b sc_have_common (fun vs H Q E h => ?len) (fun cdv A outer s H vs Q E hr h => ?body)
  case len => first | (obtain ⟨rfl, _⟩ := h; rfl) | (obtain ⟨_, rfl, _⟩ := h; rfl) | (obtain ⟨_, _, rfl, _⟩ := h; rfl) | (obtain ⟨_, _, _, rfl, _⟩ := h; rfl) | (obtain ⟨_, _, _, _, rfl, _⟩ := h; rfl) | (obtain ⟨_, _, _, _, _, rfl, _⟩ := h; rfl) | (obtain ⟨_, _, _, _, _, _, rfl, _⟩ := h; rfl) | (obtain ⟨_, _, _, _, _, _, _, rfl, _⟩ := h; rfl) | (obtain ⟨_, _, _, _, _, _, _, _, rfl, _⟩ := h; rfl) | (obtain ⟨_, _, _, _, _, _, _, _, _, rfl, _⟩ := h; rfl) | (obtain ⟨_, _, _, _, _, _, _, _, _, _, rfl, _⟩ := h; rfl) | (obtain ⟨_, _, _, _, _, _, _, _, _, _, _, rfl, _⟩ := h; rfl) | (obtain ⟨_, _, _, _, _, _, _, _, _, _, _, _, rfl, _⟩ := h; rfl) | (obtain ⟨_, _, _, _, _, _, _, _, _, _, _, _, _, rfl, _⟩ := h; rfl) | (obtain ⟨_, _, _, _, _, _, _, _, _, _, _, _, _, _, rfl, _⟩ := h; rfl)
  case body =>
    refine ⟨_, (pss_one (ps_ret (pe_cmpR op_eq (pe_op op_mod (pe_op op_sub (pe_ix ix_tup (pv 0) pe_int (fun _ _ => rfl)) (pe_ix ix_tup (pv 1) pe_int (fun _ _ => rfl))) (pe_callBfun cr_gcd (by rfl) T.v_gcd (pa_cons (pe_ix ix_tup (pv 0) pe_int (fun _ _ => rfl)) (pa_cons (pe_ix ix_tup (pv 1) pe_int (fun _ _ => rfl)) pa_nil)))) pe_int (nomark _)))), ?_⟩
    obtain ⟨v1, v2, m1, r1, m2, r2, rfl, ⟨p1, rfl, hp1⟩, ⟨p2, rfl, hp2⟩, h0, q⟩ := h
    refine My.r_start (σ := [some _, some _]) rfl ?_; walk_at "st"
    refine r_ixT hp1 atI1 ?_
    walk_at "st"
    refine r_ixT hp2 atI1 ?_
    walk_at "st"
    refine r_ixT hp1 atI0 ?_
    walk_at "st"
    refine r_ixT hp2 atI0 ?_
    walk_at "st"
    refine r_mod (by have := Nat.gcd_pos_of_pos_left m2 h0; show (0 : Int) < ((Nat.gcd m1 m2 : Nat) : Int); omega) ?_
    walk_at "st"
    exact q
theorem cal_common_class (T : Txt K mg) (c_have_common : Cal P w K mg base 1 "have_common" (sp_have_common K) []) (c_inverse : Cal P w K mg base 1 "inverse" (sp_inverse K) []) : Cal P w K mg base 2 "common_class" (sp_common_class K) [] := by
  obtain ⟨f, fd, F, gF, b⟩ := T.f_common_class
  refine My.mkCal F gF b sc_common_class (fun vs H Q E h => ?len) (fun cdv A outer s H vs Q E hr h => ?body)
  case len => first | (obtain ⟨rfl, _⟩ := h; rfl) | (obtain ⟨_, rfl, _⟩ := h; rfl) | (obtain ⟨_, _, rfl, _⟩ := h; rfl) | (obtain ⟨_, _, _, rfl, _⟩ := h; rfl) | (obtain ⟨_, _, _, _, rfl, _⟩ := h; rfl) | (obtain ⟨_, _, _, _, _, rfl, _⟩ := h; rfl) | (obtain ⟨_, _, _, _, _, _, rfl, _⟩ := h; rfl) | (obtain ⟨_, _, _, _, _, _, _, rfl, _⟩ := h; rfl) | (obtain ⟨_, _, _, _, _, _, _, _, rfl, _⟩ := h; rfl) | (obtain ⟨_, _, _, _, _, _, _, _, _, rfl, _⟩ := h; rfl) | (obtain ⟨_, _, _, _, _, _, _, _, _, _, rfl, _⟩ := h; rfl) | (obtain ⟨_, _, _, _, _, _, _, _, _, _, _, rfl, _⟩ := h; rfl) | (obtain ⟨_, _, _, _, _, _, _, _, _, _, _, _, rfl, _⟩ := h; rfl) | (obtain ⟨_, _, _, _, _, _, _, _, _, _, _, _, _, rfl, _⟩ := h; rfl) | (obtain ⟨_, _, _, _, _, _, _, _, _, _, _, _, _, _, rfl, _⟩ := h; rfl)
  case body =>
    refine ⟨_, (pss_cons (ps_if (pt_not (pt_val (pe_c c_have_common hr (by decide) (by rfl) (pa_cons (pv 0) (pa_cons (pv 1) pa_nil)))))
      (pss_one (ps_ret pe_non))
      pss_nil)
      (pss_cons (ps_asg (pv 0) (pg_tup (by rfl) (pgs_cons (pg_name (i := 2) sc_common_class.nd rfl (Or.inl rfl)) (pgs_cons (pg_name (i := 3) sc_common_class.nd rfl (Or.inl rfl)) pgs_nil))))
      (pss_cons (ps_set (i := 4) sc_common_class.nd rfl (Or.inl rfl) (pe_callBfun cr_gcd (by rfl) T.v_gcd (pa_cons (pv 2) (pa_cons (pe_ix ix_tup (pv 1) pe_int (fun _ _ => rfl)) pa_nil))))
      (pss_cons (ps_set (i := 5) sc_common_class.nd rfl (Or.inl rfl) (pe_op op_fdivW (pe_ix ix_tup (pv 1) pe_int (fun _ _ => rfl)) (pv 4)))
      (pss_cons (ps_set (i := 6) sc_common_class.nd rfl (Or.inl rfl) (pe_op op_mod (pe_op op_mulX (pe_op op_fdivW (pe_op op_sub (pe_ix ix_tup (pv 1) pe_int (fun _ _ => rfl)) (pv 3)) (pv 4)) (pe_c c_inverse hr (by decide) (by rfl) (pa_cons (pe_op op_fdivW (pv 2) (pv 4)) (pa_cons (pv 5) pa_nil)))) (pv 5)))
      (pss_one (ps_ret (pe_tup (pa_cons (pe_op op_mulX (pv 2) (pv 5)) (pa_cons (pe_op op_add (pv 3) (pe_op op_mulX (pv 2) (pv 6))) pa_nil)))))))))), ?_⟩
    obtain ⟨v1, v2, m1, r1, m2, r2, rfl, hc1, hc2, ⟨l1, b1⟩, ⟨l2, b2⟩, q⟩ := h
    refine My.r_start (σ := [some _, some _, none, none, none, none, none]) rfl ?_; walk_at "st"
    have p1 : 0 < m1 := by omega
    have p2 : 0 < m2 := by omega
    refine ⟨v1, v2, m1, r1, m2, r2, rfl, hc1, hc2, p1, ?_⟩
    walk_at "st"
    refine r_ndec (fun g => ?_) (fun g => ?_)
    · walk_at "st"
      exact q .non none H (Same.refl H) g rfl
    · walk_at "st"
      obtain ⟨a1, rfl, hp1⟩ := hc1
      obtain ⟨a2, rfl, hp2⟩ := hc2
      refine r_gtup hp1 rfl ?_
      walk_at "st"
      refine r_ixT hp2 atI0 ?_
      walk_at "st"
      refine r_ixT hp2 atI0 ?_
      walk_at "st"
      have gp : 0 < Nat.gcd m1 m2 := Nat.gcd_pos_of_pos_left _ p1
      have gb : Bd ((Nat.gcd m1 m2 : Nat) : Int) := bd_nat (Nat.gcd_le_left m2 p1) b1
      refine r_div (div_bd (by show (0 : Int) < ((Nat.gcd m1 m2 : Nat) : Int); omega) gb) ?_
      walk_at "st"
      refine r_ixT hp2 atI1 ?_
      walk_at "st"
      refine r_div (div_bd (by show (0 : Int) < ((Nat.gcd m1 m2 : Nat) : Int); omega) gb) ?_
      walk_at "st"
      refine r_div (div_bd (by show (0 : Int) < ((Nat.gcd m1 m2 : Nat) : Int); omega) gb) ?_
      walk_at "st"
      have ef : (m2 : Int) / ((Nat.gcd m1 m2 : Nat) : Int) = ((m2 / Nat.gcd m1 m2 : Nat) : Int) := (Int.natCast_ediv _ _).symm
      have ea : (m1 : Int) / ((Nat.gcd m1 m2 : Nat) : Int) = ((m1 / Nat.gcd m1 m2 : Nat) : Int) := (Int.natCast_ediv _ _).symm
      have fp : 0 < m2 / Nat.gcd m1 m2 := Nat.div_pos (Nat.le_of_dvd p2 (Nat.gcd_dvd_right m1 m2)) gp
      have fb : Bd ((m2 / Nat.gcd m1 m2 : Nat) : Int) := bd_nat (Nat.div_le_self _ _) b2
      rw [ef, ea]
      refine ⟨m1 / Nat.gcd m1 m2, m2 / Nat.gcd m1 m2, rfl, by omega, cop_div p1, fb, fun inv H1 sm i0 i1 id => ?_⟩
      obtain ⟨x, hx, M⟩ := met_mk p1 p2 l1 l2 g id
      have sr : Sm (((r2 : Int) - r1) / ((Nat.gcd m1 m2 : Nat) : Int)) := by
        have h1 : ((((r2 : Int) - r1) / ((Nat.gcd m1 m2 : Nat) : Int)).natAbs) ≤ ((r2 : Int) - r1).natAbs := Int.natAbs_ediv_le_natAbs _ _
        have b1' : m1 < 2 ^ 4000 := b1
        have b2' : m2 < 2 ^ 4000 := b2
        generalize 2 ^ 4000 = B at b1' b2'
        have h3 : ((r2 : Int) - r1).natAbs ≤ m1 ∨ ((r2 : Int) - r1).natAbs ≤ m2 := by omega
        rcases h3 with h3 | h3
        · exact Bd.sm (Nat.lt_of_le_of_lt (show _ ≤ ((m1 : Int)).natAbs by omega) b1)
        · exact Bd.sm (Nat.lt_of_le_of_lt (show _ ≤ ((m2 : Int)).natAbs by omega) b2)
      refine r_mul (mul_sm sr (Bd.sm (bd_le i0 (Int.le_of_lt i1) fb))) ?_
      walk_at "st"
      refine r_mul (mul_sm b1.sm fb.sm) ?_
      walk_at "st"
      refine r_mul (mul_sm b1.sm (Bd.sm (bd_le (Int.emod_nonneg _ (by omega)) (Int.le_of_lt (Int.emod_lt_of_pos _ (by omega))) fb))) ?_
      walk_at "st"
      rw [hx]
      refine r_sz (Nat.le_of_ble_eq_true rfl) fun p hp => ?_
      refine q (.ref p) (some _) _ (sm.trans (Same.new hp)) M ⟨p, rfl, ?_⟩
      rw [Int.natCast_mul]
      exact .of upd_same
theorem cal_meet (T : Txt K mg) (c_check_class : Cal P w K mg base 3 "check_class" (sp_check_class K) []) (c_common_class : Cal P w K mg base 2 "common_class" (sp_common_class K) []) : Cal P w K mg base 4 "meet" (sp_meet K) [] := by
  obtain ⟨f, fd, F, gF, b⟩ := T.f_meet
  refine My.mkCal F gF b sc_meet (fun vs H Q E h => ?len) (fun cdv A outer s H vs Q E hr h => ?body)
  case len => first | (obtain ⟨rfl, _⟩ := h; rfl) | (obtain ⟨_, rfl, _⟩ := h; rfl) | (obtain ⟨_, _, rfl, _⟩ := h; rfl) | (obtain ⟨_, _, _, rfl, _⟩ := h; rfl) | (obtain ⟨_, _, _, _, rfl, _⟩ := h; rfl) | (obtain ⟨_, _, _, _, _, rfl, _⟩ := h; rfl) | (obtain ⟨_, _, _, _, _, _, rfl, _⟩ := h; rfl) | (obtain ⟨_, _, _, _, _, _, _, rfl, _⟩ := h; rfl) | (obtain ⟨_, _, _, _, _, _, _, _, rfl, _⟩ := h; rfl) | (obtain ⟨_, _, _, _, _, _, _, _, _, rfl, _⟩ := h; rfl) | (obtain ⟨_, _, _, _, _, _, _, _, _, _, rfl, _⟩ := h; rfl) | (obtain ⟨_, _, _, _, _, _, _, _, _, _, _, rfl, _⟩ := h; rfl) | (obtain ⟨_, _, _, _, _, _, _, _, _, _, _, _, rfl, _⟩ := h; rfl) | (obtain ⟨_, _, _, _, _, _, _, _, _, _, _, _, _, rfl, _⟩ := h; rfl) | (obtain ⟨_, _, _, _, _, _, _, _, _, _, _, _, _, _, rfl, _⟩ := h; rfl)
  case body =>
    refine ⟨_, (pss_cons (ps_expr (pe_c c_check_class hr (by decide) (by rfl) (pa_cons (pv 0) pa_nil)))
      (pss_cons (ps_expr (pe_c c_check_class hr (by decide) (by rfl) (pa_cons (pv 1) pa_nil)))
      (pss_one (ps_ret (pe_c c_common_class hr (by decide) (by rfl) (pa_cons (pv 0) (pa_cons (pv 1) pa_nil))))))), ?_⟩
    obtain ⟨v1, v2, m1, r1, m2, r2, rfl, hc1, hc2, c1, c2, q⟩ := h
    refine My.r_start (σ := [some _, some _]) rfl ?_; walk_at "st"
    refine ⟨v1, m1, r1, rfl, hc1, c1.1, ?_⟩
    walk_at "st"
    refine ⟨v2, m2, r2, rfl, hc2, c2.1, ?_⟩
    walk_at "st"
    exact ⟨v1, v2, m1, r1, m2, r2, rfl, hc1, hc2, c1, c2, q⟩
theorem cal_is_within (T : Txt K mg) (c_check_class : Cal P w K mg base 3 "check_class" (sp_check_class K) []) (c_lies_in : Cal P w K mg base 1 "lies_in" (sp_lies_in K) []) : Cal P w K mg base 4 "is_within" (sp_is_within K) [] := by
  obtain ⟨f, fd, F, gF, b⟩ := T.f_is_within
  refine My.mkCal F gF b sc_is_within (fun vs H Q E h => ?len) (fun cdv A outer s H vs Q E hr h => ?body)
  case len => first | (obtain ⟨rfl, _⟩ := h; rfl) | (obtain ⟨_, rfl, _⟩ := h; rfl) | (obtain ⟨_, _, rfl, _⟩ := h; rfl) | (obtain ⟨_, _, _, rfl, _⟩ := h; rfl) | (obtain ⟨_, _, _, _, rfl, _⟩ := h; rfl) | (obtain ⟨_, _, _, _, _, rfl, _⟩ := h; rfl) | (obtain ⟨_, _, _, _, _, _, rfl, _⟩ := h; rfl) | (obtain ⟨_, _, _, _, _, _, _, rfl, _⟩ := h; rfl) | (obtain ⟨_, _, _, _, _, _, _, _, rfl, _⟩ := h; rfl) | (obtain ⟨_, _, _, _, _, _, _, _, _, rfl, _⟩ := h; rfl) | (obtain ⟨_, _, _, _, _, _, _, _, _, _, rfl, _⟩ := h; rfl) | (obtain ⟨_, _, _, _, _, _, _, _, _, _, _, rfl, _⟩ := h; rfl) | (obtain ⟨_, _, _, _, _, _, _, _, _, _, _, _, rfl, _⟩ := h; rfl) | (obtain ⟨_, _, _, _, _, _, _, _, _, _, _, _, _, rfl, _⟩ := h; rfl) | (obtain ⟨_, _, _, _, _, _, _, _, _, _, _, _, _, _, rfl, _⟩ := h; rfl)
  case body =>
    refine ⟨_, (pss_cons (ps_expr (pe_c c_check_class hr (by decide) (by rfl) (pa_cons (pv 0) pa_nil)))
      (pss_cons (ps_expr (pe_c c_check_class hr (by decide) (by rfl) (pa_cons (pv 1) pa_nil)))
      (pss_one (ps_ret (pe_and (pe_cmpR op_eq (pe_op op_mod (pe_ix ix_tup (pv 0) pe_int (fun _ _ => rfl)) (pe_ix ix_tup (pv 1) pe_int (fun _ _ => rfl))) pe_int (nomark _)) (pe_one (pe_c c_lies_in hr (by decide) (by rfl) (pa_cons (pe_ix ix_tup (pv 0) pe_int (fun _ _ => rfl)) (pa_cons (pv 1) pa_nil))))))))), ?_⟩
    obtain ⟨v1, v2, m1, r1, m2, r2, rfl, hc1, hc2, l1, l2, q⟩ := h
    refine My.r_start (σ := [some _, some _]) rfl ?_; walk_at "st"
    refine ⟨v1, m1, r1, rfl, hc1, l1, ?_⟩
    walk_at "st"
    refine ⟨v2, m2, r2, rfl, hc2, l2, ?_⟩
    walk_at "st"
    obtain ⟨a1, rfl, hp1⟩ := hc1
    refine r_ixT hp1 atI0 ?_
    walk_at "st"
    obtain ⟨a2, rfl, hp2⟩ := id hc2
    refine r_ixT hp2 atI0 ?_
    walk_at "st"
    have e1 : (m1 : Int) % (m2 : Int) = ((m1 % m2 : Nat) : Int) := (Int.natCast_emod m1 m2).symm
    have e2 : (r1 : Int) % (m2 : Int) = ((r1 % m2 : Nat) : Int) := (Int.natCast_emod r1 m2).symm
    rw [e1]
    refine r_dec (fun g => ?_) (fun g => ?_)
    · walk_at "st"
      refine r_ixT hp1 atI1 ?_
      walk_at "st"
      refine ⟨(r1 : Int), _, m2, r2, rfl, hc2, by omega, ?_⟩
      rw [e2, show decide (((r1 % m2 : Nat) : Int) = (r2 : Int)) = decide (m1 % m2 = 0 ∧ r1 % m2 = r2) from decide_eq_decide.mpr ⟨fun e => ⟨by omega, by omega⟩, fun e => by omega⟩]
      exact q
    · rw [show decide (m1 % m2 = 0 ∧ r1 % m2 = r2) = false from decide_eq_false fun e => g (by omega)] at q
      exact q

/-! ### the law's own helpers -/
def E30 : Nat := 1000000000000000000000000000000
theorem bd_e30 {m : Nat} (h : m ≤ E30) : Bd (m : Int) := by
  have h2 : E30 < 2 ^ 4000 := by decide +kernel
  exact Nat.lt_of_le_of_lt (show ((m : Int)).natAbs ≤ E30 by omega) h2
theorem ten_bd {n d : Nat} (h : n < 10 ^ d) (hd : d ≤ 1000) : Bd (n : Int) := by
  have h1 : (10 : Nat) ^ d ≤ 10 ^ 1000 := Nat.pow_le_pow_right (by decide) hd
  have h2 : (10 : Nat) ^ 1000 < 2 ^ 4000 := by decide +kernel
  exact Nat.lt_trans (show ((n : Int)).natAbs < 10 ^ d by omega) (Nat.lt_of_le_of_lt h1 h2)
def sp__law_divisor (K : PySem.W.Frag) : Sp := fun vs H Q _ => ∃ (a b : Nat), vs = [.int (a : Int), .int (b : Int)] ∧ Q (.int ((Nat.gcd a b : Nat) : Int)) H
def sp__law_great (K : PySem.W.Frag) : Sp := fun vs H Q _ => ∃ (a c : Addr) (t : Int) (d : Nat), vs = [.ref a, .int (d : Int)] ∧ Src H a c t ∧ t + d ≤ Big ∧ d ≤ 1000 ∧ ∀ (r : Nat) t' H', r < 10 ^ d → Keep a c H H' → Src H' a c t' → t ≤ t' → t' ≤ t + d → Q (.int (r : Int)) H'
def sp__law_modulus (K : PySem.W.Frag) : Sp := fun vs H Q _ => ∃ (a c : Addr) (t : Int), vs = [.ref a] ∧ Src H a c t ∧ t + 40 ≤ Big ∧ ∀ (m : Nat) t' H', 0 < m → m ≤ E30 → Keep a c H H' → Src H' a c t' → t ≤ t' → t' ≤ t + 40 → Q (.int (m : Int)) H'
def sp__law_class (K : PySem.W.Frag) : Sp := fun vs H Q _ => ∃ (a c : Addr) (t k : Int), vs = [.ref a, .int k] ∧ Src H a c t ∧ t + 100 ≤ Big ∧ ∀ v (m r : Nat) t' H', r < m → m ≤ E30 → Keep a c H H' → Src H' a c t' → IsC K H' v m r → t ≤ t' → t' ≤ t + 100 → Q v H'
def sp__law_lies (K : PySem.W.Frag) : Sp := fun vs H Q _ => ∃ (h : Int) (v : V) (m r : Nat), vs = [.int h, v] ∧ IsC K H v m r ∧ 0 < m ∧ Q (.bl (decide (h % (m : Int) = (r : Int)))) H
theorem cal__law_divisor (T : Txt K mg)  : Cal P w K mg base 1 "_law_divisor" (sp__law_divisor K) [] := by
  obtain ⟨f, fd, F, gF, b⟩ := T.f__law_divisor
  refine My.mkCal F gF b sc__law_divisor (fun vs H Q E h => ?len) (fun cdv A outer s H vs Q E hr h => ?body)
  case len => first | (obtain ⟨rfl, _⟩ := h; rfl) | (obtain ⟨_, rfl, _⟩ := h; rfl) | (obtain ⟨_, _, rfl, _⟩ := h; rfl) | (obtain ⟨_, _, _, rfl, _⟩ := h; rfl) | (obtain ⟨_, _, _, _, rfl, _⟩ := h; rfl) | (obtain ⟨_, _, _, _, _, rfl, _⟩ := h; rfl) | (obtain ⟨_, _, _, _, _, _, rfl, _⟩ := h; rfl) | (obtain ⟨_, _, _, _, _, _, _, rfl, _⟩ := h; rfl) | (obtain ⟨_, _, _, _, _, _, _, _, rfl, _⟩ := h; rfl) | (obtain ⟨_, _, _, _, _, _, _, _, _, rfl, _⟩ := h; rfl) | (obtain ⟨_, _, _, _, _, _, _, _, _, _, rfl, _⟩ := h; rfl) | (obtain ⟨_, _, _, _, _, _, _, _, _, _, _, rfl, _⟩ := h; rfl) | (obtain ⟨_, _, _, _, _, _, _, _, _, _, _, _, rfl, _⟩ := h; rfl) | (obtain ⟨_, _, _, _, _, _, _, _, _, _, _, _, _, rfl, _⟩ := h; rfl) | (obtain ⟨_, _, _, _, _, _, _, _, _, _, _, _, _, _, rfl, _⟩ := h; rfl)
  case body =>
    refine ⟨_, (pss_cons (ps_while PassesOwn.never (pt_cmpR op_ne (pv 1) pe_int (nomark _))
      (pss_one (ps_par (i := 0) (j := 1) (by rfl) sc__law_divisor.nd rfl rfl (by decide) rfl rfl (pa_cons (pv 1) (pa_cons (pe_op op_mod (pe_callTy My.call_intI (by rfl) T.b_int (by decide +kernel) (pa_cons (pv 0) pa_nil)) (pv 1)) pa_nil)) (by rfl))))
      (pss_one (ps_ret (pv 0)))), ?_⟩
    obtain ⟨a, b0, rfl, q⟩ := h
    refine My.r_start (σ := [some _, some _]) rfl ?_; walk_at "st"
    refine r_while (fun k σ' H' => ∃ (x y : Nat), σ' = [some (.int (x : Int)), some (.int (y : Int))] ∧ k = y ∧ H' = H ∧ Nat.gcd x y = Nat.gcd a b0) _ ⟨a, b0, rfl, rfl, rfl, rfl⟩ ?_
    rintro k σ' H' ⟨x, y, rfl, rfl, rfl, hg⟩
    walk_at "st"
    refine r_ndec (fun g => ?_) (fun g => ?_)
    · refine r_again ?_
      walk_at "st"
      refine ⟨x % k, Nat.mod_lt _ (by omega), k, x % k, ?_, rfl, rfl, ?_⟩
      · rw [Int.natCast_emod]
      · rw [← hg, Nat.gcd_comm k, ← Nat.gcd_rec, Nat.gcd_comm]
    · walk_at "st"
      have e : k = 0 := by omega
      subst e
      rw [Nat.gcd_zero_right] at hg
      rw [hg]
      exact q
theorem cal__law_great (T : Txt K mg) (c__law_draw : Cal P w K mg base 1 "_law_draw" (sp__law_draw K) []) : Cal P w K mg base 2 "_law_great" (sp__law_great K) [] := by
  obtain ⟨f, fd, F, gF, b⟩ := T.f__law_great
  refine My.mkCal F gF b sc__law_great (fun vs H Q E h => ?len) (fun cdv A outer s H vs Q E hr h => ?body)
  case len => first | (obtain ⟨rfl, _⟩ := h; rfl) | (obtain ⟨_, rfl, _⟩ := h; rfl) | (obtain ⟨_, _, rfl, _⟩ := h; rfl) | (obtain ⟨_, _, _, rfl, _⟩ := h; rfl) | (obtain ⟨_, _, _, _, rfl, _⟩ := h; rfl) | (obtain ⟨_, _, _, _, _, rfl, _⟩ := h; rfl) | (obtain ⟨_, _, _, _, _, _, rfl, _⟩ := h; rfl) | (obtain ⟨_, _, _, _, _, _, _, rfl, _⟩ := h; rfl) | (obtain ⟨_, _, _, _, _, _, _, _, rfl, _⟩ := h; rfl) | (obtain ⟨_, _, _, _, _, _, _, _, _, rfl, _⟩ := h; rfl) | (obtain ⟨_, _, _, _, _, _, _, _, _, _, rfl, _⟩ := h; rfl) | (obtain ⟨_, _, _, _, _, _, _, _, _, _, _, rfl, _⟩ := h; rfl) | (obtain ⟨_, _, _, _, _, _, _, _, _, _, _, _, rfl, _⟩ := h; rfl) | (obtain ⟨_, _, _, _, _, _, _, _, _, _, _, _, _, rfl, _⟩ := h; rfl) | (obtain ⟨_, _, _, _, _, _, _, _, _, _, _, _, _, _, rfl, _⟩ := h; rfl)
  case body =>
    refine ⟨_, (pss_cons (ps_set (i := 2) sc__law_great.nd rfl (Or.inl rfl) pe_int)
      (pss_cons (ps_for PassesOwn.never rfl (pi_range1 (by rfl) T.b_range (pa_cons (pv 1) pa_nil)) (pg_name (i := 3) sc__law_great.nd rfl (Or.inl rfl))
      (pss_one (ps_set (i := 2) sc__law_great.nd rfl (Or.inl rfl) (pe_op op_add (pe_op op_mulX (pv 2) pe_int) (pe_c c__law_draw hr (by decide) (by rfl) (pa_cons (pv 0) (pa_cons pe_int pa_nil)))))))
      (pss_one (ps_ret (pv 2))))), ?_⟩
    obtain ⟨a, c, t, d, rfl, hs, ht, hd, q⟩ := h
    refine My.r_start (σ := [some _, some _, none, none]) rfl ?_; walk_at "st"
    refine r_rgL d rfl (by omega) ?_
    refine loop_range (fun i σ' H' => ∃ (v : Option V) (n : Nat) (t' : Int), σ' = [some (.ref a), some (.int (d : Int)), some (.int (n : Int)), v] ∧ n < 10 ^ i ∧ Keep a c H H' ∧ Src H' a c t' ∧ t ≤ t' ∧ t' ≤ t + i) ?_ ?_ ?_
    · exact ⟨none, 0, t, rfl, by decide, Keep.refl a c H, hs, by omega, by omega⟩
    · rintro i σ' H' hi ⟨v, n, t', rfl, hn, hk, hs', t1, t2⟩
      walk_at "st"
      refine r_mul (mul_sm (ten_bd hn (by omega)).sm (sm_small (by decide))) ?_
      walk_at "st"
      refine ⟨a, c, t', 10, rfl, hs', by omega, by decide, bd_small (by decide), fun r t'' H'' r0 r1 hk2 hs2 t3 t4 => ?_⟩
      walk_at "st"
      refine ⟨some (.int (i : Int)), n * 10 + r.toNat, t'', ?_, ?_, hk.trans hk2, hs2, by omega, by omega⟩
      · rw [show (n : Int) * 10 + r = ((n * 10 + r.toNat : Nat) : Int) by omega]
      · rw [Nat.pow_succ]
        omega
    · rintro σ' H' ⟨v, n, t', rfl, hn, hk, hs', t1, t2⟩
      walk_at "st"
      exact q n t' H' hn hk hs' t1 t2
theorem cal__law_modulus (T : Txt K mg) (c__law_draw : Cal P w K mg base 1 "_law_draw" (sp__law_draw K) []) (c__law_great : Cal P w K mg base 2 "_law_great" (sp__law_great K) []) : Cal P w K mg base 3 "_law_modulus" (sp__law_modulus K) [] := by
  obtain ⟨f, fd, F, gF, b⟩ := T.f__law_modulus
  refine My.mkCal F gF b sc__law_modulus (fun vs H Q E h => ?len) (fun cdv A outer s H vs Q E hr h => ?body)
  case len => first | (obtain ⟨rfl, _⟩ := h; rfl) | (obtain ⟨_, rfl, _⟩ := h; rfl) | (obtain ⟨_, _, rfl, _⟩ := h; rfl) | (obtain ⟨_, _, _, rfl, _⟩ := h; rfl) | (obtain ⟨_, _, _, _, rfl, _⟩ := h; rfl) | (obtain ⟨_, _, _, _, _, rfl, _⟩ := h; rfl) | (obtain ⟨_, _, _, _, _, _, rfl, _⟩ := h; rfl) | (obtain ⟨_, _, _, _, _, _, _, rfl, _⟩ := h; rfl) | (obtain ⟨_, _, _, _, _, _, _, _, rfl, _⟩ := h; rfl) | (obtain ⟨_, _, _, _, _, _, _, _, _, rfl, _⟩ := h; rfl) | (obtain ⟨_, _, _, _, _, _, _, _, _, _, rfl, _⟩ := h; rfl) | (obtain ⟨_, _, _, _, _, _, _, _, _, _, _, rfl, _⟩ := h; rfl) | (obtain ⟨_, _, _, _, _, _, _, _, _, _, _, _, rfl, _⟩ := h; rfl) | (obtain ⟨_, _, _, _, _, _, _, _, _, _, _, _, _, rfl, _⟩ := h; rfl) | (obtain ⟨_, _, _, _, _, _, _, _, _, _, _, _, _, _, rfl, _⟩ := h; rfl)
  case body =>
    refine ⟨_, (pss_cons (ps_set (i := 1) sc__law_modulus.nd rfl (Or.inl rfl) (pe_c c__law_draw hr (by decide) (by rfl) (pa_cons (pv 0) (pa_cons pe_int pa_nil))))
      (pss_cons (ps_if (pt_cmpR op_lt (pv 1) pe_int (nomark _))
      (pss_one (ps_ret (pe_op op_add pe_int (pe_c c__law_draw hr (by decide) (by rfl) (pa_cons (pv 0) (pa_cons pe_int pa_nil))))))
      pss_nil)
      (pss_cons (ps_if (pt_cmpR op_eq (pv 1) pe_int (nomark _))
      (pss_one (ps_ret (pe_op op_add pe_int (pe_c c__law_draw hr (by decide) (by rfl) (pa_cons (pv 0) (pa_cons pe_int pa_nil))))))
      pss_nil)
      (pss_cons (ps_if (pt_cmpR op_eq (pv 1) pe_int (nomark _))
      (pss_one (ps_ret (pe_op op_sub (pe_op My.op_powW pe_int pe_int) (pe_c c__law_draw hr (by decide) (by rfl) (pa_cons (pv 0) (pa_cons pe_int pa_nil))))))
      pss_nil)
      (pss_one (ps_ret (pe_op op_add pe_int (pe_c c__law_great hr (by decide) (by rfl) (pa_cons (pv 0) (pa_cons (pe_op op_add pe_int (pe_c c__law_draw hr (by decide) (by rfl) (pa_cons (pv 0) (pa_cons pe_int pa_nil)))) pa_nil)))))))))), ?_⟩
    obtain ⟨a, c, t, rfl, hs, ht, q⟩ := h
    refine My.r_start (σ := [some _, none]) rfl ?_; walk_at "st"
    refine ⟨a, c, t, 6, rfl, hs, by omega, by decide, bd_small (by decide), fun w1 t1 H1 w0 w6 k1 s1 a1 b1 => ?_⟩
    walk_at "st"
    refine r_dec (fun g => ?_) (fun g => ?_)
    · walk_at "st"
      refine ⟨a, c, t1, 12, rfl, s1, by omega, by decide, bd_small (by decide), fun r t2 H2 r0 r1 k2 s2 a2 b2 => ?_⟩
      walk_at "st"
      rw [show (1 : Int) + r = ((1 + r.toNat : Nat) : Int) by omega]
      exact q _ t2 H2 (by omega) (by show _ ≤ 1000000000000000000000000000000; omega) (k1.trans k2) s2 (by omega) (by omega)
    · walk_at "st"
      refine r_dec (fun g => ?_) (fun g => ?_)
      · walk_at "st"
        refine ⟨a, c, t1, 1000, rfl, s1, by omega, by decide, bd_small (by decide), fun r t2 H2 r0 r1 k2 s2 a2 b2 => ?_⟩
        walk_at "st"
        rw [show (1 : Int) + r = ((1 + r.toNat : Nat) : Int) by omega]
        exact q _ t2 H2 (by omega) (by show _ ≤ 1000000000000000000000000000000; omega) (k1.trans k2) s2 (by omega) (by omega)
      · walk_at "st"
        refine r_dec (fun g => ?_) (fun g => ?_)
        · walk_at "st"
          refine ⟨a, c, t1, 40, rfl, s1, by omega, by decide, bd_small (by decide), fun r t2 H2 r0 r1 k2 s2 a2 b2 => ?_⟩
          walk_at "st"
          rw [show (1000000000000000000000000000000 : Int) - r = ((1000000000000000000000000000000 - r.toNat : Nat) : Int) by omega]
          exact q _ t2 H2 (by omega) (by show _ ≤ 1000000000000000000000000000000; omega) (k1.trans k2) s2 (by omega) (by omega)
        · walk_at "st"
          refine ⟨a, c, t1, 29, rfl, s1, by omega, by decide, bd_small (by decide), fun r t2 H2 r0 r1 k2 s2 a2 b2 => ?_⟩
          walk_at "st"
          rw [show (1 : Int) + r = ((1 + r.toNat : Nat) : Int) by omega]
          refine ⟨a, c, t2, 1 + r.toNat, rfl, s2, by omega, by omega, fun n t3 H3 hn k3 s3 a3 b3 => ?_⟩
          walk_at "st"
          rw [show (1 : Int) + (n : Int) = ((1 + n : Nat) : Int) by omega]
          have hp : (10 : Nat) ^ (1 + r.toNat) ≤ 10 ^ 29 := Nat.pow_le_pow_right (by decide) (by omega)
          have h29 : (10 : Nat) ^ 29 = 100000000000000000000000000000 := by decide +kernel
          exact q _ t3 H3 (by omega) (by show _ ≤ 1000000000000000000000000000000; omega) ((k1.trans k2).trans k3) s3 (by omega) (by omega)
theorem cal__law_class (T : Txt K mg) (c__law_modulus : Cal P w K mg base 3 "_law_modulus" (sp__law_modulus K) []) (c__law_draw : Cal P w K mg base 1 "_law_draw" (sp__law_draw K) []) (c__law_great : Cal P w K mg base 2 "_law_great" (sp__law_great K) []) : Cal P w K mg base 4 "_law_class" (sp__law_class K) [] := by
  obtain ⟨f, fd, F, gF, b⟩ := T.f__law_class
  refine My.mkCal F gF b sc__law_class (fun vs H Q E h => ?len) (fun cdv A outer s H vs Q E hr h => ?body)
  case len => first | (obtain ⟨rfl, _⟩ := h; rfl) | (obtain ⟨_, rfl, _⟩ := h; rfl) | (obtain ⟨_, _, rfl, _⟩ := h; rfl) | (obtain ⟨_, _, _, rfl, _⟩ := h; rfl) | (obtain ⟨_, _, _, _, rfl, _⟩ := h; rfl) | (obtain ⟨_, _, _, _, _, rfl, _⟩ := h; rfl) | (obtain ⟨_, _, _, _, _, _, rfl, _⟩ := h; rfl) | (obtain ⟨_, _, _, _, _, _, _, rfl, _⟩ := h; rfl) | (obtain ⟨_, _, _, _, _, _, _, _, rfl, _⟩ := h; rfl) | (obtain ⟨_, _, _, _, _, _, _, _, _, rfl, _⟩ := h; rfl) | (obtain ⟨_, _, _, _, _, _, _, _, _, _, rfl, _⟩ := h; rfl) | (obtain ⟨_, _, _, _, _, _, _, _, _, _, _, rfl, _⟩ := h; rfl) | (obtain ⟨_, _, _, _, _, _, _, _, _, _, _, _, rfl, _⟩ := h; rfl) | (obtain ⟨_, _, _, _, _, _, _, _, _, _, _, _, _, rfl, _⟩ := h; rfl) | (obtain ⟨_, _, _, _, _, _, _, _, _, _, _, _, _, _, rfl, _⟩ := h; rfl)
  case body =>
    refine ⟨_, (pss_cons (ps_set (i := 2) sc__law_class.nd rfl (Or.inl rfl) (pe_c c__law_modulus hr (by decide) (by rfl) (pa_cons (pv 0) pa_nil)))
      (pss_cons (ps_if (pt_cmpR op_eq (pe_c c__law_draw hr (by decide) (by rfl) (pa_cons (pv 0) (pa_cons pe_int pa_nil))) pe_int (nomark _))
      (pss_one (ps_ret (pe_tup (pa_cons (pv 2) (pa_cons (pe_op op_mod (pe_callTy My.call_intI (by rfl) T.b_int (by decide +kernel) (pa_cons (pe_c c__law_great hr (by decide) (by rfl) (pa_cons (pv 0) (pa_cons pe_int pa_nil))) pa_nil)) (pv 2)) pa_nil)))))
      pss_nil)
      (pss_one (ps_ret (pe_tup (pa_cons (pv 2) (pa_cons (pe_op op_mod (pe_callTy My.call_intI (by rfl) T.b_int (by decide +kernel) (pa_cons (pv 1) pa_nil)) (pv 2)) pa_nil))))))), ?_⟩
    obtain ⟨a, c, t, k, rfl, hs, ht, q⟩ := h
    refine My.r_start (σ := [some _, some _, none]) rfl ?_; walk_at "st"
    refine ⟨a, c, t, rfl, hs, by omega, fun m t1 H1 m0 m1 k1 s1 a1 b1 => ?_⟩
    walk_at "st"
    refine ⟨a, c, t1, 3, rfl, s1, by omega, by decide, bd_small (by decide), fun w t2 H2 w0 w1 k2 s2 a2 b2 => ?_⟩
    walk_at "st"
    have fin : ∀ (z : Int) (t' : Int) (H' : Hp), Keep a c H H' → Src H' a c t' → t ≤ t' → t' ≤ t + 100 → ∀ p, H' p = none → Q (.ref p) (upd H' p (.tup [.int (m : Int), .int (z % (m : Int))])) := by
      intro z t' H' kk ss aa bb p hp
      have z0 := Int.emod_nonneg z (show (m : Int) ≠ 0 by omega)
      have z1 := Int.emod_lt_of_pos z (show (0 : Int) < (m : Int) by omega)
      refine q (.ref p) m (z % (m : Int)).toNat t' _ (by omega) m1 (kk.trans (same_keep (Same.new hp))) (ss.new hp) ⟨p, rfl, ?_⟩ aa bb
      rw [show (((z % (m : Int)).toNat : Nat) : Int) = z % (m : Int) by omega]
      exact .of upd_same
    refine r_dec (fun g => ?_) (fun g => ?_)
    · walk_at "st"
      refine ⟨a, c, t2, 30, rfl, s2, by omega, by decide, fun n t3 H3 hn k3 s3 a3 b3 => ?_⟩
      walk_at "st"
      refine r_sz (Nat.le_of_ble_eq_true rfl) (fin _ t3 H3 ((k1.trans k2).trans k3) s3 (by omega) (by omega))
    · walk_at "st"
      refine r_sz (Nat.le_of_ble_eq_true rfl) (fin _ t2 H2 (k1.trans k2) s2 (by omega) (by omega))
theorem cal__law_lies (T : Txt K mg)  : Cal P w K mg base 1 "_law_lies" (sp__law_lies K) [] := by
  obtain ⟨f, fd, F, gF, b⟩ := T.f__law_lies
  refine My.mkCal F gF b sc__law_lies (fun vs H Q E h => ?len) (fun cdv A outer s H vs Q E hr h => ?body)
  case len => first | (obtain ⟨rfl, _⟩ := h; rfl) | (obtain ⟨_, rfl, _⟩ := h; rfl) | (obtain ⟨_, _, rfl, _⟩ := h; rfl) | (obtain ⟨_, _, _, rfl, _⟩ := h; rfl) | (obtain ⟨_, _, _, _, rfl, _⟩ := h; rfl) | (obtain ⟨_, _, _, _, _, rfl, _⟩ := h; rfl) | (obtain ⟨_, _, _, _, _, _, rfl, _⟩ := h; rfl) | (obtain ⟨_, _, _, _, _, _, _, rfl, _⟩ := h; rfl) | (obtain ⟨_, _, _, _, _, _, _, _, rfl, _⟩ := h; rfl) | (obtain ⟨_, _, _, _, _, _, _, _, _, rfl, _⟩ := h; rfl) | (obtain ⟨_, _, _, _, _, _, _, _, _, _, rfl, _⟩ := h; rfl) | (obtain ⟨_, _, _, _, _, _, _, _, _, _, _, rfl, _⟩ := h; rfl) | (obtain ⟨_, _, _, _, _, _, _, _, _, _, _, _, rfl, _⟩ := h; rfl) | (obtain ⟨_, _, _, _, _, _, _, _, _, _, _, _, _, rfl, _⟩ := h; rfl) | (obtain ⟨_, _, _, _, _, _, _, _, _, _, _, _, _, _, rfl, _⟩ := h; rfl)
  case body =>
    refine ⟨_, (pss_one (ps_ret (pe_cmpR op_eq (pe_op op_mod (pe_callTy My.call_intI (by rfl) T.b_int (by decide +kernel) (pa_cons (pv 0) pa_nil)) (pe_ix ix_tup (pv 1) pe_int (fun _ _ => rfl))) (pe_ix ix_tup (pv 1) pe_int (fun _ _ => rfl)) (nomark _)))), ?_⟩
    obtain ⟨x, v, m, r, rfl, ⟨p, rfl, hp⟩, h0, q⟩ := h
    refine My.r_start (σ := [some _, some _]) rfl ?_; walk_at "st"
    refine r_ixT hp atI0 ?_
    walk_at "st"
    refine r_ixT hp atI1 ?_
    walk_at "st"
    exact q

def sp__law_fits (K : PySem.W.Frag) : Sp := fun vs H Q _ => ∃ (v1 v2 : V) (m1 r1 m2 r2 : Nat), vs = [v1, v2] ∧ IsC K H v1 m1 r1 ∧ IsC K H v2 m2 r2 ∧ r1 < m1 ∧ r2 < m2 ∧ m1 ≤ 12 * E30 ∧ m2 ≤ 12 * E30 ∧ ∀ H', Same H H' → Q (.bl true) H'
theorem bd_12 {m : Nat} (h : m ≤ 12 * E30) : Bd (m : Int) := by
  have h2 : 12 * E30 < 2 ^ 4000 := by decide +kernel
  exact Nat.lt_of_le_of_lt (show ((m : Int)).natAbs ≤ 12 * E30 by omega) h2
theorem within_iff {m1 r1 m2 r2 L x : Nat} (l1 : r1 < m1) (p2 : 0 < m2) (M : MeetR m1 r1 m2 r2 (some (L, x))) : (m1 % m2 = 0 ∧ r1 % m2 = r2) ↔ (L, x) = (m1, r1) := by
  obtain ⟨_, hL, hx, h1, h2⟩ := M
  constructor
  · rintro ⟨e1, e2⟩
    have g : Nat.gcd m1 m2 = m2 := Nat.gcd_eq_right (Nat.dvd_of_mod_eq_zero e1)
    rw [g, Nat.div_self p2, Nat.mul_one] at hL
    subst hL
    rw [Nat.mod_eq_of_lt hx] at h1
    rw [h1]
  · intro e
    have e1 : L = m1 := congrArg Prod.fst e
    have e2 : x = r1 := congrArg Prod.snd e
    subst e1 e2
    have d : m2 ∣ L := by
      rw [hL, lcm_of]
      exact Nat.dvd_lcm_right _ _
    exact ⟨Nat.mod_eq_zero_of_dvd d, h2⟩
theorem not_within {m1 r1 m2 r2 : Nat} (l1 : r1 < m1) (M : MeetR m1 r1 m2 r2 none) : ¬ (m1 % m2 = 0 ∧ r1 % m2 = r2) := fun ⟨_, e2⟩ => met_none M r1 ⟨Nat.mod_eq_of_lt l1, e2⟩
theorem meet_swap {m1 r1 m2 r2 : Nat} {o o' : Option (Nat × Nat)} (M : MeetR m1 r1 m2 r2 o) (M' : MeetR m2 r2 m1 r1 o') : o' = o := by
  refine tells_one (S := fun h => h % m1 = r1 ∧ h % m2 = r2) ?_ (tells_meet M)
  have t := tells_meet M'
  cases o' with
  | none => exact fun h ⟨a, b⟩ => t h ⟨b, a⟩
  | some z => exact ⟨t.1, fun h => (t.2 h).trans And.comm⟩
theorem meet_self {m r : Nat} (h : r < m) {o : Option (Nat × Nat)} (M : MeetR m r m r o) : o = some (m, r) :=
  tells_one (S := fun h => h % m = r ∧ h % m = r) (tells_meet M) ⟨h, fun k => ⟨fun e => ⟨e, e⟩, fun e => e.1⟩⟩
theorem fits_tail {σ : L2.St} {H : Hp} {Q : VK} {v : V} {m r : Nat} (h0 : σ[0]? = some (some v)) (hc : IsC K H v m r) (l : r < m) (bm : Bd (m : Int)) (q : ∀ H', Same H H' → Q (.bl true) H') :
    tAndV (tOp (rEqD K) (tCall (sp_meet K) [] C8.E0 (tCons (tVar 0) (tCons (tVar 0) tNil))) (tVar 0)) (tCall (sp_is_within K) [] C8.E0 (tCons (tVar 0) (tCons (tTup (tCons (tC (V.int 1)) (tCons (tC (V.int 0)) tNil))) tNil))) σ H Q := by
  refine ⟨v, h0, v, h0, v, v, m, r, m, r, rfl, hc, hc, ⟨l, bm⟩, ⟨l, bm⟩, fun v' o H1 s1 M ho => ⟨v, h0, ?_⟩⟩
  have e := meet_self l M
  subst e
  refine r_eqO (o := some (m, r)) (o' := some (m, r)) ho (hc.same s1) ⟨_, rfl, ?_⟩
  rw [decide_eq_true rfl]
  refine r_T ⟨v, h0, Nat.le_of_ble_eq_true rfl, fun p hp => ?_⟩
  refine ⟨v, .ref p, m, r, 1, 0, rfl, (hc.same s1).same (Same.new hp), ⟨p, rfl, .of upd_same⟩, l, by decide, ?_⟩
  rw [decide_eq_true (show m % 1 = 0 ∧ r % 1 = 0 from ⟨Nat.mod_one m, Nat.mod_one r⟩)]
  exact q _ (s1.trans (Same.new hp))
theorem cal__law_fits (T : Txt K mg) (c_meet : Cal P w K mg base 4 "meet" (sp_meet K) []) (c__law_divisor : Cal P w K mg base 1 "_law_divisor" (sp__law_divisor K) []) (c_is_within : Cal P w K mg base 4 "is_within" (sp_is_within K) []) (c__law_lies : Cal P w K mg base 1 "_law_lies" (sp__law_lies K) []) : Cal P w K mg base 5 "_law_fits" (sp__law_fits K) [] := by
  obtain ⟨f, fd, F, gF, b⟩ := T.f__law_fits
  refine My.mkCal F gF b sc__law_fits (fun vs H Q E h => ?len) (fun cdv A outer s H vs Q E hr h => ?body)
  case len => first | (obtain ⟨rfl, _⟩ := h; rfl) | (obtain ⟨_, rfl, _⟩ := h; rfl) | (obtain ⟨_, _, rfl, _⟩ := h; rfl) | (obtain ⟨_, _, _, rfl, _⟩ := h; rfl) | (obtain ⟨_, _, _, _, rfl, _⟩ := h; rfl) | (obtain ⟨_, _, _, _, _, rfl, _⟩ := h; rfl) | (obtain ⟨_, _, _, _, _, _, rfl, _⟩ := h; rfl) | (obtain ⟨_, _, _, _, _, _, _, rfl, _⟩ := h; rfl) | (obtain ⟨_, _, _, _, _, _, _, _, rfl, _⟩ := h; rfl) | (obtain ⟨_, _, _, _, _, _, _, _, _, rfl, _⟩ := h; rfl) | (obtain ⟨_, _, _, _, _, _, _, _, _, _, rfl, _⟩ := h; rfl) | (obtain ⟨_, _, _, _, _, _, _, _, _, _, _, rfl, _⟩ := h; rfl) | (obtain ⟨_, _, _, _, _, _, _, _, _, _, _, _, rfl, _⟩ := h; rfl) | (obtain ⟨_, _, _, _, _, _, _, _, _, _, _, _, _, rfl, _⟩ := h; rfl) | (obtain ⟨_, _, _, _, _, _, _, _, _, _, _, _, _, _, rfl, _⟩ := h; rfl)
  case body =>
    refine ⟨_, (pss_cons (ps_set (i := 2) sc__law_fits.nd rfl (Or.inr rfl) (pe_c c_meet hr (by decide) (by rfl) (pa_cons (pv 0) (pa_cons (pv 1) pa_nil))))
      (pss_cons (ps_set (i := 3) sc__law_fits.nd rfl (Or.inl rfl) (pe_c c__law_divisor hr (by decide) (by rfl) (pa_cons (pe_ix ix_tup (pv 0) pe_int (fun _ _ => rfl)) (pa_cons (pe_ix ix_tup (pv 1) pe_int (fun _ _ => rfl)) pa_nil))))
      (pss_cons (ps_if (pt_not (pt_val (pe_callB call_isi (by rfl) T.b_isinstance (by decide +kernel) (pa_cons (pe_c c_is_within hr (by decide) (by rfl) (pa_cons (pv 0) (pa_cons (pv 1) pa_nil))) (pa_cons (pe_bltn (v := .ty "bool") (by rfl) T.b_bool (by decide +kernel) rfl) pa_nil)))))
      (pss_one (ps_ret pe_bl))
      pss_nil)
      (pss_cons (ps_if (pt_cmpR op_ne (pe_op op_mod (pe_callTy My.call_intI (by rfl) T.b_int (by decide +kernel) (pa_cons (pe_op op_sub (pe_ix ix_tup (pv 0) pe_int (fun _ _ => rfl)) (pe_ix ix_tup (pv 1) pe_int (fun _ _ => rfl))) pa_nil)) (pv 3)) pe_int (nomark _))
      (pss_one (ps_ret (pe_and (pe_cmpR op_isN (pv 2) pe_non (nomark _)) (pe_and (pe_cmpR op_isN (pe_c c_meet hr (by decide) (by rfl) (pa_cons (pv 1) (pa_cons (pv 0) pa_nil))) pe_non (nomark _)) (pe_one (pe_not (pe_c c_is_within hr (by decide) (by rfl) (pa_cons (pv 0) (pa_cons (pv 1) pa_nil)))))))))
      pss_nil)
      (pss_cons (ps_if (PW.pt (pw_or (pt_not (pt_val (pe_callB call_isi (by rfl) T.b_isinstance (by decide +kernel) (pa_cons (pv 2) (pa_cons (pe_bltn (v := .ty "tuple") (by rfl) T.b_tuple (by decide +kernel) rfl) pa_nil))))) (pw_or (pt_cmpR op_ne (pe_callB call_len_seq (by rfl) T.b_len (by decide +kernel) (pa_cons (pv 2) pa_nil)) pe_int (nomark _)) (pw_or1 (pt_cmpR op_ne (pe_ix ix_tup (pv 2) pe_int (fun _ _ => rfl)) (pe_op op_mulX (pe_op op_fdivW (pe_ix ix_tup (pv 0) pe_int (fun _ _ => rfl)) (pv 3)) (pe_ix ix_tup (pv 1) pe_int (fun _ _ => rfl))) (nomark _))))))
      (pss_one (ps_ret pe_bl))
      pss_nil)
      (pss_cons (ps_if (PW.pt (pw_or (pt_cmpR op_lt (pe_ix ix_tup (pv 2) pe_int (fun _ _ => rfl)) pe_int (nomark _)) (pw_or (pt_cmpR op_ge (pe_ix ix_tup (pv 2) pe_int (fun _ _ => rfl)) (pe_ix ix_tup (pv 2) pe_int (fun _ _ => rfl)) (nomark _)) (pw_or (pt_not (pt_val (pe_c c__law_lies hr (by decide) (by rfl) (pa_cons (pe_ix ix_tup (pv 2) pe_int (fun _ _ => rfl)) (pa_cons (pv 0) pa_nil))))) (pw_or1 (pt_not (pt_val (pe_c c__law_lies hr (by decide) (by rfl) (pa_cons (pe_ix ix_tup (pv 2) pe_int (fun _ _ => rfl)) (pa_cons (pv 1) pa_nil))))))))))
      (pss_one (ps_ret pe_bl))
      pss_nil)
      (pss_cons (ps_if (PW.pt (pw_or (pt_cmpR (op_neD hr.units) (pe_c c_meet hr (by decide) (by rfl) (pa_cons (pv 1) (pa_cons (pv 0) pa_nil))) (pv 2) (nomark _)) (pw_or (pt_cmpR op_ne (pe_c c_is_within hr (by decide) (by rfl) (pa_cons (pv 0) (pa_cons (pv 1) pa_nil))) (pe_cmpR (op_eqD hr.units) (pv 2) (pv 0) (nomark _)) (nomark _)) (pw_or1 (pt_not (pt_val (pe_c c_is_within hr (by decide) (by rfl) (pa_cons (pv 2) (pa_cons (pv 1) pa_nil)))))))))
      (pss_one (ps_ret pe_bl))
      pss_nil)
      (pss_cons (ps_if (pt_cmpR op_lt (pe_op op_mulX (pe_ix ix_tup (pv 0) pe_int (fun _ _ => rfl)) (pe_ix ix_tup (pv 1) pe_int (fun _ _ => rfl))) pe_int (nomark _))
      (pss_cons (ps_setLc (i := 4) (own := [("_law_mark", 5)]) (by rfl) sc__law_fits.nd rfl rfl (sw_true rfl rfl rfl (by decide +kernel)) (pi_range1 (by rfl) T.b_range (pa_cons (pe_op op_mulX (pe_ix ix_tup (pv 0) pe_int (fun _ _ => rfl)) (pe_ix ix_tup (pv 1) pe_int (fun _ _ => rfl))) pa_nil)) (blkOk_by (own := [("_law_mark", 5)]) (N := nm__law_fits) (sc := defScope s__law_fits) (by decide +kernel)) (fun _ _ _ _ _ => (pg_name (i := 5) sc__law_fits.nd rfl (Or.inl rfl))) (fun _ _ _ _ _ => (pts_one (PW.pt (pw_and (pt_val (pe_c c__law_lies hr (by decide) (by rfl) (pa_cons (pv 5) (pa_cons (pv 0) pa_nil)))) (pw_and1 (pt_val (pe_c c__law_lies hr (by decide) (by rfl) (pa_cons (pv 5) (pa_cons (pv 1) pa_nil))))))))) (fun _ _ _ _ _ => (pv 5)))
      (pss_one (ps_if (pt_cmpR (op_neD hr.units) (pv 4) (pe_lc (own := [("_law_mark", 5)]) (by rfl) sc__law_fits.nd (pi_range1 (by rfl) T.b_range (pa_cons (pe_op op_mulX (pe_ix ix_tup (pv 0) pe_int (fun _ _ => rfl)) (pe_ix ix_tup (pv 1) pe_int (fun _ _ => rfl))) pa_nil)) (blkOk_by (own := [("_law_mark", 5)]) (N := nm__law_fits) (sc := defScope s__law_fits) (by decide +kernel)) (fun _ _ _ _ _ => (pg_name (i := 5) sc__law_fits.nd rfl (Or.inl rfl))) (fun _ _ _ _ _ => (pts_one (pt_val (pe_c c__law_lies hr (by decide) (by rfl) (pa_cons (pv 5) (pa_cons (pv 2) pa_nil)))))) (fun _ _ _ _ _ => (pv 5))) (nomark _))
      (pss_one (ps_ret pe_bl))
      pss_nil)))
      pss_nil)
      (pss_one (ps_ret (pe_and (pe_cmpR (op_eqD hr.units) (pe_c c_meet hr (by decide) (by rfl) (pa_cons (pv 0) (pa_cons (pv 0) pa_nil))) (pv 0) (nomark _)) (pe_one (pe_c c_is_within hr (by decide) (by rfl) (pa_cons (pv 0) (pa_cons (pe_tup (pa_cons pe_int (pa_cons pe_int pa_nil))) pa_nil))))))))))))))), ?_⟩
    obtain ⟨v1, v2, m1, r1, m2, r2, rfl, hc1, hc2, l1, l2, n1, n2, q⟩ := h
    refine My.r_start (σ := [some _, some _, none, none, none, none]) rfl ?_; walk_at "st"
    have b1 : Bd (m1 : Int) := bd_12 n1
    have b2 : Bd (m2 : Int) := bd_12 n2
    refine ⟨v1, v2, m1, r1, m2, r2, rfl, hc1, hc2, ⟨l1, b1⟩, ⟨l2, b2⟩, fun v o H1 sm M ho => ?_⟩
    walk_at "st"
    have hc1 := hc1.same sm
    have hc2 := hc2.same sm
    refine r_c0 hc1 ?_
    walk_at "st"
    refine r_c0 hc2 ?_
    walk_at "st"
    refine ⟨m1, m2, rfl, ?_⟩
    walk_at "st"
    refine ⟨v1, v2, m1, r1, m2, r2, rfl, hc1, hc2, l1, l2, ?_⟩
    walk_at "st"
    refine r_isi tyx_bl k_bb ?_
    walk_at "st"
    refine r_c1 hc1 ?_
    walk_at "st"
    refine r_c1 hc2 ?_
    walk_at "st"
    have gp : 0 < Nat.gcd m1 m2 := Nat.gcd_pos_of_pos_left _ (by omega)
    refine r_mod (by omega) ?_
    walk_at "st"
    cases o with
    | none =>
      refine r_ndec (fun g => ?_) (fun g => absurd g M)
      walk_at "st"
      have ev : v = .non := ho
      subst ev
      refine r_dec (fun _ => ?_) (fun g => absurd rfl g)
      walk_at "st"
      refine ⟨v2, v1, m2, r2, m1, r1, rfl, hc2, hc1, ⟨l2, b2⟩, ⟨l1, b1⟩, fun v' o' H2 sm2 M' ho' => ?_⟩
      walk_at "st"
      have e := meet_swap M M'
      subst e
      have ev : v' = .non := ho'
      subst ev
      refine r_dec (fun _ => ?_) (fun g => absurd rfl g)
      walk_at "st"
      refine ⟨v1, v2, m1, r1, m2, r2, rfl, hc1.same sm2, hc2.same sm2, l1, l2, ?_⟩
      walk_at "st"
      rw [decide_eq_false (not_within l1 M)]
      walk_at "st"
      exact q _ (sm.trans sm2)
    | some z =>
      obtain ⟨L, x⟩ := z
      have hf : IsC K H1 v L x := ho
      refine r_ndec (fun g => absurd M.1 g) (fun g => ?_)
      walk_at "st"
      refine r_isC (b := true) hf ?_
      walk_at "st"
      refine r_lenC hf ?_
      walk_at "st"
      refine r_ndec (fun g => absurd rfl g) (fun _ => ?_)
      walk_at "st"
      refine r_c0 hf ?_
      walk_at "st"
      refine r_c0 hc1 ?_
      walk_at "st"
      refine r_div (div_bd (by omega) (bd_nat (Nat.gcd_le_left m2 (by omega)) b1)) ?_
      walk_at "st"
      refine r_c0 hc2 ?_
      walk_at "st"
      rw [← Int.natCast_ediv]
      refine r_mul (mul_sm (Bd.sm (bd_nat (Nat.div_le_self _ _) b1)) b2.sm) ?_
      walk_at "st"
      have eL : L = m1 / Nat.gcd m1 m2 * m2 := by
        rw [M.2.1, lcm_of]
        unfold Nat.lcm
        rw [Nat.mul_comm m1 m2, Nat.mul_div_assoc _ (Nat.gcd_dvd_left m1 m2), Nat.mul_comm]
      refine r_ndec (fun g => absurd (by rw [eL, Int.natCast_mul]) g) (fun _ => ?_)
      walk_at "st"
      refine r_c1 hf ?_
      walk_at "st"
      refine r_dec (fun g => absurd g (by omega)) (fun _ => ?_)
      walk_at "st"
      refine r_c1 hf ?_
      walk_at "st"
      refine r_c0 hf ?_
      walk_at "st"
      refine r_dec (fun g => absurd M.2.2.1 (by omega)) (fun _ => ?_)
      walk_at "st"
      refine r_c1 hf ?_
      walk_at "st"
      refine ⟨(x : Int), v1, m1, r1, rfl, hc1, by omega, ?_⟩
      walk_at "st"
      rw [nat_mod_cast, decide_eq_true M.2.2.2.1]
      walk_at "st"
      refine r_c1 hf ?_
      walk_at "st"
      refine ⟨(x : Int), v2, m2, r2, rfl, hc2, by omega, ?_⟩
      walk_at "st"
      rw [nat_mod_cast, decide_eq_true M.2.2.2.2]
      walk_at "st"
      refine ⟨v2, v1, m2, r2, m1, r1, rfl, hc2, hc1, ⟨l2, b2⟩, ⟨l1, b1⟩, fun v' o' H2 sm2 M' ho' => ?_⟩
      walk_at "st"
      have e := meet_swap M M'
      subst e
      have hc1 := hc1.same sm2
      have hc2 := hc2.same sm2
      have hf := hf.same sm2
      refine r_neO ho' (o' := some (L, x)) hf ?_
      walk_at "st"
      refine r_ndec (fun g => absurd rfl g) (fun _ => ?_)
      walk_at "st"
      refine ⟨v1, v2, m1, r1, m2, r2, rfl, hc1, hc2, l1, l2, ?_⟩
      walk_at "st"
      refine r_eqO (o := some (L, x)) (o' := some (m1, r1)) hf hc1 ?_
      walk_at "st"
      refine r_ndec (fun g => absurd (decide_eq_decide.mpr ((within_iff l1 (by omega) M).trans (by simp))) g) (fun _ => ?_)
      walk_at "st"
      refine ⟨v, v2, L, x, m2, r2, rfl, hf, hc2, M.2.2.1, l2, ?_⟩
      walk_at "st"
      rw [decide_eq_true (show L % m2 = 0 ∧ x % m2 = r2 from ⟨Nat.mod_eq_zero_of_dvd (by rw [M.2.1, lcm_of]; exact Nat.dvd_lcm_right _ _), M.2.2.2.2⟩)]
      walk_at "st"
      refine r_c0 hc1 ?_
      walk_at "st"
      refine r_c0 hc2 ?_
      walk_at "st"
      refine r_mul (mul_sm b1.sm b2.sm) ?_
      walk_at "st"
      refine r_dec (fun g => ?_) (fun g => ?_)
      · walk_at "st"
        have hp : ((m1 * m2 : Nat) : Int) < 2000 := by rw [Int.natCast_mul]; exact g
        refine r_c0 hc1 ?_
        walk_at "st"
        refine r_c0 hc2 ?_
        walk_at "st"
        refine r_mul (mul_sm b1.sm b2.sm) ?_
        walk_at "st"
        refine r_rgC (m1 * m2) (by rw [Int.natCast_mul]) (by omega) fun D1 hD1 => ?_
        refine comp_filter (i := 5) (fun k => decide (k % m1 = r1) && decide (k % m2 = r2)) (Nat.le_of_ble_eq_true rfl) (by omega) hD1 (fun k H' hk s' R hR => ?_) fun H3 s3 e3 => ?_
        · walk_at "st"
          refine ⟨(k : Int), v1, m1, r1, rfl, hc1.same s', by omega, ?_⟩
          walk_at "st"
          rw [nat_mod_cast]
          have hR' := hR H' (Same.refl H')
          refine r_dec (fun g1 => ?_) (fun g1 => ?_)
          · walk_at "st"
            refine ⟨(k : Int), v2, m2, r2, rfl, hc2.same s', by omega, ?_⟩
            walk_at "st"
            rw [nat_mod_cast]
            rw [decide_eq_true g1, Bool.true_and] at hR'
            exact hR'
          · rw [decide_eq_false g1, Bool.false_and] at hR'
            exact hR'
        · walk_at "st"
          have hc1 := hc1.same s3
          have hc2 := hc2.same s3
          have hf := hf.same s3
          refine r_c0 hc1 ?_
          walk_at "st"
          refine r_c0 hc2 ?_
          walk_at "st"
          refine r_mul (mul_sm b1.sm b2.sm) ?_
          walk_at "st"
          refine r_rgC (m1 * m2) (by rw [Int.natCast_mul]) (by omega) fun D2 hD2 => ?_
          refine comp_filter (i := 5) (fun k => decide (k % L = x)) (Nat.le_of_ble_eq_true rfl) (by omega) hD2 (fun k H' hk s' R hR => ?_) fun H4 s4 e4 => ?_
          · walk_at "st"
            refine ⟨(k : Int), v, L, x, rfl, hf.same s', by have := M.2.2.1; omega, ?_⟩
            walk_at "st"
            rw [nat_mod_cast]
            exact hR H' (Same.refl H')
          · refine r_neNats (.of (s4 _ _ e3)) (.of e4) ?_
            walk_at "st"
            have ef : (fun k => decide (k % m1 = r1) && decide (k % m2 = r2)) = fun k => decide (k % L = x) := by
              funext k
              rw [← Bool.decide_and]
              exact decide_eq_decide.mpr (met_iff M k).symm
            rw [ef]
            refine r_ndec (fun g => absurd rfl g) (fun _ => ?_)
            refine r_next (r_nx (r_ret ?_))
            exact fits_tail rfl (hc1.same s4) l1 b1 fun H5 s5 => q H5 (((sm.trans sm2).trans (s3.trans s4)).trans s5)
      · refine r_next (r_nx (r_ret ?_))
        exact fits_tail rfl hc1 l1 b1 fun H5 s5 => q H5 ((sm.trans sm2).trans s5)

def sp__law_three_fit (K : PySem.W.Frag) : Sp := fun vs H Q _ => ∃ (v1 v2 v3 : V) (m1 r1 m2 r2 m3 r3 : Nat), vs = [v1, v2, v3] ∧ IsC K H v1 m1 r1 ∧ IsC K H v2 m2 r2 ∧ IsC K H v3 m3 r3 ∧ r1 < m1 ∧ r2 < m2 ∧ r3 < m3 ∧ m1 ≤ 12 * E30 ∧ m2 ≤ 12 * E30 ∧ m3 ≤ 12 * E30 ∧ ∀ H', Same H H' → Q (.bl true) H'
def sp_law (K : PySem.W.Frag) : Sp := fun vs H Q _ => ∃ (s : Addr) (ns : List Int), vs = [.ref s] ∧ SqL K H s (ns.map V.int) ∧ ns.length ≤ 63 ∧ ∀ H', Q (.bl true) H'
theorem law_start {H : Hp} {a : Addr} {ns : List Int} (hl : ns.length ≤ 63) (_ : Only H) (hS : SqL K H a (ns.map V.int)) : sp_law K [.ref a] H (fun v _ => v = .bl true) fun _ _ _ => False := ⟨a, ns, rfl, hS, hl, fun _ => rfl⟩
/-- a tuple of three classes whose marks are those of S -/
def G3 (K : PySem.W.Frag) (S : Nat → Prop) (H : Hp) (x : V) : Prop := ∃ (p : Addr) (va vb vc : V) (ma ra mb rb mc rc : Nat), x = .ref p ∧ SqT K H p [va, vb, vc] ∧ IsC K H va ma ra ∧ IsC K H vb mb rb ∧ IsC K H vc mc rc ∧ ra < ma ∧ rb < mb ∧ rc < mc ∧ ma ≤ 12 * E30 ∧ mb ≤ 12 * E30 ∧ mc ≤ 12 * E30 ∧
  ∀ h, S h ↔ (h % ma = ra ∧ h % mb = rb) ∧ h % mc = rc
theorem IsC.kept {l : Addr} {H H' : Hp} {ys : List V} {v : V} {m r : Nat} (h : IsC K H v m r) (k : Kept l H H') (hl : H l = some (.lst ys)) : IsC K H' v m r := let ⟨p, e, q⟩ := h; ⟨p, e, k.tup hl q⟩
theorem OptC.kept {l : Addr} {H H' : Hp} {ys : List V} {v : V} : ∀ {o : Option (Nat × Nat)}, OptC K H v o → Kept l H H' → H l = some (.lst ys) → OptC K H' v o
  | none, h, _, _ => h
  | some (_, _), h, k, hl => IsC.kept h k hl
theorem G3.kept {l : Addr} {S : Nat → Prop} {H H' : Hp} {ys : List V} {x : V} (h : G3 K S H x) (k : Kept l H H') (hl : H l = some (.lst ys)) : G3 K S H' x := by
  obtain ⟨p, va, vb, vc, ma, ra, mb, rb, mc, rc, e, hp, h1, h2, h3, l1⟩ := h
  exact ⟨p, va, vb, vc, ma, ra, mb, rb, mc, rc, e, k.tup hl hp, h1.kept k hl, h2.kept k hl, h3.kept k hl, l1⟩
theorem meet_bd {m1 r1 m2 r2 L x : Nat} (M : MeetR m1 r1 m2 r2 (some (L, x))) (h1 : m1 ≤ 12 * E30) (h2 : m2 ≤ 12 * E30) : Bd (L : Int) := by
  have e := M.2.1
  have a : m2 / Nat.gcd m1 m2 ≤ 12 * E30 := Nat.le_trans (Nat.div_le_self _ _) h2
  have b : L ≤ (12 * E30) * (12 * E30) := by rw [e]; exact Nat.mul_le_mul h1 a
  have c : (12 * E30) * (12 * E30) < 2 ^ 4000 := by decide +kernel
  exact Nat.lt_of_le_of_lt (show ((L : Int)).natAbs ≤ (12 * E30) * (12 * E30) by omega) c
theorem cal__law_three_fit (T : Txt K mg) (c_meet : Cal P w K mg base 4 "meet" (sp_meet K) []) : Cal P w K mg base 5 "_law_three_fit" (sp__law_three_fit K) [] := by
  obtain ⟨f, fd, F, gF, b⟩ := T.f__law_three_fit
  refine My.mkCal F gF b sc__law_three_fit (fun vs H Q E h => ?len) (fun cdv A outer s H vs Q E hr h => ?body)
  case len => first | (obtain ⟨rfl, _⟩ := h; rfl) | (obtain ⟨_, rfl, _⟩ := h; rfl) | (obtain ⟨_, _, rfl, _⟩ := h; rfl) | (obtain ⟨_, _, _, rfl, _⟩ := h; rfl) | (obtain ⟨_, _, _, _, rfl, _⟩ := h; rfl) | (obtain ⟨_, _, _, _, _, rfl, _⟩ := h; rfl) | (obtain ⟨_, _, _, _, _, _, rfl, _⟩ := h; rfl) | (obtain ⟨_, _, _, _, _, _, _, rfl, _⟩ := h; rfl) | (obtain ⟨_, _, _, _, _, _, _, _, rfl, _⟩ := h; rfl) | (obtain ⟨_, _, _, _, _, _, _, _, _, rfl, _⟩ := h; rfl) | (obtain ⟨_, _, _, _, _, _, _, _, _, _, rfl, _⟩ := h; rfl) | (obtain ⟨_, _, _, _, _, _, _, _, _, _, _, rfl, _⟩ := h; rfl) | (obtain ⟨_, _, _, _, _, _, _, _, _, _, _, _, rfl, _⟩ := h; rfl) | (obtain ⟨_, _, _, _, _, _, _, _, _, _, _, _, _, rfl, _⟩ := h; rfl) | (obtain ⟨_, _, _, _, _, _, _, _, _, _, _, _, _, _, rfl, _⟩ := h; rfl)
  case body =>
    refine ⟨_, (pss_cons (ps_set (i := 3) sc__law_three_fit.nd rfl (Or.inl rfl) (pe_lst pa_nil))
      (pss_cons (ps_for PassesOwn.never rfl (pi_list (pe_lst (pa_cons (pe_tup (pa_cons (pv 0) (pa_cons (pv 1) (pa_cons (pv 2) pa_nil)))) (pa_cons (pe_tup (pa_cons (pv 1) (pa_cons (pv 2) (pa_cons (pv 0) pa_nil)))) (pa_cons (pe_tup (pa_cons (pv 2) (pa_cons (pv 0) (pa_cons (pv 1) pa_nil)))) pa_nil))))) (pg_tup (by rfl) (pgs_cons (pg_name (i := 4) sc__law_three_fit.nd rfl (Or.inl rfl)) (pgs_cons (pg_name (i := 5) sc__law_three_fit.nd rfl (Or.inl rfl)) (pgs_cons (pg_name (i := 6) sc__law_three_fit.nd rfl (Or.inl rfl)) pgs_nil))))
      (pss_cons (ps_set (i := 7) sc__law_three_fit.nd rfl (Or.inl rfl) (pe_c c_meet hr (by decide) (by rfl) (pa_cons (pv 4) (pa_cons (pv 5) pa_nil))))
      (pss_cons (ps_if (pt_cmpR op_notN (pv 7) pe_non (nomark _))
      (pss_one (ps_set (i := 7) sc__law_three_fit.nd rfl (Or.inl rfl) (pe_c c_meet hr (by decide) (by rfl) (pa_cons (pv 7) (pa_cons (pv 6) pa_nil)))))
      pss_nil)
      (pss_one (ps_expr (pe_bm PySem.F.plainAttrs_list PySem.F.slot_list_append PySem.F.type_list_append mt_append (pv 3) (pa_cons (pv 7) pa_nil)))))))
      (pss_one (ps_ret (pe_and (pe_cmpR (op_eqD hr.units) (pe_ix ix_list (pv 3) pe_int (fun _ _ => rfl)) (pe_ix ix_list (pv 3) pe_int (fun _ _ => rfl)) (nomark _)) (pe_one (pe_cmpR (op_eqD hr.units) (pe_ix ix_list (pv 3) pe_int (fun _ _ => rfl)) (pe_ix ix_list (pv 3) pe_int (fun _ _ => rfl)) (nomark _)))))))), ?_⟩
    obtain ⟨v1, v2, v3, m1, r1, m2, r2, m3, r3, rfl, hc1, hc2, hc3, l1, l2, l3, n1, n2, n3, q⟩ := h
    refine My.r_start (σ := [some _, some _, some _, none, none, none, none, none]) rfl ?_; walk_at "st"
    refine r_sz (Nat.le_of_ble_eq_true rfl) fun l hl => ?_
    walk_at "st"
    refine r_sz (Nat.le_of_ble_eq_true rfl) fun p1 hp1 => ?_
    walk_at "st"
    refine r_sz (Nat.le_of_ble_eq_true rfl) fun p2 hp2 => ?_
    walk_at "st"
    refine r_sz (Nat.le_of_ble_eq_true rfl) fun p3 hp3 => ?_
    walk_at "st"
    refine r_sz (Nat.le_of_ble_eq_true rfl) fun d hd => ?_
    walk_at "st"
    generalize e0 : upd H l (.lst []) = H0 at *
    generalize e1 : upd H0 p1 (.tup [v1, v2, v3]) = H1 at *
    generalize e2 : upd H1 p2 (.tup [v2, v3, v1]) = H2 at *
    generalize e3 : upd H2 p3 (.tup [v3, v1, v2]) = H3 at *
    generalize e4 : upd H3 d (.lst [.ref p1, .ref p2, .ref p3]) = H4 at *
    have s0 : Same H H0 := by rw [← e0]; exact Same.new hl
    have s1 : Same H0 H1 := by rw [← e1]; exact Same.new hp1
    have s2 : Same H1 H2 := by rw [← e2]; exact Same.new hp2
    have s3 : Same H2 H3 := by rw [← e3]; exact Same.new hp3
    have s4 : Same H3 H4 := by rw [← e4]; exact Same.new hd
    have sA : Same H H4 := (((s0.trans s1).trans s2).trans s3).trans s4
    have hl4 : H4 l = some (.lst []) := s4 _ _ (s3 _ _ (s2 _ _ (s1 _ _ (by rw [← e0]; exact upd_same))))
    have hd4 : H4 d = some (.lst [.ref p1, .ref p2, .ref p3]) := by rw [← e4]; exact upd_same
    have hp14 : SqT K H4 p1 [v1, v2, v3] := .of (s4 _ _ (s3 _ _ (s2 _ _ (by rw [← e1]; exact upd_same))))
    have hp24 : SqT K H4 p2 [v2, v3, v1] := .of (s4 _ _ (s3 _ _ (by rw [← e2]; exact upd_same)))
    have hp34 : SqT K H4 p3 [v3, v1, v2] := .of (s4 _ _ (by rw [← e3]; exact upd_same))
    have hdl : d ≠ l := fun e => by rw [e, hl4] at hd4; cases hd4
    have g1 := hc1.same sA
    have g2 := hc2.same sA
    have g3 := hc3.same sA
    have hG : ∀ x ∈ [V.ref p1, .ref p2, .ref p3], G3 K (fun h => (h % m1 = r1 ∧ h % m2 = r2) ∧ h % m3 = r3) H4 x := by
      intro x hx
      rcases List.mem_cons.mp hx with rfl | hx
      · exact ⟨p1, v1, v2, v3, m1, r1, m2, r2, m3, r3, rfl, hp14, g1, g2, g3, l1, l2, l3, n1, n2, n3, fun h => Iff.rfl⟩
      · rcases List.mem_cons.mp hx with rfl | hx
        · exact ⟨p2, v2, v3, v1, m2, r2, m3, r3, m1, r1, rfl, hp24, g2, g3, g1, l2, l3, l1, n2, n3, n1, fun h => ⟨fun ⟨⟨a, b⟩, c⟩ => ⟨⟨b, c⟩, a⟩, fun ⟨⟨b, c⟩, a⟩ => ⟨⟨a, b⟩, c⟩⟩⟩
        · rw [List.mem_singleton] at hx
          subst hx
          exact ⟨p3, v3, v1, v2, m3, r3, m1, r1, m2, r2, rfl, hp34, g3, g1, g2, l3, l1, l2, n3, n1, n2, fun h => ⟨fun ⟨⟨a, b⟩, c⟩ => ⟨⟨c, a⟩, b⟩, fun ⟨⟨c, a⟩, b⟩ => ⟨⟨a, b⟩, c⟩⟩⟩
    refine r_islist (.of hd4) ?_
    refine loop_list (xs := [V.ref p1, .ref p2, .ref p3]) (fun i σ' H' => ∃ (x1 x2 x3 x4 : Option V) (ws : List V), σ' = [some v1, some v2, some v3, some (.ref l), x1, x2, x3, x4] ∧ Kept l H4 H' ∧ H' l = some (.lst ws) ∧ ws.length = i ∧ ∀ x ∈ ws, ∃ o, Tells (fun h => (h % m1 = r1 ∧ h % m2 = r2) ∧ h % m3 = r3) o ∧ OptC K H' x o)
      ⟨none, none, none, none, [], rfl, Kept.refl _ _, hl4, rfl, fun x hx => absurd hx List.not_mem_nil⟩ ?_ ?_ ?_
    · rintro i σ' H' hi ⟨x1, x2, x3, x4, ws, rfl, k, _⟩
      exact .of (k _ _ hdl hd4)
    · rintro i x σ' H' hx ⟨x1, x2, x3, x4, ws, rfl, k, hl', hn, hw⟩
      obtain ⟨p, va, vb, vc, ma, ra, mb, rb, mc, rc, rfl, hp, ha, hb, hc, la, lb, lc, na, nb, nc, hS⟩ := (hG x (List.mem_of_getElem? hx)).kept k hl4
      walk_at "st"
      refine r_gtup hp rfl ?_
      walk_at "st"
      refine ⟨va, vb, ma, ra, mb, rb, rfl, ha, hb, ⟨la, bd_12 na⟩, ⟨lb, bd_12 nb⟩, fun v o H5 s5 M ho => ?_⟩
      walk_at "st"
      have hw5 : ∀ x ∈ ws, ∃ o, Tells (fun h => (h % m1 = r1 ∧ h % m2 = r2) ∧ h % m3 = r3) o ∧ OptC K H5 x o := fun x hx => let ⟨o, t, h⟩ := hw x hx; ⟨o, t, h.same s5⟩
      have hlw : ws.length < 3 := by
        have := (List.getElem?_eq_some_iff.mp hx).1
        rw [hn]
        exact this
      cases o with
      | none =>
        have ev : v = .non := ho
        subst ev
        refine r_ndec (fun g => absurd rfl g) (fun _ => ?_)
        walk_at "st"
        refine r_app ⟨_, .of (s5 _ _ hl')⟩ ?_
        walk_at "st"
        refine r_append (s5 _ _ hl') (by omega) ?_
        walk_at "st"
        refine ⟨_, _, _, _, _, rfl, (k.same s5).upd, upd_same, by rw [List.length_append, hn]; rfl, fun x hx => ?_⟩
        rcases List.mem_append.mp hx with hx | hx
        · obtain ⟨o, t, h⟩ := hw5 x hx
          exact ⟨o, t, h.kept (l := l) (Kept.refl l H5).upd (s5 _ _ hl')⟩
        · rw [List.mem_singleton] at hx
          subst hx
          exact ⟨none, fun h hh => met_none M h ((hS h).mp hh).1, rfl⟩
      | some z =>
        obtain ⟨L, x⟩ := z
        have hf : IsC K H5 v L x := ho
        have hvn : v ≠ .non := by
          obtain ⟨pp, e, _⟩ := hf
          rw [e]
          exact fun z => nomatch z
        refine r_ndec (fun _ => ?_) (fun g => absurd g hvn)
        walk_at "st"
        refine ⟨v, vc, L, x, mc, rc, rfl, hf, hc.same s5, ⟨M.2.2.1, meet_bd M na nb⟩, ⟨lc, bd_12 nc⟩, fun v' o' H6 s6 M' ho' => ?_⟩
        walk_at "st"
        refine r_app ⟨_, .of (s6 _ _ (s5 _ _ hl'))⟩ ?_
        walk_at "st"
        refine r_append (s6 _ _ (s5 _ _ hl')) (by omega) ?_
        walk_at "st"
        refine ⟨_, _, _, _, _, rfl, ((k.same s5).same s6).upd, upd_same, by rw [List.length_append, hn]; rfl, fun x hx => ?_⟩
        rcases List.mem_append.mp hx with hx | hx
        · obtain ⟨o, t, h⟩ := hw5 x hx
          exact ⟨o, t, (h.same s6).kept (l := l) (Kept.refl l H6).upd (s6 _ _ (s5 _ _ hl'))⟩
        · rw [List.mem_singleton] at hx
          subst hx
          refine ⟨o', ?_, ho'.kept (l := l) (Kept.refl l H6).upd (s6 _ _ (s5 _ _ hl'))⟩
          have t := tells_meet M'
          cases o' with
          | none => exact fun h hh => t h ⟨(met_iff M h).mpr ((hS h).mp hh).1, ((hS h).mp hh).2⟩
          | some z =>
            exact ⟨t.1, fun h => (t.2 h).trans (Iff.trans (and_congr (met_iff M h) Iff.rfl) (hS h).symm)⟩
    · rintro σ' H' ⟨x1, x2, x3, x4, ws, rfl, k, hl', hn, hw⟩
      have hn3 : ws.length = 3 := hn
      obtain ⟨w1, w2, w3, rfl⟩ : ∃ w1 w2 w3, ws = [w1, w2, w3] := by
        match ws, hn3 with
        | [a, b, c], _ => exact ⟨a, b, c, rfl⟩
      obtain ⟨o1, t1, h1⟩ := hw w1 (by simp)
      obtain ⟨o2, t2, h2⟩ := hw w2 (by simp)
      obtain ⟨o3, t3, h3⟩ := hw w3 (by simp)
      have e12 := tells_one t1 t2
      have e23 := tells_one t2 t3
      subst e12 e23
      walk_at "st"
      refine r_ixL (.of hl') atI0 ?_
      walk_at "st"
      refine r_ixL (.of hl') atI1 ?_
      walk_at "st"
      refine r_eqO h1 h2 ?_
      walk_at "st"
      refine r_dec (fun _ => ?_) (fun g => absurd rfl g)
      walk_at "st"
      refine r_ixL (.of hl') atI1 ?_
      walk_at "st"
      refine r_ixL (.of hl') (atI_nat (j := 2) rfl) ?_
      walk_at "st"
      refine r_eqO h2 h3 ?_
      rw [decide_eq_true rfl]
      exact q H' (Kept.all sA hl k)
theorem law_tail {σ : L2.St} {nx bk ct : L2.St → Hp → Prop} {rt : V → Hp → Prop} {H : Hp} {a c : Addr} {t mk : Int} {v1 v2 : V} {m1 r1 m2 r2 : Nat} (h1 : σ[1]? = some (some (.ref a))) (h3 : σ[3]? = some (some (.int mk))) (h4 : σ[4]? = some (some v1)) (h5 : σ[5]? = some (some v2))
    (hs : Src H a c t) (ht : t + 100 ≤ Big) (hc1 : IsC K H v1 m1 r1) (hc2 : IsC K H v2 m2 r2) (l1 : r1 < m1) (l2 : r2 < m2) (n1 : m1 ≤ 12 * E30) (n2 : m2 ≤ 12 * E30) (q : ∀ H' t', Src H' a c t' → t' ≤ t + 100 → nx σ H') :
    tIfS (tOr (tNot (tB (tCall (sp__law_fits K) [] C8.E0 (tCons (tVar 4) (tCons (tVar 5) tNil)))))
              (tNot (tB (tCall (sp__law_three_fit K) [] C8.E0 (tCons (tVar 4) (tCons (tVar 5) (tCons (tCall (sp__law_class K) [] C8.E0 (tCons (tVar 1) (tCons (tVar 3) tNil))) tNil)))))))
      (tRet (tC (V.bl false))) tNext ⟨nx, rt, bk, ct⟩ σ H := by
  walk_at "st"
  refine r_var h4 ?_
  walk_at "st"
  refine r_var h5 ?_
  walk_at "st"
  refine ⟨v1, v2, m1, r1, m2, r2, rfl, hc1, hc2, l1, l2, n1, n2, fun H1 s1 => ?_⟩
  walk_at "st"
  refine r_var h4 ?_
  walk_at "st"
  refine r_var h5 ?_
  walk_at "st"
  refine r_var h1 ?_
  walk_at "st"
  refine r_var h3 ?_
  walk_at "st"
  refine ⟨a, c, t, mk, rfl, hs.same s1, ht, fun v3 m3 r3 t2 H2 l3 n3 k2 hs2 hc3 a2 b2 => ?_⟩
  walk_at "st"
  refine ⟨v1, v2, v3, m1, r1, m2, r2, m3, r3, rfl, (hc1.same s1).keep k2 (hs.same s1), (hc2.same s1).keep k2 (hs.same s1), hc3, l1, l2, l3, n1, n2, Nat.le_trans n3 (Nat.le_mul_of_pos_left _ (by decide)), fun H3 s3 => ?_⟩
  walk_at "st"
  exact q H3 t2 (hs2.same s3) b2
theorem ok_law (T : Txt K mg) {f : Addr} {fd : FuncData} (F : Fun K "law" "law" s_law f fd) (c__law_source : Cal P w K mg base 1 "_law_source" (sp__law_source K) []) (c__law_great : Cal P w K mg base 2 "_law_great" (sp__law_great K) []) (c__law_class : Cal P w K mg base 4 "_law_class" (sp__law_class K) []) (c__law_draw : Cal P w K mg base 1 "_law_draw" (sp__law_draw K) []) (c__law_fits : Cal P w K mg base 5 "_law_fits" (sp__law_fits K) []) (c__law_three_fit : Cal P w K mg base 5 "_law_three_fit" (sp__law_three_fit K) []) : FnOk P w K mg base L2.CX0 6 f fd ["_law_script"] (sp_law K) := by
  refine F.ok sc_law (fun vs H Q E h => ?len) (fun cdv A outer s H vs Q E hr h => ?body)
  case len => first | (obtain ⟨rfl, _⟩ := h; rfl) | (obtain ⟨_, rfl, _⟩ := h; rfl) | (obtain ⟨_, _, rfl, _⟩ := h; rfl) | (obtain ⟨_, _, _, rfl, _⟩ := h; rfl) | (obtain ⟨_, _, _, _, rfl, _⟩ := h; rfl) | (obtain ⟨_, _, _, _, _, rfl, _⟩ := h; rfl) | (obtain ⟨_, _, _, _, _, _, rfl, _⟩ := h; rfl) | (obtain ⟨_, _, _, _, _, _, _, rfl, _⟩ := h; rfl) | (obtain ⟨_, _, _, _, _, _, _, _, rfl, _⟩ := h; rfl) | (obtain ⟨_, _, _, _, _, _, _, _, _, rfl, _⟩ := h; rfl) | (obtain ⟨_, _, _, _, _, _, _, _, _, _, rfl, _⟩ := h; rfl) | (obtain ⟨_, _, _, _, _, _, _, _, _, _, _, rfl, _⟩ := h; rfl) | (obtain ⟨_, _, _, _, _, _, _, _, _, _, _, _, rfl, _⟩ := h; rfl) | (obtain ⟨_, _, _, _, _, _, _, _, _, _, _, _, _, rfl, _⟩ := h; rfl) | (obtain ⟨_, _, _, _, _, _, _, _, _, _, _, _, _, _, rfl, _⟩ := h; rfl)
  case body =>
    refine ⟨_, (pss_cons (ps_set (i := 1) sc_law.nd rfl (Or.inl rfl) (pe_c c__law_source hr (by decide) (by rfl) (pa_cons (pv 0) pa_nil)))
      (pss_cons (ps_for PassesOwn.never rfl (pi_range1 (by rfl) T.b_range (pa_cons pe_int pa_nil)) (pg_name (i := 2) sc_law.nd rfl (Or.inl rfl))
      (pss_cons (ps_set (i := 3) sc_law.nd rfl (Or.inl rfl) (pe_c c__law_great hr (by decide) (by rfl) (pa_cons (pv 1) (pa_cons pe_int pa_nil))))
      (pss_cons (ps_par (i := 4) (j := 5) (by rfl) sc_law.nd rfl rfl (by decide) rfl rfl (pa_cons (pe_c c__law_class hr (by decide) (by rfl) (pa_cons (pv 1) (pa_cons (pv 3) pa_nil))) (pa_cons (pe_c c__law_class hr (by decide) (by rfl) (pa_cons (pv 1) (pa_cons (pv 3) pa_nil))) pa_nil)) (by rfl))
      (pss_cons (ps_if (pt_cmpR op_eq (pe_c c__law_draw hr (by decide) (by rfl) (pa_cons (pv 1) (pa_cons pe_int pa_nil))) pe_int (nomark _))
      (pss_cons (ps_set (i := 6) sc_law.nd rfl (Or.inl rfl) (pe_op op_add pe_int (pe_c c__law_draw hr (by decide) (by rfl) (pa_cons (pv 1) (pa_cons pe_int pa_nil)))))
      (pss_one (ps_set (i := 5) sc_law.nd rfl (Or.inl rfl) (pe_tup (pa_cons (pe_op op_mulX (pe_ix ix_tup (pv 4) pe_int (fun _ _ => rfl)) (pv 6)) (pa_cons (pe_op op_add (pe_ix ix_tup (pv 4) pe_int (fun _ _ => rfl)) (pe_op op_mulX (pe_ix ix_tup (pv 4) pe_int (fun _ _ => rfl)) (pe_c c__law_draw hr (by decide) (by rfl) (pa_cons (pv 1) (pa_cons (pv 6) pa_nil))))) pa_nil))))))
      pss_nil)
      (pss_one (ps_if (PW.pt (pw_or (pt_not (pt_val (pe_c c__law_fits hr (by decide) (by rfl) (pa_cons (pv 4) (pa_cons (pv 5) pa_nil))))) (pw_or1 (pt_not (pt_val (pe_c c__law_three_fit hr (by decide) (by rfl) (pa_cons (pv 4) (pa_cons (pv 5) (pa_cons (pe_c c__law_class hr (by decide) (by rfl) (pa_cons (pv 1) (pa_cons (pv 3) pa_nil))) pa_nil)))))))))
      (pss_one (ps_ret pe_bl))
      pss_nil))))))
      (pss_one (ps_ret pe_bl)))), ?_⟩
    obtain ⟨s0, ns, rfl, hS, hlen, q⟩ := h
    refine My.r_start (σ := [some _, none, none, none, none, none, none]) rfl ?_; walk_at "st"
    refine ⟨s0, ns, rfl, hS, hlen, fun a c H1 sm src _ _ => ?_⟩
    walk_at "st"
    refine r_rgL 30 rfl (by omega) ?_
    have hB : Big = 1152921504606846976 := by decide
    refine loop_range (fun i σ' H' => ∃ (x1 x2 x3 x4 x5 : Option V) (t : Int), σ' = [some (.ref s0), some (.ref a), x1, x2, x3, x4, x5] ∧ Src H' a c t ∧ t ≤ i * 1000) ⟨none, none, none, none, none, 0, rfl, src, by omega⟩ ?_ ?_
    · rintro i σ' H' hi ⟨x1, x2, x3, x4, x5, t, rfl, hs, ht⟩
      walk_at "st"
      refine ⟨a, c, t, 30, rfl, hs, by omega, by decide, fun mk t1 H2 _ k1 hs1 a1 b1 => ?_⟩
      walk_at "st"
      refine ⟨a, c, t1, mk, rfl, hs1, by omega, fun v1 m1 r1 t2 H3 l1 n1 k2 hs2 hc1 a2 b2 => ?_⟩
      walk_at "st"
      refine ⟨a, c, t2, mk, rfl, hs2, by omega, fun v2 m2 r2 t3 H4 l2 n2 k3 hs3 hc2 a3 b3 => ?_⟩
      walk_at "st"
      have hc1 := hc1.keep k3 hs2
      refine ⟨a, c, t3, 3, rfl, hs3, by omega, by decide, bd_small (by decide), fun w t4 H5 w0 w1 k4 hs4 a4 b4 => ?_⟩
      walk_at "st"
      have hc1 := hc1.keep k4 hs3
      have hc2 := hc2.keep k4 hs3
      have n1' : m1 ≤ 12 * E30 := Nat.le_trans n1 (Nat.le_mul_of_pos_left _ (by decide))
      have n2' : m2 ≤ 12 * E30 := Nat.le_trans n2 (Nat.le_mul_of_pos_left _ (by decide))
      refine r_dec (fun g => ?_) (fun g => ?_)
      · walk_at "st"
        refine ⟨a, c, t4, 12, rfl, hs4, by omega, by decide, bd_small (by decide), fun w2 t5 H6 w3 w4 k5 hs5 a5 b5 => ?_⟩
        walk_at "st"
        have hc1 := hc1.keep k5 hs4
        refine r_c0 hc1 ?_
        walk_at "st"
        refine r_mul (mul_sm (bd_e30 n1).sm (sm_small (by omega))) ?_
        walk_at "st"
        refine r_c1 hc1 ?_
        walk_at "st"
        refine r_c0 hc1 ?_
        walk_at "st"
        refine ⟨a, c, t5, 1 + w2, rfl, hs5, by omega, by omega, bd_small (by omega), fun w5 t6 H7 w6 w7 k6 hs6 a6 b6 => ?_⟩
        walk_at "st"
        have hc1 := hc1.keep k6 hs5
        refine r_mul (mul_sm (bd_e30 n1).sm (sm_small (by omega))) ?_
        walk_at "st"
        refine r_sz (Nat.le_of_ble_eq_true rfl) fun p hp => ?_
        refine r_name ?_
        dsimp only [List.set]
        obtain ⟨y, rfl⟩ : ∃ y : Nat, w5 = (y : Int) := ⟨w5.toNat, by omega⟩
        obtain ⟨k, hk⟩ : ∃ k : Nat, 1 + w2 = (k : Int) := ⟨(1 + w2).toNat, by omega⟩
        rw [hk] at w7 ⊢
        have ly : r1 + m1 * y < m1 * k := by
          have : m1 * (y + 1) ≤ m1 * k := Nat.mul_le_mul_left _ (by omega)
          rw [Nat.mul_add, Nat.mul_one] at this
          omega
        have lk : m1 * k ≤ 12 * E30 := by
          rw [Nat.mul_comm]
          exact Nat.mul_le_mul (by omega) n1
        refine law_tail rfl rfl rfl rfl (hs6.new hp) (by omega) (hc1.same (Same.new hp)) (m2 := m1 * k) (r2 := r1 + m1 * y) ⟨p, rfl, ?_⟩ l1 ly n1' lk fun H' t' h1 h2 => ⟨_, _, _, _, _, t', rfl, h1, by omega⟩
        rw [Int.natCast_mul, Int.natCast_add, Int.natCast_mul]
        exact .of upd_same
      · refine r_next (r_nx ?_)
        exact law_tail rfl rfl rfl rfl hs4 (by omega) hc1 hc2 l1 l2 n1' n2' fun H' t' h1 h2 => ⟨_, _, _, _, _, t', rfl, h1, by omega⟩
    · rintro σ' H' ⟨x1, x2, x3, x4, x5, t, rfl, hs, ht⟩
      walk_at "st"
      exact q H'

theorem all_mk {P : Program} {w : World} {K : PySem.W.Frag} {h : Heap} {mg : Str → Option Value} {fa : Addr} (X : K.In h) (G : h.Ns mainGlobals mg) (hfa : mg "law" = some (.ref fa))
    {f0 f1 f2 f3 f4 f5 f6 f7 f8 f9 f10 f11 f12 f13 f14 f15 f16 f17 f18 : Addr} {od0 an0 od1 an1 od2 an2 od3 an3 od4 an4 od5 an5 od6 an6 od7 an7 od8 an8 od9 an9 od10 an10 od11 an11 od12 an12 od13 an13 od14 an14 od15 an15 od16 an16 od17 an17 od18 an18 : Option Addr} {sl0 sl1 sl2 sl3 sl4 sl5 sl6 sl7 sl8 sl9 sl10 sl11 sl12 sl13 sl14 sl15 sl16 sl17 sl18 : Array (Option Value)} {oc0 kV0 dc0 pm0 cd0 ct0 oc1 kV1 dc1 pm1 cd1 ct1 oc2 kV2 dc2 pm2 cd2 ct2 oc3 kV3 dc3 pm3 cd3 ct3 oc4 kV4 dc4 pm4 cd4 ct4 oc5 kV5 dc5 pm5 cd5 ct5 oc6 kV6 dc6 pm6 cd6 ct6 oc7 kV7 dc7 pm7 cd7 ct7 oc8 kV8 dc8 pm8 cd8 ct8 oc9 kV9 dc9 pm9 cd9 ct9 oc10 kV10 dc10 pm10 cd10 ct10 oc11 kV11 dc11 pm11 cd11 ct11 oc12 kV12 dc12 pm12 cd12 ct12 oc13 kV13 dc13 pm13 cd13 ct13 oc14 kV14 dc14 pm14 cd14 ct14 oc15 kV15 dc15 pm15 cd15 ct15 oc16 kV16 dc16 pm16 cd16 ct16 oc17 kV17 dc17 pm17 cd17 ct17 oc18 kV18 dc18 pm18 cd18 ct18 : Value}
    (a0 : PySem.W.nsIn K mainGlobals "_law_source" = some (some (.ref f0))) (l0 : K.lookup f0 = some ⟨oc0, od0, .func (PySem.W.fnOf "_law_source" "_law_source" (defArgs s__law_source) (defBody s__law_source) (defScope s__law_source) .none kV0 dc0 pm0 an0 cd0 ct0), sl0⟩) (c0 : PySem.W.codeIn K cd0 "_law_source" = true) (k0 : PySem.W.keepIn K (.ref f0) = true)
    (a1 : PySem.W.nsIn K mainGlobals "_law_draw" = some (some (.ref f1))) (l1 : K.lookup f1 = some ⟨oc1, od1, .func (PySem.W.fnOf "_law_draw" "_law_draw" (defArgs s__law_draw) (defBody s__law_draw) (defScope s__law_draw) .none kV1 dc1 pm1 an1 cd1 ct1), sl1⟩) (c1 : PySem.W.codeIn K cd1 "_law_draw" = true) (k1 : PySem.W.keepIn K (.ref f1) = true)
    (a2 : PySem.W.nsIn K mainGlobals "is_integer" = some (some (.ref f2))) (l2 : K.lookup f2 = some ⟨oc2, od2, .func (PySem.W.fnOf "is_integer" "is_integer" (defArgs s_is_integer) (defBody s_is_integer) (defScope s_is_integer) .none kV2 dc2 pm2 an2 cd2 ct2), sl2⟩) (c2 : PySem.W.codeIn K cd2 "is_integer" = true) (k2 : PySem.W.keepIn K (.ref f2) = true)
    (a3 : PySem.W.nsIn K mainGlobals "inverse" = some (some (.ref f3))) (l3 : K.lookup f3 = some ⟨oc3, od3, .func (PySem.W.fnOf "inverse" "inverse" (defArgs s_inverse) (defBody s_inverse) (defScope s_inverse) .none kV3 dc3 pm3 an3 cd3 ct3), sl3⟩) (c3 : PySem.W.codeIn K cd3 "inverse" = true) (k3 : PySem.W.keepIn K (.ref f3) = true)
    (a4 : PySem.W.nsIn K mainGlobals "lies_in" = some (some (.ref f4))) (l4 : K.lookup f4 = some ⟨oc4, od4, .func (PySem.W.fnOf "lies_in" "lies_in" (defArgs s_lies_in) (defBody s_lies_in) (defScope s_lies_in) .none kV4 dc4 pm4 an4 cd4 ct4), sl4⟩) (c4 : PySem.W.codeIn K cd4 "lies_in" = true) (k4 : PySem.W.keepIn K (.ref f4) = true)
    (a5 : PySem.W.nsIn K mainGlobals "is_class" = some (some (.ref f5))) (l5 : K.lookup f5 = some ⟨oc5, od5, .func (PySem.W.fnOf "is_class" "is_class" (defArgs s_is_class) (defBody s_is_class) (defScope s_is_class) .none kV5 dc5 pm5 an5 cd5 ct5), sl5⟩) (c5 : PySem.W.codeIn K cd5 "is_class" = true) (k5 : PySem.W.keepIn K (.ref f5) = true)
    (a6 : PySem.W.nsIn K mainGlobals "check_class" = some (some (.ref f6))) (l6 : K.lookup f6 = some ⟨oc6, od6, .func (PySem.W.fnOf "check_class" "check_class" (defArgs s_check_class) (defBody s_check_class) (defScope s_check_class) .none kV6 dc6 pm6 an6 cd6 ct6), sl6⟩) (c6 : PySem.W.codeIn K cd6 "check_class" = true) (k6 : PySem.W.keepIn K (.ref f6) = true)
    (a7 : PySem.W.nsIn K mainGlobals "have_common" = some (some (.ref f7))) (l7 : K.lookup f7 = some ⟨oc7, od7, .func (PySem.W.fnOf "have_common" "have_common" (defArgs s_have_common) (defBody s_have_common) (defScope s_have_common) .none kV7 dc7 pm7 an7 cd7 ct7), sl7⟩) (c7 : PySem.W.codeIn K cd7 "have_common" = true) (k7 : PySem.W.keepIn K (.ref f7) = true)
    (a8 : PySem.W.nsIn K mainGlobals "common_class" = some (some (.ref f8))) (l8 : K.lookup f8 = some ⟨oc8, od8, .func (PySem.W.fnOf "common_class" "common_class" (defArgs s_common_class) (defBody s_common_class) (defScope s_common_class) .none kV8 dc8 pm8 an8 cd8 ct8), sl8⟩) (c8 : PySem.W.codeIn K cd8 "common_class" = true) (k8 : PySem.W.keepIn K (.ref f8) = true)
    (a9 : PySem.W.nsIn K mainGlobals "meet" = some (some (.ref f9))) (l9 : K.lookup f9 = some ⟨oc9, od9, .func (PySem.W.fnOf "meet" "meet" (defArgs s_meet) (defBody s_meet) (defScope s_meet) .none kV9 dc9 pm9 an9 cd9 ct9), sl9⟩) (c9 : PySem.W.codeIn K cd9 "meet" = true) (k9 : PySem.W.keepIn K (.ref f9) = true)
    (a10 : PySem.W.nsIn K mainGlobals "is_within" = some (some (.ref f10))) (l10 : K.lookup f10 = some ⟨oc10, od10, .func (PySem.W.fnOf "is_within" "is_within" (defArgs s_is_within) (defBody s_is_within) (defScope s_is_within) .none kV10 dc10 pm10 an10 cd10 ct10), sl10⟩) (c10 : PySem.W.codeIn K cd10 "is_within" = true) (k10 : PySem.W.keepIn K (.ref f10) = true)
    (a11 : PySem.W.nsIn K mainGlobals "_law_divisor" = some (some (.ref f11))) (l11 : K.lookup f11 = some ⟨oc11, od11, .func (PySem.W.fnOf "_law_divisor" "_law_divisor" (defArgs s__law_divisor) (defBody s__law_divisor) (defScope s__law_divisor) .none kV11 dc11 pm11 an11 cd11 ct11), sl11⟩) (c11 : PySem.W.codeIn K cd11 "_law_divisor" = true) (k11 : PySem.W.keepIn K (.ref f11) = true)
    (a12 : PySem.W.nsIn K mainGlobals "_law_great" = some (some (.ref f12))) (l12 : K.lookup f12 = some ⟨oc12, od12, .func (PySem.W.fnOf "_law_great" "_law_great" (defArgs s__law_great) (defBody s__law_great) (defScope s__law_great) .none kV12 dc12 pm12 an12 cd12 ct12), sl12⟩) (c12 : PySem.W.codeIn K cd12 "_law_great" = true) (k12 : PySem.W.keepIn K (.ref f12) = true)
    (a13 : PySem.W.nsIn K mainGlobals "_law_modulus" = some (some (.ref f13))) (l13 : K.lookup f13 = some ⟨oc13, od13, .func (PySem.W.fnOf "_law_modulus" "_law_modulus" (defArgs s__law_modulus) (defBody s__law_modulus) (defScope s__law_modulus) .none kV13 dc13 pm13 an13 cd13 ct13), sl13⟩) (c13 : PySem.W.codeIn K cd13 "_law_modulus" = true) (k13 : PySem.W.keepIn K (.ref f13) = true)
    (a14 : PySem.W.nsIn K mainGlobals "_law_class" = some (some (.ref f14))) (l14 : K.lookup f14 = some ⟨oc14, od14, .func (PySem.W.fnOf "_law_class" "_law_class" (defArgs s__law_class) (defBody s__law_class) (defScope s__law_class) .none kV14 dc14 pm14 an14 cd14 ct14), sl14⟩) (c14 : PySem.W.codeIn K cd14 "_law_class" = true) (k14 : PySem.W.keepIn K (.ref f14) = true)
    (a15 : PySem.W.nsIn K mainGlobals "_law_lies" = some (some (.ref f15))) (l15 : K.lookup f15 = some ⟨oc15, od15, .func (PySem.W.fnOf "_law_lies" "_law_lies" (defArgs s__law_lies) (defBody s__law_lies) (defScope s__law_lies) .none kV15 dc15 pm15 an15 cd15 ct15), sl15⟩) (c15 : PySem.W.codeIn K cd15 "_law_lies" = true) (k15 : PySem.W.keepIn K (.ref f15) = true)
    (a16 : PySem.W.nsIn K mainGlobals "_law_fits" = some (some (.ref f16))) (l16 : K.lookup f16 = some ⟨oc16, od16, .func (PySem.W.fnOf "_law_fits" "_law_fits" (defArgs s__law_fits) (defBody s__law_fits) (defScope s__law_fits) .none kV16 dc16 pm16 an16 cd16 ct16), sl16⟩) (c16 : PySem.W.codeIn K cd16 "_law_fits" = true) (k16 : PySem.W.keepIn K (.ref f16) = true)
    (a17 : PySem.W.nsIn K mainGlobals "_law_three_fit" = some (some (.ref f17))) (l17 : K.lookup f17 = some ⟨oc17, od17, .func (PySem.W.fnOf "_law_three_fit" "_law_three_fit" (defArgs s__law_three_fit) (defBody s__law_three_fit) (defScope s__law_three_fit) .none kV17 dc17 pm17 an17 cd17 ct17), sl17⟩) (c17 : PySem.W.codeIn K cd17 "_law_three_fit" = true) (k17 : PySem.W.keepIn K (.ref f17) = true)
    (a18 : PySem.W.nsIn K mainGlobals "law" = some (some (.ref f18))) (l18 : K.lookup f18 = some ⟨oc18, od18, .func (PySem.W.fnOf "law" "law" (defArgs s_law) (defBody s_law) (defScope s_law) .none kV18 dc18 pm18 an18 cd18 ct18), sl18⟩) (c18 : PySem.W.codeIn K cd18 "law" = true) (k18 : PySem.W.keepIn K (.ref f18) = true)
    (z_abs : PySem.W.nsIn K mainGlobals "abs" = some none)
    (z_bool : PySem.W.nsIn K mainGlobals "bool" = some none)
    (z_divmod : PySem.W.nsIn K mainGlobals "divmod" = some none)
    (z_int : PySem.W.nsIn K mainGlobals "int" = some none)
    (z_isinstance : PySem.W.nsIn K mainGlobals "isinstance" = some none)
    (z_len : PySem.W.nsIn K mainGlobals "len" = some none)
    (z_range : PySem.W.nsIn K mainGlobals "range" = some none)
    (z_tuple : PySem.W.nsIn K mainGlobals "tuple" = some none)
    (z_gcd : PySem.W.nsIn K mainGlobals "gcd" = some (some (.builtin "math.gcd")))
    : ∃ fd : FuncData, (∀ (s : Shared) (v : Value), BindsTo s fd ⟨[v], []⟩ [("_law_script", v)]) ∧ ∀ base : Heap, K.In base → base.Ns mainGlobals mg → FnOk P w K mg base L2.CX0 6 fa fd ["_law_script"] (sp_law K) := by
  have T : Txt K mg := ⟨My.has_mk X G a0 l0 c0 k0 (by intro _ _ _ _ _ _ us hl; exact (match us, hl with | [_], _ => rfl)), My.has_mk X G a1 l1 c1 k1 (by intro _ _ _ _ _ _ us hl; exact (match us, hl with | [_, _], _ => rfl)), My.has_mk X G a2 l2 c2 k2 (by intro _ _ _ _ _ _ us hl; exact (match us, hl with | [_], _ => rfl)), My.has_mk X G a3 l3 c3 k3 (by intro _ _ _ _ _ _ us hl; exact (match us, hl with | [_, _], _ => rfl)), My.has_mk X G a4 l4 c4 k4 (by intro _ _ _ _ _ _ us hl; exact (match us, hl with | [_, _], _ => rfl)), My.has_mk X G a5 l5 c5 k5 (by intro _ _ _ _ _ _ us hl; exact (match us, hl with | [_], _ => rfl)), My.has_mk X G a6 l6 c6 k6 (by intro _ _ _ _ _ _ us hl; exact (match us, hl with | [_], _ => rfl)), My.has_mk X G a7 l7 c7 k7 (by intro _ _ _ _ _ _ us hl; exact (match us, hl with | [_, _], _ => rfl)), My.has_mk X G a8 l8 c8 k8 (by intro _ _ _ _ _ _ us hl; exact (match us, hl with | [_, _], _ => rfl)), My.has_mk X G a9 l9 c9 k9 (by intro _ _ _ _ _ _ us hl; exact (match us, hl with | [_, _], _ => rfl)), My.has_mk X G a10 l10 c10 k10 (by intro _ _ _ _ _ _ us hl; exact (match us, hl with | [_, _], _ => rfl)), My.has_mk X G a11 l11 c11 k11 (by intro _ _ _ _ _ _ us hl; exact (match us, hl with | [_, _], _ => rfl)), My.has_mk X G a12 l12 c12 k12 (by intro _ _ _ _ _ _ us hl; exact (match us, hl with | [_, _], _ => rfl)), My.has_mk X G a13 l13 c13 k13 (by intro _ _ _ _ _ _ us hl; exact (match us, hl with | [_], _ => rfl)), My.has_mk X G a14 l14 c14 k14 (by intro _ _ _ _ _ _ us hl; exact (match us, hl with | [_, _], _ => rfl)), My.has_mk X G a15 l15 c15 k15 (by intro _ _ _ _ _ _ us hl; exact (match us, hl with | [_, _], _ => rfl)), My.has_mk X G a16 l16 c16 k16 (by intro _ _ _ _ _ _ us hl; exact (match us, hl with | [_, _], _ => rfl)), My.has_mk X G a17 l17 c17 k17 (by intro _ _ _ _ _ _ us hl; exact (match us, hl with | [_, _, _], _ => rfl)), My.has_mk X G a18 l18 c18 k18 (by intro _ _ _ _ _ _ us hl; exact (match us, hl with | [_], _ => rfl)), PySem.W.mg_none_of X G z_abs, PySem.W.mg_none_of X G z_bool, PySem.W.mg_none_of X G z_divmod, PySem.W.mg_none_of X G z_int, PySem.W.mg_none_of X G z_isinstance, PySem.W.mg_none_of X G z_len, PySem.W.mg_none_of X G z_range, PySem.W.mg_none_of X G z_tuple, PySem.W.mg_of X G z_gcd⟩
  have e := hfa.symm.trans (PySem.W.mg_of X G a18)
  cases e
  refine ⟨PySem.W.fnOf "law" "law" (defArgs s_law) (defBody s_law) (defScope s_law) .none kV18 dc18 pm18 an18 cd18 ct18, fun s v => .of_eq rfl, fun base _ _ => ?_⟩
  have c__law_source : Cal P w K mg base 1 "_law_source" (sp__law_source K) [] := cal__law_source T 
  have c__law_draw : Cal P w K mg base 1 "_law_draw" (sp__law_draw K) [] := cal__law_draw T 
  have c_is_integer : Cal P w K mg base 1 "is_integer" (sp_is_integer K) [] := cal_is_integer T 
  have c_inverse : Cal P w K mg base 1 "inverse" (sp_inverse K) [] := cal_inverse T 
  have c_lies_in : Cal P w K mg base 1 "lies_in" (sp_lies_in K) [] := cal_lies_in T 
  have c_is_class : Cal P w K mg base 2 "is_class" (sp_is_class K) [] := cal_is_class T c_is_integer
  have c_check_class : Cal P w K mg base 3 "check_class" (sp_check_class K) [] := cal_check_class T c_is_class
  have c_have_common : Cal P w K mg base 1 "have_common" (sp_have_common K) [] := cal_have_common T 
  have c_common_class : Cal P w K mg base 2 "common_class" (sp_common_class K) [] := cal_common_class T c_have_common c_inverse
  have c_meet : Cal P w K mg base 4 "meet" (sp_meet K) [] := cal_meet T c_check_class c_common_class
  have c_is_within : Cal P w K mg base 4 "is_within" (sp_is_within K) [] := cal_is_within T c_check_class c_lies_in
  have c__law_divisor : Cal P w K mg base 1 "_law_divisor" (sp__law_divisor K) [] := cal__law_divisor T 
  have c__law_great : Cal P w K mg base 2 "_law_great" (sp__law_great K) [] := cal__law_great T c__law_draw
  have c__law_modulus : Cal P w K mg base 3 "_law_modulus" (sp__law_modulus K) [] := cal__law_modulus T c__law_draw c__law_great
  have c__law_class : Cal P w K mg base 4 "_law_class" (sp__law_class K) [] := cal__law_class T c__law_modulus c__law_draw c__law_great
  have c__law_lies : Cal P w K mg base 1 "_law_lies" (sp__law_lies K) [] := cal__law_lies T 
  have c__law_fits : Cal P w K mg base 5 "_law_fits" (sp__law_fits K) [] := cal__law_fits T c_meet c__law_divisor c_is_within c__law_lies
  have c__law_three_fit : Cal P w K mg base 5 "_law_three_fit" (sp__law_three_fit K) [] := cal__law_three_fit T c_meet
  exact ok_law T (fun_mk (st := s_law) l18 c18 k18) c__law_source c__law_great c__law_class c__law_draw c__law_fits c__law_three_fit
end My
open PySem PySem.W PyProof.Rows
set_option maxHeartbeats 0 in
theorem PySem.Challenge.cw_bymarks_k02_whole_meets_holds : PySem.Challenge.rw_bymarks_k02_whole_meets.Holds := by
  w_on; o_law; k_head; (case hw => w_witness2)
  k_fill
  refine L2.walk_of (l := PySem.Challenge.rw_bymarks_k02_whole_meets) (n := 63) (k := 6) (x := "_law_script") (CX := fun _ => L2.CX0) (sp := fun w => My.sp_law _) rfl (by decide) rfl ⟨rfl, by decide, by decide⟩ (fun w h Y => PySem.W.kIn_of Y) ?F (fun w H a ns hl hO hS => My.law_start hl hO hS) (fun _ _ _ _ _ h => h)
  case F =>
    intro w mg fa h KX G hmg
    refine' My.all_mk KX G hmg ?a0 ?l0 ?c0 ?k0 ?a1 ?l1 ?c1 ?k1 ?a2 ?l2 ?c2 ?k2 ?a3 ?l3 ?c3 ?k3 ?a4 ?l4 ?c4 ?k4 ?a5 ?l5 ?c5 ?k5 ?a6 ?l6 ?c6 ?k6 ?a7 ?l7 ?c7 ?k7 ?a8 ?l8 ?c8 ?k8 ?a9 ?l9 ?c9 ?k9 ?a10 ?l10 ?c10 ?k10 ?a11 ?l11 ?c11 ?k11 ?a12 ?l12 ?c12 ?k12 ?a13 ?l13 ?c13 ?k13 ?a14 ?l14 ?c14 ?k14 ?a15 ?l15 ?c15 ?k15 ?a16 ?l16 ?c16 ?k16 ?a17 ?l17 ?c17 ?k17 ?a18 ?l18 ?c18 ?k18 ?z_abs ?z_bool ?z_divmod ?z_int ?z_isinstance ?z_len ?z_range ?z_tuple ?z_gcd
    (case a0 => k_is)
    (case l0 => k_is)
    (case c0 => k_is)
    (case k0 => k_is)
    (case a1 => k_is)
    (case l1 => k_is)
    (case c1 => k_is)
    (case k1 => k_is)
    (case a2 => k_is)
    (case l2 => k_is)
    (case c2 => k_is)
    (case k2 => k_is)
    (case a3 => k_is)
    (case l3 => k_is)
    (case c3 => k_is)
    (case k3 => k_is)
    (case a4 => k_is)
    (case l4 => k_is)
    (case c4 => k_is)
    (case k4 => k_is)
    (case a5 => k_is)
    (case l5 => k_is)
    (case c5 => k_is)
    (case k5 => k_is)
    (case a6 => k_is)
    (case l6 => k_is)
    (case c6 => k_is)
    (case k6 => k_is)
    (case a7 => k_is)
    (case l7 => k_is)
    (case c7 => k_is)
    (case k7 => k_is)
    (case a8 => k_is)
    (case l8 => k_is)
    (case c8 => k_is)
    (case k8 => k_is)
    (case a9 => k_is)
    (case l9 => k_is)
    (case c9 => k_is)
    (case k9 => k_is)
    (case a10 => k_is)
    (case l10 => k_is)
    (case c10 => k_is)
    (case k10 => k_is)
    (case a11 => k_is)
    (case l11 => k_is)
    (case c11 => k_is)
    (case k11 => k_is)
    (case a12 => k_is)
    (case l12 => k_is)
    (case c12 => k_is)
    (case k12 => k_is)
    (case a13 => k_is)
    (case l13 => k_is)
    (case c13 => k_is)
    (case k13 => k_is)
    (case a14 => k_is)
    (case l14 => k_is)
    (case c14 => k_is)
    (case k14 => k_is)
    (case a15 => k_is)
    (case l15 => k_is)
    (case c15 => k_is)
    (case k15 => k_is)
    (case a16 => k_is)
    (case l16 => k_is)
    (case c16 => k_is)
    (case k16 => k_is)
    (case a17 => k_is)
    (case l17 => k_is)
    (case c17 => k_is)
    (case k17 => k_is)
    (case a18 => k_is)
    (case l18 => k_is)
    (case c18 => k_is)
    (case k18 => k_is)
    (case z_abs => k_is)
    (case z_bool => k_is)
    (case z_divmod => k_is)
    (case z_int => k_is)
    (case z_isinstance => k_is)
    (case z_len => k_is)
    (case z_range => k_is)
    (case z_tuple => k_is)
    (case z_gcd => k_is)
