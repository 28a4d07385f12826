import PyProof.Rows.All
import Wide.All
import OpenK.AllK
import Wide.FinOn
import PySem.Challenge.RW_bymarks_k03_whole_lists_of_classes
import HandS.ForMost
import HandS.Codes
import HandS.Wide
import HandS.WideBits
import HandS.Gcd
import HandS.IsInst
import HandS.NoneIn
import HandS.Style
set_option Elab.async false
set_option linter.all false
set_option maxRecDepth 100000
set_option maxHeartbeats 4000000
/-! own text: rules beside the layer's, steps over readings, heaps that are kept, a law's source of numbers -/
namespace My
open PySem PySem.Spec PyProof.Rows L2
open C8 (Cal pe_c pe_gc)
/-! ### rules -/
def CPowW (i j : Int) : Prop := 0 ≤ j ∧ (Builtin.Int.intBits i : Int) * j ≤ 2 ^ 27
section
variable {X : Cx}
theorem op_powW : OpR X (binaryOp .Pow) (rI CPowW fun i j => .int (i ^ j.toNat)) := opI fun _ _ _ _ _ _ _ hc q => pow_int hc.1 hc.2 q
theorem call_divmodB : CallR X (.builtin "divmod") (fun xs H Q => ∃ i j, xs = [.int i, .int j] ∧ CDivW i j ∧ ∀ p, H p = none → Q (.ref p) (upd H p (.tup [.int (i / j), .int (i % j)]))) := by
  intro pins s σ H xs us Q I r h
  obtain ⟨i, j, rfl, hc, q⟩ := h
  exact call_divmodW pins s σ H _ us Q I r ⟨i, j, rfl, ⟨hc.1, PyProof.noPylong_of_log2 hc.2⟩, q⟩
theorem call_intI : CallR X (.type "int") (fun xs H Q => ∃ i, xs = [.int i] ∧ Q (.int i) H) := by
  intro pins s σ H xs us Q I r h
  exact call_int1 pins s σ H xs us Q I r (.inl h)
theorem call_absI : CallR X (.builtin "abs") (fun xs H Q => ∃ i, xs = [.int i] ∧ Q (.int (i.natAbs : Int)) H) := by
  intro pins s σ H xs us Q I r h
  obtain ⟨i, e, q⟩ := h
  refine call_abs pins s σ H xs us Q I r ⟨i, e, ?_⟩
  have e2 : (if i < 0 then -i else i) = (i.natAbs : Int) := by split <;> omega
  rw [e2]
  exact q
theorem call_intB : CallR X (.type "int") (fun xs H Q => ∃ k : Bool, xs = [.bl k] ∧ Q (.int (if k then 1 else 0)) H) := by
  intro pins s σ H xs us Q I r h
  exact call_int1 pins s σ H xs us Q I r (.inr h)
end
/-! ### a def of the text, by its name -/
def Has (K : PySem.W.Frag) (mg : Str → Option Value) (x : Str) (st : Stmt) (ps : List Str) : Prop := ∃ (f : Addr) (fd : FuncData), Fun K x x st f fd ∧ mg x = some (.ref f) ∧ Binds K fd ps []
section
variable {P : Program} {w : World} {K : PySem.W.Frag} {mg : Str → Option Value} {base : Heap}
theorem mkCal {x : Str} {st : Stmt} {f : Addr} {fd : FuncData} {N ps : List Str} {k : Nat} {sp : Sp} (F : Fun K x x st f fd) (gF : mg x = some (.ref f)) (b : Binds K fd ps []) (S : FnScope N ps (defScope st)) (len : ∀ vs H Q E, sp vs H Q E → vs.length = ps.length)
    (hbody : ∀ (cdv : Value) (A : Around) (outer : List Env) (s : Shared) (H : Hp) (vs : List V) (Q : VK) (E : XK), Room k (A.deeper (envOfC x (defScope st) s.heap.objs.size f cdv)) → sp vs H Q E →
      ∃ t, PSs (cxOf CX0 P w K mg base N x (defScope st) f cdv A outer s H E).nox (defBody st) t ∧ t { nx := fun _ H' => Q .non H', rt := Q } (start N vs) H) : Cal P w K mg base (k + 1) x sp [] :=
  ⟨f, fd, ps, [], F.ok S len hbody, gF, F.kp, b, .nil⟩
theorem has_mk {x : Str} {st : Stmt} {h : Heap} {f : Addr} {oc : Value} {od an : Option Addr} {osl : Array (Option Value)} {kV doc pm cdv ct : Value} {ps : List Str} (X : K.In h) (G : h.Ns mainGlobals mg)
    (a : PySem.W.nsIn K mainGlobals x = some (some (.ref f))) (l : K.lookup f = some ⟨oc, od, .func (PySem.W.fnOf x x (defArgs st) (defBody st) (defScope st) .none kV doc pm an cdv ct), osl⟩)
    (c : PySem.W.codeIn K cdv x = true) (k : PySem.W.keepIn K (.ref f) = true)
    (hb : ∀ (kV doc pm : Value) (an : Option Addr) (cdv ct : Value) (us : List Value), us.length = ps.length → bindArgs (PySem.W.fnOf x x (defArgs st) (defBody st) (defScope st) .none kV doc pm an cdv ct) ⟨us, []⟩ = pure (ps.zip us)) : Has K mg x st ps :=
  ⟨f, _, fun_mk (st := st) l c k, PySem.W.mg_of X G a, (fun_mk (st := st) l c k).binds hb⟩
end
/-! ### steps over readings -/
section
variable {σ : L2.St} {H : Hp} {D : Ends} {Q : VK} {K : PySem.W.Frag} {ta tb te tc : TE} {t u : TS} {c c' : TT} {g : TG}
theorem r_seq (h : t { D with nx := u D } σ H) : tSeq t u D σ H := h
theorem r_nx {f : L2.St → Hp → Prop} {r b e} (h : f σ H) : Ends.nx ⟨f, r, b, e⟩ σ H := h
theorem r_rt {f : V → Hp → Prop} {n b e} {v : V} (h : f v H) : Ends.rt ⟨n, f, b, e⟩ v H := h
theorem r_bk {f : L2.St → Hp → Prop} {n r e} (h : f σ H) : Ends.bk ⟨n, r, f, e⟩ σ H := h
theorem r_ct {f : L2.St → Hp → Prop} {n r b} (h : f σ H) : Ends.ct ⟨n, r, b, f⟩ σ H := h
theorem r_next (h : D.nx σ H) : tNext D σ H := h
theorem r_asg (h : te σ H fun x H1 => g x σ H1 D.nx) : tAsg te g D σ H := h
theorem r_name {i : Nat} {v : V} {R : L2.St → Hp → Prop} (h : R (σ.set i (some v)) H) : gName i v σ H R := h
theorem r_ret (h : te σ H D.rt) : tRet te D σ H := h
theorem r_drop (h : te σ H fun _ H1 => D.nx σ H1) : tDrop te D σ H := h
theorem r_ifS (h : c σ H fun b H1 => if b = true then t D σ H1 else u D σ H1) : tIfS c t u D σ H := h
theorem r_test {R : Bool → Hp → Prop} (h : te σ H fun x H' => ∃ k, x = .bl k ∧ R k H') : tTest te σ H R := h
theorem r_tB {R : Bool → Hp → Prop} (h : te σ H fun x H' => ∃ k, x = .bl k ∧ R k H') : tB te σ H R := h
theorem r_isbl {b : Bool} {R : Bool → Prop} (h : R b) : ∃ k, V.bl b = .bl k ∧ R k := ⟨b, rfl, h⟩
theorem r_and {R : Bool → Hp → Prop} (h : c σ H fun b H1 => if b = true then c' σ H1 R else R false H1) : tAnd c c' σ H R := h
theorem r_or {R : Bool → Hp → Prop} (h : c σ H fun b H1 => if b = true then R true H1 else c' σ H1 R) : tOr c c' σ H R := h
theorem r_not {R : Bool → Hp → Prop} (h : c σ H fun b H1 => R (!b) H1) : tNot c σ H R := h
theorem r_var {i : Nat} {v : V} (e : σ[i]? = some (some v)) (h : Q v H) : tVar i σ H Q := ⟨v, e, h⟩
theorem r_c {v : V} (h : Q v H) : tC v σ H Q := h
theorem r_op {r : R2} (h : ta σ H fun x H1 => tb σ H1 fun y H2 => r x y H2 Q) : tOp r ta tb σ H Q := h
theorem r_un {r : V → Hp → VK → Prop} (h : ta σ H fun x H1 => r x H1 Q) : tUn r ta σ H Q := h
theorem r_I0 {f : Int → Int → V} {i j : Int} (h : Q (f i j) H) : rI0 f (.int i) (.int j) H Q := ⟨i, j, rfl, rfl, h⟩
theorem r_I {C : Int → Int → Prop} {f : Int → Int → V} {i j : Int} (hc : C i j) (h : Q (f i j) H) : rI C f (.int i) (.int j) H Q := ⟨i, j, rfl, rfl, hc, h⟩
theorem r_U {f : Int → V} {i : Int} (h : Q (f i) H) : rU f (.int i) H Q := ⟨i, rfl, h⟩
theorem r_eq {x y : V} (hs : scal x y = true) (h : Q (.bl (decide (x = y))) H) : rEq x y H Q := ⟨hs, h⟩
theorem r_ne {x y : V} (hs : scal x y = true) (h : Q (.bl (!decide (x = y))) H) : rNe x y H Q := ⟨hs, h⟩
theorem r_eqI {i j : Int} (h : Q (.bl (decide (i = j))) H) : rEq (.int i) (.int j) H Q := by
  refine ⟨rfl, ?_⟩
  rw [show decide (V.int i = V.int j) = decide (i = j) by rw [dec_int]; exact Bool.beq_eq_decide_eq i j]
  exact h
theorem r_neI {i j : Int} (h : Q (.bl (!decide (i = j))) H) : rNe (.int i) (.int j) H Q := by
  refine ⟨rfl, ?_⟩
  rw [show decide (V.int i = V.int j) = decide (i = j) by rw [dec_int]; exact Bool.beq_eq_decide_eq i j]
  exact h
theorem r_nil {R : List V → Hp → Prop} (h : R [] H) : tNil σ H R := h
theorem r_cons {tr : TA} {R : List V → Hp → Prop} (h : ta σ H fun x H1 => tr σ H1 fun xs H2 => R (x :: xs) H2) : tCons ta tr σ H R := h
theorem r_tup {tr : TA} (h : tr σ H fun xs H1 => xs.length ≤ sizeLine ∧ ∀ p, H1 p = none → Q (.ref p) (upd H1 p (.tup xs))) : tTup tr σ H Q := h
theorem r_lst {tr : TA} (h : tr σ H fun xs H1 => xs.length ≤ sizeLine ∧ ∀ p, H1 p = none → Q (.ref p) (upd H1 p (.lst xs))) : tLst tr σ H Q := h
theorem r_call {sp : Sp} {dvs : List V} {E : XK} {tr : TA} (h : tr σ H fun vs H1 => sp (vs ++ dvs) H1 Q E) : tCall sp dvs E tr σ H Q := h
theorem r_cb {r : List V → Hp → VK → Prop} {tr : TA} (h : tr σ H fun vs H1 => r vs H1 Q) : tCB r tr σ H Q := h
theorem r_ixL {p : Addr} {xs : List V} {i : Int} {v : V} (hs : SqL K H p xs) (ha : atI xs i = some v) (h : Q v H) : rIxL K (.ref p) (.int i) H Q := ⟨p, xs, i, v, rfl, rfl, hs, ha, h⟩
theorem r_ixT {p : Addr} {xs : List V} {i : Int} {v : V} (hs : SqT K H p xs) (ha : atI xs i = some v) (h : Q v H) : rIxT K (.ref p) (.int i) H Q := ⟨p, xs, i, v, rfl, rfl, hs, ha, h⟩
theorem r_andV (h : ta σ H fun x H1 => ∃ c, x = .bl c ∧ if c = true then tb σ H1 Q else Q (.bl false) H1) : tAndV ta tb σ H Q := h
theorem r_orV (h : ta σ H fun x H1 => ∃ c, x = .bl c ∧ if c = true then Q (.bl true) H1 else tb σ H1 Q) : tOrV ta tb σ H Q := h
theorem r_notV (h : ta σ H fun x H1 => ∃ c, x = .bl c ∧ Q (.bl (!c)) H1) : tNotV ta σ H Q := h
theorem r_ite {p A B : Prop} [Decidable p] (h1 : p → A) (h2 : ¬ p → B) : if p then A else B := by
  by_cases h : p
  · rw [if_pos h]; exact h1 h
  · rw [if_neg h]; exact h2 h
theorem r_dec {p A B : Prop} [Decidable p] (h1 : p → A) (h2 : ¬ p → B) : if decide p = true then A else B := by
  by_cases h : p
  · rw [decide_eq_true h]; exact h1 h
  · rw [decide_eq_false h]; exact h2 h
theorem r_ndec {p A B : Prop} [Decidable p] (h1 : ¬ p → A) (h2 : p → B) : if (!decide p) = true then A else B := by
  by_cases h : p
  · rw [decide_eq_true h]; exact h2 h
  · rw [decide_eq_false h]; exact h1 h
theorem r_T {A B : Prop} (h : A) : if true = true then A else B := h
theorem r_F {A B : Prop} (h : B) : if false = true then A else B := by rw [if_neg Bool.false_ne_true]; exact h
theorem r_nT {A B : Prop} (h : B) : if (!true) = true then A else B := r_F h
theorem r_nF {A B : Prop} (h : A) : if (!false) = true then A else B := h
theorem r_sl {r : V → Option Int → Option Int → Hp → VK → Prop} {tl th : TO} (h : te σ H fun x H1 => tl σ H1 fun l H2 => th σ H2 fun u H3 => r x l u H3 Q) : L2.tSl r te tl th σ H Q := h
theorem r_slL {p : Addr} {xs : List V} {lo hi : Option Int} (hs : SqL K H p xs) (h : ∀ q, H q = none → Q (.ref q) (upd H q (.lst (cutV xs lo hi)))) : rSlL K (.ref p) lo hi H Q := ⟨p, xs, rfl, hs, h⟩
theorem r_par {i j : Nat} {tr : TA} (h : tr σ H fun vs H1 => ∃ v w, vs = [v, w] ∧ D.nx ((σ.set i (some v)).set j (some w)) H1) : tPar i j tr D σ H := h
theorem r_sub {to ti : TE} {ts : TSet} {v : V} {R : L2.St → Hp → Prop} (h : to σ H fun o H1 => ti σ H1 fun i H2 => ts o i v H2 fun H3 => R σ H3) : gSub to ti ts v σ H R := h
theorem r_setL {p : Addr} {xs : List V} {k : Int} {j : Nat} {v : V} {R : Hp → Prop} (hp : H p = some (.lst xs)) (hj : ixN xs.length k = some j) (h : R (upd H p (.lst (xs.set j v)))) : rSetL (.ref p) (.int k) v H R := ⟨p, xs, k, j, rfl, rfl, hp, hj, h⟩
theorem r_int {i : Int} {R : Int → Prop} (h : R i) : ∃ i', [V.int i] = [V.int i'] ∧ R i' := ⟨i, rfl, h⟩
theorem r_int2 {i j : Int} {R : Int → Int → Prop} (h : R i j) : ∃ i' j', [V.int i, V.int j] = [V.int i', V.int j'] ∧ R i' j' := ⟨i, j, rfl, h⟩
theorem r_gtup {n : Nat} {tg : TGs} {p : Addr} {xs : List V} {R : L2.St → Hp → Prop} (hs : SqT K H p xs) (hl : xs.length = n) (h : tg xs σ H R) : gTup K n tg (.ref p) σ H R := ⟨p, xs, rfl, hs, hl, h⟩
theorem r_gunl {n : Nat} {tg : TGs} {p : Addr} {xs : List V} {R : L2.St → Hp → Prop} (hs : SqL K H p xs) (hl : xs.length = n) (h : tg xs σ H R) : gUnl K n tg (.ref p) σ H R := ⟨p, xs, rfl, hs, hl, h⟩
theorem r_gcons {tg : TG} {us : TGs} {v : V} {r : List V} {R : L2.St → Hp → Prop} (h : tg v σ H fun σ' H' => us r σ' H' R) : gCons tg us (v :: r) σ H R := ⟨v, r, rfl, h⟩
theorem r_gnil {R : L2.St → Hp → Prop} (h : R σ H) : gNil [] σ H R := ⟨rfl, h⟩
theorem r_chain {r r' : R2} (h : ta σ H fun x H1 => tb σ H1 fun y H2 => r x y H2 fun z H3 => ∃ k, z = .bl k ∧ (if k = true then tc σ H3 fun w' H4 => r' y w' H4 Q else Q (.bl false) H3)) : tChain r r' ta tb tc σ H Q := h
theorem r_tuple2 {v w : V} {R : V → V → Prop} (h : R v w) : ∃ v' w', [v, w] = [v', w'] ∧ R v' w' := ⟨v, w, rfl, h⟩
end
theorem r_start {N : List Str} {vs : List V} {σ : L2.St} {H : Hp} {D : Ends} {t : TS} (e : L2.start N vs = σ) (h : t D σ H) : t D (L2.start N vs) H := by rw [e]; exact h
section
variable {σ : L2.St} {H : Hp} {te : TE}
theorem r_part {R : Option Int → Hp → Prop} (h : te σ H fun x H1 => ∃ i, x = .int i ∧ R (some i) H1) : tPart te σ H R := h
theorem r_nopart {R : Option Int → Hp → Prop} (h : R none H) : tNoPart σ H R := h
theorem r_isint {i : Int} {R : Int → Prop} (h : R i) : ∃ k, V.int i = .int k ∧ R k := ⟨i, rfl, h⟩
end
theorem r_lenL {K : PySem.W.Frag} {H : Hp} {p : Addr} {ys : List V} {R : List V → Prop} (hs : SqL K H p ys) (h : R ys) : ∃ p' ys', [V.ref p] = [V.ref p'] ∧ (SqL K H p' ys' ∨ SqT K H p' ys') ∧ R ys' := ⟨p, ys, rfl, .inl hs, h⟩
theorem r_lenT {K : PySem.W.Frag} {H : Hp} {p : Addr} {ys : List V} {R : List V → Prop} (hs : SqT K H p ys) (h : R ys) : ∃ p' ys', [V.ref p] = [V.ref p'] ∧ (SqL K H p' ys' ∨ SqT K H p' ys') ∧ R ys' := ⟨p, ys, rfl, .inr hs, h⟩
theorem r_sz {n : Nat} {R : Prop} (hn : n ≤ 16777216) (h : R) : n ≤ sizeLine ∧ R := ⟨Nat.le_trans hn (by decide), h⟩
theorem r_eqD {K : PySem.W.Frag} {H : Hp} {x y : V} {d e : PyData} {R : PyData → PyData → Prop} (hd : Dp K H x d) (he : Dp K H y e) (h1 : SeqAt.shaped d = true) (h2 : SeqAt.shaped e = true) (h : R d e) :
    ∃ d' e', Dp K H x d' ∧ Dp K H y e' ∧ SeqAt.shaped d' = true ∧ SeqAt.shaped e' = true ∧ R d' e' := ⟨d, e, hd, he, h1, h2, h⟩
theorem r_non {R : Prop} (h : R) : V.non = V.non ∧ R := ⟨rfl, h⟩
theorem r_neB {H : Hp} {Q : VK} {a b : Bool} (h : Q (.bl (!decide (a = b))) H) : rNe (.bl a) (.bl b) H Q := by
  refine ⟨rfl, ?_⟩
  rw [show decide (V.bl a = V.bl b) = decide (a = b) from decide_eq_decide.mpr ⟨fun e => V.bl.inj e, fun e => by rw [e]⟩]
  exact h
theorem r_eqB {H : Hp} {Q : VK} {a b : Bool} (h : Q (.bl (decide (a = b))) H) : rEq (.bl a) (.bl b) H Q := by
  refine ⟨rfl, ?_⟩
  rw [show decide (V.bl a = V.bl b) = decide (a = b) from decide_eq_decide.mpr ⟨fun e => V.bl.inj e, fun e => by rw [e]⟩]
  exact h
theorem cx_K {CX : CXT} {P : Program} {w : World} {K : PySem.W.Frag} {mg : Str → Option Value} {base : Heap} {N : List Str} {qual : Str} {scope : Scope} {f : Addr} {cd : Value} {A : Around} {outer : List Env} {s : Shared} {H : Hp} {E : XK} :
    (cxOf CX P w K mg base N qual scope f cd A outer s H E).K = K := rfl
/-! ### loops -/
def LoopW (J : It) (g : TG) (ts : TS) (D : Ends) (σ : L2.St) (H : Hp) : Prop := ∃ W : Nat → Nat → L2.St → Hp → Prop, (∃ m, W 0 m σ H) ∧ ∀ i m σ H, W i m σ H →
  (J.stop i H ∧ D.nx σ H) ∨ (J.go i H ∧ ∃ N : L2.St → Hp → Prop, (∀ σ' H', N σ' H' → ∃ m', m' < m ∧ W (i + 1) m' σ' H') ∧ ∀ x H', J.yld i H x H' → g x σ H' fun σ2 H2 => ts { D with nx := N, ct := N, bk := D.nx } σ2 H2)
def LcW (J : It) (g : TG) (tt : TT) (te : TE) (vs : List Nat) (σ : L2.St) (H1 : Hp) (Dl : Addr) (Qd : Hp → Prop) : Prop := ∃ W : Nat → Nat → Hp → Prop, (∃ m, W 0 m (upd H1 Dl (.lst []))) ∧ ∀ i m H, W i m H →
  (J.stop i H ∧ Qd H) ∨ (J.go i H ∧ ∃ Nx : Hp → Prop, (∀ H', Nx H' → ∃ m', m' < m ∧ W (i + 1) m' H') ∧ ∀ x H', J.yld i H x H' → g x (wipe σ vs) H' fun σ2 H2 => wipe σ2 vs = wipe σ vs ∧ tt σ2 H2 fun b H3 =>
    if b = true then te σ2 H3 fun y H4 => ∃ acc, H4 Dl = some (.lst acc) ∧ acc.length < sizeLine ∧ Nx (upd H4 Dl (.lst (acc ++ [y]))) else Nx H3)
section
variable {σ : L2.St} {H : Hp} {D : Ends} {Q : VK} {K : PySem.W.Frag} {ta : TA} {tl tb te : TE} {ts : TS} {c tt : TT} {g : TG} {wi : TI} {vs : List Nat}
theorem r_for (h : wi σ H fun J H1 => LoopW J g ts D σ H1) : tFor wi g ts D σ H := h
theorem r_lc (h : wi σ H fun J H1 => ∀ Dl, H1 Dl = none → LcW J g tt te vs σ H1 Dl fun H' => Q (.ref Dl) H') : tLc wi g tt te vs σ H Q := h
theorem r_rng1 {R : It → Hp → Prop} (h : ta σ H fun us H1 => ∃ j : Int, us = [.int j] ∧ -(2 ^ 62) ≤ j ∧ j < 2 ^ 62 ∧ R (Itr 0 j.toNat) H1) : iRng1 ta σ H R := h
theorem r_rng2 {R : It → Hp → Prop} (h : ta σ H fun us H1 => ∃ i j : Int, us = [.int i, .int j] ∧ (-(2 ^ 62) ≤ i ∧ i < 2 ^ 62 ∧ -(2 ^ 62) ≤ j ∧ j < 2 ^ 62) ∧ R (Itr i (j - i).toNat) H1) : iRng2 ta σ H R := h
theorem r_ilist {R : It → Hp → Prop} (h : tl σ H fun x H1 => ∃ a, x = .ref a ∧ (∃ xs, SqL K H1 a xs) ∧ R (Itl K a) H1) : iList K tl σ H R := h
theorem r_itup {R : It → Hp → Prop} (h : tl σ H fun x H1 => ∃ a, x = .ref a ∧ (∃ xs, SqT K H1 a xs) ∧ R (Itt K a) H1) : iTup K tl σ H R := h
theorem r_rgL (n : Nat) {j : Int} (e : j = (n : Int)) (hn : n < 2 ^ 62) (h : LoopW (Itr 0 n) g ts D σ H) : -(2 ^ 62) ≤ j ∧ j < 2 ^ 62 ∧ LoopW (Itr 0 j.toNat) g ts D σ H := by
  subst e
  exact ⟨by omega, by omega, by rw [Int.toNat_natCast]; exact h⟩
theorem r_rgC {R : Addr → Hp → Prop} (n : Nat) {j : Int} (e : j = (n : Int)) (hn : n < 2 ^ 62) (h : ∀ Dl, H Dl = none → LcW (Itr 0 n) g tt te vs σ H Dl (R Dl)) :
    -(2 ^ 62) ≤ j ∧ j < 2 ^ 62 ∧ ∀ Dl, H Dl = none → LcW (Itr 0 j.toNat) g tt te vs σ H Dl (R Dl) := by
  subst e
  exact ⟨by omega, by omega, by rw [Int.toNat_natCast]; exact h⟩
theorem r_islist {R : Addr → Prop} {a : Addr} {xs : List V} (hs : SqL K H a xs) (h : R a) : ∃ a', V.ref a = .ref a' ∧ (∃ xs, SqL K H a' xs) ∧ R a' := ⟨a, rfl, ⟨xs, hs⟩, h⟩
theorem r_istup {R : Addr → Prop} {a : Addr} {xs : List V} (hs : SqT K H a xs) (h : R a) : ∃ a', V.ref a = .ref a' ∧ (∃ xs, SqT K H a' xs) ∧ R a' := ⟨a, rfl, ⟨xs, hs⟩, h⟩
theorem loop_range {n : Nat} (Pv : Nat → L2.St → Hp → Prop) (h0 : Pv 0 σ H)
    (hs : ∀ i σ' H', i < n → Pv i σ' H' → g (.int (i : Int)) σ' H' fun σ2 H2 => ts { D with nx := Pv (i + 1), ct := Pv (i + 1), bk := D.nx } σ2 H2) (hd : ∀ σ' H', Pv n σ' H' → D.nx σ' H') : LoopW (Itr 0 n) g ts D σ H :=
  for_range Pv h0 (fun i σ' H' hi p => by rw [Int.zero_add]; exact hs i σ' H' hi p) hd
theorem r_rg2L {lo hi : Int} (n : Nat) (e : (hi - lo).toNat = n) (hb : -(2 ^ 62) ≤ lo ∧ lo < 2 ^ 62 ∧ -(2 ^ 62) ≤ hi ∧ hi < 2 ^ 62) (h : LoopW (Itr lo n) g ts D σ H) :
    (-(2 ^ 62) ≤ lo ∧ lo < 2 ^ 62 ∧ -(2 ^ 62) ≤ hi ∧ hi < 2 ^ 62) ∧ LoopW (Itr lo (hi - lo).toNat) g ts D σ H := ⟨hb, by rw [e]; exact h⟩
theorem loop_range2 {lo : Int} {n : Nat} (Pv : Nat → L2.St → Hp → Prop) (h0 : Pv 0 σ H)
    (hs : ∀ i σ' H', i < n → Pv i σ' H' → g (.int (lo + (i : Int))) σ' H' fun σ2 H2 => ts { D with nx := Pv (i + 1), ct := Pv (i + 1), bk := D.nx } σ2 H2) (hd : ∀ σ' H', Pv n σ' H' → D.nx σ' H') : LoopW (Itr lo n) g ts D σ H := for_range Pv h0 hs hd
theorem loop_list {a : Addr} {xs : List V} (Pv : Nat → L2.St → Hp → Prop) (h0 : Pv 0 σ H) (hl : ∀ i σ' H', i ≤ xs.length → Pv i σ' H' → SqL K H' a xs)
    (hs : ∀ i x σ' H', xs[i]? = some x → Pv i σ' H' → g x σ' H' fun σ2 H2 => ts { D with nx := Pv (i + 1), ct := Pv (i + 1), bk := D.nx } σ2 H2) (hd : ∀ σ' H', Pv xs.length σ' H' → D.nx σ' H') : LoopW (Itl K a) g ts D σ H := for_list Pv h0 hl hs hd
theorem loop_tup {a : Addr} {xs : List V} (Pv : Nat → L2.St → Hp → Prop) (h0 : Pv 0 σ H) (hl : ∀ i σ' H', i ≤ xs.length → Pv i σ' H' → SqT K H' a xs)
    (hs : ∀ i x σ' H', xs[i]? = some x → Pv i σ' H' → g x σ' H' fun σ2 H2 => ts { D with nx := Pv (i + 1), ct := Pv (i + 1), bk := D.nx } σ2 H2) (hd : ∀ σ' H', Pv xs.length σ' H' → D.nx σ' H') : LoopW (Itt K a) g ts D σ H := for_tup Pv h0 hl hs hd
theorem comp_range {n : Nat} {H1 : Hp} {Dl : Addr} {Qd : Hp → Prop} (Pv : Nat → Hp → Prop) (h0 : Pv 0 (upd H1 Dl (.lst [])))
    (hs : ∀ i H, i < n → Pv i H → g (.int (i : Int)) (wipe σ vs) H fun σ2 H2 => wipe σ2 vs = wipe σ vs ∧ tt σ2 H2 fun b H3 =>
      if b = true then te σ2 H3 fun y H4 => ∃ acc, H4 Dl = some (.lst acc) ∧ acc.length < sizeLine ∧ Pv (i + 1) (upd H4 Dl (.lst (acc ++ [y]))) else Pv (i + 1) H3) (hd : ∀ H, Pv n H → Qd H) : LcW (Itr 0 n) g tt te vs σ H1 Dl Qd :=
  lc_range Pv h0 (fun i H hi p => by rw [Int.zero_add]; exact hs i H hi p) hd
theorem comp_list {a : Addr} {xs : List V} {H1 : Hp} {Dl : Addr} {Qd : Hp → Prop} (Pv : Nat → Hp → Prop) (h0 : Pv 0 (upd H1 Dl (.lst []))) (hl : ∀ i H, i ≤ xs.length → Pv i H → SqL K H a xs)
    (hs : ∀ i x H, xs[i]? = some x → Pv i H → g x (wipe σ vs) H fun σ2 H2 => wipe σ2 vs = wipe σ vs ∧ tt σ2 H2 fun b H3 =>
      if b = true then te σ2 H3 fun y H4 => ∃ acc, H4 Dl = some (.lst acc) ∧ acc.length < sizeLine ∧ Pv (i + 1) (upd H4 Dl (.lst (acc ++ [y]))) else Pv (i + 1) H3) (hd : ∀ H, Pv xs.length H → Qd H) : LcW (Itl K a) g tt te vs σ H1 Dl Qd := lc_list Pv h0 hl hs hd
theorem r_while (W : Nat → L2.St → Hp → Prop) (m : Nat) (h0 : W m σ H)
    (hs : ∀ m σ H, W m σ H → c σ H fun b H1 => if b = true then ∃ N : L2.St → Hp → Prop, (∀ σ' H', N σ' H' → ∃ m', m' < m ∧ W m' σ' H') ∧ ts { D with nx := N, ct := N, bk := D.nx } σ H1 else D.nx σ H1) : tWhile c ts D σ H := ⟨W, ⟨m, h0⟩, hs⟩
theorem r_again {R : L2.St → Hp → Prop} {rt : V → Hp → Prop} {bk : L2.St → Hp → Prop} (h : ts ⟨R, rt, bk, R⟩ σ H) :
    ∃ N : L2.St → Hp → Prop, (∀ σ' H', N σ' H' → R σ' H') ∧ ts ⟨N, rt, bk, N⟩ σ H := ⟨_, fun _ _ h => h, h⟩
theorem r_gcdN {a b : Nat} (h : Q (.int ((Nat.gcd a b : Nat) : Int)) H) : rGcd [.int (a : Int), .int (b : Int)] H Q := ⟨a, b, rfl, h⟩
theorem r_wipe {A : Prop} {σ2 : L2.St} (e : wipe σ2 vs = wipe σ vs) (h : A) : wipe σ2 vs = wipe σ vs ∧ A := ⟨e, h⟩
end
/-! ### heaps that are kept -/
def Keep (a c : Addr) (H H' : Hp) : Prop := ∀ b o, b ≠ a → b ≠ c → H b = some o → H' b = some o
def Bd (n : Int) : Prop := n.natAbs < 2 ^ 4000
/-- a source of drawn numbers: the list at a holds the cells' list at c and the turn -/
structure Src (H : Hp) (a c : Addr) (t : Int) : Prop where
  src : H a = some (.lst [.ref c, .int t])
  cells : ∃ ns : List Int, H c = some (.lst (ns.map V.int)) ∧ 0 < ns.length ∧ ns.length ≤ 63 ∧ ∀ n ∈ ns, Bd n
  turn : 0 ≤ t
  ne : c ≠ a
abbrev Big : Int := 2 ^ 60
theorem Keep.refl (a c : Addr) (H : Hp) : Keep a c H H := fun _ _ _ _ h => h
theorem Keep.trans {a c : Addr} {H H1 H2 : Hp} (x : Keep a c H H1) (y : Keep a c H1 H2) : Keep a c H H2 := fun b o h1 h2 h => y b o h1 h2 (x b o h1 h2 h)
theorem same_keep {a c : Addr} {H H1 : Hp} (x : Same H H1) : Keep a c H H1 := fun b o _ _ h => x b o h
theorem Same.new {H : Hp} {p : Addr} {o : HO} (h : H p = none) : Same H (upd H p o) := fun b u e => by
  rw [upd_ne (ne_of_none e h)]
  exact e
theorem Src.same {H H' : Hp} {a c : Addr} {t : Int} (s : Src H a c t) (x : Same H H') : Src H' a c t := by
  obtain ⟨h1, ⟨ns, h2, h3⟩, h4, h5⟩ := s
  exact ⟨x _ _ h1, ⟨ns, x _ _ h2, h3⟩, h4, h5⟩
theorem Src.new {H : Hp} {a c p : Addr} {t : Int} {o : HO} (s : Src H a c t) (h : H p = none) : Src (upd H p o) a c t := s.same (Same.new h)
theorem Src.ne_tup {H : Hp} {a c p : Addr} {t : Int} {xs : List V} (s : Src H a c t) (h : H p = some (.tup xs)) : p ≠ a ∧ p ≠ c := by
  obtain ⟨h1, ⟨ns, h2, _⟩, _⟩ := s
  exact ⟨fun e => (by rw [e, h1] at h; cases h), fun e => (by rw [e, h2] at h; cases h)⟩
theorem Src.ne_frz {H : Hp} {a c p : Addr} {t : Int} {o : Obj} {u : HO} (s : Src H a c t) (h : H p = some (.frz o u)) : p ≠ a ∧ p ≠ c := by
  obtain ⟨h1, ⟨ns, h2, _⟩, _⟩ := s
  exact ⟨fun e => (by rw [e, h1] at h; cases h), fun e => (by rw [e, h2] at h; cases h)⟩
theorem Src.ne_none {H : Hp} {a c p : Addr} {t : Int} (s : Src H a c t) (h : H p = none) : p ≠ a ∧ p ≠ c := by
  obtain ⟨h1, ⟨ns, h2, _⟩, _⟩ := s
  exact ⟨fun e => (by rw [e, h1] at h; cases h), fun e => (by rw [e, h2] at h; cases h)⟩
theorem Keep.tup {K : PySem.W.Frag} {H H' : Hp} {a c p : Addr} {t : Int} {xs : List V} (k : Keep a c H H') (s : Src H a c t) (h : SqT K H p xs) : SqT K H' p xs := by
  rcases h with (h | ⟨o, h⟩) | h
  · exact .inl (.inl (k _ _ (s.ne_tup h).1 (s.ne_tup h).2 h))
  · exact .inl (.inr ⟨o, k _ _ (s.ne_frz h).1 (s.ne_frz h).2 h⟩)
  · exact .inr h
theorem Same.tup {K : PySem.W.Frag} {H H' : Hp} {p : Addr} {xs : List V} (k : Same H H') (h : SqT K H p xs) : SqT K H' p xs := by
  rcases h with (h | ⟨o, h⟩) | h
  · exact .inl (.inl (k _ _ h))
  · exact .inl (.inr ⟨o, k _ _ h⟩)
  · exact .inr h
theorem atI0 {α : Type} {x : α} {xs : List α} : atI (x :: xs) 0 = some x := atI_nat (j := 0) rfl
theorem atI1 {α : Type} {x y : α} {xs : List α} : atI (x :: y :: xs) 1 = some y := atI_nat (j := 1) rfl
theorem cut63 {xs : List V} (h : xs.length ≤ 63) : cutV xs none (some 63) = xs := by
  unfold cutV
  rw [show HT.sIx xs.length 0 none = 0 from rfl, show HT.sIx xs.length xs.length (some 63) = min 63 xs.length from HT.sIx_nat xs.length xs.length 63]
  rw [List.drop_zero, show min 63 xs.length - 0 = xs.length by omega, List.take_length]
theorem ixN_nat {n j : Nat} (h : j < n) : ixN n (j : Int) = some j := by
  unfold ixN
  rw [if_pos (by omega), if_pos (by omega), Int.toNat_natCast]
theorem map_set {ns : List Int} {j : Nat} {x : Int} : (ns.map V.int).set j (.int x) = (ns.set j x).map V.int := by
  rw [List.map_set]
theorem bd_small {n : Int} (h : n.natAbs < 2 ^ 64) : Bd n := Nat.lt_of_lt_of_le h (Nat.pow_le_pow_right (by decide) (by decide))
theorem bd_le {n m : Int} (h0 : 0 ≤ n) (h : n ≤ m) (b : Bd m) : Bd n := Nat.lt_of_le_of_lt (by omega) b
/-! ### data -/
def Shp (n : Nat) (d : PyData) : Prop := d.canLay0 = true ∧ d.depth ≤ n
theorem Shp.mono {n m : Nat} {d : PyData} (h : Shp n d) (e : n ≤ m) : Shp m d := ⟨h.1, Nat.le_trans h.2 e⟩
theorem shp_int {n : Nat} {i : Int} : Shp n (.int i) := ⟨by simp [PyData.canLay0], by simp [PyData.depth]⟩
theorem shp_bl {n : Nat} {i : Bool} : Shp n (.bool i) := ⟨by simp [PyData.canLay0], by simp [PyData.depth]⟩
theorem shp_non {n : Nat} : Shp n .none := ⟨by simp [PyData.canLay0], by simp [PyData.depth]⟩
theorem shp_all {n : Nat} : ∀ {ds : List PyData}, (∀ d ∈ ds, Shp n d) → PyData.canLayAll0 ds = true ∧ PyData.depthAll ds ≤ n
  | [], _ => ⟨by simp [PyData.canLayAll0], by simp [PyData.depthAll]⟩
  | d :: ds, h => by
    obtain ⟨h1, h2⟩ := h d List.mem_cons_self
    obtain ⟨h3, h4⟩ := shp_all (ds := ds) fun e he => h e (List.mem_cons_of_mem _ he)
    refine ⟨by rw [PyData.canLayAll0, h1, h3] <;> rfl, ?_⟩
    rw [PyData.depthAll]
    omega
theorem shp_list {n : Nat} {ds : List PyData} (h : ∀ d ∈ ds, Shp n d) : Shp (n + 1) (.list ds) := by
  obtain ⟨h1, h2⟩ := shp_all h
  exact ⟨by rw [PyData.canLay0]; exact h1, by rw [PyData.depth]; omega⟩
theorem shp_tup {n : Nat} {ds : List PyData} (h : ∀ d ∈ ds, Shp n d) : Shp (n + 1) (.tuple ds) := by
  obtain ⟨h1, h2⟩ := shp_all h
  exact ⟨by rw [PyData.canLay0]; exact h1, by rw [PyData.depth]; omega⟩
theorem Shp.ok {n : Nat} {d : PyData} (h : Shp n d) (hn : n ≤ 64 := by decide) : SeqAt.shaped d = true := by
  unfold SeqAt.shaped
  rw [h.1, decide_eq_true (Nat.le_trans h.2 hn)] <;> rfl
theorem eqvAll_map {α : Type} [DecidableEq α] {f : α → PyData} (h : ∀ x y, PyData.eqv (f x) (f y) = decide (x = y)) : ∀ xs ys : List α, PyData.eqvAll (xs.map f) (ys.map f) = decide (xs = ys)
  | [], [] => by simp [PyData.eqvAll]
  | x :: xs, [] => by simp [PyData.eqvAll]
  | [], y :: ys => by simp [PyData.eqvAll]
  | x :: xs, y :: ys => by
    rw [List.map_cons, List.map_cons, PyData.eqvAll, h, eqvAll_map h xs ys]
    by_cases e1 : x = y
    · by_cases e2 : xs = ys
      · simp [e1, e2]
      · simp [e1, e2]
    · simp [e1]
theorem eqv_int (x y : Int) : PyData.eqv (.int x) (.int y) = decide (x = y) := by
  rw [PyData.eqv]
  exact Bool.beq_eq_decide_eq x y
theorem eqv_list {α : Type} [DecidableEq α] {f : α → PyData} (h : ∀ x y, PyData.eqv (f x) (f y) = decide (x = y)) (xs ys : List α) : PyData.eqv (.list (xs.map f)) (.list (ys.map f)) = decide (xs = ys) := by
  rw [PyData.eqv]
  exact eqvAll_map h xs ys
section
variable {K : PySem.W.Frag} {H : Hp}
theorem dp_map {α : Type} {f : α → V} {g : α → PyData} : ∀ {xs : List α}, (∀ x ∈ xs, Dp K H (f x) (g x)) → DpAll K H (xs.map f) (xs.map g)
  | [], _ => .nil
  | x :: xs, h => .cons (h x List.mem_cons_self) (dp_map fun y hy => h y (List.mem_cons_of_mem _ hy))
theorem dp_ints {p : Addr} {ns : List Int} (h : SqL K H p (ns.map V.int)) : Dp K H (.ref p) (.list (ns.map PyData.int)) := .lst h (dp_map fun x _ => .int x)
theorem shp_ints {ns : List Int} : Shp 1 (.list (ns.map PyData.int)) := shp_list fun d hd => by
  obtain ⟨x, _, rfl⟩ := List.mem_map.mp hd
  exact shp_int
end
theorem atI_int {ns : List Int} {j : Nat} {x : Int} (h : ns[j]? = some x) : atI (ns.map V.int) (j : Int) = some (.int x) := atI_nat (by rw [List.getElem?_map, h]; rfl)
theorem get_of {α : Type} {xs : List α} {j : Nat} (h : j < xs.length) : ∃ x, xs[j]? = some x := ⟨xs[j], List.getElem?_eq_getElem h⟩
/-! ### written powers -/
def E1200 : Int := ((10 : Int) ^ 60) ^ 20
theorem e1200_pos : (0 : Int) < E1200 := by decide +kernel
theorem bd_e1200 {n : Int} (h0 : 0 ≤ n) (h : n < E1200) : Bd n := by
  have h2 : E1200.natAbs < 2 ^ 4000 := by decide +kernel
  have h3 : n.natAbs ≤ E1200.natAbs := by omega
  exact Nat.lt_of_le_of_lt h3 h2
section
variable {H : Hp} {Q : VK}
theorem pw_ok {i j n : Int} (h1 : 0 ≤ j) (h2 : (Builtin.Int.intBits i : Int) * j ≤ 2 ^ 27) (e : i ^ j.toNat = n) (h : Q (.int n) H) : rI CPowW (fun i j => V.int (i ^ j.toNat)) (.int i) (.int j) H Q := ⟨i, j, rfl, rfl, ⟨h1, h2⟩, by subst e; exact h⟩
theorem r_pow18 (h : Q (.int 1000000000000000000) H) : rI CPowW (fun i j => V.int (i ^ j.toNat)) (.int 10) (.int 18) H Q := pw_ok (by decide) (by decide) (by decide +kernel) h
theorem r_pow30 (h : Q (.int 1000000000000000000000000000000) H) : rI CPowW (fun i j => V.int (i ^ j.toNat)) (.int 10) (.int 30) H Q := pw_ok (by decide) (by decide) (by decide +kernel) h
theorem r_pow60 (h : Q (.int ((10 : Int) ^ 60)) H) : rI CPowW (fun i j => V.int (i ^ j.toNat)) (.int 10) (.int 60) H Q := pw_ok (by decide) (by decide) (by decide +kernel) h
theorem r_pow1200 (h : Q (.int E1200) H) : rI CPowW (fun i j => V.int (i ^ j.toNat)) (.int ((10 : Int) ^ 60)) (.int 20) H Q := pw_ok (by decide) (by decide +kernel) (by decide +kernel) h
theorem r_mod {i j : Int} (hj : 0 < j) (h : Q (.int (i % j)) H) : rI (fun _ j => 0 < j) (fun i j => V.int (i % j)) (.int i) (.int j) H Q := ⟨i, j, rfl, rfl, hj, h⟩
theorem r_mul {i j : Int} (hc : CMulX i j) (h : Q (.int (i * j)) H) : rI CMulX (fun i j => V.int (i * j)) (.int i) (.int j) H Q := ⟨i, j, rfl, rfl, hc, h⟩
theorem r_div {i j : Int} (hc : CDivW i j) (h : Q (.int (i / j)) H) : rI CDivW (fun i j => V.int (i / j)) (.int i) (.int j) H Q := ⟨i, j, rfl, rfl, hc, h⟩
end
def Sm (i : Int) : Prop := i.natAbs < 2 ^ 20000
theorem mul_sm {i j : Int} (hi : Sm i) (hj : Sm j) : CMulX i j := mulx_ok hi hj (by decide)
theorem Bd.sm {i : Int} (h : Bd i) : Sm i := Nat.lt_trans h (Nat.pow_lt_pow_right (by decide) (by decide))
theorem sm_small {n : Int} (h : n.natAbs < 2 ^ 64) : Sm n := (bd_small h).sm
theorem div_bd {i j : Int} (h0 : 0 < j) (h : Bd j) : CDivW i j := wide_div h0 h (by decide) (by decide)
/-! ### one list changes -/
def Kept (l : Addr) (H H' : Hp) : Prop := ∀ b o, b ≠ l → H b = some o → H' b = some o
theorem Kept.refl (l : Addr) (H : Hp) : Kept l H H := fun _ _ _ h => h
theorem Kept.trans {l : Addr} {H H1 H2 : Hp} (x : Kept l H H1) (y : Kept l H1 H2) : Kept l H H2 := fun b o h1 h => y b o h1 (x b o h1 h)
theorem Kept.same {l : Addr} {H H1 H2 : Hp} (x : Kept l H H1) (y : Same H1 H2) : Kept l H H2 := fun b o h1 h => y b o (x b o h1 h)
theorem Kept.upd {l : Addr} {H H1 : Hp} {o : HO} (x : Kept l H H1) : Kept l H (upd H1 l o) := fun b u h1 h => by
  rw [upd_ne h1]
  exact x b u h1 h
theorem Kept.all {l : Addr} {H H1 H2 : Hp} (s : Same H H1) (hl : H l = none) (k : Kept l H1 H2) : Same H H2 := fun b o h => k b o (ne_of_none h hl) (s b o h)
theorem Kept.tup {K : PySem.W.Frag} {l p : Addr} {H H' : Hp} {xs ys : List V} (k : Kept l H H') (hl : H l = some (.lst ys)) (h : SqT K H p xs) : SqT K H' p xs := by
  rcases h with (h | ⟨o, h⟩) | h
  · exact .inl (.inl (k _ _ (fun e => by rw [e, hl] at h; cases h) h))
  · exact .inl (.inr ⟨o, k _ _ (fun e => by rw [e, hl] at h; cases h) h⟩)
  · exact .inr h
theorem r_app {K : PySem.W.Frag} {σ : L2.St} {H : Hp} {Q : VK} {l : Addr} {t : TA} (hx : ∃ xs, SqL K H l xs) (h : t σ H fun vs H2 => rAppend (.ref l) vs H2 Q) : tyV K "list" (.ref l) H ∧ t σ H fun vs H2 => rAppend (.ref l) vs H2 Q := ⟨.inl ⟨rfl, hx⟩, h⟩
theorem r_append {H : Hp} {Q : VK} {l : Addr} {xs : List V} {y : V} (h : H l = some (.lst xs)) (hn : xs.length < 16777216) (q : Q .non (upd H l (.lst (xs ++ [y])))) : rAppend (.ref l) [y] H Q := ⟨l, xs, y, rfl, rfl, h, hn, q⟩
theorem r_bm {K : PySem.W.Frag} {σ : L2.St} {H : Hp} {Q : VK} {T : String} {r : V → List V → Hp → VK → Prop} {to : TE} {t : TA} (h : to σ H fun x H1 => tyV K T x H1 ∧ t σ H1 fun xs H2 => r x xs H2 Q) : tBM K T r to t σ H Q := h
theorem Src.put {H : Hp} {a c l : Addr} {t : Int} {o : HO} (s : Src H a c t) (la : l ≠ a) (lc : l ≠ c) : Src (upd H l o) a c t := by
  obtain ⟨h1, ⟨ns, h2, h3⟩, h4, h5⟩ := s
  exact ⟨by rw [upd_ne (Ne.symm la)]; exact h1, ⟨ns, by rw [upd_ne (Ne.symm lc)]; exact h2, h3⟩, h4, h5⟩
/-! ### the mathematics of classes -/
/-- the marks of the class (m, r) -/
def MeetR (m1 r1 m2 r2 : Nat) : Option (Nat × Nat) → Prop
  | none => ¬ ((r1 : Int) - r2) % ((Nat.gcd m1 m2 : Nat) : Int) = 0
  | some (L, x) => ((r1 : Int) - r2) % ((Nat.gcd m1 m2 : Nat) : Int) = 0 ∧ L = m1 * (m2 / Nat.gcd m1 m2) ∧ x < L ∧ x % m1 = r1 ∧ x % m2 = r2
def Fits (m1 r1 m2 r2 : Nat) : Prop := ((r1 : Int) - r2) % ((Nat.gcd m1 m2 : Nat) : Int) = 0
instance (m1 r1 m2 r2 : Nat) : Decidable (Fits m1 r1 m2 r2) := inferInstanceAs (Decidable (_ = _))
theorem dvd_of_mods {x y m : Nat} (h : x % m = y % m) : (m : Int) ∣ (x : Int) - y := Int.dvd_of_emod_eq_zero (by
  have h2 : ((x : Int) % m) = ((y : Int) % m) := by exact_mod_cast h
  exact Int.emod_eq_emod_iff_emod_sub_eq_zero.mp h2)
theorem mods_of_dvd {x y m : Nat} (h : (m : Int) ∣ (x : Int) - y) : x % m = y % m := by
  have h2 : ((x : Int) % m) = ((y : Int) % m) := Int.emod_eq_emod_iff_emod_sub_eq_zero.mpr (Int.emod_eq_zero_of_dvd h)
  exact_mod_cast h2
theorem fits_of {m1 r1 m2 r2 h : Nat} (h1 : h % m1 = r1) (h2 : h % m2 = r2) : ((r1 : Int) - r2) % ((Nat.gcd m1 m2 : Nat) : Int) = 0 := by
  have a1 : ((Nat.gcd m1 m2 : Nat) : Int) ∣ (h : Int) - r1 := by
    refine Int.dvd_trans (Int.natCast_dvd_natCast.mpr (Nat.gcd_dvd_left m1 m2)) (dvd_of_mods ?_)
    rw [← h1, Nat.mod_mod]
  have a2 : ((Nat.gcd m1 m2 : Nat) : Int) ∣ (h : Int) - r2 := by
    refine Int.dvd_trans (Int.natCast_dvd_natCast.mpr (Nat.gcd_dvd_right m1 m2)) (dvd_of_mods ?_)
    rw [← h2, Nat.mod_mod]
  refine Int.emod_eq_zero_of_dvd ?_
  have e : (r1 : Int) - r2 = ((h : Int) - r2) - ((h : Int) - r1) := by omega
  rw [e]
  exact Int.dvd_sub a2 a1
theorem lcm_of {m1 m2 : Nat} : m1 * (m2 / Nat.gcd m1 m2) = Nat.lcm m1 m2 := by
  unfold Nat.lcm
  rw [Nat.mul_div_assoc _ (Nat.gcd_dvd_right m1 m2)]
theorem mod_mod_dvd {h L m : Nat} (d : m ∣ L) : h % L % m = h % m := Nat.mod_mod_of_dvd h d
/-- the class that is met holds just the marks of both -/
theorem met_iff {m1 r1 m2 r2 L x : Nat} (M : MeetR m1 r1 m2 r2 (some (L, x))) (h : Nat) : h % L = x ↔ h % m1 = r1 ∧ h % m2 = r2 := by
  obtain ⟨_, hL, hx, h1, h2⟩ := M
  rw [lcm_of] at hL
  subst hL
  constructor
  · intro e
    subst e
    rw [mod_mod_dvd (Nat.dvd_lcm_left m1 m2)] at h1
    rw [mod_mod_dvd (Nat.dvd_lcm_right m1 m2)] at h2
    exact ⟨h1, h2⟩
  · rintro ⟨e1, e2⟩
    have d1 : (m1 : Int) ∣ (h : Int) - x := dvd_of_mods (e1.trans h1.symm)
    have d2 : (m2 : Int) ∣ (h : Int) - x := dvd_of_mods (e2.trans h2.symm)
    have d3 : Nat.lcm m1 m2 ∣ ((h : Int) - x).natAbs := Nat.lcm_dvd (Int.ofNat_dvd_left.mp d1) (Int.ofNat_dvd_left.mp d2)
    have d4 : ((Nat.lcm m1 m2 : Nat) : Int) ∣ (h : Int) - x := Int.ofNat_dvd_left.mpr d3
    rw [mods_of_dvd d4, Nat.mod_eq_of_lt hx]
theorem met_none {m1 r1 m2 r2 : Nat} (M : MeetR m1 r1 m2 r2 none) (h : Nat) : ¬ (h % m1 = r1 ∧ h % m2 = r2) := fun ⟨h1, h2⟩ => M (fits_of h1 h2)
/-- a set of marks told as a class, or as empty -/
def Tells (S : Nat → Prop) : Option (Nat × Nat) → Prop
  | none => ∀ h, ¬ S h
  | some (L, x) => x < L ∧ ∀ h, h % L = x ↔ S h
theorem tells_meet {m1 r1 m2 r2 : Nat} : ∀ {o : Option (Nat × Nat)}, MeetR m1 r1 m2 r2 o → Tells (fun h => h % m1 = r1 ∧ h % m2 = r2) o
  | none, M => met_none M
  | some (_, _), M => ⟨M.2.2.1, met_iff M⟩
theorem tells_one {S : Nat → Prop} : ∀ {o o' : Option (Nat × Nat)}, Tells S o → Tells S o' → o = o'
  | none, none, _, _ => rfl
  | none, some (L, x), h, h' => absurd ((h'.2 x).mp (Nat.mod_eq_of_lt h'.1)) (h x)
  | some (L, x), none, h', h => absurd ((h'.2 x).mp (Nat.mod_eq_of_lt h'.1)) (h x)
  | some (L, x), some (L', x'), ⟨hx, h⟩, ⟨hx', h'⟩ => by
    have a1 : x % L' = x' := (h' x).mpr ((h x).mp (Nat.mod_eq_of_lt hx))
    have a2 : x' % L = x := (h x').mpr ((h' x').mp (Nat.mod_eq_of_lt hx'))
    have e : x = x' := Nat.le_antisymm (by rw [← a2]; exact Nat.mod_le _ _) (by rw [← a1]; exact Nat.mod_le _ _)
    subst e
    have b1 : (x + L) % L' = x := (h' _).mpr ((h _).mp (by rw [Nat.add_mod_right]; exact Nat.mod_eq_of_lt hx))
    have b2 : (x + L') % L = x := (h _).mpr ((h' _).mp (by rw [Nat.add_mod_right]; exact Nat.mod_eq_of_lt hx'))
    have d1 : L' ∣ L := by
      have := dvd_of_mods (x := x + L) (y := x) (m := L') (by rw [b1, Nat.mod_eq_of_lt hx'])
      have e : ((x + L : Nat) : Int) - x = (L : Int) := by omega
      rw [e] at this
      exact Int.natCast_dvd_natCast.mp this
    have d2 : L ∣ L' := by
      have := dvd_of_mods (x := x + L') (y := x) (m := L) (by rw [b2, Nat.mod_eq_of_lt hx])
      have e : ((x + L' : Nat) : Int) - x = (L' : Int) := by omega
      rw [e] at this
      exact Int.natCast_dvd_natCast.mp this
    rw [Nat.dvd_antisymm d2 d1]
/-- the class that the program reckons -/
theorem met_mk {m1 r1 m2 r2 : Nat} {inv : Int} (p1 : 0 < m1) (p2 : 0 < m2) (l1 : r1 < m1) (l2 : r2 < m2) (hf : ((r1 : Int) - r2) % ((Nat.gcd m1 m2 : Nat) : Int) = 0)
    (hi : (((m2 / Nat.gcd m1 m2 : Nat) : Int)) ∣ ((m1 / Nat.gcd m1 m2 : Nat) : Int) * inv - 1) :
    ∃ x : Nat, (r1 : Int) + m1 * ((((r2 : Int) - r1) / ((Nat.gcd m1 m2 : Nat) : Int) * inv) % ((m2 / Nat.gcd m1 m2 : Nat) : Int)) = (x : Int) ∧ MeetR m1 r1 m2 r2 (some (m1 * (m2 / Nat.gcd m1 m2), x)) := by
  have gp : 0 < Nat.gcd m1 m2 := Nat.gcd_pos_of_pos_left _ p1
  generalize hg : Nat.gcd m1 m2 = g at hf hi gp ⊢
  have da : g ∣ m1 := hg ▸ Nat.gcd_dvd_left m1 m2
  have db : g ∣ m2 := hg ▸ Nat.gcd_dvd_right m1 m2
  obtain ⟨a, ha⟩ := da
  obtain ⟨f, hf2⟩ := db
  have ea : m1 / g = a := by rw [ha]; exact Nat.mul_div_cancel_left _ gp
  have ef : m2 / g = f := by rw [hf2]; exact Nat.mul_div_cancel_left _ gp
  rw [ea, ef] at hi
  rw [ef]
  have fp : 0 < f := by
    rcases Nat.eq_zero_or_pos f with e | e
    · rw [e, Nat.mul_zero] at hf2; omega
    · exact e
  obtain ⟨d, hd⟩ := Int.dvd_of_emod_eq_zero hf
  have ed : ((r2 : Int) - r1) / (g : Int) = -d := by
    have e : (r2 : Int) - r1 = (g : Int) * (-d) := by rw [Int.mul_neg, ← hd]; omega
    rw [e]
    exact Int.mul_ediv_cancel_left _ (by omega)
  rw [ed]
  generalize hs : (-d * inv) % (f : Int) = s
  have s0 : 0 ≤ s := hs ▸ Int.emod_nonneg _ (by omega)
  have s1 : s < (f : Int) := hs ▸ Int.emod_lt_of_pos _ (by omega)
  obtain ⟨t, rfl⟩ : ∃ t : Nat, s = (t : Int) := ⟨s.toNat, by omega⟩
  refine ⟨r1 + m1 * t, by rw [Int.natCast_add, Int.natCast_mul], ?_, ?_, ?_, ?_, ?_⟩
  · rw [hg]; exact hf
  · rw [hg, ef]
  · have : m1 * (t + 1) ≤ m1 * f := Nat.mul_le_mul_left _ (by omega)
    rw [Nat.mul_add, Nat.mul_one] at this
    omega
  · rw [Nat.add_mul_mod_self_left]
    exact Nat.mod_eq_of_lt l1
  · have q1 : (f : Int) ∣ -d * inv - t := by
      refine Int.dvd_of_emod_eq_zero ?_
      rw [← hs, Int.sub_emod, Int.emod_emod, ← Int.sub_emod, Int.sub_self, Int.zero_emod]
    obtain ⟨u, hu⟩ := hi
    obtain ⟨v, hv⟩ := q1
    have key : (m2 : Int) ∣ ((r1 + m1 * t : Nat) : Int) - (r2 : Nat) := by
      refine ⟨-d * u - a * v, ?_⟩
      have e1 : ((r1 + m1 * t : Nat) : Int) - (r2 : Nat) = (g : Int) * d + (g * a : Nat) * t := by
        rw [Int.natCast_add, Int.natCast_mul, ← ha, ← hd]
        omega
      have e2 : (t : Int) = -d * inv - f * v := by omega
      have e3 : (a : Int) * inv = 1 + f * u := by omega
      rw [e1, e2, hf2, Int.natCast_mul, Int.natCast_mul]
      have e4 : (g : Int) * a * (-d * inv - f * v) = (g : Int) * (-d * (a * inv)) - g * f * (a * v) := by
        rw [Int.mul_sub]
        congr 1
        · simp only [Int.neg_mul, Int.mul_neg]; congr 1; simp only [Int.mul_assoc, Int.mul_left_comm]
        · simp only [Int.mul_assoc, Int.mul_left_comm]
      rw [e4, e3]
      simp only [Int.mul_add, Int.mul_sub, Int.mul_one, Int.mul_neg, Int.neg_mul, Int.mul_assoc, Int.mul_left_comm]
      omega
    rw [mods_of_dvd key]
    exact Nat.mod_eq_of_lt l2
theorem cop_div {m1 m2 : Nat} (p1 : 0 < m1) : Nat.gcd (m1 / Nat.gcd m1 m2) (m2 / Nat.gcd m1 m2) = 1 :=
  Nat.gcd_div_gcd_div_gcd_of_pos_left p1
def G300 : Nat := 10 ^ 300 + 7
theorem g300_odd : G300 % 2 = 1 := by decide +kernel
theorem g300_5 : 5 < G300 := by decide +kernel
/-! ### classes as values -/
def IsC (K : PySem.W.Frag) (H : Hp) (v : V) (m r : Nat) : Prop := ∃ p, v = .ref p ∧ SqT K H p [.int (m : Int), .int (r : Int)]
def CC (m r : Nat) : Prop := r < m ∧ Bd (m : Int)
def OptC (K : PySem.W.Frag) (H : Hp) (v : V) : Option (Nat × Nat) → Prop
  | none => v = .non
  | some (m, r) => IsC K H v m r
section
variable {K : PySem.W.Frag} {H H' : Hp} {v : V} {m r : Nat}
theorem IsC.same (h : IsC K H v m r) (s : Same H H') : IsC K H' v m r := let ⟨p, e, q⟩ := h; ⟨p, e, Same.tup s q⟩
theorem IsC.keep {a c : Addr} {t : Int} (h : IsC K H v m r) (k : Keep a c H H') (s : Src H a c t) : IsC K H' v m r := let ⟨p, e, q⟩ := h; ⟨p, e, k.tup s q⟩
theorem OptC.same : ∀ {o : Option (Nat × Nat)}, OptC K H v o → Same H H' → OptC K H' v o
  | none, h, _ => h
  | some (_, _), h, s => IsC.same h s
theorem OptC.keep {a c : Addr} {t : Int} : ∀ {o : Option (Nat × Nat)}, OptC K H v o → Keep a c H H' → Src H a c t → OptC K H' v o
  | none, h, _, _ => h
  | some (_, _), h, k, s => IsC.keep h k s
theorem tyx_tup {p : Addr} {xs : List V} (h : SqT K H p xs) : TyX K H (.ref p) (.type "tuple") := by
  rcases h with (h | ⟨o, h⟩) | ⟨o, its, n, h1, h2, _⟩
  · exact .base (.tup h)
  · exact .fTuple h
  · exact .kTuple h1 h2
theorem tyx_lst {p : Addr} {xs : List V} (h : SqL K H p xs) : TyX K H (.ref p) (.type "list") := by
  rcases h with (h | ⟨o, h⟩) | ⟨o, its, n, h1, h2, _⟩
  · exact .base (.lst h)
  · exact .base (.frz h)
  · exact .kList h1 h2
theorem tyx_int {i : Int} : TyX K H (.int i) (.type "int") := .base (.int i)
theorem tyx_bl {i : Bool} : TyX K H (.bl i) (.type "bool") := .base (.bl i)
theorem tyx_non : TyX K H .non (.type "NoneType") := .base .non
theorem r_isi {Q : VK} {x : V} {n t : String} {b : Bool} (ht : TyX K H x (.type t)) (hk : kitB t n = some b) (h : Q (.bl b) H) : rIsi K [x, .ty n] H Q := ⟨x, _, _, _, b, rfl, .ty n, ht, kit_ty hk, h⟩
theorem k_tt : kitB "tuple" "tuple" = some true := by decide +kernel
theorem k_nt : kitB "NoneType" "tuple" = some false := by decide +kernel
theorem k_ii : kitB "int" "int" = some true := by decide +kernel
theorem k_ib : kitB "int" "bool" = some false := by decide +kernel
theorem k_bb : kitB "bool" "bool" = some true := by decide +kernel
theorem k_bi : kitB "bool" "int" = some true := by decide +kernel
theorem k_ll : kitB "list" "list" = some true := by decide +kernel
end
def cdat (z : Nat × Nat) : PyData := .tuple [.int (z.1 : Int), .int (z.2 : Int)]
def odat : Option (Nat × Nat) → PyData
  | none => .none
  | some z => cdat z
theorem cdat_eqv (z w : Nat × Nat) : PyData.eqv (cdat z) (cdat w) = decide (z = w) := by
  obtain ⟨a, b⟩ := z
  obtain ⟨c, d⟩ := w
  unfold cdat
  rw [PyData.eqv, PyData.eqvAll, PyData.eqvAll, PyData.eqvAll, eqv_int, eqv_int]
  by_cases e1 : a = c
  · by_cases e2 : b = d
    · simp [e1, e2]
    · have e3 : ¬ (b : Int) = (d : Int) := by omega
      simp [e1, e2, e3]
  · have e3 : ¬ (a : Int) = (c : Int) := by omega
    simp [e1, e3]
theorem odat_eqv (z w : Option (Nat × Nat)) : PyData.eqv (odat z) (odat w) = decide (z = w) := by
  cases z with
  | none =>
    cases w with
    | none => simp [odat, PyData.eqv]
    | some w => simp [odat, cdat, PyData.eqv]
  | some z =>
    cases w with
    | none => simp [odat, cdat, PyData.eqv]
    | some w =>
      show PyData.eqv (cdat z) (cdat w) = _
      rw [cdat_eqv]
      by_cases e : z = w <;> simp [e]
theorem shp_cdat {z : Nat × Nat} : Shp 1 (cdat z) := shp_tup fun d hd => by
  rcases List.mem_cons.mp hd with e | hd
  · subst e; exact shp_int
  · rcases List.mem_cons.mp hd with e | hd
    · subst e; exact shp_int
    · cases hd
theorem shp_odat : ∀ {o : Option (Nat × Nat)}, Shp 1 (odat o)
  | none => shp_non
  | some _ => shp_cdat
section
variable {K : PySem.W.Frag} {H : Hp} {v : V} {m r : Nat}
theorem IsC.dp (h : IsC K H v m r) : Dp K H v (cdat (m, r)) := by
  obtain ⟨p, rfl, hq⟩ := h
  exact .tup hq (.cons (.int _) (.cons (.int _) .nil))
theorem OptC.dp : ∀ {o : Option (Nat × Nat)}, OptC K H v o → Dp K H v (odat o)
  | none, h => by
    have e : v = .non := h
    rw [e]
    exact .non
  | some (_, _), h => IsC.dp h
end
theorem sm_mul {i j : Int} {a b : Nat} (hi : i.natAbs < 2 ^ a) (hj : j.natAbs < 2 ^ b) (h : a + b ≤ 20000) : Sm (i * j) := Nat.lt_of_lt_of_le (wide_lt hi hj) (Nat.pow_le_pow_right (by decide) h)
theorem bd_nat {a b : Nat} (h : a ≤ b) (hb : Bd (b : Int)) : Bd (a : Int) := Nat.lt_of_le_of_lt (by omega) hb
theorem le_mul_abs {a b : Int} (h : 1 ≤ b) : (a.natAbs : Int) ≤ (a.natAbs : Int) * b := by
  have := Int.mul_le_mul_of_nonneg_left h (show 0 ≤ (a.natAbs : Int) by omega)
  omega
theorem abs_step {af rf q : Int} (hq : 0 ≤ q) : ((af - q * rf).natAbs : Int) ≤ (af.natAbs : Int) + q * (rf.natAbs : Int) := by
  have h1 : (af - q * rf).natAbs ≤ af.natAbs + (q * rf).natAbs := Int.natAbs_sub_le af (q * rf)
  have h2 : ((q * rf).natAbs : Int) = q * (rf.natAbs : Int) := by
    rw [Int.natAbs_mul, Int.natCast_mul]
    congr 1
    omega
  omega
/-- one turn of the reckoning of an inverse -/
structure InvW (n m : Int) (a r af rf : Int) : Prop where
  a1 : 1 ≤ a
  a2 : a ≤ m
  r0 : 0 ≤ r
  r1 : r < m
  g : Int.gcd a r = 1
  d1 : m ∣ af * n - a
  d2 : m ∣ rf * n - r
  sz : (af.natAbs : Int) * r + (rf.natAbs : Int) * a ≤ m
theorem InvW.turn {n m a r af rf : Int} (h : InvW n m a r af rf) (hr : 0 < r) : InvW n m r (a % r) rf (af - a / r * rf) := by
  have q0 : 0 ≤ a / r := Int.ediv_nonneg (by have := h.a1; omega) (by omega)
  have e1 : a / r * r + a % r = a := by rw [Int.mul_comm]; exact Int.mul_ediv_add_emod a r
  have m0 := Int.emod_nonneg a (show r ≠ 0 by omega)
  have m1 := Int.emod_lt_of_pos a hr
  refine ⟨by omega, by have := h.r1; omega, m0, by have := h.r1; omega, ?_, h.d2, ?_, ?_⟩
  · have hg := h.g
    obtain ⟨A, rfl⟩ : ∃ A : Nat, a = (A : Int) := ⟨a.toNat, by have := h.a1; omega⟩
    obtain ⟨R, rfl⟩ : ∃ R : Nat, r = (R : Int) := ⟨r.toNat, by omega⟩
    have hg2 : Nat.gcd A R = 1 := hg
    show Nat.gcd R ((A : Int) % (R : Int)).natAbs = 1
    rw [show ((A : Int) % (R : Int)).natAbs = A % R by rw [← Int.natCast_emod]; rfl, Nat.gcd_comm, ← Nat.gcd_rec, Nat.gcd_comm]
    exact hg2
  · obtain ⟨u, hu⟩ := h.d1
    obtain ⟨v, hv⟩ := h.d2
    refine ⟨u - a / r * v, ?_⟩
    rw [Int.sub_mul, Int.mul_assoc, Int.mul_sub, ← hu, Int.mul_left_comm m, ← hv, Int.mul_sub]
    omega
  · have s := h.sz
    have k := abs_step (af := af) (rf := rf) q0
    have k2 := Int.mul_le_mul_of_nonneg_right k (show 0 ≤ r by omega)
    rw [Int.add_mul] at k2
    have e2 : a / r * (rf.natAbs : Int) * r = (rf.natAbs : Int) * (a / r * r) := by
      rw [Int.mul_comm (a / r) (rf.natAbs : Int), Int.mul_assoc]
    rw [e2] at k2
    have e3 : (rf.natAbs : Int) * a = (rf.natAbs : Int) * (a / r * r) + (rf.natAbs : Int) * (a % r) := by rw [← Int.mul_add, e1]
    omega
theorem InvW.bd {n m a r af rf : Int} (h : InvW n m a r af rf) (hm : Bd m) : Bd rf := by
  have s := h.sz
  have k := le_mul_abs (a := rf) h.a1
  have z : 0 ≤ (af.natAbs : Int) * r := Int.mul_nonneg (by omega) h.r0
  have e : (rf.natAbs : Int) ≤ m := by omega
  exact Nat.lt_of_le_of_lt (by omega) hm
theorem inv_end {n m af : Int} (h : m ∣ af * n - 1) : m ∣ n * (af % m) - 1 := by
  obtain ⟨u, hu⟩ := h
  refine ⟨u - n * (af / m), ?_⟩
  have e := Int.mul_ediv_add_emod af m
  have e2 : n * (af % m) = n * af - n * (m * (af / m)) := by rw [← Int.mul_sub]; congr 1; omega
  rw [e2, Int.mul_sub, ← hu, Int.mul_left_comm m n, Int.mul_comm af n]
  omega
theorem gcd_start {n m : Nat} (h : Nat.gcd n m = 1) : Int.gcd (m : Int) ((n : Int) % (m : Int)) = 1 := by
  show Nat.gcd m ((n : Int) % (m : Int)).natAbs = 1
  rw [show ((n : Int) % (m : Int)).natAbs = n % m by rw [← Int.natCast_emod]; rfl, Nat.gcd_comm, ← Nat.gcd_rec, Nat.gcd_comm]
  exact h
section
variable {K : PySem.W.Frag} {H : Hp} {v : V} {m r : Nat} {Q : VK}
theorem r_c0 (h : IsC K H v m r) (q : Q (.int (m : Int)) H) : rIxT K v (.int 0) H Q := by
  obtain ⟨p, rfl, hp⟩ := h
  exact r_ixT hp atI0 q
theorem r_c1 (h : IsC K H v m r) (q : Q (.int (r : Int)) H) : rIxT K v (.int 1) H Q := by
  obtain ⟨p, rfl, hp⟩ := h
  exact r_ixT hp atI1 q
theorem r_isC {b : Bool} (h : IsC K H v m r) (q : Q (.bl true) H) : rIsi K [v, .ty "tuple"] H Q := by
  obtain ⟨p, rfl, hp⟩ := h
  exact r_isi (tyx_tup hp) k_tt q
theorem r_lenC {R : List V → Prop} (h : IsC K H v m r) (q : R [.int (m : Int), .int (r : Int)]) : ∃ p' ys', [v] = [V.ref p'] ∧ (SqL K H p' ys' ∨ SqT K H p' ys') ∧ R ys' := by
  obtain ⟨p, rfl, hp⟩ := h
  exact r_lenT hp q
theorem r_neD {x y : V} {a b : PyData} (ha : Dp K H x a) (hb : Dp K H y b) (h1 : SeqAt.shaped a = true) (h2 : SeqAt.shaped b = true) (q : Q (.bl (!PyData.eqv a b)) H) : rNeD K x y H Q := ⟨a, b, ha, hb, h1, h2, q⟩
theorem r_eqDD {x y : V} {a b : PyData} (ha : Dp K H x a) (hb : Dp K H y b) (h1 : SeqAt.shaped a = true) (h2 : SeqAt.shaped b = true) (q : Q (.bl (PyData.eqv a b)) H) : rEqD K x y H Q := ⟨a, b, ha, hb, h1, h2, q⟩
theorem r_neO {x y : V} {o o' : Option (Nat × Nat)} (ha : OptC K H x o) (hb : OptC K H y o') (q : Q (.bl (!decide (o = o'))) H) : rNeD K x y H Q := r_neD ha.dp hb.dp shp_odat.ok shp_odat.ok (by rw [odat_eqv]; exact q)
theorem r_eqO {x y : V} {o o' : Option (Nat × Nat)} (ha : OptC K H x o) (hb : OptC K H y o') (q : Q (.bl (decide (o = o'))) H) : rEqD K x y H Q := r_eqDD ha.dp hb.dp shp_odat.ok shp_odat.ok (by rw [odat_eqv]; exact q)
theorem nat_mod_cast {a b c : Nat} : decide ((a : Int) % (b : Int) = (c : Int)) = decide (a % b = c) := decide_eq_decide.mpr (by rw [← Int.natCast_emod]; omega)
theorem natV {l : List Nat} : l.map (fun k : Nat => V.int (k : Int)) = (l.map fun k : Nat => (k : Int)).map V.int := by rw [List.map_map]; rfl
theorem r_neNats {a b : Addr} {xs ys : List Nat} (hx : SqL K H a (xs.map fun k : Nat => V.int (k : Int))) (hy : SqL K H b (ys.map fun k : Nat => V.int (k : Int))) (q : Q (.bl (!decide (xs = ys))) H) : rNeD K (.ref a) (.ref b) H Q := by
  rw [natV] at hx hy
  refine r_neD (dp_ints hx) (dp_ints hy) shp_ints.ok shp_ints.ok ?_
  rw [List.map_map, List.map_map, eqv_list (f := PyData.int ∘ fun k : Nat => (k : Int)) (fun x y => by show PyData.eqv (.int (x : Int)) (.int (y : Int)) = _; rw [eqv_int]; exact decide_eq_decide.mpr (by omega))]
  exact q
theorem comp_filter {i n : Nat} {σ : L2.St} {H1 : Hp} {Dl : Addr} {tt : TT} {Qd : Hp → Prop} (p : Nat → Bool) (hi : i < σ.length) (hn : n < 1000000) (hD : H1 Dl = none)
    (ht : ∀ (k : Nat) H', k < n → Same H1 H' → ∀ R : Bool → Hp → Prop, (∀ H2, Same H' H2 → R (p k) H2) → tt ((wipe σ [i]).set i (some (.int (k : Int)))) H' R)
    (hq : ∀ H', Same H1 H' → H' Dl = some (.lst (((List.range n).filter p).map fun k : Nat => V.int (k : Int))) → Qd H') : LcW (Itr 0 n) (gName i) tt (tVar i) [i] σ H1 Dl Qd := by
  refine comp_range (fun j H' => Same H1 H' ∧ H' Dl = some (.lst (((List.range j).filter p).map fun k : Nat => V.int (k : Int)))) ⟨Same.new hD, upd_same⟩ ?_ (fun H' ⟨a, b⟩ => hq H' a b)
  rintro j H' hj ⟨sm, hl⟩
  refine ⟨?_, ht j H' hj sm _ fun H2 s2 => ?_⟩
  · show ((σ.set i none).set i _).set i none = σ.set i none
    rw [List.set_set, List.set_set]
  · have hl2 := s2 _ _ hl
    have ln : (((List.range j).filter p).map fun k : Nat => V.int (k : Int)).length ≤ j := by
      rw [List.length_map]
      have := List.length_filter_le p (List.range j)
      rw [List.length_range] at this
      exact this
    have sm2 : ∀ o, Same H1 (upd H2 Dl o) := fun o b u e => by
      rw [upd_ne (ne_of_none e hD)]
      exact s2 _ _ (sm _ _ e)
    cases hp : p j with
    | true =>
      refine r_T (r_var (v := .int (j : Int)) ?_ ⟨_, hl2, Nat.lt_of_le_of_lt ln (Nat.lt_of_lt_of_le (Nat.lt_trans hj hn) (by decide)), sm2 _, ?_⟩)
      · show ((σ.set i none).set i _)[i]? = _
        rw [List.getElem?_set_self (by rw [List.length_set]; exact hi)]
      · rw [List.range_succ, List.filter_append, List.map_append, List.filter_cons, if_pos hp]
        exact upd_same
    | false =>
      refine r_F ⟨sm.trans s2, ?_⟩
      rw [List.range_succ, List.filter_append, List.map_append, List.filter_cons, if_neg (by rw [hp]; decide)]
      show H2 Dl = some (.lst (_ ++ []))
      rw [List.append_nil]
      exact hl2
end
theorem IsC.kept {K : PySem.W.Frag} {l : Addr} {H H' : Hp} {ys : List V} {v : V} {m r : Nat} (h : IsC K H v m r) (k : Kept l H H') (hl : H l = some (.lst ys)) : IsC K H' v m r := let ⟨p, e, q⟩ := h; ⟨p, e, k.tup hl q⟩
theorem OptC.kept {K : PySem.W.Frag} {l : Addr} {H H' : Hp} {ys : List V} {v : V} : ∀ {o : Option (Nat × Nat)}, OptC K H v o → Kept l H H' → H l = some (.lst ys) → OptC K H' v o
  | none, h, _, _ => h
  | some (_, _), h, k, hl => IsC.kept h k hl
def E300 : Int := ((10 : Int) ^ 60) ^ 5
theorem e300_eq : E300 + 7 = (G300 : Int) := by decide +kernel
theorem r_pow300 {H : Hp} {Q : VK} (h : Q (.int E300) H) : rI CPowW (fun i j => V.int (i ^ j.toNat)) (.int ((10 : Int) ^ 60)) (.int 5) H Q := pw_ok (by decide) (by decide +kernel) (by decide +kernel) h
theorem bd_g300 : Bd ((G300 : Nat) : Int) := by
  have h2 : G300 < 2 ^ 4000 := by decide +kernel
  exact Nat.lt_of_le_of_lt (show (((G300 : Nat) : Int)).natAbs ≤ G300 by omega) h2
theorem bd_2g300 {n : Nat} (h : n ≤ 4 * G300) : Bd (n : Int) := by
  have h2 : 4 * G300 < 2 ^ 4000 := by decide +kernel
  exact Nat.lt_of_le_of_lt (show ((n : Int)).natAbs ≤ 4 * G300 by omega) h2
theorem r_revL {K : PySem.W.Frag} {σ : L2.St} {H : Hp} {Q : VK} {te : TE} (h : te σ H fun x H1 => ∃ a xs, x = .ref a ∧ SqL K H1 a xs ∧ ∀ p, H1 p = none → Q (.ref p) (upd H1 p (.lst xs.reverse))) : tRevL K te σ H Q := h
/-! ### lists of classes -/
theorem dvd_lcm_gcds {d a b : Nat} (pd : 0 < d) (h : d ∣ Nat.lcm a b) : d ∣ Nat.lcm (Nat.gcd d a) (Nat.gcd d b) := by
  have gp : 0 < Nat.gcd d (Nat.gcd a b) := Nat.gcd_pos_of_pos_left _ pd
  have hab : d * Nat.gcd a b ∣ a * b := by
    have e := Nat.gcd_mul_lcm a b
    rw [← e, Nat.mul_comm]
    exact Nat.mul_dvd_mul_left _ h
  have T : d * Nat.gcd d (Nat.gcd a b) ∣ Nat.gcd d a * Nat.gcd d b := by
    rw [← Nat.gcd_mul_left (Nat.gcd d a) d b, ← Nat.gcd_mul_right d d a, ← Nat.gcd_mul_right d b a]
    refine Nat.dvd_gcd (Nat.dvd_gcd ?_ ?_) (Nat.dvd_gcd ?_ ?_)
    · exact Nat.mul_dvd_mul_left _ (Nat.gcd_dvd_left _ _)
    · rw [Nat.mul_comm a d]
      exact Nat.mul_dvd_mul_left _ (Nat.dvd_trans (Nat.gcd_dvd_right _ _) (Nat.gcd_dvd_left _ _))
    · exact Nat.mul_dvd_mul_left _ (Nat.dvd_trans (Nat.gcd_dvd_right _ _) (Nat.gcd_dvd_right _ _))
    · exact Nat.dvd_trans (Nat.mul_dvd_mul_left _ (Nat.gcd_dvd_right _ _)) hab
  have e2 := Nat.gcd_mul_lcm (Nat.gcd d a) (Nat.gcd d b)
  have g2 : Nat.gcd (Nat.gcd d a) (Nat.gcd d b) ∣ Nat.gcd d (Nat.gcd a b) :=
    Nat.dvd_gcd (Nat.dvd_trans (Nat.gcd_dvd_left _ _) (Nat.gcd_dvd_left _ _)) (Nat.dvd_gcd (Nat.dvd_trans (Nat.gcd_dvd_left _ _) (Nat.gcd_dvd_right _ _)) (Nat.dvd_trans (Nat.gcd_dvd_right _ _) (Nat.gcd_dvd_right _ _)))
  rw [← e2] at T
  have T2 : d * Nat.gcd d (Nat.gcd a b) ∣ Nat.lcm (Nat.gcd d a) (Nat.gcd d b) * Nat.gcd d (Nat.gcd a b) := by
    refine Nat.dvd_trans T ?_
    rw [Nat.mul_comm]
    exact Nat.mul_dvd_mul_left _ g2
  exact Nat.dvd_of_mul_dvd_mul_right gp T2
/-- the least common multiple of a list -/
def lcmL (ms : List Nat) : Nat := ms.foldl Nat.lcm 1
theorem lcmL_snoc (ms : List Nat) (m : Nat) : lcmL (ms ++ [m]) = Nat.lcm (lcmL ms) m := by
  unfold lcmL
  rw [List.foldl_append]
  rfl
theorem list_snoc {α : Type} {P : List α → Prop} (h0 : P []) (hs : ∀ l x, P l → P (l ++ [x])) : ∀ l, P l := by
  have key : ∀ l r : List α, P r → P (r ++ l) := by
    intro l
    induction l with
    | nil => intro r hr; rw [List.append_nil]; exact hr
    | cons x l ih =>
      intro r hr
      have := ih (r ++ [x]) (hs r x hr)
      rw [List.append_assoc] at this
      exact this
  intro l
  exact key l [] h0
theorem lcmL_pos : ∀ {ms : List Nat}, (∀ m ∈ ms, 0 < m) → 0 < lcmL ms := fun {ms} => by
  refine list_snoc (P := fun ms => (∀ m ∈ ms, 0 < m) → 0 < lcmL ms) (fun _ => by decide) (fun l x ih h => ?_) ms
  rw [lcmL_snoc]
  exact Nat.lcm_pos (ih fun m hm => h m (List.mem_append_left _ hm)) (h x (by simp))
theorem dvd_lcmL : ∀ {ms : List Nat} {m : Nat}, m ∈ ms → m ∣ lcmL ms := fun {ms} => by
  refine list_snoc (P := fun ms => ∀ {m : Nat}, m ∈ ms → m ∣ lcmL ms) (fun {_} h => absurd h List.not_mem_nil) (fun l x ih {m} h => ?_) ms
  rw [lcmL_snoc]
  rcases List.mem_append.mp h with h | h
  · exact Nat.dvd_trans (ih h) (Nat.dvd_lcm_left _ _)
  · rw [List.mem_singleton] at h
    subst h
    exact Nat.dvd_lcm_right _ _
theorem lcmL_dvd : ∀ {ms : List Nat} {k : Nat}, (∀ m ∈ ms, m ∣ k) → lcmL ms ∣ k := fun {ms} => by
  refine list_snoc (P := fun ms => ∀ {k : Nat}, (∀ m ∈ ms, m ∣ k) → lcmL ms ∣ k) (fun {_} _ => Nat.one_dvd _) (fun l x ih {k} h => ?_) ms
  rw [lcmL_snoc]
  exact Nat.lcm_dvd (ih fun m hm => h m (List.mem_append_left _ hm)) (h x (by simp))
theorem lcmL_le {B : Nat} : ∀ {ms : List Nat}, (∀ m ∈ ms, 0 < m) → (∀ m ∈ ms, m ≤ B) → lcmL ms ≤ B ^ ms.length := fun {ms} => by
  refine list_snoc (P := fun ms => (∀ m ∈ ms, 0 < m) → (∀ m ∈ ms, m ≤ B) → lcmL ms ≤ B ^ ms.length) (fun _ _ => by show 1 ≤ B ^ 0; rw [Nat.pow_zero]; exact Nat.le_refl _) (fun l x ih h0 h => ?_) ms
  rw [lcmL_snoc, List.length_append, List.length_singleton, Nat.pow_succ]
  have a := ih (fun m hm => h0 m (List.mem_append_left _ hm)) (fun m hm => h m (List.mem_append_left _ hm))
  have b := h x (by simp)
  have p : 0 < lcmL l * x := Nat.mul_pos (lcmL_pos fun m hm => h0 m (List.mem_append_left _ hm)) (h0 x (by simp))
  exact Nat.le_trans (Nat.le_of_dvd p (Nat.lcm_dvd (Nat.dvd_mul_right _ _) (Nat.dvd_mul_left _ _))) (Nat.mul_le_mul a b)
theorem gcd_lcmL_dvd {m y : Nat} (pm : 0 < m) : ∀ {ms : List Nat}, (∀ a ∈ ms, 0 < a) → (∀ a ∈ ms, Nat.gcd m a ∣ y) → Nat.gcd m (lcmL ms) ∣ y := fun {ms} => by
  refine list_snoc (P := fun ms => (∀ a ∈ ms, 0 < a) → (∀ a ∈ ms, Nat.gcd m a ∣ y) → Nat.gcd m (lcmL ms) ∣ y) (fun _ _ => ?_) (fun l x ih h0 h => ?_) ms
  · show Nat.gcd m 1 ∣ y
    rw [Nat.gcd_one_right]
    exact Nat.one_dvd _
  · rw [lcmL_snoc]
    have dp : 0 < Nat.gcd m (Nat.lcm (lcmL l) x) := Nat.gcd_pos_of_pos_left _ pm
    refine Nat.dvd_trans (dvd_lcm_gcds dp (Nat.gcd_dvd_right _ _)) (Nat.lcm_dvd ?_ ?_)
    · refine Nat.dvd_trans (Nat.dvd_gcd (Nat.dvd_trans (Nat.gcd_dvd_left _ _) (Nat.gcd_dvd_left _ _)) (Nat.gcd_dvd_right _ _)) (ih (fun a ha => h0 a (List.mem_append_left _ ha)) fun a ha => h a (List.mem_append_left _ ha))
    · exact Nat.dvd_trans (Nat.dvd_gcd (Nat.dvd_trans (Nat.gcd_dvd_left _ _) (Nat.gcd_dvd_left _ _)) (Nat.gcd_dvd_right _ _)) (h x (by simp))
/-- which pairs of a list of classes have a mark in common -/
def FitsAt (zs : List (Nat × Nat)) (i j : Nat) : Prop := ∀ z w, zs[i]? = some z → zs[j]? = some w → Fits z.1 z.2 w.1 w.2
def BarR (zs : List (Nat × Nat)) : Option (Nat × Nat) → Prop
  | none => ∀ i j, i < j → j < zs.length → FitsAt zs i j
  | some (i, j) => i < j ∧ j < zs.length ∧ ¬ FitsAt zs i j ∧ ∀ i' j', i' < j' → j' < zs.length → (i' < i ∨ i' = i ∧ j' < j) → FitsAt zs i' j'
theorem bar_one {zs : List (Nat × Nat)} : ∀ {o o' : Option (Nat × Nat)}, BarR zs o → BarR zs o' → o = o'
  | none, none, _, _ => rfl
  | none, some (i, j), h, ⟨a, b, c, _⟩ => absurd (h i j a b) c
  | some (i, j), none, ⟨a, b, c, _⟩, h => absurd (h i j a b) c
  | some (i, j), some (i', j'), ⟨a, b, c, d⟩, ⟨a', b', c', d'⟩ => by
    have h1 : ¬ (i' < i ∨ i' = i ∧ j' < j) := fun z => c' (d i' j' a' b' z)
    have h2 : ¬ (i < i' ∨ i = i' ∧ j < j') := fun z => c (d' i j a b z)
    have e1 : i = i' := by omega
    have e2 : j = j' := by omega
    rw [e1, e2]
/-- all marks of all classes -/
def AllIn (zs : List (Nat × Nat)) (h : Nat) : Prop := ∀ z ∈ zs, h % z.1 = z.2
/-- pairs suffice: one more class meets the common one -/
theorem next_fits {zs : List (Nat × Nat)} {m r L x : Nat} (hz : ∀ z ∈ zs, z.2 < z.1) (hm : r < m) (hL : L = lcmL (zs.map (·.1))) (hx : AllIn zs x) (hf : ∀ z ∈ zs, Fits z.1 z.2 m r) : Fits L x m r := by
  have key : Nat.gcd m L ∣ ((x : Int) - r).natAbs := by
    rw [hL]
    refine gcd_lcmL_dvd (by omega) (fun a ha => ?_) fun a ha => ?_
    · obtain ⟨z, hz', rfl⟩ := List.mem_map.mp ha
      have := hz z hz'
      omega
    · obtain ⟨z, hz', rfl⟩ := List.mem_map.mp ha
      have f : ((z.2 : Int) - r) % ((Nat.gcd z.1 m : Nat) : Int) = 0 := hf z hz'
      have d1 : ((Nat.gcd z.1 m : Nat) : Int) ∣ (z.2 : Int) - r := Int.dvd_of_emod_eq_zero f
      have d2 : ((Nat.gcd z.1 m : Nat) : Int) ∣ (x : Int) - z.2 := by
        refine Int.dvd_trans (Int.natCast_dvd_natCast.mpr (Nat.gcd_dvd_left z.1 m)) (dvd_of_mods ?_)
        rw [hx z hz', Nat.mod_eq_of_lt (hz z hz')]
      have d3 : ((Nat.gcd z.1 m : Nat) : Int) ∣ (x : Int) - r := by
        have e : (x : Int) - r = ((x : Int) - z.2) + ((z.2 : Int) - r) := by omega
        rw [e]
        exact Int.dvd_add d2 d1
      rw [Nat.gcd_comm]
      exact Int.ofNat_dvd_left.mp d3
  show ((x : Int) - r) % ((Nat.gcd L m : Nat) : Int) = 0
  rw [Nat.gcd_comm]
  exact Int.emod_eq_zero_of_dvd (Int.ofNat_dvd_left.mpr key)
/-- what is told of a list of classes: a bar, or the common class -/
def AllR (zs : List (Nat × Nat)) : Sum (Nat × Nat) (Nat × Nat) → Prop
  | .inl ij => BarR zs (some ij)
  | .inr (L, x) => BarR zs none ∧ x < L ∧ L = lcmL (zs.map (·.1)) ∧ AllIn zs x
theorem all_one {zs : List (Nat × Nat)} (hz : ∀ z ∈ zs, z.2 < z.1) : ∀ {o o' : Sum (Nat × Nat) (Nat × Nat)}, AllR zs o → AllR zs o' → o = o'
  | .inl a, .inl b, h, h' => by have e := bar_one (zs := zs) (o := some a) (o' := some b) h h'; cases e; rfl
  | .inl a, .inr (_, _), h, h' => by have e := bar_one (zs := zs) (o := some a) (o' := none) h h'.1; cases e
  | .inr (_, _), .inl a, h', h => by have e := bar_one (zs := zs) (o := some a) (o' := none) h h'.1; cases e
  | .inr (L, x), .inr (L', x'), ⟨_, hx, hL, hA⟩, ⟨_, hx', hL', hA'⟩ => by
    have e : L = L' := hL.trans hL'.symm
    subst e
    have d : lcmL (zs.map (·.1)) ∣ ((x : Int) - x').natAbs := lcmL_dvd fun m hm => by
      obtain ⟨z, hz', rfl⟩ := List.mem_map.mp hm
      exact Int.ofNat_dvd_left.mp (dvd_of_mods ((hA z hz').trans (hA' z hz').symm))
    rw [← hL] at d
    have d2 : (L : Int) ∣ (x : Int) - x' := Int.ofNat_dvd_left.mpr d
    have e2 := mods_of_dvd d2
    rw [Nat.mod_eq_of_lt hx, Nat.mod_eq_of_lt hx'] at e2
    rw [e2]
theorem all_snoc {zs : List (Nat × Nat)} {m r L x L' x' : Nat} (hz : ∀ z ∈ zs, z.2 < z.1) (hL : L = lcmL (zs.map (·.1))) (hA : AllIn zs x) (M : MeetR L x m r (some (L', x'))) :
    L' = lcmL ((zs ++ [(m, r)]).map (·.1)) ∧ x' < L' ∧ AllIn (zs ++ [(m, r)]) x' := by
  obtain ⟨_, h1, h2, h3, h4⟩ := M
  refine ⟨?_, h2, fun z hz' => ?_⟩
  · rw [List.map_append, List.map_singleton, lcmL_snoc, ← hL, h1, lcm_of]
  · rcases List.mem_append.mp hz' with hm | hm
    · rw [← hA z hm, ← h3, hL]
      exact (mod_mod_dvd (dvd_lcmL (List.mem_map.mpr ⟨z, hm, rfl⟩))).symm
    · rw [List.mem_singleton] at hm
      subst hm
      exact h4
theorem take_snoc {α : Type} {l : List α} {i : Nat} {x : α} (h : l[i]? = some x) : l.take (i + 1) = l.take i ++ [x] := by
  rw [List.take_add_one, h]
  rfl
theorem lcm_take_le {zs : List (Nat × Nat)} (hz : ∀ z ∈ zs, z.2 < z.1) (i : Nat) : lcmL ((zs.take i).map (·.1)) ≤ lcmL (zs.map (·.1)) := by
  refine Nat.le_of_dvd (lcmL_pos fun m hm => ?_) (lcmL_dvd fun m hm => ?_)
  · obtain ⟨z, hz', rfl⟩ := List.mem_map.mp hm
    have := hz z hz'
    omega
  · obtain ⟨z, hz', rfl⟩ := List.mem_map.mp hm
    exact dvd_lcmL (List.mem_map.mpr ⟨z, List.mem_of_mem_take hz', rfl⟩)
/-! ### written lists -/
def fitsB (zs : List (Nat × Nat)) (i j : Nat) : Bool := match zs[i]?, zs[j]? with
  | some z, some w => decide (Fits z.1 z.2 w.1 w.2)
  | _, _ => true
theorem fitsB_iff {zs : List (Nat × Nat)} {i j : Nat} : fitsB zs i j = true ↔ FitsAt zs i j := by
  unfold fitsB FitsAt
  cases h1 : zs[i]? with
  | none => simp
  | some z =>
    cases h2 : zs[j]? with
    | none => simp
    | some w => simp
def barB (zs : List (Nat × Nat)) : Option (Nat × Nat) → Bool
  | none => (List.range zs.length).all fun j => (List.range j).all fun i => fitsB zs i j
  | some (i, j) => decide (i < j ∧ j < zs.length) && !fitsB zs i j && (List.range zs.length).all fun j' => (List.range j').all fun i' => if i' < i ∨ i' = i ∧ j' < j then fitsB zs i' j' else true
theorem barB_ok {zs : List (Nat × Nat)} : ∀ {o : Option (Nat × Nat)}, barB zs o = true → BarR zs o
  | none, h => fun i j h1 h2 => fitsB_iff.mp (List.all_eq_true.mp (List.all_eq_true.mp h j (List.mem_range.mpr h2)) i (List.mem_range.mpr h1))
  | some (i, j), h => by
    have h0 : (decide (i < j ∧ j < zs.length) && !fitsB zs i j && (List.range zs.length).all fun j' => (List.range j').all fun i' => if i' < i ∨ i' = i ∧ j' < j then fitsB zs i' j' else true) = true := h
    rw [Bool.and_eq_true, Bool.and_eq_true] at h0
    obtain ⟨⟨h1, h2⟩, h3⟩ := h0
    have h1 := of_decide_eq_true h1
    refine ⟨h1.1, h1.2, fun f => ?_, fun i' j' a b c => ?_⟩
    · rw [fitsB_iff.mpr f] at h2
      cases h2
    · have := List.all_eq_true.mp (List.all_eq_true.mp h3 j' (List.mem_range.mpr b)) i' (List.mem_range.mpr a)
      rw [if_pos c] at this
      exact fitsB_iff.mp this
def allB (zs : List (Nat × Nat)) : Sum (Nat × Nat) (Nat × Nat) → Bool
  | .inl ij => barB zs (some ij)
  | .inr (L, x) => barB zs none && decide (x < L) && decide (L = lcmL (zs.map (·.1))) && zs.all fun z => decide (x % z.1 = z.2)
theorem allB_ok {zs : List (Nat × Nat)} : ∀ {o : Sum (Nat × Nat) (Nat × Nat)}, allB zs o = true → AllR zs o
  | .inl ij, h => barB_ok (o := some ij) h
  | .inr (L, x), h => by
    have h0 : (barB zs none && decide (x < L) && decide (L = lcmL (zs.map (·.1))) && zs.all fun z => decide (x % z.1 = z.2)) = true := h
    rw [Bool.and_eq_true, Bool.and_eq_true, Bool.and_eq_true] at h0
    obtain ⟨⟨⟨h1, h2⟩, h3⟩, h4⟩ := h0
    exact ⟨barB_ok h1, of_decide_eq_true h2, of_decide_eq_true h3, fun z hz => of_decide_eq_true (List.all_eq_true.mp h4 z hz)⟩
theorem good_all {zs : List (Nat × Nat)} (h : (zs.all fun z => decide (z.2 < z.1)) = true) : ∀ z ∈ zs, z.2 < z.1 := fun z hz => of_decide_eq_true (List.all_eq_true.mp h z hz)
variable {P : Program} {w : World} {K : PySem.W.Frag} {mg : Str → Option Value} {base : Heap}
local macro_rules | `(tactic| walk_at "s1") => `(tactic| first
  | with_reducible refine r_seq ?_ | with_reducible refine r_asg ?_ | with_reducible refine r_ret ?_ | with_reducible refine r_drop ?_ | with_reducible refine r_ifS ?_ | with_reducible refine r_par ?_
  | with_reducible refine r_nx ?_ | with_reducible refine r_rt ?_ | with_reducible refine r_bk ?_ | with_reducible refine r_ct ?_ | with_reducible refine r_next ?_
  | with_reducible refine r_op ?_ | with_reducible refine r_un ?_ | (focus ((with_reducible refine' r_var ?_ ?_); rotate_left; exact rfl)) | with_reducible refine r_c ?_
  | with_reducible refine r_test ?_ | with_reducible refine r_tB ?_ | with_reducible refine r_isbl ?_ | with_reducible refine r_and ?_ | with_reducible refine r_or ?_ | with_reducible refine r_not ?_
  | with_reducible refine r_I0 ?_ | with_reducible refine r_U ?_ | with_reducible refine r_eqI ?_ | with_reducible refine r_neI ?_
  | with_reducible refine r_nil ?_ | with_reducible refine r_cons ?_ | with_reducible refine r_tup ?_ | with_reducible refine r_lst ?_ | with_reducible refine r_call ?_ | with_reducible refine r_cb ?_
  | with_reducible refine r_andV ?_ | with_reducible refine r_orV ?_ | with_reducible refine r_notV ?_ | with_reducible refine r_chain ?_
  | with_reducible refine r_int ?_ | ((with_reducible refine r_name ?_); dsimp only [List.set]) | with_reducible refine r_sl ?_ | with_reducible refine r_sub ?_ | with_reducible refine r_gcons ?_ | with_reducible refine r_gnil ?_
  | ((with_reducible refine r_tuple2 ?_); dsimp only [List.set]) | with_reducible refine r_part ?_ | with_reducible refine r_nopart ?_ | with_reducible refine r_isint ?_ | with_reducible refine r_int2 ?_ | with_reducible refine r_for ?_ | with_reducible refine r_lc ?_ | with_reducible refine r_rng1 ?_ | with_reducible refine r_rng2 ?_ | with_reducible refine r_ilist ?_ | with_reducible refine r_itup ?_
  | with_reducible refine r_T ?_ | with_reducible refine r_F ?_ | with_reducible refine r_nT ?_ | with_reducible refine r_nF ?_ | with_reducible refine r_pow18 ?_ | with_reducible refine r_pow30 ?_ | with_reducible refine r_pow60 ?_ | with_reducible refine r_pow1200 ?_ | with_reducible refine r_mod (by omega) ?_ | with_reducible refine r_gcdN ?_ | with_reducible refine r_non ?_ | with_reducible refine r_neB ?_ | with_reducible refine r_eqB ?_ | with_reducible refine r_bm ?_ | with_reducible refine r_pow300 ?_ | with_reducible refine r_revL ?_ | dsimp only [cx_K])
local macro_rules | `(tactic| walk_at "st") => `(tactic| repeat walk_at "s1")
def topS (i : Nat) : Stmt := PySem.Challenge.pw_bymarks_k03_whole_lists_of_classes.main.body.getD i (.Pass ⟨0, 0, 0, 0⟩)
abbrev s__law_source : Stmt := topS 20
abbrev nm__law_source : List Str := ["_law_script", "_law_cells", "_law_k"]
theorem sc__law_source : FnScope nm__law_source ["_law_script"] (defScope s__law_source) := ⟨rfl, rfl, rfl, by decide +kernel, rfl, by decide +kernel, by decide +kernel⟩
abbrev s__law_draw : Stmt := topS 21
abbrev nm__law_draw : List Str := ["_law_source_here", "_law_limit", "_law_cells", "_law_turn", "_law_place", "_law_cell", "_law_number"]
theorem sc__law_draw : FnScope nm__law_draw ["_law_source_here", "_law_limit"] (defScope s__law_draw) := ⟨rfl, rfl, rfl, by decide +kernel, rfl, by decide +kernel, by decide +kernel⟩
abbrev s_is_integer : Stmt := topS 5
abbrev nm_is_integer : List Str := ["value"]
theorem sc_is_integer : FnScope nm_is_integer ["value"] (defScope s_is_integer) := ⟨rfl, rfl, rfl, by decide +kernel, rfl, by decide +kernel, by decide +kernel⟩
abbrev s_inverse : Stmt := topS 6
abbrev nm_inverse : List Str := ["number", "modulus", "ahead", "rest", "ahead_factor", "rest_factor", "times", "left"]
theorem sc_inverse : FnScope nm_inverse ["number", "modulus"] (defScope s_inverse) := ⟨rfl, rfl, rfl, by decide +kernel, rfl, by decide +kernel, by decide +kernel⟩
abbrev s_lies_in : Stmt := topS 12
abbrev nm_lies_in : List Str := ["mark", "one"]
theorem sc_lies_in : FnScope nm_lies_in ["mark", "one"] (defScope s_lies_in) := ⟨rfl, rfl, rfl, by decide +kernel, rfl, by decide +kernel, by decide +kernel⟩
abbrev s_is_class : Stmt := topS 9
abbrev nm_is_class : List Str := ["value", "modulus", "remainder"]
theorem sc_is_class : FnScope nm_is_class ["value"] (defScope s_is_class) := ⟨rfl, rfl, rfl, by decide +kernel, rfl, by decide +kernel, by decide +kernel⟩
abbrev s_check_class : Stmt := topS 10
abbrev nm_check_class : List Str := ["value"]
theorem sc_check_class : FnScope nm_check_class ["value"] (defScope s_check_class) := ⟨rfl, rfl, rfl, by decide +kernel, rfl, by decide +kernel, by decide +kernel⟩
abbrev s_have_common : Stmt := topS 13
abbrev nm_have_common : List Str := ["one", "other"]
theorem sc_have_common : FnScope nm_have_common ["one", "other"] (defScope s_have_common) := ⟨rfl, rfl, rfl, by decide +kernel, rfl, by decide +kernel, by decide +kernel⟩
abbrev s_common_class : Stmt := topS 14
abbrev nm_common_class : List Str := ["one", "other", "modulus", "remainder", "shared", "further", "steps"]
theorem sc_common_class : FnScope nm_common_class ["one", "other"] (defScope s_common_class) := ⟨rfl, rfl, rfl, by decide +kernel, rfl, by decide +kernel, by decide +kernel⟩
abbrev s_meet : Stmt := topS 15
abbrev nm_meet : List Str := ["one", "other"]
theorem sc_meet : FnScope nm_meet ["one", "other"] (defScope s_meet) := ⟨rfl, rfl, rfl, by decide +kernel, rfl, by decide +kernel, by decide +kernel⟩
abbrev s_is_within : Stmt := topS 18
abbrev nm_is_within : List Str := ["one", "other"]
theorem sc_is_within : FnScope nm_is_within ["one", "other"] (defScope s_is_within) := ⟨rfl, rfl, rfl, by decide +kernel, rfl, by decide +kernel, by decide +kernel⟩
abbrev s__law_divisor : Stmt := topS 23
abbrev nm__law_divisor : List Str := ["_law_one", "_law_other"]
theorem sc__law_divisor : FnScope nm__law_divisor ["_law_one", "_law_other"] (defScope s__law_divisor) := ⟨rfl, rfl, rfl, by decide +kernel, rfl, by decide +kernel, by decide +kernel⟩
abbrev s__law_great : Stmt := topS 24
abbrev nm__law_great : List Str := ["_law_source_here", "_law_digits", "_law_number", "_law_k"]
theorem sc__law_great : FnScope nm__law_great ["_law_source_here", "_law_digits"] (defScope s__law_great) := ⟨rfl, rfl, rfl, by decide +kernel, rfl, by decide +kernel, by decide +kernel⟩
abbrev s__law_modulus : Stmt := topS 25
abbrev nm__law_modulus : List Str := ["_law_source_here", "_law_way"]
theorem sc__law_modulus : FnScope nm__law_modulus ["_law_source_here"] (defScope s__law_modulus) := ⟨rfl, rfl, rfl, by decide +kernel, rfl, by decide +kernel, by decide +kernel⟩
abbrev s__law_lies : Stmt := topS 26
abbrev nm__law_lies : List Str := ["_law_mark", "_law_one"]
theorem sc__law_lies : FnScope nm__law_lies ["_law_mark", "_law_one"] (defScope s__law_lies) := ⟨rfl, rfl, rfl, by decide +kernel, rfl, by decide +kernel, by decide +kernel⟩
abbrev s_check_classes : Stmt := topS 11
abbrev nm_check_classes : List Str := ["value", "most", "one"]
theorem sc_check_classes : FnScope nm_check_classes ["value", "most"] (defScope s_check_classes) := ⟨rfl, rfl, rfl, by decide +kernel, rfl, by decide +kernel, by decide +kernel⟩
abbrev s_first_bar : Stmt := topS 16
abbrev nm_first_bar : List Str := ["classes", "i", "j"]
theorem sc_first_bar : FnScope nm_first_bar ["classes"] (defScope s_first_bar) := ⟨rfl, rfl, rfl, by decide +kernel, rfl, by decide +kernel, by decide +kernel⟩
abbrev s_meet_all : Stmt := topS 17
abbrev nm_meet_all : List Str := ["classes", "bar", "common", "one"]
theorem sc_meet_all : FnScope nm_meet_all ["classes"] (defScope s_meet_all) := ⟨rfl, rfl, rfl, by decide +kernel, rfl, by decide +kernel, by decide +kernel⟩
abbrev s__law_pick : Stmt := topS 22
abbrev nm__law_pick : List Str := ["_law_source_here", "_law_values"]
theorem sc__law_pick : FnScope nm__law_pick ["_law_source_here", "_law_values"] (defScope s__law_pick) := ⟨rfl, rfl, rfl, by decide +kernel, rfl, by decide +kernel, by decide +kernel⟩
abbrev s__law_first_bar : Stmt := topS 27
abbrev nm__law_first_bar : List Str := ["_law_classes", "_law_i", "_law_j"]
theorem sc__law_first_bar : FnScope nm__law_first_bar ["_law_classes"] (defScope s__law_first_bar) := ⟨rfl, rfl, rfl, by decide +kernel, rfl, by decide +kernel, by decide +kernel⟩
abbrev s__law_fits : Stmt := topS 28
abbrev nm__law_fits : List Str := ["_law_classes", "_law_kept", "_law_found", "_law_bar", "_law_great_here", "_law_mark", "_law_modulus_here", "_law_one"]
theorem sc__law_fits : FnScope nm__law_fits ["_law_classes"] (defScope s__law_fits) := ⟨rfl, rfl, rfl, by decide +kernel, rfl, by decide +kernel, by decide +kernel⟩
abbrev s_law : Stmt := topS 29
abbrev nm_law : List Str := ["_law_script", "_law_source_here", "_law_turn", "_law_mark", "_law_classes", "_law_k", "_law_m", "_law_at", "_law_r", "_law_great_here"]
theorem sc_law : FnScope nm_law ["_law_script"] (defScope s_law) := ⟨rfl, rfl, rfl, by decide +kernel, rfl, by decide +kernel, by decide +kernel⟩
structure Txt (K : PySem.W.Frag) (mg : Str → Option Value) : Prop where
  f__law_source : My.Has K mg "_law_source" s__law_source ["_law_script"]
  f__law_draw : My.Has K mg "_law_draw" s__law_draw ["_law_source_here", "_law_limit"]
  f_is_integer : My.Has K mg "is_integer" s_is_integer ["value"]
  f_inverse : My.Has K mg "inverse" s_inverse ["number", "modulus"]
  f_lies_in : My.Has K mg "lies_in" s_lies_in ["mark", "one"]
  f_is_class : My.Has K mg "is_class" s_is_class ["value"]
  f_check_class : My.Has K mg "check_class" s_check_class ["value"]
  f_have_common : My.Has K mg "have_common" s_have_common ["one", "other"]
  f_common_class : My.Has K mg "common_class" s_common_class ["one", "other"]
  f_meet : My.Has K mg "meet" s_meet ["one", "other"]
  f_is_within : My.Has K mg "is_within" s_is_within ["one", "other"]
  f__law_divisor : My.Has K mg "_law_divisor" s__law_divisor ["_law_one", "_law_other"]
  f__law_great : My.Has K mg "_law_great" s__law_great ["_law_source_here", "_law_digits"]
  f__law_modulus : My.Has K mg "_law_modulus" s__law_modulus ["_law_source_here"]
  f__law_lies : My.Has K mg "_law_lies" s__law_lies ["_law_mark", "_law_one"]
  f_check_classes : My.Has K mg "check_classes" s_check_classes ["value", "most"]
  f_first_bar : My.Has K mg "first_bar" s_first_bar ["classes"]
  f_meet_all : My.Has K mg "meet_all" s_meet_all ["classes"]
  f__law_pick : My.Has K mg "_law_pick" s__law_pick ["_law_source_here", "_law_values"]
  f__law_first_bar : My.Has K mg "_law_first_bar" s__law_first_bar ["_law_classes"]
  f__law_fits : My.Has K mg "_law_fits" s__law_fits ["_law_classes"]
  f_law : My.Has K mg "law" s_law ["_law_script"]
  b_abs : mg "abs" = none
  b_bool : mg "bool" = none
  b_divmod : mg "divmod" = none
  b_int : mg "int" = none
  b_isinstance : mg "isinstance" = none
  b_len : mg "len" = none
  b_list : mg "list" = none
  b_range : mg "range" = none
  b_tuple : mg "tuple" = none
  v_MOST_TO_MEET : ∃ u, mg "MOST_TO_MEET" = some u ∧ RelV (.int 40) u
  v_gcd : mg "gcd" = some (.builtin "math.gcd")
local macro_rules | `(tactic| walk_at "s1") => `(tactic| first
  | with_reducible refine r_seq ?_ | with_reducible refine r_asg ?_ | with_reducible refine r_ret ?_ | with_reducible refine r_drop ?_ | with_reducible refine r_ifS ?_ | with_reducible refine r_par ?_
  | with_reducible refine r_nx ?_ | with_reducible refine r_rt ?_ | with_reducible refine r_bk ?_ | with_reducible refine r_ct ?_ | with_reducible refine r_next ?_
  | with_reducible refine r_op ?_ | with_reducible refine r_un ?_ | (focus ((with_reducible refine' r_var ?_ ?_); rotate_left; exact rfl)) | with_reducible refine r_c ?_
  | with_reducible refine r_test ?_ | with_reducible refine r_tB ?_ | with_reducible refine r_isbl ?_ | with_reducible refine r_and ?_ | with_reducible refine r_or ?_ | with_reducible refine r_not ?_
  | with_reducible refine r_I0 ?_ | with_reducible refine r_U ?_ | with_reducible refine r_eqI ?_ | with_reducible refine r_neI ?_
  | with_reducible refine r_nil ?_ | with_reducible refine r_cons ?_ | with_reducible refine r_tup ?_ | with_reducible refine r_lst ?_ | with_reducible refine r_call ?_ | with_reducible refine r_cb ?_
  | with_reducible refine r_andV ?_ | with_reducible refine r_orV ?_ | with_reducible refine r_notV ?_ | with_reducible refine r_chain ?_
  | with_reducible refine r_int ?_ | ((with_reducible refine r_name ?_); dsimp only [List.set]) | with_reducible refine r_sl ?_ | with_reducible refine r_sub ?_ | with_reducible refine r_gcons ?_ | with_reducible refine r_gnil ?_
  | ((with_reducible refine r_tuple2 ?_); dsimp only [List.set]) | with_reducible refine r_part ?_ | with_reducible refine r_nopart ?_ | with_reducible refine r_isint ?_ | with_reducible refine r_int2 ?_ | with_reducible refine r_for ?_ | with_reducible refine r_lc ?_ | with_reducible refine r_rng1 ?_ | with_reducible refine r_rng2 ?_ | with_reducible refine r_ilist ?_ | with_reducible refine r_itup ?_
  | with_reducible refine r_T ?_ | with_reducible refine r_F ?_ | with_reducible refine r_nT ?_ | with_reducible refine r_nF ?_ | with_reducible refine r_pow18 ?_ | with_reducible refine r_pow30 ?_ | with_reducible refine r_pow60 ?_ | with_reducible refine r_pow1200 ?_ | with_reducible refine r_mod (by omega) ?_ | with_reducible refine r_gcdN ?_ | with_reducible refine r_non ?_ | with_reducible refine r_neB ?_ | with_reducible refine r_eqB ?_ | with_reducible refine r_bm ?_ | with_reducible refine r_pow300 ?_ | with_reducible refine r_revL ?_ | dsimp only [cx_K])
local macro_rules | `(tactic| walk_at "st") => `(tactic| repeat walk_at "s1")
/-! ### the law's source of drawn numbers -/
def sp__law_source (K : PySem.W.Frag) : Sp := fun vs H Q _ => ∃ (s : Addr) (ns : List Int), vs = [.ref s] ∧ SqL K H s (ns.map V.int) ∧ ns.length ≤ 63 ∧ ∀ a c H', Same H H' → Src H' a c 0 → H a = none → H c = none → Q (.ref a) H'
def sp__law_draw (K : PySem.W.Frag) : Sp := fun vs H Q _ => ∃ (a c : Addr) (t n : Int), vs = [.ref a, .int n] ∧ Src H a c t ∧ t + 1 ≤ Big ∧ 0 < n ∧ Bd n ∧ ∀ r t' H', 0 ≤ r → r < n → Keep a c H H' → Src H' a c t' → t ≤ t' → t' ≤ t + 1 → Q (.int r) H'
theorem cal__law_source (T : Txt K mg)  : Cal P w K mg base 1 "_law_source" (sp__law_source K) [] := by
  obtain ⟨f, fd, F, gF, b⟩ := T.f__law_source
  refine My.mkCal F gF b sc__law_source (fun vs H Q E h => ?len) (fun cdv A outer s H vs Q E hr h => ?body)
  case len => first | (obtain ⟨rfl, _⟩ := h; rfl) | (obtain ⟨_, rfl, _⟩ := h; rfl) | (obtain ⟨_, _, rfl, _⟩ := h; rfl) | (obtain ⟨_, _, _, rfl, _⟩ := h; rfl) | (obtain ⟨_, _, _, _, rfl, _⟩ := h; rfl) | (obtain ⟨_, _, _, _, _, rfl, _⟩ := h; rfl) | (obtain ⟨_, _, _, _, _, _, rfl, _⟩ := h; rfl) | (obtain ⟨_, _, _, _, _, _, _, rfl, _⟩ := h; rfl) | (obtain ⟨_, _, _, _, _, _, _, _, rfl, _⟩ := h; rfl) | (obtain ⟨_, _, _, _, _, _, _, _, _, rfl, _⟩ := h; rfl) | (obtain ⟨_, _, _, _, _, _, _, _, _, _, rfl, _⟩ := h; rfl) | (obtain ⟨_, _, _, _, _, _, _, _, _, _, _, rfl, _⟩ := h; rfl) | (obtain ⟨_, _, _, _, _, _, _, _, _, _, _, _, rfl, _⟩ := h; rfl) | (obtain ⟨_, _, _, _, _, _, _, _, _, _, _, _, _, rfl, _⟩ := h; rfl) | (obtain ⟨_, _, _, _, _, _, _, _, _, _, _, _, _, _, rfl, _⟩ := h; rfl)
  case body =>
    refine ⟨_, (pss_cons (ps_set (i := 1) sc__law_source.nd rfl (Or.inl rfl) (pe_slice sl_list (pv 0) po_none (po_some pe_int)))
      (pss_cons (ps_for PassesOwn.never rfl (pi_range1 (by rfl) T.b_range (pa_cons (pe_callB call_len_seq (by rfl) T.b_len (by decide +kernel) (pa_cons (pv 1) pa_nil)) pa_nil)) (pg_name (i := 2) sc__law_source.nd rfl (Or.inl rfl))
      (pss_one (ps_if (pt_cmpR op_ge (pe_callB My.call_absI (by rfl) T.b_abs (by decide +kernel) (pa_cons (pe_ix ix_list (pv 1) (pv 2) (fun _ _ => rfl)) pa_nil)) (pe_op My.op_powW pe_int pe_int) (nomark _))
      (pss_one (ps_asg (pe_op op_mod (pe_callTy My.call_intI (by rfl) T.b_int (by decide +kernel) (pa_cons (pe_ix ix_list (pv 1) (pv 2) (fun _ _ => rfl)) pa_nil)) (pe_op My.op_powW (pe_op My.op_powW pe_int pe_int) pe_int)) (pg_sub (pv 1) (pv 2) set_list)))
      pss_nil)))
      (pss_cons (ps_if (pt_cmpR (op_eqD hr.units) (pv 1) (pe_lst pa_nil) (nomark _))
      (pss_one (ps_set (i := 1) sc__law_source.nd rfl (Or.inl rfl) (pe_lst (pa_cons pe_int pa_nil))))
      pss_nil)
      (pss_one (ps_ret (pe_lst (pa_cons (pv 1) (pa_cons pe_int pa_nil)))))))), ?_⟩
    obtain ⟨s0, ns, rfl, hS, hlen, q⟩ := h
    refine My.r_start (σ := [some _, none, none]) rfl ?_; walk_at "st"
    refine r_slL hS fun c hc => ?_
    rw [cut63 (by simpa using hlen)]
    walk_at "st"
    refine r_lenL (.of upd_same) ?_
    walk_at "st"
    rw [List.length_map]
    refine r_rgL ns.length rfl (by omega) ?_
    refine loop_range (fun i σ' H' => ∃ (v : Option V) (ms : List Int), σ' = [some (.ref s0), some (.ref c), v] ∧ Same H H' ∧ H' c = some (.lst (ms.map V.int)) ∧ ms.length = ns.length ∧ ∀ j x, j < i → ms[j]? = some x → Bd x) ?_ ?_ ?_
    · exact ⟨none, ns, rfl, Same.new hc, upd_same, rfl, fun j x hj => absurd hj (Nat.not_lt_zero _)⟩
    · rintro i σ' H' hi ⟨v, ms, rfl, sm, hc', hl, hb⟩
      obtain ⟨x, hx⟩ := get_of (xs := ms) (j := i) (by omega)
      walk_at "st"
      refine r_ixL (.of hc') (atI_int hx) ?_
      walk_at "st"
      refine r_dec (fun g => ?_) (fun g => ?_)
      · walk_at "st"
        refine r_ixL (.of hc') (atI_int hx) ?_
        walk_at "st"
        refine r_mod e1200_pos ?_
        walk_at "st"
        refine r_setL hc' (ixN_nat (by rw [List.length_map]; omega)) ?_
        rw [map_set]
        refine ⟨_, _, rfl, fun b o e => ?_, upd_same, by rw [List.length_set]; exact hl, fun j y hj hy => ?_⟩
        · rw [upd_ne (ne_of_none e hc)]
          exact sm b o e
        · rw [List.getElem?_set] at hy
          by_cases hji : i = j
          · rw [if_pos hji, if_pos (by omega)] at hy
            have e := Option.some.inj hy
            rw [← e]
            exact bd_e1200 (Int.emod_nonneg _ (by have := e1200_pos; omega)) (Int.emod_lt_of_pos _ e1200_pos)
          · rw [if_neg hji] at hy
            exact hb j y (by omega) hy
      · walk_at "st"
        refine ⟨_, ms, rfl, sm, hc', hl, fun j y hj hy => ?_⟩
        by_cases hji : j = i
        · subst hji
          rw [hx] at hy
          have e := Option.some.inj hy
          subst e
          exact bd_small (by omega)
        · exact hb j y (by omega) hy
    · rintro σ' H' ⟨v, ms, rfl, sm, hc', hl, hb⟩
      walk_at "st"
      refine r_sz (by decide) fun p hp => ?_
      refine r_eqD (dp_ints ((Same.new hp).seq (.of hc'))) (dp_ints (ns := []) (.of upd_same)) shp_ints.ok shp_ints.ok ?_
      rw [eqv_list eqv_int]
      walk_at "st"
      refine r_dec (fun g => ?_) (fun g => ?_)
      · walk_at "st"
        refine r_sz (Nat.le_of_ble_eq_true rfl) fun c2 hc2 => ?_
        walk_at "st"
        refine r_sz (Nat.le_of_ble_eq_true rfl) fun a ha => ?_
        have hs0 : Same H (upd (upd H' p (.lst [])) c2 (.lst [.int 0])) := (sm.trans (Same.new hp)).trans (Same.new hc2)
        have hc20 : H c2 = none := (sm.trans (Same.new hp)).free hc2
        have ha0 : H a = none := hs0.free ha
        refine q a c2 _ (hs0.trans (Same.new ha)) ⟨upd_same, ⟨[0], ?_, by decide, by decide, fun n hn => ?_⟩, by decide, ne_of_none upd_same ha⟩ ha0 hc20
        · exact (Same.new ha) _ _ upd_same
        · rw [List.mem_singleton] at hn
          subst hn
          exact bd_small (by decide)
      · walk_at "st"
        refine r_sz (Nat.le_of_ble_eq_true rfl) fun a ha => ?_
        have hs0 : Same H (upd H' p (.lst [])) := sm.trans (Same.new hp)
        refine q a c _ (hs0.trans (Same.new ha)) ⟨upd_same, ⟨ms, ?_, ?_, by omega, fun n hn => ?_⟩, by decide, ne_of_none ((Same.new hp) _ _ hc') ha⟩ (hs0.free ha) hc
        · exact (Same.new ha) _ _ ((Same.new hp) _ _ hc')
        · exact List.length_pos_iff.mpr g
        · obtain ⟨j, hj⟩ := List.getElem?_of_mem hn
          have := (List.getElem?_eq_some_iff.mp hj).1
          exact hb j n (by omega) hj
theorem cal__law_draw (T : Txt K mg)  : Cal P w K mg base 1 "_law_draw" (sp__law_draw K) [] := by
  obtain ⟨f, fd, F, gF, b⟩ := T.f__law_draw
  refine My.mkCal F gF b sc__law_draw (fun vs H Q E h => ?len) (fun cdv A outer s H vs Q E hr h => ?body)
  case len => first | (obtain ⟨rfl, _⟩ := h; rfl) | (obtain ⟨_, rfl, _⟩ := h; rfl) | (obtain ⟨_, _, rfl, _⟩ := h; rfl) | (obtain ⟨_, _, _, rfl, _⟩ := h; rfl) | (obtain ⟨_, _, _, _, rfl, _⟩ := h; rfl) | (obtain ⟨_, _, _, _, _, rfl, _⟩ := h; rfl) | (obtain ⟨_, _, _, _, _, _, rfl, _⟩ := h; rfl) | (obtain ⟨_, _, _, _, _, _, _, rfl, _⟩ := h; rfl) | (obtain ⟨_, _, _, _, _, _, _, _, rfl, _⟩ := h; rfl) | (obtain ⟨_, _, _, _, _, _, _, _, _, rfl, _⟩ := h; rfl) | (obtain ⟨_, _, _, _, _, _, _, _, _, _, rfl, _⟩ := h; rfl) | (obtain ⟨_, _, _, _, _, _, _, _, _, _, _, rfl, _⟩ := h; rfl) | (obtain ⟨_, _, _, _, _, _, _, _, _, _, _, _, rfl, _⟩ := h; rfl) | (obtain ⟨_, _, _, _, _, _, _, _, _, _, _, _, _, rfl, _⟩ := h; rfl) | (obtain ⟨_, _, _, _, _, _, _, _, _, _, _, _, _, _, rfl, _⟩ := h; rfl)
  case body =>
    refine ⟨_, (pss_cons (ps_asg (pv 0) (pg_unl (by rfl) (pgs_cons (pg_name (i := 2) sc__law_draw.nd rfl (Or.inl rfl)) (pgs_cons (pg_name (i := 3) sc__law_draw.nd rfl (Or.inl rfl)) pgs_nil))))
      (pss_cons (ps_set (i := 4) sc__law_draw.nd rfl (Or.inl rfl) (pe_op op_mod (pe_callTy My.call_intI (by rfl) T.b_int (by decide +kernel) (pa_cons (pv 3) pa_nil)) (pe_callB call_len_seq (by rfl) T.b_len (by decide +kernel) (pa_cons (pv 2) pa_nil))))
      (pss_cons (ps_set (i := 5) sc__law_draw.nd rfl (Or.inl rfl) (pe_ix ix_list (pv 2) (pv 4) (fun _ _ => rfl)))
      (pss_cons (ps_asg (pe_op op_add (pv 3) pe_int) (pg_sub (pv 0) pe_int set_list))
      (pss_cons (ps_if (pt_cmpR op_ge (pv 5) (pe_op My.op_powW pe_int pe_int) (nomark _))
      (pss_cons (ps_asg (pe_op op_fdivW (pv 5) (pv 1)) (pg_sub (pv 2) (pv 4) set_list))
      (pss_one (ps_ret (pe_op op_mod (pe_callTy My.call_intI (by rfl) T.b_int (by decide +kernel) (pa_cons (pv 5) pa_nil)) (pv 1)))))
      pss_nil)
      (pss_cons (ps_set (i := 6) sc__law_draw.nd rfl (Or.inl rfl) (pe_op op_mod (pe_callTy My.call_intI (by rfl) T.b_int (by decide +kernel) (pa_cons (pe_op op_add (pe_op op_add (pe_op op_mulX (pe_op op_mod (pe_callTy My.call_intI (by rfl) T.b_int (by decide +kernel) (pa_cons (pv 5) pa_nil)) pe_int) pe_int) (pe_op op_mulX (pe_op op_mulX (pv 3) (pv 3)) pe_int)) pe_int) pa_nil)) pe_int))
      (pss_cons (ps_set (i := 6) sc__law_draw.nd rfl (Or.inl rfl) (pe_op op_mod (pe_callTy My.call_intI (by rfl) T.b_int (by decide +kernel) (pa_cons (pe_op op_mulX (pv 6) (pv 6)) pa_nil)) pe_int))
      (pss_cons (ps_set (i := 6) sc__law_draw.nd rfl (Or.inl rfl) (pe_op op_mod (pe_callTy My.call_intI (by rfl) T.b_int (by decide +kernel) (pa_cons (pe_op op_mulX (pv 6) (pv 6)) pa_nil)) pe_int))
      (pss_one (ps_ret (pe_op op_mod (pe_callTy My.call_intI (by rfl) T.b_int (by decide +kernel) (pa_cons (pv 6) pa_nil)) (pv 1)))))))))))), ?_⟩
    obtain ⟨a, c, t, n, rfl, hs, ht, hn, hb, q⟩ := h
    refine My.r_start (σ := [some _, some _, none, none, none, none, none]) rfl ?_; walk_at "st"
    have hsrc := hs
    obtain ⟨h1, ⟨ns, h2, h3, h4, h5⟩, h6, hac⟩ := hs
    refine r_gunl (.of h1) rfl ?_
    walk_at "st"
    refine r_lenL (.of h2) ?_
    walk_at "st"
    rw [List.length_map]
    walk_at "st"
    have hm0 : 0 ≤ t % (ns.length : Int) := Int.emod_nonneg _ (by omega)
    have hm1 : t % (ns.length : Int) < (ns.length : Int) := Int.emod_lt_of_pos _ (by omega)
    obtain ⟨j, hj⟩ : ∃ j : Nat, t % (ns.length : Int) = (j : Int) := ⟨(t % (ns.length : Int)).toNat, by omega⟩
    rw [hj] at hm1 ⊢
    obtain ⟨x, hx⟩ := get_of (xs := ns) (j := j) (by omega)
    have hxb : Bd x := h5 x (List.mem_of_getElem? hx)
    refine r_ixL (.of h2) (atI_int hx) ?_
    walk_at "st"
    refine r_setL h1 (j := 1) (by rfl) ?_
    walk_at "st"
    have k1 : Keep a c H (upd H a (.lst ([V.ref c, .int t].set 1 (.int (t + 1))))) := fun b o hb1 hb2 e => by
      rw [upd_ne hb1]
      exact e
    have e1 : upd H a (.lst ([V.ref c, .int t].set 1 (.int (t + 1)))) a = some (.lst [.ref c, .int (t + 1)]) := upd_same
    have e2 : upd H a (.lst ([V.ref c, .int t].set 1 (.int (t + 1)))) c = some (.lst (ns.map V.int)) := by
      rw [upd_ne hac]
      exact h2
    refine r_dec (fun g => ?_) (fun g => ?_)
    · walk_at "st"
      refine r_div (div_bd hn hb) ?_
      walk_at "st"
      refine r_setL e2 (ixN_nat (by rw [List.length_map]; omega)) ?_
      walk_at "st"
      rw [map_set]
      refine q _ (t + 1) _ (Int.emod_nonneg _ (by omega)) (Int.emod_lt_of_pos _ hn) (fun b o hb1 hb2 e => ?_) ⟨?_, ⟨_, upd_same, by rw [List.length_set]; omega, by rw [List.length_set]; omega, fun m hm => ?_⟩, by omega, hac⟩ (by omega) (by omega)
      · rw [upd_ne hb2]
        exact k1 b o hb1 hb2 e
      · rw [upd_ne hac.symm]
        exact e1
      · rcases List.mem_or_eq_of_mem_set hm with hm | hm
        · exact h5 m hm
        · subst hm
          exact bd_le (Int.ediv_nonneg (by omega) (by omega)) (Int.ediv_le_self _ (by omega)) hxb
    · have sm1 : ∀ (z : Int) (k : Int), 0 < k → k < 2147483648 → Sm (z % k) := fun z k hk hk2 => by
        have b1 := Int.emod_nonneg z (show k ≠ 0 by omega)
        have b2 := Int.emod_lt_of_pos z hk
        exact sm_small (by omega)
      have smt : Sm t := sm_small (by
        have hB : Big = 1152921504606846976 := by decide
        omega)
      have smtt : Sm (t * t) := by
        have hB : Big = 1152921504606846976 := by decide
        have ht2 : t.natAbs < 2 ^ 64 := by omega
        exact Nat.lt_trans (wide_lt ht2 ht2) (Nat.pow_lt_pow_right (by decide) (by decide))
      walk_at "st"
      refine r_mul (mul_sm (sm1 _ _ (by decide) (by decide)) (sm_small (by decide))) ?_
      walk_at "st"
      refine r_mul (mul_sm smt smt) ?_
      walk_at "st"
      refine r_mul (mul_sm smtt (sm_small (by decide))) ?_
      walk_at "st"
      refine r_mul (mul_sm (sm1 _ _ (by decide) (by decide)) (sm1 _ _ (by decide) (by decide))) ?_
      walk_at "st"
      refine r_mul (mul_sm (sm1 _ _ (by decide) (by decide)) (sm1 _ _ (by decide) (by decide))) ?_
      walk_at "st"
      exact q _ (t + 1) _ (Int.emod_nonneg _ (by omega)) (Int.emod_lt_of_pos _ hn) k1 ⟨e1, ⟨ns, e2, h3, h4, h5⟩, by omega, hac⟩ (by omega) (by omega)

/-! ### the program's functions on classes -/
def sp_is_integer (K : PySem.W.Frag) : Sp := fun vs H Q _ => ∃ (i : Int), vs = [.int i] ∧ Q (.bl true) H
def sp_inverse (K : PySem.W.Frag) : Sp := fun vs H Q _ => ∃ (n m : Nat), vs = [.int (n : Int), .int (m : Int)] ∧ 1 ≤ m ∧ Nat.gcd n m = 1 ∧ Bd (m : Int) ∧ ∀ r H', Same H H' → 0 ≤ r → r < (m : Int) → (m : Int) ∣ (n : Int) * r - 1 → Q (.int r) H'
def sp_is_class (K : PySem.W.Frag) : Sp := fun vs H Q _ => ∃ (v : V) (m r : Nat), vs = [v] ∧ IsC K H v m r ∧ r < m ∧ Q (.bl true) H
def sp_check_class (K : PySem.W.Frag) : Sp := fun vs H Q _ => ∃ (v : V) (m r : Nat), vs = [v] ∧ IsC K H v m r ∧ r < m ∧ Q .non H
def sp_lies_in (K : PySem.W.Frag) : Sp := fun vs H Q _ => ∃ (h : Int) (v : V) (m r : Nat), vs = [.int h, v] ∧ IsC K H v m r ∧ 0 < m ∧ Q (.bl (decide (h % (m : Int) = (r : Int)))) H
def sp_have_common (K : PySem.W.Frag) : Sp := fun vs H Q _ => ∃ (v1 v2 : V) (m1 r1 m2 r2 : Nat), vs = [v1, v2] ∧ IsC K H v1 m1 r1 ∧ IsC K H v2 m2 r2 ∧ 0 < m1 ∧ Q (.bl (decide (Fits m1 r1 m2 r2))) H
def sp_common_class (K : PySem.W.Frag) : Sp := fun vs H Q _ => ∃ (v1 v2 : V) (m1 r1 m2 r2 : Nat), vs = [v1, v2] ∧ IsC K H v1 m1 r1 ∧ IsC K H v2 m2 r2 ∧ CC m1 r1 ∧ CC m2 r2 ∧ ∀ v o H', Same H H' → MeetR m1 r1 m2 r2 o → OptC K H' v o → Q v H'
def sp_meet (K : PySem.W.Frag) : Sp := sp_common_class K
def sp_is_within (K : PySem.W.Frag) : Sp := fun vs H Q _ => ∃ (v1 v2 : V) (m1 r1 m2 r2 : Nat), vs = [v1, v2] ∧ IsC K H v1 m1 r1 ∧ IsC K H v2 m2 r2 ∧ r1 < m1 ∧ r2 < m2 ∧ Q (.bl (decide (m1 % m2 = 0 ∧ r1 % m2 = r2))) H
theorem cal_is_integer (T : Txt K mg)  : Cal P w K mg base 1 "is_integer" (sp_is_integer K) [] := by
  obtain ⟨f, fd, F, gF, b⟩ := T.f_is_integer
  refine My.mkCal F gF b sc_is_integer (fun vs H Q E h => ?len) (fun cdv A outer s H vs Q E hr h => ?body)
  case len => first | (obtain ⟨rfl, _⟩ := h; rfl) | (obtain ⟨_, rfl, _⟩ := h; rfl) | (obtain ⟨_, _, rfl, _⟩ := h; rfl) | (obtain ⟨_, _, _, rfl, _⟩ := h; rfl) | (obtain ⟨_, _, _, _, rfl, _⟩ := h; rfl) | (obtain ⟨_, _, _, _, _, rfl, _⟩ := h; rfl) | (obtain ⟨_, _, _, _, _, _, rfl, _⟩ := h; rfl) | (obtain ⟨_, _, _, _, _, _, _, rfl, _⟩ := h; rfl) | (obtain ⟨_, _, _, _, _, _, _, _, rfl, _⟩ := h; rfl) | (obtain ⟨_, _, _, _, _, _, _, _, _, rfl, _⟩ := h; rfl) | (obtain ⟨_, _, _, _, _, _, _, _, _, _, rfl, _⟩ := h; rfl) | (obtain ⟨_, _, _, _, _, _, _, _, _, _, _, rfl, _⟩ := h; rfl) | (obtain ⟨_, _, _, _, _, _, _, _, _, _, _, _, rfl, _⟩ := h; rfl) | (obtain ⟨_, _, _, _, _, _, _, _, _, _, _, _, _, rfl, _⟩ := h; rfl) | (obtain ⟨_, _, _, _, _, _, _, _, _, _, _, _, _, _, rfl, _⟩ := h; rfl)
  case body =>
    refine ⟨_, (pss_one (ps_ret (pe_and (pe_callB call_isi (by rfl) T.b_isinstance (by decide +kernel) (pa_cons (pv 0) (pa_cons (pe_bltn (v := .ty "int") (by rfl) T.b_int (by decide +kernel) rfl) pa_nil))) (pe_one (pe_not (pe_callB call_isi (by rfl) T.b_isinstance (by decide +kernel) (pa_cons (pv 0) (pa_cons (pe_bltn (v := .ty "bool") (by rfl) T.b_bool (by decide +kernel) rfl) pa_nil)))))))), ?_⟩
    obtain ⟨i, rfl, q⟩ := h
    refine My.r_start (σ := [some _]) rfl ?_; walk_at "st"
    refine r_isi tyx_int k_ii ?_
    walk_at "st"
    refine r_isi tyx_int k_ib ?_
    walk_at "st"
    exact q
theorem cal_inverse (T : Txt K mg)  : Cal P w K mg base 1 "inverse" (sp_inverse K) [] := by
  obtain ⟨f, fd, F, gF, b⟩ := T.f_inverse
  refine My.mkCal F gF b sc_inverse (fun vs H Q E h => ?len) (fun cdv A outer s H vs Q E hr h => ?body)
  case len => first | (obtain ⟨rfl, _⟩ := h; rfl) | (obtain ⟨_, rfl, _⟩ := h; rfl) | (obtain ⟨_, _, rfl, _⟩ := h; rfl) | (obtain ⟨_, _, _, rfl, _⟩ := h; rfl) | (obtain ⟨_, _, _, _, rfl, _⟩ := h; rfl) | (obtain ⟨_, _, _, _, _, rfl, _⟩ := h; rfl) | (obtain ⟨_, _, _, _, _, _, rfl, _⟩ := h; rfl) | (obtain ⟨_, _, _, _, _, _, _, rfl, _⟩ := h; rfl) | (obtain ⟨_, _, _, _, _, _, _, _, rfl, _⟩ := h; rfl) | (obtain ⟨_, _, _, _, _, _, _, _, _, rfl, _⟩ := h; rfl) | (obtain ⟨_, _, _, _, _, _, _, _, _, _, rfl, _⟩ := h; rfl) | (obtain ⟨_, _, _, _, _, _, _, _, _, _, _, rfl, _⟩ := h; rfl) | (obtain ⟨_, _, _, _, _, _, _, _, _, _, _, _, rfl, _⟩ := h; rfl) | (obtain ⟨_, _, _, _, _, _, _, _, _, _, _, _, _, rfl, _⟩ := h; rfl) | (obtain ⟨_, _, _, _, _, _, _, _, _, _, _, _, _, _, rfl, _⟩ := h; rfl)
  case body =>
    refine ⟨_, (pss_cons (ps_par (i := 2) (j := 3) (by rfl) sc_inverse.nd rfl rfl (by decide) rfl rfl (pa_cons (pv 1) (pa_cons (pe_op op_mod (pv 0) (pv 1)) pa_nil)) (by rfl))
      (pss_cons (ps_asg (pe_tup (pa_cons pe_int (pa_cons pe_int pa_nil))) (pg_tup (by rfl) (pgs_cons (pg_name (i := 4) sc_inverse.nd rfl (Or.inl rfl)) (pgs_cons (pg_name (i := 5) sc_inverse.nd rfl (Or.inl rfl)) pgs_nil))))
      (pss_cons (ps_while PassesOwn.never (pt_cmpR op_gt (pv 3) pe_int (nomark _))
      (pss_cons (ps_asg (pe_callB My.call_divmodB (by rfl) T.b_divmod (by decide +kernel) (pa_cons (pv 2) (pa_cons (pv 3) pa_nil))) (pg_tup (by rfl) (pgs_cons (pg_name (i := 6) sc_inverse.nd rfl (Or.inl rfl)) (pgs_cons (pg_name (i := 7) sc_inverse.nd rfl (Or.inl rfl)) pgs_nil))))
      (pss_cons (ps_par (i := 2) (j := 3) (by rfl) sc_inverse.nd rfl rfl (by decide) rfl rfl (pa_cons (pv 3) (pa_cons (pv 7) pa_nil)) (by rfl))
      (pss_one (ps_par (i := 4) (j := 5) (by rfl) sc_inverse.nd rfl rfl (by decide) rfl rfl (pa_cons (pv 5) (pa_cons (pe_op op_sub (pv 4) (pe_op op_mulX (pv 6) (pv 5))) pa_nil)) (by rfl))))))
      (pss_one (ps_ret (pe_op op_mod (pv 4) (pv 1))))))), ?_⟩
    obtain ⟨n, m, rfl, hm, hg, hb, q⟩ := h
    refine My.r_start (σ := [some _, some _, none, none, none, none, none, none]) rfl ?_; walk_at "st"
    refine r_sz (by decide) fun p0 hp0 => ?_
    walk_at "st"
    refine r_gtup (.of upd_same) rfl ?_
    walk_at "st"
    refine r_while (fun k σ' H' => ∃ (a r af rf : Int) (x y : Option V), σ' = [some (.int (n : Int)), some (.int (m : Int)), some (.int a), some (.int r), some (.int af), some (.int rf), x, y] ∧ k = r.toNat ∧ Same H H' ∧ InvW n m a r af rf) _
      ⟨(m : Int), (n : Int) % (m : Int), 0, 1, none, none, rfl, rfl, Same.new hp0, ⟨by omega, Int.le_refl _, Int.emod_nonneg _ (by omega), Int.emod_lt_of_pos _ (by omega), gcd_start hg, ⟨-1, by omega⟩, ?_, by simp⟩⟩ ?_
    · refine ⟨(n : Int) / (m : Int), ?_⟩
      have := Int.mul_ediv_add_emod (n : Int) (m : Int)
      omega
    · rintro k σ' H' ⟨a, r, af, rf, x, y, rfl, rfl, sm, I⟩
      walk_at "st"
      refine r_dec (fun g => ?_) (fun g => ?_)
      · refine r_again ?_
        walk_at "st"
        have hbr : Bd r := Nat.lt_of_le_of_lt (by have := I.r1; omega) hb
        refine ⟨div_bd g hbr, fun p hp => ?_⟩
        walk_at "st"
        refine r_gtup (.of upd_same) rfl ?_
        walk_at "st"
        have q0 : 0 ≤ a / r := Int.ediv_nonneg (by have := I.a1; omega) (by omega)
        have hq : a / r ≤ a := Int.ediv_le_self _ (by have := I.a1; omega)
        refine r_mul (mul_sm (Bd.sm (Nat.lt_of_le_of_lt (by have := I.a2; omega) hb)) (I.bd hb).sm) ?_
        walk_at "st"
        have T := I.turn g
        exact ⟨_, by have := T.r0; have := Int.emod_lt_of_pos a g; omega, _, _, _, _, _, _, rfl, rfl, sm.trans (Same.new hp), T⟩
      · walk_at "st"
        have r0 : r = 0 := by have := I.r0; omega
        subst r0
        have ha : a = 1 := by
          have := I.g
          have h1 := I.a1
          rw [Int.gcd_zero_right] at this
          omega
        refine q _ H' sm (Int.emod_nonneg _ (by omega)) (Int.emod_lt_of_pos _ (by omega)) ?_
        subst ha
        exact inv_end I.d1
theorem cal_lies_in (T : Txt K mg)  : Cal P w K mg base 1 "lies_in" (sp_lies_in K) [] := by
  obtain ⟨f, fd, F, gF, b⟩ := T.f_lies_in
  refine My.mkCal F gF b sc_lies_in (fun vs H Q E h => ?len) (fun cdv A outer s H vs Q E hr h => ?body)
  case len => first | (obtain ⟨rfl, _⟩ := h; rfl) | (obtain ⟨_, rfl, _⟩ := h; rfl) | (obtain ⟨_, _, rfl, _⟩ := h; rfl) | (obtain ⟨_, _, _, rfl, _⟩ := h; rfl) | (obtain ⟨_, _, _, _, rfl, _⟩ := h; rfl) | (obtain ⟨_, _, _, _, _, rfl, _⟩ := h; rfl) | (obtain ⟨_, _, _, _, _, _, rfl, _⟩ := h; rfl) | (obtain ⟨_, _, _, _, _, _, _, rfl, _⟩ := h; rfl) | (obtain ⟨_, _, _, _, _, _, _, _, rfl, _⟩ := h; rfl) | (obtain ⟨_, _, _, _, _, _, _, _, _, rfl, _⟩ := h; rfl) | (obtain ⟨_, _, _, _, _, _, _, _, _, _, rfl, _⟩ := h; rfl) | (obtain ⟨_, _, _, _, _, _, _, _, _, _, _, rfl, _⟩ := h; rfl) | (obtain ⟨_, _, _, _, _, _, _, _, _, _, _, _, rfl, _⟩ := h; rfl) | (obtain ⟨_, _, _, _, _, _, _, _, _, _, _, _, _, rfl, _⟩ := h; rfl) | (obtain ⟨_, _, _, _, _, _, _, _, _, _, _, _, _, _, rfl, _⟩ := h; rfl)
  case body =>
    refine ⟨_, (pss_one (ps_ret (pe_cmpR op_eq (pe_op op_mod (pv 0) (pe_ix ix_tup (pv 1) pe_int (fun _ _ => rfl))) (pe_ix ix_tup (pv 1) pe_int (fun _ _ => rfl)) (nomark _)))), ?_⟩
    obtain ⟨x, v, m, r, rfl, ⟨p, rfl, hp⟩, h0, q⟩ := h
    refine My.r_start (σ := [some _, some _]) rfl ?_; walk_at "st"
    refine r_ixT hp atI0 ?_
    walk_at "st"
    refine r_ixT hp atI1 ?_
    walk_at "st"
    exact q
theorem cal_is_class (T : Txt K mg) (c_is_integer : Cal P w K mg base 1 "is_integer" (sp_is_integer K) []) : Cal P w K mg base 2 "is_class" (sp_is_class K) [] := by
  obtain ⟨f, fd, F, gF, b⟩ := T.f_is_class
  refine My.mkCal F gF b sc_is_class (fun vs H Q E h => ?len) (fun cdv A outer s H vs Q E hr h => ?body)
  case len => first | (obtain ⟨rfl, _⟩ := h; rfl) | (obtain ⟨_, rfl, _⟩ := h; rfl) | (obtain ⟨_, _, rfl, _⟩ := h; rfl) | (obtain ⟨_, _, _, rfl, _⟩ := h; rfl) | (obtain ⟨_, _, _, _, rfl, _⟩ := h; rfl) | (obtain ⟨_, _, _, _, _, rfl, _⟩ := h; rfl) | (obtain ⟨_, _, _, _, _, _, rfl, _⟩ := h; rfl) | (obtain ⟨_, _, _, _, _, _, _, rfl, _⟩ := h; rfl) | (obtain ⟨_, _, _, _, _, _, _, _, rfl, _⟩ := h; rfl) | (obtain ⟨_, _, _, _, _, _, _, _, _, rfl, _⟩ := h; rfl) | (obtain ⟨_, _, _, _, _, _, _, _, _, _, rfl, _⟩ := h; rfl) | (obtain ⟨_, _, _, _, _, _, _, _, _, _, _, rfl, _⟩ := h; rfl) | (obtain ⟨_, _, _, _, _, _, _, _, _, _, _, _, rfl, _⟩ := h; rfl) | (obtain ⟨_, _, _, _, _, _, _, _, _, _, _, _, _, rfl, _⟩ := h; rfl) | (obtain ⟨_, _, _, _, _, _, _, _, _, _, _, _, _, _, rfl, _⟩ := h; rfl)
  case body =>
    refine ⟨_, (pss_cons (ps_if (PW.pt (pw_or (pt_not (pt_val (pe_callB call_isi (by rfl) T.b_isinstance (by decide +kernel) (pa_cons (pv 0) (pa_cons (pe_bltn (v := .ty "tuple") (by rfl) T.b_tuple (by decide +kernel) rfl) pa_nil))))) (pw_or1 (pt_cmpR op_ne (pe_callB call_len_seq (by rfl) T.b_len (by decide +kernel) (pa_cons (pv 0) pa_nil)) pe_int (nomark _)))))
      (pss_one (ps_ret pe_bl))
      pss_nil)
      (pss_cons (ps_asg (pv 0) (pg_tup (by rfl) (pgs_cons (pg_name (i := 1) sc_is_class.nd rfl (Or.inl rfl)) (pgs_cons (pg_name (i := 2) sc_is_class.nd rfl (Or.inl rfl)) pgs_nil))))
      (pss_one (ps_ret (pe_and (pe_c c_is_integer hr (by decide) (by rfl) (pa_cons (pv 1) pa_nil)) (pe_and (pe_c c_is_integer hr (by decide) (by rfl) (pa_cons (pv 2) pa_nil)) (pe_one (pe_chain op_le op_lt pe_int (pv 2) (pv 1))))))))), ?_⟩
    obtain ⟨v, m, r, rfl, ⟨p, rfl, hp⟩, h0, q⟩ := h
    refine My.r_start (σ := [some _, none, none]) rfl ?_; walk_at "st"
    refine r_isi (tyx_tup hp) k_tt ?_
    walk_at "st"
    refine r_lenT hp ?_
    walk_at "st"
    refine r_ndec (fun g => absurd rfl g) (fun _ => ?_)
    walk_at "st"
    refine r_gtup hp rfl ?_
    walk_at "st"
    refine ⟨_, rfl, ?_⟩
    walk_at "st"
    refine ⟨_, rfl, ?_⟩
    walk_at "st"
    refine r_dec (fun g => ?_) (fun g => absurd (by omega) g)
    walk_at "st"
    rw [decide_eq_true (show (r : Int) < (m : Int) by omega)]
    exact q
theorem cal_check_class (T : Txt K mg) (c_is_class : Cal P w K mg base 2 "is_class" (sp_is_class K) []) : Cal P w K mg base 3 "check_class" (sp_check_class K) [] := by
  obtain ⟨f, fd, F, gF, b⟩ := T.f_check_class
  refine My.mkCal F gF b sc_check_class (fun vs H Q E h => ?len) (fun cdv A outer s H vs Q E hr h => ?body)
  case len => first | (obtain ⟨rfl, _⟩ := h; rfl) | (obtain ⟨_, rfl, _⟩ := h; rfl) | (obtain ⟨_, _, rfl, _⟩ := h; rfl) | (obtain ⟨_, _, _, rfl, _⟩ := h; rfl) | (obtain ⟨_, _, _, _, rfl, _⟩ := h; rfl) | (obtain ⟨_, _, _, _, _, rfl, _⟩ := h; rfl) | (obtain ⟨_, _, _, _, _, _, rfl, _⟩ := h; rfl) | (obtain ⟨_, _, _, _, _, _, _, rfl, _⟩ := h; rfl) | (obtain ⟨_, _, _, _, _, _, _, _, rfl, _⟩ := h; rfl) | (obtain ⟨_, _, _, _, _, _, _, _, _, rfl, _⟩ := h; rfl) | (obtain ⟨_, _, _, _, _, _, _, _, _, _, rfl, _⟩ := h; rfl) | (obtain ⟨_, _, _, _, _, _, _, _, _, _, _, rfl, _⟩ := h; rfl) | (obtain ⟨_, _, _, _, _, _, _, _, _, _, _, _, rfl, _⟩ := h; rfl) | (obtain ⟨_, _, _, _, _, _, _, _, _, _, _, _, _, rfl, _⟩ := h; rfl) | (obtain ⟨_, _, _, _, _, _, _, _, _, _, _, _, _, _, rfl, _⟩ := h; rfl)
  case body =>
    refine ⟨_, (pss_one (ps_if (pt_not (pt_val (pe_c c_is_class hr (by decide) (by rfl) (pa_cons (pv 0) pa_nil))))
      (pss_one ps_never)
      pss_nil)), ?_⟩
    obtain ⟨v, m, r, rfl, hc, h0, q⟩ := h
    refine My.r_start (σ := [some _]) rfl ?_; walk_at "st"
    refine ⟨v, m, r, rfl, hc, h0, ?_⟩
    walk_at "st"
    exact q
theorem cal_have_common (T : Txt K mg)  : Cal P w K mg base 1 "have_common" (sp_have_common K) [] := by
  obtain ⟨f, fd, F, gF, b⟩ := T.f_have_common
  refine My.mkCal F gF b sc_have_common (fun vs H Q E h => ?len) (fun cdv A outer s H vs Q E hr h => ?body)
  case len => first | (obtain ⟨rfl, _⟩ := h; rfl) | (obtain ⟨_, rfl, _⟩ := h; rfl) | (obtain ⟨_, _, rfl, _⟩ := h; rfl) | (obtain ⟨_, _, _, rfl, _⟩ := h; rfl) | (obtain ⟨_, _, _, _, rfl, _⟩ := h; rfl) | (obtain ⟨_, _, _, _, _, rfl, _⟩ := h; rfl) | (obtain ⟨_, _, _, _, _, _, rfl, _⟩ := h; rfl) | (obtain ⟨_, _, _, _, _, _, _, rfl, _⟩ := h; rfl) | (obtain ⟨_, _, _, _, _, _, _, _, rfl, _⟩ := h; rfl) | (obtain ⟨_, _, _, _, _, _, _, _, _, rfl, _⟩ := h; rfl) | (obtain ⟨_, _, _, _, _, _, _, _, _, _, rfl, _⟩ := h; rfl) | (obtain ⟨_, _, _, _, _, _, _, _, _, _, _, rfl, _⟩ := h; rfl) | (obtain ⟨_, _, _, _, _, _, _, _, _, _, _, _, rfl, _⟩ := h; rfl) | (obtain ⟨_, _, _, _, _, _, _, _, _, _, _, _, _, rfl, _⟩ := h; rfl) | (obtain ⟨_, _, _, _, _, _, _, _, _, _, _, _, _, _, rfl, _⟩ := h; rfl)
  case body =>
    refine ⟨_, (pss_one (ps_ret (pe_cmpR op_eq (pe_op op_mod (pe_op op_sub (pe_ix ix_tup (pv 0) pe_int (fun _ _ => rfl)) (pe_ix ix_tup (pv 1) pe_int (fun _ _ => rfl))) (pe_callBfun cr_gcd (by rfl) T.v_gcd (pa_cons (pe_ix ix_tup (pv 0) pe_int (fun _ _ => rfl)) (pa_cons (pe_ix ix_tup (pv 1) pe_int (fun _ _ => rfl)) pa_nil)))) pe_int (nomark _)))), ?_⟩
    obtain ⟨v1, v2, m1, r1, m2, r2, rfl, ⟨p1, rfl, hp1⟩, ⟨p2, rfl, hp2⟩, h0, q⟩ := h
    refine My.r_start (σ := [some _, some _]) rfl ?_; walk_at "st"
    refine r_ixT hp1 atI1 ?_
    walk_at "st"
    refine r_ixT hp2 atI1 ?_
    walk_at "st"
    refine r_ixT hp1 atI0 ?_
    walk_at "st"
    refine r_ixT hp2 atI0 ?_
    walk_at "st"
    refine r_mod (by have := Nat.gcd_pos_of_pos_left m2 h0; show (0 : Int) < ((Nat.gcd m1 m2 : Nat) : Int); omega) ?_
    walk_at "st"
    exact q
theorem cal_common_class (T : Txt K mg) (c_have_common : Cal P w K mg base 1 "have_common" (sp_have_common K) []) (c_inverse : Cal P w K mg base 1 "inverse" (sp_inverse K) []) : Cal P w K mg base 2 "common_class" (sp_common_class K) [] := by
  obtain ⟨f, fd, F, gF, b⟩ := T.f_common_class
  refine My.mkCal F gF b sc_common_class (fun vs H Q E h => ?len) (fun cdv A outer s H vs Q E hr h => ?body)
  case len => first | (obtain ⟨rfl, _⟩ := h; rfl) | (obtain ⟨_, rfl, _⟩ := h; rfl) | (obtain ⟨_, _, rfl, _⟩ := h; rfl) | (obtain ⟨_, _, _, rfl, _⟩ := h; rfl) | (obtain ⟨_, _, _, _, rfl, _⟩ := h; rfl) | (obtain ⟨_, _, _, _, _, rfl, _⟩ := h; rfl) | (obtain ⟨_, _, _, _, _, _, rfl, _⟩ := h; rfl) | (obtain ⟨_, _, _, _, _, _, _, rfl, _⟩ := h; rfl) | (obtain ⟨_, _, _, _, _, _, _, _, rfl, _⟩ := h; rfl) | (obtain ⟨_, _, _, _, _, _, _, _, _, rfl, _⟩ := h; rfl) | (obtain ⟨_, _, _, _, _, _, _, _, _, _, rfl, _⟩ := h; rfl) | (obtain ⟨_, _, _, _, _, _, _, _, _, _, _, rfl, _⟩ := h; rfl) | (obtain ⟨_, _, _, _, _, _, _, _, _, _, _, _, rfl, _⟩ := h; rfl) | (obtain ⟨_, _, _, _, _, _, _, _, _, _, _, _, _, rfl, _⟩ := h; rfl) | (obtain ⟨_, _, _, _, _, _, _, _, _, _, _, _, _, _, rfl, _⟩ := h; rfl)
  case body =>
    refine ⟨_, (pss_cons (ps_if (pt_not (pt_val (pe_c c_have_common hr (by decide) (by rfl) (pa_cons (pv 0) (pa_cons (pv 1) pa_nil)))))
      (pss_one (ps_ret pe_non))
      pss_nil)
      (pss_cons (ps_asg (pv 0) (pg_tup (by rfl) (pgs_cons (pg_name (i := 2) sc_common_class.nd rfl (Or.inl rfl)) (pgs_cons (pg_name (i := 3) sc_common_class.nd rfl (Or.inl rfl)) pgs_nil))))
      (pss_cons (ps_set (i := 4) sc_common_class.nd rfl (Or.inl rfl) (pe_callBfun cr_gcd (by rfl) T.v_gcd (pa_cons (pv 2) (pa_cons (pe_ix ix_tup (pv 1) pe_int (fun _ _ => rfl)) pa_nil))))
      (pss_cons (ps_set (i := 5) sc_common_class.nd rfl (Or.inl rfl) (pe_op op_fdivW (pe_ix ix_tup (pv 1) pe_int (fun _ _ => rfl)) (pv 4)))
      (pss_cons (ps_set (i := 6) sc_common_class.nd rfl (Or.inl rfl) (pe_op op_mod (pe_op op_mulX (pe_op op_fdivW (pe_op op_sub (pe_ix ix_tup (pv 1) pe_int (fun _ _ => rfl)) (pv 3)) (pv 4)) (pe_c c_inverse hr (by decide) (by rfl) (pa_cons (pe_op op_fdivW (pv 2) (pv 4)) (pa_cons (pv 5) pa_nil)))) (pv 5)))
      (pss_one (ps_ret (pe_tup (pa_cons (pe_op op_mulX (pv 2) (pv 5)) (pa_cons (pe_op op_add (pv 3) (pe_op op_mulX (pv 2) (pv 6))) pa_nil)))))))))), ?_⟩
    obtain ⟨v1, v2, m1, r1, m2, r2, rfl, hc1, hc2, ⟨l1, b1⟩, ⟨l2, b2⟩, q⟩ := h
    refine My.r_start (σ := [some _, some _, none, none, none, none, none]) rfl ?_; walk_at "st"
    have p1 : 0 < m1 := by omega
    have p2 : 0 < m2 := by omega
    refine ⟨v1, v2, m1, r1, m2, r2, rfl, hc1, hc2, p1, ?_⟩
    walk_at "st"
    refine r_ndec (fun g => ?_) (fun g => ?_)
    · walk_at "st"
      exact q .non none H (Same.refl H) g rfl
    · walk_at "st"
      obtain ⟨a1, rfl, hp1⟩ := hc1
      obtain ⟨a2, rfl, hp2⟩ := hc2
      refine r_gtup hp1 rfl ?_
      walk_at "st"
      refine r_ixT hp2 atI0 ?_
      walk_at "st"
      refine r_ixT hp2 atI0 ?_
      walk_at "st"
      have gp : 0 < Nat.gcd m1 m2 := Nat.gcd_pos_of_pos_left _ p1
      have gb : Bd ((Nat.gcd m1 m2 : Nat) : Int) := bd_nat (Nat.gcd_le_left m2 p1) b1
      refine r_div (div_bd (by show (0 : Int) < ((Nat.gcd m1 m2 : Nat) : Int); omega) gb) ?_
      walk_at "st"
      refine r_ixT hp2 atI1 ?_
      walk_at "st"
      refine r_div (div_bd (by show (0 : Int) < ((Nat.gcd m1 m2 : Nat) : Int); omega) gb) ?_
      walk_at "st"
      refine r_div (div_bd (by show (0 : Int) < ((Nat.gcd m1 m2 : Nat) : Int); omega) gb) ?_
      walk_at "st"
      have ef : (m2 : Int) / ((Nat.gcd m1 m2 : Nat) : Int) = ((m2 / Nat.gcd m1 m2 : Nat) : Int) := (Int.natCast_ediv _ _).symm
      have ea : (m1 : Int) / ((Nat.gcd m1 m2 : Nat) : Int) = ((m1 / Nat.gcd m1 m2 : Nat) : Int) := (Int.natCast_ediv _ _).symm
      have fp : 0 < m2 / Nat.gcd m1 m2 := Nat.div_pos (Nat.le_of_dvd p2 (Nat.gcd_dvd_right m1 m2)) gp
      have fb : Bd ((m2 / Nat.gcd m1 m2 : Nat) : Int) := bd_nat (Nat.div_le_self _ _) b2
      rw [ef, ea]
      refine ⟨m1 / Nat.gcd m1 m2, m2 / Nat.gcd m1 m2, rfl, by omega, cop_div p1, fb, fun inv H1 sm i0 i1 id => ?_⟩
      obtain ⟨x, hx, M⟩ := met_mk p1 p2 l1 l2 g id
      have sr : Sm (((r2 : Int) - r1) / ((Nat.gcd m1 m2 : Nat) : Int)) := by
        have h1 : ((((r2 : Int) - r1) / ((Nat.gcd m1 m2 : Nat) : Int)).natAbs) ≤ ((r2 : Int) - r1).natAbs := Int.natAbs_ediv_le_natAbs _ _
        have b1' : m1 < 2 ^ 4000 := b1
        have b2' : m2 < 2 ^ 4000 := b2
        generalize 2 ^ 4000 = B at b1' b2'
        have h3 : ((r2 : Int) - r1).natAbs ≤ m1 ∨ ((r2 : Int) - r1).natAbs ≤ m2 := by omega
        rcases h3 with h3 | h3
        · exact Bd.sm (Nat.lt_of_le_of_lt (show _ ≤ ((m1 : Int)).natAbs by omega) b1)
        · exact Bd.sm (Nat.lt_of_le_of_lt (show _ ≤ ((m2 : Int)).natAbs by omega) b2)
      refine r_mul (mul_sm sr (Bd.sm (bd_le i0 (Int.le_of_lt i1) fb))) ?_
      walk_at "st"
      refine r_mul (mul_sm b1.sm fb.sm) ?_
      walk_at "st"
      refine r_mul (mul_sm b1.sm (Bd.sm (bd_le (Int.emod_nonneg _ (by omega)) (Int.le_of_lt (Int.emod_lt_of_pos _ (by omega))) fb))) ?_
      walk_at "st"
      rw [hx]
      refine r_sz (Nat.le_of_ble_eq_true rfl) fun p hp => ?_
      refine q (.ref p) (some _) _ (sm.trans (Same.new hp)) M ⟨p, rfl, ?_⟩
      rw [Int.natCast_mul]
      exact .of upd_same
theorem cal_meet (T : Txt K mg) (c_check_class : Cal P w K mg base 3 "check_class" (sp_check_class K) []) (c_common_class : Cal P w K mg base 2 "common_class" (sp_common_class K) []) : Cal P w K mg base 4 "meet" (sp_meet K) [] := by
  obtain ⟨f, fd, F, gF, b⟩ := T.f_meet
  refine My.mkCal F gF b sc_meet (fun vs H Q E h => ?len) (fun cdv A outer s H vs Q E hr h => ?body)
  case len => first | (obtain ⟨rfl, _⟩ := h; rfl) | (obtain ⟨_, rfl, _⟩ := h; rfl) | (obtain ⟨_, _, rfl, _⟩ := h; rfl) | (obtain ⟨_, _, _, rfl, _⟩ := h; rfl) | (obtain ⟨_, _, _, _, rfl, _⟩ := h; rfl) | (obtain ⟨_, _, _, _, _, rfl, _⟩ := h; rfl) | (obtain ⟨_, _, _, _, _, _, rfl, _⟩ := h; rfl) | (obtain ⟨_, _, _, _, _, _, _, rfl, _⟩ := h; rfl) | (obtain ⟨_, _, _, _, _, _, _, _, rfl, _⟩ := h; rfl) | (obtain ⟨_, _, _, _, _, _, _, _, _, rfl, _⟩ := h; rfl) | (obtain ⟨_, _, _, _, _, _, _, _, _, _, rfl, _⟩ := h; rfl) | (obtain ⟨_, _, _, _, _, _, _, _, _, _, _, rfl, _⟩ := h; rfl) | (obtain ⟨_, _, _, _, _, _, _, _, _, _, _, _, rfl, _⟩ := h; rfl) | (obtain ⟨_, _, _, _, _, _, _, _, _, _, _, _, _, rfl, _⟩ := h; rfl) | (obtain ⟨_, _, _, _, _, _, _, _, _, _, _, _, _, _, rfl, _⟩ := h; rfl)
  case body =>
    refine ⟨_, (pss_cons (ps_expr (pe_c c_check_class hr (by decide) (by rfl) (pa_cons (pv 0) pa_nil)))
      (pss_cons (ps_expr (pe_c c_check_class hr (by decide) (by rfl) (pa_cons (pv 1) pa_nil)))
      (pss_one (ps_ret (pe_c c_common_class hr (by decide) (by rfl) (pa_cons (pv 0) (pa_cons (pv 1) pa_nil))))))), ?_⟩
    obtain ⟨v1, v2, m1, r1, m2, r2, rfl, hc1, hc2, c1, c2, q⟩ := h
    refine My.r_start (σ := [some _, some _]) rfl ?_; walk_at "st"
    refine ⟨v1, m1, r1, rfl, hc1, c1.1, ?_⟩
    walk_at "st"
    refine ⟨v2, m2, r2, rfl, hc2, c2.1, ?_⟩
    walk_at "st"
    exact ⟨v1, v2, m1, r1, m2, r2, rfl, hc1, hc2, c1, c2, q⟩
theorem cal_is_within (T : Txt K mg) (c_check_class : Cal P w K mg base 3 "check_class" (sp_check_class K) []) (c_lies_in : Cal P w K mg base 1 "lies_in" (sp_lies_in K) []) : Cal P w K mg base 4 "is_within" (sp_is_within K) [] := by
  obtain ⟨f, fd, F, gF, b⟩ := T.f_is_within
  refine My.mkCal F gF b sc_is_within (fun vs H Q E h => ?len) (fun cdv A outer s H vs Q E hr h => ?body)
  case len => first | (obtain ⟨rfl, _⟩ := h; rfl) | (obtain ⟨_, rfl, _⟩ := h; rfl) | (obtain ⟨_, _, rfl, _⟩ := h; rfl) | (obtain ⟨_, _, _, rfl, _⟩ := h; rfl) | (obtain ⟨_, _, _, _, rfl, _⟩ := h; rfl) | (obtain ⟨_, _, _, _, _, rfl, _⟩ := h; rfl) | (obtain ⟨_, _, _, _, _, _, rfl, _⟩ := h; rfl) | (obtain ⟨_, _, _, _, _, _, _, rfl, _⟩ := h; rfl) | (obtain ⟨_, _, _, _, _, _, _, _, rfl, _⟩ := h; rfl) | (obtain ⟨_, _, _, _, _, _, _, _, _, rfl, _⟩ := h; rfl) | (obtain ⟨_, _, _, _, _, _, _, _, _, _, rfl, _⟩ := h; rfl) | (obtain ⟨_, _, _, _, _, _, _, _, _, _, _, rfl, _⟩ := h; rfl) | (obtain ⟨_, _, _, _, _, _, _, _, _, _, _, _, rfl, _⟩ := h; rfl) | (obtain ⟨_, _, _, _, _, _, _, _, _, _, _, _, _, rfl, _⟩ := h; rfl) | (obtain ⟨_, _, _, _, _, _, _, _, _, _, _, _, _, _, rfl, _⟩ := h; rfl)
  case body =>
    refine ⟨_, (pss_cons (ps_expr (pe_c c_check_class hr (by decide) (by rfl) (pa_cons (pv 0) pa_nil)))
      (pss_cons (ps_expr (pe_c c_check_class hr (by decide) (by rfl) (pa_cons (pv 1) pa_nil)))
      (pss_one (ps_ret (pe_and (pe_cmpR op_eq (pe_op op_mod (pe_ix ix_tup (pv 0) pe_int (fun _ _ => rfl)) (pe_ix ix_tup (pv 1) pe_int (fun _ _ => rfl))) pe_int (nomark _)) (pe_one (pe_c c_lies_in hr (by decide) (by rfl) (pa_cons (pe_ix ix_tup (pv 0) pe_int (fun _ _ => rfl)) (pa_cons (pv 1) pa_nil))))))))), ?_⟩
    obtain ⟨v1, v2, m1, r1, m2, r2, rfl, hc1, hc2, l1, l2, q⟩ := h
    refine My.r_start (σ := [some _, some _]) rfl ?_; walk_at "st"
    refine ⟨v1, m1, r1, rfl, hc1, l1, ?_⟩
    walk_at "st"
    refine ⟨v2, m2, r2, rfl, hc2, l2, ?_⟩
    walk_at "st"
    obtain ⟨a1, rfl, hp1⟩ := hc1
    refine r_ixT hp1 atI0 ?_
    walk_at "st"
    obtain ⟨a2, rfl, hp2⟩ := id hc2
    refine r_ixT hp2 atI0 ?_
    walk_at "st"
    have e1 : (m1 : Int) % (m2 : Int) = ((m1 % m2 : Nat) : Int) := (Int.natCast_emod m1 m2).symm
    have e2 : (r1 : Int) % (m2 : Int) = ((r1 % m2 : Nat) : Int) := (Int.natCast_emod r1 m2).symm
    rw [e1]
    refine r_dec (fun g => ?_) (fun g => ?_)
    · walk_at "st"
      refine r_ixT hp1 atI1 ?_
      walk_at "st"
      refine ⟨(r1 : Int), _, m2, r2, rfl, hc2, by omega, ?_⟩
      rw [e2, show decide (((r1 % m2 : Nat) : Int) = (r2 : Int)) = decide (m1 % m2 = 0 ∧ r1 % m2 = r2) from decide_eq_decide.mpr ⟨fun e => ⟨by omega, by omega⟩, fun e => by omega⟩]
      exact q
    · rw [show decide (m1 % m2 = 0 ∧ r1 % m2 = r2) = false from decide_eq_false fun e => g (by omega)] at q
      exact q

/-! ### the law's own helpers -/
def E30 : Nat := 1000000000000000000000000000000
theorem bd_e30 {m : Nat} (h : m ≤ E30) : Bd (m : Int) := by
  have h2 : E30 < 2 ^ 4000 := by decide +kernel
  exact Nat.lt_of_le_of_lt (show ((m : Int)).natAbs ≤ E30 by omega) h2
theorem ten_bd {n d : Nat} (h : n < 10 ^ d) (hd : d ≤ 1000) : Bd (n : Int) := by
  have h1 : (10 : Nat) ^ d ≤ 10 ^ 1000 := Nat.pow_le_pow_right (by decide) hd
  have h2 : (10 : Nat) ^ 1000 < 2 ^ 4000 := by decide +kernel
  exact Nat.lt_trans (show ((n : Int)).natAbs < 10 ^ d by omega) (Nat.lt_of_le_of_lt h1 h2)
def sp__law_divisor (K : PySem.W.Frag) : Sp := fun vs H Q _ => ∃ (a b : Nat), vs = [.int (a : Int), .int (b : Int)] ∧ Q (.int ((Nat.gcd a b : Nat) : Int)) H
def sp__law_great (K : PySem.W.Frag) : Sp := fun vs H Q _ => ∃ (a c : Addr) (t : Int) (d : Nat), vs = [.ref a, .int (d : Int)] ∧ Src H a c t ∧ t + d ≤ Big ∧ d ≤ 1000 ∧ ∀ (r : Nat) t' H', r < 10 ^ d → Keep a c H H' → Src H' a c t' → t ≤ t' → t' ≤ t + d → Q (.int (r : Int)) H'
def sp__law_modulus (K : PySem.W.Frag) : Sp := fun vs H Q _ => ∃ (a c : Addr) (t : Int), vs = [.ref a] ∧ Src H a c t ∧ t + 40 ≤ Big ∧ ∀ (m : Nat) t' H', 0 < m → m ≤ E30 → Keep a c H H' → Src H' a c t' → t ≤ t' → t' ≤ t + 40 → Q (.int (m : Int)) H'
def sp__law_lies (K : PySem.W.Frag) : Sp := fun vs H Q _ => ∃ (h : Int) (v : V) (m r : Nat), vs = [.int h, v] ∧ IsC K H v m r ∧ 0 < m ∧ Q (.bl (decide (h % (m : Int) = (r : Int)))) H
theorem cal__law_divisor (T : Txt K mg)  : Cal P w K mg base 1 "_law_divisor" (sp__law_divisor K) [] := by
  obtain ⟨f, fd, F, gF, b⟩ := T.f__law_divisor
  refine My.mkCal F gF b sc__law_divisor (fun vs H Q E h => ?len) (fun cdv A outer s H vs Q E hr h => ?body)
  case len => first | (obtain ⟨rfl, _⟩ := h; rfl) | (obtain ⟨_, rfl, _⟩ := h; rfl) | (obtain ⟨_, _, rfl, _⟩ := h; rfl) | (obtain ⟨_, _, _, rfl, _⟩ := h; rfl) | (obtain ⟨_, _, _, _, rfl, _⟩ := h; rfl) | (obtain ⟨_, _, _, _, _, rfl, _⟩ := h; rfl) | (obtain ⟨_, _, _, _, _, _, rfl, _⟩ := h; rfl) | (obtain ⟨_, _, _, _, _, _, _, rfl, _⟩ := h; rfl) | (obtain ⟨_, _, _, _, _, _, _, _, rfl, _⟩ := h; rfl) | (obtain ⟨_, _, _, _, _, _, _, _, _, rfl, _⟩ := h; rfl) | (obtain ⟨_, _, _, _, _, _, _, _, _, _, rfl, _⟩ := h; rfl) | (obtain ⟨_, _, _, _, _, _, _, _, _, _, _, rfl, _⟩ := h; rfl) | (obtain ⟨_, _, _, _, _, _, _, _, _, _, _, _, rfl, _⟩ := h; rfl) | (obtain ⟨_, _, _, _, _, _, _, _, _, _, _, _, _, rfl, _⟩ := h; rfl) | (obtain ⟨_, _, _, _, _, _, _, _, _, _, _, _, _, _, rfl, _⟩ := h; rfl)
  case body =>
    refine ⟨_, (pss_cons (ps_while PassesOwn.never (pt_cmpR op_ne (pv 1) pe_int (nomark _))
      (pss_one (ps_par (i := 0) (j := 1) (by rfl) sc__law_divisor.nd rfl rfl (by decide) rfl rfl (pa_cons (pv 1) (pa_cons (pe_op op_mod (pe_callTy My.call_intI (by rfl) T.b_int (by decide +kernel) (pa_cons (pv 0) pa_nil)) (pv 1)) pa_nil)) (by rfl))))
      (pss_one (ps_ret (pv 0)))), ?_⟩
    obtain ⟨a, b0, rfl, q⟩ := h
    refine My.r_start (σ := [some _, some _]) rfl ?_; walk_at "st"
    refine r_while (fun k σ' H' => ∃ (x y : Nat), σ' = [some (.int (x : Int)), some (.int (y : Int))] ∧ k = y ∧ H' = H ∧ Nat.gcd x y = Nat.gcd a b0) _ ⟨a, b0, rfl, rfl, rfl, rfl⟩ ?_
    rintro k σ' H' ⟨x, y, rfl, rfl, rfl, hg⟩
    walk_at "st"
    refine r_ndec (fun g => ?_) (fun g => ?_)
    · refine r_again ?_
      walk_at "st"
      refine ⟨x % k, Nat.mod_lt _ (by omega), k, x % k, ?_, rfl, rfl, ?_⟩
      · rw [Int.natCast_emod]
      · rw [← hg, Nat.gcd_comm k, ← Nat.gcd_rec, Nat.gcd_comm]
    · walk_at "st"
      have e : k = 0 := by omega
      subst e
      rw [Nat.gcd_zero_right] at hg
      rw [hg]
      exact q
theorem cal__law_great (T : Txt K mg) (c__law_draw : Cal P w K mg base 1 "_law_draw" (sp__law_draw K) []) : Cal P w K mg base 2 "_law_great" (sp__law_great K) [] := by
  obtain ⟨f, fd, F, gF, b⟩ := T.f__law_great
  refine My.mkCal F gF b sc__law_great (fun vs H Q E h => ?len) (fun cdv A outer s H vs Q E hr h => ?body)
  case len => first | (obtain ⟨rfl, _⟩ := h; rfl) | (obtain ⟨_, rfl, _⟩ := h; rfl) | (obtain ⟨_, _, rfl, _⟩ := h; rfl) | (obtain ⟨_, _, _, rfl, _⟩ := h; rfl) | (obtain ⟨_, _, _, _, rfl, _⟩ := h; rfl) | (obtain ⟨_, _, _, _, _, rfl, _⟩ := h; rfl) | (obtain ⟨_, _, _, _, _, _, rfl, _⟩ := h; rfl) | (obtain ⟨_, _, _, _, _, _, _, rfl, _⟩ := h; rfl) | (obtain ⟨_, _, _, _, _, _, _, _, rfl, _⟩ := h; rfl) | (obtain ⟨_, _, _, _, _, _, _, _, _, rfl, _⟩ := h; rfl) | (obtain ⟨_, _, _, _, _, _, _, _, _, _, rfl, _⟩ := h; rfl) | (obtain ⟨_, _, _, _, _, _, _, _, _, _, _, rfl, _⟩ := h; rfl) | (obtain ⟨_, _, _, _, _, _, _, _, _, _, _, _, rfl, _⟩ := h; rfl) | (obtain ⟨_, _, _, _, _, _, _, _, _, _, _, _, _, rfl, _⟩ := h; rfl) | (obtain ⟨_, _, _, _, _, _, _, _, _, _, _, _, _, _, rfl, _⟩ := h; rfl)
  case body =>
    refine ⟨_, (pss_cons (ps_set (i := 2) sc__law_great.nd rfl (Or.inl rfl) pe_int)
      (pss_cons (ps_for PassesOwn.never rfl (pi_range1 (by rfl) T.b_range (pa_cons (pv 1) pa_nil)) (pg_name (i := 3) sc__law_great.nd rfl (Or.inl rfl))
      (pss_one (ps_set (i := 2) sc__law_great.nd rfl (Or.inl rfl) (pe_op op_add (pe_op op_mulX (pv 2) pe_int) (pe_c c__law_draw hr (by decide) (by rfl) (pa_cons (pv 0) (pa_cons pe_int pa_nil)))))))
      (pss_one (ps_ret (pv 2))))), ?_⟩
    obtain ⟨a, c, t, d, rfl, hs, ht, hd, q⟩ := h
    refine My.r_start (σ := [some _, some _, none, none]) rfl ?_; walk_at "st"
    refine r_rgL d rfl (by omega) ?_
    refine loop_range (fun i σ' H' => ∃ (v : Option V) (n : Nat) (t' : Int), σ' = [some (.ref a), some (.int (d : Int)), some (.int (n : Int)), v] ∧ n < 10 ^ i ∧ Keep a c H H' ∧ Src H' a c t' ∧ t ≤ t' ∧ t' ≤ t + i) ?_ ?_ ?_
    · exact ⟨none, 0, t, rfl, by decide, Keep.refl a c H, hs, by omega, by omega⟩
    · rintro i σ' H' hi ⟨v, n, t', rfl, hn, hk, hs', t1, t2⟩
      walk_at "st"
      refine r_mul (mul_sm (ten_bd hn (by omega)).sm (sm_small (by decide))) ?_
      walk_at "st"
      refine ⟨a, c, t', 10, rfl, hs', by omega, by decide, bd_small (by decide), fun r t'' H'' r0 r1 hk2 hs2 t3 t4 => ?_⟩
      walk_at "st"
      refine ⟨some (.int (i : Int)), n * 10 + r.toNat, t'', ?_, ?_, hk.trans hk2, hs2, by omega, by omega⟩
      · rw [show (n : Int) * 10 + r = ((n * 10 + r.toNat : Nat) : Int) by omega]
      · rw [Nat.pow_succ]
        omega
    · rintro σ' H' ⟨v, n, t', rfl, hn, hk, hs', t1, t2⟩
      walk_at "st"
      exact q n t' H' hn hk hs' t1 t2
theorem cal__law_modulus (T : Txt K mg) (c__law_draw : Cal P w K mg base 1 "_law_draw" (sp__law_draw K) []) (c__law_great : Cal P w K mg base 2 "_law_great" (sp__law_great K) []) : Cal P w K mg base 3 "_law_modulus" (sp__law_modulus K) [] := by
  obtain ⟨f, fd, F, gF, b⟩ := T.f__law_modulus
  refine My.mkCal F gF b sc__law_modulus (fun vs H Q E h => ?len) (fun cdv A outer s H vs Q E hr h => ?body)
  case len => first | (obtain ⟨rfl, _⟩ := h; rfl) | (obtain ⟨_, rfl, _⟩ := h; rfl) | (obtain ⟨_, _, rfl, _⟩ := h; rfl) | (obtain ⟨_, _, _, rfl, _⟩ := h; rfl) | (obtain ⟨_, _, _, _, rfl, _⟩ := h; rfl) | (obtain ⟨_, _, _, _, _, rfl, _⟩ := h; rfl) | (obtain ⟨_, _, _, _, _, _, rfl, _⟩ := h; rfl) | (obtain ⟨_, _, _, _, _, _, _, rfl, _⟩ := h; rfl) | (obtain ⟨_, _, _, _, _, _, _, _, rfl, _⟩ := h; rfl) | (obtain ⟨_, _, _, _, _, _, _, _, _, rfl, _⟩ := h; rfl) | (obtain ⟨_, _, _, _, _, _, _, _, _, _, rfl, _⟩ := h; rfl) | (obtain ⟨_, _, _, _, _, _, _, _, _, _, _, rfl, _⟩ := h; rfl) | (obtain ⟨_, _, _, _, _, _, _, _, _, _, _, _, rfl, _⟩ := h; rfl) | (obtain ⟨_, _, _, _, _, _, _, _, _, _, _, _, _, rfl, _⟩ := h; rfl) | (obtain ⟨_, _, _, _, _, _, _, _, _, _, _, _, _, _, rfl, _⟩ := h; rfl)
  case body =>
    refine ⟨_, (pss_cons (ps_set (i := 1) sc__law_modulus.nd rfl (Or.inl rfl) (pe_c c__law_draw hr (by decide) (by rfl) (pa_cons (pv 0) (pa_cons pe_int pa_nil))))
      (pss_cons (ps_if (pt_cmpR op_lt (pv 1) pe_int (nomark _))
      (pss_one (ps_ret (pe_op op_add pe_int (pe_c c__law_draw hr (by decide) (by rfl) (pa_cons (pv 0) (pa_cons pe_int pa_nil))))))
      pss_nil)
      (pss_cons (ps_if (pt_cmpR op_eq (pv 1) pe_int (nomark _))
      (pss_one (ps_ret (pe_op op_add pe_int (pe_c c__law_draw hr (by decide) (by rfl) (pa_cons (pv 0) (pa_cons pe_int pa_nil))))))
      pss_nil)
      (pss_cons (ps_if (pt_cmpR op_eq (pv 1) pe_int (nomark _))
      (pss_one (ps_ret (pe_op op_sub (pe_op My.op_powW pe_int pe_int) (pe_c c__law_draw hr (by decide) (by rfl) (pa_cons (pv 0) (pa_cons pe_int pa_nil))))))
      pss_nil)
      (pss_one (ps_ret (pe_op op_add pe_int (pe_c c__law_great hr (by decide) (by rfl) (pa_cons (pv 0) (pa_cons (pe_op op_add pe_int (pe_c c__law_draw hr (by decide) (by rfl) (pa_cons (pv 0) (pa_cons pe_int pa_nil)))) pa_nil)))))))))), ?_⟩
    obtain ⟨a, c, t, rfl, hs, ht, q⟩ := h
    refine My.r_start (σ := [some _, none]) rfl ?_; walk_at "st"
    refine ⟨a, c, t, 6, rfl, hs, by omega, by decide, bd_small (by decide), fun w1 t1 H1 w0 w6 k1 s1 a1 b1 => ?_⟩
    walk_at "st"
    refine r_dec (fun g => ?_) (fun g => ?_)
    · walk_at "st"
      refine ⟨a, c, t1, 12, rfl, s1, by omega, by decide, bd_small (by decide), fun r t2 H2 r0 r1 k2 s2 a2 b2 => ?_⟩
      walk_at "st"
      rw [show (1 : Int) + r = ((1 + r.toNat : Nat) : Int) by omega]
      exact q _ t2 H2 (by omega) (by show _ ≤ 1000000000000000000000000000000; omega) (k1.trans k2) s2 (by omega) (by omega)
    · walk_at "st"
      refine r_dec (fun g => ?_) (fun g => ?_)
      · walk_at "st"
        refine ⟨a, c, t1, 1000, rfl, s1, by omega, by decide, bd_small (by decide), fun r t2 H2 r0 r1 k2 s2 a2 b2 => ?_⟩
        walk_at "st"
        rw [show (1 : Int) + r = ((1 + r.toNat : Nat) : Int) by omega]
        exact q _ t2 H2 (by omega) (by show _ ≤ 1000000000000000000000000000000; omega) (k1.trans k2) s2 (by omega) (by omega)
      · walk_at "st"
        refine r_dec (fun g => ?_) (fun g => ?_)
        · walk_at "st"
          refine ⟨a, c, t1, 40, rfl, s1, by omega, by decide, bd_small (by decide), fun r t2 H2 r0 r1 k2 s2 a2 b2 => ?_⟩
          walk_at "st"
          rw [show (1000000000000000000000000000000 : Int) - r = ((1000000000000000000000000000000 - r.toNat : Nat) : Int) by omega]
          exact q _ t2 H2 (by omega) (by show _ ≤ 1000000000000000000000000000000; omega) (k1.trans k2) s2 (by omega) (by omega)
        · walk_at "st"
          refine ⟨a, c, t1, 29, rfl, s1, by omega, by decide, bd_small (by decide), fun r t2 H2 r0 r1 k2 s2 a2 b2 => ?_⟩
          walk_at "st"
          rw [show (1 : Int) + r = ((1 + r.toNat : Nat) : Int) by omega]
          refine ⟨a, c, t2, 1 + r.toNat, rfl, s2, by omega, by omega, fun n t3 H3 hn k3 s3 a3 b3 => ?_⟩
          walk_at "st"
          rw [show (1 : Int) + (n : Int) = ((1 + n : Nat) : Int) by omega]
          have hp : (10 : Nat) ^ (1 + r.toNat) ≤ 10 ^ 29 := Nat.pow_le_pow_right (by decide) (by omega)
          have h29 : (10 : Nat) ^ 29 = 100000000000000000000000000000 := by decide +kernel
          exact q _ t3 H3 (by omega) (by show _ ≤ 1000000000000000000000000000000; omega) ((k1.trans k2).trans k3) s3 (by omega) (by omega)
theorem cal__law_lies (T : Txt K mg)  : Cal P w K mg base 1 "_law_lies" (sp__law_lies K) [] := by
  obtain ⟨f, fd, F, gF, b⟩ := T.f__law_lies
  refine My.mkCal F gF b sc__law_lies (fun vs H Q E h => ?len) (fun cdv A outer s H vs Q E hr h => ?body)
  case len => first | (obtain ⟨rfl, _⟩ := h; rfl) | (obtain ⟨_, rfl, _⟩ := h; rfl) | (obtain ⟨_, _, rfl, _⟩ := h; rfl) | (obtain ⟨_, _, _, rfl, _⟩ := h; rfl) | (obtain ⟨_, _, _, _, rfl, _⟩ := h; rfl) | (obtain ⟨_, _, _, _, _, rfl, _⟩ := h; rfl) | (obtain ⟨_, _, _, _, _, _, rfl, _⟩ := h; rfl) | (obtain ⟨_, _, _, _, _, _, _, rfl, _⟩ := h; rfl) | (obtain ⟨_, _, _, _, _, _, _, _, rfl, _⟩ := h; rfl) | (obtain ⟨_, _, _, _, _, _, _, _, _, rfl, _⟩ := h; rfl) | (obtain ⟨_, _, _, _, _, _, _, _, _, _, rfl, _⟩ := h; rfl) | (obtain ⟨_, _, _, _, _, _, _, _, _, _, _, rfl, _⟩ := h; rfl) | (obtain ⟨_, _, _, _, _, _, _, _, _, _, _, _, rfl, _⟩ := h; rfl) | (obtain ⟨_, _, _, _, _, _, _, _, _, _, _, _, _, rfl, _⟩ := h; rfl) | (obtain ⟨_, _, _, _, _, _, _, _, _, _, _, _, _, _, rfl, _⟩ := h; rfl)
  case body =>
    refine ⟨_, (pss_one (ps_ret (pe_cmpR op_eq (pe_op op_mod (pe_callTy My.call_intI (by rfl) T.b_int (by decide +kernel) (pa_cons (pv 0) pa_nil)) (pe_ix ix_tup (pv 1) pe_int (fun _ _ => rfl))) (pe_ix ix_tup (pv 1) pe_int (fun _ _ => rfl)) (nomark _)))), ?_⟩
    obtain ⟨x, v, m, r, rfl, ⟨p, rfl, hp⟩, h0, q⟩ := h
    refine My.r_start (σ := [some _, some _]) rfl ?_; walk_at "st"
    refine r_ixT hp atI0 ?_
    walk_at "st"
    refine r_ixT hp atI1 ?_
    walk_at "st"
    exact q

/-! ### lists of classes as values -/
def AllC (K : PySem.W.Frag) (H : Hp) (xs : List V) (zs : List (Nat × Nat)) : Prop := xs.length = zs.length ∧ ∀ (i : Nat) (v : V) (z : Nat × Nat), xs[i]? = some v → zs[i]? = some z → IsC K H v z.1 z.2
def LsC (K : PySem.W.Frag) (H : Hp) (p : Addr) (zs : List (Nat × Nat)) : Prop := ∃ xs, SqL K H p xs ∧ AllC K H xs zs
def AV (K : PySem.W.Frag) (H : Hp) (v : V) : Sum (Nat × Nat) (Nat × Nat) → Prop
  | .inl (i, j) => ∃ p, v = .ref p ∧ SqT K H p [.str "bar", .int (i : Int), .int (j : Int)]
  | .inr (L, x) => ∃ p vc, v = .ref p ∧ SqT K H p [.str "class", vc] ∧ IsC K H vc L x
def adat : Sum (Nat × Nat) (Nat × Nat) → PyData
  | .inl (i, j) => .tuple [.str "bar", .int (i : Int), .int (j : Int)]
  | .inr z => .tuple [.str "class", cdat z]
section
variable {K : PySem.W.Frag} {H H' : Hp} {v : V} {xs : List V} {zs : List (Nat × Nat)} {p : Addr}
theorem AllC.same (h : AllC K H xs zs) (s : Same H H') : AllC K H' xs zs := ⟨h.1, fun i v z a b => (h.2 i v z a b).same s⟩
theorem AllC.keep {a c : Addr} {t : Int} (h : AllC K H xs zs) (k : Keep a c H H') (s : Src H a c t) : AllC K H' xs zs := ⟨h.1, fun i v z e f => (h.2 i v z e f).keep k s⟩
theorem AllC.kept {l : Addr} {ys : List V} (h : AllC K H xs zs) (k : Kept l H H') (hl : H l = some (.lst ys)) : AllC K H' xs zs := ⟨h.1, fun i v z e f => (h.2 i v z e f).kept k hl⟩
theorem AllC.at (h : AllC K H xs zs) {i : Nat} {z : Nat × Nat} (e : zs[i]? = some z) : ∃ v, xs[i]? = some v ∧ IsC K H v z.1 z.2 := by
  have hi : i < xs.length := by rw [h.1]; exact (List.getElem?_eq_some_iff.mp e).1
  exact ⟨xs[i], List.getElem?_eq_getElem hi, h.2 i _ z (List.getElem?_eq_getElem hi) e⟩
theorem LsC.same (h : LsC K H p zs) (s : Same H H') : LsC K H' p zs := let ⟨xs, a, b⟩ := h; ⟨xs, s.seq a, b.same s⟩
theorem AllC.nil : AllC K H [] [] := ⟨rfl, fun i v z a _ => by simp at a⟩
theorem AllC.snoc {z : Nat × Nat} (h : AllC K H xs zs) (hv : IsC K H v z.1 z.2) : AllC K H (xs ++ [v]) (zs ++ [z]) := by
  refine ⟨by rw [List.length_append, List.length_append, h.1]; rfl, fun i u y a b => ?_⟩
  by_cases hi : i < xs.length
  · rw [List.getElem?_append_left hi] at a
    rw [List.getElem?_append_left (by rw [← h.1]; exact hi)] at b
    exact h.2 i u y a b
  · rw [List.getElem?_append_right (by omega)] at a
    rw [List.getElem?_append_right (by rw [← h.1]; omega)] at b
    rw [← h.1] at b
    cases hj : i - xs.length with
    | zero =>
      rw [hj] at a b
      cases a
      cases b
      exact hv
    | succ n =>
      rw [hj] at a
      simp at a
theorem AllC.cons {z : Nat × Nat} (hv : IsC K H v z.1 z.2) (h : AllC K H xs zs) : AllC K H (v :: xs) (z :: zs) := by
  refine ⟨by rw [List.length_cons, List.length_cons, h.1], fun i u y a b => ?_⟩
  cases i with
  | zero =>
    cases a
    cases b
    exact hv
  | succ n => exact h.2 n u y a b
theorem AllC.set {z : Nat × Nat} (h : AllC K H xs zs) (j : Nat) (hv : IsC K H v z.1 z.2) : AllC K H (xs.set j v) (zs.set j z) := by
  refine ⟨by rw [List.length_set, List.length_set, h.1], fun i u y a b => ?_⟩
  rw [List.getElem?_set] at a b
  by_cases hi : j = i
  · rw [if_pos hi] at a b
    split at a
    · split at b
      · cases a
        cases b
        exact hv
      · cases b
    · cases a
  · rw [if_neg hi] at a b
    exact h.2 i u y a b
theorem AllC.rev (h : AllC K H xs zs) : AllC K H xs.reverse zs.reverse := by
  refine ⟨by rw [List.length_reverse, List.length_reverse, h.1], fun i u y a b => ?_⟩
  have hi : i < xs.length := by
    have := (List.getElem?_eq_some_iff.mp a).1
    rw [List.length_reverse] at this
    exact this
  rw [List.getElem?_reverse hi] at a
  rw [List.getElem?_reverse (by rw [← h.1]; exact hi), ← h.1] at b
  exact h.2 _ u y a b
theorem dp_allC : ∀ {xs : List V} {zs : List (Nat × Nat)}, AllC K H xs zs → DpAll K H xs (zs.map cdat)
  | [], [], _ => .nil
  | [], _ :: _, h => by have := h.1; cases this
  | _ :: _, [], h => by have := h.1; cases this
  | v :: xs, z :: zs, h => .cons (h.2 0 v z rfl rfl).dp (dp_allC ⟨by have := h.1; rw [List.length_cons, List.length_cons] at this; omega, fun i u y a b => h.2 (i + 1) u y a b⟩)
theorem dp_ls (hp : SqL K H p xs) (h : AllC K H xs zs) : Dp K H (.ref p) (.list (zs.map cdat)) := .lst hp (dp_allC h)
theorem shp_ls : Shp 2 (.list (zs.map cdat)) := shp_list fun d hd => by
  obtain ⟨x, _, rfl⟩ := List.mem_map.mp hd
  exact shp_cdat
theorem AV.same : ∀ {o : Sum (Nat × Nat) (Nat × Nat)}, AV K H v o → Same H H' → AV K H' v o
  | .inl (_, _), ⟨p, e, h⟩, s => ⟨p, e, Same.tup s h⟩
  | .inr (_, _), ⟨p, vc, e, h, hc⟩, s => ⟨p, vc, e, Same.tup s h, hc.same s⟩
theorem AV.dp : ∀ {o : Sum (Nat × Nat) (Nat × Nat)}, AV K H v o → Dp K H v (adat o)
  | .inl (_, _), ⟨p, e, h⟩ => by rw [e]; exact .tup h (.cons (.str _) (.cons (.int _) (.cons (.int _) .nil)))
  | .inr (_, _), ⟨p, vc, e, h, hc⟩ => by rw [e]; exact .tup h (.cons (.str _) (.cons hc.dp .nil))
theorem shp_adat : ∀ {o : Sum (Nat × Nat) (Nat × Nat)}, Shp 2 (adat o)
  | .inl (_, _) => shp_tup fun d hd => by
    rcases List.mem_cons.mp hd with rfl | hd
    · exact ⟨by rw [PyData.canLay0]; decide +kernel, by rw [PyData.depth]; omega⟩
    · rcases List.mem_cons.mp hd with rfl | hd
      · exact shp_int
      · rcases List.mem_cons.mp hd with rfl | hd
        · exact shp_int
        · cases hd
  | .inr _ => shp_tup fun d hd => by
    rcases List.mem_cons.mp hd with rfl | hd
    · exact ⟨by rw [PyData.canLay0]; decide +kernel, by rw [PyData.depth]; omega⟩
    · rcases List.mem_cons.mp hd with rfl | hd
      · exact shp_cdat
      · cases hd
theorem eqv_bar {i j i' j' : Nat} : PyData.eqv (adat (.inl (i, j))) (adat (.inl (i', j'))) = decide ((i, j) = (i', j')) := by
  unfold adat
  rw [PyData.eqv, PyData.eqvAll, PyData.eqvAll, PyData.eqvAll, PyData.eqvAll, eqv_int, eqv_int, PyData.eqv]
  by_cases e1 : i = i'
  · by_cases e2 : j = j'
    · simp [e1, e2]
    · have e3 : ¬ (j : Int) = (j' : Int) := by omega
      simp [e1, e2, e3]
  · have e3 : ¬ (i : Int) = (i' : Int) := by omega
    simp [e1, e3]
theorem adat_refl (o : Sum (Nat × Nat) (Nat × Nat)) : PyData.eqv (adat o) (adat o) = true := by
  cases o with
  | inl z => rw [eqv_bar]; exact decide_eq_true rfl
  | inr z =>
    unfold adat
    rw [PyData.eqv, PyData.eqvAll, PyData.eqvAll, PyData.eqvAll, cdat_eqv, PyData.eqv]
    simp
end
def BarV (K : PySem.W.Frag) (H : Hp) (v : V) : Option (Nat × Nat) → Prop
  | none => v = .non
  | some (i, j) => ∃ p, v = .ref p ∧ SqT K H p [.int (i : Int), .int (j : Int)]
def sp_check_classes (K : PySem.W.Frag) : Sp := fun vs H Q _ => ∃ (p : Addr) (k : Nat) (zs : List (Nat × Nat)), vs = [.ref p, .int (k : Int)] ∧ LsC K H p zs ∧ zs.length ≤ k ∧ (∀ z ∈ zs, z.2 < z.1) ∧ Q .non H
def sp_first_bar (K : PySem.W.Frag) : Sp := fun vs H Q _ => ∃ (p : Addr) (zs : List (Nat × Nat)), vs = [.ref p] ∧ LsC K H p zs ∧ zs.length ≤ 1000 ∧ (∀ z ∈ zs, z.2 < z.1) ∧ ∀ v o H', Same H H' → BarR zs o → BarV K H' v o → Q v H'
def sp_meet_all (K : PySem.W.Frag) : Sp := fun vs H Q _ => ∃ (p : Addr) (zs : List (Nat × Nat)), vs = [.ref p] ∧ LsC K H p zs ∧ zs.length ≤ 40 ∧ (∀ z ∈ zs, z.2 < z.1) ∧ Bd ((lcmL (zs.map (·.1)) : Nat) : Int) ∧ ∀ v o H', Same H H' → AllR zs o → AV K H' v o → Q v H'
theorem cal_check_classes (T : Txt K mg) (c_check_class : Cal P w K mg base 3 "check_class" (sp_check_class K) []) : Cal P w K mg base 4 "check_classes" (sp_check_classes K) [] := by
  obtain ⟨f, fd, F, gF, b⟩ := T.f_check_classes
  refine My.mkCal F gF b sc_check_classes (fun vs H Q E h => ?len) (fun cdv A outer s H vs Q E hr h => ?body)
  case len => first | (obtain ⟨rfl, _⟩ := h; rfl) | (obtain ⟨_, rfl, _⟩ := h; rfl) | (obtain ⟨_, _, rfl, _⟩ := h; rfl) | (obtain ⟨_, _, _, rfl, _⟩ := h; rfl) | (obtain ⟨_, _, _, _, rfl, _⟩ := h; rfl) | (obtain ⟨_, _, _, _, _, rfl, _⟩ := h; rfl) | (obtain ⟨_, _, _, _, _, _, rfl, _⟩ := h; rfl) | (obtain ⟨_, _, _, _, _, _, _, rfl, _⟩ := h; rfl) | (obtain ⟨_, _, _, _, _, _, _, _, rfl, _⟩ := h; rfl) | (obtain ⟨_, _, _, _, _, _, _, _, _, rfl, _⟩ := h; rfl) | (obtain ⟨_, _, _, _, _, _, _, _, _, _, rfl, _⟩ := h; rfl) | (obtain ⟨_, _, _, _, _, _, _, _, _, _, _, rfl, _⟩ := h; rfl) | (obtain ⟨_, _, _, _, _, _, _, _, _, _, _, _, rfl, _⟩ := h; rfl) | (obtain ⟨_, _, _, _, _, _, _, _, _, _, _, _, _, rfl, _⟩ := h; rfl) | (obtain ⟨_, _, _, _, _, _, _, _, _, _, _, _, _, _, rfl, _⟩ := h; rfl)
  case body =>
    refine ⟨_, (pss_cons (ps_if (PW.pt (pw_or (pt_not (pt_val (pe_callB call_isi (by rfl) T.b_isinstance (by decide +kernel) (pa_cons (pv 0) (pa_cons (pe_bltn (v := .ty "list") (by rfl) T.b_list (by decide +kernel) rfl) pa_nil))))) (pw_or1 (pt_cmpR op_gt (pe_callB call_len_seq (by rfl) T.b_len (by decide +kernel) (pa_cons (pv 0) pa_nil)) (pv 1) (nomark _)))))
      (pss_one ps_never)
      pss_nil)
      (pss_one (ps_for PassesOwn.never rfl (pi_list (pv 0)) (pg_name (i := 2) sc_check_classes.nd rfl (Or.inl rfl))
      (pss_one (ps_expr (pe_c c_check_class hr (by decide) (by rfl) (pa_cons (pv 2) pa_nil))))))), ?_⟩
    obtain ⟨p, k, zs, rfl, ⟨xs, hp, hA⟩, hn, hz, q⟩ := h
    refine My.r_start (σ := [some _, some _, none]) rfl ?_; walk_at "st"
    refine r_isi (tyx_lst hp) k_ll ?_
    walk_at "st"
    refine r_lenL hp ?_
    walk_at "st"
    refine r_dec (fun g => absurd g (by rw [hA.1]; omega)) (fun _ => ?_)
    walk_at "st"
    refine r_islist hp ?_
    refine loop_list (xs := xs) (fun i σ' H' => ∃ y, σ' = [some (.ref p), some (.int (k : Int)), y] ∧ H' = H) ⟨none, rfl, rfl⟩ (fun i σ' H' _ ⟨y, _, e⟩ => by rw [e]; exact hp) ?_ ?_
    · rintro i x σ' H' hx ⟨y, rfl, rfl⟩
      have hi : i < zs.length := by rw [← hA.1]; exact (List.getElem?_eq_some_iff.mp hx).1
      obtain ⟨z, hz'⟩ := get_of hi
      walk_at "st"
      refine ⟨x, z.1, z.2, rfl, hA.2 i x z hx hz', hz z (List.mem_of_getElem? hz'), ?_⟩
      walk_at "st"
      exact ⟨_, rfl, rfl⟩
    · rintro σ' H' ⟨y, rfl, rfl⟩
      walk_at "st"
      exact q
theorem cal_first_bar (T : Txt K mg) (c_have_common : Cal P w K mg base 1 "have_common" (sp_have_common K) []) : Cal P w K mg base 2 "first_bar" (sp_first_bar K) [] := by
  obtain ⟨f, fd, F, gF, b⟩ := T.f_first_bar
  refine My.mkCal F gF b sc_first_bar (fun vs H Q E h => ?len) (fun cdv A outer s H vs Q E hr h => ?body)
  case len => first | (obtain ⟨rfl, _⟩ := h; rfl) | (obtain ⟨_, rfl, _⟩ := h; rfl) | (obtain ⟨_, _, rfl, _⟩ := h; rfl) | (obtain ⟨_, _, _, rfl, _⟩ := h; rfl) | (obtain ⟨_, _, _, _, rfl, _⟩ := h; rfl) | (obtain ⟨_, _, _, _, _, rfl, _⟩ := h; rfl) | (obtain ⟨_, _, _, _, _, _, rfl, _⟩ := h; rfl) | (obtain ⟨_, _, _, _, _, _, _, rfl, _⟩ := h; rfl) | (obtain ⟨_, _, _, _, _, _, _, _, rfl, _⟩ := h; rfl) | (obtain ⟨_, _, _, _, _, _, _, _, _, rfl, _⟩ := h; rfl) | (obtain ⟨_, _, _, _, _, _, _, _, _, _, rfl, _⟩ := h; rfl) | (obtain ⟨_, _, _, _, _, _, _, _, _, _, _, rfl, _⟩ := h; rfl) | (obtain ⟨_, _, _, _, _, _, _, _, _, _, _, _, rfl, _⟩ := h; rfl) | (obtain ⟨_, _, _, _, _, _, _, _, _, _, _, _, _, rfl, _⟩ := h; rfl) | (obtain ⟨_, _, _, _, _, _, _, _, _, _, _, _, _, _, rfl, _⟩ := h; rfl)
  case body =>
    refine ⟨_, (pss_cons (ps_for PassesOwn.never rfl (pi_range1 (by rfl) T.b_range (pa_cons (pe_callB call_len_seq (by rfl) T.b_len (by decide +kernel) (pa_cons (pv 0) pa_nil)) pa_nil)) (pg_name (i := 1) sc_first_bar.nd rfl (Or.inl rfl))
      (pss_one (ps_for PassesOwn.never rfl (pi_range2 (by rfl) T.b_range (pa_cons (pe_op op_add (pv 1) pe_int) (pa_cons (pe_callB call_len_seq (by rfl) T.b_len (by decide +kernel) (pa_cons (pv 0) pa_nil)) pa_nil))) (pg_name (i := 2) sc_first_bar.nd rfl (Or.inl rfl))
      (pss_one (ps_if (pt_not (pt_val (pe_c c_have_common hr (by decide) (by rfl) (pa_cons (pe_ix ix_list (pv 0) (pv 1) (fun _ _ => rfl)) (pa_cons (pe_ix ix_list (pv 0) (pv 2) (fun _ _ => rfl)) pa_nil)))))
      (pss_one (ps_ret (pe_tup (pa_cons (pv 1) (pa_cons (pv 2) pa_nil)))))
      pss_nil)))))
      (pss_one (ps_ret pe_non))), ?_⟩
    obtain ⟨p, zs, rfl, ⟨xs, hp, hA⟩, hn, hz, q⟩ := h
    refine My.r_start (σ := [some _, none, none]) rfl ?_; walk_at "st"
    refine r_lenL hp ?_
    walk_at "st"
    refine r_rgL zs.length (by rw [hA.1]) (by omega) ?_
    refine loop_range (fun i σ' H' => ∃ x y, σ' = [some (.ref p), x, y] ∧ H' = H ∧ ∀ i' j', i' < i → i' < j' → j' < zs.length → FitsAt zs i' j') ⟨none, none, rfl, rfl, fun i' j' h => absurd h (Nat.not_lt_zero _)⟩ ?_ ?_
    · rintro i σ' H' hi ⟨x, y, rfl, rfl, hf⟩
      walk_at "st"
      refine r_lenL hp ?_
      walk_at "st"
      refine r_rg2L (zs.length - (i + 1)) (by rw [hA.1]; omega) (by rw [hA.1]; omega) ?_
      refine loop_range2 (fun k σ' H'' => ∃ y, σ' = [some (.ref p), some (.int (i : Int)), y] ∧ H'' = H' ∧ ∀ j', i < j' → j' < i + 1 + k → FitsAt zs i j') ⟨y, rfl, rfl, fun j' h1 h2 => absurd h1 (by omega)⟩ ?_ ?_
      · rintro k σ' H'' hk ⟨y, rfl, rfl, hg⟩
        obtain ⟨z, hz1⟩ := get_of hi
        obtain ⟨w, hw1⟩ := get_of (xs := zs) (j := i + 1 + k) (by omega)
        obtain ⟨v1, hv1, c1⟩ := hA.at hz1
        obtain ⟨v2, hv2, c2⟩ := hA.at hw1
        walk_at "st"
        refine r_ixL hp (atI_nat hv1) ?_
        walk_at "st"
        refine r_ixL hp (at_of (j := i + 1 + k) (by omega) hv2) ?_
        walk_at "st"
        have lz := hz z (List.mem_of_getElem? hz1)
        refine ⟨v1, v2, z.1, z.2, w.1, w.2, rfl, c1, c2, by omega, ?_⟩
        walk_at "st"
        refine r_ndec (fun g => ?_) (fun g => ?_)
        · walk_at "st"
          refine r_sz (Nat.le_of_ble_eq_true rfl) fun p2 hp2 => ?_
          refine q (.ref p2) (some (i, i + 1 + k)) _ (Same.new hp2) ⟨by omega, by omega, fun h => g (h z w hz1 hw1), fun i' j' h1 h2 h3 => ?_⟩ ⟨p2, rfl, ?_⟩
          · rcases h3 with h3 | ⟨rfl, h3⟩
            · exact hf i' j' h3 h1 h2
            · exact hg j' h1 h3
          · rw [show ((i + 1 + k : Nat) : Int) = (i : Int) + 1 + (k : Int) by omega]
            exact .of upd_same
        · walk_at "st"
          refine ⟨_, rfl, rfl, fun j' h1 h2 => ?_⟩
          by_cases e : j' = i + 1 + k
          · subst e
            intro z' w' e1 e2
            rw [hz1] at e1
            rw [hw1] at e2
            cases e1
            cases e2
            exact g
          · exact hg j' h1 (by omega)
      · rintro σ' H'' ⟨y, rfl, rfl, hg⟩
        walk_at "st"
        refine ⟨_, _, rfl, rfl, fun i' j' h1 h2 h3 => ?_⟩
        by_cases e : i' = i
        · subst e
          exact hg j' h2 (by omega)
        · exact hf i' j' (by omega) h2 h3
    · rintro σ' H' ⟨x, y, rfl, rfl, hf⟩
      walk_at "st"
      exact q .non none H' (Same.refl H') (fun i j h1 h2 => hf i j (by omega) h1 h2) rfl
theorem cal_meet_all (T : Txt K mg) (c_check_classes : Cal P w K mg base 4 "check_classes" (sp_check_classes K) []) (c_first_bar : Cal P w K mg base 2 "first_bar" (sp_first_bar K) []) (c_common_class : Cal P w K mg base 2 "common_class" (sp_common_class K) []) : Cal P w K mg base 5 "meet_all" (sp_meet_all K) [] := by
  obtain ⟨f, fd, F, gF, b⟩ := T.f_meet_all
  refine My.mkCal F gF b sc_meet_all (fun vs H Q E h => ?len) (fun cdv A outer s H vs Q E hr h => ?body)
  case len => first | (obtain ⟨rfl, _⟩ := h; rfl) | (obtain ⟨_, rfl, _⟩ := h; rfl) | (obtain ⟨_, _, rfl, _⟩ := h; rfl) | (obtain ⟨_, _, _, rfl, _⟩ := h; rfl) | (obtain ⟨_, _, _, _, rfl, _⟩ := h; rfl) | (obtain ⟨_, _, _, _, _, rfl, _⟩ := h; rfl) | (obtain ⟨_, _, _, _, _, _, rfl, _⟩ := h; rfl) | (obtain ⟨_, _, _, _, _, _, _, rfl, _⟩ := h; rfl) | (obtain ⟨_, _, _, _, _, _, _, _, rfl, _⟩ := h; rfl) | (obtain ⟨_, _, _, _, _, _, _, _, _, rfl, _⟩ := h; rfl) | (obtain ⟨_, _, _, _, _, _, _, _, _, _, rfl, _⟩ := h; rfl) | (obtain ⟨_, _, _, _, _, _, _, _, _, _, _, rfl, _⟩ := h; rfl) | (obtain ⟨_, _, _, _, _, _, _, _, _, _, _, _, rfl, _⟩ := h; rfl) | (obtain ⟨_, _, _, _, _, _, _, _, _, _, _, _, _, rfl, _⟩ := h; rfl) | (obtain ⟨_, _, _, _, _, _, _, _, _, _, _, _, _, _, rfl, _⟩ := h; rfl)
  case body =>
    refine ⟨_, (pss_cons (ps_expr (pe_c c_check_classes hr (by decide) (by rfl) (pa_cons (pv 0) (pa_cons (pe_gc (v := .int 40) (by rfl) T.v_MOST_TO_MEET) pa_nil))))
      (pss_cons (ps_set (i := 1) sc_meet_all.nd rfl (Or.inl rfl) (pe_c c_first_bar hr (by decide) (by rfl) (pa_cons (pv 0) pa_nil)))
      (pss_cons (ps_if (pt_cmpR op_notN (pv 1) pe_non (nomark _))
      (pss_one (ps_ret (pe_tup (pa_cons pe_str (pa_cons (pe_ix ix_tup (pv 1) pe_int (fun _ _ => rfl)) (pa_cons (pe_ix ix_tup (pv 1) pe_int (fun _ _ => rfl)) pa_nil))))))
      pss_nil)
      (pss_cons (ps_set (i := 2) sc_meet_all.nd rfl (Or.inl rfl) (pe_tup (pa_cons pe_int (pa_cons pe_int pa_nil))))
      (pss_cons (ps_for PassesOwn.never rfl (pi_list (pv 0)) (pg_name (i := 3) sc_meet_all.nd rfl (Or.inl rfl))
      (pss_one (ps_set (i := 2) sc_meet_all.nd rfl (Or.inl rfl) (pe_c c_common_class hr (by decide) (by rfl) (pa_cons (pv 2) (pa_cons (pv 3) pa_nil))))))
      (pss_one (ps_ret (pe_tup (pa_cons pe_str (pa_cons (pv 2) pa_nil)))))))))), ?_⟩
    obtain ⟨p, zs, rfl, hL, hn, hz, hb, q⟩ := h
    refine My.r_start (σ := [some _, none, none, none]) rfl ?_; walk_at "st"
    refine ⟨p, 40, zs, rfl, hL, hn, hz, ?_⟩
    walk_at "st"
    refine ⟨p, zs, rfl, hL, by omega, hz, fun v o H1 s1 B hv => ?_⟩
    walk_at "st"
    cases o with
    | some ij =>
      obtain ⟨i, j⟩ := ij
      obtain ⟨p2, rfl, hp2⟩ := hv
      refine r_ndec (fun _ => ?_) (fun g => nomatch g)
      walk_at "st"
      refine r_ixT hp2 atI0 ?_
      walk_at "st"
      refine r_ixT hp2 atI1 ?_
      walk_at "st"
      refine r_sz (Nat.le_of_ble_eq_true rfl) fun p3 hp3 => ?_
      exact q (.ref p3) (.inl (i, j)) _ (s1.trans (Same.new hp3)) B ⟨p3, rfl, .of upd_same⟩
    | none =>
      have ev : v = .non := hv
      subst ev
      refine r_ndec (fun g => absurd rfl g) (fun _ => ?_)
      walk_at "st"
      refine r_sz (by decide) fun p2 hp2 => ?_
      walk_at "st"
      have hL1 := (hL.same s1).same (Same.new (o := .tup [.int 1, .int 0]) hp2)
      obtain ⟨xs, hp, hA⟩ := hL1
      refine r_islist hp ?_
      refine loop_list (xs := xs) (fun i σ' H' => ∃ (vc : V) (y : Option V) (L x : Nat), σ' = [some (.ref p), some .non, some vc, y] ∧ Same (upd H1 p2 (.tup [.int 1, .int 0])) H' ∧ IsC K H' vc L x ∧ x < L ∧ L = lcmL ((zs.take i).map (·.1)) ∧ AllIn (zs.take i) x)
        ⟨.ref p2, none, 1, 0, rfl, Same.refl _, ⟨p2, rfl, .of upd_same⟩, by decide, rfl, fun z h => absurd h (by rw [List.take_zero]; exact List.not_mem_nil)⟩ (fun i σ' H' _ ⟨vc, y, L, x, _, s, _⟩ => s.seq hp) ?_ ?_
      · rintro i x0 σ' H' hx ⟨vc, y, L, x, rfl, sm, hc, lx, eL, hAll⟩
        have hi : i < zs.length := by rw [← hA.1]; exact (List.getElem?_eq_some_iff.mp hx).1
        obtain ⟨z, hz1⟩ := get_of hi
        have lz := hz z (List.mem_of_getElem? hz1)
        have bL : Bd (L : Int) := bd_nat (by rw [eL]; exact lcm_take_le hz i) hb
        have bz : Bd (z.1 : Int) := bd_nat (Nat.le_of_dvd (lcmL_pos fun m hm => by
          obtain ⟨z', hz', rfl⟩ := List.mem_map.mp hm
          have := hz z' hz'
          omega) (dvd_lcmL (List.mem_map.mpr ⟨z, List.mem_of_getElem? hz1, rfl⟩))) hb
        walk_at "st"
        refine ⟨vc, x0, L, x, z.1, z.2, rfl, hc, (hA.2 i x0 z hx hz1).same sm, ⟨lx, bL⟩, ⟨lz, bz⟩, fun v o H5 s5 M ho => ?_⟩
        walk_at "st"
        have hzt : ∀ z ∈ zs.take i, z.2 < z.1 := fun z h => hz z (List.mem_of_mem_take h)
        have hF : Fits L x z.1 z.2 := next_fits hzt lz eL hAll fun w hw => by
          obtain ⟨j, hj⟩ := List.getElem?_of_mem hw
          have hjl : j < i := by
            have := (List.getElem?_eq_some_iff.mp hj).1
            rw [List.length_take] at this
            omega
          rw [List.getElem?_take_of_lt hjl] at hj
          exact B j i hjl hi w z hj hz1
        cases o with
        | none => exact absurd hF M
        | some o =>
          obtain ⟨L', x'⟩ := o
          obtain ⟨a1, a2, a3⟩ := all_snoc hzt eL hAll M
          have et := take_snoc hz1
          exact ⟨v, _, L', x', rfl, sm.trans s5, ho, a2, by rw [et]; exact a1, by rw [et]; exact a3⟩
      · rintro σ' H' ⟨vc, y, L, x, rfl, sm, hc, lx, eL, hAll⟩
        rw [hA.1, List.take_length] at eL hAll
        walk_at "st"
        refine r_sz (Nat.le_of_ble_eq_true rfl) fun p3 hp3 => ?_
        exact q (.ref p3) (.inr (L, x)) _ (((s1.trans (Same.new hp2)).trans sm).trans (Same.new hp3)) ⟨B, lx, eL, hAll⟩ ⟨p3, vc, rfl, .of upd_same, hc.same (Same.new hp3)⟩

def sp__law_pick (K : PySem.W.Frag) : Sp := fun vs H Q _ => ∃ (a c : Addr) (t : Int) (p : Addr) (xs : List V), vs = [.ref a, .ref p] ∧ Src H a c t ∧ t + 1 ≤ Big ∧ H p = some (.lst xs) ∧ p ≠ a ∧ p ≠ c ∧ 0 < xs.length ∧ xs.length ≤ 1000 ∧ ∀ x t' H', x ∈ xs → Keep a c H H' → Src H' a c t' → t ≤ t' → t' ≤ t + 1 → Q x H'
def LBarV (K : PySem.W.Frag) (H : Hp) (v : V) : Option (Nat × Nat) → Prop
  | none => v = .non
  | some z => AV K H v (.inl z)
def sp__law_first_bar (K : PySem.W.Frag) : Sp := fun vs H Q _ => ∃ (p : Addr) (zs : List (Nat × Nat)), vs = [.ref p] ∧ LsC K H p zs ∧ zs.length ≤ 1000 ∧ (∀ z ∈ zs, z.2 < z.1) ∧ ∀ v o H', Same H H' → BarR zs o → LBarV K H' v o → Q v H'
def Good (zs : List (Nat × Nat)) : Prop := zs.length ≤ 40 ∧ ∀ z ∈ zs, z.2 < z.1 ∧ z.1 ≤ E30
theorem Good.bd {zs : List (Nat × Nat)} (h : Good zs) : Bd ((lcmL (zs.map (·.1)) : Nat) : Int) := by
  have h1 : lcmL (zs.map (·.1)) ≤ E30 ^ (zs.map (·.1)).length := lcmL_le (fun m hm => by
    obtain ⟨z, hz, rfl⟩ := List.mem_map.mp hm
    have := (h.2 z hz).1
    omega) fun m hm => by
    obtain ⟨z, hz, rfl⟩ := List.mem_map.mp hm
    exact (h.2 z hz).2
  rw [List.length_map] at h1
  have h2 : E30 ^ zs.length ≤ E30 ^ 40 := Nat.pow_le_pow_right (by decide) h.1
  have h3 : E30 ^ 40 < 2 ^ 4000 := by decide +kernel
  exact Nat.lt_of_le_of_lt (show ((lcmL (zs.map (·.1)) : Nat) : Int).natAbs ≤ E30 ^ 40 by omega) h3
def sp__law_fits (K : PySem.W.Frag) : Sp := fun vs H Q _ => ∃ (p : Addr) (zs : List (Nat × Nat)), vs = [.ref p] ∧ LsC K H p zs ∧ Good zs ∧ ∀ H', Same H H' → Q (.bl true) H'
theorem cal__law_pick (T : Txt K mg) (c__law_draw : Cal P w K mg base 1 "_law_draw" (sp__law_draw K) []) : Cal P w K mg base 2 "_law_pick" (sp__law_pick K) [] := by
  obtain ⟨f, fd, F, gF, b⟩ := T.f__law_pick
  refine My.mkCal F gF b sc__law_pick (fun vs H Q E h => ?len) (fun cdv A outer s H vs Q E hr h => ?body)
  case len => first | (obtain ⟨rfl, _⟩ := h; rfl) | (obtain ⟨_, rfl, _⟩ := h; rfl) | (obtain ⟨_, _, rfl, _⟩ := h; rfl) | (obtain ⟨_, _, _, rfl, _⟩ := h; rfl) | (obtain ⟨_, _, _, _, rfl, _⟩ := h; rfl) | (obtain ⟨_, _, _, _, _, rfl, _⟩ := h; rfl) | (obtain ⟨_, _, _, _, _, _, rfl, _⟩ := h; rfl) | (obtain ⟨_, _, _, _, _, _, _, rfl, _⟩ := h; rfl) | (obtain ⟨_, _, _, _, _, _, _, _, rfl, _⟩ := h; rfl) | (obtain ⟨_, _, _, _, _, _, _, _, _, rfl, _⟩ := h; rfl) | (obtain ⟨_, _, _, _, _, _, _, _, _, _, rfl, _⟩ := h; rfl) | (obtain ⟨_, _, _, _, _, _, _, _, _, _, _, rfl, _⟩ := h; rfl) | (obtain ⟨_, _, _, _, _, _, _, _, _, _, _, _, rfl, _⟩ := h; rfl) | (obtain ⟨_, _, _, _, _, _, _, _, _, _, _, _, _, rfl, _⟩ := h; rfl) | (obtain ⟨_, _, _, _, _, _, _, _, _, _, _, _, _, _, rfl, _⟩ := h; rfl)
  case body =>
    refine ⟨_, (pss_one (ps_ret (pe_ix ix_list (pv 1) (pe_c c__law_draw hr (by decide) (by rfl) (pa_cons (pv 0) (pa_cons (pe_callB call_len_seq (by rfl) T.b_len (by decide +kernel) (pa_cons (pv 1) pa_nil)) pa_nil))) (fun _ _ => rfl)))), ?_⟩
    obtain ⟨a, c, t, p, xs, rfl, hs, ht, hp, pa, pc, h0, h1, q⟩ := h
    refine My.r_start (σ := [some _, some _]) rfl ?_; walk_at "st"
    refine r_lenL (.of hp) ?_
    walk_at "st"
    refine ⟨a, c, t, (xs.length : Int), rfl, hs, ht, by omega, bd_small (by omega), fun r t' H' r0 r1 k s' t1 t2 => ?_⟩
    obtain ⟨j, rfl⟩ : ∃ j : Nat, r = (j : Int) := ⟨r.toNat, by omega⟩
    obtain ⟨x, hx⟩ := get_of (xs := xs) (j := j) (by omega)
    refine r_ixL (.of (k _ _ pa pc hp)) (atI_nat hx) ?_
    exact q x t' H' (List.mem_of_getElem? hx) k s' t1 t2
theorem cal__law_first_bar (T : Txt K mg) (c__law_divisor : Cal P w K mg base 1 "_law_divisor" (sp__law_divisor K) []) : Cal P w K mg base 2 "_law_first_bar" (sp__law_first_bar K) [] := by
  obtain ⟨f, fd, F, gF, b⟩ := T.f__law_first_bar
  refine My.mkCal F gF b sc__law_first_bar (fun vs H Q E h => ?len) (fun cdv A outer s H vs Q E hr h => ?body)
  case len => first | (obtain ⟨rfl, _⟩ := h; rfl) | (obtain ⟨_, rfl, _⟩ := h; rfl) | (obtain ⟨_, _, rfl, _⟩ := h; rfl) | (obtain ⟨_, _, _, rfl, _⟩ := h; rfl) | (obtain ⟨_, _, _, _, rfl, _⟩ := h; rfl) | (obtain ⟨_, _, _, _, _, rfl, _⟩ := h; rfl) | (obtain ⟨_, _, _, _, _, _, rfl, _⟩ := h; rfl) | (obtain ⟨_, _, _, _, _, _, _, rfl, _⟩ := h; rfl) | (obtain ⟨_, _, _, _, _, _, _, _, rfl, _⟩ := h; rfl) | (obtain ⟨_, _, _, _, _, _, _, _, _, rfl, _⟩ := h; rfl) | (obtain ⟨_, _, _, _, _, _, _, _, _, _, rfl, _⟩ := h; rfl) | (obtain ⟨_, _, _, _, _, _, _, _, _, _, _, rfl, _⟩ := h; rfl) | (obtain ⟨_, _, _, _, _, _, _, _, _, _, _, _, rfl, _⟩ := h; rfl) | (obtain ⟨_, _, _, _, _, _, _, _, _, _, _, _, _, rfl, _⟩ := h; rfl) | (obtain ⟨_, _, _, _, _, _, _, _, _, _, _, _, _, _, rfl, _⟩ := h; rfl)
  case body =>
    refine ⟨_, (pss_cons (ps_for PassesOwn.never rfl (pi_range1 (by rfl) T.b_range (pa_cons (pe_callB call_len_seq (by rfl) T.b_len (by decide +kernel) (pa_cons (pv 0) pa_nil)) pa_nil)) (pg_name (i := 1) sc__law_first_bar.nd rfl (Or.inl rfl))
      (pss_one (ps_for PassesOwn.never rfl (pi_range2 (by rfl) T.b_range (pa_cons (pe_op op_add (pv 1) pe_int) (pa_cons (pe_callB call_len_seq (by rfl) T.b_len (by decide +kernel) (pa_cons (pv 0) pa_nil)) pa_nil))) (pg_name (i := 2) sc__law_first_bar.nd rfl (Or.inl rfl))
      (pss_one (ps_if (pt_cmpR op_ne (pe_op op_mod (pe_callTy My.call_intI (by rfl) T.b_int (by decide +kernel) (pa_cons (pe_op op_sub (pe_ix ix_tup (pe_ix ix_list (pv 0) (pv 1) (fun _ _ => rfl)) pe_int (fun _ _ => rfl)) (pe_ix ix_tup (pe_ix ix_list (pv 0) (pv 2) (fun _ _ => rfl)) pe_int (fun _ _ => rfl))) pa_nil)) (pe_c c__law_divisor hr (by decide) (by rfl) (pa_cons (pe_ix ix_tup (pe_ix ix_list (pv 0) (pv 1) (fun _ _ => rfl)) pe_int (fun _ _ => rfl)) (pa_cons (pe_ix ix_tup (pe_ix ix_list (pv 0) (pv 2) (fun _ _ => rfl)) pe_int (fun _ _ => rfl)) pa_nil)))) pe_int (nomark _))
      (pss_one (ps_ret (pe_tup (pa_cons pe_str (pa_cons (pv 1) (pa_cons (pv 2) pa_nil))))))
      pss_nil)))))
      (pss_one (ps_ret pe_non))), ?_⟩
    obtain ⟨p, zs, rfl, ⟨xs, hp, hA⟩, hn, hz, q⟩ := h
    refine My.r_start (σ := [some _, none, none]) rfl ?_; walk_at "st"
    refine r_lenL hp ?_
    walk_at "st"
    refine r_rgL zs.length (by rw [hA.1]) (by omega) ?_
    refine loop_range (fun i σ' H' => ∃ x y, σ' = [some (.ref p), x, y] ∧ H' = H ∧ ∀ i' j', i' < i → i' < j' → j' < zs.length → FitsAt zs i' j') ⟨none, none, rfl, rfl, fun i' j' h => absurd h (Nat.not_lt_zero _)⟩ ?_ ?_
    · rintro i σ' H' hi ⟨x, y, rfl, rfl, hf⟩
      walk_at "st"
      refine r_lenL hp ?_
      walk_at "st"
      refine r_rg2L (zs.length - (i + 1)) (by rw [hA.1]; omega) (by rw [hA.1]; omega) ?_
      refine loop_range2 (fun k σ' H'' => ∃ y, σ' = [some (.ref p), some (.int (i : Int)), y] ∧ H'' = H' ∧ ∀ j', i < j' → j' < i + 1 + k → FitsAt zs i j') ⟨y, rfl, rfl, fun j' h1 h2 => absurd h1 (by omega)⟩ ?_ ?_
      · rintro k σ' H'' hk ⟨y, rfl, rfl, hg⟩
        obtain ⟨z, hz1⟩ := get_of hi
        obtain ⟨w, hw1⟩ := get_of (xs := zs) (j := i + 1 + k) (by omega)
        obtain ⟨v1, hv1, c1⟩ := hA.at hz1
        obtain ⟨v2, hv2, c2⟩ := hA.at hw1
        have lz := hz z (List.mem_of_getElem? hz1)
        have gp : 0 < Nat.gcd z.1 w.1 := Nat.gcd_pos_of_pos_left _ (by omega)
        walk_at "st"
        refine r_ixL hp (atI_nat hv1) ?_
        walk_at "st"
        refine r_c1 c1 ?_
        walk_at "st"
        refine r_ixL hp (at_of (j := i + 1 + k) (by omega) hv2) ?_
        walk_at "st"
        refine r_c1 c2 ?_
        walk_at "st"
        refine r_ixL hp (atI_nat hv1) ?_
        walk_at "st"
        refine r_c0 c1 ?_
        walk_at "st"
        refine r_ixL hp (at_of (j := i + 1 + k) (by omega) hv2) ?_
        walk_at "st"
        refine r_c0 c2 ?_
        walk_at "st"
        refine ⟨z.1, w.1, rfl, ?_⟩
        walk_at "st"
        refine r_ndec (fun g => ?_) (fun g => ?_)
        · walk_at "st"
          refine r_sz (Nat.le_of_ble_eq_true rfl) fun p2 hp2 => ?_
          refine q (.ref p2) (some (i, i + 1 + k)) _ (Same.new hp2) ⟨by omega, by omega, fun h => g (h z w hz1 hw1), fun i' j' h1 h2 h3 => ?_⟩ ⟨p2, rfl, ?_⟩
          · rcases h3 with h3 | ⟨rfl, h3⟩
            · exact hf i' j' h3 h1 h2
            · exact hg j' h1 h3
          · rw [show ((i + 1 + k : Nat) : Int) = (i : Int) + 1 + (k : Int) by omega]
            exact .of upd_same
        · walk_at "st"
          refine ⟨_, rfl, rfl, fun j' h1 h2 => ?_⟩
          by_cases e : j' = i + 1 + k
          · subst e
            intro z' w' e1 e2
            rw [hz1] at e1
            rw [hw1] at e2
            cases e1
            cases e2
            exact g
          · exact hg j' h1 (by omega)
      · rintro σ' H'' ⟨y, rfl, rfl, hg⟩
        walk_at "st"
        refine ⟨_, _, rfl, rfl, fun i' j' h1 h2 h3 => ?_⟩
        by_cases e : i' = i
        · subst e
          exact hg j' h2 (by omega)
        · exact hf i' j' (by omega) h2 h3
    · rintro σ' H' ⟨x, y, rfl, rfl, hf⟩
      walk_at "st"
      exact q .non none H' (Same.refl H') (fun i j h1 h2 => hf i j (by omega) h1 h2) rfl
theorem cal__law_fits (T : Txt K mg) (c_meet_all : Cal P w K mg base 5 "meet_all" (sp_meet_all K) []) (c__law_first_bar : Cal P w K mg base 2 "_law_first_bar" (sp__law_first_bar K) []) (c_meet : Cal P w K mg base 4 "meet" (sp_meet K) []) (c__law_divisor : Cal P w K mg base 1 "_law_divisor" (sp__law_divisor K) []) (c__law_lies : Cal P w K mg base 1 "_law_lies" (sp__law_lies K) []) (c_is_within : Cal P w K mg base 4 "is_within" (sp_is_within K) []) : Cal P w K mg base 6 "_law_fits" (sp__law_fits K) [] := by
  obtain ⟨f, fd, F, gF, b⟩ := T.f__law_fits
  refine My.mkCal F gF b sc__law_fits (fun vs H Q E h => ?len) (fun cdv A outer s H vs Q E hr h => ?body)
  case len => first | (obtain ⟨rfl, _⟩ := h; rfl) | (obtain ⟨_, rfl, _⟩ := h; rfl) | (obtain ⟨_, _, rfl, _⟩ := h; rfl) | (obtain ⟨_, _, _, rfl, _⟩ := h; rfl) | (obtain ⟨_, _, _, _, rfl, _⟩ := h; rfl) | (obtain ⟨_, _, _, _, _, rfl, _⟩ := h; rfl) | (obtain ⟨_, _, _, _, _, _, rfl, _⟩ := h; rfl) | (obtain ⟨_, _, _, _, _, _, _, rfl, _⟩ := h; rfl) | (obtain ⟨_, _, _, _, _, _, _, _, rfl, _⟩ := h; rfl) | (obtain ⟨_, _, _, _, _, _, _, _, _, rfl, _⟩ := h; rfl) | (obtain ⟨_, _, _, _, _, _, _, _, _, _, rfl, _⟩ := h; rfl) | (obtain ⟨_, _, _, _, _, _, _, _, _, _, _, rfl, _⟩ := h; rfl) | (obtain ⟨_, _, _, _, _, _, _, _, _, _, _, _, rfl, _⟩ := h; rfl) | (obtain ⟨_, _, _, _, _, _, _, _, _, _, _, _, _, rfl, _⟩ := h; rfl) | (obtain ⟨_, _, _, _, _, _, _, _, _, _, _, _, _, _, rfl, _⟩ := h; rfl)
  case body =>
    refine ⟨_, (pss_cons (ps_set (i := 1) sc__law_fits.nd rfl (Or.inl rfl) (pe_callTy call_list_of (by rfl) T.b_list (by decide +kernel) (pa_cons (pv 0) pa_nil)))
      (pss_cons (ps_set (i := 2) sc__law_fits.nd rfl (Or.inl rfl) (pe_c c_meet_all hr (by decide) (by rfl) (pa_cons (pv 0) pa_nil)))
      (pss_cons (ps_set (i := 3) sc__law_fits.nd rfl (Or.inl rfl) (pe_c c__law_first_bar hr (by decide) (by rfl) (pa_cons (pv 0) pa_nil)))
      (pss_cons (ps_if (PW.pt (pw_or (pt_cmpR (op_neD hr.units) (pv 0) (pv 1) (nomark _)) (pw_or1 (pt_not (pt_val (pe_callB call_isi (by rfl) T.b_isinstance (by decide +kernel) (pa_cons (pv 2) (pa_cons (pe_bltn (v := .ty "tuple") (by rfl) T.b_tuple (by decide +kernel) rfl) pa_nil))))))))
      (pss_one (ps_ret pe_bl))
      pss_nil)
      (pss_cons (ps_if (pt_cmpR op_notN (pv 3) pe_non (nomark _))
      (pss_one (ps_ret (pe_and (pe_cmpR (op_eqD hr.units) (pv 2) (pv 3) (nomark _)) (pe_one (pe_cmpR op_isN (pe_c c_meet hr (by decide) (by rfl) (pa_cons (pe_ix ix_list (pv 0) (pe_ix ix_tup (pv 2) pe_int (fun _ _ => rfl)) (fun _ _ => rfl)) (pa_cons (pe_ix ix_list (pv 0) (pe_ix ix_tup (pv 2) pe_int (fun _ _ => rfl)) (fun _ _ => rfl)) pa_nil))) pe_non (nomark _))))))
      pss_nil)
      (pss_cons (ps_if (PW.pt (pw_or (pt_cmpR op_ne (pe_callB call_len_seq (by rfl) T.b_len (by decide +kernel) (pa_cons (pv 2) pa_nil)) pe_int (nomark _)) (pw_or1 (pt_cmpR op_ne (pe_ix ix_tup (pv 2) pe_int (fun _ _ => rfl)) pe_str (nomark _)))))
      (pss_one (ps_ret pe_bl))
      pss_nil)
      (pss_cons (ps_asg (pe_ix ix_tup (pv 2) pe_int (fun _ _ => rfl)) (pg_tup (by rfl) (pgs_cons (pg_name (i := 4) sc__law_fits.nd rfl (Or.inl rfl)) (pgs_cons (pg_name (i := 5) sc__law_fits.nd rfl (Or.inl rfl)) pgs_nil))))
      (pss_cons (ps_set (i := 6) sc__law_fits.nd rfl (Or.inl rfl) pe_int)
      (pss_cons (ps_for PassesOwn.never rfl (pi_list (pv 0)) (pg_name (i := 7) sc__law_fits.nd rfl (Or.inl rfl))
      (pss_cons (ps_set (i := 6) sc__law_fits.nd rfl (Or.inl rfl) (pe_op op_mulX (pe_op op_fdivW (pv 6) (pe_c c__law_divisor hr (by decide) (by rfl) (pa_cons (pv 6) (pa_cons (pe_ix ix_tup (pv 7) pe_int (fun _ _ => rfl)) pa_nil)))) (pe_ix ix_tup (pv 7) pe_int (fun _ _ => rfl))))
      (pss_one (ps_if (PW.pt (pw_or (pt_not (pt_val (pe_c c__law_lies hr (by decide) (by rfl) (pa_cons (pv 5) (pa_cons (pv 7) pa_nil))))) (pw_or1 (pt_not (pt_val (pe_c c_is_within hr (by decide) (by rfl) (pa_cons (pe_ix ix_tup (pv 2) pe_int (fun _ _ => rfl)) (pa_cons (pv 7) pa_nil))))))))
      (pss_one (ps_ret pe_bl))
      pss_nil))))
      (pss_one (ps_ret (pe_and (pe_cmpR op_eq (pv 4) (pv 6) (nomark _)) (pe_and (pe_cmpR op_ge (pv 5) pe_int (nomark _)) (pe_one (pe_cmpR op_lt (pv 5) (pv 6) (nomark _)))))))))))))))), ?_⟩
    obtain ⟨p, zs, rfl, ⟨xs, hp, hA⟩, hG, q⟩ := h
    refine My.r_start (σ := [some _, none, none, none, none, none, none, none]) rfl ?_; walk_at "st"
    have hz : ∀ z ∈ zs, z.2 < z.1 := fun z h => (hG.2 z h).1
    have hb := hG.bd
    refine ⟨p, xs, rfl, .inl hp, fun kp hkp => ?_⟩
    walk_at "st"
    have hp1 := (Same.new (o := .lst xs) hkp).seq hp
    have hA1 := hA.same (Same.new (o := .lst xs) hkp)
    have hk1 : SqL K (upd H kp (.lst xs)) kp xs := .of upd_same
    generalize eH : upd H kp (.lst xs) = H1 at *
    have sm1 : Same H H1 := by rw [← eH]; exact Same.new hkp
    refine ⟨p, zs, rfl, ⟨xs, hp1, hA1⟩, hG.1, hz, hb, fun v o H2 s2 hR hv => ?_⟩
    walk_at "st"
    refine ⟨p, zs, rfl, ⟨xs, s2.seq hp1, hA1.same s2⟩, by have := hG.1; omega, hz, fun vb ob H3 s3 hB hvb => ?_⟩
    walk_at "st"
    have hp3 := s3.seq (s2.seq hp1)
    have hA3 := (hA1.same s2).same s3
    have hv3 := hv.same s3
    have sA : Same H H3 := (sm1.trans s2).trans s3
    refine r_neD (dp_ls hp3 hA3) (dp_ls (s3.seq (s2.seq hk1)) hA3) shp_ls.ok shp_ls.ok ?_
    rw [eqv_list cdat_eqv]
    walk_at "st"
    refine r_ndec (fun g => absurd rfl g) (fun _ => ?_)
    walk_at "st"
    obtain ⟨pv, ev, ys, hpv⟩ : ∃ pv, v = .ref pv ∧ ∃ ys, SqT K H3 pv ys := by
      match o, hv3 with
      | .inl (_, _), ⟨p, e, h⟩ => exact ⟨p, e, _, h⟩
      | .inr (_, _), ⟨p, vc, e, h, _⟩ => exact ⟨p, e, _, h⟩
    subst ev
    refine r_isi (tyx_tup hpv) k_tt ?_
    walk_at "st"
    match o, hR, hv3 with
    | .inl (i, j), hR, hv3 =>
      have eo := bar_one (zs := zs) (o := ob) (o' := some (i, j)) hB hR
      subst eo
      have hvb3 : AV K H3 vb (.inl (i, j)) := hvb
      have hvn : vb ≠ .non := by
        obtain ⟨pp, e, _⟩ := hvb3
        rw [e]
        exact fun z => nomatch z
      refine r_ndec (fun _ => ?_) (fun g => absurd g hvn)
      walk_at "st"
      refine r_eqDD hv3.dp hvb3.dp shp_adat.ok shp_adat.ok ?_
      rw [adat_refl]
      walk_at "st"
      obtain ⟨p', e', hq⟩ := hv3
      cases e'
      obtain ⟨h1, h2, h3, _⟩ := hR
      obtain ⟨z, hz1⟩ := get_of (xs := zs) (j := i) (by omega)
      obtain ⟨w, hw1⟩ := get_of (xs := zs) (j := j) (by omega)
      obtain ⟨x1, hx1, c1⟩ := hA3.at hz1
      obtain ⟨x2, hx2, c2⟩ := hA3.at hw1
      refine r_ixT hq atI1 ?_
      walk_at "st"
      refine r_ixL hp3 (atI_nat hx1) ?_
      walk_at "st"
      refine r_ixT hq (atI_nat (j := 2) rfl) ?_
      walk_at "st"
      refine r_ixL hp3 (atI_nat hx2) ?_
      walk_at "st"
      have gz := hG.2 z (List.mem_of_getElem? hz1)
      have gw := hG.2 w (List.mem_of_getElem? hw1)
      refine ⟨x1, x2, z.1, z.2, w.1, w.2, rfl, c1, c2, ⟨gz.1, bd_e30 gz.2⟩, ⟨gw.1, bd_e30 gw.2⟩, fun v' o' H4 s4 M ho => ?_⟩
      walk_at "st"
      cases o' with
      | some o' =>
        obtain ⟨L, x⟩ := o'
        exact absurd (fun z' w' e1 e2 => by rw [hz1] at e1; rw [hw1] at e2; cases e1; cases e2; exact M.1) h3
      | none =>
        have ev : v' = .non := ho
        subst ev
        rw [decide_eq_true rfl]
        exact q H4 (sA.trans s4)
    | .inr (L, x), hR, hv3 =>
      obtain ⟨hB0, lx, eL, hAll⟩ := hR
      have eo := bar_one (zs := zs) (o := ob) (o' := none) hB hB0
      subst eo
      have evb : vb = .non := hvb
      subst evb
      refine r_ndec (fun g => absurd rfl g) (fun _ => ?_)
      walk_at "st"
      obtain ⟨p', vc, e', hq, hc⟩ := hv3
      cases e'
      refine r_lenT hq ?_
      walk_at "st"
      refine r_ndec (fun g => absurd rfl g) (fun _ => ?_)
      walk_at "st"
      refine r_ixT hq atI0 ?_
      walk_at "st"
      refine r_ne rfl ?_
      walk_at "st"
      refine r_ndec (fun g => absurd rfl g) (fun _ => ?_)
      walk_at "st"
      refine r_ixT hq atI1 ?_
      walk_at "st"
      obtain ⟨pc, evc, hpc⟩ := id hc
      subst evc
      refine r_gtup hpc rfl ?_
      walk_at "st"
      refine r_islist hp3 ?_
      refine loop_list (xs := xs) (fun i σ' H' => ∃ (y : Option V) (M : Nat), σ' = [some (.ref p), some (.ref kp), some (.ref pv), some .non, some (.int (L : Int)), some (.int (x : Int)), some (.int (M : Int)), y] ∧ H' = H3 ∧ M = lcmL ((zs.take i).map (·.1)))
        ⟨none, 1, rfl, rfl, rfl⟩ (fun i σ' H' _ ⟨y, M, _, e, _⟩ => by rw [e]; exact hp3) ?_ ?_
      · rintro i x0 σ' H' hx ⟨y, M, rfl, rfl, eM⟩
        have hi : i < zs.length := by rw [← hA3.1]; exact (List.getElem?_eq_some_iff.mp hx).1
        obtain ⟨z, hz1⟩ := get_of hi
        have gz := hG.2 z (List.mem_of_getElem? hz1)
        have cz := hA3.2 i x0 z hx hz1
        have bM : Bd (M : Int) := bd_nat (by rw [eM]; exact lcm_take_le hz i) hb
        have pM : 0 < M := by
          rw [eM]
          refine lcmL_pos fun m hm => ?_
          obtain ⟨z', hz', rfl⟩ := List.mem_map.mp hm
          have := hz z' (List.mem_of_mem_take hz')
          omega
        have gp : 0 < Nat.gcd M z.1 := Nat.gcd_pos_of_pos_left _ pM
        walk_at "st"
        refine r_c0 cz ?_
        walk_at "st"
        refine ⟨M, z.1, rfl, ?_⟩
        walk_at "st"
        refine r_div (div_bd (by omega) (bd_nat (Nat.gcd_le_left z.1 pM) bM)) ?_
        walk_at "st"
        refine r_c0 cz ?_
        walk_at "st"
        rw [← Int.natCast_ediv]
        refine r_mul (mul_sm (Bd.sm (bd_nat (Nat.div_le_self _ _) bM)) (bd_e30 gz.2).sm) ?_
        walk_at "st"
        refine ⟨(x : Int), x0, z.1, z.2, rfl, cz, by omega, ?_⟩
        walk_at "st"
        rw [nat_mod_cast, decide_eq_true (hAll z (List.mem_of_getElem? hz1))]
        walk_at "st"
        refine r_ixT hq atI1 ?_
        walk_at "st"
        refine ⟨_, x0, L, x, z.1, z.2, rfl, hc, cz, lx, gz.1, ?_⟩
        walk_at "st"
        rw [decide_eq_true (show L % z.1 = 0 ∧ x % z.1 = z.2 from ⟨Nat.mod_eq_zero_of_dvd (by rw [eL]; exact dvd_lcmL (List.mem_map.mpr ⟨z, List.mem_of_getElem? hz1, rfl⟩)), hAll z (List.mem_of_getElem? hz1)⟩)]
        walk_at "st"
        refine ⟨some x0, M / Nat.gcd M z.1 * z.1, ?_, rfl, ?_⟩
        · rw [Int.natCast_mul]
        · rw [take_snoc hz1, List.map_append, List.map_singleton, lcmL_snoc, ← eM]
          unfold Nat.lcm
          rw [Nat.mul_comm M z.1, Nat.mul_div_assoc _ (Nat.gcd_dvd_left M z.1), Nat.mul_comm]
      · rintro σ' H' ⟨y, M, rfl, rfl, eM⟩
        rw [hA3.1, List.take_length] at eM
        walk_at "st"
        refine r_dec (fun _ => ?_) (fun g => absurd (by rw [eL, eM]) g)
        walk_at "st"
        refine r_dec (fun _ => ?_) (fun g => absurd (by omega) g)
        walk_at "st"
        rw [decide_eq_true (show (x : Int) < (M : Int) by rw [eM, ← eL]; omega)]
        exact q H' sA

def sp_law (K : PySem.W.Frag) : Sp := fun vs H Q _ => ∃ (s : Addr) (ns : List Int), vs = [.ref s] ∧ SqL K H s (ns.map V.int) ∧ ns.length ≤ 63 ∧ ∀ H', Q (.bl true) H'
theorem law_start {H : Hp} {a : Addr} {ns : List Int} (hl : ns.length ≤ 63) (_ : Only H) (hS : SqL K H a (ns.map V.int)) : sp_law K [.ref a] H (fun v _ => v = .bl true) fun _ _ _ => False := ⟨a, ns, rfl, hS, hl, fun _ => rfl⟩
theorem one_good : ∀ z ∈ [(G300, 5)], z.2 < z.1 := fun z hz => by
  rw [List.mem_singleton] at hz
  subst hz
  exact g300_5
theorem one_lcm : lcmL ([(G300, 5)].map (·.1)) = G300 := Nat.lcm_eq_right (Nat.one_dvd _)
theorem one_bd : Bd ((lcmL ([(G300, 5)].map (·.1)) : Nat) : Int) := by rw [one_lcm]; exact bd_g300
theorem one_all : AllR [(G300, 5)] (.inr (G300, 5)) := ⟨fun i j h1 h2 => absurd h2 (by show ¬ j < 1; omega), g300_5, one_lcm.symm, fun z hz => by
  rw [List.mem_singleton] at hz
  subst hz
  exact Nat.mod_eq_of_lt g300_5⟩
theorem two_good : ∀ z ∈ [(G300, 5), (2, 1)], z.2 < z.1 := fun z hz => by
  rcases List.mem_cons.mp hz with rfl | hz
  · exact g300_5
  · rw [List.mem_singleton] at hz
    subst hz
    decide
theorem two_lcm : lcmL ([(G300, 5), (2, 1)].map (·.1)) ≤ 2 * G300 := by
  refine Nat.le_of_dvd (by have := g300_5; omega) (lcmL_dvd fun m hm => ?_)
  rcases List.mem_cons.mp hm with rfl | hm
  · exact Nat.dvd_mul_left _ _
  · rcases List.mem_cons.mp hm with rfl | hm
    · exact Nat.dvd_mul_right _ _
    · cases hm
theorem two_bd : Bd ((lcmL ([(G300, 5), (2, 1)].map (·.1)) : Nat) : Int) := bd_2g300 (by have := two_lcm; omega)
theorem two_all {o : Sum (Nat × Nat) (Nat × Nat)} (R : AllR [(G300, 5), (2, 1)] o) : ∃ L x, o = .inr (L, x) ∧ x < L ∧ x % 2 = 1 ∧ 2 ∣ L ∧ L ≤ 2 * G300 := by
  match o, R with
  | .inl (i, j), ⟨h1, h2, h3, _⟩ =>
    have h2' : j < 2 := h2
    have ei : i = 0 := by omega
    have ej : j = 1 := by omega
    subst ei ej
    refine absurd (fun z w hz hw => ?_) h3
    cases hz
    cases hw
    have g : Nat.gcd G300 2 = 1 := by decide +kernel
    show ((5 : Int) - 1) % ((Nat.gcd G300 2 : Nat) : Int) = 0
    rw [g]
    decide
  | .inr (L, x), ⟨_, lx, eL, hA⟩ =>
    exact ⟨L, x, rfl, lx, hA (2, 1) (by simp), by rw [eL]; exact dvd_lcmL (by simp), by rw [eL]; exact two_lcm⟩
theorem three_good {L x : Nat} (lx : x < L) : ∀ z ∈ [(L, x), (4, 0)], z.2 < z.1 := fun z hz => by
  rcases List.mem_cons.mp hz with rfl | hz
  · exact lx
  · rw [List.mem_singleton] at hz
    subst hz
    decide
theorem three_bd {L x : Nat} (h : L ≤ 2 * G300) : Bd ((lcmL ([(L, x), (4, 0)].map (·.1)) : Nat) : Int) := by
  have e : lcmL ([(L, x), (4, 0)].map (·.1)) = Nat.lcm L 4 := by
    show Nat.lcm (Nat.lcm 1 L) 4 = _
    rw [Nat.lcm_eq_right (Nat.one_dvd L)]
  rw [e]
  by_cases h0 : L = 0
  · subst h0
    rw [Nat.lcm_zero_left]
    exact bd_small (by decide)
  · by_cases h2 : 2 ∣ L
    · obtain ⟨k, rfl⟩ := h2
      refine bd_2g300 (Nat.le_trans (Nat.le_of_dvd (by omega) (Nat.lcm_dvd (k := 2 * (2 * k)) (Nat.dvd_mul_left _ _) ⟨k, by omega⟩)) (by omega))
    · refine Nat.lt_of_le_of_lt (show _ ≤ 8 * G300 from ?_) (show 8 * G300 < 2 ^ 4000 by decide +kernel)
      have := Nat.le_of_dvd (by omega) (Nat.lcm_dvd (k := 4 * L) (Nat.dvd_mul_left L 4) (Nat.dvd_mul_right 4 L))
      omega
theorem three_all {L x : Nat} (lx : x < L) (hx : x % 2 = 1) (hL : 2 ∣ L) : AllR [(L, x), (4, 0)] (.inl (0, 1)) := by
  refine ⟨by decide, (by show 1 < 2; decide), fun f => ?_, fun i' j' h1 h2 h3 => absurd h3 (by omega)⟩
  have h : ((x : Int) - (0 : Nat)) % ((Nat.gcd L 4 : Nat) : Int) = 0 := f (L, x) (4, 0) rfl rfl
  have d : 2 ∣ Nat.gcd L 4 := Nat.dvd_gcd hL ⟨2, rfl⟩
  have h2 : ((2 : Nat) : Int) ∣ (x : Int) - (0 : Nat) := Int.dvd_trans (Int.natCast_dvd_natCast.mpr d) (Int.dvd_of_emod_eq_zero h)
  obtain ⟨k, hk⟩ := h2
  omega
theorem ok_law (T : Txt K mg) {f : Addr} {fd : FuncData} (F : Fun K "law" "law" s_law f fd) (c__law_source : Cal P w K mg base 1 "_law_source" (sp__law_source K) []) (c__law_great : Cal P w K mg base 2 "_law_great" (sp__law_great K) []) (c_meet_all : Cal P w K mg base 5 "meet_all" (sp_meet_all K) []) (c__law_pick : Cal P w K mg base 2 "_law_pick" (sp__law_pick K) []) (c__law_modulus : Cal P w K mg base 3 "_law_modulus" (sp__law_modulus K) []) (c__law_fits : Cal P w K mg base 6 "_law_fits" (sp__law_fits K) []) (c__law_draw : Cal P w K mg base 1 "_law_draw" (sp__law_draw K) []) : FnOk P w K mg base L2.CX0 7 f fd ["_law_script"] (sp_law K) := by
  refine F.ok sc_law (fun vs H Q E h => ?len) (fun cdv A outer s H vs Q E hr h => ?body)
  case len => first | (obtain ⟨rfl, _⟩ := h; rfl) | (obtain ⟨_, rfl, _⟩ := h; rfl) | (obtain ⟨_, _, rfl, _⟩ := h; rfl) | (obtain ⟨_, _, _, rfl, _⟩ := h; rfl) | (obtain ⟨_, _, _, _, rfl, _⟩ := h; rfl) | (obtain ⟨_, _, _, _, _, rfl, _⟩ := h; rfl) | (obtain ⟨_, _, _, _, _, _, rfl, _⟩ := h; rfl) | (obtain ⟨_, _, _, _, _, _, _, rfl, _⟩ := h; rfl) | (obtain ⟨_, _, _, _, _, _, _, _, rfl, _⟩ := h; rfl) | (obtain ⟨_, _, _, _, _, _, _, _, _, rfl, _⟩ := h; rfl) | (obtain ⟨_, _, _, _, _, _, _, _, _, _, rfl, _⟩ := h; rfl) | (obtain ⟨_, _, _, _, _, _, _, _, _, _, _, rfl, _⟩ := h; rfl) | (obtain ⟨_, _, _, _, _, _, _, _, _, _, _, _, rfl, _⟩ := h; rfl) | (obtain ⟨_, _, _, _, _, _, _, _, _, _, _, _, _, rfl, _⟩ := h; rfl) | (obtain ⟨_, _, _, _, _, _, _, _, _, _, _, _, _, _, rfl, _⟩ := h; rfl)
  case body =>
    refine ⟨_, (pss_cons (ps_set (i := 1) sc_law.nd rfl (Or.inl rfl) (pe_c c__law_source hr (by decide) (by rfl) (pa_cons (pv 0) pa_nil)))
      (pss_cons (ps_for PassesOwn.never rfl (pi_range1 (by rfl) T.b_range (pa_cons pe_int pa_nil)) (pg_name (i := 2) sc_law.nd rfl (Or.inl rfl))
      (pss_cons (ps_set (i := 3) sc_law.nd rfl (Or.inl rfl) (pe_c c__law_great hr (by decide) (by rfl) (pa_cons (pv 1) (pa_cons pe_int pa_nil))))
      (pss_cons (ps_set (i := 4) sc_law.nd rfl (Or.inl rfl) (pe_lst pa_nil))
      (pss_cons (ps_for PassesOwn.never rfl (pi_range1 (by rfl) T.b_range (pa_cons (pe_c c__law_pick hr (by decide) (by rfl) (pa_cons (pv 1) (pa_cons (pe_lst (pa_cons pe_int (pa_cons pe_int (pa_cons pe_int (pa_cons pe_int (pa_cons pe_int (pa_cons pe_int pa_nil))))))) pa_nil))) pa_nil)) (pg_name (i := 5) sc_law.nd rfl (Or.inl rfl))
      (pss_cons (ps_set (i := 6) sc_law.nd rfl (Or.inl rfl) (pe_c c__law_modulus hr (by decide) (by rfl) (pa_cons (pv 1) pa_nil)))
      (pss_one (ps_expr (pe_bm PySem.F.plainAttrs_list PySem.F.slot_list_append PySem.F.type_list_append mt_append (pv 4) (pa_cons (pe_tup (pa_cons (pv 6) (pa_cons (pe_op op_mod (pe_callTy My.call_intI (by rfl) T.b_int (by decide +kernel) (pa_cons (pv 3) pa_nil)) (pv 6)) pa_nil))) pa_nil))))))
      (pss_cons (ps_if (pt_not (pt_val (pe_c c__law_fits hr (by decide) (by rfl) (pa_cons (pv 4) pa_nil))))
      (pss_one (ps_ret pe_bl))
      pss_nil)
      (pss_one (ps_if (pt_cmpR (op_neD hr.units) (pv 4) (pe_lst pa_nil) (nomark _))
      (pss_cons (ps_for PassesOwn.never rfl (pi_range1 (by rfl) T.b_range (pa_cons (pe_op op_add pe_int (pe_c c__law_draw hr (by decide) (by rfl) (pa_cons (pv 1) (pa_cons pe_int pa_nil)))) pa_nil)) (pg_name (i := 5) sc_law.nd rfl (Or.inl rfl))
      (pss_cons (ps_set (i := 7) sc_law.nd rfl (Or.inl rfl) (pe_c c__law_draw hr (by decide) (by rfl) (pa_cons (pv 1) (pa_cons (pe_callB call_len_seq (by rfl) T.b_len (by decide +kernel) (pa_cons (pv 4) pa_nil)) pa_nil))))
      (pss_cons (ps_asg (pe_ix ix_list (pv 4) (pv 7) (fun _ _ => rfl)) (pg_tup (by rfl) (pgs_cons (pg_name (i := 6) sc_law.nd rfl (Or.inl rfl)) (pgs_cons (pg_name (i := 8) sc_law.nd rfl (Or.inl rfl)) pgs_nil))))
      (pss_one (ps_asg (pe_tup (pa_cons (pv 6) (pa_cons (pe_op op_mod (pe_callTy My.call_intI (by rfl) T.b_int (by decide +kernel) (pa_cons (pe_op op_add (pe_op op_add (pv 8) pe_int) (pe_c c__law_draw hr (by decide) (by rfl) (pa_cons (pv 1) (pa_cons pe_int pa_nil)))) pa_nil)) (pv 6)) pa_nil))) (pg_sub (pv 4) (pv 7) set_list))))))
      (pss_one (ps_if (PW.pt (pw_or (pt_not (pt_val (pe_c c__law_fits hr (by decide) (by rfl) (pa_cons (pv 4) pa_nil)))) (pw_or1 (pt_not (pt_val (pe_c c__law_fits hr (by decide) (by rfl) (pa_cons (pe_revL (pv 4)) pa_nil)))))))
      (pss_one (ps_ret pe_bl))
      pss_nil)))
      pss_nil)))))))
      (pss_cons (ps_set (i := 9) sc_law.nd rfl (Or.inl rfl) (pe_tup (pa_cons (pe_op op_add (pe_op My.op_powW (pe_op My.op_powW pe_int pe_int) pe_int) pe_int) (pa_cons pe_int pa_nil))))
      (pss_cons (ps_if (PW.pt (pw_or (pt_cmpR (op_neD hr.units) (pe_c c_meet_all hr (by decide) (by rfl) (pa_cons (pe_lst pa_nil) pa_nil)) (pe_tup (pa_cons pe_str (pa_cons (pe_tup (pa_cons pe_int (pa_cons pe_int pa_nil))) pa_nil))) (nomark _)) (pw_or1 (pt_cmpR (op_neD hr.units) (pe_c c_meet_all hr (by decide) (by rfl) (pa_cons (pe_lst (pa_cons (pv 9) pa_nil)) pa_nil)) (pe_tup (pa_cons pe_str (pa_cons (pv 9) pa_nil))) (nomark _)))))
      (pss_one (ps_ret pe_bl))
      pss_nil)
      (pss_cons (ps_if (pt_cmpR (op_neD hr.units) (pe_c c_meet_all hr (by decide) (by rfl) (pa_cons (pe_lst (pa_cons (pe_ix ix_tup (pe_c c_meet_all hr (by decide) (by rfl) (pa_cons (pe_lst (pa_cons (pv 9) (pa_cons (pe_tup (pa_cons pe_int (pa_cons pe_int pa_nil))) pa_nil))) pa_nil)) pe_int (fun _ _ => rfl)) (pa_cons (pe_tup (pa_cons pe_int (pa_cons pe_int pa_nil))) pa_nil))) pa_nil)) (pe_tup (pa_cons pe_str (pa_cons pe_int (pa_cons pe_int pa_nil)))) (nomark _))
      (pss_one (ps_ret pe_bl))
      pss_nil)
      (pss_cons (ps_if (pt_cmpR (op_neD hr.units) (pe_c c_meet_all hr (by decide) (by rfl) (pa_cons (pe_lst (pa_cons (pe_tup (pa_cons pe_int (pa_cons pe_int pa_nil))) (pa_cons (pe_tup (pa_cons pe_int (pa_cons pe_int pa_nil))) (pa_cons (pe_tup (pa_cons pe_int (pa_cons pe_int pa_nil))) pa_nil)))) pa_nil)) (pe_tup (pa_cons pe_str (pa_cons (pe_tup (pa_cons pe_int (pa_cons pe_int pa_nil))) pa_nil))) (nomark _))
      (pss_one (ps_ret pe_bl))
      pss_nil)
      (pss_cons (ps_if (pt_cmpR (op_neD hr.units) (pe_c c_meet_all hr (by decide) (by rfl) (pa_cons (pe_lst (pa_cons (pe_tup (pa_cons pe_int (pa_cons pe_int pa_nil))) (pa_cons (pe_tup (pa_cons pe_int (pa_cons pe_int pa_nil))) (pa_cons (pe_tup (pa_cons pe_int (pa_cons pe_int pa_nil))) (pa_cons (pe_tup (pa_cons pe_int (pa_cons pe_int pa_nil))) pa_nil))))) pa_nil)) (pe_tup (pa_cons pe_str (pa_cons pe_int (pa_cons pe_int pa_nil)))) (nomark _))
      (pss_one (ps_ret pe_bl))
      pss_nil)
      (pss_one (ps_ret (pe_cmpR (op_eqD hr.units) (pe_c c_meet_all hr (by decide) (by rfl) (pa_cons (pe_lst (pa_cons (pe_tup (pa_cons pe_int (pa_cons pe_int pa_nil))) (pa_cons (pe_tup (pa_cons pe_int (pa_cons pe_int pa_nil))) (pa_cons (pe_tup (pa_cons pe_int (pa_cons pe_int pa_nil))) pa_nil)))) pa_nil)) (pe_tup (pa_cons pe_str (pa_cons pe_int (pa_cons pe_int pa_nil)))) (nomark _))))))))))), ?_⟩
    obtain ⟨s0, ns, rfl, hS, hlen, q⟩ := h
    refine My.r_start (σ := [some _, none, none, none, none, none, none, none, none, none]) rfl ?_; walk_at "st"
    refine ⟨s0, ns, rfl, hS, hlen, fun a c H1 sm src _ _ => ?_⟩
    walk_at "st"
    refine r_rgL 20 rfl (by omega) ?_
    have hB : Big = 1152921504606846976 := by decide
    refine loop_range (fun i σ' H' => ∃ (x2 x3 x4 x5 x6 x7 x8 x9 : Option V) (t : Int), σ' = [some (.ref s0), some (.ref a), x2, x3, x4, x5, x6, x7, x8, x9] ∧ Src H' a c t ∧ t ≤ i * 10000) ⟨none, none, none, none, none, none, none, none, 0, rfl, src, by omega⟩ ?_ ?_
    · rintro i σ' H' hi ⟨x2, x3, x4, x5, x6, x7, x8, x9, t, rfl, hs, ht⟩
      walk_at "st"
      refine ⟨a, c, t, 30, rfl, hs, by omega, by decide, fun mk t1 H2 _ k1 hs1 a1 b1 => ?_⟩
      walk_at "st"
      refine r_sz (Nat.le_of_ble_eq_true rfl) fun l hl => ?_
      walk_at "st"
      have la := (hs1.ne_none hl).1
      have lc := (hs1.ne_none hl).2
      have hs2 := hs1.new (o := .lst []) hl
      refine r_sz (Nat.le_of_ble_eq_true rfl) fun pp hpp => ?_
      walk_at "st"
      have pa := (hs2.ne_none hpp).1
      have pc := (hs2.ne_none hpp).2
      refine ⟨a, c, t1, pp, _, rfl, hs2.new hpp, by omega, upd_same, pa, pc, by decide, by decide, fun x t2 H3 hx k3 hs3 a3 b3 => ?_⟩
      obtain ⟨n, rfl, hn⟩ : ∃ n : Nat, x = .int (n : Int) ∧ n ≤ 40 := by
        simp only [List.mem_cons, List.not_mem_nil, or_false] at hx
        rcases hx with rfl | rfl | rfl | rfl | rfl | rfl
        · exact ⟨0, rfl, by omega⟩
        · exact ⟨1, rfl, by omega⟩
        · exact ⟨2, rfl, by omega⟩
        · exact ⟨3, rfl, by omega⟩
        · exact ⟨8, rfl, by omega⟩
        · exact ⟨40, rfl, by omega⟩
      have hl3 : H3 l = some (.lst []) := k3 _ _ la lc ((Same.new hpp) _ _ upd_same)
      walk_at "st"
      refine r_rgL n rfl (by omega) ?_
      refine loop_range (fun k σ' H' => ∃ (y5 y6 : Option V) (xs : List V) (zs : List (Nat × Nat)) (t' : Int), σ' = [some (.ref s0), some (.ref a), some (.int (i : Int)), some (.int (mk : Int)), some (.ref l), y5, y6, x7, x8, x9] ∧ Src H' a c t' ∧ t2 ≤ t' ∧ t' ≤ t2 + k * 40 ∧ H' l = some (.lst xs) ∧ AllC K H' xs zs ∧ zs.length = k ∧ ∀ z ∈ zs, z.2 < z.1 ∧ z.1 ≤ E30)
        ⟨_, _, [], [], t2, rfl, hs3, by omega, by omega, hl3, AllC.nil, rfl, fun z h => absurd h List.not_mem_nil⟩ ?_ ?_
      · rintro k σ' H' hk ⟨y5, y6, xs, zs, t', rfl, hs', t3, t4, hl', hA, hk', hz⟩
        walk_at "st"
        refine ⟨a, c, t', rfl, hs', by omega, fun m t5 H5 m0 m1 k5 hs5 a5 b5 => ?_⟩
        walk_at "st"
        have hl5 := k5 _ _ la lc hl'
        refine r_app ⟨_, .of hl5⟩ ?_
        walk_at "st"
        have z0 := Int.emod_nonneg (mk : Int) (show (m : Int) ≠ 0 by omega)
        have z1 := Int.emod_lt_of_pos (mk : Int) (show (0 : Int) < (m : Int) by omega)
        refine r_sz (Nat.le_of_ble_eq_true rfl) fun p hp => ?_
        have hl6 := (Same.new (o := .tup [.int (m : Int), .int ((mk : Int) % (m : Int))]) hp) _ _ hl5
        walk_at "st"
        refine r_append hl6 (by rw [hA.1]; omega) ?_
        walk_at "st"
        have hA5 := (hA.keep k5 hs').same (Same.new (o := .tup [.int (m : Int), .int ((mk : Int) % (m : Int))]) hp)
        have hs6 := hs5.new (o := .tup [.int (m : Int), .int ((mk : Int) % (m : Int))]) hp
        have hc : IsC K (upd H5 p (.tup [.int (m : Int), .int ((mk : Int) % (m : Int))])) (.ref p) m (mk % m) := ⟨p, rfl, by rw [Int.natCast_emod]; exact .of upd_same⟩
        generalize upd H5 p (.tup [.int (m : Int), .int ((mk : Int) % (m : Int))]) = H6 at *
        have kp : Kept l H6 (upd H6 l (.lst (xs ++ [.ref p]))) := (Kept.refl l H6).upd
        have kk : Keep l l H6 (upd H6 l (.lst (xs ++ [.ref p]))) := fun b o h1 _ e => kp b o h1 e
        refine ⟨_, _, _, zs ++ [(m, mk % m)], t5, rfl, hs6.put la lc, by omega, by omega, upd_same, ?_, by rw [List.length_append, hk']; rfl, fun z hz' => ?_⟩
        · exact (hA5.kept kp hl6).snoc (hc.kept kp hl6)
        · rcases List.mem_append.mp hz' with h | h
          · exact hz z h
          · rw [List.mem_singleton] at h
            subst h
            exact ⟨Nat.mod_lt _ m0, m1⟩
      · rintro σ' H' ⟨y5, y6, xs, zs, t', rfl, hs', t3, t4, hl', hA, hk', hz⟩
        walk_at "st"
        have G : Good zs := ⟨by omega, hz⟩
        refine ⟨l, zs, rfl, ⟨xs, .of hl', hA⟩, G, fun H4 s4 => ?_⟩
        walk_at "st"
        have hs4 := hs'.same s4
        have hl4 := s4 _ _ hl'
        have hA4 := hA.same s4
        refine r_sz (by decide) fun p0 hp0 => ?_
        refine r_neD (dp_ls ((Same.new (o := .lst []) hp0).seq (.of hl4)) (hA4.same (Same.new hp0))) (dp_ls (zs := []) (.of upd_same) AllC.nil) shp_ls.ok shp_ls.ok ?_
        rw [eqv_list cdat_eqv]
        walk_at "st"
        have hs5 := hs4.new (o := .lst []) hp0
        have hl5 := (Same.new (o := .lst []) hp0) _ _ hl4
        have hA5 := hA4.same (Same.new (o := .lst []) hp0)
        generalize upd H4 p0 (.lst []) = H5 at *
        refine r_ndec (fun g => ?_) (fun g => ?_)
        · walk_at "st"
          have zp : 0 < zs.length := List.length_pos_iff.mpr g
          refine ⟨a, c, t', 3, rfl, hs5, by omega, by decide, bd_small (by decide), fun w t6 H6 w0 w1 k6 hs6 a6 b6 => ?_⟩
          walk_at "st"
          refine r_rgL (1 + w).toNat (by omega) (by omega) ?_
          refine loop_range (fun k σ' H' => ∃ (y5 y6 y7 y8 : Option V) (xs : List V) (zs : List (Nat × Nat)) (t'' : Int), σ' = [some (.ref s0), some (.ref a), some (.int (i : Int)), some (.int (mk : Int)), some (.ref l), y5, y6, y7, y8, x9] ∧ Src H' a c t'' ∧ t6 ≤ t'' ∧ t'' ≤ t6 + k * 2 ∧ H' l = some (.lst xs) ∧ AllC K H' xs zs ∧ 0 < zs.length ∧ Good zs)
            ⟨_, _, _, _, xs, zs, t6, rfl, hs6, by omega, by omega, k6 _ _ la lc hl5, hA5.keep k6 hs5, zp, G⟩ ?_ ?_
          · rintro k σ' H' hk ⟨y5, y6, y7, y8, xs, zs, t'', rfl, hs', t7, t8, hl', hA, zp, G⟩
            have hlen : xs.length = zs.length := hA.1
            walk_at "st"
            refine r_lenL (.of hl') ?_
            walk_at "st"
            have G1 := G.1
            refine ⟨a, c, t'', (xs.length : Int), rfl, hs', by omega, by omega, bd_small (by omega), fun r t9 H9 r0 r1 k9 hs9 a9 b9 => ?_⟩
            obtain ⟨j, rfl⟩ : ∃ j : Nat, r = (j : Int) := ⟨r.toNat, by omega⟩
            walk_at "st"
            obtain ⟨z, hz1⟩ := get_of (xs := zs) (j := j) (by omega)
            have hA9 := hA.keep k9 hs'
            have hl9 := k9 _ _ la lc hl'
            obtain ⟨v1, hv1, c1⟩ := hA9.at hz1
            have gz := G.2 z (List.mem_of_getElem? hz1)
            refine r_ixL (.of hl9) (atI_nat hv1) ?_
            walk_at "st"
            obtain ⟨pz, rfl, hpz⟩ := c1
            refine r_gtup hpz rfl ?_
            walk_at "st"
            refine ⟨a, c, t9, 12, rfl, hs9, by omega, by decide, bd_small (by decide), fun u t10 H10 u0 u1 k10 hs10 a10 b10 => ?_⟩
            walk_at "st"
            have z0 := Int.emod_nonneg ((z.2 : Int) + 1 + u) (show (z.1 : Int) ≠ 0 by omega)
            have z1 := Int.emod_lt_of_pos ((z.2 : Int) + 1 + u) (show (0 : Int) < (z.1 : Int) by omega)
            refine r_sz (Nat.le_of_ble_eq_true rfl) fun p hp => ?_
            walk_at "st"
            obtain ⟨r', hr'⟩ : ∃ r' : Nat, ((z.2 : Int) + 1 + u) % (z.1 : Int) = (r' : Int) := ⟨(((z.2 : Int) + 1 + u) % (z.1 : Int)).toNat, by omega⟩
            rw [hr'] at z1 ⊢
            have hl10 := (Same.new (o := .tup [.int (z.1 : Int), .int (r' : Int)]) hp) _ _ (k10 _ _ la lc hl9)
            have hA10 := (hA9.keep k10 hs9).same (Same.new (o := .tup [.int (z.1 : Int), .int (r' : Int)]) hp)
            have hs11 := hs10.new (o := .tup [.int (z.1 : Int), .int (r' : Int)]) hp
            have hc : IsC K (upd H10 p (.tup [.int (z.1 : Int), .int (r' : Int)])) (.ref p) z.1 r' := ⟨p, rfl, .of upd_same⟩
            generalize upd H10 p (.tup [.int (z.1 : Int), .int (r' : Int)]) = H11 at *
            refine r_setL hl10 (ixN_nat (by omega)) ?_
            have kp : Kept l H11 (upd H11 l (.lst (xs.set j (.ref p)))) := (Kept.refl l H11).upd
            refine ⟨_, _, _, _, _, zs.set j (z.1, r'), t10, rfl, hs11.put la lc, by omega, by omega, upd_same, ?_, by rw [List.length_set]; exact zp, by rw [List.length_set]; exact G.1, fun y hy => ?_⟩
            · exact (hA10.kept kp hl10).set j (z := (z.1, r')) (hc.kept kp hl10)
            · rcases List.mem_or_eq_of_mem_set hy with h | h
              · exact G.2 y h
              · subst h
                exact ⟨by show r' < z.1; omega, gz.2⟩
          · rintro σ' H' ⟨y5, y6, y7, y8, xs, zs, t'', rfl, hs', t7, t8, hl', hA, zp, G⟩
            walk_at "st"
            refine ⟨l, zs, rfl, ⟨xs, .of hl', hA⟩, G, fun H9 s9 => ?_⟩
            walk_at "st"
            refine ⟨l, xs, rfl, .of (s9 _ _ hl'), fun p hp => ?_⟩
            walk_at "st"
            refine ⟨p, zs.reverse, rfl, ⟨xs.reverse, .of upd_same, ((hA.same s9).same (Same.new hp)).rev⟩, ⟨by rw [List.length_reverse]; exact G.1, fun z hz => G.2 z (List.mem_reverse.mp hz)⟩, fun H10 s10 => ?_⟩
            walk_at "st"
            exact ⟨_, _, _, _, _, _, _, _, t'', rfl, (hs'.same s9).same ((Same.new hp).trans s10), by omega⟩
        · walk_at "st"
          exact ⟨_, _, _, _, _, _, _, _, t', rfl, hs5, by omega⟩
    · rintro σ' H' ⟨x2, x3, x4, x5, x6, x7, x8, x9, t, rfl, hs, ht⟩
      walk_at "st"
      rw [e300_eq]
      refine r_sz (Nat.le_of_ble_eq_true rfl) fun pg hpg => ?_
      walk_at "st"
      have hg : IsC K (upd H' pg (.tup [.int (G300 : Int), .int 5])) (.ref pg) G300 5 := ⟨pg, rfl, .of upd_same⟩
      generalize upd H' pg (.tup [.int (G300 : Int), .int 5]) = H0 at *
      refine r_sz (Nat.le_of_ble_eq_true rfl) fun p1 hp1 => ?_
      walk_at "st"
      have s1 : Same H0 (upd H0 p1 (.lst [])) := Same.new hp1
      have l1 : SqL K (upd H0 p1 (.lst [])) p1 [] := .of upd_same
      have hg := hg.same s1
      generalize upd H0 p1 (.lst []) = H1 at *
      have hl1 : LsC K H1 p1 [] := ⟨_, l1, AllC.nil⟩
      refine ⟨p1, [], rfl, hl1, Nat.le_of_ble_eq_true rfl, (good_all (by decide +kernel)), bd_small (by decide +kernel), fun v2 o2 H2 s2 R2 hv2 => ?_⟩
      walk_at "st"
      have hg := hg.same s2
      have e2 := all_one (good_all (by decide +kernel)) R2 (show AllR [] (.inr (1, 0)) from allB_ok (by decide +kernel))
      subst e2
      refine r_sz (Nat.le_of_ble_eq_true rfl) fun p3 hp3 => ?_
      walk_at "st"
      have s3 : Same H2 (upd H2 p3 (.tup [.int 1, .int 0])) := Same.new hp3
      have c3 : IsC K (upd H2 p3 (.tup [.int 1, .int 0])) (.ref p3) 1 0 := ⟨_, rfl, .of upd_same⟩
      have hg := hg.same s3
      have hv2 := hv2.same s3
      generalize upd H2 p3 (.tup [.int 1, .int 0]) = H3 at *
      refine r_sz (Nat.le_of_ble_eq_true rfl) fun p4 hp4 => ?_
      walk_at "st"
      have s4 : Same H3 (upd H3 p4 (.tup [.str "class", .ref p3])) := Same.new hp4
      have t4 : SqT K (upd H3 p4 (.tup [.str "class", .ref p3])) p4 [.str "class", .ref p3] := .of upd_same
      have hg := hg.same s4
      have hv2 := hv2.same s4
      have c3 := c3.same s4
      generalize upd H3 p4 (.tup [.str "class", .ref p3]) = H4 at *
      refine r_neD hv2.dp (AV.dp (o := .inr (1, 0)) ⟨_, _, rfl, t4, c3⟩) shp_adat.ok shp_adat.ok ?_
      rw [adat_refl]
      walk_at "st"
      refine r_sz (Nat.le_of_ble_eq_true rfl) fun p5 hp5 => ?_
      walk_at "st"
      have s5 : Same H4 (upd H4 p5 (.lst [.ref pg])) := Same.new hp5
      have l5 : SqL K (upd H4 p5 (.lst [.ref pg])) p5 [.ref pg] := .of upd_same
      have hg := hg.same s5
      have c3 := c3.same s5
      generalize upd H4 p5 (.lst [.ref pg]) = H5 at *
      have hl5 : LsC K H5 p5 [(G300, 5)] := ⟨_, l5, (AllC.cons (z := (G300, 5)) hg AllC.nil)⟩
      refine ⟨p5, [(G300, 5)], rfl, hl5, Nat.le_of_ble_eq_true rfl, one_good, one_bd, fun v6 o6 H6 s6 R6 hv6 => ?_⟩
      walk_at "st"
      have hg := hg.same s6
      have c3 := c3.same s6
      have e6 := all_one one_good R6 (show AllR [(G300, 5)] (.inr (G300, 5)) from one_all)
      subst e6
      refine r_sz (Nat.le_of_ble_eq_true rfl) fun p7 hp7 => ?_
      walk_at "st"
      have s7 : Same H6 (upd H6 p7 (.tup [.str "class", .ref pg])) := Same.new hp7
      have t7 : SqT K (upd H6 p7 (.tup [.str "class", .ref pg])) p7 [.str "class", .ref pg] := .of upd_same
      have hg := hg.same s7
      have c3 := c3.same s7
      have hv6 := hv6.same s7
      generalize upd H6 p7 (.tup [.str "class", .ref pg]) = H7 at *
      refine r_neD hv6.dp (AV.dp (o := .inr (G300, 5)) ⟨_, _, rfl, t7, hg⟩) shp_adat.ok shp_adat.ok ?_
      rw [adat_refl]
      walk_at "st"
      refine r_sz (Nat.le_of_ble_eq_true rfl) fun p8 hp8 => ?_
      walk_at "st"
      have s8 : Same H7 (upd H7 p8 (.tup [.int 2, .int 1])) := Same.new hp8
      have c8 : IsC K (upd H7 p8 (.tup [.int 2, .int 1])) (.ref p8) 2 1 := ⟨_, rfl, .of upd_same⟩
      have hg := hg.same s8
      generalize upd H7 p8 (.tup [.int 2, .int 1]) = H8 at *
      refine r_sz (Nat.le_of_ble_eq_true rfl) fun p9 hp9 => ?_
      walk_at "st"
      have s9 : Same H8 (upd H8 p9 (.lst [.ref pg, .ref p8])) := Same.new hp9
      have l9 : SqL K (upd H8 p9 (.lst [.ref pg, .ref p8])) p9 [.ref pg, .ref p8] := .of upd_same
      have hg := hg.same s9
      have c8 := c8.same s9
      generalize upd H8 p9 (.lst [.ref pg, .ref p8]) = H9 at *
      have hl9 : LsC K H9 p9 [(G300, 5), (2, 1)] := ⟨_, l9, (AllC.cons (z := (G300, 5)) hg (AllC.cons (z := (2, 1)) c8 AllC.nil))⟩
      refine ⟨p9, [(G300, 5), (2, 1)], rfl, hl9, Nat.le_of_ble_eq_true rfl, two_good, two_bd, fun v10 o10 H10 s10 R10 hv10 => ?_⟩
      walk_at "st"
      obtain ⟨L0, x0, eo, lx, hx2, hL2, bL⟩ := two_all R10
      subst eo
      obtain ⟨pr, vc, er, hpr, hcr⟩ := hv10
      subst er
      refine r_ixT hpr atI1 ?_
      walk_at "st"
      have hg := hg.same s10
      refine r_sz (Nat.le_of_ble_eq_true rfl) fun p11 hp11 => ?_
      walk_at "st"
      have s11 : Same H10 (upd H10 p11 (.tup [.int 4, .int 0])) := Same.new hp11
      have c11 : IsC K (upd H10 p11 (.tup [.int 4, .int 0])) (.ref p11) 4 0 := ⟨_, rfl, .of upd_same⟩
      have hcr := hcr.same s11
      have hg := hg.same s11
      generalize upd H10 p11 (.tup [.int 4, .int 0]) = H11 at *
      refine r_sz (Nat.le_of_ble_eq_true rfl) fun p12 hp12 => ?_
      walk_at "st"
      have s12 : Same H11 (upd H11 p12 (.lst [vc, .ref p11])) := Same.new hp12
      have l12 : SqL K (upd H11 p12 (.lst [vc, .ref p11])) p12 [vc, .ref p11] := .of upd_same
      have hcr := hcr.same s12
      have hg := hg.same s12
      have c11 := c11.same s12
      generalize upd H11 p12 (.lst [vc, .ref p11]) = H12 at *
      have hl12 : LsC K H12 p12 [(L0, x0), (4, 0)] := ⟨_, l12, (AllC.cons (z := (L0, x0)) hcr (AllC.cons (z := (4, 0)) c11 AllC.nil))⟩
      refine ⟨p12, [(L0, x0), (4, 0)], rfl, hl12, Nat.le_of_ble_eq_true rfl, (three_good lx), (three_bd bL), fun v13 o13 H13 s13 R13 hv13 => ?_⟩
      walk_at "st"
      have hcr := hcr.same s13
      have hg := hg.same s13
      have c11 := c11.same s13
      have e13 := all_one (three_good lx) R13 (show AllR [(L0, x0), (4, 0)] (.inl (0, 1)) from three_all lx hx2 hL2)
      subst e13
      refine r_sz (Nat.le_of_ble_eq_true rfl) fun p14 hp14 => ?_
      walk_at "st"
      have s14 : Same H13 (upd H13 p14 (.tup [.str "bar", .int 0, .int 1])) := Same.new hp14
      have t14 : AV K (upd H13 p14 (.tup [.str "bar", .int 0, .int 1])) (.ref p14) (.inl (0, 1)) := ⟨_, rfl, .of upd_same⟩
      have hcr := hcr.same s14
      have hg := hg.same s14
      have c11 := c11.same s14
      have hv13 := hv13.same s14
      generalize upd H13 p14 (.tup [.str "bar", .int 0, .int 1]) = H14 at *
      refine r_neD hv13.dp (AV.dp (o := .inl (0, 1)) t14) shp_adat.ok shp_adat.ok ?_
      rw [adat_refl]
      walk_at "st"
      refine r_sz (Nat.le_of_ble_eq_true rfl) fun p15 hp15 => ?_
      walk_at "st"
      have s15 : Same H14 (upd H14 p15 (.tup [.int 6, .int 1])) := Same.new hp15
      have c15 : IsC K (upd H14 p15 (.tup [.int 6, .int 1])) (.ref p15) 6 1 := ⟨_, rfl, .of upd_same⟩
      have hg := hg.same s15
      generalize upd H14 p15 (.tup [.int 6, .int 1]) = H15 at *
      refine r_sz (Nat.le_of_ble_eq_true rfl) fun p16 hp16 => ?_
      walk_at "st"
      have s16 : Same H15 (upd H15 p16 (.tup [.int 10, .int 1])) := Same.new hp16
      have c16 : IsC K (upd H15 p16 (.tup [.int 10, .int 1])) (.ref p16) 10 1 := ⟨_, rfl, .of upd_same⟩
      have hg := hg.same s16
      have c15 := c15.same s16
      generalize upd H15 p16 (.tup [.int 10, .int 1]) = H16 at *
      refine r_sz (Nat.le_of_ble_eq_true rfl) fun p17 hp17 => ?_
      walk_at "st"
      have s17 : Same H16 (upd H16 p17 (.tup [.int 15, .int 1])) := Same.new hp17
      have c17 : IsC K (upd H16 p17 (.tup [.int 15, .int 1])) (.ref p17) 15 1 := ⟨_, rfl, .of upd_same⟩
      have hg := hg.same s17
      have c15 := c15.same s17
      have c16 := c16.same s17
      generalize upd H16 p17 (.tup [.int 15, .int 1]) = H17 at *
      refine r_sz (Nat.le_of_ble_eq_true rfl) fun p18 hp18 => ?_
      walk_at "st"
      have s18 : Same H17 (upd H17 p18 (.lst [.ref p15, .ref p16, .ref p17])) := Same.new hp18
      have l18 : SqL K (upd H17 p18 (.lst [.ref p15, .ref p16, .ref p17])) p18 [.ref p15, .ref p16, .ref p17] := .of upd_same
      have hg := hg.same s18
      have c15 := c15.same s18
      have c16 := c16.same s18
      have c17 := c17.same s18
      generalize upd H17 p18 (.lst [.ref p15, .ref p16, .ref p17]) = H18 at *
      have hl18 : LsC K H18 p18 [(6, 1), (10, 1), (15, 1)] := ⟨_, l18, (AllC.cons (z := (6, 1)) c15 (AllC.cons (z := (10, 1)) c16 (AllC.cons (z := (15, 1)) c17 AllC.nil)))⟩
      refine ⟨p18, [(6, 1), (10, 1), (15, 1)], rfl, hl18, Nat.le_of_ble_eq_true rfl, (good_all (by decide +kernel)), bd_small (by decide +kernel), fun v19 o19 H19 s19 R19 hv19 => ?_⟩
      walk_at "st"
      have hg := hg.same s19
      have c15 := c15.same s19
      have c16 := c16.same s19
      have c17 := c17.same s19
      have e19 := all_one (good_all (by decide +kernel)) R19 (show AllR [(6, 1), (10, 1), (15, 1)] (.inr (30, 1)) from allB_ok (by decide +kernel))
      subst e19
      refine r_sz (Nat.le_of_ble_eq_true rfl) fun p20 hp20 => ?_
      walk_at "st"
      have s20 : Same H19 (upd H19 p20 (.tup [.int 30, .int 1])) := Same.new hp20
      have c20 : IsC K (upd H19 p20 (.tup [.int 30, .int 1])) (.ref p20) 30 1 := ⟨_, rfl, .of upd_same⟩
      have hg := hg.same s20
      have c15 := c15.same s20
      have c16 := c16.same s20
      have c17 := c17.same s20
      have hv19 := hv19.same s20
      generalize upd H19 p20 (.tup [.int 30, .int 1]) = H20 at *
      refine r_sz (Nat.le_of_ble_eq_true rfl) fun p21 hp21 => ?_
      walk_at "st"
      have s21 : Same H20 (upd H20 p21 (.tup [.str "class", .ref p20])) := Same.new hp21
      have t21 : SqT K (upd H20 p21 (.tup [.str "class", .ref p20])) p21 [.str "class", .ref p20] := .of upd_same
      have hg := hg.same s21
      have c15 := c15.same s21
      have c16 := c16.same s21
      have c17 := c17.same s21
      have hv19 := hv19.same s21
      have c20 := c20.same s21
      generalize upd H20 p21 (.tup [.str "class", .ref p20]) = H21 at *
      refine r_neD hv19.dp (AV.dp (o := .inr (30, 1)) ⟨_, _, rfl, t21, c20⟩) shp_adat.ok shp_adat.ok ?_
      rw [adat_refl]
      walk_at "st"
      refine r_sz (Nat.le_of_ble_eq_true rfl) fun p22 hp22 => ?_
      walk_at "st"
      have s22 : Same H21 (upd H21 p22 (.tup [.int 2, .int 0])) := Same.new hp22
      have c22 : IsC K (upd H21 p22 (.tup [.int 2, .int 0])) (.ref p22) 2 0 := ⟨_, rfl, .of upd_same⟩
      have hg := hg.same s22
      generalize upd H21 p22 (.tup [.int 2, .int 0]) = H22 at *
      refine r_sz (Nat.le_of_ble_eq_true rfl) fun p23 hp23 => ?_
      walk_at "st"
      have s23 : Same H22 (upd H22 p23 (.tup [.int 3, .int 0])) := Same.new hp23
      have c23 : IsC K (upd H22 p23 (.tup [.int 3, .int 0])) (.ref p23) 3 0 := ⟨_, rfl, .of upd_same⟩
      have hg := hg.same s23
      have c22 := c22.same s23
      generalize upd H22 p23 (.tup [.int 3, .int 0]) = H23 at *
      refine r_sz (Nat.le_of_ble_eq_true rfl) fun p24 hp24 => ?_
      walk_at "st"
      have s24 : Same H23 (upd H23 p24 (.tup [.int 3, .int 1])) := Same.new hp24
      have c24 : IsC K (upd H23 p24 (.tup [.int 3, .int 1])) (.ref p24) 3 1 := ⟨_, rfl, .of upd_same⟩
      have hg := hg.same s24
      have c22 := c22.same s24
      have c23 := c23.same s24
      generalize upd H23 p24 (.tup [.int 3, .int 1]) = H24 at *
      refine r_sz (Nat.le_of_ble_eq_true rfl) fun p25 hp25 => ?_
      walk_at "st"
      have s25 : Same H24 (upd H24 p25 (.tup [.int 2, .int 1])) := Same.new hp25
      have c25 : IsC K (upd H24 p25 (.tup [.int 2, .int 1])) (.ref p25) 2 1 := ⟨_, rfl, .of upd_same⟩
      have hg := hg.same s25
      have c22 := c22.same s25
      have c23 := c23.same s25
      have c24 := c24.same s25
      generalize upd H24 p25 (.tup [.int 2, .int 1]) = H25 at *
      refine r_sz (Nat.le_of_ble_eq_true rfl) fun p26 hp26 => ?_
      walk_at "st"
      have s26 : Same H25 (upd H25 p26 (.lst [.ref p22, .ref p23, .ref p24, .ref p25])) := Same.new hp26
      have l26 : SqL K (upd H25 p26 (.lst [.ref p22, .ref p23, .ref p24, .ref p25])) p26 [.ref p22, .ref p23, .ref p24, .ref p25] := .of upd_same
      have hg := hg.same s26
      have c22 := c22.same s26
      have c23 := c23.same s26
      have c24 := c24.same s26
      have c25 := c25.same s26
      generalize upd H25 p26 (.lst [.ref p22, .ref p23, .ref p24, .ref p25]) = H26 at *
      have hl26 : LsC K H26 p26 [(2, 0), (3, 0), (3, 1), (2, 1)] := ⟨_, l26, (AllC.cons (z := (2, 0)) c22 (AllC.cons (z := (3, 0)) c23 (AllC.cons (z := (3, 1)) c24 (AllC.cons (z := (2, 1)) c25 AllC.nil))))⟩
      refine ⟨p26, [(2, 0), (3, 0), (3, 1), (2, 1)], rfl, hl26, Nat.le_of_ble_eq_true rfl, (good_all (by decide +kernel)), bd_small (by decide +kernel), fun v27 o27 H27 s27 R27 hv27 => ?_⟩
      walk_at "st"
      have hg := hg.same s27
      have c22 := c22.same s27
      have c23 := c23.same s27
      have c24 := c24.same s27
      have c25 := c25.same s27
      have e27 := all_one (good_all (by decide +kernel)) R27 (show AllR [(2, 0), (3, 0), (3, 1), (2, 1)] (.inl (0, 3)) from allB_ok (by decide +kernel))
      subst e27
      refine r_sz (Nat.le_of_ble_eq_true rfl) fun p28 hp28 => ?_
      walk_at "st"
      have s28 : Same H27 (upd H27 p28 (.tup [.str "bar", .int 0, .int 3])) := Same.new hp28
      have t28 : AV K (upd H27 p28 (.tup [.str "bar", .int 0, .int 3])) (.ref p28) (.inl (0, 3)) := ⟨_, rfl, .of upd_same⟩
      have hg := hg.same s28
      have c22 := c22.same s28
      have c23 := c23.same s28
      have c24 := c24.same s28
      have c25 := c25.same s28
      have hv27 := hv27.same s28
      generalize upd H27 p28 (.tup [.str "bar", .int 0, .int 3]) = H28 at *
      refine r_neD hv27.dp (AV.dp (o := .inl (0, 3)) t28) shp_adat.ok shp_adat.ok ?_
      rw [adat_refl]
      walk_at "st"
      refine r_sz (Nat.le_of_ble_eq_true rfl) fun p29 hp29 => ?_
      walk_at "st"
      have s29 : Same H28 (upd H28 p29 (.tup [.int 4, .int 1])) := Same.new hp29
      have c29 : IsC K (upd H28 p29 (.tup [.int 4, .int 1])) (.ref p29) 4 1 := ⟨_, rfl, .of upd_same⟩
      have hg := hg.same s29
      generalize upd H28 p29 (.tup [.int 4, .int 1]) = H29 at *
      refine r_sz (Nat.le_of_ble_eq_true rfl) fun p30 hp30 => ?_
      walk_at "st"
      have s30 : Same H29 (upd H29 p30 (.tup [.int 9, .int 2])) := Same.new hp30
      have c30 : IsC K (upd H29 p30 (.tup [.int 9, .int 2])) (.ref p30) 9 2 := ⟨_, rfl, .of upd_same⟩
      have hg := hg.same s30
      have c29 := c29.same s30
      generalize upd H29 p30 (.tup [.int 9, .int 2]) = H30 at *
      refine r_sz (Nat.le_of_ble_eq_true rfl) fun p31 hp31 => ?_
      walk_at "st"
      have s31 : Same H30 (upd H30 p31 (.tup [.int 6, .int 0])) := Same.new hp31
      have c31 : IsC K (upd H30 p31 (.tup [.int 6, .int 0])) (.ref p31) 6 0 := ⟨_, rfl, .of upd_same⟩
      have hg := hg.same s31
      have c29 := c29.same s31
      have c30 := c30.same s31
      generalize upd H30 p31 (.tup [.int 6, .int 0]) = H31 at *
      refine r_sz (Nat.le_of_ble_eq_true rfl) fun p32 hp32 => ?_
      walk_at "st"
      have s32 : Same H31 (upd H31 p32 (.lst [.ref p29, .ref p30, .ref p31])) := Same.new hp32
      have l32 : SqL K (upd H31 p32 (.lst [.ref p29, .ref p30, .ref p31])) p32 [.ref p29, .ref p30, .ref p31] := .of upd_same
      have hg := hg.same s32
      have c29 := c29.same s32
      have c30 := c30.same s32
      have c31 := c31.same s32
      generalize upd H31 p32 (.lst [.ref p29, .ref p30, .ref p31]) = H32 at *
      have hl32 : LsC K H32 p32 [(4, 1), (9, 2), (6, 0)] := ⟨_, l32, (AllC.cons (z := (4, 1)) c29 (AllC.cons (z := (9, 2)) c30 (AllC.cons (z := (6, 0)) c31 AllC.nil)))⟩
      refine ⟨p32, [(4, 1), (9, 2), (6, 0)], rfl, hl32, Nat.le_of_ble_eq_true rfl, (good_all (by decide +kernel)), bd_small (by decide +kernel), fun v33 o33 H33 s33 R33 hv33 => ?_⟩
      walk_at "st"
      have hg := hg.same s33
      have c29 := c29.same s33
      have c30 := c30.same s33
      have c31 := c31.same s33
      have e33 := all_one (good_all (by decide +kernel)) R33 (show AllR [(4, 1), (9, 2), (6, 0)] (.inl (0, 2)) from allB_ok (by decide +kernel))
      subst e33
      refine r_sz (Nat.le_of_ble_eq_true rfl) fun p34 hp34 => ?_
      walk_at "st"
      have s34 : Same H33 (upd H33 p34 (.tup [.str "bar", .int 0, .int 2])) := Same.new hp34
      have t34 : AV K (upd H33 p34 (.tup [.str "bar", .int 0, .int 2])) (.ref p34) (.inl (0, 2)) := ⟨_, rfl, .of upd_same⟩
      have hg := hg.same s34
      have c29 := c29.same s34
      have c30 := c30.same s34
      have c31 := c31.same s34
      have hv33 := hv33.same s34
      generalize upd H33 p34 (.tup [.str "bar", .int 0, .int 2]) = H34 at *
      refine r_eqDD hv33.dp (AV.dp (o := .inl (0, 2)) t34) shp_adat.ok shp_adat.ok ?_
      rw [adat_refl]
      exact q _

theorem all_mk {P : Program} {w : World} {K : PySem.W.Frag} {h : Heap} {mg : Str → Option Value} {fa : Addr} (X : K.In h) (G : h.Ns mainGlobals mg) (hfa : mg "law" = some (.ref fa))
    {f0 f1 f2 f3 f4 f5 f6 f7 f8 f9 f10 f11 f12 f13 f14 f15 f16 f17 f18 f19 f20 f21 : Addr} {od0 an0 od1 an1 od2 an2 od3 an3 od4 an4 od5 an5 od6 an6 od7 an7 od8 an8 od9 an9 od10 an10 od11 an11 od12 an12 od13 an13 od14 an14 od15 an15 od16 an16 od17 an17 od18 an18 od19 an19 od20 an20 od21 an21 : Option Addr} {sl0 sl1 sl2 sl3 sl4 sl5 sl6 sl7 sl8 sl9 sl10 sl11 sl12 sl13 sl14 sl15 sl16 sl17 sl18 sl19 sl20 sl21 : Array (Option Value)} {oc0 kV0 dc0 pm0 cd0 ct0 oc1 kV1 dc1 pm1 cd1 ct1 oc2 kV2 dc2 pm2 cd2 ct2 oc3 kV3 dc3 pm3 cd3 ct3 oc4 kV4 dc4 pm4 cd4 ct4 oc5 kV5 dc5 pm5 cd5 ct5 oc6 kV6 dc6 pm6 cd6 ct6 oc7 kV7 dc7 pm7 cd7 ct7 oc8 kV8 dc8 pm8 cd8 ct8 oc9 kV9 dc9 pm9 cd9 ct9 oc10 kV10 dc10 pm10 cd10 ct10 oc11 kV11 dc11 pm11 cd11 ct11 oc12 kV12 dc12 pm12 cd12 ct12 oc13 kV13 dc13 pm13 cd13 ct13 oc14 kV14 dc14 pm14 cd14 ct14 oc15 kV15 dc15 pm15 cd15 ct15 oc16 kV16 dc16 pm16 cd16 ct16 oc17 kV17 dc17 pm17 cd17 ct17 oc18 kV18 dc18 pm18 cd18 ct18 oc19 kV19 dc19 pm19 cd19 ct19 oc20 kV20 dc20 pm20 cd20 ct20 oc21 kV21 dc21 pm21 cd21 ct21 : Value}
    (a0 : PySem.W.nsIn K mainGlobals "_law_source" = some (some (.ref f0))) (l0 : K.lookup f0 = some ⟨oc0, od0, .func (PySem.W.fnOf "_law_source" "_law_source" (defArgs s__law_source) (defBody s__law_source) (defScope s__law_source) .none kV0 dc0 pm0 an0 cd0 ct0), sl0⟩) (c0 : PySem.W.codeIn K cd0 "_law_source" = true) (k0 : PySem.W.keepIn K (.ref f0) = true)
    (a1 : PySem.W.nsIn K mainGlobals "_law_draw" = some (some (.ref f1))) (l1 : K.lookup f1 = some ⟨oc1, od1, .func (PySem.W.fnOf "_law_draw" "_law_draw" (defArgs s__law_draw) (defBody s__law_draw) (defScope s__law_draw) .none kV1 dc1 pm1 an1 cd1 ct1), sl1⟩) (c1 : PySem.W.codeIn K cd1 "_law_draw" = true) (k1 : PySem.W.keepIn K (.ref f1) = true)
    (a2 : PySem.W.nsIn K mainGlobals "is_integer" = some (some (.ref f2))) (l2 : K.lookup f2 = some ⟨oc2, od2, .func (PySem.W.fnOf "is_integer" "is_integer" (defArgs s_is_integer) (defBody s_is_integer) (defScope s_is_integer) .none kV2 dc2 pm2 an2 cd2 ct2), sl2⟩) (c2 : PySem.W.codeIn K cd2 "is_integer" = true) (k2 : PySem.W.keepIn K (.ref f2) = true)
    (a3 : PySem.W.nsIn K mainGlobals "inverse" = some (some (.ref f3))) (l3 : K.lookup f3 = some ⟨oc3, od3, .func (PySem.W.fnOf "inverse" "inverse" (defArgs s_inverse) (defBody s_inverse) (defScope s_inverse) .none kV3 dc3 pm3 an3 cd3 ct3), sl3⟩) (c3 : PySem.W.codeIn K cd3 "inverse" = true) (k3 : PySem.W.keepIn K (.ref f3) = true)
    (a4 : PySem.W.nsIn K mainGlobals "lies_in" = some (some (.ref f4))) (l4 : K.lookup f4 = some ⟨oc4, od4, .func (PySem.W.fnOf "lies_in" "lies_in" (defArgs s_lies_in) (defBody s_lies_in) (defScope s_lies_in) .none kV4 dc4 pm4 an4 cd4 ct4), sl4⟩) (c4 : PySem.W.codeIn K cd4 "lies_in" = true) (k4 : PySem.W.keepIn K (.ref f4) = true)
    (a5 : PySem.W.nsIn K mainGlobals "is_class" = some (some (.ref f5))) (l5 : K.lookup f5 = some ⟨oc5, od5, .func (PySem.W.fnOf "is_class" "is_class" (defArgs s_is_class) (defBody s_is_class) (defScope s_is_class) .none kV5 dc5 pm5 an5 cd5 ct5), sl5⟩) (c5 : PySem.W.codeIn K cd5 "is_class" = true) (k5 : PySem.W.keepIn K (.ref f5) = true)
    (a6 : PySem.W.nsIn K mainGlobals "check_class" = some (some (.ref f6))) (l6 : K.lookup f6 = some ⟨oc6, od6, .func (PySem.W.fnOf "check_class" "check_class" (defArgs s_check_class) (defBody s_check_class) (defScope s_check_class) .none kV6 dc6 pm6 an6 cd6 ct6), sl6⟩) (c6 : PySem.W.codeIn K cd6 "check_class" = true) (k6 : PySem.W.keepIn K (.ref f6) = true)
    (a7 : PySem.W.nsIn K mainGlobals "have_common" = some (some (.ref f7))) (l7 : K.lookup f7 = some ⟨oc7, od7, .func (PySem.W.fnOf "have_common" "have_common" (defArgs s_have_common) (defBody s_have_common) (defScope s_have_common) .none kV7 dc7 pm7 an7 cd7 ct7), sl7⟩) (c7 : PySem.W.codeIn K cd7 "have_common" = true) (k7 : PySem.W.keepIn K (.ref f7) = true)
    (a8 : PySem.W.nsIn K mainGlobals "common_class" = some (some (.ref f8))) (l8 : K.lookup f8 = some ⟨oc8, od8, .func (PySem.W.fnOf "common_class" "common_class" (defArgs s_common_class) (defBody s_common_class) (defScope s_common_class) .none kV8 dc8 pm8 an8 cd8 ct8), sl8⟩) (c8 : PySem.W.codeIn K cd8 "common_class" = true) (k8 : PySem.W.keepIn K (.ref f8) = true)
    (a9 : PySem.W.nsIn K mainGlobals "meet" = some (some (.ref f9))) (l9 : K.lookup f9 = some ⟨oc9, od9, .func (PySem.W.fnOf "meet" "meet" (defArgs s_meet) (defBody s_meet) (defScope s_meet) .none kV9 dc9 pm9 an9 cd9 ct9), sl9⟩) (c9 : PySem.W.codeIn K cd9 "meet" = true) (k9 : PySem.W.keepIn K (.ref f9) = true)
    (a10 : PySem.W.nsIn K mainGlobals "is_within" = some (some (.ref f10))) (l10 : K.lookup f10 = some ⟨oc10, od10, .func (PySem.W.fnOf "is_within" "is_within" (defArgs s_is_within) (defBody s_is_within) (defScope s_is_within) .none kV10 dc10 pm10 an10 cd10 ct10), sl10⟩) (c10 : PySem.W.codeIn K cd10 "is_within" = true) (k10 : PySem.W.keepIn K (.ref f10) = true)
    (a11 : PySem.W.nsIn K mainGlobals "_law_divisor" = some (some (.ref f11))) (l11 : K.lookup f11 = some ⟨oc11, od11, .func (PySem.W.fnOf "_law_divisor" "_law_divisor" (defArgs s__law_divisor) (defBody s__law_divisor) (defScope s__law_divisor) .none kV11 dc11 pm11 an11 cd11 ct11), sl11⟩) (c11 : PySem.W.codeIn K cd11 "_law_divisor" = true) (k11 : PySem.W.keepIn K (.ref f11) = true)
    (a12 : PySem.W.nsIn K mainGlobals "_law_great" = some (some (.ref f12))) (l12 : K.lookup f12 = some ⟨oc12, od12, .func (PySem.W.fnOf "_law_great" "_law_great" (defArgs s__law_great) (defBody s__law_great) (defScope s__law_great) .none kV12 dc12 pm12 an12 cd12 ct12), sl12⟩) (c12 : PySem.W.codeIn K cd12 "_law_great" = true) (k12 : PySem.W.keepIn K (.ref f12) = true)
    (a13 : PySem.W.nsIn K mainGlobals "_law_modulus" = some (some (.ref f13))) (l13 : K.lookup f13 = some ⟨oc13, od13, .func (PySem.W.fnOf "_law_modulus" "_law_modulus" (defArgs s__law_modulus) (defBody s__law_modulus) (defScope s__law_modulus) .none kV13 dc13 pm13 an13 cd13 ct13), sl13⟩) (c13 : PySem.W.codeIn K cd13 "_law_modulus" = true) (k13 : PySem.W.keepIn K (.ref f13) = true)
    (a14 : PySem.W.nsIn K mainGlobals "_law_lies" = some (some (.ref f14))) (l14 : K.lookup f14 = some ⟨oc14, od14, .func (PySem.W.fnOf "_law_lies" "_law_lies" (defArgs s__law_lies) (defBody s__law_lies) (defScope s__law_lies) .none kV14 dc14 pm14 an14 cd14 ct14), sl14⟩) (c14 : PySem.W.codeIn K cd14 "_law_lies" = true) (k14 : PySem.W.keepIn K (.ref f14) = true)
    (a15 : PySem.W.nsIn K mainGlobals "check_classes" = some (some (.ref f15))) (l15 : K.lookup f15 = some ⟨oc15, od15, .func (PySem.W.fnOf "check_classes" "check_classes" (defArgs s_check_classes) (defBody s_check_classes) (defScope s_check_classes) .none kV15 dc15 pm15 an15 cd15 ct15), sl15⟩) (c15 : PySem.W.codeIn K cd15 "check_classes" = true) (k15 : PySem.W.keepIn K (.ref f15) = true)
    (a16 : PySem.W.nsIn K mainGlobals "first_bar" = some (some (.ref f16))) (l16 : K.lookup f16 = some ⟨oc16, od16, .func (PySem.W.fnOf "first_bar" "first_bar" (defArgs s_first_bar) (defBody s_first_bar) (defScope s_first_bar) .none kV16 dc16 pm16 an16 cd16 ct16), sl16⟩) (c16 : PySem.W.codeIn K cd16 "first_bar" = true) (k16 : PySem.W.keepIn K (.ref f16) = true)
    (a17 : PySem.W.nsIn K mainGlobals "meet_all" = some (some (.ref f17))) (l17 : K.lookup f17 = some ⟨oc17, od17, .func (PySem.W.fnOf "meet_all" "meet_all" (defArgs s_meet_all) (defBody s_meet_all) (defScope s_meet_all) .none kV17 dc17 pm17 an17 cd17 ct17), sl17⟩) (c17 : PySem.W.codeIn K cd17 "meet_all" = true) (k17 : PySem.W.keepIn K (.ref f17) = true)
    (a18 : PySem.W.nsIn K mainGlobals "_law_pick" = some (some (.ref f18))) (l18 : K.lookup f18 = some ⟨oc18, od18, .func (PySem.W.fnOf "_law_pick" "_law_pick" (defArgs s__law_pick) (defBody s__law_pick) (defScope s__law_pick) .none kV18 dc18 pm18 an18 cd18 ct18), sl18⟩) (c18 : PySem.W.codeIn K cd18 "_law_pick" = true) (k18 : PySem.W.keepIn K (.ref f18) = true)
    (a19 : PySem.W.nsIn K mainGlobals "_law_first_bar" = some (some (.ref f19))) (l19 : K.lookup f19 = some ⟨oc19, od19, .func (PySem.W.fnOf "_law_first_bar" "_law_first_bar" (defArgs s__law_first_bar) (defBody s__law_first_bar) (defScope s__law_first_bar) .none kV19 dc19 pm19 an19 cd19 ct19), sl19⟩) (c19 : PySem.W.codeIn K cd19 "_law_first_bar" = true) (k19 : PySem.W.keepIn K (.ref f19) = true)
    (a20 : PySem.W.nsIn K mainGlobals "_law_fits" = some (some (.ref f20))) (l20 : K.lookup f20 = some ⟨oc20, od20, .func (PySem.W.fnOf "_law_fits" "_law_fits" (defArgs s__law_fits) (defBody s__law_fits) (defScope s__law_fits) .none kV20 dc20 pm20 an20 cd20 ct20), sl20⟩) (c20 : PySem.W.codeIn K cd20 "_law_fits" = true) (k20 : PySem.W.keepIn K (.ref f20) = true)
    (a21 : PySem.W.nsIn K mainGlobals "law" = some (some (.ref f21))) (l21 : K.lookup f21 = some ⟨oc21, od21, .func (PySem.W.fnOf "law" "law" (defArgs s_law) (defBody s_law) (defScope s_law) .none kV21 dc21 pm21 an21 cd21 ct21), sl21⟩) (c21 : PySem.W.codeIn K cd21 "law" = true) (k21 : PySem.W.keepIn K (.ref f21) = true)
    (z_abs : PySem.W.nsIn K mainGlobals "abs" = some none)
    (z_bool : PySem.W.nsIn K mainGlobals "bool" = some none)
    (z_divmod : PySem.W.nsIn K mainGlobals "divmod" = some none)
    (z_int : PySem.W.nsIn K mainGlobals "int" = some none)
    (z_isinstance : PySem.W.nsIn K mainGlobals "isinstance" = some none)
    (z_len : PySem.W.nsIn K mainGlobals "len" = some none)
    (z_list : PySem.W.nsIn K mainGlobals "list" = some none)
    (z_range : PySem.W.nsIn K mainGlobals "range" = some none)
    (z_tuple : PySem.W.nsIn K mainGlobals "tuple" = some none)
    {t_MOST_TO_MEET : Tok} (z_MOST_TO_MEET : PySem.W.nsIn K mainGlobals "MOST_TO_MEET" = some (some (.int 40 t_MOST_TO_MEET)))
    (z_gcd : PySem.W.nsIn K mainGlobals "gcd" = some (some (.builtin "math.gcd")))
    : ∃ fd : FuncData, (∀ (s : Shared) (v : Value), BindsTo s fd ⟨[v], []⟩ [("_law_script", v)]) ∧ ∀ base : Heap, K.In base → base.Ns mainGlobals mg → FnOk P w K mg base L2.CX0 7 fa fd ["_law_script"] (sp_law K) := by
  have T : Txt K mg := ⟨My.has_mk X G a0 l0 c0 k0 (by intro _ _ _ _ _ _ us hl; exact (match us, hl with | [_], _ => rfl)), My.has_mk X G a1 l1 c1 k1 (by intro _ _ _ _ _ _ us hl; exact (match us, hl with | [_, _], _ => rfl)), My.has_mk X G a2 l2 c2 k2 (by intro _ _ _ _ _ _ us hl; exact (match us, hl with | [_], _ => rfl)), My.has_mk X G a3 l3 c3 k3 (by intro _ _ _ _ _ _ us hl; exact (match us, hl with | [_, _], _ => rfl)), My.has_mk X G a4 l4 c4 k4 (by intro _ _ _ _ _ _ us hl; exact (match us, hl with | [_, _], _ => rfl)), My.has_mk X G a5 l5 c5 k5 (by intro _ _ _ _ _ _ us hl; exact (match us, hl with | [_], _ => rfl)), My.has_mk X G a6 l6 c6 k6 (by intro _ _ _ _ _ _ us hl; exact (match us, hl with | [_], _ => rfl)), My.has_mk X G a7 l7 c7 k7 (by intro _ _ _ _ _ _ us hl; exact (match us, hl with | [_, _], _ => rfl)), My.has_mk X G a8 l8 c8 k8 (by intro _ _ _ _ _ _ us hl; exact (match us, hl with | [_, _], _ => rfl)), My.has_mk X G a9 l9 c9 k9 (by intro _ _ _ _ _ _ us hl; exact (match us, hl with | [_, _], _ => rfl)), My.has_mk X G a10 l10 c10 k10 (by intro _ _ _ _ _ _ us hl; exact (match us, hl with | [_, _], _ => rfl)), My.has_mk X G a11 l11 c11 k11 (by intro _ _ _ _ _ _ us hl; exact (match us, hl with | [_, _], _ => rfl)), My.has_mk X G a12 l12 c12 k12 (by intro _ _ _ _ _ _ us hl; exact (match us, hl with | [_, _], _ => rfl)), My.has_mk X G a13 l13 c13 k13 (by intro _ _ _ _ _ _ us hl; exact (match us, hl with | [_], _ => rfl)), My.has_mk X G a14 l14 c14 k14 (by intro _ _ _ _ _ _ us hl; exact (match us, hl with | [_, _], _ => rfl)), My.has_mk X G a15 l15 c15 k15 (by intro _ _ _ _ _ _ us hl; exact (match us, hl with | [_, _], _ => rfl)), My.has_mk X G a16 l16 c16 k16 (by intro _ _ _ _ _ _ us hl; exact (match us, hl with | [_], _ => rfl)), My.has_mk X G a17 l17 c17 k17 (by intro _ _ _ _ _ _ us hl; exact (match us, hl with | [_], _ => rfl)), My.has_mk X G a18 l18 c18 k18 (by intro _ _ _ _ _ _ us hl; exact (match us, hl with | [_, _], _ => rfl)), My.has_mk X G a19 l19 c19 k19 (by intro _ _ _ _ _ _ us hl; exact (match us, hl with | [_], _ => rfl)), My.has_mk X G a20 l20 c20 k20 (by intro _ _ _ _ _ _ us hl; exact (match us, hl with | [_], _ => rfl)), My.has_mk X G a21 l21 c21 k21 (by intro _ _ _ _ _ _ us hl; exact (match us, hl with | [_], _ => rfl)), PySem.W.mg_none_of X G z_abs, PySem.W.mg_none_of X G z_bool, PySem.W.mg_none_of X G z_divmod, PySem.W.mg_none_of X G z_int, PySem.W.mg_none_of X G z_isinstance, PySem.W.mg_none_of X G z_len, PySem.W.mg_none_of X G z_list, PySem.W.mg_none_of X G z_range, PySem.W.mg_none_of X G z_tuple, ⟨_, PySem.W.mg_of X G z_MOST_TO_MEET, _, rfl⟩, PySem.W.mg_of X G z_gcd⟩
  have e := hfa.symm.trans (PySem.W.mg_of X G a21)
  cases e
  refine ⟨PySem.W.fnOf "law" "law" (defArgs s_law) (defBody s_law) (defScope s_law) .none kV21 dc21 pm21 an21 cd21 ct21, fun s v => .of_eq rfl, fun base _ _ => ?_⟩
  have c__law_source : Cal P w K mg base 1 "_law_source" (sp__law_source K) [] := cal__law_source T 
  have c__law_draw : Cal P w K mg base 1 "_law_draw" (sp__law_draw K) [] := cal__law_draw T 
  have c_is_integer : Cal P w K mg base 1 "is_integer" (sp_is_integer K) [] := cal_is_integer T 
  have c_inverse : Cal P w K mg base 1 "inverse" (sp_inverse K) [] := cal_inverse T 
  have c_lies_in : Cal P w K mg base 1 "lies_in" (sp_lies_in K) [] := cal_lies_in T 
  have c_is_class : Cal P w K mg base 2 "is_class" (sp_is_class K) [] := cal_is_class T c_is_integer
  have c_check_class : Cal P w K mg base 3 "check_class" (sp_check_class K) [] := cal_check_class T c_is_class
  have c_have_common : Cal P w K mg base 1 "have_common" (sp_have_common K) [] := cal_have_common T 
  have c_common_class : Cal P w K mg base 2 "common_class" (sp_common_class K) [] := cal_common_class T c_have_common c_inverse
  have c_meet : Cal P w K mg base 4 "meet" (sp_meet K) [] := cal_meet T c_check_class c_common_class
  have c_is_within : Cal P w K mg base 4 "is_within" (sp_is_within K) [] := cal_is_within T c_check_class c_lies_in
  have c__law_divisor : Cal P w K mg base 1 "_law_divisor" (sp__law_divisor K) [] := cal__law_divisor T 
  have c__law_great : Cal P w K mg base 2 "_law_great" (sp__law_great K) [] := cal__law_great T c__law_draw
  have c__law_modulus : Cal P w K mg base 3 "_law_modulus" (sp__law_modulus K) [] := cal__law_modulus T c__law_draw c__law_great
  have c__law_lies : Cal P w K mg base 1 "_law_lies" (sp__law_lies K) [] := cal__law_lies T 
  have c_check_classes : Cal P w K mg base 4 "check_classes" (sp_check_classes K) [] := cal_check_classes T c_check_class
  have c_first_bar : Cal P w K mg base 2 "first_bar" (sp_first_bar K) [] := cal_first_bar T c_have_common
  have c_meet_all : Cal P w K mg base 5 "meet_all" (sp_meet_all K) [] := cal_meet_all T c_check_classes c_first_bar c_common_class
  have c__law_pick : Cal P w K mg base 2 "_law_pick" (sp__law_pick K) [] := cal__law_pick T c__law_draw
  have c__law_first_bar : Cal P w K mg base 2 "_law_first_bar" (sp__law_first_bar K) [] := cal__law_first_bar T c__law_divisor
  have c__law_fits : Cal P w K mg base 6 "_law_fits" (sp__law_fits K) [] := cal__law_fits T c_meet_all c__law_first_bar c_meet c__law_divisor c__law_lies c_is_within
  exact ok_law T (fun_mk (st := s_law) l21 c21 k21) c__law_source c__law_great c_meet_all c__law_pick c__law_modulus c__law_fits c__law_draw
end My
open PySem PySem.W PyProof.Rows
set_option maxHeartbeats 0 in
theorem PySem.Challenge.cw_bymarks_k03_whole_lists_of_classes_holds : PySem.Challenge.rw_bymarks_k03_whole_lists_of_classes.Holds := by
  w_on; o_law; k_head; (case hw => w_witness2)
  k_fill
  refine L2.walk_of (l := PySem.Challenge.rw_bymarks_k03_whole_lists_of_classes) (n := 63) (k := 7) (x := "_law_script") (CX := fun _ => L2.CX0) (sp := fun w => My.sp_law _) rfl (by decide) rfl ⟨rfl, by decide, by decide⟩ (fun w h Y => PySem.W.kIn_of Y) ?F (fun w H a ns hl hO hS => My.law_start hl hO hS) (fun _ _ _ _ _ h => h)
  case F =>
    intro w mg fa h KX G hmg
    refine' My.all_mk KX G hmg ?a0 ?l0 ?c0 ?k0 ?a1 ?l1 ?c1 ?k1 ?a2 ?l2 ?c2 ?k2 ?a3 ?l3 ?c3 ?k3 ?a4 ?l4 ?c4 ?k4 ?a5 ?l5 ?c5 ?k5 ?a6 ?l6 ?c6 ?k6 ?a7 ?l7 ?c7 ?k7 ?a8 ?l8 ?c8 ?k8 ?a9 ?l9 ?c9 ?k9 ?a10 ?l10 ?c10 ?k10 ?a11 ?l11 ?c11 ?k11 ?a12 ?l12 ?c12 ?k12 ?a13 ?l13 ?c13 ?k13 ?a14 ?l14 ?c14 ?k14 ?a15 ?l15 ?c15 ?k15 ?a16 ?l16 ?c16 ?k16 ?a17 ?l17 ?c17 ?k17 ?a18 ?l18 ?c18 ?k18 ?a19 ?l19 ?c19 ?k19 ?a20 ?l20 ?c20 ?k20 ?a21 ?l21 ?c21 ?k21 ?z_abs ?z_bool ?z_divmod ?z_int ?z_isinstance ?z_len ?z_list ?z_range ?z_tuple ?z_MOST_TO_MEET ?z_gcd
    (case a0 => k_is)
    (case l0 => k_is)
    (case c0 => k_is)
    (case k0 => k_is)
    (case a1 => k_is)
    (case l1 => k_is)
    (case c1 => k_is)
    (case k1 => k_is)
    (case a2 => k_is)
    (case l2 => k_is)
    (case c2 => k_is)
    (case k2 => k_is)
    (case a3 => k_is)
    (case l3 => k_is)
    (case c3 => k_is)
    (case k3 => k_is)
    (case a4 => k_is)
    (case l4 => k_is)
    (case c4 => k_is)
    (case k4 => k_is)
    (case a5 => k_is)
    (case l5 => k_is)
    (case c5 => k_is)
    (case k5 => k_is)
    (case a6 => k_is)
    (case l6 => k_is)
    (case c6 => k_is)
    (case k6 => k_is)
    (case a7 => k_is)
    (case l7 => k_is)
    (case c7 => k_is)
    (case k7 => k_is)
    (case a8 => k_is)
    (case l8 => k_is)
    (case c8 => k_is)
    (case k8 => k_is)
    (case a9 => k_is)
    (case l9 => k_is)
    (case c9 => k_is)
    (case k9 => k_is)
    (case a10 => k_is)
    (case l10 => k_is)
    (case c10 => k_is)
    (case k10 => k_is)
    (case a11 => k_is)
    (case l11 => k_is)
    (case c11 => k_is)
    (case k11 => k_is)
    (case a12 => k_is)
    (case l12 => k_is)
    (case c12 => k_is)
    (case k12 => k_is)
    (case a13 => k_is)
    (case l13 => k_is)
    (case c13 => k_is)
    (case k13 => k_is)
    (case a14 => k_is)
    (case l14 => k_is)
    (case c14 => k_is)
    (case k14 => k_is)
    (case a15 => k_is)
    (case l15 => k_is)
    (case c15 => k_is)
    (case k15 => k_is)
    (case a16 => k_is)
    (case l16 => k_is)
    (case c16 => k_is)
    (case k16 => k_is)
    (case a17 => k_is)
    (case l17 => k_is)
    (case c17 => k_is)
    (case k17 => k_is)
    (case a18 => k_is)
    (case l18 => k_is)
    (case c18 => k_is)
    (case k18 => k_is)
    (case a19 => k_is)
    (case l19 => k_is)
    (case c19 => k_is)
    (case k19 => k_is)
    (case a20 => k_is)
    (case l20 => k_is)
    (case c20 => k_is)
    (case k20 => k_is)
    (case a21 => k_is)
    (case l21 => k_is)
    (case c21 => k_is)
    (case k21 => k_is)
    (case z_abs => k_is)
    (case z_bool => k_is)
    (case z_divmod => k_is)
    (case z_int => k_is)
    (case z_isinstance => k_is)
    (case z_len => k_is)
    (case z_list => k_is)
    (case z_range => k_is)
    (case z_tuple => k_is)
    (case z_MOST_TO_MEET => k_is)
    (case z_gcd => k_is)
