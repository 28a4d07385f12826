import PyProof.Rows.All
import Wide.All
import OpenK.AllK
import Wide.FinOn
import PySem.Challenge.RW_bymarks_k42_whole_sums
import HandS.ForMost
import HandS.Codes
import HandS.Wide
import HandS.WideBits
import HandS.Gcd
import HandS.IsInst
import HandS.NoneIn
import HandS.Style
import HandS.ExcValue
import HandS.ExcIs
import HandS.ExcInit
import HandS.ExcOwn
import HandS.WordsExc
import HandS.RaiseMore
import HandS.FStr
import HandS.TupAny
import HandS.TupMul
import HandS.Deep
import HandS.Walk
set_option Elab.async false
set_option linter.all false
set_option maxRecDepth 100000
set_option maxHeartbeats 4000000
/-! own text: rules beside the layer's, steps over readings, heaps that are kept, a law's source of numbers -/
namespace My
open PySem PySem.Spec PyProof.Rows L2
open C8 (Cal pe_c pe_gc)
/-! ### rules -/
def CPowW (i j : Int) : Prop := 0 ≤ j ∧ (Builtin.Int.intBits i : Int) * j ≤ 2 ^ 27
section
variable {X : Cx}
theorem op_powW : OpR X (binaryOp .Pow) (rI CPowW fun i j => .int (i ^ j.toNat)) := opI fun _ _ _ _ _ _ _ hc q => pow_int hc.1 hc.2 q
theorem call_divmodB : CallR X (.builtin "divmod") (fun xs H Q => ∃ i j, xs = [.int i, .int j] ∧ CDivW i j ∧ ∀ p, H p = none → Q (.ref p) (upd H p (.tup [.int (i / j), .int (i % j)]))) := by
  intro pins s σ H xs us Q I r h
  obtain ⟨i, j, rfl, hc, q⟩ := h
  exact call_divmodW pins s σ H _ us Q I r ⟨i, j, rfl, ⟨hc.1, PyProof.noPylong_of_log2 hc.2⟩, q⟩
theorem call_intI : CallR X (.type "int") (fun xs H Q => ∃ i, xs = [.int i] ∧ Q (.int i) H) := by
  intro pins s σ H xs us Q I r h
  exact call_int1 pins s σ H xs us Q I r (.inl h)
theorem call_absI : CallR X (.builtin "abs") (fun xs H Q => ∃ i, xs = [.int i] ∧ Q (.int (i.natAbs : Int)) H) := by
  intro pins s σ H xs us Q I r h
  obtain ⟨i, e, q⟩ := h
  refine call_abs pins s σ H xs us Q I r ⟨i, e, ?_⟩
  have e2 : (if i < 0 then -i else i) = (i.natAbs : Int) := by split <;> omega
  rw [e2]
  exact q
theorem ix_tupK {K : PySem.W.Frag} (h : X.K = K := by rfl) : IxR X (rIxT K) := by subst h; exact ix_tup
theorem ix_listK {K : PySem.W.Frag} (h : X.K = K := by rfl) : IxR X (rIxL K) := by subst h; exact ix_list
theorem call_intB : CallR X (.type "int") (fun xs H Q => ∃ k : Bool, xs = [.bl k] ∧ Q (.int (if k then 1 else 0)) H) := by
  intro pins s σ H xs us Q I r h
  exact call_int1 pins s σ H xs us Q I r (.inr h)
end
/-! ### a def of the text, by its name -/
def Has (K : PySem.W.Frag) (mg : Str → Option Value) (x : Str) (st : Stmt) (ps : List Str) : Prop := ∃ (f : Addr) (fd : FuncData), Fun K x x st f fd ∧ mg x = some (.ref f) ∧ Binds K fd ps []
section
variable {P : Program} {w : World} {K : PySem.W.Frag} {mg : Str → Option Value} {base : Heap}
theorem mkCal {x : Str} {st : Stmt} {f : Addr} {fd : FuncData} {N ps : List Str} {k : Nat} {sp : Sp} (F : Fun K x x st f fd) (gF : mg x = some (.ref f)) (b : Binds K fd ps []) (S : FnScope N ps (defScope st)) (len : ∀ vs H Q E, sp vs H Q E → vs.length = ps.length)
    (hbody : ∀ (cdv : Value) (A : Around) (outer : List Env) (s : Shared) (H : Hp) (vs : List V) (Q : VK) (E : XK), Room k (A.deeper (envOfC x (defScope st) s.heap.objs.size f cdv)) → sp vs H Q E →
      ∃ t, PSs (cxOf CX0 P w K mg base N x (defScope st) f cdv A outer s H E).nox (defBody st) t ∧ t { nx := fun _ H' => Q .non H', rt := Q } (start N vs) H) : Cal P w K mg base (k + 1) x sp [] :=
  ⟨f, fd, ps, [], F.ok S len hbody, gF, F.kp, b, .nil⟩
theorem has_mk {x : Str} {st : Stmt} {h : Heap} {f : Addr} {oc : Value} {od an : Option Addr} {osl : Array (Option Value)} {kV doc pm cdv ct : Value} {ps : List Str} (X : K.In h) (G : h.Ns mainGlobals mg)
    (a : PySem.W.nsIn K mainGlobals x = some (some (.ref f))) (l : K.lookup f = some ⟨oc, od, .func (PySem.W.fnOf x x (defArgs st) (defBody st) (defScope st) .none kV doc pm an cdv ct), osl⟩)
    (c : PySem.W.codeIn K cdv x = true) (k : PySem.W.keepIn K (.ref f) = true)
    (hb : ∀ (kV doc pm : Value) (an : Option Addr) (cdv ct : Value) (us : List Value), us.length = ps.length → bindArgs (PySem.W.fnOf x x (defArgs st) (defBody st) (defScope st) .none kV doc pm an cdv ct) ⟨us, []⟩ = pure (ps.zip us)) : Has K mg x st ps :=
  ⟨f, _, fun_mk (st := st) l c k, PySem.W.mg_of X G a, (fun_mk (st := st) l c k).binds hb⟩
end
/-! ### steps over readings -/
section
variable {σ : L2.St} {H : Hp} {D : Ends} {Q : VK} {K : PySem.W.Frag} {ta tb te tc : TE} {t u : TS} {c c' : TT} {g : TG}
theorem r_seq (h : t { D with nx := u D } σ H) : tSeq t u D σ H := h
theorem r_nx {f : L2.St → Hp → Prop} {r b e} (h : f σ H) : Ends.nx ⟨f, r, b, e⟩ σ H := h
theorem r_rt {f : V → Hp → Prop} {n b e} {v : V} (h : f v H) : Ends.rt ⟨n, f, b, e⟩ v H := h
theorem r_bk {f : L2.St → Hp → Prop} {n r e} (h : f σ H) : Ends.bk ⟨n, r, f, e⟩ σ H := h
theorem r_ct {f : L2.St → Hp → Prop} {n r b} (h : f σ H) : Ends.ct ⟨n, r, b, f⟩ σ H := h
theorem r_next (h : D.nx σ H) : tNext D σ H := h
theorem r_asg (h : te σ H fun x H1 => g x σ H1 D.nx) : tAsg te g D σ H := h
theorem r_name {i : Nat} {v : V} {R : L2.St → Hp → Prop} (h : R (σ.set i (some v)) H) : gName i v σ H R := h
theorem r_ret (h : te σ H D.rt) : tRet te D σ H := h
theorem r_drop (h : te σ H fun _ H1 => D.nx σ H1) : tDrop te D σ H := h
theorem r_ifS (h : c σ H fun b H1 => if b = true then t D σ H1 else u D σ H1) : tIfS c t u D σ H := h
theorem r_test {R : Bool → Hp → Prop} (h : te σ H fun x H' => ∃ k, x = .bl k ∧ R k H') : tTest te σ H R := h
theorem r_tB {R : Bool → Hp → Prop} (h : te σ H fun x H' => ∃ k, x = .bl k ∧ R k H') : tB te σ H R := h
theorem r_isbl {b : Bool} {R : Bool → Prop} (h : R b) : ∃ k, V.bl b = .bl k ∧ R k := ⟨b, rfl, h⟩
theorem r_and {R : Bool → Hp → Prop} (h : c σ H fun b H1 => if b = true then c' σ H1 R else R false H1) : tAnd c c' σ H R := h
theorem r_or {R : Bool → Hp → Prop} (h : c σ H fun b H1 => if b = true then R true H1 else c' σ H1 R) : tOr c c' σ H R := h
theorem r_not {R : Bool → Hp → Prop} (h : c σ H fun b H1 => R (!b) H1) : tNot c σ H R := h
theorem r_var {i : Nat} {v : V} (e : σ[i]? = some (some v)) (h : Q v H) : tVar i σ H Q := ⟨v, e, h⟩
theorem r_c {v : V} (h : Q v H) : tC v σ H Q := h
theorem r_op {r : R2} (h : ta σ H fun x H1 => tb σ H1 fun y H2 => r x y H2 Q) : tOp r ta tb σ H Q := h
theorem r_un {r : V → Hp → VK → Prop} (h : ta σ H fun x H1 => r x H1 Q) : tUn r ta σ H Q := h
theorem r_I0 {f : Int → Int → V} {i j : Int} (h : Q (f i j) H) : rI0 f (.int i) (.int j) H Q := ⟨i, j, rfl, rfl, h⟩
theorem r_I {C : Int → Int → Prop} {f : Int → Int → V} {i j : Int} (hc : C i j) (h : Q (f i j) H) : rI C f (.int i) (.int j) H Q := ⟨i, j, rfl, rfl, hc, h⟩
theorem r_U {f : Int → V} {i : Int} (h : Q (f i) H) : rU f (.int i) H Q := ⟨i, rfl, h⟩
theorem r_eq {x y : V} (hs : scal x y = true) (h : Q (.bl (decide (x = y))) H) : rEq x y H Q := ⟨hs, h⟩
theorem r_ne {x y : V} (hs : scal x y = true) (h : Q (.bl (!decide (x = y))) H) : rNe x y H Q := ⟨hs, h⟩
theorem r_eqI {i j : Int} (h : Q (.bl (decide (i = j))) H) : rEq (.int i) (.int j) H Q := by
  refine ⟨rfl, ?_⟩
  rw [show decide (V.int i = V.int j) = decide (i = j) by rw [dec_int]; exact Bool.beq_eq_decide_eq i j]
  exact h
theorem r_neI {i j : Int} (h : Q (.bl (!decide (i = j))) H) : rNe (.int i) (.int j) H Q := by
  refine ⟨rfl, ?_⟩
  rw [show decide (V.int i = V.int j) = decide (i = j) by rw [dec_int]; exact Bool.beq_eq_decide_eq i j]
  exact h
theorem r_nil {R : List V → Hp → Prop} (h : R [] H) : tNil σ H R := h
theorem r_cons {tr : TA} {R : List V → Hp → Prop} (h : ta σ H fun x H1 => tr σ H1 fun xs H2 => R (x :: xs) H2) : tCons ta tr σ H R := h
theorem r_tup {tr : TA} (h : tr σ H fun xs H1 => xs.length ≤ sizeLine ∧ ∀ p, H1 p = none → Q (.ref p) (upd H1 p (.tup xs))) : tTup tr σ H Q := h
theorem r_lst {tr : TA} (h : tr σ H fun xs H1 => xs.length ≤ sizeLine ∧ ∀ p, H1 p = none → Q (.ref p) (upd H1 p (.lst xs))) : tLst tr σ H Q := h
theorem r_call {sp : Sp} {dvs : List V} {E : XK} {tr : TA} (h : tr σ H fun vs H1 => sp (vs ++ dvs) H1 Q E) : tCall sp dvs E tr σ H Q := h
theorem r_cb {r : List V → Hp → VK → Prop} {tr : TA} (h : tr σ H fun vs H1 => r vs H1 Q) : tCB r tr σ H Q := h
theorem r_ixL {p : Addr} {xs : List V} {i : Int} {v : V} (hs : SqL K H p xs) (ha : atI xs i = some v) (h : Q v H) : rIxL K (.ref p) (.int i) H Q := ⟨p, xs, i, v, rfl, rfl, hs, ha, h⟩
theorem r_ixT {p : Addr} {xs : List V} {i : Int} {v : V} (hs : SqT K H p xs) (ha : atI xs i = some v) (h : Q v H) : rIxT K (.ref p) (.int i) H Q := ⟨p, xs, i, v, rfl, rfl, hs, ha, h⟩
theorem r_andV (h : ta σ H fun x H1 => ∃ c, x = .bl c ∧ if c = true then tb σ H1 Q else Q (.bl false) H1) : tAndV ta tb σ H Q := h
theorem r_orV (h : ta σ H fun x H1 => ∃ c, x = .bl c ∧ if c = true then Q (.bl true) H1 else tb σ H1 Q) : tOrV ta tb σ H Q := h
theorem r_notV (h : ta σ H fun x H1 => ∃ c, x = .bl c ∧ Q (.bl (!c)) H1) : tNotV ta σ H Q := h
theorem r_ite {p A B : Prop} [Decidable p] (h1 : p → A) (h2 : ¬ p → B) : if p then A else B := by
  by_cases h : p
  · rw [if_pos h]; exact h1 h
  · rw [if_neg h]; exact h2 h
theorem r_dec {p A B : Prop} [Decidable p] (h1 : p → A) (h2 : ¬ p → B) : if decide p = true then A else B := by
  by_cases h : p
  · rw [decide_eq_true h]; exact h1 h
  · rw [decide_eq_false h]; exact h2 h
theorem r_ndec {p A B : Prop} [Decidable p] (h1 : ¬ p → A) (h2 : p → B) : if (!decide p) = true then A else B := by
  by_cases h : p
  · rw [decide_eq_true h]; exact h2 h
  · rw [decide_eq_false h]; exact h1 h
theorem r_T {A B : Prop} (h : A) : if true = true then A else B := h
theorem r_F {A B : Prop} (h : B) : if false = true then A else B := by rw [if_neg Bool.false_ne_true]; exact h
theorem r_nT {A B : Prop} (h : B) : if (!true) = true then A else B := r_F h
theorem r_nF {A B : Prop} (h : A) : if (!false) = true then A else B := h
theorem r_sl {r : V → Option Int → Option Int → Hp → VK → Prop} {tl th : TO} (h : te σ H fun x H1 => tl σ H1 fun l H2 => th σ H2 fun u H3 => r x l u H3 Q) : L2.tSl r te tl th σ H Q := h
theorem r_slL {p : Addr} {xs : List V} {lo hi : Option Int} (hs : SqL K H p xs) (h : ∀ q, H q = none → Q (.ref q) (upd H q (.lst (cutV xs lo hi)))) : rSlL K (.ref p) lo hi H Q := ⟨p, xs, rfl, hs, h⟩
theorem r_par {i j : Nat} {tr : TA} (h : tr σ H fun vs H1 => ∃ v w, vs = [v, w] ∧ D.nx ((σ.set i (some v)).set j (some w)) H1) : tPar i j tr D σ H := h
theorem r_sub {to ti : TE} {ts : TSet} {v : V} {R : L2.St → Hp → Prop} (h : to σ H fun o H1 => ti σ H1 fun i H2 => ts o i v H2 fun H3 => R σ H3) : gSub to ti ts v σ H R := h
theorem r_setL {p : Addr} {xs : List V} {k : Int} {j : Nat} {v : V} {R : Hp → Prop} (hp : H p = some (.lst xs)) (hj : ixN xs.length k = some j) (h : R (upd H p (.lst (xs.set j v)))) : rSetL (.ref p) (.int k) v H R := ⟨p, xs, k, j, rfl, rfl, hp, hj, h⟩
theorem r_int {i : Int} {R : Int → Prop} (h : R i) : ∃ i', [V.int i] = [V.int i'] ∧ R i' := ⟨i, rfl, h⟩
theorem r_int2 {i j : Int} {R : Int → Int → Prop} (h : R i j) : ∃ i' j', [V.int i, V.int j] = [V.int i', V.int j'] ∧ R i' j' := ⟨i, j, rfl, h⟩
theorem r_gtup {n : Nat} {tg : TGs} {p : Addr} {xs : List V} {R : L2.St → Hp → Prop} (hs : SqT K H p xs) (hl : xs.length = n) (h : tg xs σ H R) : gTup K n tg (.ref p) σ H R := ⟨p, xs, rfl, hs, hl, h⟩
theorem r_gunl {n : Nat} {tg : TGs} {p : Addr} {xs : List V} {R : L2.St → Hp → Prop} (hs : SqL K H p xs) (hl : xs.length = n) (h : tg xs σ H R) : gUnl K n tg (.ref p) σ H R := ⟨p, xs, rfl, hs, hl, h⟩
theorem r_gcons {tg : TG} {us : TGs} {v : V} {r : List V} {R : L2.St → Hp → Prop} (h : tg v σ H fun σ' H' => us r σ' H' R) : gCons tg us (v :: r) σ H R := ⟨v, r, rfl, h⟩
theorem r_gnil {R : L2.St → Hp → Prop} (h : R σ H) : gNil [] σ H R := ⟨rfl, h⟩
theorem r_chain {r r' : R2} (h : ta σ H fun x H1 => tb σ H1 fun y H2 => r x y H2 fun z H3 => ∃ k, z = .bl k ∧ (if k = true then tc σ H3 fun w' H4 => r' y w' H4 Q else Q (.bl false) H3)) : tChain r r' ta tb tc σ H Q := h
theorem r_tuple2 {v w : V} {R : V → V → Prop} (h : R v w) : ∃ v' w', [v, w] = [v', w'] ∧ R v' w' := ⟨v, w, rfl, h⟩
end
theorem r_start {N : List Str} {vs : List V} {σ : L2.St} {H : Hp} {D : Ends} {t : TS} (e : L2.start N vs = σ) (h : t D σ H) : t D (L2.start N vs) H := by rw [e]; exact h
section
variable {σ : L2.St} {H : Hp} {te : TE}
theorem r_part {R : Option Int → Hp → Prop} (h : te σ H fun x H1 => ∃ i, x = .int i ∧ R (some i) H1) : tPart te σ H R := h
theorem r_nopart {R : Option Int → Hp → Prop} (h : R none H) : tNoPart σ H R := h
theorem r_isint {i : Int} {R : Int → Prop} (h : R i) : ∃ k, V.int i = .int k ∧ R k := ⟨i, rfl, h⟩
end
theorem r_lenL {K : PySem.W.Frag} {H : Hp} {p : Addr} {ys : List V} {R : List V → Prop} (hs : SqL K H p ys) (h : R ys) : ∃ p' ys', [V.ref p] = [V.ref p'] ∧ (SqL K H p' ys' ∨ SqT K H p' ys') ∧ R ys' := ⟨p, ys, rfl, .inl hs, h⟩
theorem r_lenT {K : PySem.W.Frag} {H : Hp} {p : Addr} {ys : List V} {R : List V → Prop} (hs : SqT K H p ys) (h : R ys) : ∃ p' ys', [V.ref p] = [V.ref p'] ∧ (SqL K H p' ys' ∨ SqT K H p' ys') ∧ R ys' := ⟨p, ys, rfl, .inr hs, h⟩
theorem r_sz {n : Nat} {R : Prop} (hn : n ≤ 16777216) (h : R) : n ≤ sizeLine ∧ R := ⟨Nat.le_trans hn (by decide), h⟩
theorem r_eqD {K : PySem.W.Frag} {H : Hp} {x y : V} {d e : PyData} {R : PyData → PyData → Prop} (hd : Dp K H x d) (he : Dp K H y e) (h1 : SeqAt.shaped d = true) (h2 : SeqAt.shaped e = true) (h : R d e) :
    ∃ d' e', Dp K H x d' ∧ Dp K H y e' ∧ SeqAt.shaped d' = true ∧ SeqAt.shaped e' = true ∧ R d' e' := ⟨d, e, hd, he, h1, h2, h⟩
theorem r_non {R : Prop} (h : R) : V.non = V.non ∧ R := ⟨rfl, h⟩
theorem r_neB {H : Hp} {Q : VK} {a b : Bool} (h : Q (.bl (!decide (a = b))) H) : rNe (.bl a) (.bl b) H Q := by
  refine ⟨rfl, ?_⟩
  rw [show decide (V.bl a = V.bl b) = decide (a = b) from decide_eq_decide.mpr ⟨fun e => V.bl.inj e, fun e => by rw [e]⟩]
  exact h
theorem r_eqB {H : Hp} {Q : VK} {a b : Bool} (h : Q (.bl (decide (a = b))) H) : rEq (.bl a) (.bl b) H Q := by
  refine ⟨rfl, ?_⟩
  rw [show decide (V.bl a = V.bl b) = decide (a = b) from decide_eq_decide.mpr ⟨fun e => V.bl.inj e, fun e => by rw [e]⟩]
  exact h
theorem cx_K {CX : CXT} {P : Program} {w : World} {K : PySem.W.Frag} {mg : Str → Option Value} {base : Heap} {N : List Str} {qual : Str} {scope : Scope} {f : Addr} {cd : Value} {A : Around} {outer : List Env} {s : Shared} {H : Hp} {E : XK} :
    (cxOf CX P w K mg base N qual scope f cd A outer s H E).K = K := rfl
/-! ### loops -/
def LoopW (J : It) (g : TG) (ts : TS) (D : Ends) (σ : L2.St) (H : Hp) : Prop := ∃ W : Nat → Nat → L2.St → Hp → Prop, (∃ m, W 0 m σ H) ∧ ∀ i m σ H, W i m σ H →
  (J.stop i H ∧ D.nx σ H) ∨ (J.go i H ∧ ∃ N : L2.St → Hp → Prop, (∀ σ' H', N σ' H' → ∃ m', m' < m ∧ W (i + 1) m' σ' H') ∧ ∀ x H', J.yld i H x H' → g x σ H' fun σ2 H2 => ts { D with nx := N, ct := N, bk := D.nx } σ2 H2)
def LcW (J : It) (g : TG) (tt : TT) (te : TE) (vs : List Nat) (σ : L2.St) (H1 : Hp) (Dl : Addr) (Qd : Hp → Prop) : Prop := ∃ W : Nat → Nat → Hp → Prop, (∃ m, W 0 m (upd H1 Dl (.lst []))) ∧ ∀ i m H, W i m H →
  (J.stop i H ∧ Qd H) ∨ (J.go i H ∧ ∃ Nx : Hp → Prop, (∀ H', Nx H' → ∃ m', m' < m ∧ W (i + 1) m' H') ∧ ∀ x H', J.yld i H x H' → g x (wipe σ vs) H' fun σ2 H2 => wipe σ2 vs = wipe σ vs ∧ tt σ2 H2 fun b H3 =>
    if b = true then te σ2 H3 fun y H4 => ∃ acc, H4 Dl = some (.lst acc) ∧ acc.length < sizeLine ∧ Nx (upd H4 Dl (.lst (acc ++ [y]))) else Nx H3)
section
variable {σ : L2.St} {H : Hp} {D : Ends} {Q : VK} {K : PySem.W.Frag} {ta : TA} {tl tb te : TE} {ts : TS} {c tt : TT} {g : TG} {wi : TI} {vs : List Nat}
theorem r_for (h : wi σ H fun J H1 => LoopW J g ts D σ H1) : tFor wi g ts D σ H := h
theorem r_lc (h : wi σ H fun J H1 => ∀ Dl, H1 Dl = none → LcW J g tt te vs σ H1 Dl fun H' => Q (.ref Dl) H') : tLc wi g tt te vs σ H Q := h
theorem r_rng1 {R : It → Hp → Prop} (h : ta σ H fun us H1 => ∃ j : Int, us = [.int j] ∧ -(2 ^ 62) ≤ j ∧ j < 2 ^ 62 ∧ R (Itr 0 j.toNat) H1) : iRng1 ta σ H R := h
theorem r_rng2 {R : It → Hp → Prop} (h : ta σ H fun us H1 => ∃ i j : Int, us = [.int i, .int j] ∧ (-(2 ^ 62) ≤ i ∧ i < 2 ^ 62 ∧ -(2 ^ 62) ≤ j ∧ j < 2 ^ 62) ∧ R (Itr i (j - i).toNat) H1) : iRng2 ta σ H R := h
theorem r_ilist {R : It → Hp → Prop} (h : tl σ H fun x H1 => ∃ a, x = .ref a ∧ (∃ xs, SqL K H1 a xs) ∧ R (Itl K a) H1) : iList K tl σ H R := h
theorem r_itup {R : It → Hp → Prop} (h : tl σ H fun x H1 => ∃ a, x = .ref a ∧ (∃ xs, SqT K H1 a xs) ∧ R (Itt K a) H1) : iTup K tl σ H R := h
theorem r_rgL (n : Nat) {j : Int} (e : j = (n : Int)) (hn : n < 2 ^ 62) (h : LoopW (Itr 0 n) g ts D σ H) : -(2 ^ 62) ≤ j ∧ j < 2 ^ 62 ∧ LoopW (Itr 0 j.toNat) g ts D σ H := by
  subst e
  exact ⟨by omega, by omega, by rw [Int.toNat_natCast]; exact h⟩
theorem r_rgC {R : Addr → Hp → Prop} (n : Nat) {j : Int} (e : j = (n : Int)) (hn : n < 2 ^ 62) (h : ∀ Dl, H Dl = none → LcW (Itr 0 n) g tt te vs σ H Dl (R Dl)) :
    -(2 ^ 62) ≤ j ∧ j < 2 ^ 62 ∧ ∀ Dl, H Dl = none → LcW (Itr 0 j.toNat) g tt te vs σ H Dl (R Dl) := by
  subst e
  exact ⟨by omega, by omega, by rw [Int.toNat_natCast]; exact h⟩
theorem r_islist {R : Addr → Prop} {a : Addr} {xs : List V} (hs : SqL K H a xs) (h : R a) : ∃ a', V.ref a = .ref a' ∧ (∃ xs, SqL K H a' xs) ∧ R a' := ⟨a, rfl, ⟨xs, hs⟩, h⟩
theorem r_istup {R : Addr → Prop} {a : Addr} {xs : List V} (hs : SqT K H a xs) (h : R a) : ∃ a', V.ref a = .ref a' ∧ (∃ xs, SqT K H a' xs) ∧ R a' := ⟨a, rfl, ⟨xs, hs⟩, h⟩
theorem loop_range {n : Nat} (Pv : Nat → L2.St → Hp → Prop) (h0 : Pv 0 σ H)
    (hs : ∀ i σ' H', i < n → Pv i σ' H' → g (.int (i : Int)) σ' H' fun σ2 H2 => ts { D with nx := Pv (i + 1), ct := Pv (i + 1), bk := D.nx } σ2 H2) (hd : ∀ σ' H', Pv n σ' H' → D.nx σ' H') : LoopW (Itr 0 n) g ts D σ H :=
  for_range Pv h0 (fun i σ' H' hi p => by rw [Int.zero_add]; exact hs i σ' H' hi p) hd
theorem r_rg2L {lo hi : Int} (n : Nat) (e : (hi - lo).toNat = n) (hb : -(2 ^ 62) ≤ lo ∧ lo < 2 ^ 62 ∧ -(2 ^ 62) ≤ hi ∧ hi < 2 ^ 62) (h : LoopW (Itr lo n) g ts D σ H) :
    (-(2 ^ 62) ≤ lo ∧ lo < 2 ^ 62 ∧ -(2 ^ 62) ≤ hi ∧ hi < 2 ^ 62) ∧ LoopW (Itr lo (hi - lo).toNat) g ts D σ H := ⟨hb, by rw [e]; exact h⟩
theorem loop_range2 {lo : Int} {n : Nat} (Pv : Nat → L2.St → Hp → Prop) (h0 : Pv 0 σ H)
    (hs : ∀ i σ' H', i < n → Pv i σ' H' → g (.int (lo + (i : Int))) σ' H' fun σ2 H2 => ts { D with nx := Pv (i + 1), ct := Pv (i + 1), bk := D.nx } σ2 H2) (hd : ∀ σ' H', Pv n σ' H' → D.nx σ' H') : LoopW (Itr lo n) g ts D σ H := for_range Pv h0 hs hd
theorem loop_list {a : Addr} {xs : List V} (Pv : Nat → L2.St → Hp → Prop) (h0 : Pv 0 σ H) (hl : ∀ i σ' H', i ≤ xs.length → Pv i σ' H' → SqL K H' a xs)
    (hs : ∀ i x σ' H', xs[i]? = some x → Pv i σ' H' → g x σ' H' fun σ2 H2 => ts { D with nx := Pv (i + 1), ct := Pv (i + 1), bk := D.nx } σ2 H2) (hd : ∀ σ' H', Pv xs.length σ' H' → D.nx σ' H') : LoopW (Itl K a) g ts D σ H := for_list Pv h0 hl hs hd
theorem loop_tup {a : Addr} {xs : List V} (Pv : Nat → L2.St → Hp → Prop) (h0 : Pv 0 σ H) (hl : ∀ i σ' H', i ≤ xs.length → Pv i σ' H' → SqT K H' a xs)
    (hs : ∀ i x σ' H', xs[i]? = some x → Pv i σ' H' → g x σ' H' fun σ2 H2 => ts { D with nx := Pv (i + 1), ct := Pv (i + 1), bk := D.nx } σ2 H2) (hd : ∀ σ' H', Pv xs.length σ' H' → D.nx σ' H') : LoopW (Itt K a) g ts D σ H := for_tup Pv h0 hl hs hd
theorem comp_range {n : Nat} {H1 : Hp} {Dl : Addr} {Qd : Hp → Prop} (Pv : Nat → Hp → Prop) (h0 : Pv 0 (upd H1 Dl (.lst [])))
    (hs : ∀ i H, i < n → Pv i H → g (.int (i : Int)) (wipe σ vs) H fun σ2 H2 => wipe σ2 vs = wipe σ vs ∧ tt σ2 H2 fun b H3 =>
      if b = true then te σ2 H3 fun y H4 => ∃ acc, H4 Dl = some (.lst acc) ∧ acc.length < sizeLine ∧ Pv (i + 1) (upd H4 Dl (.lst (acc ++ [y]))) else Pv (i + 1) H3) (hd : ∀ H, Pv n H → Qd H) : LcW (Itr 0 n) g tt te vs σ H1 Dl Qd :=
  lc_range Pv h0 (fun i H hi p => by rw [Int.zero_add]; exact hs i H hi p) hd
theorem comp_list {a : Addr} {xs : List V} {H1 : Hp} {Dl : Addr} {Qd : Hp → Prop} (Pv : Nat → Hp → Prop) (h0 : Pv 0 (upd H1 Dl (.lst []))) (hl : ∀ i H, i ≤ xs.length → Pv i H → SqL K H a xs)
    (hs : ∀ i x H, xs[i]? = some x → Pv i H → g x (wipe σ vs) H fun σ2 H2 => wipe σ2 vs = wipe σ vs ∧ tt σ2 H2 fun b H3 =>
      if b = true then te σ2 H3 fun y H4 => ∃ acc, H4 Dl = some (.lst acc) ∧ acc.length < sizeLine ∧ Pv (i + 1) (upd H4 Dl (.lst (acc ++ [y]))) else Pv (i + 1) H3) (hd : ∀ H, Pv xs.length H → Qd H) : LcW (Itl K a) g tt te vs σ H1 Dl Qd := lc_list Pv h0 hl hs hd
theorem r_while (W : Nat → L2.St → Hp → Prop) (m : Nat) (h0 : W m σ H)
    (hs : ∀ m σ H, W m σ H → c σ H fun b H1 => if b = true then ∃ N : L2.St → Hp → Prop, (∀ σ' H', N σ' H' → ∃ m', m' < m ∧ W m' σ' H') ∧ ts { D with nx := N, ct := N, bk := D.nx } σ H1 else D.nx σ H1) : tWhile c ts D σ H := ⟨W, ⟨m, h0⟩, hs⟩
theorem r_again {R : L2.St → Hp → Prop} {rt : V → Hp → Prop} {bk : L2.St → Hp → Prop} (h : ts ⟨R, rt, bk, R⟩ σ H) :
    ∃ N : L2.St → Hp → Prop, (∀ σ' H', N σ' H' → R σ' H') ∧ ts ⟨N, rt, bk, N⟩ σ H := ⟨_, fun _ _ h => h, h⟩
theorem r_gcdN {a b : Nat} (h : Q (.int ((Nat.gcd a b : Nat) : Int)) H) : rGcd [.int (a : Int), .int (b : Int)] H Q := ⟨a, b, rfl, h⟩
theorem r_wipe {A : Prop} {σ2 : L2.St} (e : wipe σ2 vs = wipe σ vs) (h : A) : wipe σ2 vs = wipe σ vs ∧ A := ⟨e, h⟩
end
/-! ### heaps that are kept -/
def Keep (a c : Addr) (H H' : Hp) : Prop := ∀ b o, b ≠ a → b ≠ c → H b = some o → H' b = some o
def Bd (n : Int) : Prop := n.natAbs < 2 ^ 4000
/-- a source of drawn numbers: the list at a holds the cells' list at c and the turn -/
structure Src (H : Hp) (a c : Addr) (t : Int) : Prop where
  src : H a = some (.lst [.ref c, .int t])
  cells : ∃ ns : List Int, H c = some (.lst (ns.map V.int)) ∧ 0 < ns.length ∧ ns.length ≤ 63 ∧ ∀ n ∈ ns, Bd n
  turn : 0 ≤ t
  ne : c ≠ a
abbrev Big : Int := 2 ^ 60
theorem Keep.refl (a c : Addr) (H : Hp) : Keep a c H H := fun _ _ _ _ h => h
theorem Keep.trans {a c : Addr} {H H1 H2 : Hp} (x : Keep a c H H1) (y : Keep a c H1 H2) : Keep a c H H2 := fun b o h1 h2 h => y b o h1 h2 (x b o h1 h2 h)
theorem same_keep {a c : Addr} {H H1 : Hp} (x : Same H H1) : Keep a c H H1 := fun b o _ _ h => x b o h
theorem Same.new {H : Hp} {p : Addr} {o : HO} (h : H p = none) : Same H (upd H p o) := fun b u e => by
  rw [upd_ne (ne_of_none e h)]
  exact e
theorem Src.same {H H' : Hp} {a c : Addr} {t : Int} (s : Src H a c t) (x : Same H H') : Src H' a c t := by
  obtain ⟨h1, ⟨ns, h2, h3⟩, h4, h5⟩ := s
  exact ⟨x _ _ h1, ⟨ns, x _ _ h2, h3⟩, h4, h5⟩
theorem Src.new {H : Hp} {a c p : Addr} {t : Int} {o : HO} (s : Src H a c t) (h : H p = none) : Src (upd H p o) a c t := s.same (Same.new h)
theorem Src.ne_tup {H : Hp} {a c p : Addr} {t : Int} {xs : List V} (s : Src H a c t) (h : H p = some (.tup xs)) : p ≠ a ∧ p ≠ c := by
  obtain ⟨h1, ⟨ns, h2, _⟩, _⟩ := s
  exact ⟨fun e => (by rw [e, h1] at h; cases h), fun e => (by rw [e, h2] at h; cases h)⟩
theorem Src.ne_frz {H : Hp} {a c p : Addr} {t : Int} {o : Obj} {u : HO} (s : Src H a c t) (h : H p = some (.frz o u)) : p ≠ a ∧ p ≠ c := by
  obtain ⟨h1, ⟨ns, h2, _⟩, _⟩ := s
  exact ⟨fun e => (by rw [e, h1] at h; cases h), fun e => (by rw [e, h2] at h; cases h)⟩
theorem Src.ne_none {H : Hp} {a c p : Addr} {t : Int} (s : Src H a c t) (h : H p = none) : p ≠ a ∧ p ≠ c := by
  obtain ⟨h1, ⟨ns, h2, _⟩, _⟩ := s
  exact ⟨fun e => (by rw [e, h1] at h; cases h), fun e => (by rw [e, h2] at h; cases h)⟩
theorem Keep.tup {K : PySem.W.Frag} {H H' : Hp} {a c p : Addr} {t : Int} {xs : List V} (k : Keep a c H H') (s : Src H a c t) (h : SqT K H p xs) : SqT K H' p xs := by
  rcases h with (h | ⟨o, h⟩) | h
  · exact .inl (.inl (k _ _ (s.ne_tup h).1 (s.ne_tup h).2 h))
  · exact .inl (.inr ⟨o, k _ _ (s.ne_frz h).1 (s.ne_frz h).2 h⟩)
  · exact .inr h
theorem Same.tup {K : PySem.W.Frag} {H H' : Hp} {p : Addr} {xs : List V} (k : Same H H') (h : SqT K H p xs) : SqT K H' p xs := by
  rcases h with (h | ⟨o, h⟩) | h
  · exact .inl (.inl (k _ _ h))
  · exact .inl (.inr ⟨o, k _ _ h⟩)
  · exact .inr h
theorem atI0 {α : Type} {x : α} {xs : List α} : atI (x :: xs) 0 = some x := atI_nat (j := 0) rfl
theorem atI1 {α : Type} {x y : α} {xs : List α} : atI (x :: y :: xs) 1 = some y := atI_nat (j := 1) rfl
theorem cut63 {xs : List V} (h : xs.length ≤ 63) : cutV xs none (some 63) = xs := by
  unfold cutV
  rw [show HT.sIx xs.length 0 none = 0 from rfl, show HT.sIx xs.length xs.length (some 63) = min 63 xs.length from HT.sIx_nat xs.length xs.length 63]
  rw [List.drop_zero, show min 63 xs.length - 0 = xs.length by omega, List.take_length]
theorem ixN_nat {n j : Nat} (h : j < n) : ixN n (j : Int) = some j := by
  unfold ixN
  rw [if_pos (by omega), if_pos (by omega), Int.toNat_natCast]
theorem map_set {ns : List Int} {j : Nat} {x : Int} : (ns.map V.int).set j (.int x) = (ns.set j x).map V.int := by
  rw [List.map_set]
theorem bd_small {n : Int} (h : n.natAbs < 2 ^ 64) : Bd n := Nat.lt_of_lt_of_le h (Nat.pow_le_pow_right (by decide) (by decide))
theorem bd_le {n m : Int} (h0 : 0 ≤ n) (h : n ≤ m) (b : Bd m) : Bd n := Nat.lt_of_le_of_lt (by omega) b
/-! ### data -/
def Shp (n : Nat) (d : PyData) : Prop := d.canLay0 = true ∧ d.depth ≤ n
theorem Shp.mono {n m : Nat} {d : PyData} (h : Shp n d) (e : n ≤ m) : Shp m d := ⟨h.1, Nat.le_trans h.2 e⟩
theorem shp_int {n : Nat} {i : Int} : Shp n (.int i) := ⟨by simp [PyData.canLay0], by simp [PyData.depth]⟩
theorem shp_bl {n : Nat} {i : Bool} : Shp n (.bool i) := ⟨by simp [PyData.canLay0], by simp [PyData.depth]⟩
theorem shp_non {n : Nat} : Shp n .none := ⟨by simp [PyData.canLay0], by simp [PyData.depth]⟩
theorem shp_all {n : Nat} : ∀ {ds : List PyData}, (∀ d ∈ ds, Shp n d) → PyData.canLayAll0 ds = true ∧ PyData.depthAll ds ≤ n
  | [], _ => ⟨by simp [PyData.canLayAll0], by simp [PyData.depthAll]⟩
  | d :: ds, h => by
    obtain ⟨h1, h2⟩ := h d List.mem_cons_self
    obtain ⟨h3, h4⟩ := shp_all (ds := ds) fun e he => h e (List.mem_cons_of_mem _ he)
    refine ⟨by rw [PyData.canLayAll0, h1, h3] <;> rfl, ?_⟩
    rw [PyData.depthAll]
    omega
theorem shp_list {n : Nat} {ds : List PyData} (h : ∀ d ∈ ds, Shp n d) : Shp (n + 1) (.list ds) := by
  obtain ⟨h1, h2⟩ := shp_all h
  exact ⟨by rw [PyData.canLay0]; exact h1, by rw [PyData.depth]; omega⟩
theorem shp_tup {n : Nat} {ds : List PyData} (h : ∀ d ∈ ds, Shp n d) : Shp (n + 1) (.tuple ds) := by
  obtain ⟨h1, h2⟩ := shp_all h
  exact ⟨by rw [PyData.canLay0]; exact h1, by rw [PyData.depth]; omega⟩
theorem Shp.ok {n : Nat} {d : PyData} (h : Shp n d) (hn : n ≤ 64 := by decide) : SeqAt.shaped d = true := by
  unfold SeqAt.shaped
  rw [h.1, decide_eq_true (Nat.le_trans h.2 hn)] <;> rfl
theorem eqvAll_map {α : Type} [DecidableEq α] {f : α → PyData} (h : ∀ x y, PyData.eqv (f x) (f y) = decide (x = y)) : ∀ xs ys : List α, PyData.eqvAll (xs.map f) (ys.map f) = decide (xs = ys)
  | [], [] => by simp [PyData.eqvAll]
  | x :: xs, [] => by simp [PyData.eqvAll]
  | [], y :: ys => by simp [PyData.eqvAll]
  | x :: xs, y :: ys => by
    rw [List.map_cons, List.map_cons, PyData.eqvAll, h, eqvAll_map h xs ys]
    by_cases e1 : x = y
    · by_cases e2 : xs = ys
      · simp [e1, e2]
      · simp [e1, e2]
    · simp [e1]
theorem eqv_int (x y : Int) : PyData.eqv (.int x) (.int y) = decide (x = y) := by
  rw [PyData.eqv]
  exact Bool.beq_eq_decide_eq x y
theorem eqv_list {α : Type} [DecidableEq α] {f : α → PyData} (h : ∀ x y, PyData.eqv (f x) (f y) = decide (x = y)) (xs ys : List α) : PyData.eqv (.list (xs.map f)) (.list (ys.map f)) = decide (xs = ys) := by
  rw [PyData.eqv]
  exact eqvAll_map h xs ys
section
variable {K : PySem.W.Frag} {H : Hp}
theorem dp_map {α : Type} {f : α → V} {g : α → PyData} : ∀ {xs : List α}, (∀ x ∈ xs, Dp K H (f x) (g x)) → DpAll K H (xs.map f) (xs.map g)
  | [], _ => .nil
  | x :: xs, h => .cons (h x List.mem_cons_self) (dp_map fun y hy => h y (List.mem_cons_of_mem _ hy))
theorem dp_ints {p : Addr} {ns : List Int} (h : SqL K H p (ns.map V.int)) : Dp K H (.ref p) (.list (ns.map PyData.int)) := .lst h (dp_map fun x _ => .int x)
theorem shp_ints {ns : List Int} : Shp 1 (.list (ns.map PyData.int)) := shp_list fun d hd => by
  obtain ⟨x, _, rfl⟩ := List.mem_map.mp hd
  exact shp_int
end
theorem atI_int {ns : List Int} {j : Nat} {x : Int} (h : ns[j]? = some x) : atI (ns.map V.int) (j : Int) = some (.int x) := atI_nat (by rw [List.getElem?_map, h]; rfl)
theorem get_of {α : Type} {xs : List α} {j : Nat} (h : j < xs.length) : ∃ x, xs[j]? = some x := ⟨xs[j], List.getElem?_eq_getElem h⟩
/-! ### written powers -/
def E1200 : Int := ((10 : Int) ^ 60) ^ 20
theorem e1200_pos : (0 : Int) < E1200 := by decide +kernel
theorem bd_e1200 {n : Int} (h0 : 0 ≤ n) (h : n < E1200) : Bd n := by
  have h2 : E1200.natAbs < 2 ^ 4000 := by decide +kernel
  have h3 : n.natAbs ≤ E1200.natAbs := by omega
  exact Nat.lt_of_le_of_lt h3 h2
section
variable {H : Hp} {Q : VK}
theorem pw_ok {i j n : Int} (h1 : 0 ≤ j) (h2 : (Builtin.Int.intBits i : Int) * j ≤ 2 ^ 27) (e : i ^ j.toNat = n) (h : Q (.int n) H) : rI CPowW (fun i j => V.int (i ^ j.toNat)) (.int i) (.int j) H Q := ⟨i, j, rfl, rfl, ⟨h1, h2⟩, by subst e; exact h⟩
theorem r_pow18 (h : Q (.int 1000000000000000000) H) : rI CPowW (fun i j => V.int (i ^ j.toNat)) (.int 10) (.int 18) H Q := pw_ok (by decide) (by decide) (by decide +kernel) h
theorem r_pow30 (h : Q (.int 1000000000000000000000000000000) H) : rI CPowW (fun i j => V.int (i ^ j.toNat)) (.int 10) (.int 30) H Q := pw_ok (by decide) (by decide) (by decide +kernel) h
theorem r_pow60 (h : Q (.int ((10 : Int) ^ 60)) H) : rI CPowW (fun i j => V.int (i ^ j.toNat)) (.int 10) (.int 60) H Q := pw_ok (by decide) (by decide) (by decide +kernel) h
theorem r_pow1200 (h : Q (.int E1200) H) : rI CPowW (fun i j => V.int (i ^ j.toNat)) (.int ((10 : Int) ^ 60)) (.int 20) H Q := pw_ok (by decide) (by decide +kernel) (by decide +kernel) h
theorem r_mod {i j : Int} (hj : 0 < j) (h : Q (.int (i % j)) H) : rI (fun _ j => 0 < j) (fun i j => V.int (i % j)) (.int i) (.int j) H Q := ⟨i, j, rfl, rfl, hj, h⟩
theorem r_mul {i j : Int} (hc : CMulX i j) (h : Q (.int (i * j)) H) : rI CMulX (fun i j => V.int (i * j)) (.int i) (.int j) H Q := ⟨i, j, rfl, rfl, hc, h⟩
theorem r_div {i j : Int} (hc : CDivW i j) (h : Q (.int (i / j)) H) : rI CDivW (fun i j => V.int (i / j)) (.int i) (.int j) H Q := ⟨i, j, rfl, rfl, hc, h⟩
end
def Sm (i : Int) : Prop := i.natAbs < 2 ^ 20000
theorem mul_sm {i j : Int} (hi : Sm i) (hj : Sm j) : CMulX i j := mulx_ok hi hj (by decide)
theorem Bd.sm {i : Int} (h : Bd i) : Sm i := Nat.lt_trans h (Nat.pow_lt_pow_right (by decide) (by decide))
theorem sm_small {n : Int} (h : n.natAbs < 2 ^ 64) : Sm n := (bd_small h).sm
theorem div_bd {i j : Int} (h0 : 0 < j) (h : Bd j) : CDivW i j := wide_div h0 h (by decide) (by decide)
/-! ### one list changes -/
def Kept (l : Addr) (H H' : Hp) : Prop := ∀ b o, b ≠ l → H b = some o → H' b = some o
theorem Kept.refl (l : Addr) (H : Hp) : Kept l H H := fun _ _ _ h => h
theorem Kept.trans {l : Addr} {H H1 H2 : Hp} (x : Kept l H H1) (y : Kept l H1 H2) : Kept l H H2 := fun b o h1 h => y b o h1 (x b o h1 h)
theorem Kept.same {l : Addr} {H H1 H2 : Hp} (x : Kept l H H1) (y : Same H1 H2) : Kept l H H2 := fun b o h1 h => y b o (x b o h1 h)
theorem Kept.upd {l : Addr} {H H1 : Hp} {o : HO} (x : Kept l H H1) : Kept l H (upd H1 l o) := fun b u h1 h => by
  rw [upd_ne h1]
  exact x b u h1 h
theorem Kept.all {l : Addr} {H H1 H2 : Hp} (s : Same H H1) (hl : H l = none) (k : Kept l H1 H2) : Same H H2 := fun b o h => k b o (ne_of_none h hl) (s b o h)
theorem Kept.tup {K : PySem.W.Frag} {l p : Addr} {H H' : Hp} {xs ys : List V} (k : Kept l H H') (hl : H l = some (.lst ys)) (h : SqT K H p xs) : SqT K H' p xs := by
  rcases h with (h | ⟨o, h⟩) | h
  · exact .inl (.inl (k _ _ (fun e => by rw [e, hl] at h; cases h) h))
  · exact .inl (.inr ⟨o, k _ _ (fun e => by rw [e, hl] at h; cases h) h⟩)
  · exact .inr h
theorem r_app {K : PySem.W.Frag} {σ : L2.St} {H : Hp} {Q : VK} {l : Addr} {t : TA} (hx : ∃ xs, SqL K H l xs) (h : t σ H fun vs H2 => rAppend (.ref l) vs H2 Q) : tyV K "list" (.ref l) H ∧ t σ H fun vs H2 => rAppend (.ref l) vs H2 Q := ⟨.inl ⟨rfl, hx⟩, h⟩
theorem r_append {H : Hp} {Q : VK} {l : Addr} {xs : List V} {y : V} (h : H l = some (.lst xs)) (hn : xs.length < 16777216) (q : Q .non (upd H l (.lst (xs ++ [y])))) : rAppend (.ref l) [y] H Q := ⟨l, xs, y, rfl, rfl, h, hn, q⟩
theorem r_bm {K : PySem.W.Frag} {σ : L2.St} {H : Hp} {Q : VK} {T : String} {r : V → List V → Hp → VK → Prop} {to : TE} {t : TA} (h : to σ H fun x H1 => tyV K T x H1 ∧ t σ H1 fun xs H2 => r x xs H2 Q) : tBM K T r to t σ H Q := h
theorem Src.put {H : Hp} {a c l : Addr} {t : Int} {o : HO} (s : Src H a c t) (la : l ≠ a) (lc : l ≠ c) : Src (upd H l o) a c t := by
  obtain ⟨h1, ⟨ns, h2, h3⟩, h4, h5⟩ := s
  exact ⟨by rw [upd_ne (Ne.symm la)]; exact h1, ⟨ns, by rw [upd_ne (Ne.symm lc)]; exact h2, h3⟩, h4, h5⟩
/-! ### the mathematics of classes -/
/-- the marks of the class (m, r) -/
def MeetR (m1 r1 m2 r2 : Nat) : Option (Nat × Nat) → Prop
  | none => ¬ ((r1 : Int) - r2) % ((Nat.gcd m1 m2 : Nat) : Int) = 0
  | some (L, x) => ((r1 : Int) - r2) % ((Nat.gcd m1 m2 : Nat) : Int) = 0 ∧ L = m1 * (m2 / Nat.gcd m1 m2) ∧ x < L ∧ x % m1 = r1 ∧ x % m2 = r2
def Fits (m1 r1 m2 r2 : Nat) : Prop := ((r1 : Int) - r2) % ((Nat.gcd m1 m2 : Nat) : Int) = 0
instance (m1 r1 m2 r2 : Nat) : Decidable (Fits m1 r1 m2 r2) := inferInstanceAs (Decidable (_ = _))
theorem dvd_of_mods {x y m : Nat} (h : x % m = y % m) : (m : Int) ∣ (x : Int) - y := Int.dvd_of_emod_eq_zero (by
  have h2 : ((x : Int) % m) = ((y : Int) % m) := by exact_mod_cast h
  exact Int.emod_eq_emod_iff_emod_sub_eq_zero.mp h2)
theorem mods_of_dvd {x y m : Nat} (h : (m : Int) ∣ (x : Int) - y) : x % m = y % m := by
  have h2 : ((x : Int) % m) = ((y : Int) % m) := Int.emod_eq_emod_iff_emod_sub_eq_zero.mpr (Int.emod_eq_zero_of_dvd h)
  exact_mod_cast h2
theorem fits_of {m1 r1 m2 r2 h : Nat} (h1 : h % m1 = r1) (h2 : h % m2 = r2) : ((r1 : Int) - r2) % ((Nat.gcd m1 m2 : Nat) : Int) = 0 := by
  have a1 : ((Nat.gcd m1 m2 : Nat) : Int) ∣ (h : Int) - r1 := by
    refine Int.dvd_trans (Int.natCast_dvd_natCast.mpr (Nat.gcd_dvd_left m1 m2)) (dvd_of_mods ?_)
    rw [← h1, Nat.mod_mod]
  have a2 : ((Nat.gcd m1 m2 : Nat) : Int) ∣ (h : Int) - r2 := by
    refine Int.dvd_trans (Int.natCast_dvd_natCast.mpr (Nat.gcd_dvd_right m1 m2)) (dvd_of_mods ?_)
    rw [← h2, Nat.mod_mod]
  refine Int.emod_eq_zero_of_dvd ?_
  have e : (r1 : Int) - r2 = ((h : Int) - r2) - ((h : Int) - r1) := by omega
  rw [e]
  exact Int.dvd_sub a2 a1
theorem lcm_of {m1 m2 : Nat} : m1 * (m2 / Nat.gcd m1 m2) = Nat.lcm m1 m2 := by
  unfold Nat.lcm
  rw [Nat.mul_div_assoc _ (Nat.gcd_dvd_right m1 m2)]
theorem mod_mod_dvd {h L m : Nat} (d : m ∣ L) : h % L % m = h % m := Nat.mod_mod_of_dvd h d
/-- the class that is met holds just the marks of both -/
theorem met_iff {m1 r1 m2 r2 L x : Nat} (M : MeetR m1 r1 m2 r2 (some (L, x))) (h : Nat) : h % L = x ↔ h % m1 = r1 ∧ h % m2 = r2 := by
  obtain ⟨_, hL, hx, h1, h2⟩ := M
  rw [lcm_of] at hL
  subst hL
  constructor
  · intro e
    subst e
    rw [mod_mod_dvd (Nat.dvd_lcm_left m1 m2)] at h1
    rw [mod_mod_dvd (Nat.dvd_lcm_right m1 m2)] at h2
    exact ⟨h1, h2⟩
  · rintro ⟨e1, e2⟩
    have d1 : (m1 : Int) ∣ (h : Int) - x := dvd_of_mods (e1.trans h1.symm)
    have d2 : (m2 : Int) ∣ (h : Int) - x := dvd_of_mods (e2.trans h2.symm)
    have d3 : Nat.lcm m1 m2 ∣ ((h : Int) - x).natAbs := Nat.lcm_dvd (Int.ofNat_dvd_left.mp d1) (Int.ofNat_dvd_left.mp d2)
    have d4 : ((Nat.lcm m1 m2 : Nat) : Int) ∣ (h : Int) - x := Int.ofNat_dvd_left.mpr d3
    rw [mods_of_dvd d4, Nat.mod_eq_of_lt hx]
theorem met_none {m1 r1 m2 r2 : Nat} (M : MeetR m1 r1 m2 r2 none) (h : Nat) : ¬ (h % m1 = r1 ∧ h % m2 = r2) := fun ⟨h1, h2⟩ => M (fits_of h1 h2)
/-- a set of marks told as a class, or as empty -/
def Tells (S : Nat → Prop) : Option (Nat × Nat) → Prop
  | none => ∀ h, ¬ S h
  | some (L, x) => x < L ∧ ∀ h, h % L = x ↔ S h
theorem tells_meet {m1 r1 m2 r2 : Nat} : ∀ {o : Option (Nat × Nat)}, MeetR m1 r1 m2 r2 o → Tells (fun h => h % m1 = r1 ∧ h % m2 = r2) o
  | none, M => met_none M
  | some (_, _), M => ⟨M.2.2.1, met_iff M⟩
theorem tells_one {S : Nat → Prop} : ∀ {o o' : Option (Nat × Nat)}, Tells S o → Tells S o' → o = o'
  | none, none, _, _ => rfl
  | none, some (L, x), h, h' => absurd ((h'.2 x).mp (Nat.mod_eq_of_lt h'.1)) (h x)
  | some (L, x), none, h', h => absurd ((h'.2 x).mp (Nat.mod_eq_of_lt h'.1)) (h x)
  | some (L, x), some (L', x'), ⟨hx, h⟩, ⟨hx', h'⟩ => by
    have a1 : x % L' = x' := (h' x).mpr ((h x).mp (Nat.mod_eq_of_lt hx))
    have a2 : x' % L = x := (h x').mpr ((h' x').mp (Nat.mod_eq_of_lt hx'))
    have e : x = x' := Nat.le_antisymm (by rw [← a2]; exact Nat.mod_le _ _) (by rw [← a1]; exact Nat.mod_le _ _)
    subst e
    have b1 : (x + L) % L' = x := (h' _).mpr ((h _).mp (by rw [Nat.add_mod_right]; exact Nat.mod_eq_of_lt hx))
    have b2 : (x + L') % L = x := (h _).mpr ((h' _).mp (by rw [Nat.add_mod_right]; exact Nat.mod_eq_of_lt hx'))
    have d1 : L' ∣ L := by
      have := dvd_of_mods (x := x + L) (y := x) (m := L') (by rw [b1, Nat.mod_eq_of_lt hx'])
      have e : ((x + L : Nat) : Int) - x = (L : Int) := by omega
      rw [e] at this
      exact Int.natCast_dvd_natCast.mp this
    have d2 : L ∣ L' := by
      have := dvd_of_mods (x := x + L') (y := x) (m := L) (by rw [b2, Nat.mod_eq_of_lt hx])
      have e : ((x + L' : Nat) : Int) - x = (L' : Int) := by omega
      rw [e] at this
      exact Int.natCast_dvd_natCast.mp this
    rw [Nat.dvd_antisymm d2 d1]
/-- the class that the program reckons -/
theorem met_mk {m1 r1 m2 r2 : Nat} {inv : Int} (p1 : 0 < m1) (p2 : 0 < m2) (l1 : r1 < m1) (l2 : r2 < m2) (hf : ((r1 : Int) - r2) % ((Nat.gcd m1 m2 : Nat) : Int) = 0)
    (hi : (((m2 / Nat.gcd m1 m2 : Nat) : Int)) ∣ ((m1 / Nat.gcd m1 m2 : Nat) : Int) * inv - 1) :
    ∃ x : Nat, (r1 : Int) + m1 * ((((r2 : Int) - r1) / ((Nat.gcd m1 m2 : Nat) : Int) * inv) % ((m2 / Nat.gcd m1 m2 : Nat) : Int)) = (x : Int) ∧ MeetR m1 r1 m2 r2 (some (m1 * (m2 / Nat.gcd m1 m2), x)) := by
  have gp : 0 < Nat.gcd m1 m2 := Nat.gcd_pos_of_pos_left _ p1
  generalize hg : Nat.gcd m1 m2 = g at hf hi gp ⊢
  have da : g ∣ m1 := hg ▸ Nat.gcd_dvd_left m1 m2
  have db : g ∣ m2 := hg ▸ Nat.gcd_dvd_right m1 m2
  obtain ⟨a, ha⟩ := da
  obtain ⟨f, hf2⟩ := db
  have ea : m1 / g = a := by rw [ha]; exact Nat.mul_div_cancel_left _ gp
  have ef : m2 / g = f := by rw [hf2]; exact Nat.mul_div_cancel_left _ gp
  rw [ea, ef] at hi
  rw [ef]
  have fp : 0 < f := by
    rcases Nat.eq_zero_or_pos f with e | e
    · rw [e, Nat.mul_zero] at hf2; omega
    · exact e
  obtain ⟨d, hd⟩ := Int.dvd_of_emod_eq_zero hf
  have ed : ((r2 : Int) - r1) / (g : Int) = -d := by
    have e : (r2 : Int) - r1 = (g : Int) * (-d) := by rw [Int.mul_neg, ← hd]; omega
    rw [e]
    exact Int.mul_ediv_cancel_left _ (by omega)
  rw [ed]
  generalize hs : (-d * inv) % (f : Int) = s
  have s0 : 0 ≤ s := hs ▸ Int.emod_nonneg _ (by omega)
  have s1 : s < (f : Int) := hs ▸ Int.emod_lt_of_pos _ (by omega)
  obtain ⟨t, rfl⟩ : ∃ t : Nat, s = (t : Int) := ⟨s.toNat, by omega⟩
  refine ⟨r1 + m1 * t, by rw [Int.natCast_add, Int.natCast_mul], ?_, ?_, ?_, ?_, ?_⟩
  · rw [hg]; exact hf
  · rw [hg, ef]
  · have : m1 * (t + 1) ≤ m1 * f := Nat.mul_le_mul_left _ (by omega)
    rw [Nat.mul_add, Nat.mul_one] at this
    omega
  · rw [Nat.add_mul_mod_self_left]
    exact Nat.mod_eq_of_lt l1
  · have q1 : (f : Int) ∣ -d * inv - t := by
      refine Int.dvd_of_emod_eq_zero ?_
      rw [← hs, Int.sub_emod, Int.emod_emod, ← Int.sub_emod, Int.sub_self, Int.zero_emod]
    obtain ⟨u, hu⟩ := hi
    obtain ⟨v, hv⟩ := q1
    have key : (m2 : Int) ∣ ((r1 + m1 * t : Nat) : Int) - (r2 : Nat) := by
      refine ⟨-d * u - a * v, ?_⟩
      have e1 : ((r1 + m1 * t : Nat) : Int) - (r2 : Nat) = (g : Int) * d + (g * a : Nat) * t := by
        rw [Int.natCast_add, Int.natCast_mul, ← ha, ← hd]
        omega
      have e2 : (t : Int) = -d * inv - f * v := by omega
      have e3 : (a : Int) * inv = 1 + f * u := by omega
      rw [e1, e2, hf2, Int.natCast_mul, Int.natCast_mul]
      have e4 : (g : Int) * a * (-d * inv - f * v) = (g : Int) * (-d * (a * inv)) - g * f * (a * v) := by
        rw [Int.mul_sub]
        congr 1
        · simp only [Int.neg_mul, Int.mul_neg]; congr 1; simp only [Int.mul_assoc, Int.mul_left_comm]
        · simp only [Int.mul_assoc, Int.mul_left_comm]
      rw [e4, e3]
      simp only [Int.mul_add, Int.mul_sub, Int.mul_one, Int.mul_neg, Int.neg_mul, Int.mul_assoc, Int.mul_left_comm]
      omega
    rw [mods_of_dvd key]
    exact Nat.mod_eq_of_lt l2
theorem cop_div {m1 m2 : Nat} (p1 : 0 < m1) : Nat.gcd (m1 / Nat.gcd m1 m2) (m2 / Nat.gcd m1 m2) = 1 :=
  Nat.gcd_div_gcd_div_gcd_of_pos_left p1
def G300 : Nat := 10 ^ 300 + 7
theorem g300_odd : G300 % 2 = 1 := by decide +kernel
theorem g300_5 : 5 < G300 := by decide +kernel
/-! ### classes as values -/
def IsC (K : PySem.W.Frag) (H : Hp) (v : V) (m r : Nat) : Prop := ∃ p, v = .ref p ∧ SqT K H p [.int (m : Int), .int (r : Int)]
def CC (m r : Nat) : Prop := r < m ∧ Bd (m : Int)
def OptC (K : PySem.W.Frag) (H : Hp) (v : V) : Option (Nat × Nat) → Prop
  | none => v = .non
  | some (m, r) => IsC K H v m r
section
variable {K : PySem.W.Frag} {H H' : Hp} {v : V} {m r : Nat}
theorem IsC.same (h : IsC K H v m r) (s : Same H H') : IsC K H' v m r := let ⟨p, e, q⟩ := h; ⟨p, e, Same.tup s q⟩
theorem IsC.keep {a c : Addr} {t : Int} (h : IsC K H v m r) (k : Keep a c H H') (s : Src H a c t) : IsC K H' v m r := let ⟨p, e, q⟩ := h; ⟨p, e, k.tup s q⟩
theorem OptC.same : ∀ {o : Option (Nat × Nat)}, OptC K H v o → Same H H' → OptC K H' v o
  | none, h, _ => h
  | some (_, _), h, s => IsC.same h s
theorem OptC.keep {a c : Addr} {t : Int} : ∀ {o : Option (Nat × Nat)}, OptC K H v o → Keep a c H H' → Src H a c t → OptC K H' v o
  | none, h, _, _ => h
  | some (_, _), h, k, s => IsC.keep h k s
theorem tyx_tup {p : Addr} {xs : List V} (h : SqT K H p xs) : TyX K H (.ref p) (.type "tuple") := by
  rcases h with (h | ⟨o, h⟩) | ⟨o, its, n, h1, h2, _⟩
  · exact .base (.tup h)
  · exact .fTuple h
  · exact .kTuple h1 h2
theorem tyx_lst {p : Addr} {xs : List V} (h : SqL K H p xs) : TyX K H (.ref p) (.type "list") := by
  rcases h with (h | ⟨o, h⟩) | ⟨o, its, n, h1, h2, _⟩
  · exact .base (.lst h)
  · exact .base (.frz h)
  · exact .kList h1 h2
theorem tyx_int {i : Int} : TyX K H (.int i) (.type "int") := .base (.int i)
theorem tyx_bl {i : Bool} : TyX K H (.bl i) (.type "bool") := .base (.bl i)
theorem tyx_non : TyX K H .non (.type "NoneType") := .base .non
theorem r_isi {Q : VK} {x : V} {n t : String} {b : Bool} (ht : TyX K H x (.type t)) (hk : kitB t n = some b) (h : Q (.bl b) H) : rIsi K [x, .ty n] H Q := ⟨x, _, _, _, b, rfl, .ty n, ht, kit_ty hk, h⟩
theorem k_tt : kitB "tuple" "tuple" = some true := by decide +kernel
theorem k_nt : kitB "NoneType" "tuple" = some false := by decide +kernel
theorem k_ii : kitB "int" "int" = some true := by decide +kernel
theorem k_ib : kitB "int" "bool" = some false := by decide +kernel
theorem k_bb : kitB "bool" "bool" = some true := by decide +kernel
theorem k_bi : kitB "bool" "int" = some true := by decide +kernel
theorem k_ll : kitB "list" "list" = some true := by decide +kernel
end
def cdat (z : Nat × Nat) : PyData := .tuple [.int (z.1 : Int), .int (z.2 : Int)]
def odat : Option (Nat × Nat) → PyData
  | none => .none
  | some z => cdat z
theorem cdat_eqv (z w : Nat × Nat) : PyData.eqv (cdat z) (cdat w) = decide (z = w) := by
  obtain ⟨a, b⟩ := z
  obtain ⟨c, d⟩ := w
  unfold cdat
  rw [PyData.eqv, PyData.eqvAll, PyData.eqvAll, PyData.eqvAll, eqv_int, eqv_int]
  by_cases e1 : a = c
  · by_cases e2 : b = d
    · simp [e1, e2]
    · have e3 : ¬ (b : Int) = (d : Int) := by omega
      simp [e1, e2, e3]
  · have e3 : ¬ (a : Int) = (c : Int) := by omega
    simp [e1, e3]
theorem odat_eqv (z w : Option (Nat × Nat)) : PyData.eqv (odat z) (odat w) = decide (z = w) := by
  cases z with
  | none =>
    cases w with
    | none => simp [odat, PyData.eqv]
    | some w => simp [odat, cdat, PyData.eqv]
  | some z =>
    cases w with
    | none => simp [odat, cdat, PyData.eqv]
    | some w =>
      show PyData.eqv (cdat z) (cdat w) = _
      rw [cdat_eqv]
      by_cases e : z = w <;> simp [e]
theorem shp_cdat {z : Nat × Nat} : Shp 1 (cdat z) := shp_tup fun d hd => by
  rcases List.mem_cons.mp hd with e | hd
  · subst e; exact shp_int
  · rcases List.mem_cons.mp hd with e | hd
    · subst e; exact shp_int
    · cases hd
theorem shp_odat : ∀ {o : Option (Nat × Nat)}, Shp 1 (odat o)
  | none => shp_non
  | some _ => shp_cdat
section
variable {K : PySem.W.Frag} {H : Hp} {v : V} {m r : Nat}
theorem IsC.dp (h : IsC K H v m r) : Dp K H v (cdat (m, r)) := by
  obtain ⟨p, rfl, hq⟩ := h
  exact .tup hq (.cons (.int _) (.cons (.int _) .nil))
theorem OptC.dp : ∀ {o : Option (Nat × Nat)}, OptC K H v o → Dp K H v (odat o)
  | none, h => by
    have e : v = .non := h
    rw [e]
    exact .non
  | some (_, _), h => IsC.dp h
end
theorem sm_mul {i j : Int} {a b : Nat} (hi : i.natAbs < 2 ^ a) (hj : j.natAbs < 2 ^ b) (h : a + b ≤ 20000) : Sm (i * j) := Nat.lt_of_lt_of_le (wide_lt hi hj) (Nat.pow_le_pow_right (by decide) h)
theorem bd_nat {a b : Nat} (h : a ≤ b) (hb : Bd (b : Int)) : Bd (a : Int) := Nat.lt_of_le_of_lt (by omega) hb
theorem le_mul_abs {a b : Int} (h : 1 ≤ b) : (a.natAbs : Int) ≤ (a.natAbs : Int) * b := by
  have := Int.mul_le_mul_of_nonneg_left h (show 0 ≤ (a.natAbs : Int) by omega)
  omega
theorem abs_step {af rf q : Int} (hq : 0 ≤ q) : ((af - q * rf).natAbs : Int) ≤ (af.natAbs : Int) + q * (rf.natAbs : Int) := by
  have h1 : (af - q * rf).natAbs ≤ af.natAbs + (q * rf).natAbs := Int.natAbs_sub_le af (q * rf)
  have h2 : ((q * rf).natAbs : Int) = q * (rf.natAbs : Int) := by
    rw [Int.natAbs_mul, Int.natCast_mul]
    congr 1
    omega
  omega
/-- one turn of the reckoning of an inverse -/
structure InvW (n m : Int) (a r af rf : Int) : Prop where
  a1 : 1 ≤ a
  a2 : a ≤ m
  r0 : 0 ≤ r
  r1 : r < m
  g : Int.gcd a r = 1
  d1 : m ∣ af * n - a
  d2 : m ∣ rf * n - r
  sz : (af.natAbs : Int) * r + (rf.natAbs : Int) * a ≤ m
theorem InvW.turn {n m a r af rf : Int} (h : InvW n m a r af rf) (hr : 0 < r) : InvW n m r (a % r) rf (af - a / r * rf) := by
  have q0 : 0 ≤ a / r := Int.ediv_nonneg (by have := h.a1; omega) (by omega)
  have e1 : a / r * r + a % r = a := by rw [Int.mul_comm]; exact Int.mul_ediv_add_emod a r
  have m0 := Int.emod_nonneg a (show r ≠ 0 by omega)
  have m1 := Int.emod_lt_of_pos a hr
  refine ⟨by omega, by have := h.r1; omega, m0, by have := h.r1; omega, ?_, h.d2, ?_, ?_⟩
  · have hg := h.g
    obtain ⟨A, rfl⟩ : ∃ A : Nat, a = (A : Int) := ⟨a.toNat, by have := h.a1; omega⟩
    obtain ⟨R, rfl⟩ : ∃ R : Nat, r = (R : Int) := ⟨r.toNat, by omega⟩
    have hg2 : Nat.gcd A R = 1 := hg
    show Nat.gcd R ((A : Int) % (R : Int)).natAbs = 1
    rw [show ((A : Int) % (R : Int)).natAbs = A % R by rw [← Int.natCast_emod]; rfl, Nat.gcd_comm, ← Nat.gcd_rec, Nat.gcd_comm]
    exact hg2
  · obtain ⟨u, hu⟩ := h.d1
    obtain ⟨v, hv⟩ := h.d2
    refine ⟨u - a / r * v, ?_⟩
    rw [Int.sub_mul, Int.mul_assoc, Int.mul_sub, ← hu, Int.mul_left_comm m, ← hv, Int.mul_sub]
    omega
  · have s := h.sz
    have k := abs_step (af := af) (rf := rf) q0
    have k2 := Int.mul_le_mul_of_nonneg_right k (show 0 ≤ r by omega)
    rw [Int.add_mul] at k2
    have e2 : a / r * (rf.natAbs : Int) * r = (rf.natAbs : Int) * (a / r * r) := by
      rw [Int.mul_comm (a / r) (rf.natAbs : Int), Int.mul_assoc]
    rw [e2] at k2
    have e3 : (rf.natAbs : Int) * a = (rf.natAbs : Int) * (a / r * r) + (rf.natAbs : Int) * (a % r) := by rw [← Int.mul_add, e1]
    omega
theorem InvW.bd {n m a r af rf : Int} (h : InvW n m a r af rf) (hm : Bd m) : Bd rf := by
  have s := h.sz
  have k := le_mul_abs (a := rf) h.a1
  have z : 0 ≤ (af.natAbs : Int) * r := Int.mul_nonneg (by omega) h.r0
  have e : (rf.natAbs : Int) ≤ m := by omega
  exact Nat.lt_of_le_of_lt (by omega) hm
theorem inv_end {n m af : Int} (h : m ∣ af * n - 1) : m ∣ n * (af % m) - 1 := by
  obtain ⟨u, hu⟩ := h
  refine ⟨u - n * (af / m), ?_⟩
  have e := Int.mul_ediv_add_emod af m
  have e2 : n * (af % m) = n * af - n * (m * (af / m)) := by rw [← Int.mul_sub]; congr 1; omega
  rw [e2, Int.mul_sub, ← hu, Int.mul_left_comm m n, Int.mul_comm af n]
  omega
theorem gcd_start {n m : Nat} (h : Nat.gcd n m = 1) : Int.gcd (m : Int) ((n : Int) % (m : Int)) = 1 := by
  show Nat.gcd m ((n : Int) % (m : Int)).natAbs = 1
  rw [show ((n : Int) % (m : Int)).natAbs = n % m by rw [← Int.natCast_emod]; rfl, Nat.gcd_comm, ← Nat.gcd_rec, Nat.gcd_comm]
  exact h
section
variable {K : PySem.W.Frag} {H : Hp} {v : V} {m r : Nat} {Q : VK}
theorem r_c0 (h : IsC K H v m r) (q : Q (.int (m : Int)) H) : rIxT K v (.int 0) H Q := by
  obtain ⟨p, rfl, hp⟩ := h
  exact r_ixT hp atI0 q
theorem r_c1 (h : IsC K H v m r) (q : Q (.int (r : Int)) H) : rIxT K v (.int 1) H Q := by
  obtain ⟨p, rfl, hp⟩ := h
  exact r_ixT hp atI1 q
theorem r_isC {b : Bool} (h : IsC K H v m r) (q : Q (.bl true) H) : rIsi K [v, .ty "tuple"] H Q := by
  obtain ⟨p, rfl, hp⟩ := h
  exact r_isi (tyx_tup hp) k_tt q
theorem r_lenC {R : List V → Prop} (h : IsC K H v m r) (q : R [.int (m : Int), .int (r : Int)]) : ∃ p' ys', [v] = [V.ref p'] ∧ (SqL K H p' ys' ∨ SqT K H p' ys') ∧ R ys' := by
  obtain ⟨p, rfl, hp⟩ := h
  exact r_lenT hp q
theorem r_neD {x y : V} {a b : PyData} (ha : Dp K H x a) (hb : Dp K H y b) (h1 : SeqAt.shaped a = true) (h2 : SeqAt.shaped b = true) (q : Q (.bl (!PyData.eqv a b)) H) : rNeD K x y H Q := ⟨a, b, ha, hb, h1, h2, q⟩
theorem r_eqDD {x y : V} {a b : PyData} (ha : Dp K H x a) (hb : Dp K H y b) (h1 : SeqAt.shaped a = true) (h2 : SeqAt.shaped b = true) (q : Q (.bl (PyData.eqv a b)) H) : rEqD K x y H Q := ⟨a, b, ha, hb, h1, h2, q⟩
theorem r_neO {x y : V} {o o' : Option (Nat × Nat)} (ha : OptC K H x o) (hb : OptC K H y o') (q : Q (.bl (!decide (o = o'))) H) : rNeD K x y H Q := r_neD ha.dp hb.dp shp_odat.ok shp_odat.ok (by rw [odat_eqv]; exact q)
theorem r_eqO {x y : V} {o o' : Option (Nat × Nat)} (ha : OptC K H x o) (hb : OptC K H y o') (q : Q (.bl (decide (o = o'))) H) : rEqD K x y H Q := r_eqDD ha.dp hb.dp shp_odat.ok shp_odat.ok (by rw [odat_eqv]; exact q)
theorem nat_mod_cast {a b c : Nat} : decide ((a : Int) % (b : Int) = (c : Int)) = decide (a % b = c) := decide_eq_decide.mpr (by rw [← Int.natCast_emod]; omega)
theorem natV {l : List Nat} : l.map (fun k : Nat => V.int (k : Int)) = (l.map fun k : Nat => (k : Int)).map V.int := by rw [List.map_map]; rfl
theorem r_neNats {a b : Addr} {xs ys : List Nat} (hx : SqL K H a (xs.map fun k : Nat => V.int (k : Int))) (hy : SqL K H b (ys.map fun k : Nat => V.int (k : Int))) (q : Q (.bl (!decide (xs = ys))) H) : rNeD K (.ref a) (.ref b) H Q := by
  rw [natV] at hx hy
  refine r_neD (dp_ints hx) (dp_ints hy) shp_ints.ok shp_ints.ok ?_
  rw [List.map_map, List.map_map, eqv_list (f := PyData.int ∘ fun k : Nat => (k : Int)) (fun x y => by show PyData.eqv (.int (x : Int)) (.int (y : Int)) = _; rw [eqv_int]; exact decide_eq_decide.mpr (by omega))]
  exact q
theorem comp_filter {i n : Nat} {σ : L2.St} {H1 : Hp} {Dl : Addr} {tt : TT} {Qd : Hp → Prop} (p : Nat → Bool) (hi : i < σ.length) (hn : n < 1000000) (hD : H1 Dl = none)
    (ht : ∀ (k : Nat) H', k < n → Same H1 H' → ∀ R : Bool → Hp → Prop, (∀ H2, Same H' H2 → R (p k) H2) → tt ((wipe σ [i]).set i (some (.int (k : Int)))) H' R)
    (hq : ∀ H', Same H1 H' → H' Dl = some (.lst (((List.range n).filter p).map fun k : Nat => V.int (k : Int))) → Qd H') : LcW (Itr 0 n) (gName i) tt (tVar i) [i] σ H1 Dl Qd := by
  refine comp_range (fun j H' => Same H1 H' ∧ H' Dl = some (.lst (((List.range j).filter p).map fun k : Nat => V.int (k : Int)))) ⟨Same.new hD, upd_same⟩ ?_ (fun H' ⟨a, b⟩ => hq H' a b)
  rintro j H' hj ⟨sm, hl⟩
  refine ⟨?_, ht j H' hj sm _ fun H2 s2 => ?_⟩
  · show ((σ.set i none).set i _).set i none = σ.set i none
    rw [List.set_set, List.set_set]
  · have hl2 := s2 _ _ hl
    have ln : (((List.range j).filter p).map fun k : Nat => V.int (k : Int)).length ≤ j := by
      rw [List.length_map]
      have := List.length_filter_le p (List.range j)
      rw [List.length_range] at this
      exact this
    have sm2 : ∀ o, Same H1 (upd H2 Dl o) := fun o b u e => by
      rw [upd_ne (ne_of_none e hD)]
      exact s2 _ _ (sm _ _ e)
    cases hp : p j with
    | true =>
      refine r_T (r_var (v := .int (j : Int)) ?_ ⟨_, hl2, Nat.lt_of_le_of_lt ln (Nat.lt_of_lt_of_le (Nat.lt_trans hj hn) (by decide)), sm2 _, ?_⟩)
      · show ((σ.set i none).set i _)[i]? = _
        rw [List.getElem?_set_self (by rw [List.length_set]; exact hi)]
      · rw [List.range_succ, List.filter_append, List.map_append, List.filter_cons, if_pos hp]
        exact upd_same
    | false =>
      refine r_F ⟨sm.trans s2, ?_⟩
      rw [List.range_succ, List.filter_append, List.map_append, List.filter_cons, if_neg (by rw [hp]; decide)]
      show H2 Dl = some (.lst (_ ++ []))
      rw [List.append_nil]
      exact hl2
end
theorem IsC.kept {K : PySem.W.Frag} {l : Addr} {H H' : Hp} {ys : List V} {v : V} {m r : Nat} (h : IsC K H v m r) (k : Kept l H H') (hl : H l = some (.lst ys)) : IsC K H' v m r := let ⟨p, e, q⟩ := h; ⟨p, e, k.tup hl q⟩
theorem OptC.kept {K : PySem.W.Frag} {l : Addr} {H H' : Hp} {ys : List V} {v : V} : ∀ {o : Option (Nat × Nat)}, OptC K H v o → Kept l H H' → H l = some (.lst ys) → OptC K H' v o
  | none, h, _, _ => h
  | some (_, _), h, k, hl => IsC.kept h k hl
def E300 : Int := ((10 : Int) ^ 60) ^ 5
theorem e300_eq : E300 + 7 = (G300 : Int) := by decide +kernel
theorem r_pow300 {H : Hp} {Q : VK} (h : Q (.int E300) H) : rI CPowW (fun i j => V.int (i ^ j.toNat)) (.int ((10 : Int) ^ 60)) (.int 5) H Q := pw_ok (by decide) (by decide +kernel) (by decide +kernel) h
theorem bd_g300 : Bd ((G300 : Nat) : Int) := by
  have h2 : G300 < 2 ^ 4000 := by decide +kernel
  exact Nat.lt_of_le_of_lt (show (((G300 : Nat) : Int)).natAbs ≤ G300 by omega) h2
theorem bd_2g300 {n : Nat} (h : n ≤ 4 * G300) : Bd (n : Int) := by
  have h2 : 4 * G300 < 2 ^ 4000 := by decide +kernel
  exact Nat.lt_of_le_of_lt (show ((n : Int)).natAbs ≤ 4 * G300 by omega) h2
theorem r_revL {K : PySem.W.Frag} {σ : L2.St} {H : Hp} {Q : VK} {te : TE} (h : te σ H fun x H1 => ∃ a xs, x = .ref a ∧ SqL K H1 a xs ∧ ∀ p, H1 p = none → Q (.ref p) (upd H1 p (.lst xs.reverse))) : tRevL K te σ H Q := h
/-! ### lists of classes -/
theorem dvd_lcm_gcds {d a b : Nat} (pd : 0 < d) (h : d ∣ Nat.lcm a b) : d ∣ Nat.lcm (Nat.gcd d a) (Nat.gcd d b) := by
  have gp : 0 < Nat.gcd d (Nat.gcd a b) := Nat.gcd_pos_of_pos_left _ pd
  have hab : d * Nat.gcd a b ∣ a * b := by
    have e := Nat.gcd_mul_lcm a b
    rw [← e, Nat.mul_comm]
    exact Nat.mul_dvd_mul_left _ h
  have T : d * Nat.gcd d (Nat.gcd a b) ∣ Nat.gcd d a * Nat.gcd d b := by
    rw [← Nat.gcd_mul_left (Nat.gcd d a) d b, ← Nat.gcd_mul_right d d a, ← Nat.gcd_mul_right d b a]
    refine Nat.dvd_gcd (Nat.dvd_gcd ?_ ?_) (Nat.dvd_gcd ?_ ?_)
    · exact Nat.mul_dvd_mul_left _ (Nat.gcd_dvd_left _ _)
    · rw [Nat.mul_comm a d]
      exact Nat.mul_dvd_mul_left _ (Nat.dvd_trans (Nat.gcd_dvd_right _ _) (Nat.gcd_dvd_left _ _))
    · exact Nat.mul_dvd_mul_left _ (Nat.dvd_trans (Nat.gcd_dvd_right _ _) (Nat.gcd_dvd_right _ _))
    · exact Nat.dvd_trans (Nat.mul_dvd_mul_left _ (Nat.gcd_dvd_right _ _)) hab
  have e2 := Nat.gcd_mul_lcm (Nat.gcd d a) (Nat.gcd d b)
  have g2 : Nat.gcd (Nat.gcd d a) (Nat.gcd d b) ∣ Nat.gcd d (Nat.gcd a b) :=
    Nat.dvd_gcd (Nat.dvd_trans (Nat.gcd_dvd_left _ _) (Nat.gcd_dvd_left _ _)) (Nat.dvd_gcd (Nat.dvd_trans (Nat.gcd_dvd_left _ _) (Nat.gcd_dvd_right _ _)) (Nat.dvd_trans (Nat.gcd_dvd_right _ _) (Nat.gcd_dvd_right _ _)))
  rw [← e2] at T
  have T2 : d * Nat.gcd d (Nat.gcd a b) ∣ Nat.lcm (Nat.gcd d a) (Nat.gcd d b) * Nat.gcd d (Nat.gcd a b) := by
    refine Nat.dvd_trans T ?_
    rw [Nat.mul_comm]
    exact Nat.mul_dvd_mul_left _ g2
  exact Nat.dvd_of_mul_dvd_mul_right gp T2
/-- the least common multiple of a list -/
def lcmL (ms : List Nat) : Nat := ms.foldl Nat.lcm 1
theorem lcmL_snoc (ms : List Nat) (m : Nat) : lcmL (ms ++ [m]) = Nat.lcm (lcmL ms) m := by
  unfold lcmL
  rw [List.foldl_append]
  rfl
theorem list_snoc {α : Type} {P : List α → Prop} (h0 : P []) (hs : ∀ l x, P l → P (l ++ [x])) : ∀ l, P l := by
  have key : ∀ l r : List α, P r → P (r ++ l) := by
    intro l
    induction l with
    | nil => intro r hr; rw [List.append_nil]; exact hr
    | cons x l ih =>
      intro r hr
      have := ih (r ++ [x]) (hs r x hr)
      rw [List.append_assoc] at this
      exact this
  intro l
  exact key l [] h0
theorem lcmL_pos : ∀ {ms : List Nat}, (∀ m ∈ ms, 0 < m) → 0 < lcmL ms := fun {ms} => by
  refine list_snoc (P := fun ms => (∀ m ∈ ms, 0 < m) → 0 < lcmL ms) (fun _ => by decide) (fun l x ih h => ?_) ms
  rw [lcmL_snoc]
  exact Nat.lcm_pos (ih fun m hm => h m (List.mem_append_left _ hm)) (h x (by simp))
theorem dvd_lcmL : ∀ {ms : List Nat} {m : Nat}, m ∈ ms → m ∣ lcmL ms := fun {ms} => by
  refine list_snoc (P := fun ms => ∀ {m : Nat}, m ∈ ms → m ∣ lcmL ms) (fun {_} h => absurd h List.not_mem_nil) (fun l x ih {m} h => ?_) ms
  rw [lcmL_snoc]
  rcases List.mem_append.mp h with h | h
  · exact Nat.dvd_trans (ih h) (Nat.dvd_lcm_left _ _)
  · rw [List.mem_singleton] at h
    subst h
    exact Nat.dvd_lcm_right _ _
theorem lcmL_dvd : ∀ {ms : List Nat} {k : Nat}, (∀ m ∈ ms, m ∣ k) → lcmL ms ∣ k := fun {ms} => by
  refine list_snoc (P := fun ms => ∀ {k : Nat}, (∀ m ∈ ms, m ∣ k) → lcmL ms ∣ k) (fun {_} _ => Nat.one_dvd _) (fun l x ih {k} h => ?_) ms
  rw [lcmL_snoc]
  exact Nat.lcm_dvd (ih fun m hm => h m (List.mem_append_left _ hm)) (h x (by simp))
theorem lcmL_le {B : Nat} : ∀ {ms : List Nat}, (∀ m ∈ ms, 0 < m) → (∀ m ∈ ms, m ≤ B) → lcmL ms ≤ B ^ ms.length := fun {ms} => by
  refine list_snoc (P := fun ms => (∀ m ∈ ms, 0 < m) → (∀ m ∈ ms, m ≤ B) → lcmL ms ≤ B ^ ms.length) (fun _ _ => by show 1 ≤ B ^ 0; rw [Nat.pow_zero]; exact Nat.le_refl _) (fun l x ih h0 h => ?_) ms
  rw [lcmL_snoc, List.length_append, List.length_singleton, Nat.pow_succ]
  have a := ih (fun m hm => h0 m (List.mem_append_left _ hm)) (fun m hm => h m (List.mem_append_left _ hm))
  have b := h x (by simp)
  have p : 0 < lcmL l * x := Nat.mul_pos (lcmL_pos fun m hm => h0 m (List.mem_append_left _ hm)) (h0 x (by simp))
  exact Nat.le_trans (Nat.le_of_dvd p (Nat.lcm_dvd (Nat.dvd_mul_right _ _) (Nat.dvd_mul_left _ _))) (Nat.mul_le_mul a b)
theorem gcd_lcmL_dvd {m y : Nat} (pm : 0 < m) : ∀ {ms : List Nat}, (∀ a ∈ ms, 0 < a) → (∀ a ∈ ms, Nat.gcd m a ∣ y) → Nat.gcd m (lcmL ms) ∣ y := fun {ms} => by
  refine list_snoc (P := fun ms => (∀ a ∈ ms, 0 < a) → (∀ a ∈ ms, Nat.gcd m a ∣ y) → Nat.gcd m (lcmL ms) ∣ y) (fun _ _ => ?_) (fun l x ih h0 h => ?_) ms
  · show Nat.gcd m 1 ∣ y
    rw [Nat.gcd_one_right]
    exact Nat.one_dvd _
  · rw [lcmL_snoc]
    have dp : 0 < Nat.gcd m (Nat.lcm (lcmL l) x) := Nat.gcd_pos_of_pos_left _ pm
    refine Nat.dvd_trans (dvd_lcm_gcds dp (Nat.gcd_dvd_right _ _)) (Nat.lcm_dvd ?_ ?_)
    · refine Nat.dvd_trans (Nat.dvd_gcd (Nat.dvd_trans (Nat.gcd_dvd_left _ _) (Nat.gcd_dvd_left _ _)) (Nat.gcd_dvd_right _ _)) (ih (fun a ha => h0 a (List.mem_append_left _ ha)) fun a ha => h a (List.mem_append_left _ ha))
    · exact Nat.dvd_trans (Nat.dvd_gcd (Nat.dvd_trans (Nat.gcd_dvd_left _ _) (Nat.gcd_dvd_left _ _)) (Nat.gcd_dvd_right _ _)) (h x (by simp))
/-- which pairs of a list of classes have a mark in common -/
def FitsAt (zs : List (Nat × Nat)) (i j : Nat) : Prop := ∀ z w, zs[i]? = some z → zs[j]? = some w → Fits z.1 z.2 w.1 w.2
def BarR (zs : List (Nat × Nat)) : Option (Nat × Nat) → Prop
  | none => ∀ i j, i < j → j < zs.length → FitsAt zs i j
  | some (i, j) => i < j ∧ j < zs.length ∧ ¬ FitsAt zs i j ∧ ∀ i' j', i' < j' → j' < zs.length → (i' < i ∨ i' = i ∧ j' < j) → FitsAt zs i' j'
theorem bar_one {zs : List (Nat × Nat)} : ∀ {o o' : Option (Nat × Nat)}, BarR zs o → BarR zs o' → o = o'
  | none, none, _, _ => rfl
  | none, some (i, j), h, ⟨a, b, c, _⟩ => absurd (h i j a b) c
  | some (i, j), none, ⟨a, b, c, _⟩, h => absurd (h i j a b) c
  | some (i, j), some (i', j'), ⟨a, b, c, d⟩, ⟨a', b', c', d'⟩ => by
    have h1 : ¬ (i' < i ∨ i' = i ∧ j' < j) := fun z => c' (d i' j' a' b' z)
    have h2 : ¬ (i < i' ∨ i = i' ∧ j < j') := fun z => c (d' i j a b z)
    have e1 : i = i' := by omega
    have e2 : j = j' := by omega
    rw [e1, e2]
/-- all marks of all classes -/
def AllIn (zs : List (Nat × Nat)) (h : Nat) : Prop := ∀ z ∈ zs, h % z.1 = z.2
/-- pairs suffice: one more class meets the common one -/
theorem next_fits {zs : List (Nat × Nat)} {m r L x : Nat} (hz : ∀ z ∈ zs, z.2 < z.1) (hm : r < m) (hL : L = lcmL (zs.map (·.1))) (hx : AllIn zs x) (hf : ∀ z ∈ zs, Fits z.1 z.2 m r) : Fits L x m r := by
  have key : Nat.gcd m L ∣ ((x : Int) - r).natAbs := by
    rw [hL]
    refine gcd_lcmL_dvd (by omega) (fun a ha => ?_) fun a ha => ?_
    · obtain ⟨z, hz', rfl⟩ := List.mem_map.mp ha
      have := hz z hz'
      omega
    · obtain ⟨z, hz', rfl⟩ := List.mem_map.mp ha
      have f : ((z.2 : Int) - r) % ((Nat.gcd z.1 m : Nat) : Int) = 0 := hf z hz'
      have d1 : ((Nat.gcd z.1 m : Nat) : Int) ∣ (z.2 : Int) - r := Int.dvd_of_emod_eq_zero f
      have d2 : ((Nat.gcd z.1 m : Nat) : Int) ∣ (x : Int) - z.2 := by
        refine Int.dvd_trans (Int.natCast_dvd_natCast.mpr (Nat.gcd_dvd_left z.1 m)) (dvd_of_mods ?_)
        rw [hx z hz', Nat.mod_eq_of_lt (hz z hz')]
      have d3 : ((Nat.gcd z.1 m : Nat) : Int) ∣ (x : Int) - r := by
        have e : (x : Int) - r = ((x : Int) - z.2) + ((z.2 : Int) - r) := by omega
        rw [e]
        exact Int.dvd_add d2 d1
      rw [Nat.gcd_comm]
      exact Int.ofNat_dvd_left.mp d3
  show ((x : Int) - r) % ((Nat.gcd L m : Nat) : Int) = 0
  rw [Nat.gcd_comm]
  exact Int.emod_eq_zero_of_dvd (Int.ofNat_dvd_left.mpr key)
/-- what is told of a list of classes: a bar, or the common class -/
def AllR (zs : List (Nat × Nat)) : Sum (Nat × Nat) (Nat × Nat) → Prop
  | .inl ij => BarR zs (some ij)
  | .inr (L, x) => BarR zs none ∧ x < L ∧ L = lcmL (zs.map (·.1)) ∧ AllIn zs x
theorem all_one {zs : List (Nat × Nat)} (hz : ∀ z ∈ zs, z.2 < z.1) : ∀ {o o' : Sum (Nat × Nat) (Nat × Nat)}, AllR zs o → AllR zs o' → o = o'
  | .inl a, .inl b, h, h' => by have e := bar_one (zs := zs) (o := some a) (o' := some b) h h'; cases e; rfl
  | .inl a, .inr (_, _), h, h' => by have e := bar_one (zs := zs) (o := some a) (o' := none) h h'.1; cases e
  | .inr (_, _), .inl a, h', h => by have e := bar_one (zs := zs) (o := some a) (o' := none) h h'.1; cases e
  | .inr (L, x), .inr (L', x'), ⟨_, hx, hL, hA⟩, ⟨_, hx', hL', hA'⟩ => by
    have e : L = L' := hL.trans hL'.symm
    subst e
    have d : lcmL (zs.map (·.1)) ∣ ((x : Int) - x').natAbs := lcmL_dvd fun m hm => by
      obtain ⟨z, hz', rfl⟩ := List.mem_map.mp hm
      exact Int.ofNat_dvd_left.mp (dvd_of_mods ((hA z hz').trans (hA' z hz').symm))
    rw [← hL] at d
    have d2 : (L : Int) ∣ (x : Int) - x' := Int.ofNat_dvd_left.mpr d
    have e2 := mods_of_dvd d2
    rw [Nat.mod_eq_of_lt hx, Nat.mod_eq_of_lt hx'] at e2
    rw [e2]
theorem all_snoc {zs : List (Nat × Nat)} {m r L x L' x' : Nat} (hz : ∀ z ∈ zs, z.2 < z.1) (hL : L = lcmL (zs.map (·.1))) (hA : AllIn zs x) (M : MeetR L x m r (some (L', x'))) :
    L' = lcmL ((zs ++ [(m, r)]).map (·.1)) ∧ x' < L' ∧ AllIn (zs ++ [(m, r)]) x' := by
  obtain ⟨_, h1, h2, h3, h4⟩ := M
  refine ⟨?_, h2, fun z hz' => ?_⟩
  · rw [List.map_append, List.map_singleton, lcmL_snoc, ← hL, h1, lcm_of]
  · rcases List.mem_append.mp hz' with hm | hm
    · rw [← hA z hm, ← h3, hL]
      exact (mod_mod_dvd (dvd_lcmL (List.mem_map.mpr ⟨z, hm, rfl⟩))).symm
    · rw [List.mem_singleton] at hm
      subst hm
      exact h4
theorem take_snoc {α : Type} {l : List α} {i : Nat} {x : α} (h : l[i]? = some x) : l.take (i + 1) = l.take i ++ [x] := by
  rw [List.take_add_one, h]
  rfl
theorem lcm_take_le {zs : List (Nat × Nat)} (hz : ∀ z ∈ zs, z.2 < z.1) (i : Nat) : lcmL ((zs.take i).map (·.1)) ≤ lcmL (zs.map (·.1)) := by
  refine Nat.le_of_dvd (lcmL_pos fun m hm => ?_) (lcmL_dvd fun m hm => ?_)
  · obtain ⟨z, hz', rfl⟩ := List.mem_map.mp hm
    have := hz z hz'
    omega
  · obtain ⟨z, hz', rfl⟩ := List.mem_map.mp hm
    exact dvd_lcmL (List.mem_map.mpr ⟨z, List.mem_of_mem_take hz', rfl⟩)
/-! ### written lists -/
def fitsB (zs : List (Nat × Nat)) (i j : Nat) : Bool := match zs[i]?, zs[j]? with
  | some z, some w => decide (Fits z.1 z.2 w.1 w.2)
  | _, _ => true
theorem fitsB_iff {zs : List (Nat × Nat)} {i j : Nat} : fitsB zs i j = true ↔ FitsAt zs i j := by
  unfold fitsB FitsAt
  cases h1 : zs[i]? with
  | none => simp
  | some z =>
    cases h2 : zs[j]? with
    | none => simp
    | some w => simp
def barB (zs : List (Nat × Nat)) : Option (Nat × Nat) → Bool
  | none => (List.range zs.length).all fun j => (List.range j).all fun i => fitsB zs i j
  | some (i, j) => decide (i < j ∧ j < zs.length) && !fitsB zs i j && (List.range zs.length).all fun j' => (List.range j').all fun i' => if i' < i ∨ i' = i ∧ j' < j then fitsB zs i' j' else true
theorem barB_ok {zs : List (Nat × Nat)} : ∀ {o : Option (Nat × Nat)}, barB zs o = true → BarR zs o
  | none, h => fun i j h1 h2 => fitsB_iff.mp (List.all_eq_true.mp (List.all_eq_true.mp h j (List.mem_range.mpr h2)) i (List.mem_range.mpr h1))
  | some (i, j), h => by
    have h0 : (decide (i < j ∧ j < zs.length) && !fitsB zs i j && (List.range zs.length).all fun j' => (List.range j').all fun i' => if i' < i ∨ i' = i ∧ j' < j then fitsB zs i' j' else true) = true := h
    rw [Bool.and_eq_true, Bool.and_eq_true] at h0
    obtain ⟨⟨h1, h2⟩, h3⟩ := h0
    have h1 := of_decide_eq_true h1
    refine ⟨h1.1, h1.2, fun f => ?_, fun i' j' a b c => ?_⟩
    · rw [fitsB_iff.mpr f] at h2
      cases h2
    · have := List.all_eq_true.mp (List.all_eq_true.mp h3 j' (List.mem_range.mpr b)) i' (List.mem_range.mpr a)
      rw [if_pos c] at this
      exact fitsB_iff.mp this
def allB (zs : List (Nat × Nat)) : Sum (Nat × Nat) (Nat × Nat) → Bool
  | .inl ij => barB zs (some ij)
  | .inr (L, x) => barB zs none && decide (x < L) && decide (L = lcmL (zs.map (·.1))) && zs.all fun z => decide (x % z.1 = z.2)
theorem allB_ok {zs : List (Nat × Nat)} : ∀ {o : Sum (Nat × Nat) (Nat × Nat)}, allB zs o = true → AllR zs o
  | .inl ij, h => barB_ok (o := some ij) h
  | .inr (L, x), h => by
    have h0 : (barB zs none && decide (x < L) && decide (L = lcmL (zs.map (·.1))) && zs.all fun z => decide (x % z.1 = z.2)) = true := h
    rw [Bool.and_eq_true, Bool.and_eq_true, Bool.and_eq_true] at h0
    obtain ⟨⟨⟨h1, h2⟩, h3⟩, h4⟩ := h0
    exact ⟨barB_ok h1, of_decide_eq_true h2, of_decide_eq_true h3, fun z hz => of_decide_eq_true (List.all_eq_true.mp h4 z hz)⟩
theorem good_all {zs : List (Nat × Nat)} (h : (zs.all fun z => decide (z.2 < z.1)) = true) : ∀ z ∈ zs, z.2 < z.1 := fun z hz => of_decide_eq_true (List.all_eq_true.mp h z hz)
/-! ### classes that take 2 ^ n marks in a row take all: sums of powers modulo a prime -/
def PP : Int := 2521
def GG : Nat := 17
/-- a sum of powers: pairs (factor, base) -/
def ev (l : List (Int × Int)) (x : Nat) : Int := (l.map fun t => t.1 * t.2 ^ x).sum
theorem ev_cons (t : Int × Int) (l : List (Int × Int)) (x : Nat) : ev (t :: l) x = t.1 * t.2 ^ x + ev l x := by
  unfold ev
  rw [List.map_cons, List.sum_cons]
theorem ev_app (l r : List (Int × Int)) (x : Nat) : ev (l ++ r) x = ev l x + ev r x := by
  unfold ev
  rw [List.map_append, List.sum_append]
theorem ev_step (b : Int) : ∀ (l : List (Int × Int)) (x : Nat), ev (l.map fun t => (t.1 * (t.2 - b), t.2)) x = ev l (x + 1) - b * ev l x
  | [], x => by simp [ev]
  | t :: l, x => by
    rw [List.map_cons, ev_cons, ev_cons, ev_cons, ev_step b l x, Int.pow_succ, Int.mul_add]
    have e : t.1 * (t.2 - b) * t.2 ^ x = t.1 * (t.2 ^ x * t.2) - b * (t.1 * t.2 ^ x) := by
      rw [Int.mul_sub, Int.sub_mul]
      congr 1
      · rw [Int.mul_assoc, Int.mul_comm t.2]
      · rw [Int.mul_comm t.1 b, Int.mul_assoc]
    rw [e]
    omega
/-- as many noughts in a row as there are powers make all noughts -/
theorem ev_zero (p : Int) : ∀ (l : List (Int × Int)) (x0 : Nat), (∀ k, k < l.length → p ∣ ev l (x0 + k)) → ∀ k, p ∣ ev l (x0 + k)
  | [], x0, _, k => by simp [ev]
  | t :: l, x0, h, k => by
    have hg : ∀ k, k < l.length → p ∣ ev (l.map fun u => (u.1 * (u.2 - t.2), u.2)) (x0 + k) := fun k hk => by
      have h1 := h k (by rw [List.length_cons]; omega)
      have h2 := h (k + 1) (by rw [List.length_cons]; omega)
      rw [ev_step]
      have e : ev l (x0 + k + 1) - t.2 * ev l (x0 + k) = ev (t :: l) (x0 + (k + 1)) - t.2 * ev (t :: l) (x0 + k) := by
        rw [ev_cons, ev_cons, Int.mul_add, ← Nat.add_assoc, Int.pow_succ]
        have : t.2 * (t.1 * t.2 ^ (x0 + k)) = t.1 * (t.2 ^ (x0 + k) * t.2) := by rw [Int.mul_left_comm, Int.mul_comm t.2]
        rw [this]
        omega
      rw [e]
      exact Int.dvd_sub h2 (Int.dvd_trans h1 (Int.dvd_mul_left _ _))
    have ih := ev_zero p (l.map fun u => (u.1 * (u.2 - t.2), u.2)) x0 (by rw [List.length_map]; exact hg)
    induction k with
    | zero => exact h 0 (by rw [List.length_cons]; omega)
    | succ k ihk =>
      have hs := ih k
      rw [ev_step] at hs
      have e : ev (t :: l) (x0 + (k + 1)) = (ev l (x0 + k + 1) - t.2 * ev l (x0 + k)) + t.2 * ev (t :: l) (x0 + k) := by
        rw [ev_cons, ev_cons, Int.mul_add, ← Nat.add_assoc, Int.pow_succ]
        have : t.2 * (t.1 * t.2 ^ (x0 + k)) = t.1 * (t.2 ^ (x0 + k) * t.2) := by rw [Int.mul_left_comm, Int.mul_comm t.2]
        rw [this]
        omega
      rw [e]
      exact Int.dvd_add hs (Int.dvd_trans ihk (Int.dvd_mul_left _ _))
termination_by l => l.length
/-- one factor more -/
def grow (l : List (Int × Int)) (c q : Int) : List (Int × Int) := l ++ l.map fun t => (-(t.1 * c), t.2 * q)
theorem grow_len (l : List (Int × Int)) (c q : Int) : (grow l c q).length = 2 * l.length := by
  unfold grow
  rw [List.length_append, List.length_map]
  omega
theorem ev_neg (c q : Int) : ∀ (l : List (Int × Int)) (x : Nat), ev (l.map fun t => (-(t.1 * c), t.2 * q)) x = -(ev l x * (c * q ^ x))
  | [], x => by simp [ev]
  | t :: l, x => by
    rw [List.map_cons, ev_cons, ev_cons, ev_neg c q l x, Int.add_mul, Int.mul_pow]
    have : -(t.1 * c) * (t.2 ^ x * q ^ x) = -(t.1 * t.2 ^ x * (c * q ^ x)) := by
      rw [Int.neg_mul]
      congr 1
      simp only [Int.mul_assoc, Int.mul_left_comm]
    rw [this]
    omega
theorem ev_grow (l : List (Int × Int)) (c q : Int) (x : Nat) : ev (grow l c q) x = ev l x * (1 - c * q ^ x) := by
  unfold grow
  rw [ev_app, ev_neg, Int.mul_sub, Int.mul_one]
  omega
/-- the sum of powers that is nought modulo the prime just at the marks of the classes -/
def coverL : List (Nat × Nat) → List (Int × Int)
  | [] => [(1, 1)]
  | z :: zs => grow (coverL zs) ((GG : Int) ^ (2520 / z.1 * (z.1 - z.2))) ((GG : Int) ^ (2520 / z.1))
theorem coverL_len : ∀ zs : List (Nat × Nat), (coverL zs).length = 2 ^ zs.length
  | [] => rfl
  | z :: zs => by
    show (grow (coverL zs) _ _).length = _
    rw [grow_len, coverL_len zs, List.length_cons, Nat.pow_succ]
    omega
theorem order_check : (List.range 2520).all (fun e => decide (GG ^ e % 2521 = 1 → e = 0)) = true := by decide +kernel
theorem order_full : GG ^ 2520 % 2521 = 1 := by decide +kernel
theorem prime_check : (List.range 2521).all (fun e => decide (e = 0 ∨ Nat.gcd e 2521 = 1)) = true := by decide +kernel
theorem order_iff (e : Nat) : GG ^ e % 2521 = 1 ↔ 2520 ∣ e := by
  have he : GG ^ e % 2521 = GG ^ (e % 2520) % 2521 := by
    conv => lhs; rw [← Nat.div_add_mod e 2520, Nat.pow_add, Nat.pow_mul, Nat.mul_mod, Nat.pow_mod, order_full, Nat.one_pow]
    rw [show 1 % 2521 = 1 from rfl, Nat.one_mul, Nat.mod_mod]
  rw [he]
  constructor
  · intro h
    have := of_decide_eq_true (List.all_eq_true.mp order_check (e % 2520) (List.mem_range.mpr (Nat.mod_lt _ (by decide)))) h
    exact Nat.dvd_of_mod_eq_zero this
  · intro h
    rw [Nat.mod_eq_zero_of_dvd h]
    rfl
theorem prime_mul {a b : Int} (h : PP ∣ a * b) : PP ∣ a ∨ PP ∣ b := by
  by_cases ha : PP ∣ a
  · exact .inl ha
  · right
    have h1 : (2521 : Nat) ∣ a.natAbs * b.natAbs := by
      rw [← Int.natAbs_mul]
      exact Int.ofNat_dvd_left.mp h
    have h2 : ¬ 2521 ∣ a.natAbs := fun z => ha (Int.ofNat_dvd_left.mpr z)
    have h3 : Nat.gcd (a.natAbs % 2521) 2521 = 1 := by
      have := of_decide_eq_true (List.all_eq_true.mp prime_check (a.natAbs % 2521) (List.mem_range.mpr (Nat.mod_lt _ (by decide))))
      rcases this with e | e
      · exact absurd (Nat.dvd_of_mod_eq_zero e) h2
      · exact e
    have h4 : Nat.Coprime 2521 a.natAbs := by
      show Nat.gcd 2521 a.natAbs = 1
      rw [Nat.gcd_rec]
      exact h3
    exact Int.ofNat_dvd_left.mpr (Nat.Coprime.dvd_of_dvd_mul_left h4 h1)
theorem factor_iff {m r : Nat} (d : m ∣ 2520) (pm : 0 < m) (hr : r < m) (x : Nat) : PP ∣ 1 - (GG : Int) ^ (2520 / m * (m - r)) * ((GG : Int) ^ (2520 / m)) ^ x ↔ x % m = r := by
  rw [← Int.pow_mul, ← Int.pow_add, ← Nat.mul_add]
  obtain ⟨k, hk⟩ := d
  have kp : 0 < k := by
    rcases Nat.eq_zero_or_pos k with e | e
    · rw [e] at hk; omega
    · exact e
  have e1 : 2520 / m = k := by rw [hk]; exact Nat.mul_div_cancel_left k pm
  rw [e1]
  have c1 : PP ∣ 1 - (GG : Int) ^ (k * (m - r + x)) ↔ GG ^ (k * (m - r + x)) % 2521 = 1 := by
    have e2 : ((GG : Int) ^ (k * (m - r + x))) = ((GG ^ (k * (m - r + x)) : Nat) : Int) := by rw [Int.natCast_pow]
    rw [e2]
    generalize GG ^ (k * (m - r + x)) = w
    unfold PP
    omega
  rw [c1, order_iff, hk, Nat.mul_comm m k, Nat.mul_dvd_mul_iff_left kp]
  constructor
  · rintro ⟨q, hq⟩
    have : x = m * (q - 1) + r := by
      have q1 : 1 ≤ q := by
        rcases Nat.eq_zero_or_pos q with e | e
        · rw [e, Nat.mul_zero] at hq; omega
        · exact e
      have : m * q = m * (q - 1) + m := by
        rw [← Nat.mul_succ]
        congr 1
        omega
      omega
    rw [this, Nat.mul_add_mod]
    exact Nat.mod_eq_of_lt hr
  · intro h
    refine ⟨x / m + 1, ?_⟩
    have := Nat.div_add_mod x m
    rw [Nat.mul_add, Nat.mul_one]
    omega
/-- marks that some of the classes take -/
def Taken (zs : List (Nat × Nat)) (x : Nat) : Prop := ∃ z ∈ zs, x % z.1 = z.2
theorem cover_iff : ∀ {zs : List (Nat × Nat)}, (∀ z ∈ zs, z.1 ∣ 2520 ∧ z.2 < z.1) → ∀ x, PP ∣ ev (coverL zs) x ↔ Taken zs x
  | [], _, x => by
    constructor
    · intro h
      have e : ev (coverL []) x = 1 := by
        show ((1 : Int) * 1 ^ x + 0) = 1
        rw [Int.one_pow]
        rfl
      rw [e] at h
      exact absurd h (by decide)
    · rintro ⟨z, hz, _⟩
      cases hz
  | z :: zs, hz, x => by
    obtain ⟨hd, hl⟩ := hz z List.mem_cons_self
    have ih := cover_iff (zs := zs) (fun w hw => hz w (List.mem_cons_of_mem _ hw)) x
    have f := factor_iff hd (by omega) hl x
    show PP ∣ ev (grow (coverL zs) _ _) x ↔ _
    rw [ev_grow]
    constructor
    · intro h
      rcases prime_mul h with h | h
      · obtain ⟨w, hw, e⟩ := ih.mp h
        exact ⟨w, List.mem_cons_of_mem _ hw, e⟩
      · exact ⟨z, List.mem_cons_self, f.mp h⟩
    · rintro ⟨w, hw, e⟩
      rcases List.mem_cons.mp hw with rfl | hw
      · exact Int.dvd_trans (f.mpr e) (Int.dvd_mul_left _ _)
      · exact Int.dvd_trans (ih.mpr ⟨w, hw, e⟩) (Int.dvd_mul_right _ _)
theorem ev_line (r m : Nat) : ∀ (l : List (Int × Int)) (k : Nat), ev (l.map fun t => (t.1 * t.2 ^ r, t.2 ^ m)) k = ev l (r + m * k)
  | [], k => by simp [ev]
  | t :: l, k => by
    rw [List.map_cons, ev_cons, ev_cons, ev_line r m l k, Int.mul_assoc, ← Int.pow_mul, ← Int.pow_add]
/-- classes with small moduli that take 2 ^ n marks in a row of a class take all of them -/
theorem taken_all {zs : List (Nat × Nat)} (hz : ∀ z ∈ zs, z.1 ∣ 2520 ∧ z.2 < z.1) {r m : Nat} (h : ∀ k, k < 2 ^ zs.length → Taken zs (r + m * k)) (k : Nat) : Taken zs (r + m * k) := by
  have := ev_zero PP ((coverL zs).map fun t => (t.1 * t.2 ^ r, t.2 ^ m)) 0 (fun k hk => by
    rw [List.length_map, coverL_len] at hk
    rw [Nat.zero_add, ev_line]
    exact (cover_iff hz _).mpr (h k hk)) k
  rw [Nat.zero_add, ev_line] at this
  exact (cover_iff hz _).mp this
end My

set_option linter.all false
namespace My
open PySem PySem.Spec PyProof.Rows L2
open C8 (Cal pe_c pe_gc)
/-! ### own exceptions as values -/
/-! ### own exceptions as values -/
abbrev bmVE : List Value := [.type "ValueError", .type "Exception", .type "BaseException", .type "object"]
/-- what the written part says of an own exception class without an __init__ of its own -/
structure XC (K : PySem.W.Frag) (C : Addr) : Prop where
  exc : PySem.W.excIn K C bmVE "ValueError.__new__" = true
  keep : PySem.W.keepIn K (.ref C) = true
  is : ExcC K C
  ty : PySem.W.typeIn K (.ref C) = some (.type "type")
theorem XC.raises {X : Cx} {C : Addr} (h : XC X.K C) : Raises X (.ref C) := raises_own h.is.hs h.ty
section
variable {X : Cx}
theorem Inv_kin {pins : List (Addr × Obj)} {σ : L2.St} {H : Hp} {s : Shared} (I : L2.Inv X pins σ H s) : X.K.In s.heap := fun a o e => I.bk a o (I.ok.mod.kin a o e)
theorem call_mkX {C : Addr} (h : XC X.K C) : CallR X (.ref C) (fun xs H Q => xs.length ≤ sizeLine ∧ ∀ a, H a = none → Q (.ref a) (upd H a (ExO (.ref C) a))) := by
  intro pins s σ H xs us Q I r hq
  obtain ⟨hl, q⟩ := hq
  obtain ⟨bm, N, nm, qn, bs, hdct, sn, sub, ab, col, dd, k0, k1, k2, k3, k5, mN, hC, hN, hi, hT⟩ := exc_obj (Inv_kin I) h.exc
  have hl' : us.length ≤ sizeLine := by rw [← r.length]; exact hl
  refine wpAny_call_exc_subT F.excBase_ValueError hT hC hN hi (fun h' e M => ?_) hl'
  obtain ⟨t, he, -, -⟩ := M.there
  have hH : H e = none := HOk.gone I.hok M.new
  exact ⟨.ref e, _, I.laidN M.keeps M.new hH (exO_ok he ⟨rfl, rfl⟩ rfl rfl rfl (show 4 < 6 by decide)), rfl, q e hH⟩
theorem pe_mkX {C : Addr} {x : Str} {e : Expr} {es : List Expr} {t : TA} {p pos : Pos} (hg : Gl X x) (hm : X.mg x = some (.ref C)) (h : XC X.K C) (ha : PA X (e :: es) t)
    (hd : (x == ("__debug__" : Str)) = false := by decide)
    (hs : starEach (e :: es) X.env = (false, eval e X.env) :: starEach es X.env := by rfl)
    (hs2 : ((PySem.backTo pos (starEach es X.env)).any fun x => x.fst) = false := by rfl) :
    PE X (.Call (.Name x p) (e :: es) [] pos) (tCB (fun xs H Q => xs.length ≤ sizeLine ∧ ∀ a, H a = none → Q (.ref a) (upd H a (ExO (.ref C) a))) t) := by
  refine ⟨fun pins s σ H Q I q => wpAny_Call_NameR ?_⟩
  refine wpAny_mono ((C8.pe_gc (v := .ref C) hg ⟨_, hm, rfl⟩ hd).run pins s σ H (fun v H' => v = .ref C ∧ H' = H) I ⟨rfl, rfl⟩) (fun u s1 r => ?_) (fun _ _ k => k)
  obtain ⟨v, H', I1, rv, rfl, rfl⟩ := r
  cases rv
  refine PySem.W.callWith_K I.ok.mod.kin h.keep ?_ hs hs2
  refine wpAny_mono (ha.run pos pins s1 σ H' _ I1 q) (fun us s2 r2 => ?_) (fun _ _ k => k)
  obtain ⟨vs, H2, I2, rvs, q2⟩ := r2
  exact ⟨Inv_kin I2, call_mkX h pins s2 σ H2 vs us Q I2 rvs q2⟩
theorem pe_mkX0 {C : Addr} {x : Str} {p pos : Pos} (hg : Gl X x) (hm : X.mg x = some (.ref C)) (h : XC X.K C)
    (hd : (x == ("__debug__" : Str)) = false := by decide) :
    PE X (.Call (.Name x p) [] [] pos) (fun _ H Q => ∀ a, H a = none → Q (.ref a) (upd H a (ExO (.ref C) a))) := by
  refine ⟨fun pins s σ H Q I q => wpAny_Call_NameR ?_⟩
  refine wpAny_mono ((C8.pe_gc (v := .ref C) hg ⟨_, hm, rfl⟩ hd).run pins s σ H (fun v H' => v = .ref C ∧ H' = H) I ⟨rfl, rfl⟩) (fun u s1 r => ?_) (fun _ _ k => k)
  obtain ⟨v, H', I1, rv, rfl, rfl⟩ := r
  cases rv
  refine PySem.W.callWith_K0 (Inv_kin I1) h.keep ?_
  exact call_mkX h pins s1 σ H' [] [] Q I1 .nil ⟨Nat.zero_le _, q⟩
/-- an own exception with class D stands at a -/
inductive IsX (H : Hp) (a D : Addr) : Prop where
  | plain : H a = some (ExO (.ref D) a) → IsX H a D
theorem call_isX : CallR X (.builtin "isinstance") (fun xs H Q => ∃ (a D : Addr) (c : V) (u : Value) (b : Bool), xs = [.ref a, c] ∧ ClsV c u ∧ ExcC X.K D ∧ H a = some (ExO (.ref D) a) ∧ PySem.W.kitOne X.K (.ref D) u = some b ∧ Q (.bl b) H) := by
  intro pins s σ H xs us Q I r hq
  obtain ⟨a, D, c, u, b, rfl, hc, hD, hH, hk, q⟩ := hq
  match us, r with
  | [v, w], .cons rv (.cons rw .nil) =>
    cases rv
    have e := hc.eq rw
    subst e
    have ok := I.hok a _ hH
    obtain ⟨⟨oe, vs, ha, hz, hd, -, -, -⟩, -⟩ := ok
    refine PySem.W.kia_one (PySem.W.handS_kitx_exc (ox := oe) hD.hg hD.hk hD.hs hD.hd hD.ha hD.hn hD.ht hD.hm) (Inv_kin I) (?_ : PySem.W.InstAt s.heap a oe D none) hk (by simp) (fun tk => ⟨.bl b, H, I.tok tk, rfl, q⟩)
    exact ⟨ha, hz.1, by unfold PySem.W.notCls; rw [hd], by rw [hz.2]; trivial⟩
end
end My

set_option linter.all false
namespace My
open PySem PySem.Spec PyProof.Rows L2
open C8 (Cal pe_c pe_gc)
/-! ### own exceptions as values -/
/-! ### a caught exception that is looked at behind the suite -/
def ExZ (cls : Value) (d : Option Addr) (a : Addr) : HO := .ext fun h => ∃ oe vs, h.get? a = some oe ∧ Zc cls d oe ∧ oe.data = .fields vs
def kpD (i : Nat) (cls : Value) (d : Option Addr) (a : Addr) (D : Ends) : Ends :=
  { nx := fun σ H => D.nx (List.set σ i none) (upd H a (ExZ cls d a)), rt := fun v H => D.rt v (upd H a (ExZ cls d a)), bk := fun σ H => D.bk (List.set σ i none) (upd H a (ExZ cls d a)), ct := fun σ H => D.ct (List.set σ i none) (upd H a (ExZ cls d a)) }
def wKeep (K : PySem.W.Frag) (c : Value) (i : Nat) (ts : TS) (Wout : WX) (D : Ends) : WX := fun cls d σ H =>
  ∃ b, PySem.W.exmOne K cls c = some b ∧ (b = true → ∀ a, H a = none → ts (kpD i cls d a D) (List.set σ i (some (.ref a))) H) ∧ (b = false → Wout cls d σ H)
section
variable {X : Cx}
theorem Inv_track {pins : List (Addr × Obj)} {σ : L2.St} {H : Hp} {s : Shared} (I : L2.Inv X pins σ H s) {a : Addr} {oe : Obj} {vs : Array Value} {φ : Heap → Prop}
    (hg : s.heap.get? a = some oe) (hd : oe.data = .fields vs) (hH : H a = none) (h0 : X.s_0.heap.get? a = none) (hp : ∀ p ∈ X.pn ++ pins, p.1 ≠ a) (hl : X.env.locals ≠ a)
    (ok : ObjOk X.prog X.w (upd H a (.ext φ)) s.heap a (.ext φ)) : L2.Inv X pins σ (upd H a (.ext φ)) s := by
  have ne : ∀ {b : Addr}, b ≠ a → upd H a (.ext φ) b = H b := fun h => upd_ne h
  refine ⟨I.ok, I.os, I.bare, ?_, I.loc, I.cell, ?_, ?_, ?_, ?_, I.len⟩
  · refine ⟨I.base.keep, I.base.slot, fun b o e hb hx => ?_, I.base.there, fun b xs e => ?_, fun b o u e => ?_, fun b ps e => ?_⟩
    · rw [ne (fun z => by rw [z, h0] at e; cases e)]; exact I.base.free b o e hb hx
    · have k := I.base.tups b xs e
      rw [ne (fun z => by rw [z, hH] at k; cases k)]; exact k
    · have k := I.base.frzs b o u e
      rw [ne (fun z => by rw [z, hH] at k; cases k)]; exact k
    · obtain ⟨more, k⟩ := I.base.tbls b ps e
      exact ⟨more, by rw [ne (fun z => by rw [z, hH] at k; cases k)]; exact k⟩
  · rw [ne hl]; exact I.free
  · intro x c e
    obtain ⟨v, o, ho, hc⟩ := I.cell x c e
    rw [ne (fun z => by rw [z, hg] at ho; cases ho; rw [hd] at hc; cases hc)]; exact I.freeC x c e
  · intro p hm
    obtain ⟨k1, k2, k3⟩ := I.pin p hm
    exact ⟨k1, by rw [ne (hp p hm)]; exact k2, k3⟩
  · exact HOk.laidN I.hok (fun _ _ e => e) hH ok
theorem ps_try_keep {x n : Str} {c : Value} {i : Nat} {body suite : List Stmt} {b₀ : Stmt} {np pos pos' : Pos} {tb : WX → TS} {ts : TS} {Wout : WX}
    (hs : X.stack = X.env :: X.outer) (hf : X.env.frame = some X.env.locals) (hex : X.ex = []) (hN : X.N.Nodup) (hi : X.N[i]? = some n) (hln : X.env.kindOf n = some .local)
    (hln2 : L2.Loc X.env.scope n) (hln3 : X.fn n = true ∨ List.lookup n X.env.scope.names = some .local)
    (hc : Names X x c) (tk : Takes X Wout)
    (hb : ∀ (W : WX) (pn : List (Addr × Obj)) (xe : Value → Shared → Prop), Takes (X.tr pn xe) W → PassesOwn (model X.prog X.w) X.A X.env xe → PSs (X.tr pn xe) body (tb W))
    (hsu : ∀ (a : Addr) (oe : Obj) (pn : List (Addr × Obj)), PSs (X.suite a ((a, oe) :: pn)) (b₀ :: suite) ts) :
    PS X (.Try body [.ExceptHandler (some (.Name x np)) (some n) (b₀ :: suite) pos'] [] [] pos) (fun D σ H => tb (wKeep X.K c i ts Wout D) D σ H) := by
  refine ⟨fun pins s σ H D I h => wpAny_Try_except ?_⟩
  refine wpAny_mono ((hb (wKeep X.K c i ts Wout D) (X.pn ++ pins)
    (fun e s₁ => wpAny (model X.prog X.w) X.A (noteFrame e X.env) (fun _ s₂ => wpAny (model X.prog X.w) X.A (setFlight e none)
      (fun _ s₃ => wpAny (model X.prog X.w) X.A (handleBy e X.env [.ExceptHandler (some (.Name x np)) (some n) (b₀ :: suite) pos']) (SP X pins D) X.xe s₃) X.xe s₂) X.xe s₁) ?tk PassesOwn.looking).run [] s σ H D (I.toTry _) h) ?q (fun _ _ k => k)
  case q =>
    intro f s1 r
    match f, r with
    | .next, ⟨σ', H', I', q⟩ => exact wpAny_execs_nil ⟨σ', H', I'.ofTry I.ok, q⟩
    | .brk, ⟨σ', H', I', q⟩ => exact ⟨σ', H', I'.ofTry I.ok, q⟩
    | .cont, ⟨σ', H', I', q⟩ => exact ⟨σ', H', I'.ofTry I.ok, q⟩
    | .ret u, ⟨v, σ', H', I', rv, q⟩ => exact ⟨v, σ', H', I'.ofTry I.ok, rv, q⟩
  case tk =>
    rintro u s1 ⟨a, B, sI, pins', σ1, H1, cls, d, rfl, I1, hB, up, sky, hHa, os, bare, W⟩
    have I2 : L2.Inv X pins σ1 H1 sI := I1.ofTry I.ok
    have sky' : Sky B (X.env :: X.outer) a (Zc cls d) X.env.locals s1.heap := hs ▸ sky
    refine Sky.land Zc.steady (by rw [← hs]; exact I.ok.frames) hf sky' (fun h' fl up2 => ?_)
    have I3 : L2.Inv X pins σ1 H1 { heap := h', gens := s1.gens, drawn := s1.drawn, toks := s1.toks, os := s1.os } := I2.landed hB fl.1 (up.trans up2) os bare
    obtain ⟨oe, vs, hoe, hz, hd⟩ := fl.there
    have hne : ∀ b, b ∈ frs (X.env :: X.outer) → b ≠ a := by
      intro b hb e
      obtain ⟨-, o, ho, hn⟩ := Heap.FunFrames.mem fl.2.2.1 hb
      rw [e, hoe] at ho
      cases ho
      exact hn _ hd
    have hloc : X.env.locals ∈ frs (X.env :: X.outer) := List.mem_filterMap.mpr ⟨X.env, List.mem_cons_self, hf⟩
    have hout : ∀ b, b ∈ X.fs → b ∈ frs (X.env :: X.outer) := by
      intro b hb
      obtain ⟨e, he, hb'⟩ := List.mem_filterMap.mp hb
      exact List.mem_filterMap.mpr ⟨e, List.mem_cons_of_mem _ he, hb'⟩
    have hI : sI.heap.get? a = none := by
      cases e : sI.heap.get? a with
      | none => rfl
      | some o =>
        have k := hB a o e (fun z => hne a (by have z' := z; rw [show (X.tr (X.pn ++ pins) _).stack = X.stack from rfl, hs] at z'; exact z') rfl)
        rw [fl.2.1] at k
        cases k
    have h0 : X.s_0.heap.get? a = none := by
      cases e : X.s_0.heap.get? a with
      | none => rfl
      | some o =>
        obtain ⟨o', k⟩ := I2.base.there a o e (by rw [hex]; exact List.not_mem_nil)
        rw [hI] at k
        cases k
    have hpn : ∀ p ∈ X.pn ++ pins, p.1 ≠ a := by
      intro p hp e
      have k := (I2.pin p hp).1
      rw [e, hI] at k
      cases k
    have IS : L2.Inv (X.suite a ((a, oe) :: (X.pn ++ pins))) [] σ1 H1 { heap := h', gens := s1.gens, drawn := s1.drawn, toks := s1.toks, os := s1.os } :=
      I3.suite hoe hd hHa (hne _ hloc).symm (fun z => hne _ (hout _ z) rfl)
    obtain ⟨b, hb1, ht, hfl⟩ := W
    have lk : PySem.W.Looks (model X.prog X.w) h' (typeOf (.ref a)) cls := fun A Q E s keep q => wpAny_typeOf_ref (keep _ _ hoe) (hz.1 ▸ q)
    have ev : ∀ (Q : Value → Shared → Prop) (E : Value → Shared → Prop), Q c { heap := h', gens := s1.gens, drawn := s1.drawn, toks := s1.toks, os := s1.os } →
        wpAny (model X.prog X.w) (X.A.mark (some (.ref a))) (eval (.Name x np) X.env) Q E { heap := h', gens := s1.gens, drawn := s1.drawn, toks := s1.toks, os := s1.os } := by
      intro Q E q
      obtain ⟨hg, hdb, hm | ⟨hm, hbt, hnn⟩⟩ := hc
      · exact ld_glob (X := X.suite a ((a, oe) :: (X.pn ++ pins))) IS hg hm q hdb
      · exact ld_blt (X := X.suite a ((a, oe) :: (X.pn ++ pins))) IS hg hm hbt q hnn hdb
    refine wpAny_handleBy_cons (codeAny_handlers_test (ev _ _ (PySem.W.Looks.here (PySem.W.exm_one I3.kIn lk hb1) ?_))) (by intro z; cases z)
    cases b with
    | false =>
      refine wpAny_handleBy_nil ?_
      obtain ⟨oe', vs', T, oT, ts', h1, z1, d1, v1, -⟩ := fl.2.2.2
      unfold PySem.passOn
      refine wpAny_bind (wpAny_field h1 d1 v1 ?_)
      rw [if_neg (show ¬ ((Value.ref T == Value.none) = true) by simp), hf]
      refine wpAny_bind (HandSPX.setFlight_upZ fl (fun h2 held up3 => wpAny_throw (tk _ _ ?_)))
      exact ⟨a, B, sI, pins, σ1, H1, cls, d, rfl, I2, hB, up.trans (up2.trans up3), hs ▸ Or.inr (Or.inr held), hHa, os, bare, hfl rfl⟩
    | true =>
      refine codeAny_handlers_suite_as (HandSPX.lands_againZ fl (fun h2 fl2 up3 => ?_))
      have I4 : L2.Inv X pins σ1 H1 { heap := h2, gens := s1.gens, drawn := s1.drawn, toks := s1.toks, os := s1.os } := I2.landed hB fl2.1 (up.trans (up2.trans up3)) os bare
      obtain ⟨oe2, vs2, hoe2, hz2, hd2⟩ := fl2.there
      have IS2 : L2.Inv (X.suite a ((a, oe2) :: (X.pn ++ pins))) [] σ1 H1 { heap := h2, gens := s1.gens, drawn := s1.drawn, toks := s1.toks, os := s1.os } :=
        I4.suite hoe2 hd2 hHa (hne _ hloc).symm (fun z => hne _ (hout _ z) rfl)
      refine store_ok (X := X.suite a ((a, oe2) :: (X.pn ++ pins))) (v := .ref a) IS2 hN hi hln2 rfl (fun s5 I5 => ?_) hln3
      refine wpAny_mono ((hsu a oe2 (X.pn ++ pins)).run [] s5 (List.set σ1 i (some (.ref a))) H1 (kpD i cls d a D) I5 (ht rfl a hHa)) (fun f s6 r => ?_) (fun _ _ k => k.elim)
      have gone : ∀ {σ' : L2.St} {H' : Hp} {P : Unit → Shared → Prop} {E : Value → Shared → Prop}, L2.Inv (X.suite a ((a, oe2) :: (X.pn ++ pins))) [] σ' H' s6 →
          (∀ s7, L2.Inv X pins (List.set σ' i none) (upd H' a (ExZ cls d a)) s7 → P () s7) → wpAny (model X.prog X.w) X.A (do bindName X.env n Value.none; unbindBehindTheSuite X.env n pos') P E s6 := by
        intro σ' H' P E I6 k
        refine gone_ok (X := X.suite a ((a, oe2) :: (X.pn ++ pins))) I6 hN hi hln (fun s7 I7 => k s7 ?_)
        obtain ⟨g7, n7, -⟩ := I7.pin (a, oe2) (by simp)
        exact Inv_track (I7.unsuite I.ok) g7 hd2 n7 h0 hpn (hne _ hloc) ⟨⟨oe2, vs2, g7, hz2, hd2⟩, ⟨oe2, g7⟩, fun h1 h2 q k => by
          obtain ⟨o, v, q1, q2⟩ := q
          exact ⟨o, v, k _ q1, q2⟩⟩
      match f, r with
      | .next, ⟨σ', H', I', q⟩ => exact gone I' (fun s7 I7 => ⟨_, _, I7, q⟩)
      | .brk, ⟨σ', H', I', q⟩ => exact gone I' (fun s7 I7 => ⟨_, _, I7, q⟩)
      | .cont, ⟨σ', H', I', q⟩ => exact gone I' (fun s7 I7 => ⟨_, _, I7, q⟩)
      | .ret u, ⟨v, σ', H', I', rv, q⟩ => exact gone I' (fun s7 I7 => ⟨v, _, _, I7, rv, q⟩)
end
end My

set_option linter.all false
namespace My
open PySem PySem.Spec PyProof.Rows L2
open C8 (Cal pe_c pe_gc)
/-! ### own exceptions as values -/
/-! ### defs that may raise -/
structure CalX (P : Program) (w : World) (K : PySem.W.Frag) (mg : Str → Option Value) (base : Heap) (k : Nat) (x : Str) (sp : Sp) : Prop where
  ex : ∃ f fd ps, FnOk P w K mg base (L2.CX P w) k f fd ps sp ∧ mg x = some (.ref f) ∧ PySem.W.keepIn K (.ref f) = true ∧ L2.Binds K fd ps []
theorem mkCalX {P : Program} {w : World} {K : PySem.W.Frag} {mg : Str → Option Value} {base : Heap} {x : Str} {st : Stmt} {f : Addr} {fd : FuncData} {N ps : List Str} {k : Nat} {sp : Sp}
    (F : Fun K x x st f fd) (hm : mg x = some (.ref f)) (hk : PySem.W.keepIn K (.ref f) = true) (hb : L2.Binds K fd ps []) (S : FnScope N ps (defScope st))
    (len : ∀ (vs : List V) (H : Hp) (Q : VK) (E : XK), sp vs H Q E → vs.length = ps.length)
    (body : ∀ (cdv : Value) (A : Around) (outer : List Env) (s : Shared) (H : Hp) (vs : List V) (Q : VK) (E : XK),
      Room k (A.deeper (PyProof.Rows.envOfC x (defScope st) s.heap.objs.size f cdv)) → sp vs H Q E →
      Takes (cxOf (L2.CX P w) P w K mg base N x (defScope st) f cdv A outer s H E) (fun cls d _ H => E cls d H) →
      ∃ t, PSs (cxOf (L2.CX P w) P w K mg base N x (defScope st) f cdv A outer s H E) (defBody st) t ∧ t { nx := fun _ H' => Q .non H', rt := Q } (L2.start N vs) H) :
    CalX P w K mg base (k + 1) x sp :=
  ⟨f, fd, ps, F.okX S len (fun cdv A outer s H vs Q E hr h => body cdv A outer s H vs Q E hr h (takes_of rfl rfl rfl rfl)), hm, hk, hb⟩
section
variable {X : Cx}
theorem pe_cx {k j : Nat} {x : Str} {sp : Sp} {p pos : Pos} {e : Expr} {es : List Expr} {t : TA} {W : WX} (h : CalX X.prog X.w X.K X.mg X.base k x sp) (tk : Takes X W) (hr : Room j X.A) (le : k ≤ j) (hg : Gl X x)
    (ha : PA X (e :: es) t) (hd : (x == ("__debug__" : Str)) = false := by decide)
    (hs : starEach (e :: es) X.env = (false, eval e X.env) :: starEach es X.env := by rfl)
    (hs2 : ((PySem.backTo pos (starEach es X.env)).any fun x => x.fst) = false := by rfl) :
    PE X (.Call (.Name x p) (e :: es) [] pos) (tCallS sp (fun σ => WE W σ) t) := by
  obtain ⟨f, fd, ps, F, hm, hk, hb⟩ := h
  exact pe_callS F (hr.mono le) hg hm hk hb (fun σ => passAt tk σ) ha hd hs hs2
/-- an own exception with class D stands at a: what isinstance asks -/
theorem kitZ {pins : List (Addr × Obj)} {σ : L2.St} {H : Hp} {s : Shared} (I : L2.Inv X pins σ H s) {a D : Addr} (hD : ExcC X.K D) (hH : H a = some (ExZ (.ref D) none a)) :
    ∃ ox, PySem.W.KitX X.K (.ref a) (.ref D) (fun h => PySem.W.InstAt h a ox D none) ∧ PySem.W.InstAt s.heap a ox D none := by
  obtain ⟨⟨oe, vs, ha, hz, hd⟩, -⟩ := I.hok a _ hH
  exact ⟨oe, PySem.W.handS_kitx_exc hD.hg hD.hk hD.hs hD.hd hD.ha hD.hn hD.ht hD.hm, ha, hz.1, by unfold PySem.W.notCls; rw [hd], by rw [hz.2]; trivial⟩
theorem call_isZ : CallR X (.builtin "isinstance") (fun xs H Q => ∃ (a D : Addr) (c : V) (u : Value) (b : Bool), xs = [.ref a, c] ∧ ClsV c u ∧ ExcC X.K D ∧ H a = some (ExZ (.ref D) none a) ∧ PySem.W.kitOne X.K (.ref D) u = some b ∧ Q (.bl b) H) := by
  intro pins s σ H xs us Q I r hq
  obtain ⟨a, D, c, u, b, rfl, hc, hD, hH, hk, q⟩ := hq
  match us, r with
  | [v, w], .cons rv (.cons rw .nil) =>
    cases rv
    have e := hc.eq rw
    subst e
    obtain ⟨ox, k1, k2⟩ := kitZ I hD hH
    exact PySem.W.kia_one k1 (Inv_kin I) k2 hk (by simp) (fun tk => ⟨.bl b, H, I.tok tk, rfl, q⟩)
theorem call_isZT : CallR X (.builtin "isinstance") (fun xs H Q => ∃ (a D tp : Addr) (cs : List V) (us : List Value) (b : Bool), xs = [.ref a, .ref tp] ∧ H tp = some (.tup cs) ∧ Paired ClsV cs us ∧ ExcC X.K D ∧ H a = some (ExZ (.ref D) none a) ∧ PySem.W.kitAny X.K (.ref D) us = some b ∧ Q (.bl b) H) := by
  intro pins s σ H xs us Q I r hq
  obtain ⟨a, D, tp, cs, ws, b, rfl, htp, hcs, hD, hH, hk, q⟩ := hq
  match us, r with
  | [v, w], .cons rv (.cons rw .nil) =>
    cases rv
    cases rw
    obtain ⟨ox, k1, k2⟩ := kitZ I hD hH
    obtain ⟨-, its, hv, o, ho, hcl, n, hdt⟩ := I.hok tp _ htp
    have e := ClsV.all hcs hv
    subst e
    obtain ⟨cl, dd, dt, sl⟩ := o
    cases hcl
    cases hdt
    exact PySem.W.kia_tup k1 (Inv_kin I) k2 ho hk (by simp) (fun tk => ⟨.bl b, H, I.tok tk, rfl, q⟩)
end
end My

set_option linter.all false
set_option maxRecDepth 100000
namespace My
open PySem PySem.Spec PyProof.Rows L2
open C8 (pe_gc)
/-! ### plain values and what a text does with them, apart from the machine -/
inductive U where
  | non | bl (b : Bool) | int (i : Int) | str (x : Str) | ty (n : String) | cls (c : String) | exc (c : String)
  | lst (us : List U) | tup (us : List U) | dct (kvs : List (U × U))
structure Sst where
  cells : List Int
  turn : Int
inductive R (α : Type) where
  | ok (a : α) (s : Sst) | err (c : String) (s : Sst) | stuck
def R.bind {α β : Type} (r : R α) (k : α → Sst → R β) : R β := match r with
  | .ok a s => k a s
  | .err c s => .err c s
  | .stuck => .stuck
inductive R0 where
  | ok (u : U) | err (c : String) | stuck
abbrev Rho := List (Option U)
abbrev EF := Rho → Sst → R U
abbrev TF := Rho → Sst → R Bool
abbrev AF := Rho → Sst → R (List U)
def opt {α : Type} (o : Option α) (s : Sst) : R α := match o with
  | some u => .ok u s
  | none => .stuck
def R0.lift (r : R0) (s : Sst) : R U := match r with
  | .ok u => .ok u s
  | .err c => .err c s
  | .stuck => .stuck
def eC (u : U) : EF := fun _ s => .ok u s
def eV (i : Nat) : EF := fun ρ s => match ρ[i]? with
  | some (some u) => .ok u s
  | _ => .stuck
def e1 (f : U → Option U) (a : EF) : EF := fun ρ s => (a ρ s).bind fun x s => opt (f x) s
def e2 (f : U → U → Option U) (a b : EF) : EF := fun ρ s => (a ρ s).bind fun x s => (b ρ s).bind fun y s => opt (f x y) s
def eN (f : List U → Option U) (as : AF) : EF := fun ρ s => (as ρ s).bind fun xs s => opt (f xs) s
def aNil : AF := fun _ s => .ok [] s
def aCons (a : EF) (as : AF) : AF := fun ρ s => (a ρ s).bind fun x s => (as ρ s).bind fun xs s => .ok (x :: xs) s
def eCall (n : Nat) (F : List U → R0) (as : AF) : EF := fun ρ s => (as ρ s).bind fun xs s => if xs.length = n then (F xs).lift s else .stuck
def eCallS (n : Nat) (F : Sst → List U → R U) (as : AF) : EF := fun ρ s => (as ρ s).bind fun xs s => if xs.length = n then F s xs else .stuck
/-- tests -/
def toB : U → Option Bool
  | .bl b => some b
  | _ => none
def tV (a : EF) : TF := fun ρ s => (a ρ s).bind fun x s => opt (toB x) s
def tN (a : TF) : TF := fun ρ s => (a ρ s).bind fun x s => .ok (!x) s
def tA (a b : TF) : TF := fun ρ s => (a ρ s).bind fun x s => if x = true then b ρ s else .ok false s
def tO (a b : TF) : TF := fun ρ s => (a ρ s).bind fun x s => if x = true then .ok true s else b ρ s
def eNot (a : EF) : EF := fun ρ s => (a ρ s).bind fun x s => opt ((toB x).map fun b => .bl (!b)) s
def eAnd (a b : EF) : EF := fun ρ s => (a ρ s).bind fun x s => (opt (toB x) s).bind fun c s => if c = true then b ρ s else .ok (.bl false) s
def eOr (a b : EF) : EF := fun ρ s => (a ρ s).bind fun x s => (opt (toB x) s).bind fun c s => if c = true then .ok (.bl true) s else b ρ s
def eIf (c : TF) (a b : EF) : EF := fun ρ s => (c ρ s).bind fun x s => if x = true then a ρ s else b ρ s
/-- a op b op' c -/
def eChain (f f' : U → U → Option U) (a b c : EF) : EF := fun ρ s => (a ρ s).bind fun x s => (b ρ s).bind fun y s => (opt (f x y) s).bind fun z s => (opt (toB z) s).bind fun k s =>
  if k = true then (c ρ s).bind fun w s => opt (f' y w) s else .ok (.bl false) s
/-! operations -/
def lineB (n : Nat) : Bool := decide (n ≤ 16777216)
def smB (i : Int) : Bool := decide (i.natAbs < 2 ^ 20000)
def bdB (i : Int) : Bool := decide (i.natAbs < 2 ^ 9000)
def pAdd : U → U → Option U
  | .int i, .int j => some (.int (i + j))
  | .lst a, .lst b => if lineB (a.length + b.length) then some (.lst (a ++ b)) else none
  | .tup a, .tup b => if lineB (a.length + b.length) then some (.tup (a ++ b)) else none
  | .str a, .str b => if lineB (a.length + b.length) then some (.str (a ++ b)) else none
  | _, _ => none
def pAdd' : U → U → Option U
  | .int i, .int j => some (.int (i + j))
  | _, _ => none
def pSub : U → U → Option U
  | .int i, .int j => some (.int (i - j))
  | _, _ => none
def pMul : U → U → Option U
  | .int i, .int j => if smB i && smB j then some (.int (i * j)) else none
  | .tup a, .int k => if decide (2 ≤ k ∧ k ≤ 1000 ∧ a ≠ [] ∧ a.length ≤ 1000) then some (.tup (List.replicate k.toNat a).flatten) else none
  | _, _ => none
def pDiv : U → U → Option U
  | .int i, .int j => if decide (0 < j) && bdB j then some (.int (i / j)) else none
  | _, _ => none
def pMod : U → U → Option U
  | .int i, .int j => if decide (0 < j) then some (.int (i % j)) else none
  | _, _ => none
def pPow : U → U → Option U
  | .int i, .int j => if decide (0 ≤ j ∧ (i.natAbs.log2 + 1 : Int) * j ≤ 2 ^ 20) then some (.int (i ^ j.toNat)) else none
  | _, _ => none
def pNeg : U → Option U
  | .int i => some (.int (-i))
  | _ => none
def pLt : U → U → Option U
  | .int i, .int j => some (.bl (decide (i < j)))
  | _, _ => none
def pLe : U → U → Option U
  | .int i, .int j => some (.bl (decide (i ≤ j)))
  | _, _ => none
def pGt : U → U → Option U
  | .int i, .int j => some (.bl (decide (j < i)))
  | _, _ => none
def pGe : U → U → Option U
  | .int i, .int j => some (.bl (decide (j ≤ i)))
  | _, _ => none
mutual
/-- plain data, at most so deep -/
def U.flat : Nat → U → Bool
  | _, .non => true
  | _, .bl _ => true
  | _, .int _ => true
  | _, .str x => PyData.strOk x
  | n + 1, .lst us => U.flatAll n us
  | n + 1, .tup us => U.flatAll n us
  | _, _ => false
def U.flatAll : Nat → List U → Bool
  | _, [] => true
  | n, u :: us => U.flat n u && U.flatAll n us
end
mutual
def ueq : U → U → Bool
  | .non, .non => true
  | .bl a, .bl b => a == b
  | .bl a, .int j => (if a then 1 else 0) == j
  | .int i, .bl b => i == (if b then 1 else 0)
  | .int i, .int j => i == j
  | .str x, .str y => x == y
  | .lst xs, .lst ys => ueqAll xs ys
  | .tup xs, .tup ys => ueqAll xs ys
  | _, _ => false
def ueqAll : List U → List U → Bool
  | [], [] => true
  | x :: xs, y :: ys => ueq x y && ueqAll xs ys
  | _, _ => false
end
def deepB (a b : U) : Bool := U.flat 40 a && U.flat 40 b
def pEq (a b : U) : Option U := if deepB a b then some (.bl (ueq a b)) else none
def pNe (a b : U) : Option U := if deepB a b then some (.bl (!ueq a b)) else none
def isNon : U → Bool
  | .non => true
  | _ => false
def pIs (a b : U) : Option U := if isNon b then some (.bl (isNon a)) else none
def pIsNot (a b : U) : Option U := if isNon b then some (.bl (!isNon a)) else none
def pIn (a b : U) : Option U := match b with
  | .lst us => if deepB a b then some (.bl (us.any fun z => ueq z a)) else none
  | _ => none
def pNotIn (a b : U) : Option U := match b with
  | .lst us => if deepB a b then some (.bl (!(us.any fun z => ueq z a))) else none
  | _ => none
/-- the place of index i in n -/
def pIdx : U → U → Option U
  | .lst us, .int i => atI us i
  | .tup us, .int i => atI us i
  | _, _ => none
def cutU (xs : List U) (lo hi : Option Int) : List U := (xs.drop (HT.sIx xs.length 0 lo)).take (HT.sIx xs.length xs.length hi - HT.sIx xs.length 0 lo)
def pSl (lo hi : Option Int) : U → Option U
  | .lst us => some (.lst (cutU us lo hi))
  | .tup us => some (.tup (cutU us lo hi))
  | _ => none
def pTup (us : List U) : Option U := if lineB us.length then some (.tup us) else none
def pLst (us : List U) : Option U := if lineB us.length then some (.lst us) else none
def U.seq? : U → Option (List U)
  | .lst us => some us
  | .tup us => some us
  | _ => none
def pLen : List U → Option U
  | [.lst us] => some (.int us.length)
  | [.tup us] => some (.int us.length)
  | _ => none
def pList : List U → Option U
  | [.lst us] => some (.lst us)
  | [.tup us] => some (.lst us)
  | _ => none
def pTuple : List U → Option U
  | [.lst us] => some (.tup us)
  | [.tup us] => some (.tup us)
  | _ => none
def allInt : List U → Option (List Int)
  | [] => some []
  | .int i :: us => (allInt us).map (i :: ·)
  | _ :: _ => none
def allBl : List U → Option (List Bool)
  | [] => some []
  | .bl i :: us => (allBl us).map (i :: ·)
  | _ :: _ => none
def pSum : List U → Option U
  | [.lst us] => (allInt us).map fun ns => .int ns.sum
  | _ => none
def pAll : List U → Option U
  | [.lst us] => (allBl us).map fun bs => .bl (bs.all id)
  | _ => none
def pAny : List U → Option U
  | [.lst us] => (allBl us).map fun bs => .bl (bs.any id)
  | _ => none
def pInt : List U → Option U
  | [.int i] => some (.int i)
  | [.bl k] => some (.int (if k then 1 else 0))
  | _ => none
def pAbs : List U → Option U
  | [.int i] => some (.int (i.natAbs : Int))
  | _ => none
def pDivmod : List U → Option U
  | [.int i, .int j] => if decide (0 < j) && bdB j then some (.tup [.int (i / j), .int (i % j)]) else none
  | _ => none
def pGcd : List U → Option U
  | [.int i, .int j] => if decide (0 ≤ i ∧ 0 ≤ j) then some (.int ((Nat.gcd i.toNat j.toNat : Nat) : Int)) else none
  | _ => none
def U.tyName : U → Option String
  | .non => some "NoneType"
  | .bl _ => some "bool"
  | .int _ => some "int"
  | .str _ => some "str"
  | .lst _ => some "list"
  | .tup _ => some "tuple"
  | .dct _ => some "dict"
  | _ => none
/-- isinstance(u, T) for the five written classes -/
def pIsi (n : String) (u : U) : Option U := match u.tyName with
  | some t => some (.bl (decide (t = n) || (decide (t = "bool") && decide (n = "int"))))
  | none => none
/-- isinstance with a written class -/
def pIsiB (n : String) : List U → Option U
  | [u, .ty m] => if decide (m = n ∧ n ∈ ["bool", "int", "str", "list", "tuple", "dict"]) then pIsi n u else none
  | _ => none
/-! statements -/
inductive RS where
  | nx (ρ : Rho) (s : Sst) | rt (u : U) (s : Sst) | bk (ρ : Rho) (s : Sst) | ct (ρ : Rho) (s : Sst) | er (c : String) (ρ : Rho) (s : Sst) | stuck
abbrev SF := Rho → Sst → RS
def R.stm {α : Type} (r : R α) (ρ : Rho) (k : α → Sst → RS) : RS := match r with
  | .ok a s => k a s
  | .err c s => .er c ρ s
  | .stuck => .stuck
def sNil : SF := fun ρ s => .nx ρ s
def sSeq (a b : SF) : SF := fun ρ s => match a ρ s with
  | .nx ρ s => b ρ s
  | o => o
/-- a target: what it does with the slots -/
abbrev PF := U → Rho → Option Rho
def gN (i : Nat) : PF := fun u ρ => some (ρ.set i (some u))
def gsNil : List U → Rho → Option Rho
  | [], ρ => some ρ
  | _, _ => none
def gsCons (g : PF) (gs : List U → Rho → Option Rho) : List U → Rho → Option Rho
  | u :: us, ρ => (g u ρ).bind fun ρ => gs us ρ
  | _, _ => none
def gT (gs : List U → Rho → Option Rho) : PF := fun u ρ => match u with
  | .tup us => gs us ρ
  | _ => none
def gL (gs : List U → Rho → Option Rho) : PF := fun u ρ => match u with
  | .lst us => gs us ρ
  | _ => none
def sAsg (g : PF) (a : EF) : SF := fun ρ s => (a ρ s).stm ρ fun x s => match g x ρ with
  | some ρ => .nx ρ s
  | none => .stuck
def sPar (is : List Nat) (as : AF) : SF := fun ρ s => (as ρ s).stm ρ fun xs s => if xs.length = is.length then .nx ((is.zip xs).foldl (fun ρ p => ρ.set p.1 (some p.2)) ρ) s else .stuck
def sDrop (a : EF) : SF := fun ρ s => (a ρ s).stm ρ fun _ s => .nx ρ s
def sRet (a : EF) : SF := fun ρ s => (a ρ s).stm ρ fun x s => .rt x s
def sRetN : SF := fun _ s => .rt .non s
def sBrk : SF := fun ρ s => .bk ρ s
def sCnt : SF := fun ρ s => .ct ρ s
def sIf (c : TF) (a b : SF) : SF := fun ρ s => (c ρ s).stm ρ fun x s => if x = true then a ρ s else b ρ s
/-- raise C(message) -/
def sRaise (c : String) (a : EF) : SF := fun ρ s => (a ρ s).stm ρ fun _ s => .er c ρ s
def loopF (g : PF) (b : SF) : List U → Rho → Sst → RS
  | [], ρ, s => .nx ρ s
  | u :: us, ρ, s => match g u ρ with
    | none => .stuck
    | some ρ => match b ρ s with
      | .nx ρ s => loopF g b us ρ s
      | .ct ρ s => loopF g b us ρ s
      | .bk ρ s => .nx ρ s
      | o => o
def sFor (i : AF) (g : PF) (b : SF) : SF := fun ρ s => (i ρ s).stm ρ fun us s => loopF g b us ρ s
def loopW (c : TF) (b : SF) : Nat → Rho → Sst → RS
  | 0, _, _ => .stuck
  | n + 1, ρ, s => (c ρ s).stm ρ fun x s => if x = true then (match b ρ s with
      | .nx ρ s => loopW c b n ρ s
      | .ct ρ s => loopW c b n ρ s
      | .bk ρ s => .nx ρ s
      | o => o) else .nx ρ s
def sWhile (n : Nat) (c : TF) (b : SF) : SF := loopW c b n
/-- x.append(e), x.pop(), x[i] = e for a list of the def's own in slot i -/
def sApp (i : Nat) (a : EF) : SF := fun ρ s => match ρ[i]? with
  | some (some (.lst us)) => (a ρ s).stm ρ fun x s => if lineB (us.length + 1) then .nx (ρ.set i (some (.lst (us ++ [x])))) s else .stuck
  | _ => .stuck
def sPop (g : PF) (i : Nat) : SF := fun ρ s => match ρ[i]? with
  | some (some (.lst us)) => match us.getLast? with
    | some u => match g u (ρ.set i (some (.lst us.dropLast))) with
      | some ρ => .nx ρ s
      | none => .stuck
    | none => .stuck
  | _ => .stuck
def sPut (i : Nat) (k a : EF) : SF := fun ρ s => (a ρ s).stm ρ fun x s => match ρ[i]? with
  | some (some (.lst us)) => (k ρ s).stm ρ fun j s => match j with
    | .int j => match ixN us.length j with
      | some j => .nx (ρ.set i (some (.lst (us.set j x)))) s
      | none => .stuck
    | _ => .stuck
  | _ => .stuck
/-- try: body except C as e: x = e -/
def sTry (kls : List String) (d : String) (e x : Nat) (b : SF) : SF := fun ρ s => match b ρ s with
  | .er c ρ s => if kls.contains c then (if (decide (c = d) || decide (d = "MarkError")) = true then (if e < ρ.length then .nx (((ρ.set e none).set x (some (.exc c))).set e none) s else .stuck) else .er c ρ s) else .stuck
  | o => o
/-- a walked list: its items -/
def iSeq (a : EF) : AF := fun ρ s => (a ρ s).bind fun x s => opt x.seq? s
def rngU (lo : Int) (n : Nat) (c : Int) : List U := (List.range n).map fun k : Nat => .int (lo + k * c)
def rngOk (i : Int) : Bool := decide (-(2 ^ 62) ≤ i ∧ i < 2 ^ 62)
def pRng1 : List U → Option (List U)
  | [.int j] => if rngOk j then some (rngU 0 j.toNat 1) else none
  | _ => none
def pRng2 : List U → Option (List U)
  | [.int i, .int j] => if rngOk i && rngOk j then some (rngU i (j - i).toNat 1) else none
  | _ => none
/-- range(i, j, -1) -/
def pRng3 : List U → Option (List U)
  | [.int i, .int j, .int (-1)] => if rngOk i && rngOk j then some (rngU i (i - j).toNat (-1)) else none
  | _ => none
def iRng (p : List U → Option (List U)) (as : AF) : AF := fun ρ s => (as ρ s).bind fun xs s => opt (p xs) s
/-- a comprehension -/
def lcF (g : PF) (c : TF) (a : EF) : List U → Rho → Sst → List U → R (List U)
  | [], _, s, acc => .ok acc s
  | u :: us, ρ, s, acc => match g u ρ with
    | none => .stuck
    | some ρ1 => (c ρ1 s).bind fun x s => if x = true then (a ρ1 s).bind fun y s => if lineB (acc.length + 1) then lcF g c a us ρ s (acc ++ [y]) else .stuck else lcF g c a us ρ s acc
def tY : TF := fun _ s => .ok true s
def wipeR (ρ : Rho) : List Nat → Rho
  | [] => ρ
  | v :: vs => (wipeR ρ vs).set v none
def R.noerr {α : Type} (r : R α) : R α := match r with
  | .err _ _ => .stuck
  | o => o
def eLc (vs : List Nat) (i : AF) (g : PF) (c : TF) (a : EF) : EF := fun ρ s => (i ρ s).bind fun us s => ((lcF g c a us (wipeR ρ vs) s []).noerr).bind fun xs s => .ok (.lst xs) s
/-! a def -/
def dSst : Sst := ⟨[], 0⟩
def startR (us : List U) (m : Nat) : Rho := us.map some ++ List.replicate m none
/-- a def with n parameters and m further slots -/
def runF (b : SF) (n m : Nat) (us : List U) : R0 := if us.length = n then (match b (startR us m) dSst with
  | .nx _ _ => .ok .non
  | .rt u _ => .ok u
  | .er c _ _ => .err c
  | _ => .stuck) else .stuck
def runS (b : SF) (n m : Nat) (s : Sst) (us : List U) : R U := if us.length = n then (match b (none :: startR us m) s with
  | .nx _ s => .ok .non s
  | .rt u s => .ok u s
  | .er c _ s => .err c s
  | _ => .stuck) else .stuck
/-- the truth of a value -/
def truU : U → Option Bool
  | .non => some false
  | .bl b => some b
  | .int i => some (i != 0)
  | .lst us => some (!us.isEmpty)
  | .tup us => some (!us.isEmpty)
  | .dct us => some (!us.isEmpty)
  | _ => none
def tT (a : EF) : TF := fun ρ s => (a ρ s).bind fun x s => opt (truU x) s
abbrev OF := Rho → Sst → R (Option Int)
def oNo : OF := fun _ s => .ok none s
def toI : U → Option (Option Int)
  | .int i => some (some i)
  | _ => none
def oSo (a : EF) : OF := fun ρ s => (a ρ s).bind fun x s => opt (toI x) s
def eSl (a : EF) (l h : OF) : EF := fun ρ s => (a ρ s).bind fun x s => (l ρ s).bind fun i s => (h ρ s).bind fun j s => opt (pSl i j x) s
def pCat : U → U → Option U
  | .lst a, .lst b => if lineB (a.length + b.length) then some (.lst (a ++ b)) else none
  | _, _ => none
/-- reversed(list) -/
def iRev (a : EF) : AF := fun ρ s => (a ρ s).bind fun x s => match x with
  | .lst us => .ok us.reverse s
  | _ => .stuck
/-! messages -/
def eFmt (a : EF) : EF := fun ρ s => (a ρ s).bind fun x s => match x with
  | .str y => if lineB y.length then .ok (.str y) s else .stuck
  | .int i => if decide (i.natAbs.log2 < 1920) then .ok (.str (toString i)) s else .stuck
  | _ => .stuck
def joinL : List EF → Str → EF
  | [], acc => fun _ s => .ok (.str acc) s
  | f :: fs, acc => fun ρ s => (f ρ s).bind fun x s => match x with
    | .str y => if lineB (acc ++ y).length then joinL fs (acc ++ y) ρ s else .stuck
    | _ => .stuck
/-! errors as values -/
def isSub (c d : String) : Bool := decide (c = d) || decide (d = "MarkError")
/-- isinstance, kls the package's errors that the text names -/
def pInst (kls : List String) : List U → Option U
  | [.exc c, .cls d] => if kls.contains c && kls.contains d then some (.bl (isSub c d)) else none
  | [.non, .cls d] => if kls.contains d then some (.bl false) else none
  | [.exc c, .ty n] => if kls.contains c && decide (n = "ValueError") then some (.bl true) else none
  | [u, .ty n] => pIsiB n [u, .ty n]
  | _ => none
/-! ### a drawn number -/
def drawC (s : Sst) (n : Int) : Prop := 0 < n ∧ n.natAbs < 2 ^ 4000 ∧ 0 < s.cells.length ∧ 0 ≤ s.turn ∧ s.turn < 1152921504606846976
instance (s : Sst) (n : Int) : Decidable (drawC s n) := inferInstanceAs (Decidable (_ ∧ _ ∧ _ ∧ _ ∧ _))
def drawF (s : Sst) (n : Int) : R U := match s.cells[(s.turn % (s.cells.length : Int)).toNat]? with
  | none => .stuck
  | some x => if (1000000000000000000 : Int) ≤ x then .ok (.int (x % n)) ⟨s.cells.set (s.turn % (s.cells.length : Int)).toNat (x / n), s.turn + 1⟩
    else .ok (.int (((x % 2147483629 * 48271 + s.turn * s.turn * 69621 + 11) % 2147483647 * ((x % 2147483629 * 48271 + s.turn * s.turn * 69621 + 11) % 2147483647) % 2147483629 * ((x % 2147483629 * 48271 + s.turn * s.turn * 69621 + 11) % 2147483647 * ((x % 2147483629 * 48271 + s.turn * s.turn * 69621 + 11) % 2147483647) % 2147483629) % 2147483587) % n)) ⟨s.cells, s.turn + 1⟩
def F__law_draw (s : Sst) (us : List U) : R U := match us with
  | [.int n] => if drawC s n then drawF s n else .stuck
  | _ => .stuck
theorem draw_ne {s : Sst} {us : List U} (h : F__law_draw s us ≠ .stuck) : ∃ n, us = [.int n] ∧ drawC s n := by
  unfold F__law_draw at h
  split at h
  · split at h
    · exact ⟨_, rfl, by assumption⟩
    · exact absurd rfl h
  · exact absurd rfl h
end My

set_option linter.all false
set_option maxRecDepth 100000
namespace My
open PySem PySem.Spec PyProof.Rows L2
open C8 (pe_gc)
/-! ### how plain values stand in a heap -/
def kU : Key → U
  | .inl i => .int i
  | .inr x => .str x
mutual
inductive Rep (K : PySem.W.Frag) (D : String → Addr) (H : Hp) : V → U → Prop
  | non : Rep K D H .non .non
  | bl (b : Bool) : Rep K D H (.bl b) (.bl b)
  | int (i : Int) : Rep K D H (.int i) (.int i)
  | str (x : Str) : Rep K D H (.str x) (.str x)
  | ty (n : String) : Rep K D H (.ty n) (.ty n)
  | cls (c : String) : Rep K D H (.ref (D c)) (.cls c)
  | exc {a : Addr} (c : String) : H a = some (ExZ (.ref (D c)) none a) → Rep K D H (.ref a) (.exc c)
  | lst {a : Addr} {vs : List V} {us : List U} : H a = some (.lst vs) → RepAll K D H vs us → Rep K D H (.ref a) (.lst us)
  | tup {a : Addr} {vs : List V} {us : List U} : SqT K H a vs → RepAll K D H vs us → Rep K D H (.ref a) (.tup us)
  | dct {a : Addr} {kvs : List (Key × V)} {ds : List (U × U)} : H a = some (.dK kvs) → RepKV K D H kvs ds → Rep K D H (.ref a) (.dct ds)
inductive RepAll (K : PySem.W.Frag) (D : String → Addr) (H : Hp) : List V → List U → Prop
  | nil : RepAll K D H [] []
  | cons {v : V} {vs : List V} {u : U} {us : List U} : Rep K D H v u → RepAll K D H vs us → RepAll K D H (v :: vs) (u :: us)
inductive RepKV (K : PySem.W.Frag) (D : String → Addr) (H : Hp) : List (Key × V) → List (U × U) → Prop
  | nil : RepKV K D H [] []
  | cons {k : Key} {v : V} {vs : List (Key × V)} {c u : U} {us : List (U × U)} : c = kU k → Rep K D H v u → RepKV K D H vs us → RepKV K D H ((k, v) :: vs) ((c, u) :: us)
end
section
variable {K : PySem.W.Frag} {D : String → Addr} {H H' : Hp}
mutual
theorem Rep.same (sm : Same H H') : ∀ {v : V} (u : U), Rep K D H v u → Rep K D H' v u
  | _, .non, h => by cases h; exact .non
  | _, .bl _, h => by cases h; exact .bl _
  | _, .int _, h => by cases h; exact .int _
  | _, .str _, h => by cases h; exact .str _
  | _, .ty _, h => by cases h; exact .ty _
  | _, .cls _, h => by cases h; exact .cls _
  | _, .exc _, h => by cases h with | exc _ e => exact .exc _ (sm _ _ e)
  | _, .lst us, h => by cases h with | lst e r => exact .lst (sm _ _ e) (RepAll.same sm us r)
  | _, .tup us, h => by cases h with | tup e r => exact .tup (Same.tup sm e) (RepAll.same sm us r)
  | _, .dct ds, h => by cases h with | dct e r => exact .dct (sm _ _ e) (RepKV.same sm ds r)
theorem RepAll.same (sm : Same H H') : ∀ {vs : List V} (us : List U), RepAll K D H vs us → RepAll K D H' vs us
  | _, [], h => by cases h; exact .nil
  | _, u :: us, h => by cases h with | cons h1 h2 => exact .cons (Rep.same sm u h1) (RepAll.same sm us h2)
theorem RepKV.same (sm : Same H H') : ∀ {vs : List (Key × V)} (us : List (U × U)), RepKV K D H vs us → RepKV K D H' vs us
  | _, [], h => by cases h; exact .nil
  | _, (c, u) :: us, h => by cases h with | cons h0 h1 h2 => exact .cons h0 (Rep.same sm u h1) (RepKV.same sm us h2)
end
theorem RepAll.length : ∀ {vs : List V} {us : List U}, RepAll K D H vs us → vs.length = us.length
  | _, [], h => by cases h; rfl
  | _, u :: us, h => by cases h with | cons h1 h2 => rw [List.length_cons, List.length_cons, h2.length]
theorem RepAll.app : ∀ {vs ws : List V} {us zs : List U}, RepAll K D H vs us → RepAll K D H ws zs → RepAll K D H (vs ++ ws) (us ++ zs)
  | _, _, [], _, h, g => by cases h; exact g
  | _, _, u :: us, _, h, g => by cases h with | cons h1 h2 => exact .cons h1 (h2.app g)
theorem RepAll.get : ∀ {vs : List V} {us : List U} {n : Nat} {u : U}, RepAll K D H vs us → us[n]? = some u → ∃ v, vs[n]? = some v ∧ Rep K D H v u
  | _, [], _, _, h, e => by simp at e
  | _, u :: us, 0, _, h, e => by
    cases h with
    | cons h1 h2 =>
      simp at e
      subst e
      exact ⟨_, rfl, h1⟩
  | _, u :: us, n + 1, _, h, e => by
    cases h with
    | cons h1 h2 =>
      obtain ⟨v, e1, e2⟩ := h2.get (n := n) (by simpa using e)
      exact ⟨v, by simpa using e1, e2⟩
theorem RepAll.set {x : V} {y : U} (r : Rep K D H x y) : ∀ {vs : List V} {us : List U} (n : Nat), RepAll K D H vs us → RepAll K D H (vs.set n x) (us.set n y)
  | _, [], _, h => by cases h; exact .nil
  | _, u :: us, 0, h => by cases h with | cons h1 h2 => exact .cons r h2
  | _, u :: us, n + 1, h => by cases h with | cons h1 h2 => exact .cons h1 (h2.set r n)
theorem RepAll.drop : ∀ {vs : List V} {us : List U} (n : Nat), RepAll K D H vs us → RepAll K D H (vs.drop n) (us.drop n)
  | _, us, 0, h => h
  | _, [], n + 1, h => by cases h; exact .nil
  | _, u :: us, n + 1, h => by cases h with | cons h1 h2 => exact h2.drop n
theorem RepAll.take : ∀ {vs : List V} {us : List U} (n : Nat), RepAll K D H vs us → RepAll K D H (vs.take n) (us.take n)
  | _, us, 0, h => .nil
  | _, [], n + 1, h => by cases h; exact .nil
  | _, u :: us, n + 1, h => by cases h with | cons h1 h2 => exact .cons h1 (h2.take n)
theorem RepAll.snoc {vs : List V} {us : List U} {x : V} {y : U} (h : RepAll K D H vs us) (r : Rep K D H x y) : RepAll K D H (vs ++ [x]) (us ++ [y]) := h.app (.cons r .nil)
theorem RepAll.dropLast : ∀ {vs : List V} {us : List U}, RepAll K D H vs us → RepAll K D H vs.dropLast us.dropLast := fun {vs us} h => by
  rw [List.dropLast_eq_take, List.dropLast_eq_take, h.length]
  exact h.take _
theorem RepAll.int {vs : List V} : ∀ {us : List U} {ns : List Int}, RepAll K D H vs us → allInt us = some ns → vs = ns.map V.int
  | [], ns, h, e => by
    cases h
    simp [allInt] at e
    subst e
    rfl
  | u :: us, ns, h, e => by
    cases h with
    | cons h1 h2 =>
      cases u with
      | int i =>
        simp only [allInt, Option.map_eq_some_iff] at e
        obtain ⟨ms, e1, rfl⟩ := e
        cases h1
        rw [h2.int e1]
        rfl
      | _ => simp [allInt] at e
theorem RepAll.bls {vs : List V} : ∀ {us : List U} {ns : List Bool}, RepAll K D H vs us → allBl us = some ns → vs = ns.map V.bl
  | [], ns, h, e => by
    cases h
    simp [allBl] at e
    subst e
    rfl
  | u :: us, ns, h, e => by
    cases h with
    | cons h1 h2 =>
      cases u with
      | bl i =>
        simp only [allBl, Option.map_eq_some_iff] at e
        obtain ⟨ms, e1, rfl⟩ := e
        cases h1
        rw [h2.bls e1]
        rfl
      | _ => simp [allBl] at e
mutual
/-- as the layer's own data -/
def U.py : U → PyData
  | .non => .none
  | .bl b => .bool b
  | .int i => .int i
  | .str x => .str x
  | .lst us => .list (U.pyAll us)
  | .tup us => .tuple (U.pyAll us)
  | _ => .none
def U.pyAll : List U → List PyData
  | [] => []
  | u :: us => U.py u :: U.pyAll us
end
mutual
theorem Rep.dp : ∀ (n : Nat) {v : V} (u : U), Rep K D H v u → U.flat n u = true → Dp K H v u.py
  | _, _, .non, h, _ => by cases h; exact .non
  | _, _, .bl _, h, _ => by cases h; exact .bl _
  | _, _, .int _, h, _ => by cases h; exact .int _
  | _, _, .str _, h, _ => by cases h; exact .str _
  | n, _, .ty _, h, e => by simp [U.flat] at e
  | n, _, .cls _, h, e => by simp [U.flat] at e
  | n, _, .exc _, h, e => by simp [U.flat] at e
  | 0, _, .lst us, h, e => by simp [U.flat] at e
  | n + 1, _, .lst us, h, e => by
    cases h with
    | lst a r => rw [U.py]; exact .lst (.of a) (RepAll.dp n us r (by simpa [U.flat] using e))
  | 0, _, .tup us, h, e => by simp [U.flat] at e
  | n + 1, _, .tup us, h, e => by
    cases h with
    | tup a r => rw [U.py]; exact .tup a (RepAll.dp n us r (by simpa [U.flat] using e))
  | n, _, .dct _, h, e => by simp [U.flat] at e
theorem RepAll.dp : ∀ (n : Nat) {vs : List V} (us : List U), RepAll K D H vs us → U.flatAll n us = true → DpAll K H vs (U.pyAll us)
  | _, _, [], h, _ => by cases h; rw [U.pyAll]; exact .nil
  | n, _, u :: us, h, e => by
    cases h with
    | cons h1 h2 =>
      simp only [U.flatAll, Bool.and_eq_true] at e
      rw [U.pyAll]
      exact .cons (Rep.dp n u h1 e.1) (RepAll.dp n us h2 e.2)
end
mutual
theorem shp_flat : ∀ (n : Nat) (u : U), U.flat n u = true → Shp n u.py
  | _, .non, _ => by rw [U.py]; exact shp_non
  | _, .bl _, _ => by rw [U.py]; exact shp_bl
  | _, .int _, _ => by rw [U.py]; exact shp_int
  | _, .str _, e => by rw [U.py]; exact ⟨by simpa [PyData.canLay0, U.flat] using e, by simp [PyData.depth]⟩
  | n, .ty _, e => by simp [U.flat] at e
  | n, .cls _, e => by simp [U.flat] at e
  | n, .exc _, e => by simp [U.flat] at e
  | 0, .lst us, e => by simp [U.flat] at e
  | n + 1, .lst us, e => by rw [U.py]; exact shp_list (shp_flatAll n us (by simpa [U.flat] using e))
  | 0, .tup us, e => by simp [U.flat] at e
  | n + 1, .tup us, e => by rw [U.py]; exact shp_tup (shp_flatAll n us (by simpa [U.flat] using e))
  | n, .dct _, e => by simp [U.flat] at e
theorem shp_flatAll : ∀ (n : Nat) (us : List U), U.flatAll n us = true → ∀ d ∈ U.pyAll us, Shp n d
  | n, [], _, d, hd => by rw [U.pyAll] at hd; cases hd
  | n, u :: us, e, d, hd => by
    simp only [U.flatAll, Bool.and_eq_true] at e
    rw [U.pyAll] at hd
    rcases List.mem_cons.mp hd with rfl | hd
    · exact shp_flat n u e.1
    · exact shp_flatAll n us e.2 d hd
end
mutual
theorem ueq_py : ∀ (n : Nat) (u w : U), U.flat n u = true → U.flat n w = true → PyData.eqv u.py w.py = ueq u w
  | n, .non, w, e, f => by cases w <;> simp [U.py, PyData.eqv, ueq, U.flat] at f ⊢
  | n, .bl a, w, e, f => by cases w <;> simp [U.py, PyData.eqv, ueq, U.flat] at f ⊢
  | n, .int a, w, e, f => by cases w <;> simp [U.py, PyData.eqv, ueq, U.flat] at f ⊢
  | n, .str a, w, e, f => by cases w <;> simp [U.py, PyData.eqv, ueq, U.flat] at f ⊢
  | n, .ty _, w, e, f => by simp [U.flat] at e
  | n, .cls _, w, e, f => by simp [U.flat] at e
  | n, .exc _, w, e, f => by simp [U.flat] at e
  | 0, .lst us, w, e, f => by simp [U.flat] at e
  | n + 1, .lst us, w, e, f => by
    cases w with
    | lst ws => simp only [U.py, PyData.eqv, ueq]; exact ueqAll_py n us ws (by simpa [U.flat] using e) (by simpa [U.flat] using f)
    | _ => simp [U.py, PyData.eqv, ueq, U.flat] at f ⊢
  | 0, .tup us, w, e, f => by simp [U.flat] at e
  | n + 1, .tup us, w, e, f => by
    cases w with
    | tup ws => simp only [U.py, PyData.eqv, ueq]; exact ueqAll_py n us ws (by simpa [U.flat] using e) (by simpa [U.flat] using f)
    | _ => simp [U.py, PyData.eqv, ueq, U.flat] at f ⊢
  | n, .dct _, w, e, f => by simp [U.flat] at e
theorem ueqAll_py : ∀ (n : Nat) (us ws : List U), U.flatAll n us = true → U.flatAll n ws = true → PyData.eqvAll (U.pyAll us) (U.pyAll ws) = ueqAll us ws
  | n, [], [], _, _ => by simp [U.pyAll, PyData.eqvAll, ueqAll]
  | n, [], w :: ws, _, _ => by simp [U.pyAll, PyData.eqvAll, ueqAll]
  | n, u :: us, [], _, _ => by simp [U.pyAll, PyData.eqvAll, ueqAll]
  | n, u :: us, w :: ws, e, f => by
    simp only [U.flatAll, Bool.and_eq_true] at e f
    simp only [U.pyAll, PyData.eqvAll, ueqAll]
    rw [ueq_py n u w e.1 f.1, ueqAll_py n us ws e.2 f.2]
end
mutual
theorem flat_mono : ∀ (n : Nat) (u : U), U.flat n u = true → U.flat (n + 1) u = true
  | _, .non, _ => by simp [U.flat]
  | _, .bl _, _ => by simp [U.flat]
  | _, .int _, _ => by simp [U.flat]
  | _, .str _, e => by simpa [U.flat] using e
  | n, .ty _, e => by simp [U.flat] at e
  | n, .cls _, e => by simp [U.flat] at e
  | n, .exc _, e => by simp [U.flat] at e
  | 0, .lst us, e => by simp [U.flat] at e
  | n + 1, .lst us, e => by rw [U.flat]; exact flatAll_mono n us (by simpa [U.flat] using e)
  | 0, .tup us, e => by simp [U.flat] at e
  | n + 1, .tup us, e => by rw [U.flat]; exact flatAll_mono n us (by simpa [U.flat] using e)
  | n, .dct _, e => by simp [U.flat] at e
theorem flatAll_mono : ∀ (n : Nat) (us : List U), U.flatAll n us = true → U.flatAll (n + 1) us = true
  | n, [], _ => by simp [U.flatAll]
  | n, u :: us, e => by
    simp only [U.flatAll, Bool.and_eq_true] at e ⊢
    exact ⟨flat_mono n u e.1, flatAll_mono n us e.2⟩
end
theorem eqv_any (n : Nat) (a : U) (ha : U.flat n a = true) : ∀ (us : List U), U.flatAll n us = true → ((U.pyAll us).any fun z => PyData.eqv z a.py) = us.any fun z => ueq z a
  | [], _ => by simp [U.pyAll]
  | u :: us, e => by
    simp only [U.flatAll, Bool.and_eq_true] at e
    simp only [U.pyAll, List.any_cons]
    rw [ueq_py n u a e.1 ha, eqv_any n a ha us e.2]
end
/-! ### part of a heap -/
def mask (H : Hp) (A : List Addr) : Hp := fun b => if b ∈ A then none else H b
theorem mask_some {H : Hp} {A : List Addr} {b : Addr} {o : HO} (h : mask H A b = some o) : b ∉ A ∧ H b = some o := by
  unfold mask at h
  split at h
  · cases h
  · exact ⟨by assumption, h⟩
theorem mask_of {H : Hp} {A : List Addr} {b : Addr} {o : HO} (n : b ∉ A) (h : H b = some o) : mask H A b = some o := by
  unfold mask
  rw [if_neg n]
  exact h
theorem mask_same (H : Hp) (A : List Addr) : Same (mask H A) H := fun _ _ h => (mask_some h).2
theorem mask_sub {H : Hp} {A B : List Addr} (h : ∀ a ∈ B, a ∈ A) : Same (mask H A) (mask H B) := fun b o e => by
  obtain ⟨n, e⟩ := mask_some e
  exact mask_of (fun m => n (h _ m)) e
/-- all but S stays as it is -/
def Ext (S : List Addr) (H H' : Hp) : Prop := (∀ b o, b ∉ S → H b = some o → H' b = some o) ∧ ∀ b, H b ≠ none → H' b ≠ none
theorem Ext.refl (S : List Addr) (H : Hp) : Ext S H H := ⟨fun _ _ _ h => h, fun _ h => h⟩
theorem Ext.trans {S : List Addr} {H H1 H2 : Hp} (a : Ext S H H1) (b : Ext S H1 H2) : Ext S H H2 := ⟨fun c o n h => b.1 c o n (a.1 c o n h), fun c h => b.2 c (a.2 c h)⟩
theorem Ext.of {S : List Addr} {H H1 : Hp} (s : Same H H1) : Ext S H H1 := ⟨fun c o _ h => s c o h, fun c h => by
  cases e : H c with
  | none => exact absurd e h
  | some o => rw [s c o e]; exact fun z => nomatch z⟩
theorem Ext.sub {S T : List Addr} {H H1 : Hp} (a : Ext T H H1) (h : ∀ b ∈ T, b ∈ S) : Ext S H H1 := ⟨fun c o n e => a.1 c o (fun m => n (h _ m)) e, a.2⟩
theorem Ext.new {S : List Addr} {H : Hp} {p : Addr} {o : HO} (h : H p = none) : Ext S H (upd H p o) := .of (Same.new h)
theorem Ext.same {H H1 : Hp} (a : Ext [] H H1) : Same H H1 := fun b o e => a.1 b o (by simp) e
theorem Ext.mask {S A : List Addr} {H H1 : Hp} (a : Ext S H H1) (h : ∀ b ∈ S, b ∈ A) : Same (mask H A) (mask H1 A) := fun b o e => by
  obtain ⟨n, e⟩ := mask_some e
  exact mask_of n (a.1 b o (fun m => n (h _ m)) e)
/-- the source of drawn numbers, if there is one -/
def SrcH (S : List Addr) (H : Hp) (s : Sst) : Prop := S = [] ∨ ∃ a c, S = [a, c] ∧ a ≠ c ∧ H a = some (.lst [.ref c, .int s.turn]) ∧ H c = some (.lst (s.cells.map V.int))
def SlotS (sl : Option Nat) (S : List Addr) (σ : L2.St) : Prop := match sl with
  | none => True
  | some i => ∃ a c, S = [a, c] ∧ σ[i]? = some (some (.ref a))
section
variable (K : PySem.W.Frag) (D : String → Addr) (O : List Nat) (sl : Option Nat) (A S : List Addr)
/-- a list or a dict of the def's own: what is in it stands apart -/
def OwnAt (M H : Hp) (a : Addr) (u : U) : Prop := (∃ vs us, u = .lst us ∧ H a = some (.lst vs) ∧ RepAll K D M vs us) ∨ ∃ vs us, u = .dct us ∧ H a = some (.dK vs) ∧ RepKV K D M vs us
def Shal (H : Hp) (v : V) (u : U) : Prop := ∃ a, v = .ref a ∧ a ∉ S ∧ OwnAt K D (mask H A) H a u
structure Ctx (H : Hp) (σ : L2.St) (ρ : Rho) (s : Sst) : Prop where
  sub : ∀ a ∈ S, a ∈ A
  dom : ∀ a ∈ A, H a ≠ none
  len : σ.length = ρ.length
  env : ∀ i u, ρ[i]? = some (some u) → ∃ v, σ[i]? = some (some v) ∧ (i ∈ O → Shal K D A S H v u) ∧ (i ∉ O → Rep K D (mask H A) v u)
  src : SrcH S H s
  slot : SlotS sl S σ
/-- clean: no list of the def's own; seen: perhaps one -/
def Cl (_ : List Addr) (H : Hp) (v : V) (u : U) : Prop := Rep K D (mask H A) v u
def Sn (H : Hp) (v : V) (u : U) : Prop := Rep K D (mask H A) v u ∨ Shal K D A S H v u
def ClA (_ : List Addr) (H : Hp) (v : List V) (u : List U) : Prop := RepAll K D (mask H A) v u
def SnA (H : Hp) : List V → List U → Prop
  | [], [] => True
  | v :: vs, u :: us => Sn K D A S H v u ∧ SnA H vs us
  | _, _ => False
def Bo (_ : Hp) (v : Bool) (u : Bool) : Prop := v = u
end
section
variable {K : PySem.W.Frag} {D : String → Addr} {O : List Nat} {sl : Option Nat} {A S : List Addr} {H H' : Hp} {σ : L2.St} {ρ : Rho} {s s' : Sst}
theorem OwnAt.ext {M M' : Hp} {a : Addr} {u : U} (h : OwnAt K D M H a u) (e : Ext S H H') (m : Same M M') (n : a ∉ S) : OwnAt K D M' H' a u := by
  rcases h with ⟨vs, us, h1, h2, h3⟩ | ⟨vs, us, h1, h2, h3⟩
  · exact .inl ⟨vs, us, h1, e.1 _ _ n h2, h3.same m⟩
  · exact .inr ⟨vs, us, h1, e.1 _ _ n h2, h3.same m⟩
theorem OwnAt.rep {M : Hp} {a : Addr} {u : U} (h : OwnAt K D M H a u) (m : Same M H') (e : ∀ o, H a = some o → H' a = some o) : Rep K D H' (.ref a) u := by
  rcases h with ⟨vs, us, rfl, h2, h3⟩ | ⟨vs, us, rfl, h2, h3⟩
  · exact .lst (e _ h2) (h3.same m)
  · exact .dct (e _ h2) (h3.same m)
theorem Ctx.ext (c : Ctx K D O sl A S H σ ρ s) (e : Ext S H H') (h : SrcH S H' s') : Ctx K D O sl A S H' σ ρ s' where
  sub := c.sub
  dom := fun a m => e.2 a (c.dom a m)
  len := c.len
  env := fun i u g => by
    obtain ⟨v, h1, h2, h3⟩ := c.env i u g
    refine ⟨v, h1, fun m => ?_, fun m => (h3 m).same (e.mask c.sub)⟩
    obtain ⟨a, e1, e2, e3⟩ := h2 m
    exact ⟨a, e1, e2, e3.ext e (e.mask c.sub) e2⟩
  src := h
  slot := c.slot
theorem SrcH.same (h : SrcH S H s) (e : Same H H') : SrcH S H' s := by
  rcases h with h | ⟨a, c, h1, h2, h3, h4⟩
  · exact .inl h
  · exact .inr ⟨a, c, h1, h2, e _ _ h3, e _ _ h4⟩
theorem Ctx.same (c : Ctx K D O sl A S H σ ρ s) (e : Same H H') : Ctx K D O sl A S H' σ ρ s := c.ext (.of e) (c.src.same e)
theorem Sn.full {v : V} {u : U} (h : Sn K D A S H v u) : Rep K D H v u := by
  rcases h with h | ⟨a, rfl, _, h⟩
  · exact h.same (mask_same _ _)
  · exact h.rep (mask_same _ _) fun _ e => e
theorem Cl.sn {v : V} {u : U} (h : Cl K D A S H v u) : Sn K D A S H v u := .inl h
/-- a seen list's items are clean -/
theorem Sn.lst {v : V} {us : List U} (h : Sn K D A S H v (.lst us)) : ∃ a vs, v = .ref a ∧ H a = some (.lst vs) ∧ RepAll K D (mask H A) vs us := by
  rcases h with h | ⟨a, rfl, _, h⟩
  · cases h with
    | lst e r => exact ⟨_, _, rfl, (mask_some e).2, r⟩
  · rcases h with ⟨vs, us', e, h2, h3⟩ | ⟨vs, us', e, h2, h3⟩
    · cases e
      exact ⟨a, vs, rfl, h2, h3⟩
    · cases e
theorem Sn.dct {v : V} {us : List (U × U)} (h : Sn K D A S H v (.dct us)) : ∃ a vs, v = .ref a ∧ H a = some (.dK vs) ∧ RepKV K D (mask H A) vs us := by
  rcases h with h | ⟨a, rfl, _, h⟩
  · cases h with
    | dct e r => exact ⟨_, _, rfl, (mask_some e).2, r⟩
  · rcases h with ⟨vs, us', e, h2, h3⟩ | ⟨vs, us', e, h2, h3⟩
    · cases e
    · cases e
      exact ⟨a, vs, rfl, h2, h3⟩
theorem SqT.full {a : Addr} {xs : List V} (h : SqT K (mask H A) a xs) : SqT K H a xs := Same.tup (mask_same _ _) h
theorem Sn.cl {v : V} {u : U} (h : Sn K D A S H v u) (n : ∀ us, u ≠ .lst us) (n' : ∀ us, u ≠ .dct us) : Cl K D A S H v u := by
  rcases h with h | ⟨a, rfl, _, h⟩
  · exact h
  · rcases h with ⟨vs, us', e, h2, h3⟩ | ⟨vs, us', e, h2, h3⟩
    · exact absurd e (n _)
    · exact absurd e (n' _)
theorem Sn.tup {v : V} {us : List U} (h : Sn K D A S H v (.tup us)) : ∃ a vs, v = .ref a ∧ SqT K H a vs ∧ SqT K (mask H A) a vs ∧ RepAll K D (mask H A) vs us := by
  cases h.cl (fun _ e => by cases e) (fun _ e => by cases e) with
  | tup e r => exact ⟨_, _, rfl, SqT.full e, e, r⟩
theorem Sn.int {v : V} {i : Int} (h : Sn K D A S H v (.int i)) : v = .int i := by
  have := h.full
  cases this
  rfl
theorem Sn.bl {v : V} {i : Bool} (h : Sn K D A S H v (.bl i)) : v = .bl i := by
  have := h.full
  cases this
  rfl
theorem Sn.str {v : V} {i : Str} (h : Sn K D A S H v (.str i)) : v = .str i := by
  have := h.full
  cases this
  rfl
theorem Rep.isnon {v : V} {u : U} (h : Rep K D H v u) : decide (v = .non) = isNon u := by
  cases h <;> simp [isNon]
end
/-! ### what is wanted behind a piece of text -/
section
variable {α β γ δ : Type} (D : String → Addr) (W : WX) (S : List Addr) (σ : L2.St)
def PostG (H : Hp) (rep : Hp → β → α → Prop) (r : R α) (Q : β → Hp → Prop) : Prop := match r with
  | .ok u s => ∀ v H', Ext S H H' → SrcH S H' s → rep H' v u → Q v H'
  | .err c s => ∀ H', Ext S H H' → SrcH S H' s → W (.ref (D c)) none σ H'
  | .stuck => False
variable {D W S σ} {H H1 : Hp} {rep : Hp → β → α → Prop} {rep2 : Hp → δ → γ → Prop} {r : R α} {Q : β → Hp → Prop} {Q2 : δ → Hp → Prop} {k : α → Sst → R γ}
theorem PostG.ext (h : PostG D W S σ H rep r Q) (e : Ext S H H1) : PostG D W S σ H1 rep r Q := by
  cases r with
  | ok u s => exact fun v H' e' hs hr => h v H' (e.trans e') hs hr
  | err c s => exact fun H' e' hs => h H' (e.trans e') hs
  | stuck => exact h
theorem PostG.bind (h : PostG D W S σ H rep2 (r.bind k) Q2) (hk : ∀ u s1 v H1, Ext S H H1 → SrcH S H1 s1 → rep H1 v u → PostG D W S σ H1 rep2 (k u s1) Q2 → Q v H1) : PostG D W S σ H rep r Q := by
  cases r with
  | ok u s => exact fun v H' e hs hr => hk u s v H' e hs hr (PostG.ext (r := k u s) h e)
  | err c s => exact h
  | stuck => exact h
theorem PostG.mono {Q' : β → Hp → Prop} (h : PostG D W S σ H rep r Q) (hk : ∀ v H1, Q v H1 → Q' v H1) : PostG D W S σ H rep r Q' := by
  cases r with
  | ok u s => exact fun v H' e hs hr => hk _ _ (h v H' e hs hr)
  | err c s => exact h
  | stuck => exact h
theorem PostG.opt {o : Option α} {s : Sst} (h : PostG D W S σ H rep (My.opt o s) Q) (hs : SrcH S H s) : ∃ u, o = some u ∧ ∀ v H', Same H H' → rep H' v u → Q v H' := by
  cases o with
  | none => exact h.elim
  | some u => exact ⟨u, rfl, fun v H' e hr => h v H' (.of e) (hs.same e) hr⟩
end
section
variable {K : PySem.W.Frag} {D : String → Addr} {A S : List Addr} {H H' : Hp}
theorem Sn.ext {v : V} {u : U} (h : Sn K D A S H v u) (e : Ext S H H') (m : ∀ b ∈ S, b ∈ A) : Sn K D A S H' v u := by
  rcases h with h | ⟨a, rfl, n, h⟩
  · exact .inl (h.same (e.mask m))
  · exact .inr ⟨a, rfl, n, h.ext e (e.mask m) n⟩
theorem SnA.ext (e : Ext S H H') (m : ∀ b ∈ S, b ∈ A) : ∀ {vs : List V} {us : List U}, SnA K D A S H vs us → SnA K D A S H' vs us
  | [], [], _ => trivial
  | v :: vs, u :: us, h => ⟨h.1.ext e m, SnA.ext e m h.2⟩
  | [], _ :: _, h => h.elim
  | _ :: _, [], h => h.elim
theorem Cl.ext {v : V} {u : U} (h : Cl K D A S H v u) (e : Ext S H H') (m : ∀ b ∈ S, b ∈ A) : Cl K D A S H' v u := Rep.same (e.mask m) u h
end
/-! ### expressions -/
abbrev Rp := PySem.W.Frag → (String → Addr) → List Addr → List Addr → Hp → V → U → Prop
abbrev RpA := PySem.W.Frag → (String → Addr) → List Addr → List Addr → Hp → List V → List U → Prop
section
variable (K : PySem.W.Frag) (D : String → Addr) (W : WX) (O : List Nat) (sl : Option Nat)
def EOK (rp : Rp) (te : TE) (f : EF) : Prop := ∀ A S H σ ρ s Q, Ctx K D O sl A S H σ ρ s → PostG D W S σ H (rp K D A S) (f ρ s) Q → te σ H Q
def TOK (tt : TT) (f : TF) : Prop := ∀ A S H σ ρ s Q, Ctx K D O sl A S H σ ρ s → PostG D W S σ H Bo (f ρ s) Q → tt σ H Q
def AOK (rp : RpA) (ta : TA) (f : AF) : Prop := ∀ A S H σ ρ s Q, Ctx K D O sl A S H σ ρ s → PostG D W S σ H (rp K D A S) (f ρ s) Q → ta σ H Q
/-- an operation of two seen values -/
def OpOK (r : R2) (p : U → U → Option U) : Prop := ∀ A S H x y a b c Q, (∀ z ∈ A, H z ≠ none) → Sn K D A S H x a → Sn K D A S H y b → p a b = some c → (∀ v H', Same H H' → Cl K D A S H' v c → Q v H') → r x y H Q
def UnOK (r : V → Hp → VK → Prop) (p : U → Option U) : Prop := ∀ A S H x a c Q, (∀ z ∈ A, H z ≠ none) → Sn K D A S H x a → p a = some c → (∀ v H', Same H H' → Cl K D A S H' v c → Q v H') → r x H Q
/-- a call of a builtin: its arguments may be seen -/
def CbOK (r : List V → Hp → VK → Prop) (p : List U → Option U) : Prop := ∀ A S H xs as c Q, (∀ z ∈ A, H z ≠ none) → SnA K D A S H xs as → p as = some c → (∀ v H', Same H H' → Cl K D A S H' v c → Q v H') → r xs H Q
end
end My

set_option linter.all false
set_option maxRecDepth 100000
namespace My
open PySem PySem.Spec PyProof.Rows L2
open C8 (pe_gc)
section
variable {K : PySem.W.Frag} {D : String → Addr} {W : WX} {O : List Nat} {sl : Option Nat} {ta tb tc te : TE} {fa fb fc fe : EF} {tt tu : TT} {ft fu : TF} {tas : TA} {fas : AF}
theorem eok_sn (h : EOK K D W O sl Cl te fe) : EOK K D W O sl Sn te fe := fun A S H σ ρ s Q c p => h A S H σ ρ s Q c (by
  cases e : fe ρ s with
  | ok u s' => rw [e] at p; exact fun v H' a b r => p v H' a b (Cl.sn r)
  | err c s' => rw [e] at p; exact p
  | stuck => rw [e] at p; exact p)
theorem eok_var {i : Nat} (n : i ∉ O) : EOK K D W O sl Cl (tVar i) (eV i) := fun A S H σ ρ s Q c p => by
  unfold eV at p
  split at p
  · rename_i u e
    obtain ⟨v, h1, _, h2⟩ := c.env i u e
    exact ⟨v, h1, p v H (Ext.refl _ _) c.src (h2 n)⟩
  · exact p.elim
theorem eok_varS {i : Nat} : EOK K D W O sl Sn (tVar i) (eV i) := fun A S H σ ρ s Q c p => by
  unfold eV at p
  split at p
  · rename_i u e
    obtain ⟨v, h1, h2, h3⟩ := c.env i u e
    refine ⟨v, h1, p v H (Ext.refl _ _) c.src ?_⟩
    by_cases m : i ∈ O
    · exact .inr (h2 m)
    · exact .inl (h3 m)
  · exact p.elim
theorem eok_c {v : V} {u : U} (h : ∀ H, Rep K D H v u) : EOK K D W O sl Cl (tC v) (eC u) := fun A S H σ ρ s Q c p => p v H (Ext.refl _ _) c.src (h _)
theorem eok_op {r : R2} {p : U → U → Option U} (h : OpOK K D r p) (ha : EOK K D W O sl Sn ta fa) (hb : EOK K D W O sl Sn tb fb) : EOK K D W O sl Cl (tOp r ta tb) (e2 p fa fb) := fun A S H σ ρ s Q c q =>
  ha A S H σ ρ s _ c (q.bind fun x s1 v H1 e1 h1 r1 q1 => hb A S H1 σ ρ s1 _ (c.ext e1 h1) (q1.bind fun y s2 w H2 e2 h2 r2 q2 => by
    obtain ⟨z, hz, q3⟩ := q2.opt h2
    exact h A S H2 v w x y z Q ((c.ext e1 h1).ext e2 h2).dom (r1.ext e2 c.sub) r2 hz q3))
theorem eok_un {r : V → Hp → VK → Prop} {p : U → Option U} (h : UnOK K D r p) (ha : EOK K D W O sl Sn ta fa) : EOK K D W O sl Cl (tUn r ta) (My.e1 p fa) := fun A S H σ ρ s Q c q =>
  ha A S H σ ρ s _ c (q.bind fun x s1 v H1 e1 h1 r1 q1 => by
    obtain ⟨z, hz, q3⟩ := q1.opt h1
    exact h A S H1 v x z Q (c.ext e1 h1).dom r1 hz q3)
theorem aok_nil : AOK K D W O sl ClA tNil aNil := fun A S H σ ρ s Q c q => q [] H (Ext.refl _ _) c.src .nil
theorem aok_cons (ha : EOK K D W O sl Cl ta fa) (hs : AOK K D W O sl ClA tas fas) : AOK K D W O sl ClA (tCons ta tas) (aCons fa fas) := fun A S H σ ρ s Q c q =>
  ha A S H σ ρ s _ c (q.bind fun x s1 v H1 e1 h1 r1 q1 => hs A S H1 σ ρ s1 _ (c.ext e1 h1) (q1.bind fun y s2 w H2 e2 h2 r2 q2 => q2 (v :: w) H2 (Ext.refl _ _) h2 (.cons (Cl.ext r1 e2 c.sub) r2)))
theorem aoks_nil : AOK K D W O sl SnA tNil aNil := fun A S H σ ρ s Q c q => q [] H (Ext.refl _ _) c.src trivial
theorem aoks_cons (ha : EOK K D W O sl Sn ta fa) (hs : AOK K D W O sl SnA tas fas) : AOK K D W O sl SnA (tCons ta tas) (aCons fa fas) := fun A S H σ ρ s Q c q =>
  ha A S H σ ρ s _ c (q.bind fun x s1 v H1 e1 h1 r1 q1 => hs A S H1 σ ρ s1 _ (c.ext e1 h1) (q1.bind fun y s2 w H2 e2 h2 r2 q2 => q2 (v :: w) H2 (Ext.refl _ _) h2 ⟨r1.ext e2 c.sub, r2⟩))
theorem lineB_le {n : Nat} (h : lineB n = true) : n ≤ sizeLine := Nat.le_trans (of_decide_eq_true h) (by decide)
theorem Rep.newT {A : List Addr} {H : Hp} {p : Addr} {vs : List V} {us : List U} (h : RepAll K D (mask H A) vs us) (np : H p = none) (d : ∀ z ∈ A, H z ≠ none) : Rep K D (mask (upd H p (.tup vs)) A) (.ref p) (.tup us) :=
  .tup (.of (mask_of (fun m => d p m np) upd_same)) (h.same ((Ext.of (Same.new np) : Ext [] _ _).mask (by simp)))
theorem Rep.newL {A : List Addr} {H : Hp} {p : Addr} {vs : List V} {us : List U} (h : RepAll K D (mask H A) vs us) (np : H p = none) (d : ∀ z ∈ A, H z ≠ none) : Rep K D (mask (upd H p (.lst vs)) A) (.ref p) (.lst us) :=
  .lst (mask_of (fun m => d p m np) upd_same) (h.same ((Ext.of (Same.new np) : Ext [] _ _).mask (by simp)))
theorem eok_tup (h : AOK K D W O sl ClA tas fas) : EOK K D W O sl Cl (tTup tas) (eN pTup fas) := fun A S H σ ρ s Q c q =>
  h A S H σ ρ s _ c (q.bind fun xs s1 vs H1 e1 h1 r1 q1 => by
    obtain ⟨z, hz, q3⟩ := q1.opt h1
    unfold pTup at hz
    split at hz
    · rename_i hl
      cases hz
      exact ⟨by rw [RepAll.length r1]; exact lineB_le hl, fun p np => q3 _ _ (Same.new np) (Rep.newT r1 np (c.ext e1 h1).dom)⟩
    · cases hz)
theorem eok_lst (h : AOK K D W O sl ClA tas fas) : EOK K D W O sl Cl (tLst tas) (eN pLst fas) := fun A S H σ ρ s Q c q =>
  h A S H σ ρ s _ c (q.bind fun xs s1 vs H1 e1 h1 r1 q1 => by
    obtain ⟨z, hz, q3⟩ := q1.opt h1
    unfold pLst at hz
    split at hz
    · rename_i hl
      cases hz
      exact ⟨by rw [RepAll.length r1]; exact lineB_le hl, fun p np => q3 _ _ (Same.new np) (Rep.newL r1 np (c.ext e1 h1).dom)⟩
    · cases hz)
theorem eok_cb {r : List V → Hp → VK → Prop} {p : List U → Option U} (h : CbOK K D r p) (ha : AOK K D W O sl SnA tas fas) : EOK K D W O sl Cl (tCB r tas) (eN p fas) := fun A S H σ ρ s Q c q =>
  ha A S H σ ρ s _ c (q.bind fun xs s1 vs H1 e1 h1 r1 q1 => by
    obtain ⟨z, hz, q3⟩ := q1.opt h1
    exact h A S H1 vs xs z Q (c.ext e1 h1).dom r1 hz q3)
theorem toB_some {u : U} {b : Bool} (h : toB u = some b) : u = .bl b := by
  cases u <;> simp [toB] at h
  subst h
  rfl
/-- a value that is True or False -/
theorem eok_isB {A S : List Addr} {H : Hp} {v : V} {x : U} {s1 : Sst} {σ : L2.St} {α β : Type} {rep : Hp → β → α → Prop} {k : Bool → Sst → R α} {Q : β → Hp → Prop} (r : Sn K D A S H v x) (hs : SrcH S H s1) (q : PostG D W S σ H rep ((opt (toB x) s1).bind k) Q) :
    ∃ b, v = .bl b ∧ PostG D W S σ H rep (k b s1) Q := by
  cases e : toB x with
  | none => rw [e] at q; exact q.elim
  | some b =>
    have e2 := toB_some e
    subst e2
    exact ⟨b, r.bl, by rw [e] at q; exact q⟩
theorem eok_and (ha : EOK K D W O sl Sn ta fa) (hb : EOK K D W O sl Cl tb fb) : EOK K D W O sl Cl (tAndV ta tb) (eAnd fa fb) := fun A S H σ ρ s Q c q =>
  ha A S H σ ρ s _ c (q.bind fun x s1 v H1 e1 h1 r1 q1 => by
    obtain ⟨b, rfl, q2⟩ := eok_isB r1 h1 q1
    refine ⟨b, rfl, ?_⟩
    cases b with
    | true => exact hb A S H1 σ ρ s1 _ (c.ext e1 h1) q2
    | false => exact q2 _ _ (Ext.refl _ _) h1 (.bl _))
theorem eok_or (ha : EOK K D W O sl Sn ta fa) (hb : EOK K D W O sl Cl tb fb) : EOK K D W O sl Cl (tOrV ta tb) (eOr fa fb) := fun A S H σ ρ s Q c q =>
  ha A S H σ ρ s _ c (q.bind fun x s1 v H1 e1 h1 r1 q1 => by
    obtain ⟨b, rfl, q2⟩ := eok_isB r1 h1 q1
    refine ⟨b, rfl, ?_⟩
    cases b with
    | false => exact hb A S H1 σ ρ s1 _ (c.ext e1 h1) q2
    | true => exact q2 _ _ (Ext.refl _ _) h1 (.bl _))
theorem eok_not (ha : EOK K D W O sl Sn ta fa) : EOK K D W O sl Cl (tNotV ta) (eNot fa) := fun A S H σ ρ s Q c q =>
  ha A S H σ ρ s _ c (q.bind fun x s1 v H1 e1 h1 r1 q1 => by
    cases e : toB x with
    | none => rw [e] at q1; exact q1.elim
    | some b =>
      have e2 := toB_some e
      subst e2
      obtain rfl := r1.bl
      exact ⟨b, rfl, q1 _ _ (Ext.refl _ _) h1 (.bl _)⟩)
theorem eok_if (hc : TOK K D W O sl tt ft) (ha : EOK K D W O sl Cl ta fa) (hb : EOK K D W O sl Cl tb fb) : EOK K D W O sl Cl (tIf tt ta tb) (eIf ft fa fb) := fun A S H σ ρ s Q c q =>
  hc A S H σ ρ s _ c (q.bind fun x s1 v H1 e1 h1 r1 q1 => by
    have e2 : v = x := r1
    subst e2
    cases v with
    | true => exact ha A S H1 σ ρ s1 _ (c.ext e1 h1) q1
    | false => exact hb A S H1 σ ρ s1 _ (c.ext e1 h1) q1)
theorem eok_chain {r r' : R2} {p p' : U → U → Option U} (h : OpOK K D r p) (h' : OpOK K D r' p') (ha : EOK K D W O sl Sn ta fa) (hb : EOK K D W O sl Sn tb fb) (hc : EOK K D W O sl Sn tc fc) :
    EOK K D W O sl Cl (tChain r r' ta tb tc) (eChain p p' fa fb fc) := fun A S H σ ρ s Q c q =>
  ha A S H σ ρ s _ c (q.bind fun x s1 v H1 e1 h1 r1 q1 => hb A S H1 σ ρ s1 _ (c.ext e1 h1) (q1.bind fun y s2 w H2 e2 h2 r2 q2 => by
    cases hz : p x y with
    | none => rw [hz] at q2; exact q2.elim
    | some z =>
      rw [hz] at q2
      have c2 := (c.ext e1 h1).ext e2 h2
      refine h A S H2 v w x y z _ c2.dom (r1.ext e2 c.sub) r2 hz fun v3 H3 s3 r3 => ?_
      have q2' := PostG.ext q2 (Ext.of (S := S) s3)
      obtain ⟨b, rfl, q3⟩ := eok_isB (Cl.sn r3) (h2.same s3) q2'
      refine ⟨b, rfl, ?_⟩
      cases b with
      | false => exact q3 _ _ (Ext.refl _ _) (h2.same s3) (.bl _)
      | true =>
        refine hc A S H3 σ ρ s2 _ (c2.same s3) (q3.bind fun z s4 u H4 e4 h4 r4 q4 => ?_)
        obtain ⟨z', hz', q5⟩ := q4.opt h4
        exact h' A S H4 w u y z z' Q ((c2.same s3).ext e4 h4).dom ((r2.ext (Ext.of s3) c.sub).ext e4 c.sub) r4 hz' q5))
/-! tests -/
theorem tok_val (ha : EOK K D W O sl Sn ta fa) : TOK K D W O sl (tB ta) (tV fa) := fun A S H σ ρ s Q c q =>
  ha A S H σ ρ s _ c (q.bind fun x s1 v H1 e1 h1 r1 q1 => by
    cases e : toB x with
    | none => rw [e] at q1; exact q1.elim
    | some b =>
      have e2 := toB_some e
      subst e2
      obtain rfl := r1.bl
      exact ⟨b, rfl, q1 _ _ (Ext.refl _ _) h1 rfl⟩)
theorem tok_not (ha : TOK K D W O sl tt ft) : TOK K D W O sl (tNot tt) (tN ft) := fun A S H σ ρ s Q c q =>
  ha A S H σ ρ s _ c (q.bind fun x s1 v H1 e1 h1 r1 q1 => by
    have e2 : v = x := r1
    subst e2
    exact q1 _ _ (Ext.refl _ _) h1 rfl)
theorem tok_and (ha : TOK K D W O sl tt ft) (hb : TOK K D W O sl tu fu) : TOK K D W O sl (tAnd tt tu) (tA ft fu) := fun A S H σ ρ s Q c q =>
  ha A S H σ ρ s _ c (q.bind fun x s1 v H1 e1 h1 r1 q1 => by
    have e2 : v = x := r1
    subst e2
    cases v with
    | true => exact hb A S H1 σ ρ s1 _ (c.ext e1 h1) q1
    | false => exact q1 _ _ (Ext.refl _ _) h1 rfl)
theorem tok_or (ha : TOK K D W O sl tt ft) (hb : TOK K D W O sl tu fu) : TOK K D W O sl (tOr tt tu) (tO ft fu) := fun A S H σ ρ s Q c q =>
  ha A S H σ ρ s _ c (q.bind fun x s1 v H1 e1 h1 r1 q1 => by
    have e2 : v = x := r1
    subst e2
    cases v with
    | false => exact hb A S H1 σ ρ s1 _ (c.ext e1 h1) q1
    | true => exact q1 _ _ (Ext.refl _ _) h1 rfl)
theorem tok_yes : TOK K D W O sl tYes tY := fun A S H σ ρ s Q c q => q true H (Ext.refl _ _) c.src rfl
end
/-! ### operations -/
/-- one of two readings -/
def R2.or (r r' : R2) : R2 := fun x y H Q => r x y H Q ∨ r' x y H Q
section
variable {X : Cx} {f : Value → Value → Sem Value} {r r' : R2}
theorem op_or2 (h : OpR X f r) (h' : OpR X f r') : OpR X f (R2.or r r') := fun pins s σ H x y v u Q I rx ry q => by
  rcases q with q | q
  · exact h pins s σ H x y v u Q I rx ry q
  · exact h' pins s σ H x y v u Q I rx ry q
theorem ix_or2 (h : IxR X r) (h' : IxR X r') : IxR X (R2.or r r') := fun a b pins s σ H x y v u Q I rx ry q e => by
  rcases q with q | q
  · exact h a b pins s σ H x y v u Q I rx ry q e
  · exact h' a b pins s σ H x y v u Q I rx ry q e
end
abbrev rAdd : R2 := rI0 fun i j => .int (i + j)
abbrev rAddS : R2 := fun x y H Q => ∃ i j, x = .str i ∧ y = .str j ∧ i.length + j.length ≤ sizeLine ∧ Q (.str (i ++ j)) H
abbrev rAddAny (K : PySem.W.Frag) : R2 := R2.or (R2.or rAdd rAddS) (R2.or rCat (rCatA K))
section
variable {K : PySem.W.Frag} {D : String → Addr}
theorem op_addAny {X : Cx} : OpR X (binaryOp .Add) (rAddAny X.K) := op_or2 (op_or2 op_add op_add_str) (op_or2 op_cat op_catA)
theorem ok_add : OpOK K D (rAddAny K) pAdd := fun A S H x y a b c Q d ha hb e q => by
  unfold pAdd at e
  split at e
  · cases e
    obtain rfl := ha.int
    obtain rfl := hb.int
    exact .inl (.inl ⟨_, _, rfl, rfl, q _ _ (Same.refl _) (.int _)⟩)
  · split at e
    · rename_i hl
      cases e
      obtain ⟨p, vs, rfl, hp, hv⟩ := ha.lst
      obtain ⟨p', vs', rfl, hp', hv'⟩ := hb.lst
      exact .inr (.inl ⟨p, p', vs, vs', rfl, rfl, hp, hp', by rw [hv.length, hv'.length]; exact lineB_le hl, fun z nz => q _ _ (Same.new nz) (Rep.newL (hv.app hv') nz d)⟩)
    · cases e
  · split at e
    · rename_i hl
      cases e
      obtain ⟨p, vs, rfl, hp, hpm, hv⟩ := ha.tup
      obtain ⟨p', vs', rfl, hp', hpm', hv'⟩ := hb.tup
      refine .inr (.inr ⟨p, p', vs, vs', rfl, rfl, hp, hp', by rw [hv.length, hv'.length]; exact lineB_le hl, fun h0 => ?_, fun _ h0 => ?_, fun _ _ z nz => q _ _ (Same.new nz) (Rep.newT (hv.app hv') nz d)⟩)
      · subst h0
        cases hv
        exact q _ _ (Same.refl _) (.tup hpm' hv')
      · subst h0
        cases hv'
        rw [List.append_nil] at q
        exact q _ _ (Same.refl _) (.tup hpm hv)
    · cases e
  · split at e
    · rename_i hl
      cases e
      obtain rfl := ha.str
      obtain rfl := hb.str
      exact .inl (.inr ⟨_, _, rfl, rfl, lineB_le hl, q _ _ (Same.refl _) (.str _)⟩)
    · cases e
  · cases e
theorem ok_sub : OpOK K D (rI0 fun i j => .int (i - j)) pSub := fun A S H x y a b c Q d ha hb e q => by
  unfold pSub at e
  split at e
  · cases e
    obtain rfl := ha.int
    obtain rfl := hb.int
    exact ⟨_, _, rfl, rfl, q _ _ (Same.refl _) (.int _)⟩
  · cases e
abbrev rMulAny (K : PySem.W.Frag) : R2 := R2.or (rI CMulX fun i j => .int (i * j)) (rRepT K)
theorem op_mulAny {X : Cx} : OpR X (binaryOp .Mult) (rMulAny X.K) := op_or2 op_mulX op_repT
theorem flat_rep {H : Hp} {vs : List V} {us : List U} (h : RepAll K D H vs us) : ∀ n : Nat, RepAll K D H (List.replicate n vs).flatten (List.replicate n us).flatten
  | 0 => .nil
  | n + 1 => by
    rw [List.replicate_succ, List.flatten_cons, List.replicate_succ, List.flatten_cons]
    exact h.app (flat_rep h n)
theorem ok_mul : OpOK K D (rMulAny K) pMul := fun A S H x y a b c Q d ha hb e q => by
  unfold pMul at e
  split at e
  · split at e
    · rename_i hl
      cases e
      obtain rfl := ha.int
      obtain rfl := hb.int
      simp only [Bool.and_eq_true] at hl
      exact .inl ⟨_, _, rfl, rfl, mul_sm (show _ < 2 ^ 20000 from of_decide_eq_true hl.1) (show _ < 2 ^ 20000 from of_decide_eq_true hl.2), q _ _ (Same.refl _) (.int _)⟩
    · cases e
  · split at e
    · rename_i hl
      cases e
      obtain ⟨p, vs, rfl, hp, hpm, hv⟩ := ha.tup
      obtain rfl := hb.int
      have hl := of_decide_eq_true hl
      refine .inr ⟨p, _, vs, rfl, rfl, hp, fun h0 => ?_, hl.1, hl.2.1, by rw [hv.length]; exact hl.2.2.2, fun z nz => q _ _ (Same.new nz) (Rep.newT (flat_rep hv _) nz d)⟩
      subst h0
      cases hv
      exact hl.2.2.1 rfl
    · cases e
  · cases e
theorem ok_div : OpOK K D (rI CDivW fun i j => .int (i / j)) pDiv := fun A S H x y a b c Q d ha hb e q => by
  unfold pDiv at e
  split at e
  · split at e
    · rename_i hl
      cases e
      obtain rfl := ha.int
      obtain rfl := hb.int
      simp only [Bool.and_eq_true] at hl
      exact ⟨_, _, rfl, rfl, wide_div (of_decide_eq_true hl.1) (of_decide_eq_true hl.2) (by decide) (by decide), q _ _ (Same.refl _) (.int _)⟩
    · cases e
  · cases e
theorem ok_mod : OpOK K D (rI (fun _ j => 0 < j) fun i j => .int (i % j)) pMod := fun A S H x y a b c Q d ha hb e q => by
  unfold pMod at e
  split at e
  · split at e
    · rename_i hl
      cases e
      obtain rfl := ha.int
      obtain rfl := hb.int
      exact ⟨_, _, rfl, rfl, of_decide_eq_true hl, q _ _ (Same.refl _) (.int _)⟩
    · cases e
  · cases e
theorem ok_neg : UnOK K D (rU fun i => .int (-i)) pNeg := fun A S H x a c Q d ha e q => by
  unfold pNeg at e
  split at e
  · cases e
    obtain rfl := ha.int
    exact ⟨_, rfl, q _ _ (Same.refl _) (.int _)⟩
  · cases e
theorem ok_cmp {g : Int → Int → Bool} {p : U → U → Option U} (h : ∀ a b c, p a b = some c → ∃ i j, a = .int i ∧ b = .int j ∧ c = .bl (g i j)) : OpOK K D (rI0 fun i j => .bl (g i j)) p := fun A S H x y a b c Q d ha hb e q => by
  obtain ⟨i, j, rfl, rfl, rfl⟩ := h a b c e
  obtain rfl := ha.int
  obtain rfl := hb.int
  exact ⟨_, _, rfl, rfl, q _ _ (Same.refl _) (.bl _)⟩
theorem ok_lt : OpOK K D (rI0 fun i j => .bl (decide (i < j))) pLt := ok_cmp fun a b c e => by
  unfold pLt at e
  split at e
  · cases e; exact ⟨_, _, rfl, rfl, rfl⟩
  · cases e
theorem ok_le : OpOK K D (rI0 fun i j => .bl (decide (i ≤ j))) pLe := ok_cmp fun a b c e => by
  unfold pLe at e
  split at e
  · cases e; exact ⟨_, _, rfl, rfl, rfl⟩
  · cases e
theorem ok_gt : OpOK K D (rI0 fun i j => .bl (decide (j < i))) pGt := ok_cmp fun a b c e => by
  unfold pGt at e
  split at e
  · cases e; exact ⟨_, _, rfl, rfl, rfl⟩
  · cases e
theorem ok_ge : OpOK K D (rI0 fun i j => .bl (decide (j ≤ i))) pGe := ok_cmp fun a b c e => by
  unfold pGe at e
  split at e
  · cases e; exact ⟨_, _, rfl, rfl, rfl⟩
  · cases e
theorem deep_dp {A S : List Addr} {H : Hp} {x y : V} {a b : U} (ha : Sn K D A S H x a) (hb : Sn K D A S H y b) (e : deepB a b = true) : Dp K H x a.py ∧ Dp K H y b.py ∧ SeqAt.shaped a.py = true ∧ SeqAt.shaped b.py = true ∧ PyData.eqv a.py b.py = ueq a b := by
  unfold deepB at e
  simp only [Bool.and_eq_true] at e
  exact ⟨ha.full.dp 40 a e.1, hb.full.dp 40 b e.2, (shp_flat 40 a e.1).ok, (shp_flat 40 b e.2).ok, ueq_py 40 a b e.1 e.2⟩
theorem ok_eq : OpOK K D (rEqD K) pEq := fun A S H x y a b c Q d ha hb e q => by
  unfold pEq at e
  split at e
  · rename_i hd
    cases e
    obtain ⟨h1, h2, h3, h4, h5⟩ := deep_dp ha hb hd
    exact ⟨_, _, h1, h2, h3, h4, by rw [h5]; exact q _ _ (Same.refl _) (.bl _)⟩
  · cases e
theorem ok_ne : OpOK K D (rNeD K) pNe := fun A S H x y a b c Q d ha hb e q => by
  unfold pNe at e
  split at e
  · rename_i hd
    cases e
    obtain ⟨h1, h2, h3, h4, h5⟩ := deep_dp ha hb hd
    exact ⟨_, _, h1, h2, h3, h4, by rw [h5]; exact q _ _ (Same.refl _) (.bl _)⟩
  · cases e
theorem non_of {H : Hp} {v : V} {u : U} (h : Rep K D H v u) (e : isNon u = true) : v = .non := by
  have := h.isnon
  rw [e] at this
  exact of_decide_eq_true this
abbrev rIsN' : R2 := fun x y H Q => y = .non ∧ Q (.bl (decide (x = .non))) H
abbrev rNotN' : R2 := fun x y H Q => y = .non ∧ Q (.bl (!decide (x = .non))) H
theorem ok_is : OpOK K D rIsN' pIs := fun A S H x y a b c Q d ha hb e q => by
  unfold pIs at e
  split at e
  · rename_i hd
    cases e
    exact ⟨non_of hb.full hd, by rw [ha.full.isnon]; exact q _ _ (Same.refl _) (.bl _)⟩
  · cases e
theorem ok_isNot : OpOK K D rNotN' pIsNot := fun A S H x y a b c Q d ha hb e q => by
  unfold pIsNot at e
  split at e
  · rename_i hd
    cases e
    exact ⟨non_of hb.full hd, by rw [ha.full.isnon]; exact q _ _ (Same.refl _) (.bl _)⟩
  · cases e
theorem ok_in : OpOK K D (rInD K) pIn := fun A S H x y a b c Q d ha hb e q => by
  unfold pIn at e
  split at e
  · rename_i us
    split at e
    · rename_i hd
      cases e
      obtain ⟨h1, h2, h3, h4, h5⟩ := deep_dp ha hb hd
      unfold deepB at hd
      simp only [Bool.and_eq_true] at hd
      have h6 : U.flatAll 39 us = true := by simpa [U.flat] using hd.2
      rw [U.py] at h2 h4
      refine ⟨_, _, h1, h2, h3, h4, ?_⟩
      have h7 : U.flatAll 40 us = true := flatAll_mono 39 us h6
      rw [eqv_any 40 a hd.1 us h7]
      exact q _ _ (Same.refl _) (.bl _)
    · cases e
  · cases e
theorem ok_notIn : OpOK K D (rNotInD K) pNotIn := fun A S H x y a b c Q d ha hb e q => by
  unfold pNotIn at e
  split at e
  · rename_i us
    split at e
    · rename_i hd
      cases e
      obtain ⟨h1, h2, h3, h4, h5⟩ := deep_dp ha hb hd
      unfold deepB at hd
      simp only [Bool.and_eq_true] at hd
      have h6 : U.flatAll 39 us = true := by simpa [U.flat] using hd.2
      rw [U.py] at h2 h4
      refine ⟨_, _, h1, h2, h3, h4, ?_⟩
      have h7 : U.flatAll 40 us = true := flatAll_mono 39 us h6
      rw [eqv_any 40 a hd.1 us h7]
      exact q _ _ (Same.refl _) (.bl _)
    · cases e
  · cases e
abbrev rIxAny (K : PySem.W.Frag) : R2 := R2.or (rIxL K) (rIxT K)
theorem ix_any {X : Cx} : IxR X (rIxAny X.K) := ix_or2 ix_list ix_tup
theorem ix_anyK {X : Cx} {K : PySem.W.Frag} (h : X.K = K := by rfl) : IxR X (rIxAny K) := by subst h; exact ix_any
theorem atI_rep {H : Hp} {vs : List V} {us : List U} {i : Int} {u : U} (h : RepAll K D H vs us) (e : atI us i = some u) : ∃ v, atI vs i = some v ∧ Rep K D H v u := by
  unfold atI at e ⊢
  rw [h.length]
  cases g : ixN us.length i with
  | none => rw [g] at e; cases e
  | some j =>
    rw [g] at e
    exact h.get e
theorem ok_ix : OpOK K D (rIxAny K) pIdx := fun A S H x y a b c Q d ha hb e q => by
  unfold pIdx at e
  split at e
  · obtain ⟨p, vs, rfl, hp, hv⟩ := ha.lst
    obtain rfl := hb.int
    obtain ⟨v, e1, e2⟩ := atI_rep hv e
    exact .inl ⟨p, vs, _, v, rfl, rfl, .of hp, e1, q _ _ (Same.refl _) e2⟩
  · obtain ⟨p, vs, rfl, hp, hpm, hv⟩ := ha.tup
    obtain rfl := hb.int
    obtain ⟨v, e1, e2⟩ := atI_rep hv e
    exact .inr ⟨p, vs, _, v, rfl, rfl, hp, e1, q _ _ (Same.refl _) e2⟩
  · cases e
end
end My

set_option linter.all false
set_option maxRecDepth 100000
namespace My
open PySem PySem.Spec PyProof.Rows L2
open C8 (pe_gc)
/-! ### builtins -/
section
variable {K : PySem.W.Frag} {D : String → Addr} {A S : List Addr} {H : Hp}
theorem SnA.one {xs : List V} {u : U} (h : SnA K D A S H xs [u]) : ∃ v, xs = [v] ∧ Sn K D A S H v u := by
  match xs, h with
  | [v], h => exact ⟨v, rfl, h.1⟩
theorem SnA.two {xs : List V} {u w : U} (h : SnA K D A S H xs [u, w]) : ∃ v v', xs = [v, v'] ∧ Sn K D A S H v u ∧ Sn K D A S H v' w := by
  match xs, h with
  | [v, v'], h => exact ⟨v, v', rfl, h.1, h.2.1⟩
theorem ok_len : CbOK K D (fun xs H Q => ∃ p ys, xs = [.ref p] ∧ (SqL K H p ys ∨ SqT K H p ys) ∧ Q (.int ys.length) H) pLen := fun A S H xs as c Q d ha e q => by
  unfold pLen at e
  split at e
  · cases e
    obtain ⟨v, rfl, h⟩ := ha.one
    obtain ⟨p, vs, rfl, hp, hv⟩ := h.lst
    exact ⟨p, vs, rfl, .inl (.of hp), by rw [hv.length]; exact q _ _ (Same.refl _) (.int _)⟩
  · cases e
    obtain ⟨v, rfl, h⟩ := ha.one
    obtain ⟨p, vs, rfl, hp, _, hv⟩ := h.tup
    exact ⟨p, vs, rfl, .inr hp, by rw [hv.length]; exact q _ _ (Same.refl _) (.int _)⟩
  · cases e
theorem ok_list : CbOK K D (fun xs H Q => ∃ p ys, xs = [.ref p] ∧ (SqL K H p ys ∨ SqT K H p ys) ∧ ∀ l, H l = none → Q (.ref l) (upd H l (.lst ys))) pList := fun A S H xs as c Q d ha e q => by
  unfold pList at e
  split at e
  · cases e
    obtain ⟨v, rfl, h⟩ := ha.one
    obtain ⟨p, vs, rfl, hp, hv⟩ := h.lst
    exact ⟨p, vs, rfl, .inl (.of hp), fun l nl => q _ _ (Same.new nl) (Rep.newL hv nl d)⟩
  · cases e
    obtain ⟨v, rfl, h⟩ := ha.one
    obtain ⟨p, vs, rfl, hp, _, hv⟩ := h.tup
    exact ⟨p, vs, rfl, .inr hp, fun l nl => q _ _ (Same.new nl) (Rep.newL hv nl d)⟩
  · cases e
theorem ok_tuple : CbOK K D (fun xs H Q => ∃ p ys, xs = [.ref p] ∧ ((SqL K H p ys ∧ ∀ l, H l = none → Q (.ref l) (upd H l (.tup ys))) ∨ (SqT K H p ys ∧ Q (.ref p) H))) pTuple := fun A S H xs as c Q d ha e q => by
  unfold pTuple at e
  split at e
  · cases e
    obtain ⟨v, rfl, h⟩ := ha.one
    obtain ⟨p, vs, rfl, hp, hv⟩ := h.lst
    exact ⟨p, vs, rfl, .inl ⟨.of hp, fun l nl => q _ _ (Same.new nl) (Rep.newT hv nl d)⟩⟩
  · cases e
    obtain ⟨v, rfl, h⟩ := ha.one
    obtain ⟨p, vs, rfl, hp, hm, hv⟩ := h.tup
    exact ⟨p, vs, rfl, .inr ⟨hp, q _ _ (Same.refl _) (.tup hm hv)⟩⟩
  · cases e
theorem ok_sum : CbOK K D (rSum K) pSum := fun A S H xs as c Q d ha e q => by
  unfold pSum at e
  split at e
  · simp only [Option.map_eq_some_iff] at e
    obtain ⟨ns, e1, rfl⟩ := e
    obtain ⟨v, rfl, h⟩ := ha.one
    obtain ⟨p, vs, rfl, hp, hv⟩ := h.lst
    rw [hv.int e1] at hp
    exact ⟨p, ns, rfl, .of hp, q _ _ (Same.refl _) (.int _)⟩
  · cases e
theorem ok_all : CbOK K D (rAll K) pAll := fun A S H xs as c Q d ha e q => by
  unfold pAll at e
  split at e
  · simp only [Option.map_eq_some_iff] at e
    obtain ⟨ns, e1, rfl⟩ := e
    obtain ⟨v, rfl, h⟩ := ha.one
    obtain ⟨p, vs, rfl, hp, hv⟩ := h.lst
    rw [hv.bls e1] at hp
    exact ⟨p, ns, rfl, .of hp, q _ _ (Same.refl _) (.bl _)⟩
  · cases e
theorem ok_any : CbOK K D (rAny K) pAny := fun A S H xs as c Q d ha e q => by
  unfold pAny at e
  split at e
  · simp only [Option.map_eq_some_iff] at e
    obtain ⟨ns, e1, rfl⟩ := e
    obtain ⟨v, rfl, h⟩ := ha.one
    obtain ⟨p, vs, rfl, hp, hv⟩ := h.lst
    rw [hv.bls e1] at hp
    exact ⟨p, ns, rfl, .of hp, q _ _ (Same.refl _) (.bl _)⟩
  · cases e
abbrev rIntAny : List V → Hp → VK → Prop := fun xs H Q => (∃ i, xs = [.int i] ∧ Q (.int i) H) ∨ ∃ k : Bool, xs = [.bl k] ∧ Q (.int (if k then 1 else 0)) H
theorem call_intAny {X : Cx} : CallR X (.type "int") rIntAny := by
  intro pins s σ H xs us Q I r h
  exact call_int1 pins s σ H xs us Q I r h
theorem ok_int : CbOK K D rIntAny pInt := fun A S H xs as c Q d ha e q => by
  unfold pInt at e
  split at e
  · cases e
    obtain ⟨v, rfl, h⟩ := ha.one
    obtain rfl := h.int
    exact .inl ⟨_, rfl, q _ _ (Same.refl _) (.int _)⟩
  · cases e
    obtain ⟨v, rfl, h⟩ := ha.one
    obtain rfl := h.bl
    exact .inr ⟨_, rfl, q _ _ (Same.refl _) (.int _)⟩
  · cases e
theorem ok_abs : CbOK K D (fun xs H Q => ∃ i, xs = [.int i] ∧ Q (.int (i.natAbs : Int)) H) pAbs := fun A S H xs as c Q d ha e q => by
  unfold pAbs at e
  split at e
  · cases e
    obtain ⟨v, rfl, h⟩ := ha.one
    obtain rfl := h.int
    exact ⟨_, rfl, q _ _ (Same.refl _) (.int _)⟩
  · cases e
theorem ok_divmod : CbOK K D (fun xs H Q => ∃ i j, xs = [.int i, .int j] ∧ CDivW i j ∧ ∀ p, H p = none → Q (.ref p) (upd H p (.tup [.int (i / j), .int (i % j)]))) pDivmod := fun A S H xs as c Q d ha e q => by
  unfold pDivmod at e
  split at e
  · split at e
    · rename_i hl
      cases e
      obtain ⟨v, w, rfl, h1, h2⟩ := ha.two
      obtain rfl := h1.int
      obtain rfl := h2.int
      simp only [Bool.and_eq_true] at hl
      exact ⟨_, _, rfl, wide_div (of_decide_eq_true hl.1) (of_decide_eq_true hl.2) (by decide) (by decide), fun p np => q _ _ (Same.new np) (Rep.newT (.cons (.int _) (.cons (.int _) .nil)) np d)⟩
    · cases e
  · cases e
theorem ok_gcd : CbOK K D rGcd pGcd := fun A S H xs as c Q d ha e q => by
  unfold pGcd at e
  split at e
  · split at e
    · rename_i i j hl
      cases e
      obtain ⟨v, w, rfl, h1, h2⟩ := ha.two
      obtain rfl := h1.int
      obtain rfl := h2.int
      have hl := of_decide_eq_true hl
      exact ⟨i.toNat, j.toNat, by rw [Int.toNat_of_nonneg hl.1, Int.toNat_of_nonneg hl.2], q _ _ (Same.refl _) (.int _)⟩
    · cases e
  · cases e
theorem tyx_of {v : V} {u : U} {t : String} (h : Rep K D H v u) (e : u.tyName = some t) : TyX K H v (.type t) := by
  cases h <;> simp [U.tyName] at e <;> subst e
  · exact .base .non
  · exact .base (.bl _)
  · exact .base (.int _)
  · exact .base (.str _)
  · rename_i h _
    exact .base (.lst h)
  · rename_i h _
    exact tyx_tup h
  · rename_i h _
    exact .base (.dK h)
theorem kit_all : ∀ t ∈ ["NoneType", "bool", "int", "str", "list", "tuple", "dict"], ∀ n ∈ ["bool", "int", "str", "list", "tuple", "dict"], kitB t n = some (decide (t = n) || (decide (t = "bool") && decide (n = "int"))) := by decide +kernel
theorem tyName_mem {u : U} {t : String} (e : u.tyName = some t) : t ∈ ["NoneType", "bool", "int", "str", "list", "tuple", "dict"] := by
  cases u <;> simp [U.tyName] at e <;> subst e <;> decide
theorem ok_isi {n : String} : CbOK K D (rIsi K) (pIsiB n) := fun A S H xs as c Q d ha e q => by
  unfold pIsiB at e
  split at e
  · split at e
    · rename_i hl
      obtain ⟨rfl, hn⟩ := of_decide_eq_true hl
      unfold pIsi at e
      split at e
      · rename_i t ht
        cases e
        obtain ⟨v, w, rfl, h1, h2⟩ := ha.two
        have h2' := h2.full
        cases h2'
        exact r_isi (tyx_of h1.full ht) (kit_all t (tyName_mem ht) _ hn) (q _ _ (Same.refl _) (.bl _))
      · cases e
    · cases e
  · cases e
end
/-! ### targets and statements -/
section
variable (K : PySem.W.Frag) (D : String → Addr)
/-- the state between two statements: W tells the def's own lists by their slots -/
structure StW (O : List Nat) (sl : Option Nat) (A0 S : List Addr) (H0 : Hp) (L : List (Nat × Addr)) (H : Hp) (σ : L2.St) (ρ : Rho) (s : Sst) : Prop where
  slots : ∀ i, i ∈ L.map (·.1) ↔ i ∈ O
  once : (L.map (·.1)).Nodup
  apart : (L.map (·.2)).Nodup
  fresh : ∀ p ∈ L, p.2 ∉ A0 ∧ H0 p.2 = none
  own : ∀ p ∈ L, p.1 < ρ.length → σ[p.1]? = some (some (.ref p.2)) ∧ ∃ u, ρ[p.1]? = some (some u) ∧ OwnAt K D (mask H (L.map (·.2) ++ A0)) H p.2 u
  ctx : Ctx K D O sl (L.map (·.2) ++ A0) S H σ ρ s
  ext : Ext S H0 H
  sub : ∀ a ∈ S, a ∈ A0
def StM (O : List Nat) (sl : Option Nat) (A0 S : List Addr) (H0 H : Hp) (σ : L2.St) (ρ : Rho) (s : Sst) : Prop := ∃ L, StW K D O sl A0 S H0 L H σ ρ s
variable (W : WX)
def PostS (O' OL : List Nat) (sl : Option Nat) (A0 S : List Addr) (H0 : Hp) (r : RS) (Dn : Ends) : Prop := match r with
  | .nx ρ s => ∀ σ' H', StM K D O' sl A0 S H0 H' σ' ρ s → Dn.nx σ' H'
  | .bk ρ s => ∀ σ' H', StM K D OL sl A0 S H0 H' σ' ρ s → Dn.bk σ' H'
  | .ct ρ s => ∀ σ' H', StM K D OL sl A0 S H0 H' σ' ρ s → Dn.ct σ' H'
  | .rt u s => ∀ v H', Ext S H0 H' → SrcH S H' s → Rep K D (mask H' A0) v u → Dn.rt v H'
  | .er c ρ s => ∀ σ' H', StM K D [] sl A0 S H0 H' σ' ρ s → W (.ref (D c)) none σ' H'
  | .stuck => False
def SOK (O O' OL : List Nat) (sl : Option Nat) (ts : TS) (f : SF) : Prop := ∀ A0 S H0 H σ ρ s Dn, StM K D O sl A0 S H0 H σ ρ s → PostS K D W O' OL sl A0 S H0 (f ρ s) Dn → ts Dn σ H
/-- a target: names and tuples of targets; P is what is kept when an allowed slot gets a clean value -/
def TgOK (ok : Nat → Prop) (g : TG) (p : PF) : Prop := ∀ (M H : Hp) (P : L2.St → Rho → Prop) σ ρ v u ρ' (R : L2.St → Hp → Prop), Same M H → (∀ i σ ρ v u, ok i → P σ ρ → Rep K D M v u → P (σ.set i (some v)) (ρ.set i (some u))) → P σ ρ → Rep K D M v u → p u ρ = some ρ' →
  (∀ σ', P σ' ρ' → R σ' H) → g v σ H R
def TgsOK (ok : Nat → Prop) (g : TGs) (p : List U → Rho → Option Rho) : Prop := ∀ (M H : Hp) (P : L2.St → Rho → Prop) σ ρ v u ρ' (R : L2.St → Hp → Prop), Same M H → (∀ i σ ρ v u, ok i → P σ ρ → Rep K D M v u → P (σ.set i (some v)) (ρ.set i (some u))) → P σ ρ → RepAll K D M v u → p u ρ = some ρ' →
  (∀ σ', P σ' ρ' → R σ' H) → g v σ H R
/-- slots that a statement may set -/
def okS (O : List Nat) (sl : Option Nat) (i : Nat) : Prop := i ∉ O ∧ sl ≠ some i
end
end My

set_option linter.all false
set_option maxRecDepth 100000
namespace My
open PySem PySem.Spec PyProof.Rows L2
open C8 (pe_gc)
section
variable {K : PySem.W.Frag} {D : String → Addr} {W : WX} {O O' O1 O2 OL : List Nat} {sl : Option Nat} {A0 S : List Addr} {H0 H0' H H' H1 : Hp} {L : List (Nat × Addr)} {σ : L2.St} {ρ : Rho} {s s' : Sst}
theorem StW.inA (h : StW K D O sl A0 S H0 L H σ ρ s) : ∀ a ∈ S, a ∈ L.map (·.2) ++ A0 := fun a m => List.mem_append_right _ (h.sub a m)
theorem StW.nS (h : StW K D O sl A0 S H0 L H σ ρ s) {p : Nat × Addr} (m : p ∈ L) : p.2 ∉ S := fun z => (h.fresh p m).1 (h.sub _ z)
theorem StW.next (h : StW K D O sl A0 S H0 L H σ ρ s) (e : Ext S H H') (hs : SrcH S H' s') : StW K D O sl A0 S H0 L H' σ ρ s' where
  slots := h.slots
  once := h.once
  apart := h.apart
  fresh := h.fresh
  own := fun p m hl => by
    obtain ⟨h1, u, h2, h3⟩ := h.own p m hl
    exact ⟨h1, u, h2, h3.ext e (e.mask h.inA) (h.nS m)⟩
  ctx := h.ctx.ext e hs
  ext := h.ext.trans e
  sub := h.sub
theorem mem_snd {L : List (Nat × Addr)} {p : Nat × Addr} (m : p ∈ L) : p.2 ∈ L.map (·.2) := List.mem_map.mpr ⟨p, m, rfl⟩
theorem nodup_snd : ∀ {L : List (Nat × Addr)} {p q : Nat × Addr}, (L.map (·.2)).Nodup → p ∈ L → q ∈ L → p.2 = q.2 → p = q
  | [], _, _, _, m, _, _ => by cases m
  | x :: L, p, q, n, m1, m2, e => by
    rw [List.map_cons, List.nodup_cons] at n
    rcases List.mem_cons.mp m1 with e1 | k1
    · rcases List.mem_cons.mp m2 with e2 | k2
      · rw [e1, e2]
      · exact absurd (by rw [← e1, e]; exact mem_snd k2) n.1
    · rcases List.mem_cons.mp m2 with e2 | k2
      · exact absurd (by rw [← e2, ← e]; exact mem_snd k1) n.1
      · exact nodup_snd n.2 k1 k2 e
/-- lists that are no more the def's own -/
theorem StM.drop (p : Nat → Bool) (h : StM K D O sl A0 S H0 H σ ρ s) : StM K D (O.filter p) sl A0 S H0 H σ ρ s := by
  obtain ⟨L, h⟩ := h
  have sb : ∀ a ∈ (L.filter fun q => p q.1).map (·.2) ++ A0, a ∈ L.map (·.2) ++ A0 := fun a m => by
    rcases List.mem_append.mp m with m | m
    · obtain ⟨q, m1, e⟩ := List.mem_map.mp m
      exact List.mem_append_left _ (List.mem_map.mpr ⟨q, (List.mem_filter.mp m1).1, e⟩)
    · exact List.mem_append_right _ m
  have sm : Same (mask H (L.map (·.2) ++ A0)) (mask H ((L.filter fun q => p q.1).map (·.2) ++ A0)) := mask_sub sb
  have eO : ∀ i, i ∈ (L.filter fun q => p q.1).map (·.1) ↔ i ∈ O.filter p := fun i => by
    rw [List.mem_filter, ← h.slots i]
    constructor
    · intro m
      obtain ⟨q, m1, rfl⟩ := List.mem_map.mp m
      exact ⟨List.mem_map.mpr ⟨q, (List.mem_filter.mp m1).1, rfl⟩, (List.mem_filter.mp m1).2⟩
    · rintro ⟨m, hp⟩
      obtain ⟨q, m1, rfl⟩ := List.mem_map.mp m
      exact List.mem_map.mpr ⟨q, List.mem_filter.mpr ⟨m1, hp⟩, rfl⟩
  refine ⟨L.filter fun q => p q.1, eO, h.once.sublist (List.Sublist.map _ List.filter_sublist), ?_, fun q m => h.fresh q (List.mem_filter.mp m).1, fun q m hl => ?_, ⟨fun a m => List.mem_append_right _ (h.sub a m), fun a m => h.ctx.dom a (sb a m), h.ctx.len, fun i u e => ?_, h.ctx.src, h.ctx.slot⟩, h.ext, h.sub⟩
  · exact h.apart.sublist (List.Sublist.map _ List.filter_sublist)
  · obtain ⟨h1, u, h2, h3⟩ := h.own q (List.mem_filter.mp m).1 hl
    exact ⟨h1, u, h2, h3.ext (Ext.refl [] H) sm (by simp)⟩
  · obtain ⟨v, h1, h2, h3⟩ := h.ctx.env i u e
    refine ⟨v, h1, fun m => ?_, fun m => ?_⟩
    · obtain ⟨a, e1, e2, e3⟩ := h2 (List.mem_filter.mp m).1
      exact ⟨a, e1, e2, e3.ext (Ext.refl [] H) sm (by simp)⟩
    · by_cases mO : i ∈ O
      · obtain ⟨a, e1, e2, e3⟩ := h2 mO
        have mO' := (h.slots i).mpr mO
        obtain ⟨q, mq, rfl⟩ := List.mem_map.mp mO'
        obtain ⟨g1, _⟩ := h.own q mq (List.getElem?_eq_some_iff.mp e).1
        rw [h1] at g1
        have g2 : v = .ref q.2 := by simpa using g1
        rw [g2] at e1
        have g3 : q.2 = a := by simpa using e1
        subst g3
        subst g2
        refine e3.rep sm fun o ho => mask_of (fun z => ?_) ho
        rcases List.mem_append.mp z with z | z
        · obtain ⟨q', m', e'⟩ := List.mem_map.mp z
          have := nodup_snd h.apart (List.mem_filter.mp m').1 mq e'
          subst this
          exact m (List.mem_filter.mpr ⟨mO, (List.mem_filter.mp m').2⟩)
        · exact (h.fresh q mq).1 z
      · exact (h3 mO).same sm
theorem StM.eqv (e : ∀ i, i ∈ O ↔ i ∈ O') (h : StM K D O sl A0 S H0 H σ ρ s) : StM K D O' sl A0 S H0 H σ ρ s := by
  obtain ⟨L, h⟩ := h
  exact ⟨L, fun i => (h.slots i).trans (e i), h.once, h.apart, h.fresh, h.own, ⟨h.ctx.sub, h.ctx.dom, h.ctx.len, fun i u g => by
    obtain ⟨v, h1, h2, h3⟩ := h.ctx.env i u g
    exact ⟨v, h1, fun m => h2 ((e i).mpr m), fun m => h3 fun z => m ((e i).mp z)⟩, h.ctx.src, h.ctx.slot⟩, h.ext, h.sub⟩
theorem StM.none (h : StM K D O sl A0 S H0 H σ ρ s) : StM K D [] sl A0 S H0 H σ ρ s := by
  have := h.drop fun _ => false
  rwa [List.filter_eq_nil_iff.mpr (by simp)] at this
theorem getSet {α : Type} {l : List (Option α)} {i j : Nat} {v : α} {u : α} (h : (l.set i (some v))[j]? = some (some u)) : (i = j ∧ u = v) ∨ (i ≠ j ∧ l[j]? = some (some u)) := by
  by_cases e : i = j
  · subst e
    by_cases hl : i < l.length
    · rw [List.getElem?_set_self hl] at h
      exact .inl ⟨rfl, by simpa using h.symm⟩
    · rw [List.getElem?_eq_none (by rw [List.length_set]; omega)] at h
      cases h
  · rw [List.getElem?_set_ne e] at h
    exact .inr ⟨e, h⟩
theorem setSelf {l : L2.St} {ρ : Rho} {i : Nat} {v : V} {u : U} {w : Option U} (e : l.length = ρ.length) (h : (ρ.set i w)[i]? = some (some u)) : (l.set i (some v))[i]? = some (some v) := by
  have hl : i < ρ.length := by
    by_cases hl : i < ρ.length
    · exact hl
    · rw [List.getElem?_eq_none (by rw [List.length_set]; omega)] at h
      cases h
  exact List.getElem?_set_self (by omega)
theorem SlotS.set {i : Nat} {w : Option V} (h : SlotS sl S σ) (n : sl ≠ some i) : SlotS sl S (σ.set i w) := by
  cases sl with
  | none => trivial
  | some j =>
    obtain ⟨a, c, h1, h2⟩ := h
    exact ⟨a, c, h1, by rw [List.getElem?_set_ne (fun z => n (by rw [z]))]; exact h2⟩
theorem StW.set {i : Nat} {v : V} {u : U} (h : StW K D O sl A0 S H0 L H σ ρ s) (nO : i ∉ O) (nS : sl ≠ some i) (r : Rep K D (mask H (L.map (·.2) ++ A0)) v u) : StW K D O sl A0 S H0 L H (σ.set i (some v)) (ρ.set i (some u)) s where
  slots := h.slots
  once := h.once
  apart := h.apart
  fresh := h.fresh
  own := fun p m hl => by
    rw [List.length_set] at hl
    have ne : i ≠ p.1 := fun z => nO ((h.slots i).mp (by rw [z]; exact List.mem_map.mpr ⟨p, m, rfl⟩))
    rw [List.getElem?_set_ne ne, List.getElem?_set_ne ne]
    exact h.own p m hl
  ctx := ⟨h.ctx.sub, h.ctx.dom, by rw [List.length_set, List.length_set]; exact h.ctx.len, fun j w e => by
    rcases getSet e with ⟨rfl, rfl⟩ | ⟨ne, e⟩
    · exact ⟨v, setSelf h.ctx.len e, fun m => absurd m nO, fun _ => r⟩
    · rw [List.getElem?_set_ne ne]
      exact h.ctx.env j w e, h.ctx.src, h.ctx.slot.set nS⟩
  ext := h.ext
  sub := h.sub
theorem StW.unset {i : Nat} (h : StW K D O sl A0 S H0 L H σ ρ s) (nO : i ∉ O) (nS : sl ≠ some i) (w : Option V) : StW K D O sl A0 S H0 L H (σ.set i w) (ρ.set i none) s where
  slots := h.slots
  once := h.once
  apart := h.apart
  fresh := h.fresh
  own := fun p m hl => by
    rw [List.length_set] at hl
    have ne : i ≠ p.1 := fun z => nO ((h.slots i).mp (by rw [z]; exact List.mem_map.mpr ⟨p, m, rfl⟩))
    rw [List.getElem?_set_ne ne, List.getElem?_set_ne ne]
    exact h.own p m hl
  ctx := ⟨h.ctx.sub, h.ctx.dom, by rw [List.length_set, List.length_set]; exact h.ctx.len, fun j w e => by
    by_cases ne : i = j
    · subst ne
      by_cases hl : i < ρ.length
      · rw [List.getElem?_set_self hl] at e; cases e
      · rw [List.getElem?_eq_none (by rw [List.length_set]; omega)] at e; cases e
    · rw [List.getElem?_set_ne ne] at e ⊢
      exact h.ctx.env j w e, h.ctx.src, h.ctx.slot.set nS⟩
  ext := h.ext
  sub := h.sub
/-- a new list of the def's own -/
theorem StW.own_new {i : Nat} {p : Addr} {u : U} (h : StW K D O sl A0 S H0 L H σ ρ s) (e : Ext S H H') (hs : SrcH S H' s') (nO : i ∉ O) (nS : sl ≠ some i) (np : H p = none) (o : OwnAt K D (mask H' (p :: (L.map (·.2) ++ A0))) H' p u) :
    StW K D (i :: O) sl A0 S H0 ((i, p) :: L) H' (σ.set i (some (.ref p))) (ρ.set i (some u)) s' := by
  have h' := h.next e hs
  have npA : p ∉ L.map (·.2) ++ A0 := fun z => h.ctx.dom p z np
  have sm : Same (mask H (L.map (·.2) ++ A0)) (mask H' (p :: (L.map (·.2) ++ A0))) := fun b o q => by
    obtain ⟨n, q⟩ := mask_some q
    refine mask_of (fun z => ?_) (e.1 b o (fun z => n (h.inA b z)) q)
    rcases List.mem_cons.mp z with z | z
    · rw [z, np] at q; cases q
    · exact n z
  have hp : H' p ≠ none := by
    rcases o with ⟨_, _, _, q, _⟩ | ⟨_, _, _, q, _⟩ <;> rw [q] <;> exact fun z => nomatch z
  have pS : p ∉ S := fun z => npA (h.inA p z)
  have eA : ((i, p) :: L).map (·.2) ++ A0 = p :: (L.map (·.2) ++ A0) := rfl
  refine ⟨fun j => by rw [List.map_cons, List.mem_cons, List.mem_cons, h.slots j], by rw [List.map_cons, List.nodup_cons]; exact ⟨fun z => nO ((h.slots i).mp z), h.once⟩, ?_, fun q m => ?_, fun q m hl => ?_, ⟨fun a m => List.mem_append_right _ (h.sub a m), fun a m => ?_, by rw [List.length_set, List.length_set]; exact h.ctx.len, fun j w g => ?_, hs, h.ctx.slot.set nS⟩, h'.ext, h.sub⟩
  · rw [List.map_cons, List.nodup_cons]
    exact ⟨fun z => npA (List.mem_append_left _ z), h.apart⟩
  · rcases List.mem_cons.mp m with rfl | m
    · refine ⟨fun z => npA (List.mem_append_right _ z), ?_⟩
      cases q : H0 p with
      | none => rfl
      | some x => exact absurd np (h.ext.2 p (by rw [q]; exact fun z => nomatch z))
    · exact h.fresh q m
  · rw [eA]
    rcases List.mem_cons.mp m with rfl | m
    · rw [List.length_set] at hl
      rw [List.getElem?_set_self (by rw [h.ctx.len]; exact hl), List.getElem?_set_self hl]
      exact ⟨rfl, u, rfl, o⟩
    · have ne : i ≠ q.1 := fun z => nO ((h.slots i).mp (by rw [z]; exact List.mem_map.mpr ⟨q, m, rfl⟩))
      rw [List.getElem?_set_ne ne, List.getElem?_set_ne ne]
      rw [List.length_set] at hl
      obtain ⟨h1, w, h2, h3⟩ := h.own q m hl
      exact ⟨h1, w, h2, h3.ext e sm (h.nS m)⟩
  · rw [eA] at m
    rcases List.mem_cons.mp m with rfl | m
    · exact hp
    · exact h'.ctx.dom a m
  · rw [eA]
    rcases getSet g with ⟨rfl, rfl⟩ | ⟨ne, g⟩
    · exact ⟨_, setSelf h.ctx.len g, fun _ => ⟨p, rfl, pS, o⟩, fun m => absurd List.mem_cons_self m⟩
    · rw [List.getElem?_set_ne ne]
      obtain ⟨v, h1, h2, h3⟩ := h.ctx.env j w g
      refine ⟨v, h1, fun m => ?_, fun m => (h3 fun z => m (List.mem_cons_of_mem _ z)).same sm⟩
      rcases List.mem_cons.mp m with m | m
      · exact absurd m.symm ne
      · obtain ⟨a, e1, e2, e3⟩ := h2 m
        exact ⟨a, e1, e2, e3.ext e sm e2⟩
end
end My

set_option linter.all false
set_option maxRecDepth 100000
namespace My
open PySem PySem.Spec PyProof.Rows L2
open C8 (pe_gc)
section
variable {K : PySem.W.Frag} {D : String → Addr} {W : WX} {O O' O1 O2 OL : List Nat} {sl : Option Nat} {A0 S : List Addr} {H0 H0' H H' H1 : Hp} {L : List (Nat × Addr)} {σ : L2.St} {ρ : Rho} {s s' : Sst}
theorem PostS.stm {α β : Type} {rep : Hp → β → α → Prop} {r : R α} {k : α → Sst → RS} {Q : β → Hp → Prop} {Dn : Ends} (h : StW K D O sl A0 S H0 L H σ ρ s) (p : PostS K D W O' OL sl A0 S H0 (r.stm ρ k) Dn)
    (hk : ∀ u s1 v H1, Ext S H H1 → SrcH S H1 s1 → rep H1 v u → PostS K D W O' OL sl A0 S H0 (k u s1) Dn → Q v H1) : PostG D W S σ H rep r Q := by
  cases r with
  | ok u s1 => exact fun v H1 e hs hr => hk u s1 v H1 e hs hr p
  | err c s1 => exact fun H1 e hs => p σ H1 (StM.none ⟨L, h.next e hs⟩)
  | stuck => exact p
section
variable {te : TE} {fe : EF} {ta tb ts : TS} {fa fb fs : SF} {g : TG} {pf : PF} {tt : TT} {ft : TF} {tas : TA} {fas : AF}
theorem sok_nil : SOK K D W O O OL sl tNext sNil := fun A0 S H0 H σ ρ s Dn h p => p σ H h
theorem sok_brk : SOK K D W O O' O sl tBreak sBrk := fun A0 S H0 H σ ρ s Dn h p => p σ H h
theorem sok_cnt : SOK K D W O O' O sl tCont sCnt := fun A0 S H0 H σ ρ s Dn h p => p σ H h
theorem sok_drop (q : Nat → Bool) (h : SOK K D W (O.filter q) O' OL sl ts fs) : SOK K D W O O' OL sl ts fs := fun A0 S H0 H σ ρ s Dn hs p => h A0 S H0 H σ ρ s Dn (hs.drop q) p
/-- behind a statement: fewer lists of the def's own, or the same in another turn -/
theorem sok_post (q : Nat → Bool) (h : SOK K D W O O1 OL sl ts fs) (e : ∀ i, i ∈ O1.filter q ↔ i ∈ O') : SOK K D W O O' OL sl ts fs := fun A0 S H0 H σ ρ s Dn hs p => h A0 S H0 H σ ρ s Dn hs (by
  cases e1 : fs ρ s with
  | nx ρ s => rw [e1] at p; exact fun σ' H' h' => p σ' H' ((h'.drop q).eqv e)
  | _ => rw [e1] at p; exact p)
theorem sok_seq (ha : SOK K D W O O1 OL sl ta fa) (hb : SOK K D W O1 O2 OL sl tb fb) : SOK K D W O O2 OL sl (tSeq ta tb) (sSeq fa fb) := fun A0 S H0 H σ ρ s Dn h p =>
  ha A0 S H0 H σ ρ s _ h (by
    unfold sSeq at p
    cases e : fa ρ s with
    | nx ρ' s' => rw [e] at p; exact fun σ' H' h' => hb A0 S H0 H' σ' ρ' s' Dn h' p
    | _ => rw [e] at p; exact p)
theorem tg_name {ok : Nat → Prop} {i : Nat} (n : ok i) : TgOK K D ok (gName i) (gN i) := fun M H P σ ρ v u ρ' R sm hp h r e q => by
  cases e
  exact q _ (hp i σ ρ v u n h r)
theorem tgs_nil {ok : Nat → Prop} : TgsOK K D ok gNil gsNil := fun M H P σ ρ v u ρ' R sm hp h r e q => by
  cases u with
  | cons _ _ => simp [gsNil] at e
  | nil =>
    cases r
    cases e
    exact ⟨rfl, q _ h⟩
theorem tgs_cons {ok : Nat → Prop} {gs : TGs} {ps : List U → Rho → Option Rho} (h1 : TgOK K D ok g pf) (hs : TgsOK K D ok gs ps) : TgsOK K D ok (gCons g gs) (gsCons pf ps) := fun M H P σ ρ v u ρ' R sm hp h r e q => by
  cases u with
  | nil => simp [gsCons] at e
  | cons u us =>
    cases r with
    | cons r1 r2 =>
      simp only [gsCons, Option.bind_eq_some_iff] at e
      obtain ⟨ρ1, e1, e2⟩ := e
      exact ⟨_, _, rfl, h1 M H P σ ρ _ u ρ1 _ sm hp h r1 e1 fun σ' h' => hs M H P σ' ρ1 _ us ρ' R sm hp h' r2 e2 q⟩
theorem tg_tup {ok : Nat → Prop} {n : Nat} {gs : TGs} {ps : List U → Rho → Option Rho} (hl : ∀ us ρ ρ', ps us ρ = some ρ' → us.length = n) (hs : TgsOK K D ok gs ps) : TgOK K D ok (gTup K n gs) (gT ps) := fun M H P σ ρ v u ρ' R sm hp h r e q => by
  unfold gT at e
  split at e
  · cases r with
    | tup et er => exact ⟨_, _, rfl, Same.tup sm et, by rw [er.length]; exact hl _ _ _ e, hs M H P σ ρ _ _ ρ' R sm hp h er e q⟩
  · cases e
theorem tg_unl {ok : Nat → Prop} {n : Nat} {gs : TGs} {ps : List U → Rho → Option Rho} (hl : ∀ us ρ ρ', ps us ρ = some ρ' → us.length = n) (hs : TgsOK K D ok gs ps) : TgOK K D ok (gUnl K n gs) (gL ps) := fun M H P σ ρ v u ρ' R sm hp h r e q => by
  unfold gL at e
  split at e
  · cases r with
    | lst et er => exact ⟨_, _, rfl, .of (sm _ _ et), by rw [er.length]; exact hl _ _ _ e, hs M H P σ ρ _ _ ρ' R sm hp h er e q⟩
  · cases e
theorem StW.target {v : V} {u : U} {ρ' : Rho} {R : L2.St → Hp → Prop} (hg : TgOK K D (okS O sl) g pf) (h : StW K D O sl A0 S H0 L H σ ρ s) (r : Rep K D (mask H (L.map (·.2) ++ A0)) v u) (e : pf u ρ = some ρ') (q : ∀ σ', StW K D O sl A0 S H0 L H σ' ρ' s → R σ' H) : g v σ H R :=
  hg _ H (fun σ ρ => StW K D O sl A0 S H0 L H σ ρ s) σ ρ v u ρ' R (mask_same _ _) (fun i σ ρ v u ok h r => h.set ok.1 ok.2 r) h r e q
theorem gs_len_nil : ∀ us ρ ρ', gsNil us ρ = some ρ' → us.length = 0 := fun us ρ ρ' e => by
  cases us with
  | nil => rfl
  | cons _ _ => simp [gsNil] at e
theorem gs_len_cons {n : Nat} {p : PF} {ps : List U → Rho → Option Rho} (h : ∀ us ρ ρ', ps us ρ = some ρ' → us.length = n) : ∀ us ρ ρ', gsCons p ps us ρ = some ρ' → us.length = n + 1 := fun us ρ ρ' e => by
  cases us with
  | nil => simp [gsCons] at e
  | cons u us =>
    simp only [gsCons, Option.bind_eq_some_iff] at e
    obtain ⟨ρ1, e1, e2⟩ := e
    rw [List.length_cons, h _ _ _ e2]
theorem sok_asg (he : EOK K D W O sl Cl te fe) (hg : TgOK K D (okS O sl) g pf) : SOK K D W O O OL sl (tAsg te g) (sAsg pf fe) := fun A0 S H0 H σ ρ s Dn hm p => by
  obtain ⟨L, h⟩ := hm
  refine he _ S H σ ρ s _ h.ctx (PostS.stm h p fun u s1 v H1 e hs r q => ?_)
  split at q
  · rename_i ρ' e1
    exact (h.next e hs).target hg r e1 fun σ' h' => q _ _ ⟨L, h'⟩
  · exact q.elim
/-- an expression that makes a new list or dict -/
def FOK (K : PySem.W.Frag) (D : String → Addr) (W : WX) (O : List Nat) (sl : Option Nat) (te : TE) (f : EF) : Prop := ∀ A S H σ ρ s Q, Ctx K D O sl A S H σ ρ s → PostG D W S σ H (fun H' v u => ∃ p, v = .ref p ∧ H p = none ∧ OwnAt K D (mask H' (p :: A)) H' p u) (f ρ s) Q → te σ H Q
theorem sok_own {i : Nat} (n : i ∉ O) (n2 : sl ≠ some i) (he : FOK K D W O sl te fe) : SOK K D W O (i :: O) OL sl (tAsg te (gName i)) (sAsg (gN i) fe) := fun A0 S H0 H σ ρ s Dn hm p => by
  obtain ⟨L, h⟩ := hm
  refine he _ S H σ ρ s _ h.ctx (PostS.stm h p fun u s1 v H1 e hs r q => ?_)
  obtain ⟨p, rfl, np, o⟩ := r
  exact q _ _ ⟨_, h.own_new e hs n n2 np o⟩
theorem fok_lst (h : AOK K D W O sl ClA tas fas) : FOK K D W O sl (tLst tas) (eN pLst fas) := fun A S H σ ρ s Q c q =>
  h A S H σ ρ s _ c (q.bind fun xs s1 vs H1 e1 h1 r1 q1 => by
    obtain ⟨z, hz, q3⟩ := q1.opt h1
    unfold pLst at hz
    split at hz
    · rename_i hl
      cases hz
      refine ⟨by rw [RepAll.length r1]; exact lineB_le hl, fun p np => q3 _ _ (Same.new np) ⟨p, rfl, ?_, .inl ⟨vs, xs, rfl, upd_same, RepAll.same (fun b o m => ?_) xs r1⟩⟩⟩
      · cases q : H p with
        | none => rfl
        | some x => exact absurd np (e1.2 p (by rw [q]; exact fun z => nomatch z))
      · obtain ⟨n, m⟩ := mask_some m
        have ne : b ≠ p := fun z => by rw [z, np] at m; cases m
        refine mask_of (fun z => ?_) (by rw [upd_ne ne]; exact m)
        rcases List.mem_cons.mp z with z | z
        · exact ne z
        · exact n z
    · cases hz)
theorem sok_par {i j : Nat} (n : i ∉ O) (n2 : sl ≠ some i) (m : j ∉ O) (m2 : sl ≠ some j) (ha : AOK K D W O sl ClA tas fas) : SOK K D W O O OL sl (tPar i j tas) (sPar [i, j] fas) := fun A0 S H0 H σ ρ s Dn hm p => by
  obtain ⟨L, h⟩ := hm
  refine ha _ S H σ ρ s _ h.ctx (PostS.stm h p fun us s1 vs H1 e hs r q => ?_)
  match us, vs, r with
  | [u, w], [v, v'], .cons r1 (.cons r2 _) => exact ⟨v, v', rfl, q _ _ ⟨L, ((h.next e hs).set n n2 r1).set m m2 r2⟩⟩
  | [], _, _ => exact q.elim
  | [_], _, _ => exact q.elim
  | _ :: _ :: _ :: _, _, _ => simp [PostS] at q
theorem sok_par3 {i j k : Nat} (n : i ∉ O) (n2 : sl ≠ some i) (m : j ∉ O) (m2 : sl ≠ some j) (l : k ∉ O) (l2 : sl ≠ some k) (ha : AOK K D W O sl ClA tas fas) : SOK K D W O O OL sl (tPar3 i j k tas) (sPar [i, j, k] fas) := fun A0 S H0 H σ ρ s Dn hm p => by
  obtain ⟨L, h⟩ := hm
  refine ha _ S H σ ρ s _ h.ctx (PostS.stm h p fun us s1 vs H1 e hs r q => ?_)
  match us, vs, r with
  | [u, w, x], [v, v', v''], .cons r1 (.cons r2 (.cons r3 _)) => exact ⟨v, v', v'', rfl, q _ _ ⟨L, (((h.next e hs).set n n2 r1).set m m2 r2).set l l2 r3⟩⟩
  | [], _, _ => exact q.elim
  | [_], _, _ => exact q.elim
  | [_, _], _, _ => exact q.elim
  | _ :: _ :: _ :: _ :: _, _, _ => simp [PostS] at q
theorem sok_aug {i : Nat} {ti : TIp} {pp : U → U → Option U} (n : i ∉ O) (n2 : sl ≠ some i) (hp : OpOK K D ti pp) (he : EOK K D W O sl Sn te fe) : SOK K D W O O OL sl (tAug i te ti) (sAsg (gN i) (e2 pp (eV i) fe)) := fun A0 S H0 H σ ρ s Dn hm p => by
  obtain ⟨L, h⟩ := hm
  have p2 : PostG D W S σ H (Cl K D (L.map (·.2) ++ A0) S) (e2 pp (eV i) fe ρ s) (fun z H1 => Dn.nx (σ.set i (some z)) H1) := PostS.stm h p fun u s1 v H1 e hs r q => q _ _ ⟨L, (h.next e hs).set n n2 r⟩
  unfold e2 eV at p2
  split at p2
  · rename_i u e
    obtain ⟨v, h1, _, h2⟩ := h.ctx.env i u e
    refine ⟨v, h1, he _ S H σ ρ s _ h.ctx (PostG.bind p2 fun y s2 w H2 e2 hs2 r2 q2 => ?_)⟩
    obtain ⟨z, hz, q3⟩ := q2.opt hs2
    exact hp _ S H2 v w u y z _ (h.ctx.ext e2 hs2).dom (Sn.ext (.inl (h2 n)) e2 h.inA) r2 hz q3
  · exact p2.elim
theorem ok_ipadd : OpOK K D (ipI fun i j => i + j) pAdd' := fun A S H x y a b c Q d ha hb e q => by
  unfold pAdd' at e
  split at e
  · cases e
    obtain rfl := ha.int
    obtain rfl := hb.int
    exact ⟨_, _, rfl, rfl, q _ _ (Same.refl _) (.int _)⟩
  · cases e
theorem sok_drop1 (he : EOK K D W O sl Cl te fe) : SOK K D W O O OL sl (tDrop te) (sDrop fe) := fun A0 S H0 H σ ρ s Dn hm p => by
  obtain ⟨L, h⟩ := hm
  exact he _ S H σ ρ s _ h.ctx (PostS.stm h p fun u s1 v H1 e hs r q => q _ _ ⟨L, h.next e hs⟩)
theorem StW.out {v : V} {u : U} (h : StW K D O sl A0 S H0 L H σ ρ s) (r : Rep K D (mask H (L.map (·.2) ++ A0)) v u) : Rep K D (mask H A0) v u := r.same (mask_sub fun a m => List.mem_append_right _ m)
theorem sok_ret (he : EOK K D W O sl Cl te fe) : SOK K D W O O' OL sl (tRet te) (sRet fe) := fun A0 S H0 H σ ρ s Dn hm p => by
  obtain ⟨L, h⟩ := hm
  exact he _ S H σ ρ s _ h.ctx (PostS.stm h p fun u s1 v H1 e hs r q => q _ _ (h.ext.trans e) hs ((h.next e hs).out r))
theorem sok_retN : SOK K D W O O' OL sl tRetN sRetN := fun A0 S H0 H σ ρ s Dn hm p => by
  obtain ⟨L, h⟩ := hm
  exact p _ _ h.ext h.ctx.src .non
theorem sok_if (hc : TOK K D W O sl tt ft) (ha : SOK K D W O O' OL sl ta fa) (hb : SOK K D W O O' OL sl tb fb) : SOK K D W O O' OL sl (tIfS tt ta tb) (sIf ft fa fb) := fun A0 S H0 H σ ρ s Dn hm p => by
  obtain ⟨L, h⟩ := hm
  refine hc _ S H σ ρ s _ h.ctx (PostS.stm h p fun u s1 v H1 e hs r q => ?_)
  have e2 : v = u := r
  subst e2
  cases v with
  | true => exact ha A0 S H0 H1 σ ρ s1 Dn ⟨L, h.next e hs⟩ q
  | false => exact hb A0 S H0 H1 σ ρ s1 Dn ⟨L, h.next e hs⟩ q
theorem sok_raise {c : String} (he : EOK K D W O sl Cl te fe) : SOK K D W O O' OL sl (fun _ σ H => te σ H fun _ H1 => W (.ref (D c)) none σ H1) (sRaise c fe) := fun A0 S H0 H σ ρ s Dn hm p => by
  obtain ⟨L, h⟩ := hm
  exact he _ S H σ ρ s _ h.ctx (PostS.stm h p fun u s1 v H1 e hs r q => q _ _ (StM.none ⟨L, h.next e hs⟩))
theorem sok_while {n : Nat} (hc : TOK K D W O sl tt ft) (hb : SOK K D W O O O sl tb fb) : SOK K D W O O OL sl (tWhile tt tb) (sWhile n ft fb) := fun A0 S H0 H σ ρ s Dn hm p => by
  refine ⟨fun m σ H => ∃ ρ s, StM K D O sl A0 S H0 H σ ρ s ∧ PostS K D W O OL sl A0 S H0 (loopW ft fb m ρ s) Dn, ⟨n, ρ, s, hm, p⟩, ?_⟩
  rintro m σ H ⟨ρ, s, ⟨L, h⟩, p⟩
  cases m with
  | zero => exact p.elim
  | succ m =>
    refine hc _ S H σ ρ s _ h.ctx (PostS.stm h p fun u s1 v H1 e hs r q => ?_)
    have e2 : v = u := r
    subst e2
    cases v with
    | false => exact q _ _ ⟨L, h.next e hs⟩
    | true =>
      refine ⟨fun σ H => ∃ ρ s, StM K D O sl A0 S H0 H σ ρ s ∧ PostS K D W O OL sl A0 S H0 (loopW ft fb m ρ s) Dn, fun σ' H' h' => ⟨m, Nat.lt_succ_self m, h'⟩, ?_⟩
      refine hb A0 S H0 H1 σ ρ s1 _ ⟨L, h.next e hs⟩ ?_
      have q' := (if_pos rfl : (if true = true then (match fb ρ s1 with
        | .nx ρ s => loopW ft fb m ρ s
        | .ct ρ s => loopW ft fb m ρ s
        | .bk ρ s => .nx ρ s
        | o => o) else RS.nx ρ s1) = _) ▸ q
      cases e3 : fb ρ s1 with
      | nx ρ' s' => rw [e3] at q'; exact fun σ' H' h' => ⟨ρ', s', h', q'⟩
      | ct ρ' s' => rw [e3] at q'; exact fun σ' H' h' => ⟨ρ', s', h', q'⟩
      | bk ρ' s' => rw [e3] at q'; exact q'
      | rt u s' => rw [e3] at q'; exact q'
      | er c ρ' s' => rw [e3] at q'; exact q'
      | stuck => rw [e3] at q'; exact q'
end
end
end My

set_option linter.all false
set_option maxRecDepth 100000
namespace My
open PySem PySem.Spec PyProof.Rows L2
open C8 (pe_gc)
/-! ### what is walked -/
def Yd (K : PySem.W.Frag) (D : String → Addr) (M H : Hp) (x : V) (H' : Hp) (u : U) : Prop := (H' = H ∧ Rep K D M x u) ∨ ∃ T vs us, x = .ref T ∧ H T = none ∧ H' = upd H T (.tup vs) ∧ u = .tup us ∧ RepAll K D M vs us
structure JOK (K : PySem.W.Frag) (D : String → Addr) (J : It) (us : List U) (M : Hp) : Prop where
  go : ∀ i H, i < us.length → Same M H → J.go i H
  stop : ∀ H, Same M H → J.stop us.length H
  yld : ∀ i H x H' u, us[i]? = some u → Same M H → J.yld i H x H' → Yd K D M H x H' u
def IOK (K : PySem.W.Frag) (D : String → Addr) (W : WX) (O : List Nat) (sl : Option Nat) (wi : TI) (f : AF) : Prop := ∀ A S H σ ρ s (R : It → Hp → Prop), Ctx K D O sl A S H σ ρ s → PostG D W S σ H (fun H' (J : It) us => JOK K D J us (mask H' A)) (f ρ s) R → wi σ H R
def iSeqT (K : PySem.W.Frag) (tl : TE) : TI := fun σ H R => tl σ H fun x H1 => ∃ a, x = .ref a ∧ (((∃ xs, SqL K H1 a xs) ∧ R (Itl K a) H1) ∨ ((∃ xs, SqT K H1 a xs) ∧ R (Itt K a) H1))
theorem thnI {M : Model} {A : Around} {α : Type} {m : Sem α} {Q Q' : α → Shared → Prop} {E : Value → Shared → Prop} {s : Shared} (h : wpAny M A m Q E s) (k : ∀ a s, Q a s → Q' a s) : wpAny M A m Q' E s := wpAny_mono h k fun _ _ x => x
theorem pi_seq {X : Cx} {tg l : Expr} {tl : TE} (hl : PE X l tl) : PI X tg l (iSeqT X.K tl) := by
  refine ⟨fun pins s σ H R I h => thnI (hl.run pins s σ H _ I h) fun v s1 hq => ?_⟩
  obtain ⟨x, H1, I1, r1, a, rfl, q⟩ := hq
  cases r1
  rcases q with ⟨⟨xs, hq⟩, q⟩ | ⟨⟨xs, hq⟩, q⟩
  · obtain ⟨its, rv, p, hz⟩ := I1.list hq
    exact wpAny_pyIter_list p.isList (pi_one (tk := s1.toks) I1 _ (turn_list a _) ⟨_, Heap.get?_push_size _ rfl, rfl, rfl⟩ q)
  · obtain ⟨its, rv, p, hz⟩ := I1.tuple hq
    exact wpAny_pyIter_tuple (show s1.heap.IsTuple a its.toArray from p) (pi_one (tk := s1.toks) I1 _ (turn_tuple a _) ⟨_, Heap.get?_push_size _ rfl, rfl, rfl⟩ q)
section
variable {K : PySem.W.Frag} {D : String → Addr} {W : WX} {O O' OL : List Nat} {sl : Option Nat} {A A0 S : List Addr} {H0 H0' H H' H1 : Hp} {L : List (Nat × Addr)} {σ : L2.St} {ρ : Rho} {s s' : Sst}
variable {te tl : TE} {fe fl : EF} {tb : TS} {fb : SF} {g : TG} {pf : PF} {tt : TT} {ft : TF} {tas : TA} {fas fi : AF} {wi : TI}
theorem jok_list {a : Addr} {vs : List V} {us : List U} {M : Hp} (h : M a = some (.lst vs)) (r : RepAll K D M vs us) : JOK K D (Itl K a) us M where
  go := fun i H hi sm => walk_list.goes i H (by rw [r.length]; exact hi) (.of (sm _ _ h))
  stop := fun H sm => by rw [← r.length]; exact walk_list.stops H (.of (sm _ _ h))
  yld := fun i H x H' u e sm y => by
    obtain ⟨v, e1, e2⟩ := r.get e
    obtain ⟨h1, h2⟩ := walk_list.yields i H x H' (List.getElem?_eq_some_iff.mp e1).1 (.of (sm _ _ h)) y
    rw [e1] at h2
    cases h2
    exact .inl ⟨h1, e2⟩
theorem jok_tup {a : Addr} {vs : List V} {us : List U} {M : Hp} (h : SqT K M a vs) (r : RepAll K D M vs us) : JOK K D (Itt K a) us M where
  go := fun i H hi sm => walk_tup.goes i H (by rw [r.length]; exact hi) (Same.tup sm h)
  stop := fun H sm => by rw [← r.length]; exact walk_tup.stops H (Same.tup sm h)
  yld := fun i H x H' u e sm y => by
    obtain ⟨v, e1, e2⟩ := r.get e
    obtain ⟨h1, h2⟩ := walk_tup.yields i H x H' (List.getElem?_eq_some_iff.mp e1).1 (Same.tup sm h) y
    rw [e1] at h2
    cases h2
    exact .inl ⟨h1, e2⟩
theorem iok_seq (h : EOK K D W O sl Cl tl fl) : IOK K D W O sl (iSeqT K tl) (iSeq fl) := fun A S H σ ρ s R c q =>
  h A S H σ ρ s _ c (q.bind fun x s1 v H1 e1 h1 r1 q1 => by
    cases x with
    | lst us =>
      cases r1 with
      | lst e r => exact ⟨_, rfl, .inl ⟨⟨_, .of (mask_some e).2⟩, q1 _ _ (Ext.refl _ _) h1 (jok_list e r)⟩⟩
    | tup us =>
      cases r1 with
      | tup e r => exact ⟨_, rfl, .inr ⟨⟨_, SqT.full e⟩, q1 _ _ (Ext.refl _ _) h1 (jok_tup e r)⟩⟩
    | _ => exact q1.elim)
theorem rngU_get {lo c : Int} {n i : Nat} {u : U} (e : (rngU lo n c)[i]? = some u) : u = .int (lo + i * c) ∧ i < n := by
  unfold rngU at e
  rw [List.getElem?_map] at e
  have hl : i < n := by
    by_cases hl : i < n
    · exact hl
    · rw [List.getElem?_eq_none (by rw [List.length_range]; omega)] at e
      cases e
  rw [List.getElem?_range hl] at e
  exact ⟨by simpa using e.symm, hl⟩
theorem rngU_len {lo c : Int} {n : Nat} : (rngU lo n c).length = n := by simp [rngU]
theorem jok_rng {lo : Int} {n : Nat} {M : Hp} : JOK K D (Itr lo n) (rngU lo n 1) M where
  go := fun i H hi sm => by rw [rngU_len] at hi; exact hi
  stop := fun H sm => by rw [rngU_len]; exact Nat.le_refl _
  yld := fun i H x H' u e sm y => by
    obtain ⟨rfl, hl⟩ := rngU_get e
    obtain ⟨h1, h2⟩ := walk_range.yields i H x H' hl trivial y
    subst h1 h2
    rw [Int.mul_one]
    exact .inl ⟨rfl, .int _⟩
theorem jok_rngC {lo c : Int} {n : Nat} {M : Hp} : JOK K D (Itc lo c n) (rngU lo n c) M where
  go := fun i H hi sm => by rw [rngU_len] at hi; exact hi
  stop := fun H sm => by rw [rngU_len]; exact Nat.le_refl _
  yld := fun i H x H' u e sm y => by
    obtain ⟨rfl, hl⟩ := rngU_get e
    obtain ⟨h1, h2⟩ := walk_rangeC.yields i H x H' hl trivial y
    subst h1 h2
    exact .inl ⟨rfl, .int _⟩
theorem iok_rng1 (h : AOK K D W O sl SnA tas fas) : IOK K D W O sl (iRng1 tas) (iRng pRng1 fas) := fun A S H σ ρ s R c q =>
  h A S H σ ρ s _ c (q.bind fun xs s1 vs H1 e1 h1 r1 q1 => by
    cases e : pRng1 xs with
    | none => rw [e] at q1; exact q1.elim
    | some us =>
      rw [e] at q1
      unfold pRng1 at e
      split at e
      · split at e
        · rename_i hl
          cases e
          obtain ⟨v, rfl, h2⟩ := r1.one
          obtain rfl := h2.int
          have hl := of_decide_eq_true hl
          exact ⟨_, rfl, hl.1, hl.2, q1 _ _ (Ext.refl _ _) h1 jok_rng⟩
        · cases e
      · cases e)
theorem iok_rng2 (h : AOK K D W O sl SnA tas fas) : IOK K D W O sl (iRng2 tas) (iRng pRng2 fas) := fun A S H σ ρ s R c q =>
  h A S H σ ρ s _ c (q.bind fun xs s1 vs H1 e1 h1 r1 q1 => by
    cases e : pRng2 xs with
    | none => rw [e] at q1; exact q1.elim
    | some us =>
      rw [e] at q1
      unfold pRng2 at e
      split at e
      · split at e
        · rename_i hl
          cases e
          obtain ⟨v, w, rfl, h2, h3⟩ := r1.two
          obtain rfl := h2.int
          obtain rfl := h3.int
          simp only [Bool.and_eq_true] at hl
          have hl1 := of_decide_eq_true hl.1
          have hl2 := of_decide_eq_true hl.2
          exact ⟨_, _, rfl, ⟨hl1.1, hl1.2, hl2.1, hl2.2⟩, q1 _ _ (Ext.refl _ _) h1 jok_rng⟩
        · cases e
      · cases e)
theorem iok_rng3 (h : AOK K D W O sl SnA tas fas) : IOK K D W O sl (iRng3 tas) (iRng pRng3 fas) := fun A S H σ ρ s R c q =>
  h A S H σ ρ s _ c (q.bind fun xs s1 vs H1 e1 h1 r1 q1 => by
    cases e : pRng3 xs with
    | none => rw [e] at q1; exact q1.elim
    | some us =>
      rw [e] at q1
      unfold pRng3 at e
      split at e
      · split at e
        · rename_i hl
          cases e
          match vs, r1 with
          | [v, w, x], h2 =>
            obtain rfl := h2.1.int
            obtain rfl := h2.2.1.int
            obtain rfl := h2.2.2.1.int
            simp only [Bool.and_eq_true] at hl
            have hl1 := of_decide_eq_true hl.1
            have hl2 := of_decide_eq_true hl.2
            exact ⟨_, _, _, _, rfl, RgC.neg hl1.1 hl1.2 hl2.1 hl2.2, q1 _ _ (Ext.refl _ _) h1 jok_rngC⟩
        · cases e
      · cases e)
/-! ### for -/
theorem StM.rebase (h : StM K D O sl A0 S H0' H σ ρ s) (e : Ext S H0 H0') : StM K D O sl A0 S H0 H σ ρ s := by
  obtain ⟨L, h⟩ := h
  refine ⟨L, h.slots, h.once, h.apart, fun p m => ⟨(h.fresh p m).1, ?_⟩, h.own, h.ctx, e.trans h.ext, h.sub⟩
  cases q : H0 p.2 with
  | none => rfl
  | some x => exact absurd (h.fresh p m).2 (e.2 _ (by rw [q]; exact fun z => nomatch z))
theorem PostS.rebase {r : RS} {Dn : Ends} (p : PostS K D W O' OL sl A0 S H0 r Dn) (e : Ext S H0 H0') : PostS K D W O' OL sl A0 S H0' r Dn := by
  cases r with
  | nx ρ s => exact fun σ' H' h => p σ' H' (h.rebase e)
  | bk ρ s => exact fun σ' H' h => p σ' H' (h.rebase e)
  | ct ρ s => exact fun σ' H' h => p σ' H' (h.rebase e)
  | rt u s => exact fun v H' h hs r => p v H' (e.trans h) hs r
  | er c ρ s => exact fun σ' H' h => p σ' H' (h.rebase e)
  | stuck => exact p
theorem sok_for (hi : IOK K D W O sl wi fi) (hg : TgOK K D (okS O sl) g pf) (hb : SOK K D W O O O sl tb fb) : SOK K D W O O OL sl (tFor wi g tb) (sFor fi pf fb) := fun A0 S H0 H σ ρ s Dn hm p => by
  obtain ⟨L, h⟩ := hm
  refine hi _ S H σ ρ s _ h.ctx (PostS.stm h p fun us s1 J H1 e hs hJ q => ?_)
  have h1 := h.next e hs
  -- what the walked thing leans on stays as it is: from here on all of it counts as the entry
  have eB : Ext S H0 (mask H1 (L.map (·.2))) := by
    refine ⟨fun b o n hb => mask_of (fun z => ?_) (h1.ext.1 b o n hb), fun b hb => ?_⟩
    · obtain ⟨p, m, rfl⟩ := List.mem_map.mp z
      rw [(h1.fresh p m).2] at hb
      cases hb
    · have k := h1.ext.2 b hb
      cases q2 : H1 b with
      | none => exact absurd q2 k
      | some x =>
        rw [mask_of (fun z => ?_) q2]
        · exact fun z => nomatch z
        · obtain ⟨p, m, rfl⟩ := List.mem_map.mp z
          exact hb (h1.fresh p m).2
  have h2 : StW K D O sl A0 S (mask H1 (L.map (·.2))) L H1 σ ρ s1 := ⟨h1.slots, h1.once, h1.apart, fun p m => ⟨(h1.fresh p m).1, by unfold mask; rw [if_pos (mem_snd m)]⟩, h1.own, h1.ctx, .of (mask_same _ _), h1.sub⟩
  have q := PostS.rebase q eB
  refine ⟨fun i m σ H => m = us.length - i ∧ i ≤ us.length ∧ ∃ ρ s, StM K D O sl A0 S (mask H1 (L.map (·.2))) H σ ρ s ∧ PostS K D W O OL sl A0 S (mask H1 (L.map (·.2))) (loopF pf fb (us.drop i) ρ s) Dn, ⟨us.length, by simp, Nat.zero_le _, ρ, s1, ⟨L, h2⟩, q⟩, ?_⟩
  rintro i m σ2 H2 ⟨rfl, hil, ρ2, s2, ⟨L2, h3⟩, p3⟩
  have sm : Same (mask H1 (L.map (·.2) ++ A0)) (mask H2 (L2.map (·.2) ++ A0)) := fun b o hb => by
    obtain ⟨n, hb⟩ := mask_some hb
    have k : mask H1 (L.map (·.2)) b = some o := mask_of (fun z => n (List.mem_append_left _ z)) hb
    refine mask_of (fun z => ?_) (h3.ext.1 b o (fun z => n (List.mem_append_right _ (h.sub b z))) k)
    rcases List.mem_append.mp z with z | z
    · obtain ⟨p, m, rfl⟩ := List.mem_map.mp z
      rw [(h3.fresh p m).2] at k
      cases k
    · exact n (List.mem_append_right _ z)
  have sm2 : Same (mask H1 (L.map (·.2) ++ A0)) H2 := fun b o hb => (mask_some (sm b o hb)).2
  by_cases hlt : i < us.length
  · have e0 : us.drop i = us[i] :: us.drop (i + 1) := List.drop_eq_getElem_cons hlt
    rw [e0] at p3
    refine .inr ⟨hJ.go i H2 hlt sm2, fun σ H => ∃ ρ s, StM K D O sl A0 S (mask H1 (L.map (·.2))) H σ ρ s ∧ PostS K D W O OL sl A0 S (mask H1 (L.map (·.2))) (loopF pf fb (us.drop (i + 1)) ρ s) Dn, fun σ' H' h' => ⟨us.length - (i + 1), by omega, rfl, hlt, h'⟩, fun x H' y => ?_⟩
    have hy := hJ.yld i H2 x H' us[i] (List.getElem?_eq_getElem hlt) sm2 y
    have h4 : StW K D O sl A0 S (mask H1 (L.map (·.2))) L2 H' σ2 ρ2 s2 ∧ Rep K D (mask H' (L2.map (·.2) ++ A0)) x us[i] := by
      rcases hy with ⟨rfl, r⟩ | ⟨T, vs, ws, rfl, nT, rfl, eu, r⟩
      · exact ⟨h3, r.same sm⟩
      · rw [eu]
        exact ⟨h3.next (Ext.new nT) (h3.ctx.src.same (Same.new nT)), Rep.newT (r.same sm) nT h3.ctx.dom⟩
    unfold loopF at p3
    split at p3
    · exact p3.elim
    · rename_i ρ3 e3
      refine h4.1.target hg h4.2 e3 fun σ' h' => hb A0 S _ H' σ' ρ3 s2 _ ⟨L2, h'⟩ ?_
      cases e5 : fb ρ3 s2 with
      | nx ρ' s' => rw [e5] at p3; exact fun σ' H' h' => ⟨ρ', s', h', p3⟩
      | ct ρ' s' => rw [e5] at p3; exact fun σ' H' h' => ⟨ρ', s', h', p3⟩
      | bk ρ' s' => rw [e5] at p3; exact p3
      | rt u s' => rw [e5] at p3; exact p3
      | er c ρ' s' => rw [e5] at p3; exact p3
      | stuck => rw [e5] at p3; exact p3
  · have ei : i = us.length := by omega
    subst ei
    rw [List.drop_length] at p3
    exact .inl ⟨hJ.stop H2 sm2, p3 _ _ ⟨L2, h3⟩⟩
/-! ### a comprehension -/
theorem wipe_len (σ : L2.St) (vs : List Nat) : (wipe σ vs).length = σ.length := wipe_length σ vs
theorem wipeR_len (ρ : Rho) : ∀ vs : List Nat, (wipeR ρ vs).length = ρ.length
  | [] => rfl
  | v :: vs => by unfold wipeR; rw [List.length_set, wipeR_len ρ vs]
theorem wipe_get (σ : L2.St) : ∀ (vs : List Nat) (j : Nat), (wipe σ vs)[j]? = if j ∈ vs then (if j < σ.length then some none else none) else σ[j]?
  | [], j => by simp [wipe]
  | v :: vs, j => by
    unfold wipe
    by_cases e : v = j
    · subst e
      rw [if_pos List.mem_cons_self]
      by_cases hl : v < σ.length
      · rw [if_pos hl, List.getElem?_set_self (by rw [wipe_len]; exact hl)]
      · rw [if_neg hl, List.getElem?_eq_none (by rw [List.length_set, wipe_len]; omega)]
    · rw [List.getElem?_set_ne e, wipe_get σ vs j]
      by_cases m : j ∈ vs
      · rw [if_pos m, if_pos (List.mem_cons_of_mem _ m)]
      · rw [if_neg m, if_neg (fun z => by rcases List.mem_cons.mp z with z | z; exact e z.symm; exact m z)]
theorem wipe_eq {σ τ : L2.St} {vs : List Nat} (hl : σ.length = τ.length) (h : ∀ j, j ∉ vs → σ[j]? = τ[j]?) : wipe σ vs = wipe τ vs := by
  apply List.ext_getElem?
  intro j
  rw [wipe_get, wipe_get, hl]
  split
  · rfl
  · rename_i m
    exact h j m
theorem wipeR_get (ρ : Rho) : ∀ (vs : List Nat) (j : Nat) (u : U), (wipeR ρ vs)[j]? = some (some u) → j ∉ vs ∧ ρ[j]? = some (some u)
  | [], j, u, e => ⟨by simp, e⟩
  | v :: vs, j, u, e => by
    unfold wipeR at e
    by_cases ne : v = j
    · subst ne
      by_cases hl : v < (wipeR ρ vs).length
      · rw [List.getElem?_set_self hl] at e; cases e
      · rw [List.getElem?_eq_none (by rw [List.length_set]; omega)] at e; cases e
    · rw [List.getElem?_set_ne ne] at e
      obtain ⟨h1, h2⟩ := wipeR_get ρ vs j u e
      exact ⟨fun z => by rcases List.mem_cons.mp z with z | z; exact ne z.symm; exact h1 z, h2⟩
/-- slots of a comprehension's own -/
def okC (vs O : List Nat) (sl : Option Nat) (i : Nat) : Prop := i ∈ vs ∧ i ∉ O ∧ sl ≠ some i
theorem Ctx.wiped {vs : List Nat} (c : Ctx K D O sl A S H σ ρ s) (hv : ∀ i ∈ vs, sl ≠ some i) : Ctx K D O sl A S H (wipe σ vs) (wipeR ρ vs) s where
  sub := c.sub
  dom := c.dom
  len := by rw [wipe_len, wipeR_len]; exact c.len
  env := fun i u e => by
    obtain ⟨n, e⟩ := wipeR_get ρ vs i u e
    rw [wipe_get, if_neg n]
    exact c.env i u e
  src := c.src
  slot := by
    cases sl with
    | none => trivial
    | some j =>
      obtain ⟨a, d, h1, h2⟩ := c.slot
      refine ⟨a, d, h1, ?_⟩
      rw [wipe_get, if_neg (fun m => hv j m rfl)]
      exact h2
theorem Ctx.inner {p : Addr} (c : Ctx K D O sl A S H σ ρ s) (np : H p = none) (e : Ext S H H') (hp : H' p ≠ none) (hs : SrcH S H' s') : Ctx K D O sl (p :: A) S H' σ ρ s' where
  sub := fun a m => List.mem_cons_of_mem _ (c.sub a m)
  dom := fun a m => by
    rcases List.mem_cons.mp m with rfl | m
    · exact hp
    · exact e.2 a (c.dom a m)
  len := c.len
  env := fun i u g => by
    have sm : Same (mask H A) (mask H' (p :: A)) := fun b o q => by
      obtain ⟨n, q⟩ := mask_some q
      refine mask_of (fun z => ?_) (e.1 b o (fun z => n (c.sub b z)) q)
      rcases List.mem_cons.mp z with z | z
      · rw [z, np] at q; cases q
      · exact n z
    obtain ⟨v, h1, h2, h3⟩ := c.env i u g
    refine ⟨v, h1, fun m => ?_, fun m => (h3 m).same sm⟩
    obtain ⟨a, e1, e2, e3⟩ := h2 m
    exact ⟨a, e1, e2, e3.ext e sm e2⟩
  src := hs
  slot := c.slot
theorem Ctx.set {i : Nat} {v : V} {u : U} (c : Ctx K D O sl A S H σ ρ s) (nO : i ∉ O) (nS : sl ≠ some i) (r : Rep K D (mask H A) v u) : Ctx K D O sl A S H (σ.set i (some v)) (ρ.set i (some u)) s where
  sub := c.sub
  dom := c.dom
  len := by rw [List.length_set, List.length_set]; exact c.len
  env := fun j w e => by
    rcases getSet e with ⟨rfl, rfl⟩ | ⟨ne, e⟩
    · exact ⟨v, setSelf c.len e, fun m => absurd m nO, fun _ => r⟩
    · rw [List.getElem?_set_ne ne]
      exact c.env j w e
  src := c.src
  slot := c.slot.set nS
/-- the state within a comprehension's block: the slots beside the block's own are as they were -/
theorem Ctx.targetC {vs : List Nat} {v : V} {u : U} {ρ' : Rho} {τ : L2.St} {R : L2.St → Hp → Prop} (hg : TgOK K D (okC vs O sl) g pf) (c : Ctx K D O sl A S H τ ρ s) (r : Rep K D (mask H A) v u) (e : pf u ρ = some ρ')
    (q : ∀ σ', Ctx K D O sl A S H σ' ρ' s → wipe σ' vs = wipe τ vs → R σ' H) : g v τ H R :=
  hg _ H (fun σ ρ => Ctx K D O sl A S H σ ρ s ∧ wipe σ vs = wipe τ vs) τ ρ v u ρ' R (mask_same _ _)
    (fun i σ ρ v u ok h r => ⟨h.1.set ok.2.1 ok.2.2 r, by
      rw [← h.2]
      exact wipe_eq (by rw [List.length_set]) fun j m => by rw [List.getElem?_set_ne fun z => m (by rw [← z]; exact ok.1)]⟩) ⟨c, rfl⟩ r e fun σ' h => q σ' h.1 h.2
theorem wipe_idem (σ : L2.St) (vs : List Nat) : wipe (wipe σ vs) vs = wipe σ vs := wipe_eq (wipe_len _ _) fun j m => by rw [wipe_get, if_neg m]
abbrev W0 : WX := fun _ _ _ _ => False
theorem Yd.inner {M : Hp} {x : V} {u : U} (y : Yd K D M H x H' u) (sm : Same M (mask H A)) (c : Ctx K D O sl A S H σ ρ s) : Ctx K D O sl A S H' σ ρ s ∧ Rep K D (mask H' A) x u ∧ Same H H' := by
  rcases y with ⟨rfl, r⟩ | ⟨T, vs, ws, rfl, nT, rfl, rfl, r⟩
  · exact ⟨c, r.same sm, Same.refl _⟩
  · exact ⟨c.same (Same.new nT), Rep.newT (r.same sm) nT c.dom, Same.new nT⟩
theorem fok_lc {vs : List Nat} (hv : ∀ i ∈ vs, sl ≠ some i) (hi : IOK K D W O sl wi fi) (hg : TgOK K D (okC vs O sl) g pf) (ht : TOK K D W0 O sl tt ft) (he : EOK K D W0 O sl Cl te fe) : FOK K D W O sl (tLc wi g tt te vs) (eLc vs fi pf ft fe) := fun A S Hs σ ρ s Q c q =>
  hi A S Hs σ ρ s _ c (q.bind fun us s1 J H1 e1 h1 hJ q1 => by
    intro p np
    have c1 : Ctx K D O sl A S H1 σ ρ s1 := c.ext e1 h1
    have pA : p ∉ A := fun z => c1.dom p z np
    have pS : p ∉ S := fun z => pA (c.sub p z)
    refine ⟨fun i m H => m = us.length - i ∧ i ≤ us.length ∧ ∃ acc accU s, Ext S H1 H ∧ SrcH S H s ∧ H p = some (.lst acc) ∧ RepAll K D (mask H (p :: A)) acc accU ∧
      PostG D W S σ H1 (fun H' v u => ∃ p, v = .ref p ∧ Hs p = none ∧ OwnAt K D (mask H' (p :: A)) H' p u) (((lcF pf ft fe (us.drop i) (wipeR ρ vs) s accU).noerr).bind fun xs s => .ok (.lst xs) s) Q, ⟨us.length, by simp, Nat.zero_le _, [], [], s1, Ext.new np, h1.same (Same.new np), upd_same, .nil, q1⟩, ?_⟩
    rintro i m H2 ⟨rfl, hil, acc, accU, s2, e2, h2, hp, hr, q2⟩
    have hpn : H2 p ≠ none := by rw [hp]; exact fun z => nomatch z
    have sm : Same (mask H1 A) (mask H2 (p :: A)) := fun b o hb => by
      obtain ⟨n, hb⟩ := mask_some hb
      refine mask_of (fun z => ?_) (e2.1 b o (fun z => n (c.sub b z)) hb)
      rcases List.mem_cons.mp z with z | z
      · rw [z, np] at hb; cases hb
      · exact n z
    have sm2 : Same (mask H1 A) H2 := fun b o hb => (mask_some (sm b o hb)).2
    have c2 : Ctx K D O sl (p :: A) S H2 (wipe σ vs) (wipeR ρ vs) s2 := (c1.inner np e2 hpn h2).wiped hv
    by_cases hlt : i < us.length
    · have e0 : us.drop i = us[i] :: us.drop (i + 1) := List.drop_eq_getElem_cons hlt
      rw [e0] at q2
      refine .inr ⟨hJ.go i H2 hlt sm2, fun H => ∃ acc accU s, Ext S H1 H ∧ SrcH S H s ∧ H p = some (.lst acc) ∧ RepAll K D (mask H (p :: A)) acc accU ∧
        PostG D W S σ H1 (fun H' v u => ∃ p, v = .ref p ∧ Hs p = none ∧ OwnAt K D (mask H' (p :: A)) H' p u) (((lcF pf ft fe (us.drop (i + 1)) (wipeR ρ vs) s accU).noerr).bind fun xs s => .ok (.lst xs) s) Q, fun H' h' => ⟨us.length - (i + 1), by omega, rfl, hlt, h'⟩, fun x H3 y => ?_⟩
      obtain ⟨c3, r3, s3⟩ := (hJ.yld i H2 x H3 us[i] (List.getElem?_eq_getElem hlt) sm2 y).inner sm c2
      unfold lcF at q2
      cases e3 : pf us[i] (wipeR ρ vs) with
      | none => rw [e3] at q2; exact q2.elim
      | some ρ3 =>
        rw [e3] at q2
        refine Ctx.targetC hg c3 r3 e3 fun σ3 c4 w4 => ⟨by rw [w4, wipe_idem], ht _ S H3 σ3 ρ3 s2 _ c4 ?_⟩
        cases e4 : ft ρ3 s2 with
        | err a b => simp only [e4] at q2; exact q2.elim
        | stuck => simp only [e4] at q2; exact q2.elim
        | ok b s4 =>
          simp only [e4] at q2
          intro b' H4 x4 h4 eb
          have eb' : b' = b := eb
          subst eb'
          have e14 : Ext S H1 H4 := (e2.trans (.of s3)).trans x4
          have hp4 : H4 p = some (.lst acc) := x4.1 _ _ pS (s3 _ _ hp)
          have smr : Same (mask H2 (p :: A)) (mask H4 (p :: A)) := ((Ext.of s3 : Ext S H2 H3).trans x4).mask c2.sub
          cases b' with
          | false => exact ⟨acc, accU, s4, e14, h4, hp4, hr.same smr, q2⟩
          | true =>
            refine he _ S H4 σ3 ρ3 s4 _ (c4.ext x4 h4) ?_
            cases e5 : fe ρ3 s4 with
            | err a b => simp only [R.bind, e5] at q2; exact q2.elim
            | stuck => simp only [R.bind, e5] at q2; exact q2.elim
            | ok y5 s5 =>
              intro v5 H5 x5 h5 r5
              have q3 : PostG D W S σ H1 (fun H' v u => ∃ p, v = .ref p ∧ Hs p = none ∧ OwnAt K D (mask H' (p :: A)) H' p u) (((if lineB (accU.length + 1) then lcF pf ft fe (us.drop (i + 1)) (wipeR ρ vs) s5 (accU ++ [y5]) else .stuck).noerr).bind fun xs s => .ok (.lst xs) s) Q := by
                simpa only [R.bind, e5, if_true] using q2
              have hp5 : H5 p = some (.lst acc) := x5.1 _ _ pS hp4
              have smr5 : Same (mask H2 (p :: A)) (mask H5 (p :: A)) := fun b o k => (x5.mask c2.sub) b o (smr b o k)
              split at q3
              · rename_i hl
                have eM : mask (upd H5 p (.lst (acc ++ [v5]))) (p :: A) = mask H5 (p :: A) := by
                  funext b
                  unfold mask
                  by_cases mb : b ∈ p :: A
                  · rw [if_pos mb, if_pos mb]
                  · rw [if_neg mb, if_neg mb, upd_ne fun z => mb (by rw [z]; exact List.mem_cons_self)]
                refine ⟨acc, hp5, ?_, acc ++ [v5], accU ++ [y5], s5, ?_, ?_, upd_same, ?_, q3⟩
                · have := lineB_le hl
                  rw [hr.length]
                  omega
                · refine ⟨fun b o n k => ?_, fun b k => ?_⟩
                  · have ne : b ≠ p := fun z => by rw [z, np] at k; cases k
                    rw [upd_ne ne]
                    exact (e14.trans x5).1 b o n k
                  · by_cases ne : b = p
                    · rw [ne, upd_same]; exact fun z => nomatch z
                    · rw [upd_ne ne]; exact (e14.trans x5).2 b k
                · rcases h5 with h5 | ⟨a, d, g1, g2, g3, g4⟩
                  · exact .inl h5
                  · have na : a ≠ p := fun z => pS (by rw [g1, ← z]; simp)
                    have nd : d ≠ p := fun z => pS (by rw [g1, ← z]; simp)
                    exact .inr ⟨a, d, g1, g2, by rw [upd_ne na]; exact g3, by rw [upd_ne nd]; exact g4⟩
                · rw [eM]
                  exact (hr.same smr5).snoc r5
              · exact q3.elim
    · have ei : i = us.length := by omega
      subst ei
      rw [List.drop_length] at q2
      refine .inl ⟨hJ.stop H2 sm2, q2 _ H2 e2 h2 ⟨p, rfl, ?_, .inl ⟨acc, accU, rfl, hp, hr⟩⟩⟩
      cases q : Hs p with
      | none => rfl
      | some x => exact absurd np (e1.2 p (by rw [q]; exact fun z => nomatch z)))
theorem eok_of (h : FOK K D W O sl te fe) : EOK K D W O sl Cl te fe := fun A S H σ ρ s Q c q => h A S H σ ρ s Q c (by
  cases e : fe ρ s with
  | ok u s1 =>
    rw [e] at q
    rintro v H' x hs ⟨p, rfl, np, o⟩
    have pA : p ∉ A := fun z => c.dom p z np
    exact q _ H' x hs (o.rep (mask_sub fun a m => List.mem_cons_of_mem _ m) fun o ho => mask_of pA ho)
  | err a b => rw [e] at q; exact q
  | stuck => rw [e] at q; exact q)
end
end My

set_option linter.all false
set_option maxRecDepth 100000
namespace My
open PySem PySem.Spec PyProof.Rows L2
open C8 (pe_gc)
section
variable {K : PySem.W.Frag} {D : String → Addr} {W : WX} {O O' OL : List Nat} {sl : Option Nat} {A A0 S : List Addr} {H0 H0' H H' H1 : Hp} {L : List (Nat × Addr)} {σ : L2.St} {ρ : Rho} {s s' : Sst}
variable {te tk : TE} {fe fk : EF} {tb : TS} {fb : SF} {g : TG} {pf : PF} {tt : TT} {ft : TF} {tas : TA} {fas fi : AF} {wi : TI}
theorem mask_upd {p : Addr} {o : HO} (m : p ∈ A) : mask (upd H p o) A = mask H A := by
  funext b
  unfold mask
  by_cases mb : b ∈ A
  · rw [if_pos mb, if_pos mb]
  · rw [if_neg mb, if_neg mb, upd_ne fun z => mb (by rw [z]; exact m)]
theorem StW.at (h : StW K D O sl A0 S H0 L H σ ρ s) {i : Nat} {u : U} (m : i ∈ O) (e : ρ[i]? = some (some u)) : ∃ p, (i, p) ∈ L ∧ σ[i]? = some (some (.ref p)) ∧ OwnAt K D (mask H (L.map (·.2) ++ A0)) H p u := by
  obtain ⟨⟨j, p⟩, m', rfl⟩ := List.mem_map.mp ((h.slots i).mpr m)
  obtain ⟨h1, w, h2, h3⟩ := h.own _ m' (List.getElem?_eq_some_iff.mp e).1
  have : w = u := by
    have k := h2.symm.trans e
    simpa using k
  subst this
  exact ⟨p, m', h1, h3⟩
theorem SrcH.put {p : Addr} {o : HO} (h : SrcH S H s) (n : p ∉ S) : SrcH S (upd H p o) s := by
  rcases h with h | ⟨a, c, h1, h2, h3, h4⟩
  · exact .inl h
  · subst h1
    have na : a ≠ p := fun z => n (by rw [z]; simp)
    have nc : c ≠ p := fun z => n (by rw [z]; simp)
    exact .inr ⟨a, c, rfl, h2, by rw [upd_ne na]; exact h3, by rw [upd_ne nc]; exact h4⟩
theorem upd_dom {p b : Addr} {o : HO} (h : H b ≠ none) : upd H p o b ≠ none := by
  by_cases e : b = p
  · rw [e, upd_same]; exact fun z => nomatch z
  · rw [upd_ne e]; exact h
/-- a list of the def's own is changed -/
theorem StW.mut (h : StW K D O sl A0 S H0 L H σ ρ s) {i : Nat} {p : Addr} {o : HO} {u : U} (m : (i, p) ∈ L) (ho : OwnAt K D (mask H (L.map (·.2) ++ A0)) (upd H p o) p u) : StW K D O sl A0 S H0 L (upd H p o) σ (ρ.set i (some u)) s := by
  have mA : p ∈ L.map (·.2) ++ A0 := List.mem_append_left _ (mem_snd m)
  have eM : mask (upd H p o) (L.map (·.2) ++ A0) = mask H (L.map (·.2) ++ A0) := mask_upd mA
  have mO : i ∈ O := (h.slots i).mp (List.mem_map.mpr ⟨_, m, rfl⟩)
  have one : ∀ q ∈ L, q.1 = i → q = (i, p) := by
    intro q mq e
    have key : ∀ {L : List (Nat × Addr)}, (L.map (·.1)).Nodup → ∀ {p q : Nat × Addr}, p ∈ L → q ∈ L → p.1 = q.1 → p = q := by
      intro L
      induction L with
      | nil => intro _ p q m1; cases m1
      | cons x L ih =>
        intro n p q m1 m2 e
        rw [List.map_cons, List.nodup_cons] at n
        have ms : ∀ {p : Nat × Addr}, p ∈ L → p.1 ∈ L.map (·.1) := fun m => List.mem_map.mpr ⟨_, m, rfl⟩
        rcases List.mem_cons.mp m1 with e1 | k1
        · rcases List.mem_cons.mp m2 with e2 | k2
          · rw [e1, e2]
          · exact absurd (by rw [← e1, e]; exact ms k2) n.1
        · rcases List.mem_cons.mp m2 with e2 | k2
          · exact absurd (by rw [← e2, ← e]; exact ms k1) n.1
          · exact ih n.2 k1 k2 e
    exact key h.once mq m e
  have ne_of : ∀ q ∈ L, q.1 ≠ i → q.2 ≠ p := fun q mq ne z => ne (by rw [nodup_snd h.apart mq m z])
  refine ⟨h.slots, h.once, h.apart, h.fresh, fun q mq hl => ?_, ⟨h.ctx.sub, fun a ma => upd_dom (h.ctx.dom a ma), by rw [List.length_set]; exact h.ctx.len, fun j w e => ?_, h.ctx.src.put (h.nS m), h.ctx.slot⟩, ⟨fun b o' n k => ?_, fun b k => upd_dom (h.ext.2 b k)⟩, h.sub⟩
  · rw [List.length_set] at hl
    obtain ⟨h1, w, h2, h3⟩ := h.own q mq hl
    rw [eM]
    by_cases e : q.1 = i
    · have := one q mq e
      subst this
      exact ⟨h1, u, List.getElem?_set_self hl, ho⟩
    · refine ⟨h1, w, by rw [List.getElem?_set_ne (Ne.symm e)]; exact h2, ?_⟩
      rcases h3 with ⟨vs, us, e1, e2, e3⟩ | ⟨vs, us, e1, e2, e3⟩
      · exact .inl ⟨vs, us, e1, by rw [upd_ne (ne_of q mq e)]; exact e2, e3⟩
      · exact .inr ⟨vs, us, e1, by rw [upd_ne (ne_of q mq e)]; exact e2, e3⟩
  · rw [eM]
    rcases getSet e with ⟨rfl, rfl⟩ | ⟨ne, e⟩
    · obtain ⟨h1, _⟩ := h.own _ m (by rw [← List.length_set]; exact (List.getElem?_eq_some_iff.mp e).1)
      exact ⟨_, h1, fun _ => ⟨p, rfl, h.nS m, by rw [eM]; exact ho⟩, fun n => absurd mO n⟩
    · obtain ⟨v, h1, h2, h3⟩ := h.ctx.env j w e
      refine ⟨v, h1, fun mj => ?_, h3⟩
      obtain ⟨q, mq, g1, g2⟩ := h.at mj e
      rw [h1] at g1
      have g1 : v = .ref q := by simpa using g1
      subst g1
      have nq : q ≠ p := ne_of (j, q) mq (Ne.symm ne)
      refine ⟨q, rfl, h.nS mq, ?_⟩
      rw [eM]
      rcases g2 with ⟨vs, us, e1, e2, e3⟩ | ⟨vs, us, e1, e2, e3⟩
      · exact .inl ⟨vs, us, e1, by rw [upd_ne nq]; exact e2, e3⟩
      · exact .inr ⟨vs, us, e1, by rw [upd_ne nq]; exact e2, e3⟩
  · have ne : b ≠ p := fun z => by rw [z, (h.fresh _ m).2] at k; cases k
    rw [upd_ne ne]
    exact h.ext.1 b o' n k
theorem OwnAt.lst {M : Hp} {p : Addr} {us : List U} (h : OwnAt K D M H p (.lst us)) : ∃ vs, H p = some (.lst vs) ∧ RepAll K D M vs us := by
  rcases h with ⟨vs, us', e, h1, h2⟩ | ⟨vs, us', e, h1, h2⟩
  · cases e; exact ⟨vs, h1, h2⟩
  · cases e
theorem OwnAt.dct {M : Hp} {p : Addr} {us : List (U × U)} (h : OwnAt K D M H p (.dct us)) : ∃ vs, H p = some (.dK vs) ∧ RepKV K D M vs us := by
  rcases h with ⟨vs, us', e, h1, h2⟩ | ⟨vs, us', e, h1, h2⟩
  · cases e
  · cases e; exact ⟨vs, h1, h2⟩
theorem sok_app {i : Nat} (m : i ∈ O) (he : EOK K D W O sl Cl te fe) : SOK K D W O O OL sl (tDrop (tBM K "list" rAppend (tVar i) (tCons te tNil))) (sApp i fe) := fun A0 S H0 H σ ρ s Dn hm p => by
  obtain ⟨L, h⟩ := hm
  unfold sApp at p
  split at p
  · rename_i us ei
    obtain ⟨p0, ml, hs0, ho⟩ := h.at m ei
    obtain ⟨vs, hp, hr⟩ := ho.lst
    refine ⟨.ref p0, hs0, .inl ⟨rfl, vs, .of hp⟩, he _ S H σ ρ s _ h.ctx (PostS.stm h p fun u s1 v H1 e hs r q => ?_)⟩
    have h1 := h.next e hs
    have hp1 : H1 p0 = some (.lst vs) := e.1 _ _ (h.nS ml) hp
    by_cases hl : lineB (us.length + 1) = true
    · rw [if_pos hl] at q
      have hl2 := lineB_le hl
      exact ⟨p0, vs, v, rfl, rfl, hp1, by rw [hr.length]; omega, q _ _ ⟨L, h1.mut ml (.inl ⟨_, _, rfl, upd_same, (hr.same (e.mask h.inA)).snoc r⟩)⟩⟩
    · rw [if_neg hl] at q
      exact q.elim
  · exact p.elim
theorem sok_popD {i : Nat} (m : i ∈ O) (hg : TgOK K D (okS O sl) g pf) : SOK K D W O O OL sl (tAsg (tBM0 K "list" rPop (tVar i)) g) (sPop pf i) := fun A0 S H0 H σ ρ s Dn hm p => by
  obtain ⟨L, h⟩ := hm
  unfold sPop at p
  split at p
  · rename_i us ei
    obtain ⟨p0, ml, hs0, ho⟩ := h.at m ei
    obtain ⟨vs, hp, hr⟩ := ho.lst
    split at p
    · rename_i u eu
      rw [List.getLast?_eq_getElem?] at eu
      obtain ⟨v, ev, rv⟩ := hr.get eu
      rw [← hr.length] at ev
      split at p
      · rename_i ρ' e'
        have h1 := h.mut (o := .lst vs.dropLast) (u := .lst us.dropLast) ml (.inl ⟨_, _, rfl, upd_same, hr.dropLast⟩)
        refine ⟨.ref p0, hs0, .inl ⟨rfl, vs, .of hp⟩, p0, vs, v, rfl, rfl, hp, ev, h1.target hg ?_ e' fun σ' h' => p _ _ ⟨L, h'⟩⟩
        rw [mask_upd (List.mem_append_left _ (mem_snd ml))]
        exact rv
      · exact p.elim
    · exact p.elim
  · exact p.elim
theorem sok_put {i : Nat} (m : i ∈ O) (he : EOK K D W O sl Cl te fe) (hk : EOK K D W O sl Sn tk fk) : SOK K D W O O OL sl (tAsg te (gSub (tVar i) tk rSetL)) (sPut i fk fe) := fun A0 S H0 H σ ρ s Dn hm p => by
  obtain ⟨L, h⟩ := hm
  refine he _ S H σ ρ s _ h.ctx (PostS.stm h p fun u s1 v H1 e hs r q => ?_)
  have h1 := h.next e hs
  split at q
  · rename_i us ei
    obtain ⟨p0, ml, hs0, ho⟩ := h1.at m ei
    refine ⟨.ref p0, hs0, hk _ S H1 σ ρ s1 _ h1.ctx (PostS.stm h1 q fun j s2 w H2 e2 hs2 r2 q2 => ?_)⟩
    have h2 := h1.next e2 hs2
    cases j with
    | int j =>
      obtain rfl := r2.int
      simp only at q2
      cases eN : ixN us.length j with
      | none => rw [eN] at q2; exact q2.elim
      | some n =>
        rw [eN] at q2
        obtain ⟨vs, hp, hr⟩ := ho.lst
        have hp2 : H2 p0 = some (.lst vs) := e2.1 _ _ (h.nS ml) hp
        exact ⟨p0, vs, j, n, rfl, rfl, hp2, by rw [hr.length]; exact eN, q2 _ _ ⟨L, h2.mut ml (.inl ⟨_, _, rfl, upd_same, (hr.same (e2.mask h.inA)).set (Rep.same (e2.mask h.inA) u r) n⟩)⟩⟩
    | _ => exact q2.elim
  · exact q.elim
/-! ### try -/
theorem sok_tryG {i x : Nat} {kls : List String} {c : String} {tb : WX → TS} (hi : okS O sl i) (hx : okS O sl x) (hO : O = []) (hC : ∀ d ∈ kls, PySem.W.exmOne K (.ref (D d)) (.ref (D c)) = some (decide (d = c) || decide (c = "MarkError")))
    (hb : ∀ W', SOK K D W' O O OL sl (tb W') fb) : SOK K D W O O OL sl (fun Dn σ H => tb (wKeep K (.ref (D c)) i (tAsg (tVar i) (gName x)) W Dn) Dn σ H) (sTry kls c i x fb) := fun A0 S H0 H σ ρ s Dn hm p => by
  refine hb _ A0 S H0 H σ ρ s Dn hm ?_
  unfold sTry at p
  cases e : fb ρ s with
  | er d ρ' s' =>
    rw [e] at p
    rintro σ' H' ⟨L, h⟩
    subst hO
    simp only at p
    split at p
    · rename_i hk
      simp only [List.contains_iff_mem] at hk
      refine ⟨_, hC d hk, fun ht a na => ?_, fun hf => ?_⟩
      · rw [if_pos ht] at p
        split at p
        · rename_i hl
          refine ⟨.ref a, List.getElem?_set_self (by rw [h.ctx.len]; exact hl), p _ _ ⟨L, ?_⟩⟩
          have h1 := (h.unset hi.1 hi.2 (some (.ref a))).next (Ext.new (o := ExZ (.ref (D d)) none a) na) (h.ctx.src.same (Same.new na))
          exact (h1.set hx.1 hx.2 (.exc _ (mask_of (fun m => h.ctx.dom a m na) upd_same))).unset hi.1 hi.2 none
        · exact p.elim
      · rw [if_neg (by rw [hf]; decide)] at p
        exact p σ' H' ⟨L, h⟩
    · exact p.elim
  | _ => rw [e] at p; exact p
end
end My

set_option linter.all false
set_option maxRecDepth 100000
namespace My
open PySem PySem.Spec PyProof.Rows L2
open C8 (pe_gc)
/-! ### defs -/
def spU (K : PySem.W.Frag) (D : String → Addr) (n : Nat) (F : List U → R0) : Sp := fun vs H Q E => ∃ us A, us.length = n ∧ (∀ a ∈ A, H a ≠ none) ∧ RepAll K D (mask H A) vs us ∧ (match F us with
  | .ok u => ∀ v H', Ext [] H H' → Rep K D (mask H' A) v u → Q v H'
  | .err c => ∀ H', Ext [] H H' → E (.ref (D c)) none H'
  | .stuck => False)
/-- a def whose first parameter is the source of drawn numbers -/
def spS (K : PySem.W.Frag) (D : String → Addr) (n : Nat) (F : Sst → List U → R U) : Sp := fun vs H Q E => ∃ a c ws us A s, vs = .ref a :: ws ∧ us.length = n ∧ a ∈ A ∧ c ∈ A ∧ (∀ a ∈ A, H a ≠ none) ∧ SrcH [a, c] H s ∧ RepAll K D (mask H A) ws us ∧ (match F s us with
  | .ok u s' => ∀ v H', Ext [a, c] H H' → SrcH [a, c] H' s' → Rep K D (mask H' A) v u → Q v H'
  | .err d s' => ∀ H', Ext [a, c] H H' → SrcH [a, c] H' s' → E (.ref (D d)) none H'
  | .stuck => False)
section
variable {K : PySem.W.Frag} {D : String → Addr} {W : WX} {O O' OL : List Nat} {sl : Option Nat} {A A0 S : List Addr} {H0 H H' H1 : Hp} {L : List (Nat × Addr)} {σ : L2.St} {ρ : Rho} {s s' : Sst}
variable {te : TE} {fe : EF} {ts : TS} {fs : SF} {tas : TA} {fas : AF}
theorem eok_call {n : Nat} {F : List U → R0} (ha : AOK K D W O sl ClA tas fas) : EOK K D W O sl Cl (tCallS (spU K D n F) (fun σ => WE W σ) tas) (eCall n F fas) := fun A S H σ ρ s Q c q =>
  ha A S H σ ρ s _ c (q.bind fun us s1 vs H1 e1 h1 r1 q1 => by
    split at q1
    · rename_i hn
      refine ⟨us, A, hn, (c.ext e1 h1).dom, r1, ?_⟩
      cases e : F us with
      | ok u => rw [e] at q1; exact fun v H' x r => q1 v H' (x.sub (by simp)) (h1.same x.same) r
      | err d => rw [e] at q1; exact fun H' x => q1 H' (x.sub (by simp)) (h1.same x.same)
      | stuck => rw [e] at q1; exact q1
    · exact q1.elim)
theorem eok_callS {i n : Nat} {F : Sst → List U → R U} (ha : AOK K D W O (some i) ClA tas fas) : EOK K D W O (some i) Cl (tCallS (spS K D n F) (fun σ => WE W σ) (tCons (tVar i) tas)) (eCallS n F fas) := fun A S H σ ρ s Q c q => by
  obtain ⟨a, d, eS, e2⟩ := c.slot
  refine ⟨.ref a, e2, ha A S H σ ρ s _ c (q.bind fun us s1 vs H1 e1 h1 r1 q1 => ?_)⟩
  subst eS
  split at q1
  · rename_i hn
    refine ⟨a, d, vs, us, A, s1, rfl, hn, c.sub a (by simp), c.sub d (by simp), (c.ext e1 h1).dom, h1, r1, ?_⟩
    cases e : F s1 us with
    | ok u s' => rw [e] at q1; exact fun v H' x h r => q1 v H' x h r
    | err d s' => rw [e] at q1; exact fun H' x h => q1 H' x h
    | stuck => rw [e] at q1; exact q1
  · exact q1.elim
theorem start_get {N : List Str} {vs : List V} {us : List U} {m : Nat} (hN : N.length = us.length + m) (r : RepAll K D H vs us) {i : Nat} {u : U} (e : (startR us m)[i]? = some (some u)) : ∃ v, (L2.start N vs)[i]? = some (some v) ∧ Rep K D H v u := by
  unfold startR at e
  unfold L2.start
  by_cases hl : i < us.length
  · rw [List.getElem?_append_left (by rw [List.length_map]; exact hl), List.getElem?_map] at e
    have e2 : us[i]? = some u := by
      cases q : us[i]? with
      | none => rw [q] at e; cases e
      | some w => rw [q] at e; simpa using e
    obtain ⟨v, h1, h2⟩ := r.get e2
    exact ⟨v, by rw [List.getElem?_append_left (by rw [List.length_map, r.length]; exact hl), List.getElem?_map, h1]; rfl, h2⟩
  · rw [List.getElem?_append_right (by rw [List.length_map]; omega)] at e
    rw [List.getElem?_replicate] at e
    split at e <;> cases e
theorem start_len {N : List Str} {vs : List V} {us : List U} {m : Nat} (hN : N.length = us.length + m) (r : RepAll K D H vs us) : (L2.start N vs).length = (startR us m).length := by
  unfold startR L2.start
  rw [List.length_append, List.length_append, List.length_map, List.length_map, List.length_replicate, List.length_replicate, r.length]
  omega
/-- a def's body, from its statements -/
theorem body_U {N : List Str} {vs : List V} {n m : Nat} {Q : VK} {E : XK} (hN : N.length = n + m) (hs : SOK K D (fun cls d _ H => E cls d H) [] O' [] none ts fs) (h : spU K D n (runF fs n m) vs H Q E) :
    ts { nx := fun _ H' => Q .non H', rt := Q } (L2.start N vs) H := by
  obtain ⟨us, A, hn, hd, r, q⟩ := h
  have r' : RepAll K D H vs us := r.same (mask_same _ _)
  refine hs A [] H H (L2.start N vs) (startR us m) dSst _ ⟨[], fun i => Iff.rfl, List.nodup_nil, List.nodup_nil, fun p m => absurd m List.not_mem_nil, fun p m => absurd m List.not_mem_nil, ⟨by simp, hd, start_len (by rw [hN, hn]) r', fun i u e => ?_, .inl rfl, trivial⟩, Ext.refl _ _, by simp⟩ ?_
  · obtain ⟨v, h1, h2⟩ := start_get (N := N) (by rw [hN, hn]) r e
    exact ⟨v, h1, fun m => absurd m List.not_mem_nil, fun _ => h2⟩
  · unfold runF at q
    rw [if_pos hn] at q
    cases e : fs (startR us m) dSst with
    | nx ρ s =>
      simp only [e] at q
      rintro σ' H' ⟨L, h⟩
      exact q _ _ h.ext .non
    | rt u s =>
      simp only [e] at q
      exact fun v H' x _ r => q v H' x r
    | er c ρ s =>
      simp only [e] at q
      rintro σ' H' ⟨L, h⟩
      exact q _ h.ext
    | bk ρ s => simp only [e] at q
    | ct ρ s => simp only [e] at q
    | stuck => simp only [e] at q
theorem body_S {N : List Str} {vs : List V} {n m : Nat} {Q : VK} {E : XK} (hN : N.length = n + 1 + m) (hs : SOK K D (fun cls d _ H => E cls d H) [] O' [] (some 0) ts fs) (h : spS K D n (runS fs n m) vs H Q E) :
    ts { nx := fun _ H' => Q .non H', rt := Q } (L2.start N vs) H := by
  obtain ⟨a, c, ws, us, A, s, rfl, hn, ma, mc, hd, hsrc, r, q⟩ := h
  have e0 : L2.start N (.ref a :: ws) = some (.ref a) :: (ws.map some ++ List.replicate (N.length - (ws.length + 1)) none) := rfl
  have hl : ws.length = n := by rw [r.length, hn]
  refine hs A [a, c] H H (L2.start N (.ref a :: ws)) (none :: startR us m) s _ ⟨[], fun i => Iff.rfl, List.nodup_nil, List.nodup_nil, fun p m => absurd m List.not_mem_nil, fun p m => absurd m List.not_mem_nil, ⟨fun b hb => ?_, hd, ?_, fun i u e => ?_, hsrc, ⟨a, c, rfl, rfl⟩⟩, Ext.refl _ _, fun b hb => ?_⟩ ?_
  · simp only [List.mem_cons, List.not_mem_nil, or_false] at hb
    rcases hb with rfl | rfl
    · exact ma
    · exact mc
  · rw [e0]
    unfold startR
    simp only [List.length_cons, List.length_append, List.length_map, List.length_replicate]
    omega
  · cases i with
    | zero => simp at e
    | succ i =>
      rw [List.getElem?_cons_succ] at e
      have key : ∃ v, (L2.start (N.drop 1) ws)[i]? = some (some v) ∧ Rep K D (mask H A) v u := start_get (by rw [List.length_drop]; omega) r e
      obtain ⟨v, h1, h2⟩ := key
      refine ⟨v, ?_, fun m => absurd m List.not_mem_nil, fun _ => h2⟩
      rw [e0, List.getElem?_cons_succ]
      unfold L2.start at h1
      rw [List.length_drop] at h1
      rw [show N.length - (ws.length + 1) = N.length - 1 - ws.length by omega]
      exact h1
  · simp only [List.mem_cons, List.not_mem_nil, or_false] at hb
    rcases hb with rfl | rfl
    · exact ma
    · exact mc
  · unfold runS at q
    rw [if_pos hn] at q
    cases e : fs (none :: startR us m) s with
    | nx ρ s =>
      simp only [e] at q
      rintro σ' H' ⟨L, h⟩
      exact q _ _ h.ext h.ctx.src .non
    | rt u s =>
      simp only [e] at q
      exact fun v H' x hs r => q v H' x hs r
    | er c ρ s =>
      simp only [e] at q
      rintro σ' H' ⟨L, h⟩
      exact q _ h.ext h.ctx.src
    | bk ρ s => simp only [e] at q
    | ct ρ s => simp only [e] at q
    | stuck => simp only [e] at q
theorem spU_len {n : Nat} {F : List U → R0} {vs : List V} {Q : VK} {E : XK} (h : spU K D n F vs H Q E) : vs.length = n := by
  obtain ⟨us, A, hn, _, r, _⟩ := h
  rw [r.length, hn]
theorem spS_len {n : Nat} {F : Sst → List U → R U} {vs : List V} {Q : VK} {E : XK} (h : spS K D n F vs H Q E) : vs.length = n + 1 := by
  obtain ⟨a, c, ws, us, A, s, rfl, hn, _, _, _, _, r, _⟩ := h
  rw [List.length_cons, r.length, hn]
end
section
variable {P : Program} {w : World} {K : PySem.W.Frag} {mg : Str → Option Value} {base : Heap} {D : String → Addr}
abbrev cxX (P : Program) (w : World) (K : PySem.W.Frag) (mg : Str → Option Value) (base : Heap) (N : List Str) (x : Str) (st : Stmt) (f : Addr) (cdv : Value) (A : Around) (outer : List Env) (s : Shared) (H : Hp) (E : XK) : Cx := cxOf (L2.CX P w) P w K mg base N x (defScope st) f cdv A outer s H E
/-- a def of the text by its plain reading -/
theorem calU {x : Str} {st : Stmt} {N ps : List Str} {k n m : Nat} {fs : SF} (hh : My.Has K mg x st ps) (S : FnScope N ps (defScope st)) (hp : ps.length = n) (hN : N.length = n + m)
    (body : ∀ (f : Addr) (cdv : Value) (A : Around) (outer : List Env) (s : Shared) (H : Hp) (E : XK), Room k (A.deeper (PyProof.Rows.envOfC x (defScope st) s.heap.objs.size f cdv)) →
      Takes (cxX P w K mg base N x st f cdv A outer s H E) (fun cls d _ H => E cls d H) → ∃ ts O', PSs (cxX P w K mg base N x st f cdv A outer s H E) (defBody st) ts ∧ SOK K D (fun cls d _ H => E cls d H) [] O' [] none ts fs) :
    CalX P w K mg base (k + 1) x (spU K D n (runF fs n m)) := by
  obtain ⟨f, fd, F, gF, b⟩ := hh
  refine mkCalX F gF F.kp b S (fun vs H Q E h => by rw [hp]; exact spU_len h) fun cdv A outer s H vs Q E hr h tk => ?_
  obtain ⟨ts, O', h1, h2⟩ := body f cdv A outer s H E hr tk
  exact ⟨ts, h1, body_U hN h2 h⟩
theorem calS {x : Str} {st : Stmt} {N ps : List Str} {k n m : Nat} {fs : SF} (hh : My.Has K mg x st ps) (S : FnScope N ps (defScope st)) (hp : ps.length = n + 1) (hN : N.length = n + 1 + m)
    (body : ∀ (f : Addr) (cdv : Value) (A : Around) (outer : List Env) (s : Shared) (H : Hp) (E : XK), Room k (A.deeper (PyProof.Rows.envOfC x (defScope st) s.heap.objs.size f cdv)) →
      Takes (cxX P w K mg base N x st f cdv A outer s H E) (fun cls d _ H => E cls d H) → ∃ ts O', PSs (cxX P w K mg base N x st f cdv A outer s H E) (defBody st) ts ∧ SOK K D (fun cls d _ H => E cls d H) [] O' [] (some 0) ts fs) :
    CalX P w K mg base (k + 1) x (spS K D n (runS fs n m)) := by
  obtain ⟨f, fd, F, gF, b⟩ := hh
  refine mkCalX F gF F.kp b S (fun vs H Q E h => by rw [hp]; exact spS_len h) fun cdv A outer s H vs Q E hr h tk => ?_
  obtain ⟨ts, O', h1, h2⟩ := body f cdv A outer s H E hr tk
  exact ⟨ts, h1, body_S hN h2 h⟩
end
end My

set_option linter.all false
set_option maxRecDepth 100000
namespace My
open PySem PySem.Spec PyProof.Rows L2
open C8 (pe_gc)
section
variable {K : PySem.W.Frag} {D : String → Addr} {W : WX} {O O' OL : List Nat} {sl : Option Nat} {A A0 S : List Addr} {H0 H H' H1 : Hp} {σ : L2.St} {ρ : Rho} {s s' : Sst}
variable {te : TE} {fe : EF} {tl th : TO} {fl fh : OF} {tas : TA} {fas : AF}
theorem RepAll.empty {vs : List V} {us : List U} (h : RepAll K D H vs us) : (!vs.isEmpty) = !us.isEmpty := by
  cases h <;> rfl
theorem tru_of {v : V} {u : U} {k : Bool} (h : Rep K D H v u) (e : truU u = some k) : TruV K v H k := by
  cases h <;> simp only [truU, Option.some.injEq] at e <;> (try cases e)
  · exact rfl
  · exact rfl
  · exact rfl
  · rename_i h r
    exact .inl ⟨_, .of h, by rw [r.empty]⟩
  · rename_i h r
    exact .inr (.inl ⟨_, h, by rw [r.empty]⟩)
  · rename_i h r
    exact .inr (.inr ⟨_, h, by cases r <;> rfl⟩)
theorem tok_tru (ha : EOK K D W O sl Sn te fe) : TOK K D W O sl (fun σ H Q => te σ H fun x H' => ∃ k, TruV K x H' k ∧ Q k H') (tT fe) := fun A S H σ ρ s Q c q =>
  ha A S H σ ρ s _ c (q.bind fun x s1 v H1 e1 h1 r1 q1 => by
    obtain ⟨k, hk, q2⟩ := q1.opt h1
    exact ⟨k, tru_of r1.full hk, q2 _ _ (Same.refl _) rfl⟩)
theorem ok_pow : OpOK K D (rI CPowW fun i j => .int (i ^ j.toNat)) pPow := fun A S H x y a b c Q d ha hb e q => by
  unfold pPow at e
  split at e
  · split at e
    · rename_i i j hl
      cases e
      obtain rfl := ha.int
      obtain rfl := hb.int
      have hl := of_decide_eq_true hl
      refine ⟨_, _, rfl, rfl, ⟨hl.1, ?_⟩, q _ _ (Same.refl _) (.int _)⟩
      have h2 := hl.2
      unfold Builtin.Int.intBits
      split
      · simp
      · rw [Int.natCast_add]
        exact Int.le_trans h2 (by decide)
    · cases e
  · cases e
/-! slices -/
def OfOK (K : PySem.W.Frag) (D : String → Addr) (W : WX) (O : List Nat) (sl : Option Nat) (t : TO) (f : OF) : Prop := ∀ A S H σ ρ s (Q : Option Int → Hp → Prop), Ctx K D O sl A S H σ ρ s → PostG D W S σ H (fun _ (v : Option Int) u => v = u) (f ρ s) Q → t σ H Q
theorem of_no : OfOK K D W O sl tNoPart oNo := fun A S H σ ρ s Q c q => q none H (Ext.refl _ _) c.src rfl
theorem of_so (h : EOK K D W O sl Sn te fe) : OfOK K D W O sl (tPart te) (oSo fe) := fun A S H σ ρ s Q c q =>
  h A S H σ ρ s _ c (q.bind fun x s1 v H1 e1 h1 r1 q1 => by
    cases x with
    | int i =>
      obtain rfl := r1.int
      exact ⟨i, rfl, q1 _ _ (Ext.refl _ _) h1 rfl⟩
    | _ => exact q1.elim)
def rSlAny (K : PySem.W.Frag) : V → Option Int → Option Int → Hp → VK → Prop := fun x lo hi H Q => rSlL K x lo hi H Q ∨ rSlA K x lo hi H Q
theorem sl_any {X : Cx} : SlR X (rSlAny X.K) := by
  intro pins s σ H x v vl vu lo hi sl Q I rx hs pl pu h
  rcases h with h | h
  · exact sl_list pins s σ H x v vl vu lo hi sl Q I rx hs pl pu h
  · exact sl_tupA pins s σ H x v vl vu lo hi sl Q I rx hs pl pu h
theorem cut_rep {vs : List V} {us : List U} (h : RepAll K D H vs us) (lo hi : Option Int) : RepAll K D H (cutV vs lo hi) (cutU us lo hi) := by
  unfold cutV cutU
  rw [h.length]
  exact (h.drop _).take _
theorem ok_sl {x : V} {a c : U} {lo hi : Option Int} {Q : VK} (d : ∀ z ∈ A, H z ≠ none) (ha : Sn K D A S H x a) (e : pSl lo hi a = some c) (q : ∀ v H', Same H H' → Cl K D A S H' v c → Q v H') : rSlAny K x lo hi H Q := by
  unfold pSl at e
  split at e
  · cases e
    obtain ⟨p, vs, rfl, hp, hv⟩ := ha.lst
    exact .inl ⟨p, vs, rfl, .of hp, fun l nl => q _ _ (Same.new nl) (Rep.newL (cut_rep hv lo hi) nl d)⟩
  · cases e
    obtain ⟨p, vs, rfl, hp, hm, hv⟩ := ha.tup
    refine .inr ⟨p, vs, rfl, hp, fun h0 => q _ _ (Same.refl _) ?_, fun _ l nl => q _ _ (Same.new nl) (Rep.newT (cut_rep hv lo hi) nl d)⟩
    have e : cutV vs lo hi = vs := by
      unfold cutV
      rw [h0.1, h0.2, List.drop_zero, Nat.sub_zero, List.take_length]
    have r := cut_rep hv lo hi
    rw [e] at r
    exact .tup hm r
  · cases e
theorem eok_slice (he : EOK K D W O sl Sn te fe) (hl : OfOK K D W O sl tl fl) (hh : OfOK K D W O sl th fh) : EOK K D W O sl Cl (L2.tSl (rSlAny K) te tl th) (eSl fe fl fh) := fun A S H σ ρ s Q c q =>
  he A S H σ ρ s _ c (q.bind fun x s1 v H1 e1 h1 r1 q1 => hl A S H1 σ ρ s1 _ (c.ext e1 h1) (q1.bind fun i s2 i' H2 e2 h2 r2 q2 => hh A S H2 σ ρ s2 _ ((c.ext e1 h1).ext e2 h2) (q2.bind fun j s3 j' H3 e3 h3 r3 q3 => by
    obtain ⟨z, hz, q4⟩ := q3.opt h3
    subst r2 r3
    exact ok_sl (((c.ext e1 h1).ext e2 h2).ext e3 h3).dom ((r1.ext e2 c.sub).ext e3 c.sub) hz q4)))
end
section
variable {X : Cx}
theorem pe_cx0 {k j : Nat} {x : Str} {sp : Sp} {p pos : Pos} {W : WX} (h : CalX X.prog X.w X.K X.mg X.base k x sp) (tk : Takes X W) (hr : Room j X.A) (le : k ≤ j) (hg : Gl X x)
    (hd : (x == ("__debug__" : Str)) = false := by decide) : PE X (.Call (.Name x p) [] [] pos) (tCallS sp (fun σ => WE W σ) tNil) := by
  obtain ⟨f, fd, ps, F, hm, hk, hb⟩ := h
  refine ⟨fun pins s σ H Q I h => ?_⟩
  refine wpAny_Call_Name_kw (ld_glob I hg hm ?_ hd)
  exact PySem.W.callWith_K0 (Inv_kin I) hk (run_fnS F (hr.mono le) hb (passAt tk σ) I .nil h)
theorem Room.u65 {k : Nat} {A : Around} (r : Room k A) : A.units + 65 < cLine := by have := r.un; omega
end
end My

set_option linter.all false
set_option maxRecDepth 100000
namespace My
open PySem PySem.Spec PyProof.Rows L2
open C8 (pe_gc)
/-! ### rules whose readings name the written part -/
section
variable {X : Cx} {K : PySem.W.Frag}
theorem op_addAnyK (h : X.K = K := by rfl) : OpR X (binaryOp .Add) (rAddAny K) := by subst h; exact op_addAny
theorem op_mulAnyK (h : X.K = K := by rfl) : OpR X (binaryOp .Mult) (rMulAny K) := by subst h; exact op_mulAny
theorem op_eqDK (hu : X.A.units + 64 < cLine) (h : X.K = K := by rfl) : OpR X (compareOp .Eq) (rEqD K) := by subst h; exact op_eqD hu
theorem op_neDK (hu : X.A.units + 64 < cLine) (h : X.K = K := by rfl) : OpR X (compareOp .NotEq) (rNeD K) := by subst h; exact op_neD hu
theorem op_inDK (hu : X.A.units + 65 < cLine) (h : X.K = K := by rfl) : OpR X (compareOp .In) (rInD K) := by subst h; exact op_inD hu
theorem op_notInDK (hu : X.A.units + 65 < cLine) (h : X.K = K := by rfl) : OpR X (compareOp .NotIn) (rNotInD K) := by subst h; exact op_notInD hu
theorem sl_anyK (h : X.K = K := by rfl) : SlR X (rSlAny K) := by subst h; exact sl_any
theorem call_lenK (h : X.K = K := by rfl) : CallR X (.builtin "len") (fun xs H Q => ∃ p ys, xs = [.ref p] ∧ (SqL K H p ys ∨ SqT K H p ys) ∧ Q (.int ys.length) H) := by subst h; exact call_len_seq
theorem call_listK (h : X.K = K := by rfl) : CallR X (.type "list") (fun xs H Q => ∃ p ys, xs = [.ref p] ∧ (SqL K H p ys ∨ SqT K H p ys) ∧ ∀ l, H l = none → Q (.ref l) (upd H l (.lst ys))) := by subst h; exact call_list_of
theorem call_tupleK (h : X.K = K := by rfl) : CallR X (.type "tuple") (fun xs H Q => ∃ p ys, xs = [.ref p] ∧ ((SqL K H p ys ∧ ∀ l, H l = none → Q (.ref l) (upd H l (.tup ys))) ∨ (SqT K H p ys ∧ Q (.ref p) H))) := by subst h; exact call_tuple_of
theorem cr_sumK (hc : X.calm = true) (h : X.K = K := by rfl) : CallR X (.builtin "sum") (rSum K) := by subst h; exact cr_sum hc
theorem cr_allK (hc : X.calm = true) (h : X.K = K := by rfl) : CallR X (.builtin "all") (rAll K) := by subst h; exact cr_all hc
theorem cr_anyK (hc : X.calm = true) (h : X.K = K := by rfl) : CallR X (.builtin "any") (rAny K) := by subst h; exact cr_any hc
theorem pi_seqK {tg l : Expr} {tl : TE} (hl : PE X l tl) (h : X.K = K := by rfl) : PI X tg l (iSeqT K tl) := by subst h; exact pi_seq hl
theorem pi_revK {tg it : Expr} {ta : TA} (h : PI X tg it (L2.iRev X.K ta)) (e : X.K = K := by rfl) : PI X tg it (L2.iRev K ta) := by subst e; exact h
theorem pt_truthK {a : Expr} {ta : TE} (ha : PE X a ta) (he : ∀ whole, isTrue a X.env whole = (do let v ← whole; standAt a.pos; holding [v] (truthy v))) (h : X.K = K := by rfl) : PT X a (fun σ H Q => ta σ H fun x H' => ∃ k, TruV K x H' k ∧ Q k H') := by subst h; exact pt_truth ha he
theorem pg_tupK {tg : Expr} {t : TGs} {n : Nat} (h : PG X tg (gTup X.K n t)) (e : X.K = K := by rfl) : PG X tg (gTup K n t) := by subst e; exact h
theorem pg_unlK {tg : Expr} {t : TGs} {n : Nat} (h : PG X tg (gUnl X.K n t)) (e : X.K = K := by rfl) : PG X tg (gUnl K n t) := by subst e; exact h
end
section
variable {K : PySem.W.Frag} {D : String → Addr} {W : WX} {O O' OL : List Nat} {sl : Option Nat} {A A0 S : List Addr} {H0 H H' H1 : Hp} {σ : L2.St} {ρ : Rho} {s s' : Sst}
variable {te ta tb : TE} {fe fa fb : EF} {tas : TA} {fas : AF}
theorem tok_valT (ha : EOK K D W O sl Sn te fe) : TOK K D W O sl (tTest te) (tV fe) := fun A S H σ ρ s Q c q =>
  ha A S H σ ρ s _ c (q.bind fun x s1 v H1 e1 h1 r1 q1 => by
    cases e : toB x with
    | none => rw [e] at q1; exact q1.elim
    | some b =>
      have e2 := toB_some e
      subst e2
      obtain rfl := r1.bl
      exact ⟨b, rfl, q1 _ _ (Ext.refl _ _) h1 rfl⟩)
theorem jok_rev {a : Addr} {vs : List V} {us : List U} {M : Hp} (h : M a = some (.lst vs)) (r : RepAll K D M vs us) : JOK K D (Itv K a vs.length) us.reverse M where
  go := fun i H hi sm => walk_rev.goes i H (by rw [List.length_reverse] at hi; rw [r.length]; exact hi) (.of (sm _ _ h))
  stop := fun H sm => by rw [List.length_reverse, ← r.length]; exact walk_rev.stops H (.of (sm _ _ h))
  yld := fun i H x H' u e sm y => by
    have hi : i < us.length := by
      have := (List.getElem?_eq_some_iff.mp e).1
      rwa [List.length_reverse] at this
    rw [List.getElem?_reverse hi] at e
    obtain ⟨v, e1, e2⟩ := r.get e
    obtain ⟨h1, h2⟩ := walk_rev.yields i H x H' (by rw [r.length]; exact hi) (.of (sm _ _ h)) y
    rw [r.length, show us.length - 1 - i = us.length - 1 - i from rfl, e1] at h2
    cases h2
    exact .inl ⟨h1, e2⟩
theorem iok_rev (h : EOK K D W O sl Cl te fe) : IOK K D W O sl (L2.iRev K (tCons te tNil)) (My.iRev fe) := fun A S H σ ρ s R c q =>
  h A S H σ ρ s _ c (q.bind fun x s1 v H1 e1 h1 r1 q1 => by
    cases x with
    | lst us =>
      cases r1 with
      | lst e r => exact ⟨_, _, rfl, .of (mask_some e).2, q1 _ _ (Ext.refl _ _) h1 (jok_rev e r)⟩
    | _ => exact q1.elim)
theorem fok_cat (ha : EOK K D W O sl Sn ta fa) (hb : EOK K D W O sl Sn tb fb) : FOK K D W O sl (tOp rCat ta tb) (e2 pCat fa fb) := fun A S Hs σ ρ s Q c q =>
  ha A S Hs σ ρ s _ c (q.bind fun x s1 v H1 e1 h1 r1 q1 => hb A S H1 σ ρ s1 _ (c.ext e1 h1) (q1.bind fun y s2 w H2 e2 h2 r2 q2 => by
    obtain ⟨z, hz, q3⟩ := q2.opt h2
    unfold pCat at hz
    split at hz
    · split at hz
      · rename_i hl
        cases hz
        obtain ⟨p, vs, rfl, hp, hv⟩ := (r1.ext e2 c.sub).lst
        obtain ⟨p', vs', rfl, hp', hv'⟩ := r2.lst
        refine ⟨p, p', vs, vs', rfl, rfl, hp, hp', by rw [hv.length, hv'.length]; exact lineB_le hl, fun z nz => q3 _ _ (Same.new nz) ⟨z, rfl, ?_, .inl ⟨_, _, rfl, upd_same, (hv.app hv').same fun b o m => ?_⟩⟩⟩
        · cases q : Hs z with
          | none => rfl
          | some x => exact absurd nz ((e1.trans e2).2 z (by rw [q]; exact fun z => nomatch z))
        · obtain ⟨n, m⟩ := mask_some m
          have ne : b ≠ z := fun k => by rw [k, nz] at m; cases m
          refine mask_of (fun k => ?_) (by rw [upd_ne ne]; exact m)
          rcases List.mem_cons.mp k with k | k
          · exact ne k
          · exact n k
      · cases hz
    · cases hz))
theorem fok_list (ha : AOK K D W O sl SnA tas fas) : FOK K D W O sl (tCB (fun xs H Q => ∃ p ys, xs = [.ref p] ∧ (SqL K H p ys ∨ SqT K H p ys) ∧ ∀ l, H l = none → Q (.ref l) (upd H l (.lst ys))) tas) (eN pList fas) := fun A S Hs σ ρ s Q c q =>
  ha A S Hs σ ρ s _ c (q.bind fun xs s1 vs H1 e1 h1 r1 q1 => by
    obtain ⟨z, hz, q3⟩ := q1.opt h1
    have key : ∀ (ws : List V) (us : List U), RepAll K D (mask H1 A) ws us → z = .lst us → ∀ l, H1 l = none → Q (.ref l) (upd H1 l (.lst ws)) := fun ws us hv ez l nl => q3 _ _ (Same.new nl) ⟨l, rfl, by
      cases q : Hs l with
      | none => rfl
      | some x => exact absurd nl (e1.2 l (by rw [q]; exact fun z => nomatch z)), .inl ⟨ws, us, ez, upd_same, hv.same fun b o m => by
        obtain ⟨n, m⟩ := mask_some m
        have ne : b ≠ l := fun k => by rw [k, nl] at m; cases m
        refine mask_of (fun k => ?_) (by rw [upd_ne ne]; exact m)
        rcases List.mem_cons.mp k with k | k
        · exact ne k
        · exact n k⟩⟩
    unfold pList at hz
    split at hz
    · cases hz
      obtain ⟨v, rfl, h⟩ := r1.one
      obtain ⟨p, ws, rfl, hp, hv⟩ := h.lst
      exact ⟨p, ws, rfl, .inl (.of hp), key _ _ hv rfl⟩
    · cases hz
      obtain ⟨v, rfl, h⟩ := r1.one
      obtain ⟨p, ws, rfl, hp, _, hv⟩ := h.tup
      exact ⟨p, ws, rfl, .inr hp, key _ _ hv rfl⟩
    · cases hz)
/-! messages -/
theorem eok_fmt (h : EOK K D W O sl Sn te fe) : EOK K D W O sl Cl (tFmt te) (eFmt fe) := fun A S H σ ρ s Q c q =>
  h A S H σ ρ s _ c (q.bind fun x s1 v H1 e1 h1 r1 q1 => by
    cases x with
    | str y =>
      obtain rfl := r1.str
      simp only at q1
      split at q1
      · rename_i hl
        exact .inl ⟨y, rfl, lineB_le hl, q1 _ _ (Ext.refl _ _) h1 (.str _)⟩
      · exact q1.elim
    | int i =>
      obtain rfl := r1.int
      simp only at q1
      split at q1
      · rename_i hl
        exact .inr ⟨i, rfl, of_decide_eq_true hl, q1 _ _ (Ext.refl _ _) h1 (.str _)⟩
      · exact q1.elim
    | _ => exact q1.elim)
def RepJ (K : PySem.W.Frag) (D : String → Addr) (W : WX) (O : List Nat) (sl : Option Nat) (ts : List TE) (fs : List EF) : Prop := ∀ acc A S H σ ρ s (Q : VK), Ctx K D O sl A S H σ ρ s → PostG D W S σ H (Cl K D A S) (joinL fs acc ρ s) Q → tJs ts acc σ H fun out H1 => Q (.str out) H1
theorem rj_nil : RepJ K D W O sl [] [] := fun acc A S H σ ρ s Q c q => q (.str acc) H (Ext.refl _ _) c.src (.str _)
theorem rj_cons {ts : List TE} {fs : List EF} (h : EOK K D W O sl Sn te fe) (hs : RepJ K D W O sl ts fs) : RepJ K D W O sl (te :: ts) (fe :: fs) := fun acc A S H σ ρ s Q c q =>
  h A S H σ ρ s _ c (PostG.bind (rep := Sn K D A S) q fun x s1 v H1 e1 h1 r1 q1 => by
    cases x with
    | str y =>
      obtain rfl := r1.str
      simp only at q1
      split at q1
      · rename_i hl
        exact ⟨y, rfl, lineB_le hl, hs (acc ++ y) A S H1 σ ρ s1 Q (c.ext e1 h1) q1⟩
      · exact q1.elim
    | _ => exact q1.elim)
theorem eok_join {ts : List TE} {fs : List EF} (h : RepJ K D W O sl ts fs) : EOK K D W O sl Cl (fun σ H Q => tJs ts Str.empty σ H fun out H1 => Q (.str out) H1) (joinL fs Str.empty) := fun A S H σ ρ s Q c q => h Str.empty A S H σ ρ s Q c q
end
/-! ### errors as values -/
structure KlsOK (K : PySem.W.Frag) (D : String → Addr) (kls : List String) : Prop where
  ex : ∀ c ∈ kls, ExcC K (D c)
  kit : ∀ c ∈ kls, ∀ d ∈ kls, PySem.W.kitOne K (.ref (D c)) (.ref (D d)) = some (isSub c d)
  kve : ∀ c ∈ kls, PySem.W.kitOne K (.ref (D c)) (.type "ValueError") = some true
  kno : ∀ c ∈ kls, PySem.W.kitOne K (.type "NoneType") (.ref (D c)) = some false
  exm : ∀ c ∈ kls, ∀ d ∈ kls, PySem.W.exmOne K (.ref (D c)) (.ref (D d)) = some (isSub c d)
abbrev rIsZ (K : PySem.W.Frag) : List V → Hp → VK → Prop := fun xs H Q => ∃ (a D : Addr) (c : V) (u : Value) (b : Bool), xs = [.ref a, c] ∧ ClsV c u ∧ ExcC K D ∧ H a = some (ExZ (.ref D) none a) ∧ PySem.W.kitOne K (.ref D) u = some b ∧ Q (.bl b) H
abbrev rInst (K : PySem.W.Frag) : List V → Hp → VK → Prop := fun xs H Q => rIsi K xs H Q ∨ rIsZ K xs H Q
section
variable {X : Cx} {K : PySem.W.Frag} {D : String → Addr}
theorem call_isiK (h : X.K = K := by rfl) : CallR X (.builtin "isinstance") (rIsi K) := by subst h; exact call_isi
theorem call_instK (h : X.K = K := by rfl) : CallR X (.builtin "isinstance") (rInst K) := by
  subst h
  intro pins s σ H xs us Q I r hq
  rcases hq with hq | hq
  · exact call_isi pins s σ H xs us Q I r hq
  · exact call_isZ pins s σ H xs us Q I r hq
theorem isi_own {kls : List String} {H : Hp} {v : V} {d : String} {Q : VK} (T : KlsOK K D kls) (hd : d ∈ kls) (e : v = .non) (q : Q (.bl false) H) : rIsi K [v, .ref (D d)] H Q := by
  subst e
  exact ⟨_, _, _, _, _, rfl, .own _, tyx_non, T.kno d hd, q⟩
theorem ok_inst {kls : List String} (T : KlsOK K D kls) : CbOK K D (rInst K) (pInst kls) := fun A S H xs as c Q d ha e q => by
  unfold pInst at e
  split at e
  · split at e
    · rename_i hl
      cases e
      simp only [Bool.and_eq_true, List.contains_iff_mem] at hl
      obtain ⟨v, w, rfl, h1, h2⟩ := ha.two
      have h1' := h1.full
      have h2' := h2.full
      cases h2'
      cases h1' with
      | exc _ hx => exact .inr ⟨_, _, _, _, _, rfl, .own _, T.ex _ hl.1, hx, T.kit _ hl.1 _ hl.2, q _ _ (Same.refl _) (.bl _)⟩
    · cases e
  · split at e
    · rename_i hl
      cases e
      simp only [List.contains_iff_mem] at hl
      obtain ⟨v, w, rfl, h1, h2⟩ := ha.two
      have h1' := h1.full
      have h2' := h2.full
      cases h2'
      cases h1'
      exact .inl (isi_own T hl rfl (q _ _ (Same.refl _) (.bl _)))
    · cases e
  · split at e
    · rename_i hl
      simp only [Bool.and_eq_true, List.contains_iff_mem, decide_eq_true_eq] at hl
      cases e
      obtain ⟨v, w, rfl, h1, h2⟩ := ha.two
      have h1' := h1.full
      have h2' := h2.full
      cases h2'
      cases h1' with
      | exc _ hx =>
        rw [hl.2]
        exact .inr ⟨_, _, _, _, _, rfl, .ty _, T.ex _ hl.1, hx, T.kve _ hl.1, q _ _ (Same.refl _) (.bl _)⟩
    · cases e
  · exact .inl (ok_isi (n := _) A S H xs _ c Q d ha e q)
  · cases e
end
section
variable {K : PySem.W.Frag} {D : String → Addr} {W : WX} {O O' OL : List Nat} {sl : Option Nat} {fb : SF}
theorem sok_try {i x : Nat} {kls : List String} {c : String} {tb : WX → TS} (hi : okS O sl i) (hx : okS O sl x) (hO : O = []) (T : KlsOK K D kls) (hc : c ∈ kls) (hb : ∀ W', SOK K D W' O O OL sl (tb W') fb) :
    SOK K D W O O OL sl (fun Dn σ H => tb (wKeep K (.ref (D c)) i (tAsg (tVar i) (gName x)) W Dn) Dn σ H) (sTry kls c i x fb) := sok_tryG hi hx hO (fun d hd => T.exm d hd c hc) hb
/-! ### the law -/
def sp_law (K : PySem.W.Frag) : Sp := fun vs H Q _ => ∃ (s : Addr) (ns : List Int), vs = [.ref s] ∧ SqL K H s (ns.map V.int) ∧ ns.length ≤ 63 ∧ ∀ H', Q (.bl true) H'
theorem law_start {H : Hp} {a : Addr} {ns : List Int} (hl : ns.length ≤ 63) (_ : Only H) (hS : SqL K H a (ns.map V.int)) : sp_law K [.ref a] H (fun v _ => v = .bl true) fun _ _ _ => False := ⟨a, ns, rfl, hS, hl, fun _ => rfl⟩
/-- a source as the law makes it of a script -/
def NewS (s : Sst) : Prop := s.turn = 0 ∧ 0 < s.cells.length ∧ s.cells.length ≤ 63 ∧ ∀ n ∈ s.cells, Bd n
def spSource (K : PySem.W.Frag) : Sp := fun vs H Q _ => ∃ (s : Addr) (ns : List Int), vs = [.ref s] ∧ SqL K H s (ns.map V.int) ∧ ns.length ≤ 63 ∧ ∀ a c H' s, Same H H' → SrcH [a, c] H' s → NewS s → Q (.ref a) H'
theorem law_run {N : List Str} {vs : List V} {H : Hp} {Q : VK} {m : Nat} {ts : TS} {fs : SF} {W : WX} (hN : N.length = 1 + m) (hs : SOK K D W [] O' [] (some 1) ts fs) (ht : ∀ s, NewS s → ∃ s', fs (List.replicate (m + 1) none) s = .rt (.bl true) s') (h : sp_law K vs H Q (fun _ _ _ => False)) (hm : 1 < m + 1) :
    tSeq (tAsg (tCallS (spSource K) (fun σ => WE W σ) (tCons (tVar 0) tNil)) (gName 1)) ts { nx := fun _ H' => Q .non H', rt := Q } (L2.start N vs) H := by
  obtain ⟨s0, ns, rfl, hS, hl, q⟩ := h
  refine ⟨.ref s0, rfl, s0, ns, rfl, hS, hl, fun a c H1 s sm src hs1 => ?_⟩
  obtain ⟨s', e⟩ := ht s hs1
  have src' : SrcH [a, c] H1 s := src
  rcases src with h0 | ⟨a', c', h1, h2, h3, h4⟩
  · cases h0
  · cases h1
    refine hs [a, c] [a, c] H1 H1 _ (List.replicate (m + 1) none) s _ ⟨[], fun i => Iff.rfl, List.nodup_nil, List.nodup_nil, fun p m => absurd m List.not_mem_nil, fun p m => absurd m List.not_mem_nil, ⟨fun _ z => z, fun b hb => ?_, ?_, fun i u g => ?_, src', ⟨a, c, rfl, ?_⟩⟩, Ext.refl _ _, fun _ z => z⟩ ?_
    · simp only [List.map_nil, List.nil_append, List.mem_cons, List.not_mem_nil, or_false] at hb
      rcases hb with rfl | rfl
      · rw [h3]; exact fun z => nomatch z
      · rw [h4]; exact fun z => nomatch z
    · simp only [L2.start, List.length_set, List.length_append, List.length_map, List.length_replicate, List.length_cons, List.length_nil]
      omega
    · rw [List.getElem?_replicate] at g
      split at g <;> cases g
    · rw [List.getElem?_set_self]
      simp only [L2.start, List.length_append, List.length_map, List.length_replicate, List.length_cons, List.length_nil]
      omega
    · rw [e]
      intro v H' x hs r
      cases r
      exact q H'
end
section
variable {K : PySem.W.Frag}
theorem cls_some {D : Addr} (hd : PySem.W.hasDictIn K D = true) (ht : PySem.W.typeIn K (.ref D) = some (.type "type")) : ((PySem.W.clsIn K D).isSome && PySem.W.typeIn K (.ref D) == some (.type "type")) = true := by
  obtain ⟨cd, hc, _⟩ := PySem.W.any_some hd
  rw [hc, ht] <;> rfl
theorem kit_own {C D : Addr} {b : Bool} (hs : PySem.W.subIn K (.ref C) (.ref C) = some true) (h : PySem.W.subIn K (.ref C) (.ref D) = some b) (hd : PySem.W.hasDictIn K D = true) (ht : PySem.W.typeIn K (.ref D) = some (.type "type")) : PySem.W.kitOne K (.ref C) (.ref D) = some b := by
  unfold PySem.W.kitOne
  by_cases e : C = D
  · subst e
    rw [hs] at h
    rw [if_pos (by simp)]
    exact h
  · rw [if_neg (fun z => e (by simpa using z))]
    show (if ((PySem.W.clsIn K D).isSome && PySem.W.typeIn K (.ref D) == some (.type "type")) = true then PySem.W.subIn K (.ref C) (.ref D) else none) = some b
    rw [if_pos (cls_some hd ht)]
    exact h
theorem kit_ve {C : Addr} (h : PySem.W.subIn K (.ref C) (.type "ValueError") = some true) : PySem.W.kitOne K (.ref C) (.type "ValueError") = some true := h
theorem kit_no {D : Addr} (hd : PySem.W.hasDictIn K D = true) (ht : PySem.W.typeIn K (.ref D) = some (.type "type")) : PySem.W.kitOne K (.type "NoneType") (.ref D) = some false := by
  unfold PySem.W.kitOne
  rw [if_neg (by simp)]
  show (if ((PySem.W.clsIn K D).isSome && PySem.W.typeIn K (.ref D) == some (.type "type")) = true then PySem.W.subIn K (.type "NoneType") (.ref D) else none) = some false
  rw [if_pos (cls_some hd ht)]
  rfl
end
end My

set_option linter.all false
set_option maxRecDepth 100000
namespace My
open PySem PySem.Spec PyProof.Rows L2
open C8 (pe_gc)
/-! min and max of two -/
section
variable {K : PySem.W.Frag} {D : String → Addr}
def pMin2 : List U → Option U
  | [.int i, .int j] => some (.int (if j < i then j else i))
  | _ => none
def pMax2 : List U → Option U
  | [.int i, .int j] => some (.int (if j > i then j else i))
  | _ => none
theorem ok_min2 : CbOK K D (fun xs H Q => ∃ i j, xs = [.int i, .int j] ∧ Q (.int (if j < i then j else i)) H) pMin2 := fun A S H xs as c Q d ha e q => by
  unfold pMin2 at e
  split at e
  · cases e
    obtain ⟨v, w, rfl, h1, h2⟩ := ha.two
    obtain rfl := h1.int
    obtain rfl := h2.int
    exact ⟨_, _, rfl, q _ _ (Same.refl _) (.int _)⟩
  · cases e
theorem ok_max2 : CbOK K D (fun xs H Q => ∃ i j, xs = [.int i, .int j] ∧ Q (.int (if j > i then j else i)) H) pMax2 := fun A S H xs as c Q d ha e q => by
  unfold pMax2 at e
  split at e
  · cases e
    obtain ⟨v, w, rfl, h1, h2⟩ := ha.two
    obtain rfl := h1.int
    obtain rfl := h2.int
    exact ⟨_, _, rfl, q _ _ (Same.refl _) (.int _)⟩
  · cases e
end
end My

set_option linter.all false
namespace My
/-! ### finite sums -/
def sumTo : Nat → (Nat → Int) → Int
  | 0, _ => 0
  | n + 1, f => sumTo n f + f n
theorem sumTo_ext {n : Nat} {f g : Nat → Int} (h : ∀ k, k < n → f k = g k) : sumTo n f = sumTo n g := by
  induction n with
  | zero => rfl
  | succ n ih => rw [sumTo, sumTo, ih fun k hk => h k (by omega), h n (by omega)]
theorem sumTo_add (n : Nat) (f g : Nat → Int) : sumTo n (fun k => f k + g k) = sumTo n f + sumTo n g := by
  induction n with
  | zero => rfl
  | succ n ih => simp only [sumTo, ih]; omega
theorem sumTo_mul (n : Nat) (c : Int) (f : Nat → Int) : sumTo n (fun k => c * f k) = c * sumTo n f := by
  induction n with
  | zero => simp [sumTo]
  | succ n ih => simp only [sumTo, ih, Int.mul_add]
theorem sumTo_const (n : Nat) (c : Int) : sumTo n (fun _ => c) = n * c := by
  induction n with
  | zero => simp [sumTo]
  | succ n ih => simp only [sumTo, ih]; rw [Int.natCast_add, Int.add_mul]; simp
theorem sumTo_zero (n : Nat) : sumTo n (fun _ => 0) = 0 := by rw [sumTo_const]; simp
theorem sumTo_comm (n m : Nat) (f : Nat → Nat → Int) : sumTo n (fun k => sumTo m fun j => f k j) = sumTo m fun j => sumTo n fun k => f k j := by
  induction n with
  | zero => simp only [sumTo]; rw [sumTo_zero]
  | succ n ih => simp only [sumTo]; rw [ih, ← sumTo_add]
/-- a sum over the first g of t -/
theorem sumTo_lt {t g : Nat} (h : g ≤ t) (w : Nat → Int) : sumTo t (fun j => if j < g then w j else 0) = sumTo g w := by
  induction t with
  | zero => have : g = 0 := by omega
            subst this; rfl
  | succ t ih =>
    by_cases e : g = t + 1
    · subst e
      exact sumTo_ext fun k hk => if_pos hk
    · rw [sumTo, ih (by omega), if_neg (by omega), Int.add_zero]
theorem sumTo_split {n h : Nat} (hh : h ≤ n) (w : Nat → Int) : sumTo n w = sumTo h w + sumTo n fun k => if h ≤ k then w k else 0 := by
  rw [← sumTo_lt hh w, ← sumTo_add]
  refine sumTo_ext fun k _ => ?_
  by_cases e : k < h
  · rw [if_pos e, if_neg (by omega)]; omega
  · rw [if_neg e, if_pos (by omega)]; omega
theorem sum_id (n : Nat) : 2 * sumTo n (fun k => (k : Int)) = n * (n - 1) := by
  induction n with
  | zero => rfl
  | succ n ih =>
    rw [sumTo, Int.mul_add, ih, Int.natCast_add]
    have : ((n : Int) + (1 : Nat)) * ((n : Int) + (1 : Nat) - 1) = n * (n - 1) + 2 * n := by
      simp only [Int.natCast_one, Int.add_sub_cancel, Int.add_mul, Int.mul_sub, Int.one_mul, Int.mul_one]; omega
    rw [this]
theorem sum_odd (n : Nat) : sumTo n (fun k => 2 * (k : Int) + 1) = n * n := by
  induction n with
  | zero => rfl
  | succ n ih =>
    rw [sumTo, ih, Int.natCast_add]
    simp only [Int.natCast_one, Int.add_mul, Int.mul_add, Int.one_mul, Int.mul_one]; omega
theorem sum_sq (n : Nat) : 6 * sumTo n (fun k => (k : Int) * k) = n * (n - 1) * (2 * n - 1) := by
  induction n with
  | zero => rfl
  | succ n ih =>
    rw [sumTo, Int.mul_add, ih, Int.natCast_add]
    grind
/-- quotients that rise from 0 to t, counted by where each one begins -/
theorem sum_turned {n t : Nat} {g h : Nat → Nat} (hg : ∀ k, k < n → g k ≤ t) (hh : ∀ j, j < t → h j + 1 ≤ n) (e : ∀ k j, k < n → j < t → (j < g k ↔ h j < k)) (u w : Nat → Int) :
    sumTo n (fun k => u k * sumTo (g k) w) = sumTo t fun j => w j * (sumTo n u - sumTo (h j + 1) u) := by
  have h1 : sumTo n (fun k => u k * sumTo (g k) w) = sumTo n fun k => sumTo t fun j => if j < g k then u k * w j else 0 := sumTo_ext fun k hk => by
    rw [← sumTo_lt (hg k hk) w, ← sumTo_mul]
    exact sumTo_ext fun j _ => by split <;> simp
  have h2 : sumTo n (fun k => sumTo t fun j => if j < g k then u k * w j else 0) = sumTo t fun j => sumTo n fun k => if h j + 1 ≤ k then u k * w j else 0 := by
    rw [sumTo_comm]
    refine sumTo_ext fun j hj => sumTo_ext fun k hk => ?_
    by_cases q : j < g k
    · rw [if_pos q, if_pos (show h j + 1 ≤ k from (e k j hk hj).mp q)]
    · rw [if_neg q, if_neg fun (z : h j + 1 ≤ k) => q ((e k j hk hj).mpr z)]
  rw [h1, h2]
  refine sumTo_ext fun j hj => ?_
  have h3 := sumTo_split (hh j hj) u
  have h4 : sumTo n (fun k => if h j + 1 ≤ k then u k * w j else 0) = w j * sumTo n fun k => if h j + 1 ≤ k then u k else 0 := by
    rw [← sumTo_mul]
    exact sumTo_ext fun k _ => by split <;> simp [Int.mul_comm]
  rw [h4, show sumTo n u - sumTo (h j + 1) u = sumTo n (fun k => if h j + 1 ≤ k then u k else 0) by omega]
/-- the quotient of the place k -/
def flo (a b m : Nat) (k : Nat) : Nat := (a * k + b) / m
def S0 (n a b m : Nat) : Int := sumTo n fun k => (flo a b m k : Int)
def S1 (n a b m : Nat) : Int := sumTo n fun k => (k : Int) * flo a b m k
def S2 (n a b m : Nat) : Int := sumTo n fun k => (flo a b m k : Int) * flo a b m k
/-- one turn, for remainders: a and b less than m; t is the last quotient -/
theorem turn_facts {n a b m : Nat} (hn : 0 < n) (ha : a < m) (hb : b < m) {t : Nat} (ht : t = (a * (n - 1) + b) / m) : (∀ k, k < n → flo a b m k ≤ t) ∧ (∀ j, j < t → flo m (m - b - 1) a j + 1 ≤ n) ∧
    ∀ k j, k < n → j < t → (j < flo a b m k ↔ flo m (m - b - 1) a j < k) := by
  have hm : 0 < m := by omega
  have key : ∀ k j, j < t → (j < flo a b m k ↔ flo m (m - b - 1) a j < k) := by
    intro k j hj
    have pa : 0 < a := by
      rcases Nat.eq_zero_or_pos a with e | e
      · subst e
        rw [Nat.zero_mul, Nat.zero_add, Nat.div_eq_of_lt hb] at ht
        omega
      · exact e
    unfold flo
    rw [Nat.lt_iff_add_one_le, Nat.le_div_iff_mul_le hm, Nat.div_lt_iff_lt_mul pa]
    rw [Nat.add_mul, Nat.mul_comm j m, Nat.mul_comm a k, Nat.one_mul]
    omega
  refine ⟨fun k hk => ?_, fun j hj => ?_, fun k j _ hj => key k j hj⟩
  · rw [ht]
    refine Nat.div_le_div_right (Nat.add_le_add_right (Nat.mul_le_mul_left a (by omega)) b)
  · have h := (key (n - 1) j hj).mp (by unfold flo; rw [← ht]; exact hj)
    omega
theorem turn_plain {n a b m : Nat} (hn : 0 < n) (ha : a < m) (hb : b < m) {t : Nat} (ht : t = (a * (n - 1) + b) / m) : S0 n a b m = (n - 1 : Int) * t - S0 t m (m - b - 1) a := by
  obtain ⟨h1, h2, h3⟩ := turn_facts hn ha hb ht
  have h := sum_turned h1 h2 h3 (fun _ => 1) (fun _ => 1)
  simp only [sumTo_const, Int.one_mul, Int.mul_one] at h
  unfold S0
  rw [h]
  have e : ∀ j, ((n : Int) - ((flo m (m - b - 1) a j + 1 : Nat) : Int)) = ((n : Int) - 1) + (-1) * (flo m (m - b - 1) a j : Int) := fun j => by omega
  rw [sumTo_ext fun j _ => e j, sumTo_add, sumTo_const, sumTo_mul, Int.mul_comm ((n : Int) - 1)]
  omega
theorem turn_place {n a b m : Nat} (hn : 0 < n) (ha : a < m) (hb : b < m) {t : Nat} (ht : t = (a * (n - 1) + b) / m) : 2 * S1 n a b m = (t : Int) * (n - 1) * n - S2 t m (m - b - 1) a - S0 t m (m - b - 1) a := by
  obtain ⟨h1, h2, h3⟩ := turn_facts hn ha hb ht
  have h := sum_turned h1 h2 h3 (fun k => 2 * (k : Int)) (fun _ => 1)
  simp only [sumTo_const, Int.one_mul, Int.mul_one, sumTo_mul] at h
  have e0 : 2 * S1 n a b m = sumTo n fun k => 2 * (k : Int) * (flo a b m k : Int) := by
    unfold S1
    rw [← sumTo_mul]
    exact sumTo_ext fun k _ => (Int.mul_assoc _ _ _).symm
  rw [e0, h, sum_id]
  have e : ∀ j, ((n : Int) * (n - 1) - 2 * sumTo (flo m (m - b - 1) a j + 1) (fun k => (k : Int))) = ((n : Int) * (n - 1)) + ((-1) * ((flo m (m - b - 1) a j : Int) * flo m (m - b - 1) a j) + (-1) * (flo m (m - b - 1) a j : Int)) := fun j => by
    rw [sum_id, Int.natCast_add]
    simp only [Int.natCast_one, Int.add_sub_cancel, Int.add_mul, Int.one_mul]
    omega
  rw [sumTo_ext fun j _ => e j, sumTo_add, sumTo_add, sumTo_const, sumTo_mul, sumTo_mul]
  unfold S2 S0
  grind
theorem turn_square {n a b m : Nat} (hn : 0 < n) (ha : a < m) (hb : b < m) {t : Nat} (ht : t = (a * (n - 1) + b) / m) : S2 n a b m = (n - 1 : Int) * t * t - 2 * S1 t m (m - b - 1) a - S0 t m (m - b - 1) a := by
  obtain ⟨h1, h2, h3⟩ := turn_facts hn ha hb ht
  have h := sum_turned h1 h2 h3 (fun _ => 1) (fun j => 2 * (j : Int) + 1)
  simp only [sum_odd, Int.one_mul, sumTo_const, Int.mul_one] at h
  unfold S2
  rw [h]
  have e : ∀ j : Nat, (2 * (j : Int) + 1) * ((n : Int) - ((flo m (m - b - 1) a j + 1 : Nat) : Int)) = ((n : Int) - 1) * (2 * (j : Int) + 1) + ((-2) * ((j : Int) * flo m (m - b - 1) a j) + (-1) * (flo m (m - b - 1) a j : Int)) := fun j => by
    rw [Int.natCast_add]
    generalize (flo m (m - b - 1) a j : Int) = f
    generalize (j : Int) = x
    generalize (n : Int) = y
    simp only [Int.natCast_one, Int.add_mul, Int.mul_sub, Int.sub_mul, Int.mul_add, Int.one_mul, Int.mul_one, Int.mul_assoc]
    rw [Int.mul_comm y (2 * x), Int.mul_assoc 2 x y]
    omega
  rw [sumTo_ext fun j _ => e j, sumTo_add, sumTo_add, sumTo_mul, sumTo_mul, sumTo_mul, sum_odd, ← Int.mul_assoc]
  unfold S1 S0
  omega
/-- from remainders to the numbers themselves -/
theorem flo_split {a b m k : Nat} (hm : 0 < m) : flo a b m k = a / m * k + b / m + flo (a % m) (b % m) m k := by
  unfold flo
  have e : a * k + b = a % m * k + b % m + m * (a / m * k + b / m) := by
    have h1 := Nat.mod_add_div a m
    have h2 := Nat.mod_add_div b m
    have h3 : a * k = a % m * k + m * (a / m) * k := by rw [← Nat.add_mul, h1]
    rw [h3, Nat.mul_add, ← Nat.mul_assoc]
    omega
  rw [e, Nat.add_mul_div_left _ _ hm]
  omega
theorem S0_split {n a b m : Nat} (hm : 0 < m) : S0 n a b m = (a / m : Nat) * sumTo n (fun k => (k : Int)) + (b / m : Nat) * n + S0 n (a % m) (b % m) m := by
  unfold S0
  rw [sumTo_ext fun k _ => show ((flo a b m k : Nat) : Int) = ((a / m : Nat) : Int) * (k : Int) + ((b / m : Nat) : Int) + (flo (a % m) (b % m) m k : Int) by rw [flo_split hm, Int.natCast_add, Int.natCast_add, Int.natCast_mul], sumTo_add, sumTo_add, sumTo_mul, sumTo_const, Int.mul_comm (n : Int)]
theorem S1_split {n a b m : Nat} (hm : 0 < m) : S1 n a b m = (a / m : Nat) * sumTo n (fun k => (k : Int) * k) + (b / m : Nat) * sumTo n (fun k => (k : Int)) + S1 n (a % m) (b % m) m := by
  unfold S1
  rw [sumTo_ext fun k _ => show (k : Int) * ((flo a b m k : Nat) : Int) = ((a / m : Nat) : Int) * ((k : Int) * k) + ((b / m : Nat) : Int) * (k : Int) + (k : Int) * (flo (a % m) (b % m) m k : Int) by
    rw [flo_split hm, Int.natCast_add, Int.natCast_add, Int.natCast_mul, Int.mul_add, Int.mul_add, Int.mul_left_comm, Int.mul_comm (k : Int) ((b / m : Nat) : Int)], sumTo_add, sumTo_add, sumTo_mul, sumTo_mul]
theorem S2_split {n a b m : Nat} (hm : 0 < m) : S2 n a b m = (a / m : Nat) * (a / m : Nat) * sumTo n (fun k => (k : Int) * k) + 2 * (a / m : Nat) * (b / m : Nat) * sumTo n (fun k => (k : Int)) + (b / m : Nat) * (b / m : Nat) * n + 2 * (b / m : Nat) * S0 n (a % m) (b % m) m +
    2 * (a / m : Nat) * S1 n (a % m) (b % m) m + S2 n (a % m) (b % m) m := by
  unfold S2 S1 S0
  rw [sumTo_ext fun k _ => show ((flo a b m k : Nat) : Int) * ((flo a b m k : Nat) : Int) = ((a / m : Nat) : Int) * (a / m : Nat) * ((k : Int) * k) + 2 * ((a / m : Nat) : Int) * (b / m : Nat) * (k : Int) + ((b / m : Nat) : Int) * (b / m : Nat) + 2 * ((b / m : Nat) : Int) * (flo (a % m) (b % m) m k : Int) +
      2 * ((a / m : Nat) : Int) * ((k : Int) * (flo (a % m) (b % m) m k : Int)) + (flo (a % m) (b % m) m k : Int) * (flo (a % m) (b % m) m k : Int) by
    rw [flo_split hm, Int.natCast_add, Int.natCast_add, Int.natCast_mul]
    generalize ((a / m : Nat) : Int) = x
    generalize ((b / m : Nat) : Int) = y
    generalize (flo (a % m) (b % m) m k : Int) = f
    generalize (k : Int) = z
    simp only [Int.add_mul, Int.mul_add]
    have e1 : x * z * (x * z) = x * x * (z * z) := by rw [Int.mul_assoc, Int.mul_left_comm z x z, ← Int.mul_assoc]
    have e2 : x * z * y = x * y * z := by rw [Int.mul_assoc, Int.mul_comm z y, ← Int.mul_assoc]
    have e3 : y * (x * z) = x * y * z := by rw [← Int.mul_assoc, Int.mul_comm y x]
    have e4 : f * (x * z) = x * (z * f) := by rw [Int.mul_comm f, Int.mul_assoc]
    have e5 : x * z * f = x * (z * f) := Int.mul_assoc _ _ _
    have e6 : f * y = y * f := Int.mul_comm _ _
    rw [e1, e2, e3, e4, e5, e6, Int.mul_assoc 2 x y, Int.mul_assoc 2 (x * y), Int.mul_assoc 2 y f, Int.mul_assoc 2 x (z * f)]
    omega, sumTo_add, sumTo_add, sumTo_add, sumTo_add, sumTo_add, sumTo_mul, sumTo_mul, sumTo_mul, sumTo_mul, sumTo_mul, sumTo_const, Int.mul_comm (n : Int)]
  grind
end My

set_option Elab.async false
set_option linter.all false
set_option maxRecDepth 100000
set_option maxHeartbeats 4000000
namespace My
open PySem PySem.Spec PyProof.Rows L2
open C8 (Cal pe_c pe_gc)
def f_is_integer : SF := (sRet (eAnd (eN (pIsiB "int") (aCons (eV 0) (aCons (eC (.ty "int")) aNil))) (eNot (eN (pIsiB "bool") (aCons (eV 0) (aCons (eC (.ty "bool")) aNil))))))
abbrev F_is_integer := runF f_is_integer 1 0
def f_sums_of_turn : SF := (sSeq (sAsg (gT (gsCons (gN 2) (gsCons (gN 3) (gsCons (gN 4) (gsCons (gN 5) gsNil))))) (eV 0)) (sSeq (sPar [6, 7] (aCons (e2 pDiv (eV 3) (eV 5)) (aCons (e2 pMod (eV 3) (eV 5)) aNil))) (sSeq (sPar [8, 9] (aCons (e2 pDiv (eV 4) (eV 5)) (aCons (e2 pMod (eV 4) (eV 5)) aNil))) (sSeq (sAsg (gN 10) (e2 pSub (eV 2) (eC (.int 1)))) (sSeq (sAsg (gN 11) (e2 pDiv (e2 pAdd (e2 pMul (eV 7) (eV 10)) (eV 9)) (eV 5))) (sSeq (sAsg (gN 12) (e2 pDiv (e2 pMul (eV 10) (eV 2)) (eC (.int 2)))) (sSeq (sAsg (gN 13) (e2 pDiv (e2 pMul (eV 12) (e2 pAdd (e2 pMul (eC (.int 2)) (eV 10)) (eC (.int 1)))) (eC (.int 3)))) (sSeq (sAsg (gN 14) (e2 pSub (e2 pMul (eV 10) (eV 11)) (e2 pIdx (eV 1) (eC (.int 0))))) (sSeq (sAsg (gN 15) (e2 pDiv (e2 pSub (e2 pSub (e2 pMul (e2 pMul (eV 11) (eV 10)) (eV 2)) (e2 pIdx (eV 1) (eC (.int 2)))) (e2 pIdx (eV 1) (eC (.int 0)))) (eC (.int 2)))) (sSeq (sAsg (gN 16) (e2 pSub (e2 pSub (e2 pSub (e2 pMul (e2 pMul (eV 10) (eV 11)) (e2 pAdd (eV 11) (eC (.int 1)))) (e2 pMul (eC (.int 2)) (e2 pIdx (eV 1) (eC (.int 1))))) (e2 pMul (eC (.int 2)) (e2 pIdx (eV 1) (eC (.int 0))))) (eV 14))) (sRet (eN pTup (aCons (e2 pAdd (e2 pAdd (e2 pMul (eV 6) (eV 12)) (e2 pMul (eV 8) (eV 2))) (eV 14)) (aCons (e2 pAdd (e2 pAdd (e2 pMul (eV 6) (eV 13)) (e2 pMul (eV 8) (eV 12))) (eV 15)) (aCons (e2 pAdd (e2 pAdd (e2 pAdd (e2 pAdd (e2 pAdd (e2 pMul (e2 pMul (eV 6) (eV 6)) (eV 13)) (e2 pMul (e2 pMul (e2 pMul (eC (.int 2)) (eV 6)) (eV 8)) (eV 12))) (e2 pMul (e2 pMul (eV 8) (eV 8)) (eV 2))) (e2 pMul (e2 pMul (eC (.int 2)) (eV 8)) (eV 14))) (e2 pMul (e2 pMul (eC (.int 2)) (eV 6)) (eV 15))) (eV 16)) aNil)))))))))))))))
abbrev F_sums_of_turn := runF f_sums_of_turn 2 15
def f_floor_sums : SF := (sSeq (sAsg (gN 4) (eN pLst aNil)) (sSeq (sWhile 1000000 (tV (e2 pGt (eV 0) (eC (.int 0)))) (sSeq (sApp 4 (eN pTup (aCons (eV 0) (aCons (eV 1) (aCons (eV 2) (aCons (eV 3) aNil)))))) (sSeq (sAsg (gN 5) (e2 pDiv (e2 pAdd (e2 pMul (e2 pMod (eV 1) (eV 3)) (e2 pSub (eV 0) (eC (.int 1)))) (e2 pMod (eV 2) (eV 3))) (eV 3))) (sAsg (gT (gsCons (gN 0) (gsCons (gN 1) (gsCons (gN 2) (gsCons (gN 3) gsNil))))) (eN pTup (aCons (eV 5) (aCons (eV 3) (aCons (e2 pSub (e2 pSub (eV 3) (e2 pMod (eV 2) (eV 3))) (eC (.int 1))) (aCons (e2 pMod (eV 1) (eV 3)) aNil))))))))) (sSeq (sAsg (gN 6) (eN pTup (aCons (eC (.int 0)) (aCons (eC (.int 0)) (aCons (eC (.int 0)) aNil))))) (sSeq (sFor (iRev (eN pList (aCons (eV 4) aNil))) (gN 7) (sAsg (gN 6) (eCall 2 F_sums_of_turn (aCons (eV 7) (aCons (eV 6) aNil))))) (sRet (eV 6))))))
abbrev F_floor_sums := runF f_floor_sums 4 4
def f_sums : SF := (sSeq (sFor (iSeq (eN pTup (aCons (eN pTup (aCons (eV 0) (aCons (eC (.int 0)) aNil))) (aCons (eN pTup (aCons (eV 1) (aCons (eC (.int 0)) aNil))) (aCons (eN pTup (aCons (eV 2) (aCons (eC (.int 0)) aNil))) (aCons (eN pTup (aCons (eV 3) (aCons (eC (.int 1)) aNil))) aNil)))))) (gT (gsCons (gN 4) (gsCons (gN 5) gsNil))) (sIf (tO (tN (tT (eCall 1 F_is_integer (aCons (eV 4) aNil)))) (tN (tV (eChain pLe pLe (eV 5) (eV 4) (eC (.int 10000000000000000000000000000000000000000)))))) (sRaise "InvalidNumber" (eC (.str (PySem.Str.ofString "the numbers are integers from 0, by from 1 on, of a limited size")))) sNil)) (sRet (eCall 4 F_floor_sums (aCons (eV 0) (aCons (eV 1) (aCons (eV 2) (aCons (eV 3) aNil)))))))
abbrev F_sums := runF f_sums 4 2
end My

set_option linter.all false
set_option maxRecDepth 100000
set_option maxHeartbeats 4000000
namespace My
open PySem PySem.Spec PyProof.Rows L2
/-! ### reckoning by the plain reading -/
def Bn (k : Nat) (x : Int) : Prop := x.natAbs < 2 ^ k
theorem Bn.mono {k l : Nat} {x : Int} (h : Bn k x) (e : k ≤ l) : Bn l x := Nat.lt_of_lt_of_le h (Nat.pow_le_pow_right (by decide) e)
theorem Bn.mul {k l : Nat} {x y : Int} (h : Bn k x) (g : Bn l y) : Bn (k + l) (x * y) := wide_lt h g
theorem Bn.add {k l : Nat} {x y : Int} (h : Bn k x) (g : Bn l y) : Bn (k + l + 1) (x + y) := by
  unfold Bn at *
  have h1 : x.natAbs < 2 ^ (k + l) := Nat.lt_of_lt_of_le h (Nat.pow_le_pow_right (by decide) (by omega))
  have h2 : y.natAbs < 2 ^ (k + l) := Nat.lt_of_lt_of_le g (Nat.pow_le_pow_right (by decide) (by omega))
  rw [Nat.pow_succ]
  have := Int.natAbs_add_le x y
  omega
theorem Bn.neg {k : Nat} {x : Int} (h : Bn k x) : Bn k (-x) := by
  unfold Bn
  rw [Int.natAbs_neg]
  exact h
theorem Bn.sub {k l : Nat} {x y : Int} (h : Bn k x) (g : Bn l y) : Bn (k + l + 1) (x - y) := by
  rw [Int.sub_eq_add_neg]
  exact h.add g.neg
theorem Bn.div {k : Nat} {x y : Int} (h : Bn k x) : Bn k (x / y) := Nat.lt_of_le_of_lt (Int.natAbs_ediv_le_natAbs _ _) h
theorem Bn.mod {k : Nat} {x y : Int} (h : Bn k y) (hy : 0 < y) : Bn k (x % y) := by
  unfold Bn at *
  have h1 := Int.emod_nonneg x (show y ≠ 0 by omega)
  have h2 := Int.emod_lt_of_pos x hy
  omega
theorem Bn.le {k : Nat} {x y : Int} (h0 : 0 ≤ x) (h1 : x ≤ y) (h : Bn k y) : Bn k x := by
  unfold Bn at *
  omega
theorem Bn.of {k : Nat} {x : Int} (h0 : 0 ≤ x) (h1 : x < 2 ^ k) : Bn k x := by
  unfold Bn
  have h2 : ((x.natAbs : Nat) : Int) = x := by omega
  have h3 : ((2 ^ k : Nat) : Int) = (2 : Int) ^ k := by simp
  omega
theorem Bn.lit {x : Int} (h : Nat.ble (x.natAbs + 1) 1606938044258990275541962092341162602522202993782792835301376 = true) : Bn 200 x := Nat.lt_of_lt_of_le (Nat.le_of_ble_eq_true h) (by decide)
theorem bn0 : Bn 1 0 := by unfold Bn; decide
theorem bn1 : Bn 1 1 := by unfold Bn; decide
theorem bn2 : Bn 2 2 := by unfold Bn; decide
theorem bn3 : Bn 2 3 := by unfold Bn; decide
theorem bn10 : Bn 4 10 := by unfold Bn; decide
theorem sm_bn {k : Nat} {x : Int} (h : Bn k x) (e : k ≤ 20000) : smB x = true := decide_eq_true (h.mono e)
theorem bd_bn {k : Nat} {x : Int} (h : Bn k x) (e : k ≤ 9000) : bdB x = true := decide_eq_true (h.mono e)
theorem pMul_int {i j : Int} (h1 : smB i = true) (h2 : smB j = true) : pMul (.int i) (.int j) = some (.int (i * j)) := by
  show (if smB i && smB j then some (U.int (i * j)) else none) = _
  rw [h1, h2]
  rfl
theorem pDiv_int {i j : Int} (h1 : 0 < j) (h2 : bdB j = true) : pDiv (.int i) (.int j) = some (.int (i / j)) := by
  show (if decide (0 < j) && bdB j then some (U.int (i / j)) else none) = _
  rw [h2, decide_eq_true h1]
  rfl
theorem pMod_int {i j : Int} (h1 : 0 < j) : pMod (.int i) (.int j) = some (.int (i % j)) := by
  show (if decide (0 < j) then some (U.int (i % j)) else none) = _
  rw [decide_eq_true h1]
  rfl
theorem pAdd_int {i j : Int} : pAdd (.int i) (.int j) = some (.int (i + j)) := rfl
theorem pAdd'_int {i j : Int} : pAdd' (.int i) (.int j) = some (.int (i + j)) := rfl
theorem pSub_int {i j : Int} : pSub (.int i) (.int j) = some (.int (i - j)) := rfl
theorem pLt_int {i j : Int} : pLt (.int i) (.int j) = some (.bl (decide (i < j))) := rfl
theorem pLe_int {i j : Int} : pLe (.int i) (.int j) = some (.bl (decide (i ≤ j))) := rfl
theorem pGt_int {i j : Int} : pGt (.int i) (.int j) = some (.bl (decide (j < i))) := rfl
theorem pGe_int {i j : Int} : pGe (.int i) (.int j) = some (.bl (decide (j ≤ i))) := rfl
theorem pNeg_int {i : Int} : pNeg (.int i) = some (.int (-i)) := rfl
theorem pEq_int {i j : Int} : pEq (.int i) (.int j) = some (.bl (decide (i = j))) := by
  show some (U.bl (i == j)) = _
  rw [Bool.beq_eq_decide_eq]
theorem pNe_int {i j : Int} : pNe (.int i) (.int j) = some (.bl (!decide (i = j))) := by
  show some (U.bl (!(i == j))) = _
  rw [Bool.beq_eq_decide_eq]
section
variable {ρ ρ1 ρ2 : Rho} {s s1 s2 s3 : Sst} {u x y z : U} {a b c : EF} {as : AF} {us : List U} {t t' : TF} {k : Bool}
theorem ev_c : eC u ρ s = .ok u s := rfl
theorem ev_v {i : Nat} (h : ρ[i]? = some (some u)) : eV i ρ s = .ok u s := by unfold eV; rw [h]
theorem ev_1 {f : U → Option U} (h : a ρ s = .ok x s1) (e : f x = some z) : My.e1 f a ρ s = .ok z s1 := by unfold My.e1; rw [h]; show opt (f x) s1 = _; rw [e]; rfl
theorem ev_2 {f : U → U → Option U} (h : a ρ s = .ok x s1) (g : b ρ s1 = .ok y s2) (e : f x y = some z) : e2 f a b ρ s = .ok z s2 := by
  unfold e2; rw [h]; show (b ρ s1).bind _ = _; rw [g]; show opt (f x y) s2 = _; rw [e]; rfl
theorem ev_n {f : List U → Option U} (h : as ρ s = .ok us s1) (e : f us = some z) : eN f as ρ s = .ok z s1 := by unfold eN; rw [h]; show opt (f us) s1 = _; rw [e]; rfl
theorem av_nil : aNil ρ s = .ok [] s := rfl
theorem av_cons (h : a ρ s = .ok x s1) (g : as ρ s1 = .ok us s2) : aCons a as ρ s = .ok (x :: us) s2 := by unfold aCons; rw [h]; show (as ρ s1).bind _ = _; rw [g]; rfl
theorem ev_call {n : Nat} {F : List U → R0} (h : as ρ s = .ok us s1) (hn : us.length = n) (e : F us = .ok u) : eCall n F as ρ s = .ok u s1 := by
  unfold eCall; rw [h]; show (if us.length = n then (F us).lift s1 else .stuck) = _; rw [if_pos hn, e]; rfl
theorem ev_callE {n : Nat} {F : List U → R0} {d : String} (h : as ρ s = .ok us s1) (hn : us.length = n) (e : F us = .err d) : eCall n F as ρ s = .err d s1 := by
  unfold eCall; rw [h]; show (if us.length = n then (F us).lift s1 else .stuck) = _; rw [if_pos hn, e]; rfl
theorem ev_callS {n : Nat} {F : Sst → List U → R U} (h : as ρ s = .ok us s1) (hn : us.length = n) (e : F s1 us = .ok u s2) : eCallS n F as ρ s = .ok u s2 := by
  unfold eCallS; rw [h]; show (if us.length = n then F s1 us else .stuck) = _; rw [if_pos hn, e]
theorem ev_andT (h : a ρ s = .ok (.bl true) s1) (g : b ρ s1 = .ok u s2) : eAnd a b ρ s = .ok u s2 := by unfold eAnd; rw [h]; exact g
theorem ev_andF (h : a ρ s = .ok (.bl false) s1) : eAnd a b ρ s = .ok (.bl false) s1 := by unfold eAnd; rw [h]; rfl
theorem ev_and (h : a ρ s = .ok (.bl k) s1) (g : k = true → b ρ s1 = .ok (.bl k') s1) : eAnd a b ρ s = .ok (.bl (k && k')) s1 := by
  cases k with
  | true => rw [Bool.true_and]; exact ev_andT h (g rfl)
  | false => exact ev_andF h
theorem ev_or (h : a ρ s = .ok (.bl k) s1) (g : k = false → b ρ s1 = .ok (.bl k') s1) : eOr a b ρ s = .ok (.bl (k || k')) s1 := by
  cases k with
  | true => unfold eOr; rw [h]; rfl
  | false => unfold eOr; rw [h]; exact g rfl
theorem ev_not (h : a ρ s = .ok (.bl k) s1) : eNot a ρ s = .ok (.bl (!k)) s1 := by unfold eNot; rw [h]; rfl
theorem ev_chain {f f' : U → U → Option U} (h : a ρ s = .ok x s1) (g : b ρ s1 = .ok y s2) (e : f x y = some (.bl k)) (g' : k = true → ∃ z, c ρ s2 = .ok z s2 ∧ f' y z = some (.bl k')) : eChain f f' a b c ρ s = .ok (.bl (k && k')) s2 := by
  unfold eChain; rw [h]; show (b ρ s1).bind _ = _; rw [g]; show (opt (f x y) s2).bind _ = _; rw [e]
  cases k with
  | true =>
    obtain ⟨z, h1, h2⟩ := g' rfl
    show (c ρ s2).bind _ = _
    rw [h1]
    show opt (f' y z) s2 = _
    rw [h2]
    rfl
  | false => rfl
theorem tv_v (h : a ρ s = .ok (.bl k) s1) : tV a ρ s = .ok k s1 := by unfold tV; rw [h]; rfl
theorem tv_t (h : a ρ s = .ok u s1) (e : truU u = some k) : tT a ρ s = .ok k s1 := by unfold tT; rw [h]; show opt (truU u) s1 = _; rw [e]; rfl
theorem tv_n (h : t ρ s = .ok k s1) : tN t ρ s = .ok (!k) s1 := by unfold tN; rw [h]; rfl
theorem tv_and (h : t ρ s = .ok k s1) (g : k = true → t' ρ s1 = .ok k' s1) : tA t t' ρ s = .ok (k && k') s1 := by
  unfold tA; rw [h]
  cases k with
  | true => exact g rfl
  | false => rfl
theorem tv_or (h : t ρ s = .ok k s1) (g : k = false → t' ρ s1 = .ok k' s1) : tO t t' ρ s = .ok (k || k') s1 := by
  unfold tO; rw [h]
  cases k with
  | true => rfl
  | false => exact g rfl
theorem tv_y : tY ρ s = .ok true s := rfl
/-! statements -/
variable {A B : SF} {r : RS} {g : PF}
theorem sv_seq (h : A ρ s = .nx ρ1 s1) (e : B ρ1 s1 = r) : sSeq A B ρ s = r := by unfold sSeq; rw [h]; exact e
theorem sv_seqR (h : A ρ s = .rt u s1) : sSeq A B ρ s = .rt u s1 := by unfold sSeq; rw [h]
theorem sv_seqE {d : String} (h : A ρ s = .er d ρ1 s1) : sSeq A B ρ s = .er d ρ1 s1 := by unfold sSeq; rw [h]
theorem sv_asg (h : a ρ s = .ok u s1) (e : g u ρ = some ρ1) : sAsg g a ρ s = .nx ρ1 s1 := by unfold sAsg; rw [h]; show (match g u ρ with | some ρ => RS.nx ρ s1 | none => .stuck) = _; rw [e]
theorem sv_set {i : Nat} (h : a ρ s = .ok u s1) : sAsg (gN i) a ρ s = .nx (ρ.set i (some u)) s1 := sv_asg h rfl
theorem sv_par {is : List Nat} (h : as ρ s = .ok us s1) (hn : us.length = is.length) (e : (is.zip us).foldl (fun ρ p => ρ.set p.1 (some p.2)) ρ = ρ1) : sPar is as ρ s = .nx ρ1 s1 := by
  unfold sPar; rw [h]; show (if us.length = is.length then RS.nx _ s1 else .stuck) = _; rw [if_pos hn, e]
theorem sv_par2 {i j : Nat} {w : U} (h : as ρ s = .ok [u, w] s1) : sPar [i, j] as ρ s = .nx ((ρ.set i (some u)).set j (some w)) s1 := sv_par h rfl rfl
theorem sv_par3 {i j l : Nat} {w v : U} (h : as ρ s = .ok [u, w, v] s1) : sPar [i, j, l] as ρ s = .nx (((ρ.set i (some u)).set j (some w)).set l (some v)) s1 := sv_par h rfl rfl
theorem sv_ret (h : a ρ s = .ok u s1) : sRet a ρ s = .rt u s1 := by unfold sRet; rw [h]; rfl
theorem sv_drop (h : a ρ s = .ok u s1) : sDrop a ρ s = .nx ρ s1 := by unfold sDrop; rw [h]; rfl
theorem sv_dropE {d : String} (h : a ρ s = .err d s1) : sDrop a ρ s = .er d ρ s1 := by unfold sDrop; rw [h]; rfl
theorem sv_if (h : t ρ s = .ok k s1) (h1 : k = true → A ρ s1 = r) (h2 : k = false → B ρ s1 = r) : sIf t A B ρ s = r := by
  unfold sIf; rw [h]
  cases k with
  | true => exact h1 rfl
  | false => exact h2 rfl
theorem sv_ifT (h : t ρ s = .ok true s1) (h1 : A ρ s1 = r) : sIf t A B ρ s = r := by unfold sIf; rw [h]; exact h1
theorem sv_ifF (h : t ρ s = .ok false s1) (h1 : B ρ s1 = r) : sIf t A B ρ s = r := by unfold sIf; rw [h]; exact h1
theorem sv_nil : sNil ρ s = .nx ρ s := rfl
theorem sv_raise {d : String} (h : a ρ s = .ok u s1) : sRaise d a ρ s = .er d ρ s1 := by unfold sRaise; rw [h]; rfl
theorem sv_app {i : Nat} (e : ρ[i]? = some (some (.lst us))) (h : a ρ s = .ok u s1) (hl : lineB (us.length + 1) = true) : sApp i a ρ s = .nx (ρ.set i (some (.lst (us ++ [u])))) s1 := by
  unfold sApp; rw [e]; show ((a ρ s).stm ρ _) = _; rw [h]; show (if lineB (us.length + 1) = true then RS.nx _ s1 else .stuck) = _; rw [if_pos hl]
theorem sv_for (h : as ρ s = .ok us s1) (e : loopF g A us ρ s1 = r) : sFor as g A ρ s = r := by unfold sFor; rw [h]; exact e
theorem iv_seq (h : a ρ s = .ok u s1) (e : u.seq? = some us) : iSeq a ρ s = .ok us s1 := by unfold iSeq; rw [h]; show opt u.seq? s1 = _; rw [e]; rfl
theorem iv_rng {p : List U → Option (List U)} {ws : List U} (h : as ρ s = .ok us s1) (e : p us = some ws) : iRng p as ρ s = .ok ws s1 := by unfold iRng; rw [h]; show opt (p us) s1 = _; rw [e]; rfl
theorem iv_rev (h : a ρ s = .ok (.lst us) s1) : My.iRev a ρ s = .ok us.reverse s1 := by unfold My.iRev; rw [h]; rfl
theorem lv_nil : loopF g A [] ρ s = .nx ρ s := rfl
theorem lv_cons (e : g u ρ = some ρ1) (h : A ρ1 s = .nx ρ2 s1) (k : loopF g A us ρ2 s1 = r) : loopF g A (u :: us) ρ s = r := by unfold loopF; rw [e]; show (match A ρ1 s with | .nx ρ s => _ | .ct ρ s => _ | .bk ρ s => _ | o => o) = _; rw [h]; exact k
theorem lv_ret {v : U} (e : g u ρ = some ρ1) (h : A ρ1 s = .rt v s1) : loopF g A (u :: us) ρ s = .rt v s1 := by unfold loopF; rw [e]; show (match A ρ1 s with | .nx ρ s => _ | .ct ρ s => _ | .bk ρ s => _ | o => o) = _; rw [h]
theorem lv_er {d : String} (e : g u ρ = some ρ1) (h : A ρ1 s = .er d ρ2 s1) : loopF g A (u :: us) ρ s = .er d ρ2 s1 := by unfold loopF; rw [e]; show (match A ρ1 s with | .nx ρ s => _ | .ct ρ s => _ | .bk ρ s => _ | o => o) = _; rw [h]
theorem wv_stop {n : Nat} (h : t ρ s = .ok false s1) : loopW t A (n + 1) ρ s = .nx ρ s1 := by unfold loopW; rw [h]; rfl
theorem wv_go {n : Nat} (h : t ρ s = .ok true s1) (e : A ρ s1 = .nx ρ1 s2) (q : loopW t A n ρ1 s2 = r) : loopW t A (n + 1) ρ s = r := by unfold loopW; rw [h]; show (match A ρ s1 with | .nx ρ s => _ | .ct ρ s => _ | .bk ρ s => _ | o => o) = _; rw [e]; exact q
theorem fv_ret {n m : Nat} (hn : us.length = n) (h : A (startR us m) dSst = .rt u s1) : runF A n m us = .ok u := by unfold runF; rw [if_pos hn, h]
theorem fv_nx {n m : Nat} (hn : us.length = n) (h : A (startR us m) dSst = .nx ρ1 s1) : runF A n m us = .ok .non := by unfold runF; rw [if_pos hn, h]
theorem fv_er {n m : Nat} {d : String} (hn : us.length = n) (h : A (startR us m) dSst = .er d ρ1 s1) : runF A n m us = .err d := by unfold runF; rw [if_pos hn, h]
theorem gv_t {us : List U} {gs : List U → Rho → Option Rho} (h : gs us ρ = some ρ1) : gT gs (.tup us) ρ = some ρ1 := h
theorem gv_cons {gs : List U → Rho → Option Rho} (h : g u ρ = some ρ1) (h2 : gs us ρ1 = some ρ2) : gsCons g gs (u :: us) ρ = some ρ2 := by show (g u ρ).bind _ = _; rw [h]; exact h2
end
local macro_rules | `(tactic| walk_at "bn") => `(tactic| repeat (first | (with_reducible assumption) | (with_reducible apply Bn.mul) | (with_reducible apply Bn.add) | (with_reducible apply Bn.sub) | (with_reducible apply Bn.div) | (with_reducible apply Bn.mod) | (with_reducible apply bn2) | (with_reducible apply bn1) | (with_reducible apply bn3) | (with_reducible apply bn0) | (with_reducible apply bn10) | exact Bn.lit rfl))
local macro_rules | `(tactic| walk_at "sm") => `(tactic| first | (with_reducible assumption) | ((with_reducible apply sm_bn); (focus walk_at "bn"); decide) | ((with_reducible apply bd_bn); (focus walk_at "bn"); decide) | omega)
local macro_rules | `(tactic| walk_at "pp") => `(tactic| first | (with_reducible apply pAdd_int) | (with_reducible apply pSub_int) | (with_reducible apply pLt_int) | (with_reducible apply pLe_int) | (with_reducible apply pGt_int) | (with_reducible apply pGe_int) | (with_reducible apply pNeg_int) | (with_reducible apply pAdd'_int) | (with_reducible apply pEq_int) | (with_reducible apply pNe_int) | ((with_reducible apply pMul_int) <;> walk_at "sm") | ((with_reducible apply pDiv_int) <;> walk_at "sm") | ((with_reducible apply pMod_int) <;> walk_at "sm") | exact rfl)
local macro_rules | `(tactic| walk_at "ev") => `(tactic| first | (with_reducible apply ev_c) | ((with_reducible apply ev_v); exact rfl) | (with_reducible apply av_nil) | (with_reducible apply tv_y) | ((with_reducible apply ev_2); (focus walk_at "ev"); (focus walk_at "ev"); (focus walk_at "pp")) | ((with_reducible apply ev_n); (focus walk_at "ev"); (focus walk_at "pp")) | ((with_reducible apply av_cons); (focus walk_at "ev"); (focus walk_at "ev")) | ((with_reducible apply ev_1); (focus walk_at "ev"); (focus walk_at "pp")) | ((with_reducible apply tv_v); (focus walk_at "ev")) | ((with_reducible apply ev_not); (focus walk_at "ev")) | ((with_reducible apply tv_n); (focus walk_at "ev")) | ((with_reducible apply iv_seq); (focus walk_at "ev"); exact rfl) | ((with_reducible apply iv_rng); (focus walk_at "ev"); exact rfl) | ((with_reducible apply iv_rev); (focus walk_at "ev")))
local macro_rules | `(tactic| walk_at "sv") => `(tactic| first | ((with_reducible apply sv_set); (focus walk_at "ev")) | ((with_reducible apply sv_asg); (focus walk_at "ev"); exact rfl) | ((with_reducible apply sv_par2); (focus walk_at "ev")) | ((with_reducible apply sv_par3); (focus walk_at "ev")) | ((with_reducible apply sv_ret); (focus walk_at "ev")) | ((with_reducible apply sv_drop); (focus walk_at "ev")) | (with_reducible apply sv_nil))
local macro_rules | `(tactic| walk_at "ls") => `(tactic| try simp only [startR, List.map_cons, List.map_nil, List.replicate, List.cons_append, List.nil_append, List.set_cons_zero, List.set_cons_succ])
local macro_rules | `(tactic| walk_at "go") => `(tactic| repeat ((with_reducible apply sv_seq); (focus walk_at "sv"); walk_at "ls"))
local macro_rules | `(tactic| walk_at "s1") => `(tactic| ((with_reducible apply sv_seq); (focus walk_at "sv"); walk_at "ls"))
theorem sums_of_turn_eq {n a b m i0 i1 i2 ti re mo le la to fi sq pl bp sd : Int} (hm : 0 < m) (b1 : Bn 400 n) (b2 : Bn 400 a) (b3 : Bn 400 b) (b4 : Bn 400 m) (b5 : Bn 2400 i0) (b6 : Bn 2400 i1) (b7 : Bn 2400 i2)
    (e1 : a / m = ti) (e2 : a % m = re) (e3 : b / m = mo) (e4 : b % m = le) (e5 : n - 1 = la) (e6 : (re * la + le) / m = to) (e7 : la * n / 2 = fi) (e8 : fi * (2 * la + 1) / 3 = sq) (e9 : la * to - i0 = pl) (e10 : (to * la * n - i2 - i0) / 2 = bp)
    (e11 : la * to * (to + 1) - 2 * i1 - 2 * i0 - pl = sd) (hto : Bn 400 to) (hla : Bn 400 la) :
    F_sums_of_turn [.tup [.int n, .int a, .int b, .int m], .tup [.int i0, .int i1, .int i2]] = .ok (.tup [.int (ti * fi + mo * n + pl), .int (ti * sq + mo * fi + bp), .int (ti * ti * sq + 2 * ti * mo * fi + mo * mo * n + 2 * mo * pl + 2 * ti * bp + sd)]) := by
  have c1 : Bn 400 ti := by rw [← e1]; exact b2.div
  have c2 : Bn 400 re := by rw [← e2]; exact b4.mod hm
  have c3 : Bn 400 mo := by rw [← e3]; exact b3.div
  have c4 : Bn 400 le := by rw [← e4]; exact b4.mod hm
  have c5 : Bn 800 fi := by rw [← e7]; exact (hla.mul b1).div
  have c6 : Bn 1610 sq := by rw [← e8]; exact ((c5.mul ((bn2.mul hla).add bn1)).div).mono (by decide)
  have c7 : Bn 3500 pl := by rw [← e9]; exact ((hla.mul hto).sub b5).mono (by decide)
  have c8 : Bn 7000 bp := by rw [← e10]; exact (((((hto.mul hla).mul b1).sub b7).sub b5).div).mono (by decide)
  have c9 : Bn 12000 sd := by rw [← e11]; exact ((((((hla.mul hto).mul (hto.add bn1)).sub (bn2.mul b6)).sub (bn2.mul b5)).sub c7)).mono (by decide)
  apply fv_ret (s1 := dSst) rfl
  walk_at "ls"
  unfold f_sums_of_turn
  walk_at "s1"
  walk_at "s1"; rw [e1, e2]
  walk_at "s1"; rw [e3, e4]
  walk_at "s1"; rw [e5]
  walk_at "s1"; rw [e6]
  walk_at "s1"; rw [e7]
  walk_at "s1"; rw [e8]
  walk_at "s1"; rw [e9]
  walk_at "s1"; rw [e10]
  walk_at "s1"; rw [e11]
  walk_at "sv"
/-! ### sums of quotients by the program's turns -/
def nextT (n a b m : Nat) : Nat := (a % m * (n - 1) + b % m) / m
theorem sumTo_bd {n : Nat} {f : Nat → Int} {B : Int} (h : ∀ k, k < n → 0 ≤ f k ∧ f k ≤ B) : 0 ≤ sumTo n f ∧ sumTo n f ≤ n * B := by
  induction n with
  | zero => simp [sumTo]
  | succ n ih =>
    have h1 := ih fun k hk => h k (by omega)
    have h2 := h n (by omega)
    rw [sumTo, Int.natCast_add, Int.add_mul]
    simp only [Int.natCast_one, Int.one_mul]
    omega
theorem flo_bd {n a b m k : Nat} (hk : k < n) : flo a b m k ≤ a * n + b := by
  unfold flo
  exact Nat.le_trans (Nat.div_le_self _ _) (Nat.add_le_add_right (Nat.mul_le_mul_left a (by omega)) b)
theorem nat_lt_pow {x k : Nat} : Bn k (x : Int) ↔ x < 2 ^ k := by unfold Bn; simp
theorem S_bd {n a b m : Nat} (h1 : n < 2 ^ 400) (h2 : a < 2 ^ 400) (h3 : b < 2 ^ 400) : Bn 2400 (S0 n a b m) ∧ Bn 2400 (S1 n a b m) ∧ Bn 2400 (S2 n a b m) := by
  have hF : Bn 1201 (((a * n + b : Nat) : Int)) := by
    rw [Int.natCast_add, Int.natCast_mul]
    exact ((nat_lt_pow.mpr h2).mul (nat_lt_pow.mpr h1)).add (nat_lt_pow.mpr h3)
  have hf : ∀ k, k < n → (0 : Int) ≤ (flo a b m k : Int) ∧ (flo a b m k : Int) ≤ ((a * n + b : Nat) : Int) := fun k hk => ⟨by omega, by have := flo_bd (m := m) (b := b) (a := a) hk; omega⟩
  have b1 := sumTo_bd hf
  have b2 := sumTo_bd (n := n) (f := fun k => (k : Int) * flo a b m k) (B := n * ((a * n + b : Nat) : Int)) fun k hk => ⟨Int.mul_nonneg (by omega) (by omega), Int.mul_le_mul (by omega) (hf k hk).2 (hf k hk).1 (by omega)⟩
  have b3 := sumTo_bd (n := n) (f := fun k => (flo a b m k : Int) * flo a b m k) (B := ((a * n + b : Nat) : Int) * ((a * n + b : Nat) : Int)) fun k hk => ⟨Int.mul_nonneg (by omega) (by omega), Int.mul_le_mul (hf k hk).2 (hf k hk).2 (hf k hk).1 (by omega)⟩
  have hn := nat_lt_pow.mpr h1
  have q1 : Bn 801 (((a * n + b : Nat) : Int)) := by
    have e1 : a * n + b < 2 ^ 801 := by
      have : a * n < 2 ^ 400 * 2 ^ 400 := Nat.mul_lt_mul'' h2 h1
      rw [← Nat.pow_add] at this
      have p : 2 ^ 801 = 2 ^ 800 + 2 ^ 800 := by rw [Nat.pow_succ]; omega
      have p2 : (2 : Nat) ^ 400 ≤ 2 ^ 800 := Nat.pow_le_pow_right (by decide) (by decide)
      omega
    exact nat_lt_pow.mpr e1
  refine ⟨(Bn.le b1.1 b1.2 (hn.mul q1)).mono (by decide), (Bn.le b2.1 b2.2 (hn.mul (hn.mul q1))).mono (by decide), (Bn.le b3.1 b3.2 (hn.mul (q1.mul q1))).mono (by decide)⟩
theorem half_exact {x y : Int} (h : 2 * x = y) : y / 2 = x := by omega
theorem third_exact {x y : Int} (h : 3 * x = y) : y / 3 = x := by omega
theorem third_id {x y z : Int} (ss : 6 * y = z * (z - 1) * (2 * z - 1)) (si : 2 * x = z * (z - 1)) : 3 * y = x * (2 * (z - 1) + 1) := by
  have h : 2 * (3 * y) = 2 * (x * (2 * (z - 1) + 1)) := by
    rw [← si] at ss
    grind
  omega
theorem sq_id {l t i0 i1 : Int} : l * t * (t + 1) - 2 * i1 - 2 * i0 - (l * t - i0) = l * t * t - 2 * i1 - i0 := by grind
/-- what one turn of the program reckons -/
theorem turn_right {n a b m : Nat} (hn : 0 < n) (hm : 0 < m) (h1 : n < 2 ^ 400) (h2 : a < 2 ^ 400) (h3 : b < 2 ^ 400) (h4 : m < 2 ^ 400) :
    F_sums_of_turn [.tup [.int n, .int a, .int b, .int m], .tup [.int (S0 (nextT n a b m) m (m - b % m - 1) (a % m)), .int (S1 (nextT n a b m) m (m - b % m - 1) (a % m)), .int (S2 (nextT n a b m) m (m - b % m - 1) (a % m))]] =
      .ok (.tup [.int (S0 n a b m), .int (S1 n a b m), .int (S2 n a b m)]) := by
  have ha : a % m < m := Nat.mod_lt _ hm
  have hb : b % m < m := Nat.mod_lt _ hm
  have ht : nextT n a b m ≤ n - 1 := by
    unfold nextT
    rw [Nat.div_le_iff_le_mul_add_pred hm]
    have : a % m * (n - 1) ≤ m * (n - 1) := Nat.mul_le_mul_right _ (by omega)
    omega
  have bi := S_bd (n := nextT n a b m) (a := m) (b := m - b % m - 1) (m := a % m) (by omega) h4 (by omega)
  have p0 := turn_plain hn ha hb (t := nextT n a b m) rfl
  have p1 := turn_place hn ha hb (t := nextT n a b m) rfl
  have p2 := turn_square hn ha hb (t := nextT n a b m) rfl
  have s0 := S0_split (n := n) (a := a) (b := b) hm
  have s1 := S1_split (n := n) (a := a) (b := b) hm
  have s2 := S2_split (n := n) (a := a) (b := b) hm
  have si := sum_id n
  have ss := sum_sq n
  have en : (n : Int) - 1 = ((n - 1 : Nat) : Int) := by omega
  have f1 : ((n : Int) - 1) * n / 2 = sumTo n fun k => (k : Int) := half_exact (by rw [si, Int.mul_comm])
  have f2 : (sumTo n fun k => (k : Int)) * (2 * ((n : Int) - 1) + 1) / 3 = sumTo n fun k => (k : Int) * k := third_exact (third_id ss si)
  have key := sums_of_turn_eq (n := n) (a := a) (b := b) (m := m) (i0 := S0 (nextT n a b m) m (m - b % m - 1) (a % m)) (i1 := S1 (nextT n a b m) m (m - b % m - 1) (a % m)) (i2 := S2 (nextT n a b m) m (m - b % m - 1) (a % m)) (ti := ((a / m : Nat) : Int)) (re := ((a % m : Nat) : Int)) (mo := ((b / m : Nat) : Int)) (le := ((b % m : Nat) : Int)) (la := (n : Int) - 1) (to := (nextT n a b m : Int))
    (fi := sumTo n fun k => (k : Int)) (sq := sumTo n fun k => (k : Int) * k) (pl := S0 n (a % m) (b % m) m) (bp := S1 n (a % m) (b % m) m) (sd := S2 n (a % m) (b % m) m)
    (by omega) (nat_lt_pow.mpr h1) (nat_lt_pow.mpr h2) (nat_lt_pow.mpr h3) (nat_lt_pow.mpr h4) bi.1 bi.2.1 bi.2.2 (Int.natCast_ediv _ _).symm (Int.natCast_emod _ _).symm (Int.natCast_ediv _ _).symm (Int.natCast_emod _ _).symm rfl
    (by rw [en]; unfold nextT; rw [Int.natCast_ediv, Int.natCast_add, Int.natCast_mul]) f1 f2 (by rw [p0]) (half_exact (by rw [p1])) (by rw [p2, p0]; exact sq_id) (nat_lt_pow.mpr (by omega)) (by rw [en]; exact nat_lt_pow.mpr (by omega))
  rw [key, s0, s1, s2]
/-- the turns come to an end -/
def doneT : Nat → Nat → Nat → Nat → Nat → Prop
  | 0, n, _, _, _ => n = 0
  | k + 1, n, a, b, m => n = 0 ∨ (0 < m ∧ doneT k (nextT n a b m) m (m - b % m - 1) (a % m))
theorem doneT_mono : ∀ {k l n a b m : Nat}, k ≤ l → doneT k n a b m → doneT l n a b m
  | 0, 0, _, _, _, _, _, h => h
  | 0, l + 1, _, _, _, _, _, h => .inl h
  | k + 1, l + 1, _, _, _, _, e, h => by
    rcases h with h | ⟨h1, h2⟩
    · exact .inl h
    · exact .inr ⟨h1, doneT_mono (by omega) h2⟩
theorem nextT_zero {n a b m : Nat} (hm : 0 < m) (h : a % m = 0) : nextT n a b m = 0 := by
  unfold nextT
  rw [h, Nat.zero_mul, Nat.zero_add]
  exact Nat.div_eq_of_lt (Nat.mod_lt _ hm)
theorem doneT_pow : ∀ (j n a b m : Nat), 0 < m → m < 2 ^ j → doneT (2 * j + 1) n a b m
  | 0, n, a, b, m, h1, h2 => by
    have : m = 0 := by simpa using h2
    omega
  | j + 1, n, a, b, m, h1, h2 => by
    refine .inr ⟨h1, ?_⟩
    rcases Nat.eq_zero_or_pos (a % m) with e | e
    · exact doneT_mono (Nat.zero_le _) (show doneT 0 _ _ _ _ from nextT_zero h1 e)
    · refine .inr ⟨e, ?_⟩
      have q1 : a % m < m := Nat.mod_lt _ h1
      have q2 := Nat.mod_lt m e
      rcases Nat.eq_zero_or_pos (m % (a % m)) with e2 | e2
      · exact doneT_mono (Nat.zero_le _) (show doneT 0 _ _ _ _ from nextT_zero e e2)
      · refine doneT_pow j _ _ _ _ e2 ?_
        have q3 := Nat.mod_add_div m (a % m)
        have q4 : 1 ≤ m / (a % m) := Nat.div_pos (by omega) e
        have q5 : a % m * 1 ≤ a % m * (m / (a % m)) := Nat.mul_le_mul_left _ q4
        rw [Nat.pow_succ] at h2
        omega
/-- the turns' numbers -/
def turnsL : Nat → Nat → Nat → Nat → Nat → List U
  | 0, _, _, _, _ => []
  | k + 1, n, a, b, m => if n = 0 then [] else .tup [.int n, .int a, .int b, .int m] :: turnsL k (nextT n a b m) m (m - b % m - 1) (a % m)
theorem turnsL_len : ∀ (k n a b m : Nat), (turnsL k n a b m).length ≤ k
  | 0, _, _, _, _ => Nat.le_refl _
  | k + 1, n, a, b, m => by
    unfold turnsL
    split
    · simp
    · rw [List.length_cons]
      have := turnsL_len k (nextT n a b m) m (m - b % m - 1) (a % m)
      omega
end My

set_option linter.all false
set_option maxRecDepth 100000
set_option maxHeartbeats 4000000
namespace My
open PySem PySem.Spec PyProof.Rows L2
local macro_rules | `(tactic| walk_at "bn") => `(tactic| repeat (first | (with_reducible assumption) | (with_reducible apply Bn.mul) | (with_reducible apply Bn.add) | (with_reducible apply Bn.sub) | (with_reducible apply Bn.div) | (with_reducible apply Bn.mod) | (with_reducible apply bn2) | (with_reducible apply bn1) | (with_reducible apply bn3) | (with_reducible apply bn0) | (with_reducible apply bn10) | exact Bn.lit rfl))
local macro_rules | `(tactic| walk_at "sm") => `(tactic| first | (with_reducible assumption) | ((with_reducible apply sm_bn); (focus walk_at "bn"); decide) | ((with_reducible apply bd_bn); (focus walk_at "bn"); decide) | omega)
local macro_rules | `(tactic| walk_at "pp") => `(tactic| first | (with_reducible apply pAdd_int) | (with_reducible apply pSub_int) | (with_reducible apply pLt_int) | (with_reducible apply pLe_int) | (with_reducible apply pGt_int) | (with_reducible apply pGe_int) | (with_reducible apply pNeg_int) | (with_reducible apply pAdd'_int) | (with_reducible apply pEq_int) | (with_reducible apply pNe_int) | ((with_reducible apply pMul_int) <;> walk_at "sm") | ((with_reducible apply pDiv_int) <;> walk_at "sm") | ((with_reducible apply pMod_int) <;> walk_at "sm") | exact rfl)
local macro_rules | `(tactic| walk_at "ev") => `(tactic| first | (with_reducible apply ev_c) | ((with_reducible apply ev_v); exact rfl) | (with_reducible apply av_nil) | (with_reducible apply tv_y) | ((with_reducible apply ev_2); (focus walk_at "ev"); (focus walk_at "ev"); (focus walk_at "pp")) | ((with_reducible apply ev_n); (focus walk_at "ev"); (focus walk_at "pp")) | ((with_reducible apply av_cons); (focus walk_at "ev"); (focus walk_at "ev")) | ((with_reducible apply ev_1); (focus walk_at "ev"); (focus walk_at "pp")) | ((with_reducible apply tv_v); (focus walk_at "ev")) | ((with_reducible apply ev_not); (focus walk_at "ev")) | ((with_reducible apply tv_n); (focus walk_at "ev")) | ((with_reducible apply iv_seq); (focus walk_at "ev"); exact rfl) | ((with_reducible apply iv_rng); (focus walk_at "ev"); exact rfl) | ((with_reducible apply iv_rev); (focus walk_at "ev")))
local macro_rules | `(tactic| walk_at "sv") => `(tactic| first | ((with_reducible apply sv_set); (focus walk_at "ev")) | ((with_reducible apply sv_asg); (focus walk_at "ev"); exact rfl) | ((with_reducible apply sv_par2); (focus walk_at "ev")) | ((with_reducible apply sv_par3); (focus walk_at "ev")) | ((with_reducible apply sv_ret); (focus walk_at "ev")) | ((with_reducible apply sv_drop); (focus walk_at "ev")) | (with_reducible apply sv_nil))
local macro_rules | `(tactic| walk_at "ls") => `(tactic| try simp only [startR, List.map_cons, List.map_nil, List.replicate, List.cons_append, List.nil_append, List.set_cons_zero, List.set_cons_succ])
local macro_rules | `(tactic| walk_at "go") => `(tactic| repeat ((with_reducible apply sv_seq); (focus walk_at "sv"); walk_at "ls"))
theorem i_emod {a m : Nat} : (a : Int) % (m : Int) = ((a % m : Nat) : Int) := (Int.natCast_emod a m).symm
theorem i_ediv {a m : Nat} : (a : Int) / (m : Int) = ((a / m : Nat) : Int) := (Int.natCast_ediv a m).symm
def wTest : TF := tV (e2 pGt (eV 0) (eC (.int 0)))
def wBody : SF := sSeq (sApp 4 (eN pTup (aCons (eV 0) (aCons (eV 1) (aCons (eV 2) (aCons (eV 3) aNil)))))) (sSeq (sAsg (gN 5) (e2 pDiv (e2 pAdd (e2 pMul (e2 pMod (eV 1) (eV 3)) (e2 pSub (eV 0) (eC (.int 1)))) (e2 pMod (eV 2) (eV 3))) (eV 3)))
  (sAsg (gT (gsCons (gN 0) (gsCons (gN 1) (gsCons (gN 2) (gsCons (gN 3) gsNil))))) (eN pTup (aCons (eV 5) (aCons (eV 3) (aCons (e2 pSub (e2 pSub (eV 3) (e2 pMod (eV 2) (eV 3))) (eC (.int 1))) (aCons (e2 pMod (eV 1) (eV 3)) aNil)))))))
theorem while_sums : ∀ (k fuel n a b m : Nat) (acc : List U) (x5 : Option U) (s : Sst), doneT k n a b m → k < fuel → acc.length + k ≤ 16777000 → n < 2 ^ 400 → a < 2 ^ 400 → b < 2 ^ 400 → m < 2 ^ 400 →
    ∃ n' a' b' m' x5', loopW wTest wBody fuel [some (.int n), some (.int a), some (.int b), some (.int m), some (.lst acc), x5, none, none] s = .nx [n', a', b', m', some (.lst (acc ++ turnsL k n a b m)), x5', none, none] s
  | 0, fuel, n, a, b, m, acc, x5, s, hd, hf, hl, h1, h2, h3, h4 => by
    have hn : n = 0 := hd
    subst hn
    obtain ⟨f, rfl⟩ : ∃ f, fuel = f + 1 := ⟨fuel - 1, by omega⟩
    refine ⟨some (.int 0), some (.int a), some (.int b), some (.int m), x5, ?_⟩
    rw [turnsL, List.append_nil]
    apply wv_stop
    unfold wTest
    exact tv_v (ev_2 (ev_v rfl) ev_c (by rw [pGt_int]; rfl))
  | k + 1, fuel, n, a, b, m, acc, x5, s, hd, hf, hl, h1, h2, h3, h4 => by
    obtain ⟨f, rfl⟩ : ∃ f, fuel = f + 1 := ⟨fuel - 1, by omega⟩
    rcases Nat.eq_zero_or_pos n with hn | hn
    · subst hn
      refine ⟨some (.int 0), some (.int a), some (.int b), some (.int m), x5, ?_⟩
      rw [turnsL, if_pos rfl, List.append_nil]
      apply wv_stop
      unfold wTest
      exact tv_v (ev_2 (ev_v rfl) ev_c (by rw [pGt_int]; rfl))
    · rcases hd with hd | ⟨hm, hd⟩
      · omega
      have ha : a % m < m := Nat.mod_lt _ hm
      have hb : b % m < m := Nat.mod_lt _ hm
      have ht : nextT n a b m ≤ n - 1 := by
        unfold nextT
        rw [Nat.div_le_iff_le_mul_add_pred hm]
        have : a % m * (n - 1) ≤ m * (n - 1) := Nat.mul_le_mul_right _ (by omega)
        omega
      have ih := while_sums k f (nextT n a b m) m (m - b % m - 1) (a % m) (acc ++ [.tup [.int n, .int a, .int b, .int m]]) (some (.int (nextT n a b m))) s hd (by omega) (by rw [List.length_append, List.length_singleton]; omega) (by omega) h4 (by omega) (by omega)
      obtain ⟨n', a', b', m', x5', ih⟩ := ih
      refine ⟨n', a', b', m', x5', ?_⟩
      have hne : turnsL (k + 1) n a b m = .tup [.int n, .int a, .int b, .int m] :: turnsL k (nextT n a b m) m (m - b % m - 1) (a % m) := by
        rw [turnsL, if_neg (by omega)]
      rw [hne, List.append_cons]
      refine wv_go (s1 := s) (ρ1 := [some (.int (nextT n a b m)), some (.int m), some (.int ((m - b % m - 1 : Nat) : Int)), some (.int ((a % m : Nat) : Int)), some (.lst (acc ++ [.tup [.int n, .int a, .int b, .int m]])), some (.int (nextT n a b m)), none, none]) (s2 := s) ?_ ?_ ih
      · unfold wTest
        exact tv_v (ev_2 (ev_v rfl) ev_c (by rw [pGt_int, decide_eq_true (show (0 : Int) < n by omega)]))
      · unfold wBody
        have hm' : (0 : Int) < m := by omega
        have b4 : Bn 400 (m : Int) := nat_lt_pow.mpr h4
        have b1 : Bn 400 (n : Int) := nat_lt_pow.mpr h1
        have en : (n : Int) - 1 = ((n - 1 : Nat) : Int) := by omega
        have e5 : ((a : Int) % m * ((n : Int) - 1) + (b : Int) % m) / m = ((nextT n a b m : Nat) : Int) := by
          rw [en, i_emod, i_emod]
          unfold nextT
          rw [Int.natCast_ediv, Int.natCast_add, Int.natCast_mul]
        have e3 : (m : Int) - (b : Int) % m - 1 = ((m - b % m - 1 : Nat) : Int) := by rw [i_emod]; omega
        refine sv_seq (sv_app (us := acc) rfl (by walk_at "ev") ?_) ?_
        · exact decide_eq_true (by omega)
        walk_at "ls"
        refine sv_seq (sv_set (by walk_at "ev")) ?_
        rw [e5]
        walk_at "ls"
        refine sv_asg (u := .tup [.int (nextT n a b m), .int m, .int ((m - b % m - 1 : Nat) : Int), .int ((a % m : Nat) : Int)]) ?_ rfl
        rw [← e3, ← i_emod]
        walk_at "ev"
/-- a body that never breaks off -/
theorem loopF_app {g : PF} {A : SF} (hb : ∀ ρ s ρ' s', A ρ s ≠ .bk ρ' s') : ∀ {us ws : List U} {ρ ρ1 : Rho} {s s1 : Sst}, loopF g A us ρ s = .nx ρ1 s1 → loopF g A (us ++ ws) ρ s = loopF g A ws ρ1 s1
  | [], ws, ρ, ρ1, s, s1, h => by
    simp only [loopF, RS.nx.injEq] at h
    obtain ⟨rfl, rfl⟩ := h
    rfl
  | u :: us, ws, ρ, ρ1, s, s1, h => by
    rw [List.cons_append]
    have eL : ∀ us : List U, loopF g A (u :: us) ρ s = (match g u ρ with
      | none => .stuck
      | some ρ => match A ρ s with
        | .nx ρ s => loopF g A us ρ s
        | .ct ρ s => loopF g A us ρ s
        | .bk ρ s => .nx ρ s
        | o => o) := fun us => rfl
    rw [eL] at h ⊢
    split at h
    · cases h
    · rename_i ρ2 e
      cases q : A ρ2 s with
      | nx ρ3 s3 => rw [q] at h; exact loopF_app hb h
      | ct ρ3 s3 => rw [q] at h; exact loopF_app hb h
      | bk ρ3 s3 => exact absurd q (hb _ _ _ _)
      | rt u s3 => rw [q] at h; cases h
      | er c ρ3 s3 => rw [q] at h; cases h
      | stuck => rw [q] at h; cases h
def bBody : SF := sAsg (gN 6) (eCall 2 F_sums_of_turn (aCons (eV 7) (aCons (eV 6) aNil)))
theorem bBody_nb : ∀ ρ s ρ' s', bBody ρ s ≠ .bk ρ' s' := fun ρ s ρ' s' h => by
  unfold bBody sAsg R.stm at h
  split at h
  · cases h
  · cases h
  · cases h
theorem back_sums : ∀ (k n a b m : Nat) (x0 x1 x2 x3 x4 x5 x7 : Option U) (s : Sst), doneT k n a b m → n < 2 ^ 400 → a < 2 ^ 400 → b < 2 ^ 400 → m < 2 ^ 400 →
    ∃ x7', loopF (gN 7) bBody (turnsL k n a b m).reverse [x0, x1, x2, x3, x4, x5, some (.tup [.int 0, .int 0, .int 0]), x7] s = .nx [x0, x1, x2, x3, x4, x5, some (.tup [.int (S0 n a b m), .int (S1 n a b m), .int (S2 n a b m)]), x7'] s
  | 0, n, a, b, m, x0, x1, x2, x3, x4, x5, x7, s, hd, h1, h2, h3, h4 => by
    have hn : n = 0 := hd
    subst hn
    exact ⟨x7, rfl⟩
  | k + 1, n, a, b, m, x0, x1, x2, x3, x4, x5, x7, s, hd, h1, h2, h3, h4 => by
    rcases Nat.eq_zero_or_pos n with hn | hn
    · subst hn
      exact ⟨x7, by rw [turnsL, if_pos rfl]; rfl⟩
    · rcases hd with hd | ⟨hm, hd⟩
      · omega
      have ha : a % m < m := Nat.mod_lt _ hm
      have hb : b % m < m := Nat.mod_lt _ hm
      have ht : nextT n a b m ≤ n - 1 := by
        unfold nextT
        rw [Nat.div_le_iff_le_mul_add_pred hm]
        have : a % m * (n - 1) ≤ m * (n - 1) := Nat.mul_le_mul_right _ (by omega)
        omega
      obtain ⟨x7', ih⟩ := back_sums k (nextT n a b m) m (m - b % m - 1) (a % m) x0 x1 x2 x3 x4 x5 x7 s hd (by omega) h4 (by omega) (by omega)
      refine ⟨some (.tup [.int n, .int a, .int b, .int m]), ?_⟩
      rw [turnsL, if_neg (by omega), List.reverse_cons, loopF_app bBody_nb ih]
      refine lv_cons (ρ1 := [x0, x1, x2, x3, x4, x5, some (.tup [.int (S0 (nextT n a b m) m (m - b % m - 1) (a % m)), .int (S1 (nextT n a b m) m (m - b % m - 1) (a % m)), .int (S2 (nextT n a b m) m (m - b % m - 1) (a % m))]), some (.tup [.int n, .int a, .int b, .int m])]) rfl (sv_set (ev_call (by walk_at "ev") rfl (turn_right hn hm h1 h2 h3 h4))) lv_nil
theorem floor_sums_eq {n a b m : Nat} (hm : 0 < m) (h1 : n < 2 ^ 400) (h2 : a < 2 ^ 400) (h3 : b < 2 ^ 400) (h4 : m < 2 ^ 400) : F_floor_sums [.int n, .int a, .int b, .int m] = .ok (.tup [.int (S0 n a b m), .int (S1 n a b m), .int (S2 n a b m)]) := by
  have hd := doneT_pow 400 n a b m hm h4
  apply fv_ret (s1 := dSst) rfl
  walk_at "ls"
  unfold f_floor_sums
  refine sv_seq (sv_set (u := .lst []) (by walk_at "ev")) ?_
  walk_at "ls"
  obtain ⟨n', a', b', m', x5', hw⟩ := while_sums 801 1000000 n a b m [] none dSst hd (by decide) (by decide) h1 h2 h3 h4
  refine sv_seq (show sWhile 1000000 wTest wBody _ dSst = _ from hw) ?_
  refine sv_seq (sv_set (u := .tup [.int 0, .int 0, .int 0]) (by walk_at "ev")) ?_
  walk_at "ls"
  obtain ⟨x7', hb⟩ := back_sums 801 n a b m n' a' b' m' (some (.lst (turnsL 801 n a b m))) x5' none dSst hd h1 h2 h3 h4
  refine sv_seq (sv_for (us := (turnsL 801 n a b m).reverse) (iv_rev (by walk_at "ev")) hb) ?_
  walk_at "sv"
end My

set_option linter.all false
set_option maxRecDepth 100000
set_option maxHeartbeats 4000000
namespace My
open PySem PySem.Spec PyProof.Rows L2
local macro_rules | `(tactic| walk_at "bn") => `(tactic| repeat (first | (with_reducible assumption) | (with_reducible apply Bn.mul) | (with_reducible apply Bn.add) | (with_reducible apply Bn.sub) | (with_reducible apply Bn.div) | (with_reducible apply Bn.mod) | (with_reducible apply bn2) | (with_reducible apply bn1) | (with_reducible apply bn3) | (with_reducible apply bn0) | (with_reducible apply bn10) | exact Bn.lit rfl))
local macro_rules | `(tactic| walk_at "sm") => `(tactic| first | (with_reducible assumption) | ((with_reducible apply sm_bn); (focus walk_at "bn"); decide) | ((with_reducible apply bd_bn); (focus walk_at "bn"); decide) | omega)
local macro_rules | `(tactic| walk_at "pp") => `(tactic| first | (with_reducible apply pAdd_int) | (with_reducible apply pSub_int) | (with_reducible apply pLt_int) | (with_reducible apply pLe_int) | (with_reducible apply pGt_int) | (with_reducible apply pGe_int) | (with_reducible apply pNeg_int) | (with_reducible apply pAdd'_int) | (with_reducible apply pEq_int) | (with_reducible apply pNe_int) | ((with_reducible apply pMul_int) <;> walk_at "sm") | ((with_reducible apply pDiv_int) <;> walk_at "sm") | ((with_reducible apply pMod_int) <;> walk_at "sm") | exact rfl)
local macro_rules | `(tactic| walk_at "ev") => `(tactic| first | (with_reducible apply ev_c) | ((with_reducible apply ev_v); exact rfl) | (with_reducible apply av_nil) | (with_reducible apply tv_y) | ((with_reducible apply ev_2); (focus walk_at "ev"); (focus walk_at "ev"); (focus walk_at "pp")) | ((with_reducible apply ev_n); (focus walk_at "ev"); (focus walk_at "pp")) | ((with_reducible apply av_cons); (focus walk_at "ev"); (focus walk_at "ev")) | ((with_reducible apply ev_1); (focus walk_at "ev"); (focus walk_at "pp")) | ((with_reducible apply tv_v); (focus walk_at "ev")) | ((with_reducible apply ev_not); (focus walk_at "ev")) | ((with_reducible apply tv_n); (focus walk_at "ev")) | ((with_reducible apply iv_seq); (focus walk_at "ev"); exact rfl) | ((with_reducible apply iv_rng); (focus walk_at "ev"); exact rfl) | ((with_reducible apply iv_rev); (focus walk_at "ev")))
local macro_rules | `(tactic| walk_at "sv") => `(tactic| first | ((with_reducible apply sv_set); (focus walk_at "ev")) | ((with_reducible apply sv_asg); (focus walk_at "ev"); exact rfl) | ((with_reducible apply sv_par2); (focus walk_at "ev")) | ((with_reducible apply sv_par3); (focus walk_at "ev")) | ((with_reducible apply sv_ret); (focus walk_at "ev")) | ((with_reducible apply sv_drop); (focus walk_at "ev")) | (with_reducible apply sv_nil))
local macro_rules | `(tactic| walk_at "ls") => `(tactic| try simp only [startR, List.map_cons, List.map_nil, List.replicate, List.cons_append, List.nil_append, List.set_cons_zero, List.set_cons_succ])
local macro_rules | `(tactic| walk_at "go") => `(tactic| repeat ((with_reducible apply sv_seq); (focus walk_at "sv"); walk_at "ls"))
/-! ### loops, comprehensions and draws of the plain reading -/
theorem loop_inv {g : PF} {A : SF} {us : List U} (I : Nat → Rho → Sst → Prop) (h : ∀ i u ρ s, us[i]? = some u → I i ρ s → ∃ ρ1 ρ2 s2, g u ρ = some ρ1 ∧ A ρ1 s = .nx ρ2 s2 ∧ I (i + 1) ρ2 s2) {ρ : Rho} {s : Sst} (h0 : I 0 ρ s) : ∃ ρ' s', loopF g A us ρ s = .nx ρ' s' ∧ I us.length ρ' s' := by
  have key : ∀ (n i : Nat) (ρ : Rho) (s : Sst), us.length - i = n → i ≤ us.length → I i ρ s → ∃ ρ' s', loopF g A (us.drop i) ρ s = .nx ρ' s' ∧ I us.length ρ' s' := by
    intro n
    induction n with
    | zero =>
      intro i ρ s e hi hI
      have : i = us.length := by omega
      subst this
      exact ⟨ρ, s, by rw [List.drop_length]; rfl, hI⟩
    | succ n ih =>
      intro i ρ s e hi hI
      have hlt : i < us.length := by omega
      obtain ⟨ρ1, ρ2, s2, e1, e2, e3⟩ := h i us[i] ρ s (List.getElem?_eq_getElem hlt) hI
      obtain ⟨ρ', s', e4, e5⟩ := ih (i + 1) ρ2 s2 (by omega) hlt e3
      exact ⟨ρ', s', by rw [List.drop_eq_getElem_cons hlt]; exact lv_cons e1 e2 e4, e5⟩
  have := key us.length 0 ρ s rfl (Nat.zero_le _) h0
  rwa [List.drop_zero] at this
theorem lc_eval {g : PF} {c : TF} {a : EF} {ρ : Rho} {s : Sst} (p : U → Bool) (f : U → U) : ∀ (us : List U) (acc : List U), (∀ u ∈ us, ∃ ρ1, g u ρ = some ρ1 ∧ c ρ1 s = .ok (p u) s ∧ (p u = true → a ρ1 s = .ok (f u) s)) → acc.length + us.length ≤ 16777216 →
    lcF g c a us ρ s acc = .ok (acc ++ (us.filter p).map f) s
  | [], acc, _, _ => by simp [lcF]
  | u :: us, acc, h, hl => by
    obtain ⟨ρ1, e1, e2, e3⟩ := h u List.mem_cons_self
    rw [List.length_cons] at hl
    unfold lcF
    rw [e1]
    simp only
    rw [e2]
    cases q : p u with
    | false =>
      show lcF g c a us ρ s acc = _
      rw [lc_eval p f us acc (fun v hv => h v (List.mem_cons_of_mem _ hv)) (by omega), List.filter_cons, if_neg (by rw [q]; decide)]
    | true =>
      show (a ρ1 s).bind _ = _
      rw [e3 q]
      show (if lineB (acc.length + 1) = true then lcF g c a us ρ s (acc ++ [f u]) else .stuck) = _
      rw [if_pos (show lineB (acc.length + 1) = true from decide_eq_true (by omega)), lc_eval p f us (acc ++ [f u]) (fun v hv => h v (List.mem_cons_of_mem _ hv)) (by rw [List.length_append, List.length_singleton]; omega), List.filter_cons, if_pos q, List.map_cons, List.append_assoc]
      rfl
theorem ev_lc {vs : List Nat} {i : AF} {g : PF} {c : TF} {a : EF} {ρ : Rho} {s s1 : Sst} {us : List U} (p : U → Bool) (f : U → U) (hi : i ρ s = .ok us s1) (h : ∀ u ∈ us, ∃ ρ1, g u (wipeR ρ vs) = some ρ1 ∧ c ρ1 s1 = .ok (p u) s1 ∧ (p u = true → a ρ1 s1 = .ok (f u) s1)) (hl : us.length ≤ 16777216) :
    eLc vs i g c a ρ s = .ok (.lst ((us.filter p).map f)) s1 := by
  unfold eLc
  rw [hi]
  show ((lcF g c a us (wipeR ρ vs) s1 []).noerr).bind _ = _
  rw [lc_eval p f us [] h (by simpa using hl), List.nil_append]
  rfl
/-- all items -/
theorem ev_lcA {vs : List Nat} {i : AF} {g : PF} {a : EF} {ρ : Rho} {s s1 : Sst} {us : List U} (f : U → U) (hi : i ρ s = .ok us s1) (h : ∀ u ∈ us, ∃ ρ1, g u (wipeR ρ vs) = some ρ1 ∧ a ρ1 s1 = .ok (f u) s1) (hl : us.length ≤ 16777216) :
    eLc vs i g tY a ρ s = .ok (.lst (us.map f)) s1 := by
  have k := ev_lc (c := tY) (fun _ => true) f hi (fun u hu => by
    obtain ⟨ρ1, e1, e2⟩ := h u hu
    exact ⟨ρ1, e1, rfl, fun _ => e2⟩) hl
  rwa [List.filter_eq_self.mpr (fun _ _ => rfl)] at k
theorem rngU0 {n : Nat} : rngU 0 n 1 = (List.range n).map fun k : Nat => U.int (k : Int) := by
  unfold rngU
  exact List.map_congr_left fun k _ => by rw [Int.zero_add, Int.mul_one]
theorem allInt_map {α : Type} (f : α → Int) : ∀ l : List α, allInt (l.map fun k => U.int (f k)) = some (l.map f)
  | [] => rfl
  | x :: l => by
    show (allInt (l.map fun k => U.int (f k))).map _ = _
    rw [allInt_map f l]
    rfl
theorem sum_range (f : Nat → Int) : ∀ n, ((List.range n).map f).sum = sumTo n f
  | 0 => rfl
  | n + 1 => by rw [List.range_succ, List.map_append, List.sum_append, sum_range f n]; simp [sumTo]
theorem pSum_range (f : Nat → Int) (n : Nat) : pSum [.lst ((List.range n).map fun k => U.int (f k))] = some (.int (sumTo n f)) := by
  show (allInt ((List.range n).map fun k => U.int (f k))).map _ = _
  rw [allInt_map, Option.map_some, sum_range]
/-- the source after some draws -/
def Wf (t : Int) (s : Sst) : Prop := 0 < s.cells.length ∧ 0 ≤ s.turn ∧ s.turn ≤ t
theorem Wf.mono {t u : Int} {s : Sst} (h : Wf t s) (e : t ≤ u) : Wf u s := ⟨h.1, h.2.1, by have := h.2.2; omega⟩
theorem NewS.wf {s : Sst} (h : NewS s) : Wf 0 s := ⟨h.2.1, by rw [h.1]; decide, by rw [h.1]; decide⟩
theorem draw_ok {t n : Int} {s : Sst} (h : Wf t s) (h0 : 0 < n) (hn : Bn 4000 n) (ht : t < 1152921504606846976) : ∃ r s', F__law_draw s [.int n] = .ok (.int r) s' ∧ 0 ≤ r ∧ r < n ∧ Wf (t + 1) s' := by
  have hc : drawC s n := ⟨h0, hn, h.1, h.2.1, by have := h.2.2; omega⟩
  have hp := h.1
  have hx : (s.turn % (s.cells.length : Int)).toNat < s.cells.length := by
    have h1 := Int.emod_nonneg s.turn (show (s.cells.length : Int) ≠ 0 by omega)
    have h2 := Int.emod_lt_of_pos s.turn (show (0 : Int) < (s.cells.length : Int) by omega)
    omega
  have e : F__law_draw s [.int n] = drawF s n := by
    show (if drawC s n then drawF s n else .stuck) = _
    rw [if_pos hc]
  rw [e]
  unfold drawF
  rw [List.getElem?_eq_getElem hx]
  simp only
  split
  · exact ⟨_, _, rfl, Int.emod_nonneg _ (by omega), Int.emod_lt_of_pos _ h0, by show 0 < (List.set _ _ _).length; rw [List.length_set]; exact hp, by show 0 ≤ s.turn + 1; have := h.2.1; omega, by show s.turn + 1 ≤ t + 1; have := h.2.2; omega⟩
  · exact ⟨_, _, rfl, Int.emod_nonneg _ (by omega), Int.emod_lt_of_pos _ h0, hp, by show 0 ≤ s.turn + 1; have := h.2.1; omega, by show s.turn + 1 ≤ t + 1; have := h.2.2; omega⟩
end My

set_option linter.all false
set_option maxRecDepth 100000
set_option maxHeartbeats 4000000
namespace My
open PySem PySem.Spec PyProof.Rows L2
local macro_rules | `(tactic| walk_at "bn") => `(tactic| repeat (first | (with_reducible assumption) | (with_reducible apply Bn.mul) | (with_reducible apply Bn.add) | (with_reducible apply Bn.sub) | (with_reducible apply Bn.div) | (with_reducible apply Bn.mod) | (with_reducible apply bn2) | (with_reducible apply bn1) | (with_reducible apply bn3) | (with_reducible apply bn0) | (with_reducible apply bn10) | exact Bn.lit rfl))
local macro_rules | `(tactic| walk_at "sm") => `(tactic| first | (with_reducible assumption) | ((with_reducible apply sm_bn); (focus walk_at "bn"); decide) | ((with_reducible apply bd_bn); (focus walk_at "bn"); decide) | omega)
local macro_rules | `(tactic| walk_at "pp") => `(tactic| first | (with_reducible apply pAdd_int) | (with_reducible apply pSub_int) | (with_reducible apply pLt_int) | (with_reducible apply pLe_int) | (with_reducible apply pGt_int) | (with_reducible apply pGe_int) | (with_reducible apply pNeg_int) | (with_reducible apply pAdd'_int) | (with_reducible apply pEq_int) | (with_reducible apply pNe_int) | ((with_reducible apply pMul_int) <;> walk_at "sm") | ((with_reducible apply pDiv_int) <;> walk_at "sm") | ((with_reducible apply pMod_int) <;> walk_at "sm") | exact rfl)
local macro_rules | `(tactic| walk_at "ev") => `(tactic| first | (with_reducible apply ev_c) | ((with_reducible apply ev_v); exact rfl) | (with_reducible apply av_nil) | (with_reducible apply tv_y) | ((with_reducible apply ev_2); (focus walk_at "ev"); (focus walk_at "ev"); (focus walk_at "pp")) | ((with_reducible apply ev_n); (focus walk_at "ev"); (focus walk_at "pp")) | ((with_reducible apply av_cons); (focus walk_at "ev"); (focus walk_at "ev")) | ((with_reducible apply ev_1); (focus walk_at "ev"); (focus walk_at "pp")) | ((with_reducible apply tv_v); (focus walk_at "ev")) | ((with_reducible apply ev_not); (focus walk_at "ev")) | ((with_reducible apply tv_n); (focus walk_at "ev")) | ((with_reducible apply iv_seq); (focus walk_at "ev"); exact rfl) | ((with_reducible apply iv_rng); (focus walk_at "ev"); exact rfl) | ((with_reducible apply iv_rev); (focus walk_at "ev")))
local macro_rules | `(tactic| walk_at "sv") => `(tactic| first | ((with_reducible apply sv_set); (focus walk_at "ev")) | ((with_reducible apply sv_asg); (focus walk_at "ev"); exact rfl) | ((with_reducible apply sv_par2); (focus walk_at "ev")) | ((with_reducible apply sv_par3); (focus walk_at "ev")) | ((with_reducible apply sv_ret); (focus walk_at "ev")) | ((with_reducible apply sv_drop); (focus walk_at "ev")) | (with_reducible apply sv_nil))
local macro_rules | `(tactic| walk_at "ls") => `(tactic| try simp only [startR, List.map_cons, List.map_nil, List.replicate, List.cons_append, List.nil_append, List.set_cons_zero, List.set_cons_succ])
local macro_rules | `(tactic| walk_at "go") => `(tactic| repeat ((with_reducible apply sv_seq); (focus walk_at "sv"); walk_at "ls"))
/-! ### sums -/
def okNum (l : Int) : U → Bool
  | .int x => decide (l ≤ x) && decide (x ≤ 10000000000000000000000000000000000000000)
  | _ => false
def isInt : U → Bool
  | .int _ => true
  | _ => false
def U.plain (u : U) : Prop := u.tyName ≠ none
theorem is_integer_eq (u : U) (h : u.plain) : F_is_integer [u] = .ok (.bl (isInt u)) := by
  unfold F_is_integer f_is_integer
  cases u <;> first | exact absurd rfl h | (simp [runF, startR, sRet, R.stm, R.bind, opt, eC, eV, eN, aNil, aCons, eAnd, eNot, toB, pIsiB, pIsi, U.tyName, isInt])
def numBody : SF := sIf (tO (tN (tT (eCall 1 F_is_integer (aCons (eV 4) aNil)))) (tN (tV (eChain pLe pLe (eV 5) (eV 4) (eC (.int 10000000000000000000000000000000000000000)))))) (sRaise "InvalidNumber" (eC (.str (PySem.Str.ofString "the numbers are integers from 0, by from 1 on, of a limited size")))) sNil
theorem numBody_eq {x0 x1 x2 x3 : Option U} {u : U} {l : Int} {s : Sst} (h : u.plain) : numBody [x0, x1, x2, x3, some u, some (.int l)] s = if okNum l u = true then .nx [x0, x1, x2, x3, some u, some (.int l)] s else .er "InvalidNumber" [x0, x1, x2, x3, some u, some (.int l)] s := by
  have h1 : tN (tT (eCall 1 F_is_integer (aCons (eV 4) aNil))) [x0, x1, x2, x3, some u, some (.int l)] s = .ok (!isInt u) s := tv_n (tv_t (ev_call (by walk_at "ev") rfl (is_integer_eq u h)) rfl)
  unfold numBody
  cases hu : isInt u with
  | false =>
    have ho : okNum l u = false := by cases u <;> first | rfl | cases hu
    rw [ho, if_neg (by decide)]
    refine sv_ifT ?_ (sv_raise ev_c)
    have := tv_or (t' := tN (tV (eChain pLe pLe (eV 5) (eV 4) (eC (.int 10000000000000000000000000000000000000000))))) (k' := false) h1 (fun e => by rw [hu] at e; cases e)
    rw [hu] at this
    exact this
  | true =>
    obtain ⟨x, rfl⟩ : ∃ x, u = .int x := by cases u <;> first | exact ⟨_, rfl⟩ | cases hu
    have h2 : tO (tN (tT (eCall 1 F_is_integer (aCons (eV 4) aNil)))) (tN (tV (eChain pLe pLe (eV 5) (eV 4) (eC (.int 10000000000000000000000000000000000000000))))) [x0, x1, x2, x3, some (.int x), some (.int l)] s = .ok (!okNum l (.int x)) s :=
      tv_or (k := !isInt (.int x)) (k' := !okNum l (.int x)) h1 fun _ => tv_n (tv_v (ev_chain (k := decide (l ≤ x)) (ev_v rfl) (ev_v rfl) pLe_int fun _ => ⟨_, ev_c, pLe_int⟩))
    refine sv_if h2 (fun e => ?_) fun e => ?_
    · rw [if_neg (by intro z; rw [z] at e; cases e)]
      exact sv_raise ev_c
    · rw [if_pos (by cases q : okNum l (.int x); rw [q] at e; cases e; rfl)]
      rfl
theorem F_sums_eq {u0 u1 u2 u3 v : U} (h0 : u0.plain) (h1 : u1.plain) (h2 : u2.plain) (h3 : u3.plain) (k0 : okNum 0 u0 = true) (k1 : okNum 0 u1 = true) (k2 : okNum 0 u2 = true) (k3 : okNum 1 u3 = true) (q : F_floor_sums [u0, u1, u2, u3] = .ok v) : F_sums [u0, u1, u2, u3] = .ok v := by
  have step : ∀ (u : U) (l : Int) (r : List U) (x4 x5 : Option U), u.plain → okNum l u = true → loopF (gT (gsCons (gN 4) (gsCons (gN 5) gsNil))) numBody (.tup [u, .int l] :: r) [some u0, some u1, some u2, some u3, x4, x5] dSst =
      loopF (gT (gsCons (gN 4) (gsCons (gN 5) gsNil))) numBody r [some u0, some u1, some u2, some u3, some u, some (.int l)] dSst := fun u l r x4 x5 h k => by
    have q := numBody_eq (x0 := some u0) (x1 := some u1) (x2 := some u2) (x3 := some u3) (u := u) (l := l) (s := dSst) h
    rw [if_pos k] at q
    exact lv_cons rfl q rfl
  have e : F_sums = runF (sSeq (sFor (iSeq (eN pTup (aCons (eN pTup (aCons (eV 0) (aCons (eC (.int 0)) aNil))) (aCons (eN pTup (aCons (eV 1) (aCons (eC (.int 0)) aNil))) (aCons (eN pTup (aCons (eV 2) (aCons (eC (.int 0)) aNil))) (aCons (eN pTup (aCons (eV 3) (aCons (eC (.int 1)) aNil))) aNil)))))) (gT (gsCons (gN 4) (gsCons (gN 5) gsNil))) numBody) (sRet (eCall 4 F_floor_sums (aCons (eV 0) (aCons (eV 1) (aCons (eV 2) (aCons (eV 3) aNil))))))) 4 2 := rfl
  rw [e]
  refine fv_ret rfl (sv_seq (ρ1 := [some u0, some u1, some u2, some u3, some u3, some (.int 1)]) (s1 := dSst) (sv_for (us := [.tup [u0, .int 0], .tup [u1, .int 0], .tup [u2, .int 0], .tup [u3, .int 1]]) (s1 := dSst) rfl ?_) (sv_ret (ev_call (us := [u0, u1, u2, u3]) (s1 := dSst) (as := aCons (eV 0) (aCons (eV 1) (aCons (eV 2) (aCons (eV 3) aNil)))) (ρ := [some u0, some u1, some u2, some u3, some u3, some (.int 1)]) (s := dSst) rfl rfl q)))
  show loopF _ _ _ [some u0, some u1, some u2, some u3, none, none] dSst = _
  rw [step u0 0 _ _ _ h0 k0, step u1 0 _ _ _ h1 k1, step u2 0 _ _ _ h2 k2, step u3 1 _ _ _ h3 k3]
  rfl
theorem sums_ok {n a b m : Nat} (hm : 0 < m) (h1 : n ≤ 10000000000000000000000000000000000000000) (h2 : a ≤ 10000000000000000000000000000000000000000) (h3 : b ≤ 10000000000000000000000000000000000000000) (h4 : m ≤ 10000000000000000000000000000000000000000) :
    F_sums [.int n, .int a, .int b, .int m] = .ok (.tup [.int (S0 n a b m), .int (S1 n a b m), .int (S2 n a b m)]) := by
  have k : ∀ {l : Int} {x : Nat}, l ≤ x → x ≤ 10000000000000000000000000000000000000000 → okNum l (.int x) = true := fun {l x} e1 e2 => by
    show (decide (l ≤ (x : Int)) && decide ((x : Int) ≤ 10000000000000000000000000000000000000000)) = true
    rw [decide_eq_true e1, decide_eq_true (by omega)]
    rfl
  have c : (10000000000000000000000000000000000000000 : Nat) < 2 ^ 400 := by decide +kernel
  exact F_sums_eq (by intro z; cases z) (by intro z; cases z) (by intro z; cases z) (by intro z; cases z) (k (by omega) h1) (k (by omega) h2) (k (by omega) h3) (k (by omega) h4) (floor_sums_eq hm (by omega) (by omega) (by omega) (by omega))
end My

set_option Elab.async false
set_option linter.all false
set_option maxRecDepth 100000
set_option maxHeartbeats 4000000
namespace My
open PySem PySem.Spec PyProof.Rows L2
open C8 (Cal pe_c pe_gc)
def kls : List String := ["InvalidNumber"]
def f__law_ten : SF := (sSeq (sAsg (gN 1) (eC (.int 1))) (sSeq (sFor (iRng pRng1 (aCons (eV 0) aNil)) (gN 2) (sAsg (gN 1) (e2 pMul (eV 1) (eC (.int 10))))) (sRet (eV 1))))
abbrev F__law_ten := runF f__law_ten 1 2
def f__law_pick : SF := (sRet (e2 pIdx (eV 1) (eCallS 1 F__law_draw (aCons (eN pLen (aCons (eV 1) aNil)) aNil))))
abbrev F__law_pick := runS f__law_pick 1 0
def f__law_any : SF := (sSeq (sAsg (gN 1) (eC (.int 0))) (sSeq (sFor (iRng pRng1 (aCons (eC (.int 7)) aNil)) (gN 2) (sAsg (gN 1) (e2 pAdd (e2 pMul (eV 1) (e2 pPow (eC (.int 10)) (eC (.int 9)))) (eCallS 1 F__law_draw (aCons (e2 pPow (eC (.int 10)) (eC (.int 9))) aNil))))) (sRet (e2 pMod (eN pInt (aCons (eV 1) aNil)) (eCall 1 F__law_ten (aCons (e2 pAdd (eC (.int 1)) (eCallS 1 F__law_draw (aCons (eC (.int 40)) aNil))) aNil))))))
abbrev F__law_any := runS f__law_any 0 2
def f__law_fibonacci : SF := (sSeq (sAsg (gT (gsCons (gN 1) (gsCons (gN 2) gsNil))) (eN pTup (aCons (eC (.int 1)) (aCons (eC (.int 1)) aNil)))) (sSeq (sFor (iRng pRng1 (aCons (eV 0) aNil)) (gN 3) (sPar [1, 2] (aCons (eV 2) (aCons (e2 pAdd (eV 1) (eV 2)) aNil)))) (sRet (eN pLst (aCons (eV 1) (aCons (eV 2) aNil))))))
abbrev F__law_fibonacci := runF f__law_fibonacci 1 3
def f__law_plain : SF := (sRet (eN pLst (aCons (e2 pDiv (e2 pMul (eV 0) (e2 pSub (eV 0) (eC (.int 1)))) (eC (.int 2))) (aCons (e2 pDiv (e2 pMul (e2 pMul (e2 pSub (eV 0) (eC (.int 1))) (eV 0)) (e2 pSub (e2 pMul (eC (.int 2)) (eV 0)) (eC (.int 1)))) (eC (.int 6))) aNil))))
abbrev F__law_plain := runF f__law_plain 1 0
def f__law_parts_right : SF := (sSeq (sAsg (gT (gsCons (gN 5) (gsCons (gN 6) (gsCons (gN 7) gsNil)))) (eCall 4 F_sums (aCons (eV 0) (aCons (eV 1) (aCons (eV 2) (aCons (eV 3) aNil)))))) (sSeq (sAsg (gN 8) (eCall 4 F_sums (aCons (eV 4) (aCons (eV 1) (aCons (eV 2) (aCons (eV 3) aNil)))))) (sSeq (sAsg (gN 9) (eCall 4 F_sums (aCons (e2 pSub (eV 0) (eV 4)) (aCons (eV 1) (aCons (e2 pAdd (eV 2) (e2 pMul (eV 1) (eV 4))) (aCons (eV 3) aNil)))))) (sSeq (sIf (tO (tV (e2 pNe (eV 5) (e2 pAdd (e2 pIdx (eV 8) (eC (.int 0))) (e2 pIdx (eV 9) (eC (.int 0)))))) (tV (e2 pNe (eV 7) (e2 pAdd (e2 pIdx (eV 8) (eC (.int 2))) (e2 pIdx (eV 9) (eC (.int 2))))))) (sRet (eC (.bl false))) sNil) (sRet (e2 pEq (eV 6) (e2 pAdd (e2 pAdd (e2 pIdx (eV 8) (eC (.int 1))) (e2 pIdx (eV 9) (eC (.int 1)))) (e2 pMul (eV 4) (e2 pIdx (eV 9) (eC (.int 0)))))))))))
abbrev F__law_parts_right := runF f__law_parts_right 5 5
def f__law_shifted_right : SF := (sSeq (sAsg (gT (gsCons (gN 5) (gsCons (gN 6) (gsCons (gN 7) gsNil)))) (eCall 4 F_sums (aCons (eV 0) (aCons (eV 1) (aCons (eV 2) (aCons (eV 3) aNil)))))) (sSeq (sAsg (gL (gsCons (gN 8) (gsCons (gN 9) gsNil))) (eCall 1 F__law_plain (aCons (eV 0) aNil))) (sSeq (sAsg (gN 10) (eCall 4 F_sums (aCons (eV 0) (aCons (eV 1) (aCons (e2 pAdd (eV 2) (e2 pMul (eV 4) (eV 3))) (aCons (eV 3) aNil)))))) (sSeq (sAsg (gN 11) (e2 pAdd (e2 pAdd (eV 7) (e2 pMul (e2 pMul (eC (.int 2)) (eV 4)) (eV 5))) (e2 pMul (e2 pMul (eV 4) (eV 4)) (eV 0)))) (sSeq (sIf (tV (e2 pNe (eV 10) (eN pTup (aCons (e2 pAdd (eV 5) (e2 pMul (eV 4) (eV 0))) (aCons (e2 pAdd (eV 6) (e2 pMul (eV 4) (eV 8))) (aCons (eV 11) aNil)))))) (sRet (eC (.bl false))) sNil) (sSeq (sAsg (gN 10) (eCall 4 F_sums (aCons (eV 0) (aCons (e2 pAdd (eV 1) (e2 pMul (eV 4) (eV 3))) (aCons (eV 2) (aCons (eV 3) aNil)))))) (sSeq (sAsg (gN 11) (e2 pAdd (e2 pAdd (eV 7) (e2 pMul (e2 pMul (eC (.int 2)) (eV 4)) (eV 6))) (e2 pMul (e2 pMul (eV 4) (eV 4)) (eV 9)))) (sRet (e2 pEq (eV 10) (eN pTup (aCons (e2 pAdd (eV 5) (e2 pMul (eV 4) (eV 8))) (aCons (e2 pAdd (eV 6) (e2 pMul (eV 4) (eV 9))) (aCons (eV 11) aNil)))))))))))))
abbrev F__law_shifted_right := runF f__law_shifted_right 5 7
def f__law_turned_right : SF := (sSeq (sPar [1, 2] (aCons (e2 pMod (eN pInt (aCons (eV 1) aNil)) (eV 3)) (aCons (e2 pMod (eN pInt (aCons (eV 2) aNil)) (eV 3)) aNil))) (sSeq (sAsg (gN 4) (e2 pIdx (eCall 4 F_sums (aCons (eV 0) (aCons (eV 1) (aCons (eV 2) (aCons (eV 3) aNil))))) (eC (.int 0)))) (sSeq (sAsg (gN 5) (e2 pIdx (eCall 4 F_sums (aCons (eV 0) (aCons (e2 pSub (eV 3) (eV 1)) (aCons (e2 pSub (e2 pSub (eV 3) (eC (.int 1))) (eV 2)) (aCons (eV 3) aNil))))) (eC (.int 0)))) (sRet (e2 pEq (e2 pAdd (eV 4) (eV 5)) (e2 pIdx (eCall 1 F__law_plain (aCons (eV 0) aNil)) (eC (.int 0))))))))
abbrev F__law_turned_right := runF f__law_turned_right 4 2
def f__law_few_right : SF := (sSeq (sPar [3, 4] (aCons (e2 pDiv (eV 1) (eV 2)) (aCons (e2 pDiv (e2 pAdd (eV 0) (eV 1)) (eV 2)) aNil))) (sSeq (sIf (tV (e2 pNe (eCall 4 F_sums (aCons (eC (.int 1)) (aCons (eV 0) (aCons (eV 1) (aCons (eV 2) aNil))))) (eN pTup (aCons (eV 3) (aCons (eC (.int 0)) (aCons (e2 pMul (eV 3) (eV 3)) aNil)))))) (sRet (eC (.bl false))) sNil) (sRet (e2 pEq (eCall 4 F_sums (aCons (eC (.int 2)) (aCons (eV 0) (aCons (eV 1) (aCons (eV 2) aNil))))) (eN pTup (aCons (e2 pAdd (eV 3) (eV 4)) (aCons (eV 4) (aCons (e2 pAdd (e2 pMul (eV 3) (eV 3)) (e2 pMul (eV 4) (eV 4))) aNil))))))))
abbrev F__law_few_right := runF f__law_few_right 3 2
def f_law : SF := (sSeq (sFor (iRng pRng1 (aCons (eC (.int 20)) aNil)) (gN 2) (sSeq (sPar [3, 4] (aCons (eCallS 0 F__law_any aNil) (aCons (eCallS 0 F__law_any aNil) aNil))) (sSeq (sPar [5, 6] (aCons (eCallS 0 F__law_any aNil) (aCons (e2 pAdd (eC (.int 1)) (eCallS 0 F__law_any aNil)) aNil))) (sSeq (sIf (tV (e2 pEq (e2 pMod (eV 2) (eC (.int 4))) (eC (.int 0)))) (sSeq (sAsg (gL (gsCons (gN 4) (gsCons (gN 6) gsNil))) (eCall 1 F__law_fibonacci (aCons (eCallS 1 F__law_pick (aCons (eN pLst (aCons (eC (.int 20)) (aCons (eC (.int 90)) (aCons (eC (.int 150)) (aCons (eC (.int 188)) aNil))))) aNil)) aNil))) (sAsg (gN 5) (eCallS 1 F__law_pick (aCons (eN pLst (aCons (eC (.int 0)) (aCons (eC (.int 1)) (aCons (e2 pSub (eV 6) (eC (.int 1))) (aCons (eV 4) aNil))))) aNil)))) sNil) (sSeq (sAsg (gN 7) (eCallS 0 F__law_any aNil)) (sSeq (sAsg (gN 8) (eN pMin2 (aCons (eV 3) (aCons (eV 7) aNil)))) (sSeq (sIf (tA (tV (e2 pLe (e2 pAdd (e2 pMul (eV 4) (eV 8)) (eV 5)) (e2 pPow (eC (.int 10)) (eC (.int 40))))) (tN (tT (eCall 5 F__law_parts_right (aCons (eV 3) (aCons (eV 4) (aCons (eV 5) (aCons (eV 6) (aCons (eV 8) aNil))))))))) (sRet (eC (.bl false))) sNil) (sSeq (sAsg (gN 9) (eCallS 1 F__law_draw (aCons (e2 pPow (eC (.int 10)) (eC (.int 6))) aNil))) (sSeq (sIf (tA (tV (e2 pLe (e2 pAdd (eV 5) (e2 pMul (eV 9) (eV 6))) (e2 pPow (eC (.int 10)) (eC (.int 40))))) (tV (e2 pLe (e2 pAdd (eV 4) (e2 pMul (eV 9) (eV 6))) (e2 pPow (eC (.int 10)) (eC (.int 40)))))) (sIf (tN (tT (eCall 5 F__law_shifted_right (aCons (eV 3) (aCons (eV 4) (aCons (eV 5) (aCons (eV 6) (aCons (eV 9) aNil)))))))) (sRet (eC (.bl false))) sNil) sNil) (sIf (tO (tN (tT (eCall 4 F__law_turned_right (aCons (eV 3) (aCons (eV 4) (aCons (eV 5) (aCons (eV 6) aNil))))))) (tN (tT (eCall 3 F__law_few_right (aCons (eV 4) (aCons (eV 5) (aCons (eV 6) aNil))))))) (sRet (eC (.bl false))) sNil)))))))))) (sRet (eC (.bl true))))
end My

set_option linter.all false
set_option maxRecDepth 100000
set_option maxHeartbeats 4000000
namespace My
open PySem PySem.Spec PyProof.Rows L2
local macro_rules | `(tactic| walk_at "bn") => `(tactic| repeat (first | (with_reducible assumption) | (with_reducible apply Bn.mul) | (with_reducible apply Bn.add) | (with_reducible apply Bn.sub) | (with_reducible apply Bn.div) | (with_reducible apply Bn.mod) | (with_reducible apply bn2) | (with_reducible apply bn1) | (with_reducible apply bn3) | (with_reducible apply bn0) | (with_reducible apply bn10) | exact Bn.lit rfl))
local macro_rules | `(tactic| walk_at "sm") => `(tactic| first | (with_reducible assumption) | ((with_reducible apply sm_bn); (focus walk_at "bn"); decide) | ((with_reducible apply bd_bn); (focus walk_at "bn"); decide) | omega)
local macro_rules | `(tactic| walk_at "pp") => `(tactic| first | (with_reducible apply pAdd_int) | (with_reducible apply pSub_int) | (with_reducible apply pLt_int) | (with_reducible apply pLe_int) | (with_reducible apply pGt_int) | (with_reducible apply pGe_int) | (with_reducible apply pNeg_int) | (with_reducible apply pAdd'_int) | (with_reducible apply pEq_int) | (with_reducible apply pNe_int) | ((with_reducible apply pMul_int) <;> walk_at "sm") | ((with_reducible apply pDiv_int) <;> walk_at "sm") | ((with_reducible apply pMod_int) <;> walk_at "sm") | exact rfl)
local macro_rules | `(tactic| walk_at "ev") => `(tactic| first | (with_reducible apply ev_c) | ((with_reducible apply ev_v); exact rfl) | (with_reducible apply av_nil) | (with_reducible apply tv_y) | ((with_reducible apply ev_2); (focus walk_at "ev"); (focus walk_at "ev"); (focus walk_at "pp")) | ((with_reducible apply ev_n); (focus walk_at "ev"); (focus walk_at "pp")) | ((with_reducible apply av_cons); (focus walk_at "ev"); (focus walk_at "ev")) | ((with_reducible apply ev_1); (focus walk_at "ev"); (focus walk_at "pp")) | ((with_reducible apply tv_v); (focus walk_at "ev")) | ((with_reducible apply ev_not); (focus walk_at "ev")) | ((with_reducible apply tv_n); (focus walk_at "ev")) | ((with_reducible apply iv_seq); (focus walk_at "ev"); exact rfl) | ((with_reducible apply iv_rng); (focus walk_at "ev"); exact rfl) | ((with_reducible apply iv_rev); (focus walk_at "ev")))
local macro_rules | `(tactic| walk_at "sv") => `(tactic| first | ((with_reducible apply sv_set); (focus walk_at "ev")) | ((with_reducible apply sv_asg); (focus walk_at "ev"); exact rfl) | ((with_reducible apply sv_par2); (focus walk_at "ev")) | ((with_reducible apply sv_par3); (focus walk_at "ev")) | ((with_reducible apply sv_ret); (focus walk_at "ev")) | ((with_reducible apply sv_drop); (focus walk_at "ev")) | (with_reducible apply sv_nil))
local macro_rules | `(tactic| walk_at "ls") => `(tactic| try simp only [startR, List.map_cons, List.map_nil, List.replicate, List.cons_append, List.nil_append, List.set_cons_zero, List.set_cons_succ])
local macro_rules | `(tactic| walk_at "go") => `(tactic| repeat ((with_reducible apply sv_seq); (focus walk_at "sv"); walk_at "ls"))
/-! ### how the sums of floors go together -/
theorem sumTo_app (p : Nat) (f : Nat → Int) : ∀ q, sumTo (p + q) f = sumTo p f + sumTo q fun k => f (p + k)
  | 0 => by simp [sumTo]
  | q + 1 => by
    rw [show p + (q + 1) = (p + q) + 1 by omega]
    show sumTo (p + q) f + f (p + q) = _ + (sumTo q (fun k => f (p + k)) + f (p + q))
    rw [sumTo_app p f q]
    omega
def T1 (n : Nat) : Int := sumTo n fun k => (k : Int)
def T2 (n : Nat) : Int := sumTo n fun k => (k : Int) * k
theorem T1_eq (n : Nat) : (n : Int) * (n - 1) / 2 = T1 n := by
  have := sum_id n
  unfold T1
  omega
theorem T2_eq (n : Nat) : ((n : Int) - 1) * n * (2 * n - 1) / 6 = T2 n := by
  have h := sum_sq n
  have e : ((n : Int) - 1) * n * (2 * n - 1) = (n : Int) * (n - 1) * (2 * n - 1) := by grind
  unfold T2
  rw [e]
  omega
theorem flo_app (p : Nat) {a b m k : Nat} : flo a b m (p + k) = flo a (b + a * p) m k := by
  unfold flo
  rw [Nat.mul_add]
  congr 1
  omega
theorem S0_app (p q a b m : Nat) : S0 (p + q) a b m = S0 p a b m + S0 q a (b + a * p) m := by
  unfold S0
  rw [sumTo_app]
  congr 1
  exact sumTo_ext fun k _ => by rw [flo_app]
theorem S1_app (p q a b m : Nat) : S1 (p + q) a b m = S1 p a b m + S1 q a (b + a * p) m + p * S0 q a (b + a * p) m := by
  unfold S1 S0
  rw [sumTo_app, ← sumTo_mul, Int.add_assoc, ← sumTo_add]
  congr 1
  exact sumTo_ext fun k _ => by
    rw [flo_app]
    have e : ((p + k : Nat) : Int) = (p : Int) + k := by push_cast; rfl
    rw [e]
    grind
theorem S2_app (p q a b m : Nat) : S2 (p + q) a b m = S2 p a b m + S2 q a (b + a * p) m := by
  unfold S2
  rw [sumTo_app]
  congr 1
  exact sumTo_ext fun k _ => by rw [flo_app]
theorem flo_more {a b m k c : Nat} (hm : 0 < m) : flo a (b + c * m) m k = flo a b m k + c := by
  unfold flo
  rw [← Nat.add_assoc, Nat.add_mul_div_right _ _ hm]
theorem flo_step {a b m k c : Nat} (hm : 0 < m) : flo (a + c * m) b m k = flo a b m k + c * k := by
  unfold flo
  rw [show (a + c * m) * k + b = (a * k + b) + c * k * m by grind, Nat.add_mul_div_right _ _ hm]
theorem S0_more {n a b m : Nat} (c : Nat) (hm : 0 < m) : S0 n a (b + c * m) m = S0 n a b m + c * n := by
  unfold S0
  rw [sumTo_ext (g := fun k => (flo a b m k : Int) + c) fun k _ => by rw [flo_more hm]; push_cast; rfl, sumTo_add, sumTo_const]
  grind
theorem S1_more {n a b m : Nat} (c : Nat) (hm : 0 < m) : S1 n a (b + c * m) m = S1 n a b m + c * T1 n := by
  unfold S1 T1
  rw [sumTo_ext (g := fun k => (k : Int) * (flo a b m k : Int) + (c : Int) * k) fun k _ => by rw [flo_more hm]; push_cast; grind, sumTo_add, sumTo_mul]
theorem S2_more {n a b m : Nat} (c : Nat) (hm : 0 < m) : S2 n a (b + c * m) m = S2 n a b m + 2 * c * S0 n a b m + c * c * n := by
  unfold S2 S0
  rw [sumTo_ext (g := fun k => ((flo a b m k : Int) * flo a b m k + 2 * (c : Int) * flo a b m k) + (c : Int) * c) fun k _ => by rw [flo_more hm]; push_cast; grind, sumTo_add, sumTo_add, sumTo_mul, sumTo_const]
  grind
theorem S0_step {n a b m : Nat} (c : Nat) (hm : 0 < m) : S0 n (a + c * m) b m = S0 n a b m + c * T1 n := by
  unfold S0 T1
  rw [sumTo_ext (g := fun k => (flo a b m k : Int) + (c : Int) * k) fun k _ => by rw [flo_step hm]; push_cast; rfl, sumTo_add, sumTo_mul]
theorem S1_step {n a b m : Nat} (c : Nat) (hm : 0 < m) : S1 n (a + c * m) b m = S1 n a b m + c * T2 n := by
  unfold S1 T2
  rw [sumTo_ext (g := fun k => (k : Int) * (flo a b m k : Int) + (c : Int) * ((k : Int) * k)) fun k _ => by rw [flo_step hm]; push_cast; grind, sumTo_add, sumTo_mul]
theorem S2_step {n a b m : Nat} (c : Nat) (hm : 0 < m) : S2 n (a + c * m) b m = S2 n a b m + 2 * c * S1 n a b m + c * c * T2 n := by
  unfold S2 S1 T2
  rw [sumTo_ext (g := fun k => ((flo a b m k : Int) * flo a b m k + 2 * (c : Int) * ((k : Int) * flo a b m k)) + (c : Int) * c * ((k : Int) * k)) fun k _ => by rw [flo_step hm]; push_cast; grind, sumTo_add, sumTo_add, sumTo_mul, sumTo_mul]
theorem flo_flip {a b m k : Nat} (ha : a < m) (hb : b < m) : flo a b m k + flo (m - a) (m - 1 - b) m k = k := by
  unfold flo
  obtain ⟨x, hx⟩ : ∃ x, x = a * k + b := ⟨_, rfl⟩
  have h1 : a * k ≤ m * k := Nat.mul_le_mul_right k (Nat.le_of_lt ha)
  have e : (m - a) * k + (m - 1 - b) = m * k + m - 1 - x := by
    rw [Nat.sub_mul]
    omega
  rw [e, ← hx]
  have hm : 0 < m := by omega
  have hq := Nat.div_add_mod x m
  have hr := Nat.mod_lt x hm
  obtain ⟨q, eq⟩ : ∃ q, q = x / m := ⟨_, rfl⟩
  obtain ⟨r, er⟩ : ∃ r, r = x % m := ⟨_, rfl⟩
  rw [← eq, ← er] at hq
  rw [← er] at hr
  rw [← eq]
  have hk : q ≤ k := by
    have : m * q ≤ m * k + (m - 1) := by omega
    by_cases c : q ≤ k
    · exact c
    · exfalso
      have h2 : m * (k + 1) ≤ m * q := Nat.mul_le_mul_left m (by omega)
      rw [Nat.mul_succ] at h2
      omega
  have e2 : m * k + m - 1 - x = (m - 1 - r) + (k - q) * m := by
    have h3 : m * k = m * q + (k - q) * m := by
      rw [Nat.mul_comm (k - q) m, ← Nat.mul_add]
      congr 1
      omega
    omega
  rw [e2, Nat.add_mul_div_right _ _ hm, Nat.div_eq_of_lt (by omega)]
  omega
theorem S0_flip {n a b m : Nat} (ha : a < m) (hb : b < m) : S0 n a b m + S0 n (m - a) (m - 1 - b) m = T1 n := by
  unfold S0 T1
  rw [← sumTo_add]
  exact sumTo_ext fun k _ => by
    have := flo_flip (k := k) ha hb
    omega
theorem S_one {a b m : Nat} : S0 1 a b m = (b / m : Nat) ∧ S1 1 a b m = 0 ∧ S2 1 a b m = (b / m : Nat) * (b / m : Nat) := by
  have e : flo a b m 0 = b / m := by unfold flo; rw [Nat.mul_zero, Nat.zero_add]
  unfold S0 S1 S2
  simp only [sumTo, e]
  refine ⟨by omega, by simp, by simp⟩
theorem S_two {a b m : Nat} : S0 2 a b m = (b / m : Nat) + ((a + b) / m : Nat) ∧ S1 2 a b m = ((a + b) / m : Nat) ∧ S2 2 a b m = (b / m : Nat) * (b / m : Nat) + ((a + b) / m : Nat) * ((a + b) / m : Nat) := by
  have e : flo a b m 0 = b / m := by unfold flo; rw [Nat.mul_zero, Nat.zero_add]
  have e1 : flo a b m 1 = (a + b) / m := by unfold flo; rw [Nat.mul_one]
  unfold S0 S1 S2
  simp only [sumTo, e, e1]
  refine ⟨by simp, by simp, by simp⟩
end My

set_option linter.all false
set_option maxRecDepth 100000
set_option maxHeartbeats 4000000
namespace My
open PySem PySem.Spec PyProof.Rows L2
local macro_rules | `(tactic| walk_at "bn") => `(tactic| repeat (first | (with_reducible assumption) | (with_reducible apply Bn.mul) | (with_reducible apply Bn.add) | (with_reducible apply Bn.sub) | (with_reducible apply Bn.div) | (with_reducible apply Bn.mod) | (with_reducible apply bn2) | (with_reducible apply bn1) | (with_reducible apply bn3) | (with_reducible apply bn0) | (with_reducible apply bn10) | exact Bn.lit rfl))
local macro_rules | `(tactic| walk_at "sm") => `(tactic| first | (with_reducible assumption) | ((with_reducible apply sm_bn); (focus walk_at "bn"); decide) | ((with_reducible apply bd_bn); (focus walk_at "bn"); decide) | omega)
local macro_rules | `(tactic| walk_at "pp") => `(tactic| first | (with_reducible apply pAdd_int) | (with_reducible apply pSub_int) | (with_reducible apply pLt_int) | (with_reducible apply pLe_int) | (with_reducible apply pGt_int) | (with_reducible apply pGe_int) | (with_reducible apply pNeg_int) | (with_reducible apply pAdd'_int) | (with_reducible apply pEq_int) | (with_reducible apply pNe_int) | ((with_reducible apply pMul_int) <;> walk_at "sm") | ((with_reducible apply pDiv_int) <;> walk_at "sm") | ((with_reducible apply pMod_int) <;> walk_at "sm") | exact rfl)
local macro_rules | `(tactic| walk_at "ev") => `(tactic| first | (with_reducible apply ev_c) | ((with_reducible apply ev_v); exact rfl) | (with_reducible apply av_nil) | (with_reducible apply tv_y) | ((with_reducible apply ev_2); (focus walk_at "ev"); (focus walk_at "ev"); (focus walk_at "pp")) | ((with_reducible apply ev_n); (focus walk_at "ev"); (focus walk_at "pp")) | ((with_reducible apply av_cons); (focus walk_at "ev"); (focus walk_at "ev")) | ((with_reducible apply ev_1); (focus walk_at "ev"); (focus walk_at "pp")) | ((with_reducible apply tv_v); (focus walk_at "ev")) | ((with_reducible apply ev_not); (focus walk_at "ev")) | ((with_reducible apply tv_n); (focus walk_at "ev")) | ((with_reducible apply iv_seq); (focus walk_at "ev"); exact rfl) | ((with_reducible apply iv_rng); (focus walk_at "ev"); exact rfl) | ((with_reducible apply iv_rev); (focus walk_at "ev")))
local macro_rules | `(tactic| walk_at "sv") => `(tactic| first | ((with_reducible apply sv_set); (focus walk_at "ev")) | ((with_reducible apply sv_asg); (focus walk_at "ev"); exact rfl) | ((with_reducible apply sv_par2); (focus walk_at "ev")) | ((with_reducible apply sv_par3); (focus walk_at "ev")) | ((with_reducible apply sv_ret); (focus walk_at "ev")) | ((with_reducible apply sv_drop); (focus walk_at "ev")) | (with_reducible apply sv_nil))
local macro_rules | `(tactic| walk_at "ls") => `(tactic| try simp only [startR, List.map_cons, List.map_nil, List.replicate, List.cons_append, List.nil_append, List.set_cons_zero, List.set_cons_succ])
local macro_rules | `(tactic| walk_at "go") => `(tactic| repeat ((with_reducible apply sv_seq); (focus walk_at "sv"); walk_at "ls"))
/-! ### the law of whole sums: its helpers -/
theorem pNe_same {x y : Int} (h : x = y) : pNe (.int x) (.int y) = some (.bl false) := by rw [pNe_int, h, decide_eq_true rfl]; rfl
theorem pEq_same {x y : Int} (h : x = y) : pEq (.int x) (.int y) = some (.bl true) := by rw [pEq_int, h, decide_eq_true rfl]
theorem pNe_three {x y z x' y' z' : Int} (h1 : x = x') (h2 : y = y') (h3 : z = z') : pNe (.tup [.int x, .int y, .int z]) (.tup [.int x', .int y', .int z']) = some (.bl false) := by
  subst h1; subst h2; subst h3
  have e : ueq (.tup [.int x, .int y, .int z]) (.tup [.int x, .int y, .int z]) = true := by simp [ueq, ueqAll]
  show (if deepB (.tup [.int x, .int y, .int z]) (.tup [.int x, .int y, .int z]) = true then some (U.bl (!ueq (.tup [.int x, .int y, .int z]) (.tup [.int x, .int y, .int z]))) else none) = _
  rw [e]
  rfl
theorem pEq_three {x y z x' y' z' : Int} (h1 : x = x') (h2 : y = y') (h3 : z = z') : pEq (.tup [.int x, .int y, .int z]) (.tup [.int x', .int y', .int z']) = some (.bl true) := by
  subst h1; subst h2; subst h3
  have e : ueq (.tup [.int x, .int y, .int z]) (.tup [.int x, .int y, .int z]) = true := by simp [ueq, ueqAll]
  show (if deepB (.tup [.int x, .int y, .int z]) (.tup [.int x, .int y, .int z]) = true then some (U.bl (ueq (.tup [.int x, .int y, .int z]) (.tup [.int x, .int y, .int z]))) else none) = _
  rw [e]
  rfl
theorem fS_ret {A : SF} {n m : Nat} {us : List U} {s s1 : Sst} {u : U} (hn : us.length = n) (h : A (none :: startR us m) s = .rt u s1) : runS A n m s us = .ok u s1 := by unfold runS; rw [if_pos hn, h]
theorem bn_top {x : Nat} (h : x ≤ 10000000000000000000000000000000000000000) : Bn 200 (x : Int) := Bn.of (by omega) (by omega)
theorem top_lt : (10000000000000000000000000000000000000000 : Nat) < 2 ^ 400 := by decide +kernel
def isI (x : Int) : R0 → Bool
  | .ok (.int y) => x == y
  | _ => false
theorem isI_eq {x : Int} {r : R0} (h : isI x r = true) : r = .ok (.int x) := by
  unfold isI at h
  split at h
  · rw [beq_iff_eq] at h; rw [h]
  · cases h
theorem ten_all : ∀ k : Nat, k < 41 → isI ((10 ^ k : Nat) : Int) (F__law_ten [.int (k : Int)]) = true := by decide +kernel
theorem ten_pow : ∀ k : Nat, k < 41 → 0 < 10 ^ k ∧ 10 ^ k ≤ 10000000000000000000000000000000000000000 := by decide +kernel
def isFib : R0 → Bool
  | .ok (.lst [.int a, .int b]) => decide (0 ≤ a ∧ a ≤ 10000000000000000000000000000000000000000 ∧ 0 < b ∧ b ≤ 10000000000000000000000000000000000000000)
  | _ => false
theorem isFib_eq {r : R0} (h : isFib r = true) : ∃ a b : Nat, a ≤ 10000000000000000000000000000000000000000 ∧ 0 < b ∧ b ≤ 10000000000000000000000000000000000000000 ∧ r = .ok (.lst [.int a, .int b]) := by
  unfold isFib at h
  split at h
  · rename_i a b
    obtain ⟨h1, h2, h3, h4⟩ := of_decide_eq_true h
    obtain ⟨a, rfl⟩ := Int.eq_ofNat_of_zero_le h1
    obtain ⟨b, rfl⟩ := Int.eq_ofNat_of_zero_le (Int.le_of_lt h3)
    exact ⟨a, b, by omega, by omega, by omega, rfl⟩
  · cases h
theorem fib_all : ∀ k ∈ [20, 90, 150, 188], isFib (F__law_fibonacci [.int k]) = true := by decide +kernel
theorem any_ok {t : Int} {s : Sst} (h : Wf t s) (ht : t < 1152921504606840000) : ∃ (r : Nat) (s' : Sst), F__law_any s [] = .ok (.int r) s' ∧ r < 10000000000000000000000000000000000000000 ∧ Wf (t + 8) s' := by
  obtain ⟨ρ1, s1, e1, w1, x, y, P, rfl, h0, h1⟩ := loop_inv (us := rngU 0 7 1) (g := gN 2) (A := sAsg (gN 1) (e2 pAdd (e2 pMul (eV 1) (e2 pPow (eC (.int 10)) (eC (.int 9)))) (eCallS 1 F__law_draw (aCons (e2 pPow (eC (.int 10)) (eC (.int 9))) aNil)))) (ρ := [none, some (.int 0), none]) (s := s)
    (fun i ρ s => Wf (t + i) s ∧ ∃ (x : Int) (y : Option U) (P : Int), ρ = [none, some (.int x), y] ∧ 0 ≤ x ∧ Bn (32 * i + 1) x) (by
      rintro i u ρ s hu ⟨hw, x, y, P, rfl, h0, h1⟩
      have hi : i < 7 := (List.getElem?_eq_some_iff.mp hu).1
      obtain ⟨d, s', e, d0, d1, w⟩ := draw_ok (n := 1000000000) hw (by decide) (Bn.of (by decide) (by decide)) (by omega)
      refine ⟨_, _, s', rfl, sv_set (ev_2 (ev_2 rfl (z := .int (x * 1000000000)) rfl (pMul_int (sm_bn h1 (by omega)) (by decide +kernel))) (ev_callS (us := [.int 1000000000]) (s1 := s) rfl rfl e) pAdd_int), ?_, _, _, P, rfl, by omega, ?_⟩
      · exact w.mono (by omega)
      · have h2 : x < 2 ^ (32 * i + 1) := by
          unfold Bn at h1
          have h3 : ((x.natAbs : Nat) : Int) = x := by omega
          have h4 : ((2 ^ (32 * i + 1) : Nat) : Int) = (2 : Int) ^ (32 * i + 1) := by simp
          omega
        refine Bn.of (by omega) ?_
        rw [show 32 * (i + 1) + 1 = (32 * i + 1) + 32 by omega, Int.pow_add]
        have : (2 : Int) ^ 32 = 4294967296 := by decide
        rw [this]
        omega) ⟨h.mono (by omega), 0, none, 0, rfl, by decide, by unfold Bn; decide⟩
  obtain ⟨d, s2, e2', d0, d1, w2⟩ := draw_ok (n := 40) w1 (by decide) (Bn.of (by decide) (by decide)) (by show t + ((rngU 0 7 1).length : Int) < _; rw [show (rngU 0 7 1).length = 7 from rfl]; omega)
  obtain ⟨d, rfl⟩ := Int.eq_ofNat_of_zero_le d0
  have ed : (1 : Int) + ((d : Nat) : Int) = ((d + 1 : Nat) : Int) := by push_cast; omega
  have et := isI_eq (ten_all (d + 1) (by omega))
  obtain ⟨p0, p1⟩ := ten_pow (d + 1) (by omega)
  obtain ⟨r, hr⟩ : ∃ r : Nat, x % ((10 ^ (d + 1) : Nat) : Int) = r := Int.eq_ofNat_of_zero_le (Int.emod_nonneg _ (by omega))
  have hr2 : (r : Int) < ((10 ^ (d + 1) : Nat) : Int) := by rw [← hr]; exact Int.emod_lt_of_pos _ (by omega)
  refine ⟨r, s2, ?_, by omega, w2.mono (by show t + ((rngU 0 7 1).length : Int) + 1 ≤ _; rw [show (rngU 0 7 1).length = 7 from rfl]; omega)⟩
  have run : f__law_any [none, none, none] s = .rt (.int r) s2 := by
    refine sv_seq (ρ1 := [none, some (.int 0), none]) (s1 := s) rfl (sv_seq (sv_for (us := rngU 0 7 1) (s1 := s) rfl e1) (sv_ret ?_))
    refine ev_2 (x := .int x) (s1 := s1) rfl (ev_call (us := [.int ((d + 1 : Nat) : Int)]) (s1 := s2) (av_cons (ev_2 (x := .int 1) (s1 := s1) rfl (ev_callS (us := [.int 40]) (s1 := s1) rfl rfl e2') (by rw [pAdd_int, ed])) av_nil) rfl et) ?_
    rw [pMod_int (by omega), hr]
  exact fS_ret rfl run
theorem pick_ok {t : Int} {s : Sst} {us : List U} {n : Nat} (h : Wf t s) (hl : us.length = n) (h0 : 0 < n) (h1 : n ≤ 1000) (ht : t < 1152921504606840000) : ∃ u ∈ us, ∃ s' : Sst, F__law_pick s [.lst us] = .ok u s' ∧ Wf (t + 1) s' := by
  obtain ⟨d, s2, e, d0, d1, w2⟩ := draw_ok (n := n) h (by omega) (Bn.of (by omega) (by omega)) (by omega)
  obtain ⟨d, rfl⟩ := Int.eq_ofNat_of_zero_le d0
  have hd : d < us.length := by omega
  refine ⟨us[d], List.getElem_mem hd, s2, ?_, w2⟩
  have run : f__law_pick [none, some (.lst us)] s = .rt us[d] s2 := by
    refine sv_ret (ev_2 (x := .lst us) (s1 := s) rfl (ev_callS (us := [.int n]) (s1 := s) (av_cons (ev_n (us := [.lst us]) (s1 := s) rfl (by show some (U.int us.length) = _; rw [hl])) av_nil) rfl e) ?_)
    show (ixN us.length (d : Int)).bind (fun j => us[j]?) = _
    rw [ixN, if_pos (show (0 : Int) ≤ d by omega), if_pos (show (d : Int) < us.length by omega), Option.bind_some, Int.toNat_natCast, List.getElem?_eq_getElem hd]
  exact fS_ret rfl run
end My

set_option linter.all false
set_option maxRecDepth 100000
set_option maxHeartbeats 4000000
namespace My
open PySem PySem.Spec PyProof.Rows L2
local macro_rules | `(tactic| walk_at "bn") => `(tactic| repeat (first | (with_reducible assumption) | (with_reducible apply Bn.mul) | (with_reducible apply Bn.add) | (with_reducible apply Bn.sub) | (with_reducible apply Bn.div) | (with_reducible apply Bn.mod) | (with_reducible apply bn2) | (with_reducible apply bn1) | (with_reducible apply bn3) | (with_reducible apply bn0) | (with_reducible apply bn10) | exact Bn.lit rfl))
local macro_rules | `(tactic| walk_at "sm") => `(tactic| first | (with_reducible assumption) | ((with_reducible apply sm_bn); (focus walk_at "bn"); decide) | ((with_reducible apply bd_bn); (focus walk_at "bn"); decide) | omega)
local macro_rules | `(tactic| walk_at "pp") => `(tactic| first | (with_reducible apply pAdd_int) | (with_reducible apply pSub_int) | (with_reducible apply pLt_int) | (with_reducible apply pLe_int) | (with_reducible apply pGt_int) | (with_reducible apply pGe_int) | (with_reducible apply pNeg_int) | (with_reducible apply pAdd'_int) | (with_reducible apply pEq_int) | (with_reducible apply pNe_int) | ((with_reducible apply pMul_int) <;> walk_at "sm") | ((with_reducible apply pDiv_int) <;> walk_at "sm") | ((with_reducible apply pMod_int) <;> walk_at "sm") | exact rfl)
local macro_rules | `(tactic| walk_at "ev") => `(tactic| first | (with_reducible apply ev_c) | ((with_reducible apply ev_v); exact rfl) | (with_reducible apply av_nil) | (with_reducible apply tv_y) | ((with_reducible apply ev_2); (focus walk_at "ev"); (focus walk_at "ev"); (focus walk_at "pp")) | ((with_reducible apply ev_n); (focus walk_at "ev"); (focus walk_at "pp")) | ((with_reducible apply av_cons); (focus walk_at "ev"); (focus walk_at "ev")) | ((with_reducible apply ev_1); (focus walk_at "ev"); (focus walk_at "pp")) | ((with_reducible apply tv_v); (focus walk_at "ev")) | ((with_reducible apply ev_not); (focus walk_at "ev")) | ((with_reducible apply tv_n); (focus walk_at "ev")) | ((with_reducible apply iv_seq); (focus walk_at "ev"); exact rfl) | ((with_reducible apply iv_rng); (focus walk_at "ev"); exact rfl) | ((with_reducible apply iv_rev); (focus walk_at "ev")))
local macro_rules | `(tactic| walk_at "sv") => `(tactic| first | ((with_reducible apply sv_set); (focus walk_at "ev")) | ((with_reducible apply sv_asg); (focus walk_at "ev"); exact rfl) | ((with_reducible apply sv_par2); (focus walk_at "ev")) | ((with_reducible apply sv_par3); (focus walk_at "ev")) | ((with_reducible apply sv_ret); (focus walk_at "ev")) | ((with_reducible apply sv_drop); (focus walk_at "ev")) | (with_reducible apply sv_nil))
local macro_rules | `(tactic| walk_at "ls") => `(tactic| try simp only [startR, List.map_cons, List.map_nil, List.replicate, List.cons_append, List.nil_append, List.set_cons_zero, List.set_cons_succ])
local macro_rules | `(tactic| walk_at "go") => `(tactic| repeat ((with_reducible apply sv_seq); (focus walk_at "sv"); walk_at "ls"))
/-! ### the four questions of the law of whole sums -/
theorem lit_top : ((10000000000000000000000000000000000000000 : Nat) : Int) = 10000000000000000000000000000000000000000 := rfl
theorem parts_ok {q p a b m : Nat} (hm : 0 < m) (h1 : p + q ≤ 10000000000000000000000000000000000000000) (h2 : a ≤ 10000000000000000000000000000000000000000) (h3 : b + a * p ≤ 10000000000000000000000000000000000000000) (h4 : m ≤ 10000000000000000000000000000000000000000) :
    F__law_parts_right [.int (p + q : Nat), .int a, .int b, .int m, .int p] = .ok (.bl true) := by
  have hb : b ≤ 10000000000000000000000000000000000000000 := by omega
  have e1 := sums_ok (n := p + q) (a := a) (b := b) (m := m) hm h1 h2 hb h4
  have e2 := sums_ok (n := p) (a := a) (b := b) (m := m) hm (by omega) h2 hb h4
  have e3 := sums_ok (n := q) (a := a) (b := b + a * p) (m := m) hm (by omega) h2 h3 h4
  obtain ⟨g0, -, -⟩ := S_bd (n := q) (a := a) (b := b + a * p) (m := m) (Nat.lt_of_le_of_lt (by omega) top_lt) (Nat.lt_of_le_of_lt h2 top_lt) (Nat.lt_of_le_of_lt h3 top_lt)
  have i1 : ((p + q : Nat) : Int) - (p : Int) = (q : Int) := by push_cast; omega
  have i2 : (b : Int) + (a : Int) * (p : Int) = ((b + a * p : Nat) : Int) := by push_cast; rfl
  have hp := bn_top (x := p) (by omega)
  refine fv_ret (s1 := dSst) rfl (sv_seq (sv_asg (ev_call (us := [.int (p + q : Nat), .int a, .int b, .int m]) (s1 := dSst) rfl rfl e1) rfl) (sv_seq (sv_set (ev_call (us := [.int p, .int a, .int b, .int m]) (s1 := dSst) rfl rfl e2)) (sv_seq (sv_set (ev_call (us := [.int q, .int a, .int (b + a * p : Nat), .int m]) (s1 := dSst) (av_cons (ev_2 rfl rfl (by rw [pSub_int, i1])) (av_cons rfl (av_cons (ev_2 rfl (ev_2 rfl rfl (pMul_int (sm_bn (bn_top h2) (by decide)) (sm_bn hp (by decide)))) (by rw [pAdd_int, i2])) (av_cons rfl av_nil)))) rfl e3)) (sv_seq (s1 := dSst) (sv_ifF (s1 := dSst) ?_ rfl) (sv_ret (s1 := dSst) ?_)))))
  · exact tv_or (k := false) (k' := false) (tv_v (ev_2 rfl (ev_2 (ev_2 rfl rfl rfl) (ev_2 rfl rfl rfl) pAdd_int) (pNe_same (S0_app p q a b m)))) fun _ => tv_v (ev_2 rfl (ev_2 (ev_2 rfl rfl rfl) (ev_2 rfl rfl rfl) pAdd_int) (pNe_same (S2_app p q a b m)))
  · exact ev_2 rfl (ev_2 (ev_2 (ev_2 rfl rfl rfl) (ev_2 rfl rfl rfl) pAdd_int) (ev_2 rfl (ev_2 rfl rfl rfl) (pMul_int (sm_bn hp (by decide)) (sm_bn g0 (by decide)))) pAdd_int) (pEq_same (S1_app p q a b m))
theorem plain_ok {n : Nat} (h : n ≤ 10000000000000000000000000000000000000000) : F__law_plain [.int n] = .ok (.lst [.int (T1 n), .int (T2 n)]) := by
  have hn := bn_top h
  have h1 : Bn 202 ((n : Int) - 1) := hn.sub bn1
  have h2 : Bn 204 (2 * (n : Int) - 1) := (bn2.mul hn).sub bn1 |>.mono (by decide)
  refine fv_ret (s1 := dSst) rfl (sv_ret (ev_n (us := [.int (T1 n), .int (T2 n)]) (s1 := dSst) (av_cons (s1 := dSst) ?_ (av_cons (s1 := dSst) ?_ av_nil)) rfl))
  · exact ev_2 (ev_2 rfl (ev_2 rfl rfl pSub_int) (pMul_int (sm_bn hn (by decide)) (sm_bn h1 (by decide)))) rfl (by rw [pDiv_int (by decide) (by decide +kernel), T1_eq])
  · exact ev_2 (ev_2 (ev_2 (ev_2 rfl rfl pSub_int) rfl (pMul_int (sm_bn h1 (by decide)) (sm_bn hn (by decide)))) (ev_2 (ev_2 rfl rfl (pMul_int (by decide +kernel) (sm_bn hn (by decide)))) rfl pSub_int) (pMul_int (sm_bn (h1.mul hn) (by decide)) (sm_bn h2 (by decide)))) rfl (by rw [pDiv_int (by decide) (by decide +kernel), T2_eq])
theorem T_bd {n : Nat} (h : n ≤ 10000000000000000000000000000000000000000) : Bn 2400 (T1 n) ∧ Bn 2400 (T2 n) := by
  have e1 : T1 n = S0 n 1 0 1 := sumTo_ext fun k _ => by unfold flo; simp
  have e2 : T2 n = S2 n 1 0 1 := sumTo_ext fun k _ => by unfold flo; simp
  obtain ⟨g0, -, g2⟩ := S_bd (n := n) (a := 1) (b := 0) (m := 1) (Nat.lt_of_le_of_lt h top_lt) (by decide +kernel) (by decide +kernel)
  exact ⟨e1 ▸ g0, e2 ▸ g2⟩
theorem shifted_ok {n a b m c : Nat} (hm : 0 < m) (h1 : n ≤ 10000000000000000000000000000000000000000) (h2 : a + c * m ≤ 10000000000000000000000000000000000000000) (h3 : b + c * m ≤ 10000000000000000000000000000000000000000) (h4 : m ≤ 10000000000000000000000000000000000000000) (h5 : c ≤ 1000000) :
    F__law_shifted_right [.int n, .int a, .int b, .int m, .int c] = .ok (.bl true) := by
  have e1 := sums_ok (n := n) (a := a) (b := b) (m := m) hm h1 (by omega) (by omega) h4
  have e2 := sums_ok (n := n) (a := a) (b := b + c * m) (m := m) hm h1 (by omega) h3 h4
  have e3 := sums_ok (n := n) (a := a + c * m) (b := b) (m := m) hm h1 h2 (by omega) h4
  obtain ⟨g0, g1, -⟩ := S_bd (n := n) (a := a) (b := b) (m := m) (Nat.lt_of_le_of_lt h1 top_lt) (Nat.lt_of_le_of_lt (by omega) top_lt) (Nat.lt_of_le_of_lt (by omega) top_lt)
  obtain ⟨t1, t2⟩ := T_bd h1
  have i1 : (b : Int) + (c : Int) * (m : Int) = ((b + c * m : Nat) : Int) := by push_cast; rfl
  have i2 : (a : Int) + (c : Int) * (m : Int) = ((a + c * m : Nat) : Int) := by push_cast; rfl
  have hn := bn_top h1
  have hc := bn_top (x := c) (by omega)
  have hmm := bn_top h4
  have hcc := hc.mul hc
  have h2c := bn2.mul hc
  have sm2 : smB 2 = true := by decide +kernel
  refine fv_ret (s1 := dSst) rfl (sv_seq (sv_asg (ev_call (us := [.int n, .int a, .int b, .int m]) (s1 := dSst) rfl rfl e1) rfl) (sv_seq (sv_asg (ev_call (us := [.int n]) (s1 := dSst) rfl rfl (plain_ok h1)) rfl) (sv_seq (sv_set (ev_call (us := [.int n, .int a, .int (b + c * m : Nat), .int m]) (s1 := dSst) (av_cons rfl (av_cons rfl (av_cons (ev_2 rfl (ev_2 rfl rfl (pMul_int (sm_bn hc (by decide)) (sm_bn hmm (by decide)))) (by rw [pAdd_int, i1])) (av_cons rfl av_nil)))) rfl e2)) (sv_seq (sv_set (s1 := dSst) (ev_2 (ev_2 rfl (ev_2 (ev_2 rfl rfl (pMul_int sm2 (sm_bn hc (by decide)))) rfl (pMul_int (sm_bn h2c (by decide)) (sm_bn g0 (by decide)))) pAdd_int) (ev_2 (ev_2 rfl rfl (pMul_int (sm_bn hc (by decide)) (sm_bn hc (by decide)))) rfl (pMul_int (sm_bn hcc (by decide)) (sm_bn hn (by decide)))) pAdd_int)) (sv_seq (s1 := dSst) (sv_ifF (s1 := dSst) ?_ rfl) (sv_seq (sv_set (ev_call (us := [.int n, .int (a + c * m : Nat), .int b, .int m]) (s1 := dSst) (av_cons rfl (av_cons (ev_2 rfl (ev_2 rfl rfl (pMul_int (sm_bn hc (by decide)) (sm_bn hmm (by decide)))) (by rw [pAdd_int, i2])) (av_cons rfl (av_cons rfl av_nil)))) rfl e3)) (sv_seq (sv_set (s1 := dSst) (ev_2 (ev_2 rfl (ev_2 (ev_2 rfl rfl (pMul_int sm2 (sm_bn hc (by decide)))) rfl (pMul_int (sm_bn h2c (by decide)) (sm_bn g1 (by decide)))) pAdd_int) (ev_2 (ev_2 rfl rfl (pMul_int (sm_bn hc (by decide)) (sm_bn hc (by decide)))) rfl (pMul_int (sm_bn hcc (by decide)) (sm_bn t2 (by decide)))) pAdd_int)) (sv_ret (s1 := dSst) ?_))))))))
  · exact tv_v (ev_2 rfl (ev_n (av_cons (ev_2 rfl (ev_2 rfl rfl (pMul_int (sm_bn hc (by decide)) (sm_bn hn (by decide)))) pAdd_int) (av_cons (ev_2 rfl (ev_2 rfl rfl (pMul_int (sm_bn hc (by decide)) (sm_bn t1 (by decide)))) pAdd_int) (av_cons rfl av_nil))) rfl) (pNe_three (S0_more c hm) (S1_more c hm) (S2_more c hm)))
  · exact ev_2 rfl (ev_n (av_cons (ev_2 rfl (ev_2 rfl rfl (pMul_int (sm_bn hc (by decide)) (sm_bn t1 (by decide)))) pAdd_int) (av_cons (ev_2 rfl (ev_2 rfl rfl (pMul_int (sm_bn hc (by decide)) (sm_bn t2 (by decide)))) pAdd_int) (av_cons rfl av_nil))) rfl) (pEq_three (S0_step c hm) (S1_step c hm) (S2_step c hm))
theorem turned_ok {n a b m : Nat} (hm : 0 < m) (h1 : n ≤ 10000000000000000000000000000000000000000) (h4 : m ≤ 10000000000000000000000000000000000000000) :
    F__law_turned_right [.int n, .int a, .int b, .int m] = .ok (.bl true) := by
  have ha := Nat.mod_lt a hm
  have hb := Nat.mod_lt b hm
  have e1 := sums_ok (n := n) (a := a % m) (b := b % m) (m := m) hm h1 (by omega) (by omega) h4
  have e2 := sums_ok (n := n) (a := m - a % m) (b := m - 1 - b % m) (m := m) hm h1 (by omega) (by omega) h4
  have i1 : (a : Int) % (m : Int) = ((a % m : Nat) : Int) := by push_cast; rfl
  have i2 : (b : Int) % (m : Int) = ((b % m : Nat) : Int) := by push_cast; rfl
  have i3 : (m : Int) - ((a % m : Nat) : Int) = ((m - a % m : Nat) : Int) := by omega
  have i4 : (m : Int) - 1 - ((b % m : Nat) : Int) = ((m - 1 - b % m : Nat) : Int) := by omega
  refine fv_ret (s1 := dSst) rfl (sv_seq (s1 := dSst) (sv_par2 (u := .int (a % m : Nat)) (w := .int (b % m : Nat)) (av_cons (ev_2 rfl rfl (by rw [pMod_int (by omega), i1])) (av_cons (ev_2 rfl rfl (by rw [pMod_int (by omega), i2])) av_nil))) (sv_seq (s1 := dSst) (sv_set (ev_2 (s2 := dSst) (ev_call (us := [.int n, .int (a % m : Nat), .int (b % m : Nat), .int m]) (s1 := dSst) rfl rfl e1) rfl rfl)) (sv_seq (s1 := dSst) (sv_set (ev_2 (s2 := dSst) (ev_call (us := [.int n, .int (m - a % m : Nat), .int (m - 1 - b % m : Nat), .int m]) (s1 := dSst) (av_cons rfl (av_cons (ev_2 rfl rfl (by rw [pSub_int, i3])) (av_cons (ev_2 (ev_2 rfl rfl pSub_int) rfl (by rw [pSub_int, i4])) (av_cons rfl av_nil)))) rfl e2) rfl rfl)) (sv_ret (s1 := dSst) ?_))))
  exact ev_2 (ev_2 rfl rfl pAdd_int) (ev_2 (ev_call (us := [.int n]) (s1 := dSst) rfl rfl (plain_ok h1)) rfl rfl) (pEq_same (S0_flip ha hb))
theorem few_ok {a b m : Nat} (hm : 0 < m) (h2 : a ≤ 10000000000000000000000000000000000000000) (h3 : b ≤ 10000000000000000000000000000000000000000) (h4 : m ≤ 10000000000000000000000000000000000000000) :
    F__law_few_right [.int a, .int b, .int m] = .ok (.bl true) := by
  have e1 := sums_ok (n := 1) (a := a) (b := b) (m := m) hm (by decide) h2 h3 h4
  have e2 := sums_ok (n := 2) (a := a) (b := b) (m := m) hm (by decide) h2 h3 h4
  have i1 : (b : Int) / (m : Int) = ((b / m : Nat) : Int) := by push_cast; rfl
  have i2 : ((a : Int) + (b : Int)) / (m : Int) = (((a + b) / m : Nat) : Int) := by push_cast; rfl
  have hmm := bd_bn (bn_top h4) (by decide)
  have hx : Bn 200 ((b / m : Nat) : Int) := bn_top (Nat.le_trans (Nat.div_le_self _ _) h3)
  have hy : Bn 401 (((a + b) / m : Nat) : Int) := by rw [← i2]; exact Bn.div ((bn_top h2).add (bn_top h3))
  obtain ⟨o0, o1, o2⟩ := S_one (a := a) (b := b) (m := m)
  obtain ⟨w0, w1, w2⟩ := S_two (a := a) (b := b) (m := m)
  refine fv_ret (s1 := dSst) rfl (sv_seq (s1 := dSst) (sv_par2 (u := .int (b / m : Nat)) (w := .int ((a + b) / m : Nat)) (av_cons (ev_2 rfl rfl (by rw [pDiv_int (by omega) hmm, i1])) (av_cons (ev_2 (ev_2 rfl rfl pAdd_int) rfl (by rw [pDiv_int (by omega) hmm, i2])) av_nil))) (sv_seq (s1 := dSst) (sv_ifF (s1 := dSst) ?_ rfl) (sv_ret (s1 := dSst) ?_)))
  · exact tv_v (ev_2 (ev_call (us := [.int (1 : Nat), .int a, .int b, .int m]) (s1 := dSst) rfl rfl e1) (ev_n (av_cons rfl (av_cons rfl (av_cons (ev_2 rfl rfl (pMul_int (sm_bn hx (by decide)) (sm_bn hx (by decide)))) av_nil))) rfl) (pNe_three o0 o1 o2))
  · exact ev_2 (ev_call (us := [.int (2 : Nat), .int a, .int b, .int m]) (s1 := dSst) rfl rfl e2) (ev_n (av_cons (ev_2 rfl rfl pAdd_int) (av_cons rfl (av_cons (ev_2 (ev_2 rfl rfl (pMul_int (sm_bn hx (by decide)) (sm_bn hx (by decide)))) (ev_2 rfl rfl (pMul_int (sm_bn hy (by decide)) (sm_bn hy (by decide)))) pAdd_int) av_nil))) rfl) (pEq_three w0 w1 w2)
end My

set_option linter.all false
set_option maxRecDepth 100000
set_option maxHeartbeats 4000000
namespace My
open PySem PySem.Spec PyProof.Rows L2
local macro_rules | `(tactic| walk_at "bn") => `(tactic| repeat (first | (with_reducible assumption) | (with_reducible apply Bn.mul) | (with_reducible apply Bn.add) | (with_reducible apply Bn.sub) | (with_reducible apply Bn.div) | (with_reducible apply Bn.mod) | (with_reducible apply bn2) | (with_reducible apply bn1) | (with_reducible apply bn3) | (with_reducible apply bn0) | (with_reducible apply bn10) | exact Bn.lit rfl))
local macro_rules | `(tactic| walk_at "sm") => `(tactic| first | (with_reducible assumption) | ((with_reducible apply sm_bn); (focus walk_at "bn"); decide) | ((with_reducible apply bd_bn); (focus walk_at "bn"); decide) | omega)
local macro_rules | `(tactic| walk_at "pp") => `(tactic| first | (with_reducible apply pAdd_int) | (with_reducible apply pSub_int) | (with_reducible apply pLt_int) | (with_reducible apply pLe_int) | (with_reducible apply pGt_int) | (with_reducible apply pGe_int) | (with_reducible apply pNeg_int) | (with_reducible apply pAdd'_int) | (with_reducible apply pEq_int) | (with_reducible apply pNe_int) | ((with_reducible apply pMul_int) <;> walk_at "sm") | ((with_reducible apply pDiv_int) <;> walk_at "sm") | ((with_reducible apply pMod_int) <;> walk_at "sm") | exact rfl)
local macro_rules | `(tactic| walk_at "ev") => `(tactic| first | (with_reducible apply ev_c) | ((with_reducible apply ev_v); exact rfl) | (with_reducible apply av_nil) | (with_reducible apply tv_y) | ((with_reducible apply ev_2); (focus walk_at "ev"); (focus walk_at "ev"); (focus walk_at "pp")) | ((with_reducible apply ev_n); (focus walk_at "ev"); (focus walk_at "pp")) | ((with_reducible apply av_cons); (focus walk_at "ev"); (focus walk_at "ev")) | ((with_reducible apply ev_1); (focus walk_at "ev"); (focus walk_at "pp")) | ((with_reducible apply tv_v); (focus walk_at "ev")) | ((with_reducible apply ev_not); (focus walk_at "ev")) | ((with_reducible apply tv_n); (focus walk_at "ev")) | ((with_reducible apply iv_seq); (focus walk_at "ev"); exact rfl) | ((with_reducible apply iv_rng); (focus walk_at "ev"); exact rfl) | ((with_reducible apply iv_rev); (focus walk_at "ev")))
local macro_rules | `(tactic| walk_at "sv") => `(tactic| first | ((with_reducible apply sv_set); (focus walk_at "ev")) | ((with_reducible apply sv_asg); (focus walk_at "ev"); exact rfl) | ((with_reducible apply sv_par2); (focus walk_at "ev")) | ((with_reducible apply sv_par3); (focus walk_at "ev")) | ((with_reducible apply sv_ret); (focus walk_at "ev")) | ((with_reducible apply sv_drop); (focus walk_at "ev")) | (with_reducible apply sv_nil))
local macro_rules | `(tactic| walk_at "ls") => `(tactic| try simp only [startR, List.map_cons, List.map_nil, List.replicate, List.cons_append, List.nil_append, List.set_cons_zero, List.set_cons_succ])
local macro_rules | `(tactic| walk_at "go") => `(tactic| repeat ((with_reducible apply sv_seq); (focus walk_at "sv"); walk_at "ls"))
def turn42 : SF := (sSeq (sPar [3, 4] (aCons (eCallS 0 F__law_any aNil) (aCons (eCallS 0 F__law_any aNil) aNil))) (sSeq (sPar [5, 6] (aCons (eCallS 0 F__law_any aNil) (aCons (e2 pAdd (eC (.int 1)) (eCallS 0 F__law_any aNil)) aNil))) (sSeq (sIf (tV (e2 pEq (e2 pMod (eV 2) (eC (.int 4))) (eC (.int 0)))) (sSeq (sAsg (gL (gsCons (gN 4) (gsCons (gN 6) gsNil))) (eCall 1 F__law_fibonacci (aCons (eCallS 1 F__law_pick (aCons (eN pLst (aCons (eC (.int 20)) (aCons (eC (.int 90)) (aCons (eC (.int 150)) (aCons (eC (.int 188)) aNil))))) aNil)) aNil))) (sAsg (gN 5) (eCallS 1 F__law_pick (aCons (eN pLst (aCons (eC (.int 0)) (aCons (eC (.int 1)) (aCons (e2 pSub (eV 6) (eC (.int 1))) (aCons (eV 4) aNil))))) aNil)))) sNil) (sSeq (sAsg (gN 7) (eCallS 0 F__law_any aNil)) (sSeq (sAsg (gN 8) (eN pMin2 (aCons (eV 3) (aCons (eV 7) aNil)))) (sSeq (sIf (tA (tV (e2 pLe (e2 pAdd (e2 pMul (eV 4) (eV 8)) (eV 5)) (e2 pPow (eC (.int 10)) (eC (.int 40))))) (tN (tT (eCall 5 F__law_parts_right (aCons (eV 3) (aCons (eV 4) (aCons (eV 5) (aCons (eV 6) (aCons (eV 8) aNil))))))))) (sRet (eC (.bl false))) sNil) (sSeq (sAsg (gN 9) (eCallS 1 F__law_draw (aCons (e2 pPow (eC (.int 10)) (eC (.int 6))) aNil))) (sSeq (sIf (tA (tV (e2 pLe (e2 pAdd (eV 5) (e2 pMul (eV 9) (eV 6))) (e2 pPow (eC (.int 10)) (eC (.int 40))))) (tV (e2 pLe (e2 pAdd (eV 4) (e2 pMul (eV 9) (eV 6))) (e2 pPow (eC (.int 10)) (eC (.int 40)))))) (sIf (tN (tT (eCall 5 F__law_shifted_right (aCons (eV 3) (aCons (eV 4) (aCons (eV 5) (aCons (eV 6) (aCons (eV 9) aNil)))))))) (sRet (eC (.bl false))) sNil) sNil) (sIf (tO (tN (tT (eCall 4 F__law_turned_right (aCons (eV 3) (aCons (eV 4) (aCons (eV 5) (aCons (eV 6) aNil))))))) (tN (tT (eCall 3 F__law_few_right (aCons (eV 4) (aCons (eV 5) (aCons (eV 6) aNil))))))) (sRet (eC (.bl false))) sNil)))))))))
def first42 : SF := (sIf (tV (e2 pEq (e2 pMod (eV 2) (eC (.int 4))) (eC (.int 0)))) (sSeq (sAsg (gL (gsCons (gN 4) (gsCons (gN 6) gsNil))) (eCall 1 F__law_fibonacci (aCons (eCallS 1 F__law_pick (aCons (eN pLst (aCons (eC (.int 20)) (aCons (eC (.int 90)) (aCons (eC (.int 150)) (aCons (eC (.int 188)) aNil))))) aNil)) aNil))) (sAsg (gN 5) (eCallS 1 F__law_pick (aCons (eN pLst (aCons (eC (.int 0)) (aCons (eC (.int 1)) (aCons (e2 pSub (eV 6) (eC (.int 1))) (aCons (eV 4) aNil))))) aNil)))) sNil)
def tail42 : SF := (sSeq (sAsg (gN 7) (eCallS 0 F__law_any aNil)) (sSeq (sAsg (gN 8) (eN pMin2 (aCons (eV 3) (aCons (eV 7) aNil)))) (sSeq (sIf (tA (tV (e2 pLe (e2 pAdd (e2 pMul (eV 4) (eV 8)) (eV 5)) (e2 pPow (eC (.int 10)) (eC (.int 40))))) (tN (tT (eCall 5 F__law_parts_right (aCons (eV 3) (aCons (eV 4) (aCons (eV 5) (aCons (eV 6) (aCons (eV 8) aNil))))))))) (sRet (eC (.bl false))) sNil) (sSeq (sAsg (gN 9) (eCallS 1 F__law_draw (aCons (e2 pPow (eC (.int 10)) (eC (.int 6))) aNil))) (sSeq (sIf (tA (tV (e2 pLe (e2 pAdd (eV 5) (e2 pMul (eV 9) (eV 6))) (e2 pPow (eC (.int 10)) (eC (.int 40))))) (tV (e2 pLe (e2 pAdd (eV 4) (e2 pMul (eV 9) (eV 6))) (e2 pPow (eC (.int 10)) (eC (.int 40)))))) (sIf (tN (tT (eCall 5 F__law_shifted_right (aCons (eV 3) (aCons (eV 4) (aCons (eV 5) (aCons (eV 6) (aCons (eV 9) aNil)))))))) (sRet (eC (.bl false))) sNil) sNil) (sIf (tO (tN (tT (eCall 4 F__law_turned_right (aCons (eV 3) (aCons (eV 4) (aCons (eV 5) (aCons (eV 6) aNil))))))) (tN (tT (eCall 3 F__law_few_right (aCons (eV 4) (aCons (eV 5) (aCons (eV 6) aNil))))))) (sRet (eC (.bl false))) sNil))))))
theorem turn42_eq : turn42 = (sSeq (sPar [3, 4] (aCons (eCallS 0 F__law_any aNil) (aCons (eCallS 0 F__law_any aNil) aNil))) (sSeq (sPar [5, 6] (aCons (eCallS 0 F__law_any aNil) (aCons (e2 pAdd (eC (.int 1)) (eCallS 0 F__law_any aNil)) aNil))) (sSeq first42 tail42))) := rfl
def R42 (x2 x3 x4 x5 x6 x7 x8 x9 : Option U) : Rho := [none, none, x2, x3, x4, x5, x6, x7, x8, x9]
def I42 (j : Nat) (ρ : Rho) (s : Sst) : Prop := Wf (60 * j) s ∧ ∃ x2 x3 x4 x5 x6 x7 x8 x9, ρ = R42 x2 x3 x4 x5 x6 x7 x8 x9
/-- the step, the beginning and the divisor behind the first choice -/
theorem first_ok {i n a b m : Nat} {x7 x8 x9 : Option U} {t : Int} {s : Sst} (hw : Wf t s) (ht : t < 1000000000000) (h2 : a ≤ 10000000000000000000000000000000000000000) (h3 : b ≤ 10000000000000000000000000000000000000000) (h0 : 0 < m) (h4 : m ≤ 10000000000000000000000000000000000000000) :
    ∃ (a' b' m' : Nat) (s' : Sst), first42 (R42 (some (.int i)) (some (.int n)) (some (.int a)) (some (.int b)) (some (.int m)) x7 x8 x9) s = .nx (R42 (some (.int i)) (some (.int n)) (some (.int a')) (some (.int b')) (some (.int m')) x7 x8 x9) s' ∧ a' ≤ 10000000000000000000000000000000000000000 ∧ b' ≤ 10000000000000000000000000000000000000000 ∧ 0 < m' ∧ m' ≤ 10000000000000000000000000000000000000000 ∧ Wf (t + 2) s' := by
  by_cases c : (i : Int) % 4 = 0
  · obtain ⟨u, hu, s1, e1, w1⟩ := pick_ok (n := 4) (us := [.int 20, .int 90, .int 150, .int 188]) hw rfl (by decide) (by decide) (by omega)
    obtain ⟨k, hk, rfl⟩ : ∃ k ∈ [(20 : Int), 90, 150, 188], u = .int k := by
      simp only [List.mem_cons, List.not_mem_nil, or_false] at hu
      rcases hu with rfl | rfl | rfl | rfl <;> exact ⟨_, by decide, rfl⟩
    obtain ⟨a', m', q1, q2, q3, q4⟩ := isFib_eq (fib_all k hk)
    obtain ⟨v, hv, s2, e2, w2⟩ := pick_ok (n := 4) (us := [.int 0, .int 1, .int ((m' : Int) - 1), .int a']) w1 rfl (by decide) (by decide) (by omega)
    obtain ⟨b', hb, rfl⟩ : ∃ b' : Nat, b' ≤ 10000000000000000000000000000000000000000 ∧ v = .int b' := by
      simp only [List.mem_cons, List.not_mem_nil, or_false] at hv
      rcases hv with rfl | rfl | rfl | rfl
      · exact ⟨0, by decide, rfl⟩
      · exact ⟨1, by decide, rfl⟩
      · exact ⟨m' - 1, by omega, by rw [show ((m' - 1 : Nat) : Int) = (m' : Int) - 1 by omega]⟩
      · exact ⟨a', q1, rfl⟩
    refine ⟨a', b', m', s2, ?_, q1, hb, q2, q3, w2.mono (by omega)⟩
    refine sv_ifT (s1 := s) (tv_v (ev_2 (ev_2 rfl rfl (pMod_int (by decide))) rfl (pEq_same c))) (sv_seq (ρ1 := R42 (some (.int i)) (some (.int n)) (some (.int a')) (some (.int b)) (some (.int m')) x7 x8 x9) (s1 := s1) ?_ ?_)
    · exact sv_asg (u := .lst [.int a', .int m']) (ev_call (us := [.int k]) (s1 := s1) (av_cons (ev_callS (us := [.lst [.int 20, .int 90, .int 150, .int 188]]) (s1 := s) rfl rfl e1) av_nil) rfl q4) rfl
    · exact sv_set (ev_callS (us := [.lst [.int 0, .int 1, .int ((m' : Int) - 1), .int a']]) (s1 := s1) rfl rfl e2)
  · refine ⟨a, b, m, s, ?_, h2, h3, h0, h4, hw.mono (by omega)⟩
    exact sv_ifF (s1 := s) (tv_v (ev_2 (ev_2 rfl rfl (pMod_int (by decide))) rfl (by rw [pEq_int, decide_eq_false c]))) rfl
theorem tail_ok {i n a b m : Nat} {x7 x8 x9 : Option U} {t : Int} {s : Sst} (hw : Wf t s) (ht : t < 1000000000000) (h1 : n ≤ 10000000000000000000000000000000000000000) (h2 : a ≤ 10000000000000000000000000000000000000000) (h3 : b ≤ 10000000000000000000000000000000000000000) (h0 : 0 < m) (h4 : m ≤ 10000000000000000000000000000000000000000) :
    ∃ x7' x8' x9' s', tail42 (R42 (some (.int i)) (some (.int n)) (some (.int a)) (some (.int b)) (some (.int m)) x7 x8 x9) s = .nx (R42 (some (.int i)) (some (.int n)) (some (.int a)) (some (.int b)) (some (.int m)) x7' x8' x9') s' ∧ Wf (t + 9) s' := by
  obtain ⟨p, s1, e1, hp, w1⟩ := any_ok hw (by omega)
  obtain ⟨c, s2, e2, c0, c1, w2⟩ := draw_ok (n := 1000000) w1 (by decide) (Bn.of (by decide) (by decide)) (by omega)
  obtain ⟨c, rfl⟩ := Int.eq_ofNat_of_zero_le c0
  obtain ⟨r, hr, hrn, hrp⟩ : ∃ r : Nat, (if (p : Int) < (n : Int) then (p : Int) else (n : Int)) = (r : Int) ∧ r ≤ n ∧ r ≤ p := by
    split
    · exact ⟨p, rfl, by omega, by omega⟩
    · exact ⟨n, rfl, by omega, by omega⟩
  obtain ⟨q, rfl⟩ : ∃ q, n = r + q := ⟨n - r, by omega⟩
  have bm := bn_top h4
  have ba := bn_top h2
  have br := bn_top (x := r) (by omega)
  have bc := bn_top (x := c) (by omega)
  have i1 : (a : Int) * (r : Int) + (b : Int) = ((b + a * r : Nat) : Int) := by push_cast; omega
  have i2 : (b : Int) + (c : Int) * (m : Int) = ((b + c * m : Nat) : Int) := by push_cast; rfl
  have i3 : (a : Int) + (c : Int) * (m : Int) = ((a + c * m : Nat) : Int) := by push_cast; rfl
  refine ⟨some (.int p), some (.int r), some (.int c), s2, ?_, w2.mono (by omega)⟩
  refine sv_seq (ρ1 := R42 (some (.int i)) (some (.int (r + q : Nat))) (some (.int a)) (some (.int b)) (some (.int m)) (some (.int p)) x8 x9) (s1 := s1) (sv_set (ev_callS (us := []) (s1 := s) rfl rfl e1)) ?_
  refine sv_seq (ρ1 := R42 (some (.int i)) (some (.int (r + q : Nat))) (some (.int a)) (some (.int b)) (some (.int m)) (some (.int p)) (some (.int r)) x9) (s1 := s1) (sv_set (u := .int r) (ev_n (us := [.int (r + q : Nat), .int p]) (s1 := s1) rfl (by rw [← hr]; rfl))) ?_
  refine sv_seq (ρ1 := R42 (some (.int i)) (some (.int (r + q : Nat))) (some (.int a)) (some (.int b)) (some (.int m)) (some (.int p)) (some (.int r)) x9) (s1 := s1) (sv_ifF (s1 := s1) ?_ rfl) ?_
  · by_cases g : (((b + a * r : Nat) : Int) ≤ 10000000000000000000000000000000000000000)
    · exact tv_and (k := decide (((b + a * r : Nat) : Int) ≤ 10000000000000000000000000000000000000000)) (k' := !true) (tv_v (ev_2 (y := .int 10000000000000000000000000000000000000000) (ev_2 (ev_2 rfl rfl (pMul_int (sm_bn ba (by decide)) (sm_bn br (by decide)))) rfl (by rw [pAdd_int, i1])) rfl pLe_int)) (fun _ => tv_n (tv_t (ev_call (us := [.int (r + q : Nat), .int a, .int b, .int m, .int r]) (s1 := s1) rfl rfl (parts_ok h0 h1 h2 (by omega) h4)) rfl)) |>.trans (by rw [Bool.not_true, Bool.and_false])
    · exact tv_and (k := decide (((b + a * r : Nat) : Int) ≤ 10000000000000000000000000000000000000000)) (k' := false) (tv_v (ev_2 (y := .int 10000000000000000000000000000000000000000) (ev_2 (ev_2 rfl rfl (pMul_int (sm_bn ba (by decide)) (sm_bn br (by decide)))) rfl (by rw [pAdd_int, i1])) rfl pLe_int)) (fun z => absurd (of_decide_eq_true z) g) |>.trans (by rw [Bool.and_false])
  refine sv_seq (ρ1 := R42 (some (.int i)) (some (.int (r + q : Nat))) (some (.int a)) (some (.int b)) (some (.int m)) (some (.int p)) (some (.int r)) (some (.int c))) (s1 := s2) (sv_set (ev_callS (us := [.int 1000000]) (s1 := s1) rfl rfl e2)) ?_
  refine sv_seq (ρ1 := R42 (some (.int i)) (some (.int (r + q : Nat))) (some (.int a)) (some (.int b)) (some (.int m)) (some (.int p)) (some (.int r)) (some (.int c))) (s1 := s2) ?_ (sv_ifF (s1 := s2) ?_ rfl)
  · refine sv_if (k := decide (((b + c * m : Nat) : Int) ≤ 10000000000000000000000000000000000000000) && decide (((a + c * m : Nat) : Int) ≤ 10000000000000000000000000000000000000000)) (s1 := s2) (tv_and (tv_v (ev_2 (y := .int 10000000000000000000000000000000000000000) (ev_2 rfl (ev_2 rfl rfl (pMul_int (sm_bn bc (by decide)) (sm_bn bm (by decide)))) (by rw [pAdd_int, i2])) rfl pLe_int)) fun _ => tv_v (ev_2 (y := .int 10000000000000000000000000000000000000000) (ev_2 rfl (ev_2 rfl rfl (pMul_int (sm_bn bc (by decide)) (sm_bn bm (by decide)))) (by rw [pAdd_int, i3])) rfl pLe_int)) (fun g => ?_) fun _ => rfl
    rw [Bool.and_eq_true] at g
    have g1 := of_decide_eq_true g.1
    have g2 := of_decide_eq_true g.2
    exact sv_ifF (s1 := s2) (tv_n (k := true) (tv_t (ev_call (us := [.int (r + q : Nat), .int a, .int b, .int m, .int c]) (s1 := s2) rfl rfl (shifted_ok h0 h1 (by omega) (by omega) h4 (by omega))) rfl)) rfl
  · exact tv_or (k := !true) (k' := !true) (tv_n (tv_t (ev_call (us := [.int (r + q : Nat), .int a, .int b, .int m]) (s1 := s2) rfl rfl (turned_ok h0 h1 h4)) rfl)) fun _ => tv_n (tv_t (ev_call (us := [.int a, .int b, .int m]) (s1 := s2) rfl rfl (few_ok h0 h2 h3 h4)) rfl)
theorem law_turn (i : Nat) (u : U) (ρ : Rho) (s : Sst) (h : (rngU 0 20 1)[i]? = some u) (hi : I42 i ρ s) : ∃ ρ1 ρ2 s2, gN 2 u ρ = some ρ1 ∧ turn42 ρ1 s = .nx ρ2 s2 ∧ I42 (i + 1) ρ2 s2 := by
  obtain ⟨hw, x2, x3, x4, x5, x6, x7, x8, x9, rfl⟩ := hi
  have hi : i < 20 := (List.getElem?_eq_some_iff.mp h).1
  have hu : u = .int i := by
    rw [rngU0, List.getElem?_map, List.getElem?_range hi] at h
    injection h with h
    exact h.symm
  subst hu
  obtain ⟨n, s1, e1, n1, w1⟩ := any_ok hw (by omega)
  obtain ⟨a, s2, e2, a1, w2⟩ := any_ok w1 (by omega)
  obtain ⟨b, s3, e3, b1, w3⟩ := any_ok w2 (by omega)
  obtain ⟨m, s4, e4, m1, w4⟩ := any_ok w3 (by omega)
  have em : (1 : Int) + ((m : Nat) : Int) = ((m + 1 : Nat) : Int) := by push_cast; omega
  obtain ⟨a', b', m', s5, f1, f2, f3, f4, f5, w5⟩ := first_ok (i := i) (n := n) (a := a) (b := b) (m := m + 1) (x7 := x7) (x8 := x8) (x9 := x9) w4 (by omega) (by omega) (by omega) (by omega) (by omega)
  obtain ⟨y7, y8, y9, s6, t1, w6⟩ := tail_ok (i := i) (n := n) (a := a') (b := b') (m := m') (x7 := x7) (x8 := x8) (x9 := x9) w5 (by omega) (by omega) f2 f3 f4 f5
  refine ⟨_, R42 (some (.int i)) (some (.int n)) (some (.int a')) (some (.int b')) (some (.int m')) y7 y8 y9, s6, rfl, ?_, w6.mono (by omega), _, _, _, _, _, _, _, _, rfl⟩
  rw [turn42_eq]
  refine sv_seq (ρ1 := R42 (some (.int i)) (some (.int n)) (some (.int a)) x5 x6 x7 x8 x9) (s1 := s2) (sv_par2 (av_cons (ev_callS (us := []) (s1 := s) rfl rfl e1) (av_cons (ev_callS (us := []) (s1 := s1) rfl rfl e2) av_nil))) ?_
  refine sv_seq (ρ1 := R42 (some (.int i)) (some (.int n)) (some (.int a)) (some (.int b)) (some (.int (m + 1 : Nat))) x7 x8 x9) (s1 := s4) (sv_par2 (u := .int b) (w := .int (m + 1 : Nat)) (av_cons (ev_callS (us := []) (s1 := s2) rfl rfl e3) (av_cons (ev_2 (x := .int 1) (s1 := s3) rfl (ev_callS (us := []) (s1 := s3) rfl rfl e4) (by rw [pAdd_int, em])) av_nil))) ?_
  exact sv_seq f1 t1
theorem law_true : ∀ s, NewS s → ∃ s', f_law (List.replicate 10 none) s = .rt (.bl true) s' := by
  intro s hs
  obtain ⟨ρ1, s1, e1, -⟩ := loop_inv (us := rngU 0 20 1) (g := gN 2) (A := turn42) (ρ := List.replicate 10 none) (s := s) I42 (fun i u ρ s h hi => law_turn i u ρ s h hi) ⟨hs.wf.mono (by decide), none, none, none, none, none, none, none, none, rfl⟩
  exact ⟨s1, sv_seq (sv_for (us := rngU 0 20 1) (s1 := s) rfl e1) rfl⟩
end My

set_option Elab.async false
set_option linter.all false
set_option maxRecDepth 100000
set_option maxHeartbeats 4000000
namespace My
open PySem PySem.Spec PyProof.Rows L2
open C8 (Cal pe_c pe_gc)
def topS (i : Nat) : Stmt := PySem.Challenge.pw_bymarks_k42_whole_sums.main.body.getD i (.Pass ⟨0, 0, 0, 0⟩)
abbrev s_is_integer : Stmt := topS 4
abbrev nm_is_integer : List Str := ["value"]
theorem sc_is_integer : FnScope nm_is_integer ["value"] (defScope s_is_integer) := ⟨rfl, rfl, rfl, by decide +kernel, rfl, by decide +kernel, by decide +kernel⟩
abbrev s_sums_of_turn : Stmt := topS 7
abbrev nm_sums_of_turn : List Str := ["turn", "inner", "count", "step", "begin", "by", "times", "rest", "more", "left", "last", "top", "firsts", "squares", "plain", "by_place", "squared"]
theorem sc_sums_of_turn : FnScope nm_sums_of_turn ["turn", "inner"] (defScope s_sums_of_turn) := ⟨rfl, rfl, rfl, by decide +kernel, rfl, by decide +kernel, by decide +kernel⟩
abbrev s_floor_sums : Stmt := topS 8
abbrev nm_floor_sums : List Str := ["count", "step", "begin", "by", "turns", "top", "found", "turn"]
theorem sc_floor_sums : FnScope nm_floor_sums ["count", "step", "begin", "by"] (defScope s_floor_sums) := ⟨rfl, rfl, rfl, by decide +kernel, rfl, by decide +kernel, by decide +kernel⟩
abbrev s_sums : Stmt := topS 9
abbrev nm_sums : List Str := ["count", "step", "begin", "by", "number", "least"]
theorem sc_sums : FnScope nm_sums ["count", "step", "begin", "by"] (defScope s_sums) := ⟨rfl, rfl, rfl, by decide +kernel, rfl, by decide +kernel, by decide +kernel⟩
abbrev s__law_source : Stmt := topS 11
abbrev nm__law_source : List Str := ["_law_script", "_law_cells", "_law_k"]
theorem sc__law_source : FnScope nm__law_source ["_law_script"] (defScope s__law_source) := ⟨rfl, rfl, rfl, by decide +kernel, rfl, by decide +kernel, by decide +kernel⟩
abbrev s__law_draw : Stmt := topS 12
abbrev nm__law_draw : List Str := ["_law_source_here", "_law_limit", "_law_cells", "_law_turn", "_law_place", "_law_cell", "_law_number"]
theorem sc__law_draw : FnScope nm__law_draw ["_law_source_here", "_law_limit"] (defScope s__law_draw) := ⟨rfl, rfl, rfl, by decide +kernel, rfl, by decide +kernel, by decide +kernel⟩
abbrev s__law_ten : Stmt := topS 13
abbrev nm__law_ten : List Str := ["_law_many", "_law_found", "_law_k"]
theorem sc__law_ten : FnScope nm__law_ten ["_law_many"] (defScope s__law_ten) := ⟨rfl, rfl, rfl, by decide +kernel, rfl, by decide +kernel, by decide +kernel⟩
abbrev s__law_pick : Stmt := topS 14
abbrev nm__law_pick : List Str := ["_law_source_here", "_law_values"]
theorem sc__law_pick : FnScope nm__law_pick ["_law_source_here", "_law_values"] (defScope s__law_pick) := ⟨rfl, rfl, rfl, by decide +kernel, rfl, by decide +kernel, by decide +kernel⟩
abbrev s__law_any : Stmt := topS 15
abbrev nm__law_any : List Str := ["_law_source_here", "_law_value", "_law_k"]
theorem sc__law_any : FnScope nm__law_any ["_law_source_here"] (defScope s__law_any) := ⟨rfl, rfl, rfl, by decide +kernel, rfl, by decide +kernel, by decide +kernel⟩
abbrev s__law_fibonacci : Stmt := topS 16
abbrev nm__law_fibonacci : List Str := ["_law_many", "_law_one", "_law_other", "_law_k"]
theorem sc__law_fibonacci : FnScope nm__law_fibonacci ["_law_many"] (defScope s__law_fibonacci) := ⟨rfl, rfl, rfl, by decide +kernel, rfl, by decide +kernel, by decide +kernel⟩
abbrev s__law_plain : Stmt := topS 17
abbrev nm__law_plain : List Str := ["_law_count"]
theorem sc__law_plain : FnScope nm__law_plain ["_law_count"] (defScope s__law_plain) := ⟨rfl, rfl, rfl, by decide +kernel, rfl, by decide +kernel, by decide +kernel⟩
abbrev s__law_parts_right : Stmt := topS 18
abbrev nm__law_parts_right : List Str := ["_law_count", "_law_step", "_law_begin", "_law_by", "_law_part", "_law_bare", "_law_numbered", "_law_squared", "_law_low", "_law_high"]
theorem sc__law_parts_right : FnScope nm__law_parts_right ["_law_count", "_law_step", "_law_begin", "_law_by", "_law_part"] (defScope s__law_parts_right) := ⟨rfl, rfl, rfl, by decide +kernel, rfl, by decide +kernel, by decide +kernel⟩
abbrev s__law_shifted_right : Stmt := topS 19
abbrev nm__law_shifted_right : List Str := ["_law_count", "_law_step", "_law_begin", "_law_by", "_law_more", "_law_bare", "_law_numbered", "_law_squared", "_law_first", "_law_second", "_law_found", "_law_total"]
theorem sc__law_shifted_right : FnScope nm__law_shifted_right ["_law_count", "_law_step", "_law_begin", "_law_by", "_law_more"] (defScope s__law_shifted_right) := ⟨rfl, rfl, rfl, by decide +kernel, rfl, by decide +kernel, by decide +kernel⟩
abbrev s__law_turned_right : Stmt := topS 20
abbrev nm__law_turned_right : List Str := ["_law_count", "_law_step", "_law_begin", "_law_by", "_law_bare", "_law_flipped"]
theorem sc__law_turned_right : FnScope nm__law_turned_right ["_law_count", "_law_step", "_law_begin", "_law_by"] (defScope s__law_turned_right) := ⟨rfl, rfl, rfl, by decide +kernel, rfl, by decide +kernel, by decide +kernel⟩
abbrev s__law_few_right : Stmt := topS 21
abbrev nm__law_few_right : List Str := ["_law_step", "_law_begin", "_law_by", "_law_one", "_law_two"]
theorem sc__law_few_right : FnScope nm__law_few_right ["_law_step", "_law_begin", "_law_by"] (defScope s__law_few_right) := ⟨rfl, rfl, rfl, by decide +kernel, rfl, by decide +kernel, by decide +kernel⟩
abbrev s_law : Stmt := topS 22
abbrev nm_law : List Str := ["_law_script", "_law_source_here", "_law_turn", "_law_count", "_law_step", "_law_begin", "_law_by", "_law_part", "_law_small", "_law_more"]
theorem sc_law : FnScope nm_law ["_law_script"] (defScope s_law) := ⟨rfl, rfl, rfl, by decide +kernel, rfl, by decide +kernel, by decide +kernel⟩
structure Txt (K : PySem.W.Frag) (mg : Str → Option Value) (D : String → Addr) : Prop where
  f_is_integer : My.Has K mg "is_integer" s_is_integer ["value"]
  f_sums_of_turn : My.Has K mg "sums_of_turn" s_sums_of_turn ["turn", "inner"]
  f_floor_sums : My.Has K mg "floor_sums" s_floor_sums ["count", "step", "begin", "by"]
  f_sums : My.Has K mg "sums" s_sums ["count", "step", "begin", "by"]
  f__law_source : My.Has K mg "_law_source" s__law_source ["_law_script"]
  f__law_draw : My.Has K mg "_law_draw" s__law_draw ["_law_source_here", "_law_limit"]
  f__law_ten : My.Has K mg "_law_ten" s__law_ten ["_law_many"]
  f__law_pick : My.Has K mg "_law_pick" s__law_pick ["_law_source_here", "_law_values"]
  f__law_any : My.Has K mg "_law_any" s__law_any ["_law_source_here"]
  f__law_fibonacci : My.Has K mg "_law_fibonacci" s__law_fibonacci ["_law_many"]
  f__law_plain : My.Has K mg "_law_plain" s__law_plain ["_law_count"]
  f__law_parts_right : My.Has K mg "_law_parts_right" s__law_parts_right ["_law_count", "_law_step", "_law_begin", "_law_by", "_law_part"]
  f__law_shifted_right : My.Has K mg "_law_shifted_right" s__law_shifted_right ["_law_count", "_law_step", "_law_begin", "_law_by", "_law_more"]
  f__law_turned_right : My.Has K mg "_law_turned_right" s__law_turned_right ["_law_count", "_law_step", "_law_begin", "_law_by"]
  f__law_few_right : My.Has K mg "_law_few_right" s__law_few_right ["_law_step", "_law_begin", "_law_by"]
  f_law : My.Has K mg "law" s_law ["_law_script"]
  b_abs : mg "abs" = none
  b_bool : mg "bool" = none
  b_int : mg "int" = none
  b_isinstance : mg "isinstance" = none
  b_len : mg "len" = none
  b_list : mg "list" = none
  b_min : mg "min" = none
  b_range : mg "range" = none
  b_reversed : mg "reversed" = none
  v_GREATEST : ∃ u, mg "GREATEST" = some u ∧ RelV (.int 10000000000000000000000000000000000000000) u
  v_InvalidNumber : mg "InvalidNumber" = some (.ref (D "InvalidNumber"))
  x_InvalidNumber : My.XC K (D "InvalidNumber")
  kls : KlsOK K D kls
variable {P : Program} {w : World} {K : PySem.W.Frag} {mg : Str → Option Value} {base : Heap} {D : String → Addr}
local macro_rules | `(tactic| walk_at "s1") => `(tactic| first
  | with_reducible refine r_seq ?_ | with_reducible refine r_asg ?_ | with_reducible refine r_ret ?_ | with_reducible refine r_drop ?_ | with_reducible refine r_ifS ?_ | with_reducible refine r_par ?_
  | with_reducible refine r_nx ?_ | with_reducible refine r_rt ?_ | with_reducible refine r_bk ?_ | with_reducible refine r_ct ?_ | with_reducible refine r_next ?_
  | with_reducible refine r_op ?_ | with_reducible refine r_un ?_ | (focus ((with_reducible refine' r_var ?_ ?_); rotate_left; exact rfl)) | with_reducible refine r_c ?_
  | with_reducible refine r_test ?_ | with_reducible refine r_tB ?_ | with_reducible refine r_isbl ?_ | with_reducible refine r_and ?_ | with_reducible refine r_or ?_ | with_reducible refine r_not ?_
  | with_reducible refine r_I0 ?_ | with_reducible refine r_U ?_ | with_reducible refine r_eqI ?_ | with_reducible refine r_neI ?_
  | with_reducible refine r_nil ?_ | with_reducible refine r_cons ?_ | with_reducible refine r_tup ?_ | with_reducible refine r_lst ?_ | with_reducible refine r_call ?_ | with_reducible refine r_cb ?_
  | with_reducible refine r_andV ?_ | with_reducible refine r_orV ?_ | with_reducible refine r_notV ?_ | with_reducible refine r_chain ?_
  | with_reducible refine r_int ?_ | ((with_reducible refine r_name ?_); dsimp only [List.set]) | with_reducible refine r_sl ?_ | with_reducible refine r_sub ?_ | with_reducible refine r_gcons ?_ | with_reducible refine r_gnil ?_
  | ((with_reducible refine r_tuple2 ?_); dsimp only [List.set]) | with_reducible refine r_part ?_ | with_reducible refine r_nopart ?_ | with_reducible refine r_isint ?_ | with_reducible refine r_int2 ?_ | with_reducible refine r_for ?_ | with_reducible refine r_lc ?_ | with_reducible refine r_rng1 ?_ | with_reducible refine r_rng2 ?_ | with_reducible refine r_ilist ?_ | with_reducible refine r_itup ?_
  | with_reducible refine r_T ?_ | with_reducible refine r_F ?_ | with_reducible refine r_nT ?_ | with_reducible refine r_nF ?_ | with_reducible refine r_pow18 ?_ | with_reducible refine r_pow30 ?_ | with_reducible refine r_pow60 ?_ | with_reducible refine r_pow1200 ?_ | with_reducible refine r_mod (by omega) ?_ | with_reducible refine r_gcdN ?_ | with_reducible refine r_non ?_ | with_reducible refine r_neB ?_ | with_reducible refine r_eqB ?_ | with_reducible refine r_bm ?_ | with_reducible refine r_pow300 ?_ | with_reducible refine r_revL ?_ | dsimp only [cx_K])
local macro_rules | `(tactic| walk_at "st") => `(tactic| repeat walk_at "s1")
theorem cal__law_source (T : Txt K mg D)  : CalX P w K mg base 1 "_law_source" (spSource K) := by
  obtain ⟨f, fd, F, gF, b⟩ := T.f__law_source
  refine My.mkCalX F gF F.kp b sc__law_source (fun vs H Q E h => ?len) (fun cdv A outer s H vs Q E hr h tk => ?body)
  case len => (obtain ⟨_, _, rfl, _⟩ := h; rfl)
  case body =>
    refine ⟨_, (pss_cons (ps_set (i := 1) sc__law_source.nd rfl (Or.inl rfl) (pe_slice sl_list (pv 0) po_none (po_some pe_int)))
      (pss_cons (ps_for PassesOwn.leaving rfl (pi_range1 (by rfl) T.b_range (pa_cons (pe_callB call_len_seq (by rfl) T.b_len (by decide +kernel) (pa_cons (pv 1) pa_nil)) pa_nil)) (pg_name (i := 2) sc__law_source.nd rfl (Or.inl rfl))
      (pss_one (ps_if (pt_cmpR op_ge (pe_callB My.call_absI (by rfl) T.b_abs (by decide +kernel) (pa_cons (pe_ix ix_list (pv 1) (pv 2) (fun _ _ => rfl)) pa_nil)) (pe_op My.op_powW pe_int pe_int) (nomark _))
      (pss_one (ps_asg (pe_op op_mod (pe_callTy My.call_intI (by rfl) T.b_int (by decide +kernel) (pa_cons (pe_ix ix_list (pv 1) (pv 2) (fun _ _ => rfl)) pa_nil)) (pe_op My.op_powW (pe_op My.op_powW pe_int pe_int) pe_int)) (pg_sub (pv 1) (pv 2) set_list)))
      pss_nil)))
      (pss_cons (ps_if (pt_cmpR (op_eqD hr.units) (pv 1) (pe_lst pa_nil) (nomark _))
      (pss_one (ps_set (i := 1) sc__law_source.nd rfl (Or.inl rfl) (pe_lst (pa_cons pe_int pa_nil))))
      pss_nil)
      (pss_one (ps_ret (pe_lst (pa_cons (pv 1) (pa_cons pe_int pa_nil)))))))), ?_⟩
    obtain ⟨s0, ns, rfl, hS, hlen, q0⟩ := h
    have q : ∀ a c H', Same H H' → Src H' a c 0 → H a = none → H c = none → Q (.ref a) H' := fun a c H' sm sr _ _ => by
      obtain ⟨h1, ⟨ns, h2, h3, h4, h5⟩, h6, h7⟩ := sr
      exact q0 a c H' ⟨ns, 0⟩ sm (.inr ⟨a, c, rfl, h7.symm, h1, h2⟩) ⟨rfl, h3, h4, h5⟩
    refine My.r_start (σ := [some _, none, none]) rfl ?_; walk_at "st"
    refine r_slL hS fun c hc => ?_
    rw [cut63 (by simpa using hlen)]
    walk_at "st"
    refine r_lenL (.of upd_same) ?_
    walk_at "st"
    rw [List.length_map]
    refine r_rgL ns.length rfl (by omega) ?_
    refine loop_range (fun i σ' H' => ∃ (v : Option V) (ms : List Int), σ' = [some (.ref s0), some (.ref c), v] ∧ Same H H' ∧ H' c = some (.lst (ms.map V.int)) ∧ ms.length = ns.length ∧ ∀ j x, j < i → ms[j]? = some x → Bd x) ?_ ?_ ?_
    · exact ⟨none, ns, rfl, Same.new hc, upd_same, rfl, fun j x hj => absurd hj (Nat.not_lt_zero _)⟩
    · rintro i σ' H' hi ⟨v, ms, rfl, sm, hc', hl, hb⟩
      obtain ⟨x, hx⟩ := get_of (xs := ms) (j := i) (by omega)
      walk_at "st"
      refine r_ixL (.of hc') (atI_int hx) ?_
      walk_at "st"
      refine r_dec (fun g => ?_) (fun g => ?_)
      · walk_at "st"
        refine r_ixL (.of hc') (atI_int hx) ?_
        walk_at "st"
        refine r_mod e1200_pos ?_
        walk_at "st"
        refine r_setL hc' (ixN_nat (by rw [List.length_map]; omega)) ?_
        rw [map_set]
        refine ⟨_, _, rfl, fun b o e => ?_, upd_same, by rw [List.length_set]; exact hl, fun j y hj hy => ?_⟩
        · rw [upd_ne (ne_of_none e hc)]
          exact sm b o e
        · rw [List.getElem?_set] at hy
          by_cases hji : i = j
          · rw [if_pos hji, if_pos (by omega)] at hy
            have e := Option.some.inj hy
            rw [← e]
            exact bd_e1200 (Int.emod_nonneg _ (by have := e1200_pos; omega)) (Int.emod_lt_of_pos _ e1200_pos)
          · rw [if_neg hji] at hy
            exact hb j y (by omega) hy
      · walk_at "st"
        refine ⟨_, ms, rfl, sm, hc', hl, fun j y hj hy => ?_⟩
        by_cases hji : j = i
        · subst hji
          rw [hx] at hy
          have e := Option.some.inj hy
          subst e
          exact bd_small (by omega)
        · exact hb j y (by omega) hy
    · rintro σ' H' ⟨v, ms, rfl, sm, hc', hl, hb⟩
      walk_at "st"
      refine r_sz (by decide) fun p hp => ?_
      refine r_eqD (dp_ints ((Same.new hp).seq (.of hc'))) (dp_ints (ns := []) (.of upd_same)) shp_ints.ok shp_ints.ok ?_
      rw [eqv_list eqv_int]
      walk_at "st"
      refine r_dec (fun g => ?_) (fun g => ?_)
      · walk_at "st"
        refine r_sz (Nat.le_of_ble_eq_true rfl) fun c2 hc2 => ?_
        walk_at "st"
        refine r_sz (Nat.le_of_ble_eq_true rfl) fun a ha => ?_
        have hs0 : Same H (upd (upd H' p (.lst [])) c2 (.lst [.int 0])) := (sm.trans (Same.new hp)).trans (Same.new hc2)
        have hc20 : H c2 = none := (sm.trans (Same.new hp)).free hc2
        have ha0 : H a = none := hs0.free ha
        refine q a c2 _ (hs0.trans (Same.new ha)) ⟨upd_same, ⟨[0], ?_, by decide, by decide, fun n hn => ?_⟩, by decide, ne_of_none upd_same ha⟩ ha0 hc20
        · exact (Same.new ha) _ _ upd_same
        · rw [List.mem_singleton] at hn
          subst hn
          exact bd_small (by decide)
      · walk_at "st"
        refine r_sz (Nat.le_of_ble_eq_true rfl) fun a ha => ?_
        have hs0 : Same H (upd H' p (.lst [])) := sm.trans (Same.new hp)
        refine q a c _ (hs0.trans (Same.new ha)) ⟨upd_same, ⟨ms, ?_, ?_, by omega, fun n hn => ?_⟩, by decide, ne_of_none ((Same.new hp) _ _ hc') ha⟩ (hs0.free ha) hc
        · exact (Same.new ha) _ _ ((Same.new hp) _ _ hc')
        · exact List.length_pos_iff.mpr g
        · obtain ⟨j, hj⟩ := List.getElem?_of_mem hn
          have := (List.getElem?_eq_some_iff.mp hj).1
          exact hb j n (by omega) hj
theorem cal__law_draw (T : Txt K mg D)  : CalX P w K mg base 1 "_law_draw" (spS K D 1 F__law_draw) := by
  obtain ⟨f, fd, F, gF, b⟩ := T.f__law_draw
  refine My.mkCalX F gF F.kp b sc__law_draw (fun vs H Q E h => ?len) (fun cdv A outer s H vs Q E hr h tk => ?body)
  case len => exact spS_len h
  case body =>
    refine ⟨_, (pss_cons (ps_asg (pv 0) (pg_unl (by rfl) (pgs_cons (pg_name (i := 2) sc__law_draw.nd rfl (Or.inl rfl)) (pgs_cons (pg_name (i := 3) sc__law_draw.nd rfl (Or.inl rfl)) pgs_nil))))
      (pss_cons (ps_set (i := 4) sc__law_draw.nd rfl (Or.inl rfl) (pe_op op_mod (pe_callTy My.call_intI (by rfl) T.b_int (by decide +kernel) (pa_cons (pv 3) pa_nil)) (pe_callB call_len_seq (by rfl) T.b_len (by decide +kernel) (pa_cons (pv 2) pa_nil))))
      (pss_cons (ps_set (i := 5) sc__law_draw.nd rfl (Or.inl rfl) (pe_ix ix_list (pv 2) (pv 4) (fun _ _ => rfl)))
      (pss_cons (ps_asg (pe_op op_add (pv 3) pe_int) (pg_sub (pv 0) pe_int set_list))
      (pss_cons (ps_if (pt_cmpR op_ge (pv 5) (pe_op My.op_powW pe_int pe_int) (nomark _))
      (pss_cons (ps_asg (pe_op op_fdivW (pv 5) (pv 1)) (pg_sub (pv 2) (pv 4) set_list))
      (pss_one (ps_ret (pe_op op_mod (pe_callTy My.call_intI (by rfl) T.b_int (by decide +kernel) (pa_cons (pv 5) pa_nil)) (pv 1)))))
      pss_nil)
      (pss_cons (ps_set (i := 6) sc__law_draw.nd rfl (Or.inl rfl) (pe_op op_mod (pe_callTy My.call_intI (by rfl) T.b_int (by decide +kernel) (pa_cons (pe_op op_add (pe_op op_add (pe_op op_mulX (pe_op op_mod (pe_callTy My.call_intI (by rfl) T.b_int (by decide +kernel) (pa_cons (pv 5) pa_nil)) pe_int) pe_int) (pe_op op_mulX (pe_op op_mulX (pv 3) (pv 3)) pe_int)) pe_int) pa_nil)) pe_int))
      (pss_cons (ps_set (i := 6) sc__law_draw.nd rfl (Or.inl rfl) (pe_op op_mod (pe_callTy My.call_intI (by rfl) T.b_int (by decide +kernel) (pa_cons (pe_op op_mulX (pv 6) (pv 6)) pa_nil)) pe_int))
      (pss_cons (ps_set (i := 6) sc__law_draw.nd rfl (Or.inl rfl) (pe_op op_mod (pe_callTy My.call_intI (by rfl) T.b_int (by decide +kernel) (pa_cons (pe_op op_mulX (pv 6) (pv 6)) pa_nil)) pe_int))
      (pss_one (ps_ret (pe_op op_mod (pe_callTy My.call_intI (by rfl) T.b_int (by decide +kernel) (pa_cons (pv 6) pa_nil)) (pv 1)))))))))))), ?_⟩
    obtain ⟨a, c, ws, us, A, s0, rfl, hn0, ma, mc, hd, hsrc, r, q⟩ := h
    have hst : F__law_draw s0 us ≠ .stuck := fun z => by rw [z] at q; exact q
    obtain ⟨n, eus, hcnd⟩ := draw_ne hst
    subst eus
    have ews : ws = [.int n] := by
      cases r with
      | cons r1 r2 =>
        cases r1
        cases r2
        rfl
    subst ews
    obtain ⟨ns, t⟩ := s0
    obtain ⟨hn, hb, hpos, ht0, ht1⟩ := hcnd
    rcases hsrc with h0 | ⟨a', c', h0, hac, h1, h2⟩
    · cases h0
    cases h0
    have hac := hac.symm
    unfold F__law_draw at q
    simp only at q h1 h2 hpos ht0 ht1
    rw [if_pos (show drawC ⟨ns, t⟩ n from ⟨hn, hb, hpos, ht0, ht1⟩)] at q
    unfold drawF at q
    refine My.r_start (σ := [some _, some _, none, none, none, none, none]) rfl ?_; walk_at "st"
    refine r_gunl (.of h1) rfl ?_
    walk_at "st"
    refine r_lenL (.of h2) ?_
    walk_at "st"
    rw [List.length_map]
    walk_at "st"
    have hm0 : 0 ≤ t % (ns.length : Int) := Int.emod_nonneg _ (by omega)
    have hm1 : t % (ns.length : Int) < (ns.length : Int) := Int.emod_lt_of_pos _ (by omega)
    obtain ⟨j, hj⟩ : ∃ j : Nat, t % (ns.length : Int) = (j : Int) := ⟨(t % (ns.length : Int)).toNat, by omega⟩
    simp only [hj, Int.toNat_natCast] at q
    rw [hj] at hm1 ⊢
    obtain ⟨x, hx⟩ := get_of (xs := ns) (j := j) (by omega)
    simp only [hx] at q
    refine r_ixL (.of h2) (atI_int hx) ?_
    walk_at "st"
    refine r_setL h1 (j := 1) (by rfl) ?_
    walk_at "st"
    have k1 : Ext [a, c] H (upd H a (.lst ([V.ref c, .int t].set 1 (.int (t + 1))))) := ⟨fun b o hb1 e => by
      rw [upd_ne fun z => hb1 (by rw [z]; simp)]
      exact e, fun b e => upd_dom e⟩
    have e1 : upd H a (.lst ([V.ref c, .int t].set 1 (.int (t + 1)))) a = some (.lst [.ref c, .int (t + 1)]) := upd_same
    have e2 : upd H a (.lst ([V.ref c, .int t].set 1 (.int (t + 1)))) c = some (.lst (ns.map V.int)) := by
      rw [upd_ne hac]
      exact h2
    refine r_dec (fun g => ?_) (fun g => ?_)
    · rw [if_pos g] at q
      walk_at "st"
      refine r_div (div_bd hn hb) ?_
      walk_at "st"
      refine r_setL e2 (ixN_nat (by rw [List.length_map]; omega)) ?_
      walk_at "st"
      rw [map_set]
      refine q _ _ ⟨fun b o hb1 e => ?_, fun b e => upd_dom (upd_dom e)⟩ (.inr ⟨a, c, rfl, hac.symm, ?_, upd_same⟩) (.int _)
      · rw [upd_ne fun z => hb1 (by rw [z]; simp)]
        exact k1.1 b o hb1 e
      · rw [upd_ne hac.symm]
        exact e1
    · rw [if_neg g] at q
      have sm1 : ∀ (z : Int) (k : Int), 0 < k → k < 2147483648 → Sm (z % k) := fun z k hk hk2 => by
        have b1 := Int.emod_nonneg z (show k ≠ 0 by omega)
        have b2 := Int.emod_lt_of_pos z hk
        exact sm_small (by omega)
      have smt : Sm t := sm_small (by omega)
      have smtt : Sm (t * t) := by
        have ht2 : t.natAbs < 2 ^ 64 := by omega
        exact Nat.lt_trans (wide_lt ht2 ht2) (Nat.pow_lt_pow_right (by decide) (by decide))
      walk_at "st"
      refine r_mul (mul_sm (sm1 _ _ (by decide) (by decide)) (sm_small (by decide))) ?_
      walk_at "st"
      refine r_mul (mul_sm smt smt) ?_
      walk_at "st"
      refine r_mul (mul_sm smtt (sm_small (by decide))) ?_
      walk_at "st"
      refine r_mul (mul_sm (sm1 _ _ (by decide) (by decide)) (sm1 _ _ (by decide) (by decide))) ?_
      walk_at "st"
      refine r_mul (mul_sm (sm1 _ _ (by decide) (by decide)) (sm1 _ _ (by decide) (by decide))) ?_
      walk_at "st"
      exact q _ _ k1 (.inr ⟨a, c, rfl, hac.symm, e1, e2⟩) (.int _)

end My

set_option Elab.async false
set_option linter.all false
set_option maxRecDepth 100000
set_option maxHeartbeats 4000000
namespace My
open PySem PySem.Spec PyProof.Rows L2
open C8 (Cal pe_c pe_gc)
variable {P : Program} {w : World} {K : PySem.W.Frag} {mg : Str → Option Value} {base : Heap} {D : String → Addr}
theorem cal_is_integer (T : Txt K mg D)  : CalX P w K mg base 1 "is_integer" (spU K D 1 F_is_integer) :=
  calU T.f_is_integer sc_is_integer rfl rfl fun f cdv A outer s H E hr tk => ⟨_, [],
     (pss_one (ps_ret (pe_and (pe_callB (call_isiK (K := K)) (by rfl) T.b_isinstance (by decide +kernel) (pa_cons (pv 0) (pa_cons (pe_bltn (v := .ty "int") (by rfl) T.b_int (by decide +kernel) rfl) pa_nil))) (pe_one (pe_not (pe_callB (call_isiK (K := K)) (by rfl) T.b_isinstance (by decide +kernel) (pa_cons (pv 0) (pa_cons (pe_bltn (v := .ty "bool") (by rfl) T.b_bool (by decide +kernel) rfl) pa_nil)))))))),
     (sok_ret (eok_and (eok_sn (eok_cb ok_isi (aoks_cons (eok_sn (eok_var (by decide))) (aoks_cons (eok_sn (eok_c fun _ => .ty _)) aoks_nil)))) (eok_not (eok_sn (eok_cb ok_isi (aoks_cons (eok_sn (eok_var (by decide))) (aoks_cons (eok_sn (eok_c fun _ => .ty _)) aoks_nil)))))))⟩
theorem cal_sums_of_turn (T : Txt K mg D)  : CalX P w K mg base 1 "sums_of_turn" (spU K D 2 F_sums_of_turn) :=
  calU T.f_sums_of_turn sc_sums_of_turn rfl rfl fun f cdv A outer s H E hr tk => ⟨_, [],
     (pss_cons (ps_asg (pv 0) (pg_tupK (K := K) (pg_tup (by rfl) (pgs_cons (pg_name (i := 2) sc_sums_of_turn.nd rfl (Or.inl rfl)) (pgs_cons (pg_name (i := 3) sc_sums_of_turn.nd rfl (Or.inl rfl)) (pgs_cons (pg_name (i := 4) sc_sums_of_turn.nd rfl (Or.inl rfl)) (pgs_cons (pg_name (i := 5) sc_sums_of_turn.nd rfl (Or.inl rfl)) pgs_nil)))))))
      (pss_cons (ps_par (i := 6) (j := 7) (by rfl) sc_sums_of_turn.nd rfl rfl (by decide) rfl rfl (pa_cons (pe_op op_fdivW (pv 3) (pv 5)) (pa_cons (pe_op op_mod (pv 3) (pv 5)) pa_nil)) (by rfl))
      (pss_cons (ps_par (i := 8) (j := 9) (by rfl) sc_sums_of_turn.nd rfl rfl (by decide) rfl rfl (pa_cons (pe_op op_fdivW (pv 4) (pv 5)) (pa_cons (pe_op op_mod (pv 4) (pv 5)) pa_nil)) (by rfl))
      (pss_cons (ps_set (i := 10) sc_sums_of_turn.nd rfl (Or.inl rfl) (pe_op op_sub (pv 2) pe_int))
      (pss_cons (ps_set (i := 11) sc_sums_of_turn.nd rfl (Or.inl rfl) (pe_op op_fdivW (pe_op (op_addAnyK (K := K)) (pe_op (op_mulAnyK (K := K)) (pv 7) (pv 10)) (pv 9)) (pv 5)))
      (pss_cons (ps_set (i := 12) sc_sums_of_turn.nd rfl (Or.inl rfl) (pe_op op_fdivW (pe_op (op_mulAnyK (K := K)) (pv 10) (pv 2)) pe_int))
      (pss_cons (ps_set (i := 13) sc_sums_of_turn.nd rfl (Or.inl rfl) (pe_op op_fdivW (pe_op (op_mulAnyK (K := K)) (pv 12) (pe_op (op_addAnyK (K := K)) (pe_op (op_mulAnyK (K := K)) pe_int (pv 10)) pe_int)) pe_int))
      (pss_cons (ps_set (i := 14) sc_sums_of_turn.nd rfl (Or.inl rfl) (pe_op op_sub (pe_op (op_mulAnyK (K := K)) (pv 10) (pv 11)) (pe_ix (ix_anyK (K := K)) (pv 1) pe_int (fun _ _ => rfl))))
      (pss_cons (ps_set (i := 15) sc_sums_of_turn.nd rfl (Or.inl rfl) (pe_op op_fdivW (pe_op op_sub (pe_op op_sub (pe_op (op_mulAnyK (K := K)) (pe_op (op_mulAnyK (K := K)) (pv 11) (pv 10)) (pv 2)) (pe_ix (ix_anyK (K := K)) (pv 1) pe_int (fun _ _ => rfl))) (pe_ix (ix_anyK (K := K)) (pv 1) pe_int (fun _ _ => rfl))) pe_int))
      (pss_cons (ps_set (i := 16) sc_sums_of_turn.nd rfl (Or.inl rfl) (pe_op op_sub (pe_op op_sub (pe_op op_sub (pe_op (op_mulAnyK (K := K)) (pe_op (op_mulAnyK (K := K)) (pv 10) (pv 11)) (pe_op (op_addAnyK (K := K)) (pv 11) pe_int)) (pe_op (op_mulAnyK (K := K)) pe_int (pe_ix (ix_anyK (K := K)) (pv 1) pe_int (fun _ _ => rfl)))) (pe_op (op_mulAnyK (K := K)) pe_int (pe_ix (ix_anyK (K := K)) (pv 1) pe_int (fun _ _ => rfl)))) (pv 14)))
      (pss_one (ps_ret (pe_tup (pa_cons (pe_op (op_addAnyK (K := K)) (pe_op (op_addAnyK (K := K)) (pe_op (op_mulAnyK (K := K)) (pv 6) (pv 12)) (pe_op (op_mulAnyK (K := K)) (pv 8) (pv 2))) (pv 14)) (pa_cons (pe_op (op_addAnyK (K := K)) (pe_op (op_addAnyK (K := K)) (pe_op (op_mulAnyK (K := K)) (pv 6) (pv 13)) (pe_op (op_mulAnyK (K := K)) (pv 8) (pv 12))) (pv 15)) (pa_cons (pe_op (op_addAnyK (K := K)) (pe_op (op_addAnyK (K := K)) (pe_op (op_addAnyK (K := K)) (pe_op (op_addAnyK (K := K)) (pe_op (op_addAnyK (K := K)) (pe_op (op_mulAnyK (K := K)) (pe_op (op_mulAnyK (K := K)) (pv 6) (pv 6)) (pv 13)) (pe_op (op_mulAnyK (K := K)) (pe_op (op_mulAnyK (K := K)) (pe_op (op_mulAnyK (K := K)) pe_int (pv 6)) (pv 8)) (pv 12))) (pe_op (op_mulAnyK (K := K)) (pe_op (op_mulAnyK (K := K)) (pv 8) (pv 8)) (pv 2))) (pe_op (op_mulAnyK (K := K)) (pe_op (op_mulAnyK (K := K)) pe_int (pv 8)) (pv 14))) (pe_op (op_mulAnyK (K := K)) (pe_op (op_mulAnyK (K := K)) pe_int (pv 6)) (pv 15))) (pv 16)) pa_nil)))))))))))))))),
     (sok_seq (sok_asg (eok_var (by decide)) (tg_tup (gs_len_cons (gs_len_cons (gs_len_cons (gs_len_cons gs_len_nil)))) (tgs_cons (tg_name ⟨by decide, by decide⟩) (tgs_cons (tg_name ⟨by decide, by decide⟩) (tgs_cons (tg_name ⟨by decide, by decide⟩) (tgs_cons (tg_name ⟨by decide, by decide⟩) tgs_nil))))))
      (sok_seq (sok_par (by decide) (by decide) (by decide) (by decide) (aok_cons (eok_op ok_div (eok_sn (eok_var (by decide))) (eok_sn (eok_var (by decide)))) (aok_cons (eok_op ok_mod (eok_sn (eok_var (by decide))) (eok_sn (eok_var (by decide)))) aok_nil)))
      (sok_seq (sok_par (by decide) (by decide) (by decide) (by decide) (aok_cons (eok_op ok_div (eok_sn (eok_var (by decide))) (eok_sn (eok_var (by decide)))) (aok_cons (eok_op ok_mod (eok_sn (eok_var (by decide))) (eok_sn (eok_var (by decide)))) aok_nil)))
      (sok_seq (sok_asg (eok_op ok_sub (eok_sn (eok_var (by decide))) (eok_sn (eok_c fun _ => .int _))) (tg_name ⟨by decide, by decide⟩))
      (sok_seq (sok_asg (eok_op ok_div (eok_sn (eok_op ok_add (eok_sn (eok_op ok_mul (eok_sn (eok_var (by decide))) (eok_sn (eok_var (by decide))))) (eok_sn (eok_var (by decide))))) (eok_sn (eok_var (by decide)))) (tg_name ⟨by decide, by decide⟩))
      (sok_seq (sok_asg (eok_op ok_div (eok_sn (eok_op ok_mul (eok_sn (eok_var (by decide))) (eok_sn (eok_var (by decide))))) (eok_sn (eok_c fun _ => .int _))) (tg_name ⟨by decide, by decide⟩))
      (sok_seq (sok_asg (eok_op ok_div (eok_sn (eok_op ok_mul (eok_sn (eok_var (by decide))) (eok_sn (eok_op ok_add (eok_sn (eok_op ok_mul (eok_sn (eok_c fun _ => .int _)) (eok_sn (eok_var (by decide))))) (eok_sn (eok_c fun _ => .int _)))))) (eok_sn (eok_c fun _ => .int _))) (tg_name ⟨by decide, by decide⟩))
      (sok_seq (sok_asg (eok_op ok_sub (eok_sn (eok_op ok_mul (eok_sn (eok_var (by decide))) (eok_sn (eok_var (by decide))))) (eok_sn (eok_op ok_ix (eok_sn (eok_var (by decide))) (eok_sn (eok_c fun _ => .int _))))) (tg_name ⟨by decide, by decide⟩))
      (sok_seq (sok_asg (eok_op ok_div (eok_sn (eok_op ok_sub (eok_sn (eok_op ok_sub (eok_sn (eok_op ok_mul (eok_sn (eok_op ok_mul (eok_sn (eok_var (by decide))) (eok_sn (eok_var (by decide))))) (eok_sn (eok_var (by decide))))) (eok_sn (eok_op ok_ix (eok_sn (eok_var (by decide))) (eok_sn (eok_c fun _ => .int _)))))) (eok_sn (eok_op ok_ix (eok_sn (eok_var (by decide))) (eok_sn (eok_c fun _ => .int _)))))) (eok_sn (eok_c fun _ => .int _))) (tg_name ⟨by decide, by decide⟩))
      (sok_seq (sok_asg (eok_op ok_sub (eok_sn (eok_op ok_sub (eok_sn (eok_op ok_sub (eok_sn (eok_op ok_mul (eok_sn (eok_op ok_mul (eok_sn (eok_var (by decide))) (eok_sn (eok_var (by decide))))) (eok_sn (eok_op ok_add (eok_sn (eok_var (by decide))) (eok_sn (eok_c fun _ => .int _)))))) (eok_sn (eok_op ok_mul (eok_sn (eok_c fun _ => .int _)) (eok_sn (eok_op ok_ix (eok_sn (eok_var (by decide))) (eok_sn (eok_c fun _ => .int _)))))))) (eok_sn (eok_op ok_mul (eok_sn (eok_c fun _ => .int _)) (eok_sn (eok_op ok_ix (eok_sn (eok_var (by decide))) (eok_sn (eok_c fun _ => .int _)))))))) (eok_sn (eok_var (by decide)))) (tg_name ⟨by decide, by decide⟩))
      (sok_ret (eok_tup (aok_cons (eok_op ok_add (eok_sn (eok_op ok_add (eok_sn (eok_op ok_mul (eok_sn (eok_var (by decide))) (eok_sn (eok_var (by decide))))) (eok_sn (eok_op ok_mul (eok_sn (eok_var (by decide))) (eok_sn (eok_var (by decide))))))) (eok_sn (eok_var (by decide)))) (aok_cons (eok_op ok_add (eok_sn (eok_op ok_add (eok_sn (eok_op ok_mul (eok_sn (eok_var (by decide))) (eok_sn (eok_var (by decide))))) (eok_sn (eok_op ok_mul (eok_sn (eok_var (by decide))) (eok_sn (eok_var (by decide))))))) (eok_sn (eok_var (by decide)))) (aok_cons (eok_op ok_add (eok_sn (eok_op ok_add (eok_sn (eok_op ok_add (eok_sn (eok_op ok_add (eok_sn (eok_op ok_add (eok_sn (eok_op ok_mul (eok_sn (eok_op ok_mul (eok_sn (eok_var (by decide))) (eok_sn (eok_var (by decide))))) (eok_sn (eok_var (by decide))))) (eok_sn (eok_op ok_mul (eok_sn (eok_op ok_mul (eok_sn (eok_op ok_mul (eok_sn (eok_c fun _ => .int _)) (eok_sn (eok_var (by decide))))) (eok_sn (eok_var (by decide))))) (eok_sn (eok_var (by decide))))))) (eok_sn (eok_op ok_mul (eok_sn (eok_op ok_mul (eok_sn (eok_var (by decide))) (eok_sn (eok_var (by decide))))) (eok_sn (eok_var (by decide))))))) (eok_sn (eok_op ok_mul (eok_sn (eok_op ok_mul (eok_sn (eok_c fun _ => .int _)) (eok_sn (eok_var (by decide))))) (eok_sn (eok_var (by decide))))))) (eok_sn (eok_op ok_mul (eok_sn (eok_op ok_mul (eok_sn (eok_c fun _ => .int _)) (eok_sn (eok_var (by decide))))) (eok_sn (eok_var (by decide))))))) (eok_sn (eok_var (by decide)))) aok_nil)))))))))))))))⟩
theorem cal_floor_sums (T : Txt K mg D) (c_sums_of_turn : CalX P w K mg base 1 "sums_of_turn" (spU K D 2 F_sums_of_turn)) : CalX P w K mg base 2 "floor_sums" (spU K D 4 F_floor_sums) :=
  calU T.f_floor_sums sc_floor_sums rfl rfl fun f cdv A outer s H E hr tk => ⟨_, [],
     (pss_cons (ps_set (i := 4) sc_floor_sums.nd rfl (Or.inl rfl) (pe_lst pa_nil))
      (pss_cons (ps_while PassesOwn.leaving (pt_cmpR op_gt (pv 0) pe_int (nomark _))
      (pss_cons (ps_expr (pe_bm PySem.F.plainAttrs_list PySem.F.slot_list_append PySem.F.type_list_append mt_append (pv 4) (pa_cons (pe_tup (pa_cons (pv 0) (pa_cons (pv 1) (pa_cons (pv 2) (pa_cons (pv 3) pa_nil))))) pa_nil)))
      (pss_cons (ps_set (i := 5) sc_floor_sums.nd rfl (Or.inl rfl) (pe_op op_fdivW (pe_op (op_addAnyK (K := K)) (pe_op (op_mulAnyK (K := K)) (pe_op op_mod (pv 1) (pv 3)) (pe_op op_sub (pv 0) pe_int)) (pe_op op_mod (pv 2) (pv 3))) (pv 3)))
      (pss_one (ps_asg (pe_tup (pa_cons (pv 5) (pa_cons (pv 3) (pa_cons (pe_op op_sub (pe_op op_sub (pv 3) (pe_op op_mod (pv 2) (pv 3))) pe_int) (pa_cons (pe_op op_mod (pv 1) (pv 3)) pa_nil))))) (pg_tupK (K := K) (pg_tup (by rfl) (pgs_cons (pg_name (i := 0) sc_floor_sums.nd rfl (Or.inl rfl)) (pgs_cons (pg_name (i := 1) sc_floor_sums.nd rfl (Or.inl rfl)) (pgs_cons (pg_name (i := 2) sc_floor_sums.nd rfl (Or.inl rfl)) (pgs_cons (pg_name (i := 3) sc_floor_sums.nd rfl (Or.inl rfl)) pgs_nil)))))))))))
      (pss_cons (ps_set (i := 6) sc_floor_sums.nd rfl (Or.inl rfl) (pe_tup (pa_cons pe_int (pa_cons pe_int (pa_cons pe_int pa_nil)))))
      (pss_cons (ps_for PassesOwn.leaving rfl (pi_revK (K := K) (pi_reversed (by rfl) T.b_reversed (pa_cons (pe_callTy (call_listK (K := K)) (by rfl) T.b_list (by decide +kernel) (pa_cons (pv 4) pa_nil)) pa_nil))) (pg_name (i := 7) sc_floor_sums.nd rfl (Or.inl rfl))
      (pss_one (ps_set (i := 6) sc_floor_sums.nd rfl (Or.inl rfl) (My.pe_cx c_sums_of_turn tk hr (by decide) (by rfl) (pa_cons (pv 7) (pa_cons (pv 6) pa_nil))))))
      (pss_one (ps_ret (pv 6))))))),
     (sok_seq (sok_post (O' := [4]) (fun _ => true) (sok_own (by decide) (by decide) (fok_lst aok_nil)) (by intro i; simp only [List.filter_cons, List.filter_nil, List.mem_cons, List.not_mem_nil, or_false, decide_true, if_true, decide_eq_true_eq] <;> first | omega | (simp <;> omega) | simp))
      (sok_seq (sok_while (tok_valT (eok_sn (eok_op ok_gt (eok_sn (eok_var (by decide))) (eok_sn (eok_c fun _ => .int _))))) (sok_seq (sok_app (by decide) (eok_tup (aok_cons (eok_var (by decide)) (aok_cons (eok_var (by decide)) (aok_cons (eok_var (by decide)) (aok_cons (eok_var (by decide)) aok_nil))))))
      (sok_seq (sok_asg (eok_op ok_div (eok_sn (eok_op ok_add (eok_sn (eok_op ok_mul (eok_sn (eok_op ok_mod (eok_sn (eok_var (by decide))) (eok_sn (eok_var (by decide))))) (eok_sn (eok_op ok_sub (eok_sn (eok_var (by decide))) (eok_sn (eok_c fun _ => .int _)))))) (eok_sn (eok_op ok_mod (eok_sn (eok_var (by decide))) (eok_sn (eok_var (by decide))))))) (eok_sn (eok_var (by decide)))) (tg_name ⟨by decide, by decide⟩))
      (sok_asg (eok_tup (aok_cons (eok_var (by decide)) (aok_cons (eok_var (by decide)) (aok_cons (eok_op ok_sub (eok_sn (eok_op ok_sub (eok_sn (eok_var (by decide))) (eok_sn (eok_op ok_mod (eok_sn (eok_var (by decide))) (eok_sn (eok_var (by decide))))))) (eok_sn (eok_c fun _ => .int _))) (aok_cons (eok_op ok_mod (eok_sn (eok_var (by decide))) (eok_sn (eok_var (by decide)))) aok_nil))))) (tg_tup (gs_len_cons (gs_len_cons (gs_len_cons (gs_len_cons gs_len_nil)))) (tgs_cons (tg_name ⟨by decide, by decide⟩) (tgs_cons (tg_name ⟨by decide, by decide⟩) (tgs_cons (tg_name ⟨by decide, by decide⟩) (tgs_cons (tg_name ⟨by decide, by decide⟩) tgs_nil)))))))))
      (sok_seq (sok_asg (eok_tup (aok_cons (eok_c fun _ => .int _) (aok_cons (eok_c fun _ => .int _) (aok_cons (eok_c fun _ => .int _) aok_nil)))) (tg_name ⟨by decide, by decide⟩))
      (sok_seq (sok_for (iok_rev (eok_cb ok_list (aoks_cons eok_varS aoks_nil))) (tg_name ⟨by decide, by decide⟩) (sok_asg (eok_call (aok_cons (eok_var (by decide)) (aok_cons (eok_var (by decide)) aok_nil))) (tg_name ⟨by decide, by decide⟩)))
      (sok_ret (eok_var (by decide)))))))⟩
theorem cal_sums (T : Txt K mg D) (c_floor_sums : CalX P w K mg base 2 "floor_sums" (spU K D 4 F_floor_sums)) (c_is_integer : CalX P w K mg base 1 "is_integer" (spU K D 1 F_is_integer)) : CalX P w K mg base 3 "sums" (spU K D 4 F_sums) :=
  calU T.f_sums sc_sums rfl rfl fun f cdv A outer s H E hr tk => ⟨_, [],
     (pss_cons (ps_for PassesOwn.leaving rfl (pi_seqK (K := K) (pe_tup (pa_cons (pe_tup (pa_cons (pv 0) (pa_cons pe_int pa_nil))) (pa_cons (pe_tup (pa_cons (pv 1) (pa_cons pe_int pa_nil))) (pa_cons (pe_tup (pa_cons (pv 2) (pa_cons pe_int pa_nil))) (pa_cons (pe_tup (pa_cons (pv 3) (pa_cons pe_int pa_nil))) pa_nil)))))) (pg_tupK (K := K) (pg_tup (by rfl) (pgs_cons (pg_name (i := 4) sc_sums.nd rfl (Or.inl rfl)) (pgs_cons (pg_name (i := 5) sc_sums.nd rfl (Or.inl rfl)) pgs_nil))))
      (pss_one (ps_if (PW.pt (pw_or (pt_not (pt_truthK (K := K) (My.pe_cx c_is_integer tk hr (by decide) (by rfl) (pa_cons (pv 4) pa_nil)) (fun _ => rfl))) (pw_or1 (pt_not (pt_chain op_le op_le (pv 5) (pv 4) (pe_gc (v := .int 10000000000000000000000000000000000000000) (by rfl) T.v_GREATEST))))))
      (pss_one (ps_raise rfl tk (SkE.pmk_own1 PySem.F.excBase_ValueError T.x_InvalidNumber.exc T.v_InvalidNumber T.x_InvalidNumber.keep T.x_InvalidNumber.raises (by rfl) pe_str)))
      pss_nil)))
      (pss_one (ps_ret (My.pe_cx c_floor_sums tk hr (by decide) (by rfl) (pa_cons (pv 0) (pa_cons (pv 1) (pa_cons (pv 2) (pa_cons (pv 3) pa_nil)))))))),
     (sok_seq (sok_for (iok_seq (eok_tup (aok_cons (eok_tup (aok_cons (eok_var (by decide)) (aok_cons (eok_c fun _ => .int _) aok_nil))) (aok_cons (eok_tup (aok_cons (eok_var (by decide)) (aok_cons (eok_c fun _ => .int _) aok_nil))) (aok_cons (eok_tup (aok_cons (eok_var (by decide)) (aok_cons (eok_c fun _ => .int _) aok_nil))) (aok_cons (eok_tup (aok_cons (eok_var (by decide)) (aok_cons (eok_c fun _ => .int _) aok_nil))) aok_nil)))))) (tg_tup (gs_len_cons (gs_len_cons gs_len_nil)) (tgs_cons (tg_name ⟨by decide, by decide⟩) (tgs_cons (tg_name ⟨by decide, by decide⟩) tgs_nil))) (sok_if (tok_or (tok_not (tok_tru (eok_sn (eok_call (aok_cons (eok_var (by decide)) aok_nil))))) (tok_not (tok_valT (eok_sn (eok_chain ok_le ok_le (eok_sn (eok_var (by decide))) (eok_sn (eok_var (by decide))) (eok_sn (eok_c fun _ => .int _))))))) (sok_raise (eok_c fun _ => .str _)) sok_nil))
      (sok_ret (eok_call (aok_cons (eok_var (by decide)) (aok_cons (eok_var (by decide)) (aok_cons (eok_var (by decide)) (aok_cons (eok_var (by decide)) aok_nil)))))))⟩
theorem cal__law_ten (T : Txt K mg D)  : CalX P w K mg base 1 "_law_ten" (spU K D 1 F__law_ten) :=
  calU T.f__law_ten sc__law_ten rfl rfl fun f cdv A outer s H E hr tk => ⟨_, [],
     (pss_cons (ps_set (i := 1) sc__law_ten.nd rfl (Or.inl rfl) pe_int)
      (pss_cons (ps_for PassesOwn.leaving rfl (pi_range1 (by rfl) T.b_range (pa_cons (pv 0) pa_nil)) (pg_name (i := 2) sc__law_ten.nd rfl (Or.inl rfl))
      (pss_one (ps_set (i := 1) sc__law_ten.nd rfl (Or.inl rfl) (pe_op (op_mulAnyK (K := K)) (pv 1) pe_int))))
      (pss_one (ps_ret (pv 1))))),
     (sok_seq (sok_asg (eok_c fun _ => .int _) (tg_name ⟨by decide, by decide⟩))
      (sok_seq (sok_for (iok_rng1 (aoks_cons (eok_sn (eok_var (by decide))) aoks_nil)) (tg_name ⟨by decide, by decide⟩) (sok_asg (eok_op ok_mul (eok_sn (eok_var (by decide))) (eok_sn (eok_c fun _ => .int _))) (tg_name ⟨by decide, by decide⟩)))
      (sok_ret (eok_var (by decide)))))⟩
theorem cal__law_pick (T : Txt K mg D) (c__law_draw : CalX P w K mg base 1 "_law_draw" (spS K D 1 F__law_draw)) : CalX P w K mg base 2 "_law_pick" (spS K D 1 F__law_pick) :=
  calS T.f__law_pick sc__law_pick rfl rfl fun f cdv A outer s H E hr tk => ⟨_, [],
     (pss_one (ps_ret (pe_ix (ix_anyK (K := K)) (pv 1) (My.pe_cx c__law_draw tk hr (by decide) (by rfl) (pa_cons (pv 0) (pa_cons (pe_callB (call_lenK (K := K)) (by rfl) T.b_len (by decide +kernel) (pa_cons (pv 1) pa_nil)) pa_nil))) (fun _ _ => rfl)))),
     (sok_ret (eok_op ok_ix (eok_sn (eok_var (by decide))) (eok_sn (eok_callS (aok_cons (eok_cb ok_len (aoks_cons (eok_sn (eok_var (by decide))) aoks_nil)) aok_nil)))))⟩
theorem cal__law_any (T : Txt K mg D) (c__law_ten : CalX P w K mg base 1 "_law_ten" (spU K D 1 F__law_ten)) (c__law_draw : CalX P w K mg base 1 "_law_draw" (spS K D 1 F__law_draw)) : CalX P w K mg base 2 "_law_any" (spS K D 0 F__law_any) :=
  calS T.f__law_any sc__law_any rfl rfl fun f cdv A outer s H E hr tk => ⟨_, [],
     (pss_cons (ps_set (i := 1) sc__law_any.nd rfl (Or.inl rfl) pe_int)
      (pss_cons (ps_for PassesOwn.leaving rfl (pi_range1 (by rfl) T.b_range (pa_cons pe_int pa_nil)) (pg_name (i := 2) sc__law_any.nd rfl (Or.inl rfl))
      (pss_one (ps_set (i := 1) sc__law_any.nd rfl (Or.inl rfl) (pe_op (op_addAnyK (K := K)) (pe_op (op_mulAnyK (K := K)) (pv 1) (pe_op My.op_powW pe_int pe_int)) (My.pe_cx c__law_draw tk hr (by decide) (by rfl) (pa_cons (pv 0) (pa_cons (pe_op My.op_powW pe_int pe_int) pa_nil)))))))
      (pss_one (ps_ret (pe_op op_mod (pe_callTy call_intAny (by rfl) T.b_int (by decide +kernel) (pa_cons (pv 1) pa_nil)) (My.pe_cx c__law_ten tk hr (by decide) (by rfl) (pa_cons (pe_op (op_addAnyK (K := K)) pe_int (My.pe_cx c__law_draw tk hr (by decide) (by rfl) (pa_cons (pv 0) (pa_cons pe_int pa_nil)))) pa_nil))))))),
     (sok_seq (sok_asg (eok_c fun _ => .int _) (tg_name ⟨by decide, by decide⟩))
      (sok_seq (sok_for (iok_rng1 (aoks_cons (eok_sn (eok_c fun _ => .int _)) aoks_nil)) (tg_name ⟨by decide, by decide⟩) (sok_asg (eok_op ok_add (eok_sn (eok_op ok_mul (eok_sn (eok_var (by decide))) (eok_sn (eok_op ok_pow (eok_sn (eok_c fun _ => .int _)) (eok_sn (eok_c fun _ => .int _)))))) (eok_sn (eok_callS (aok_cons (eok_op ok_pow (eok_sn (eok_c fun _ => .int _)) (eok_sn (eok_c fun _ => .int _))) aok_nil)))) (tg_name ⟨by decide, by decide⟩)))
      (sok_ret (eok_op ok_mod (eok_sn (eok_cb ok_int (aoks_cons (eok_sn (eok_var (by decide))) aoks_nil))) (eok_sn (eok_call (aok_cons (eok_op ok_add (eok_sn (eok_c fun _ => .int _)) (eok_sn (eok_callS (aok_cons (eok_c fun _ => .int _) aok_nil)))) aok_nil)))))))⟩
theorem cal__law_fibonacci (T : Txt K mg D)  : CalX P w K mg base 1 "_law_fibonacci" (spU K D 1 F__law_fibonacci) :=
  calU T.f__law_fibonacci sc__law_fibonacci rfl rfl fun f cdv A outer s H E hr tk => ⟨_, [],
     (pss_cons (ps_asg (pe_tup (pa_cons pe_int (pa_cons pe_int pa_nil))) (pg_tupK (K := K) (pg_tup (by rfl) (pgs_cons (pg_name (i := 1) sc__law_fibonacci.nd rfl (Or.inl rfl)) (pgs_cons (pg_name (i := 2) sc__law_fibonacci.nd rfl (Or.inl rfl)) pgs_nil)))))
      (pss_cons (ps_for PassesOwn.leaving rfl (pi_range1 (by rfl) T.b_range (pa_cons (pv 0) pa_nil)) (pg_name (i := 3) sc__law_fibonacci.nd rfl (Or.inl rfl))
      (pss_one (ps_par (i := 1) (j := 2) (by rfl) sc__law_fibonacci.nd rfl rfl (by decide) rfl rfl (pa_cons (pv 2) (pa_cons (pe_op (op_addAnyK (K := K)) (pv 1) (pv 2)) pa_nil)) (by rfl))))
      (pss_one (ps_ret (pe_lst (pa_cons (pv 1) (pa_cons (pv 2) pa_nil))))))),
     (sok_seq (sok_asg (eok_tup (aok_cons (eok_c fun _ => .int _) (aok_cons (eok_c fun _ => .int _) aok_nil))) (tg_tup (gs_len_cons (gs_len_cons gs_len_nil)) (tgs_cons (tg_name ⟨by decide, by decide⟩) (tgs_cons (tg_name ⟨by decide, by decide⟩) tgs_nil))))
      (sok_seq (sok_for (iok_rng1 (aoks_cons (eok_sn (eok_var (by decide))) aoks_nil)) (tg_name ⟨by decide, by decide⟩) (sok_par (by decide) (by decide) (by decide) (by decide) (aok_cons (eok_var (by decide)) (aok_cons (eok_op ok_add (eok_sn (eok_var (by decide))) (eok_sn (eok_var (by decide)))) aok_nil))))
      (sok_ret (eok_of (fok_lst (aok_cons (eok_var (by decide)) (aok_cons (eok_var (by decide)) aok_nil)))))))⟩
theorem cal__law_plain (T : Txt K mg D)  : CalX P w K mg base 1 "_law_plain" (spU K D 1 F__law_plain) :=
  calU T.f__law_plain sc__law_plain rfl rfl fun f cdv A outer s H E hr tk => ⟨_, [],
     (pss_one (ps_ret (pe_lst (pa_cons (pe_op op_fdivW (pe_op (op_mulAnyK (K := K)) (pv 0) (pe_op op_sub (pv 0) pe_int)) pe_int) (pa_cons (pe_op op_fdivW (pe_op (op_mulAnyK (K := K)) (pe_op (op_mulAnyK (K := K)) (pe_op op_sub (pv 0) pe_int) (pv 0)) (pe_op op_sub (pe_op (op_mulAnyK (K := K)) pe_int (pv 0)) pe_int)) pe_int) pa_nil))))),
     (sok_ret (eok_of (fok_lst (aok_cons (eok_op ok_div (eok_sn (eok_op ok_mul (eok_sn (eok_var (by decide))) (eok_sn (eok_op ok_sub (eok_sn (eok_var (by decide))) (eok_sn (eok_c fun _ => .int _)))))) (eok_sn (eok_c fun _ => .int _))) (aok_cons (eok_op ok_div (eok_sn (eok_op ok_mul (eok_sn (eok_op ok_mul (eok_sn (eok_op ok_sub (eok_sn (eok_var (by decide))) (eok_sn (eok_c fun _ => .int _)))) (eok_sn (eok_var (by decide))))) (eok_sn (eok_op ok_sub (eok_sn (eok_op ok_mul (eok_sn (eok_c fun _ => .int _)) (eok_sn (eok_var (by decide))))) (eok_sn (eok_c fun _ => .int _)))))) (eok_sn (eok_c fun _ => .int _))) aok_nil)))))⟩
theorem cal__law_parts_right (T : Txt K mg D) (c_sums : CalX P w K mg base 3 "sums" (spU K D 4 F_sums)) : CalX P w K mg base 4 "_law_parts_right" (spU K D 5 F__law_parts_right) :=
  calU T.f__law_parts_right sc__law_parts_right rfl rfl fun f cdv A outer s H E hr tk => ⟨_, [],
     (pss_cons (ps_asg (My.pe_cx c_sums tk hr (by decide) (by rfl) (pa_cons (pv 0) (pa_cons (pv 1) (pa_cons (pv 2) (pa_cons (pv 3) pa_nil))))) (pg_tupK (K := K) (pg_tup (by rfl) (pgs_cons (pg_name (i := 5) sc__law_parts_right.nd rfl (Or.inl rfl)) (pgs_cons (pg_name (i := 6) sc__law_parts_right.nd rfl (Or.inl rfl)) (pgs_cons (pg_name (i := 7) sc__law_parts_right.nd rfl (Or.inl rfl)) pgs_nil))))))
      (pss_cons (ps_set (i := 8) sc__law_parts_right.nd rfl (Or.inl rfl) (My.pe_cx c_sums tk hr (by decide) (by rfl) (pa_cons (pv 4) (pa_cons (pv 1) (pa_cons (pv 2) (pa_cons (pv 3) pa_nil))))))
      (pss_cons (ps_set (i := 9) sc__law_parts_right.nd rfl (Or.inl rfl) (My.pe_cx c_sums tk hr (by decide) (by rfl) (pa_cons (pe_op op_sub (pv 0) (pv 4)) (pa_cons (pv 1) (pa_cons (pe_op (op_addAnyK (K := K)) (pv 2) (pe_op (op_mulAnyK (K := K)) (pv 1) (pv 4))) (pa_cons (pv 3) pa_nil))))))
      (pss_cons (ps_if (PW.pt (pw_or (pt_cmpR (op_neDK (K := K) hr.units) (pv 5) (pe_op (op_addAnyK (K := K)) (pe_ix (ix_anyK (K := K)) (pv 8) pe_int (fun _ _ => rfl)) (pe_ix (ix_anyK (K := K)) (pv 9) pe_int (fun _ _ => rfl))) (nomark _)) (pw_or1 (pt_cmpR (op_neDK (K := K) hr.units) (pv 7) (pe_op (op_addAnyK (K := K)) (pe_ix (ix_anyK (K := K)) (pv 8) pe_int (fun _ _ => rfl)) (pe_ix (ix_anyK (K := K)) (pv 9) pe_int (fun _ _ => rfl))) (nomark _)))))
      (pss_one (ps_ret pe_bl))
      pss_nil)
      (pss_one (ps_ret (pe_cmpR (op_eqDK (K := K) hr.units) (pv 6) (pe_op (op_addAnyK (K := K)) (pe_op (op_addAnyK (K := K)) (pe_ix (ix_anyK (K := K)) (pv 8) pe_int (fun _ _ => rfl)) (pe_ix (ix_anyK (K := K)) (pv 9) pe_int (fun _ _ => rfl))) (pe_op (op_mulAnyK (K := K)) (pv 4) (pe_ix (ix_anyK (K := K)) (pv 9) pe_int (fun _ _ => rfl)))) (nomark _)))))))),
     (sok_seq (sok_asg (eok_call (aok_cons (eok_var (by decide)) (aok_cons (eok_var (by decide)) (aok_cons (eok_var (by decide)) (aok_cons (eok_var (by decide)) aok_nil))))) (tg_tup (gs_len_cons (gs_len_cons (gs_len_cons gs_len_nil))) (tgs_cons (tg_name ⟨by decide, by decide⟩) (tgs_cons (tg_name ⟨by decide, by decide⟩) (tgs_cons (tg_name ⟨by decide, by decide⟩) tgs_nil)))))
      (sok_seq (sok_asg (eok_call (aok_cons (eok_var (by decide)) (aok_cons (eok_var (by decide)) (aok_cons (eok_var (by decide)) (aok_cons (eok_var (by decide)) aok_nil))))) (tg_name ⟨by decide, by decide⟩))
      (sok_seq (sok_asg (eok_call (aok_cons (eok_op ok_sub (eok_sn (eok_var (by decide))) (eok_sn (eok_var (by decide)))) (aok_cons (eok_var (by decide)) (aok_cons (eok_op ok_add (eok_sn (eok_var (by decide))) (eok_sn (eok_op ok_mul (eok_sn (eok_var (by decide))) (eok_sn (eok_var (by decide)))))) (aok_cons (eok_var (by decide)) aok_nil))))) (tg_name ⟨by decide, by decide⟩))
      (sok_seq (sok_if (tok_or (tok_valT (eok_sn (eok_op ok_ne (eok_sn (eok_var (by decide))) (eok_sn (eok_op ok_add (eok_sn (eok_op ok_ix (eok_sn (eok_var (by decide))) (eok_sn (eok_c fun _ => .int _)))) (eok_sn (eok_op ok_ix (eok_sn (eok_var (by decide))) (eok_sn (eok_c fun _ => .int _))))))))) (tok_valT (eok_sn (eok_op ok_ne (eok_sn (eok_var (by decide))) (eok_sn (eok_op ok_add (eok_sn (eok_op ok_ix (eok_sn (eok_var (by decide))) (eok_sn (eok_c fun _ => .int _)))) (eok_sn (eok_op ok_ix (eok_sn (eok_var (by decide))) (eok_sn (eok_c fun _ => .int _)))))))))) (sok_ret (eok_c fun _ => .bl _)) sok_nil)
      (sok_ret (eok_op ok_eq (eok_sn (eok_var (by decide))) (eok_sn (eok_op ok_add (eok_sn (eok_op ok_add (eok_sn (eok_op ok_ix (eok_sn (eok_var (by decide))) (eok_sn (eok_c fun _ => .int _)))) (eok_sn (eok_op ok_ix (eok_sn (eok_var (by decide))) (eok_sn (eok_c fun _ => .int _)))))) (eok_sn (eok_op ok_mul (eok_sn (eok_var (by decide))) (eok_sn (eok_op ok_ix (eok_sn (eok_var (by decide))) (eok_sn (eok_c fun _ => .int _))))))))))))))⟩
theorem cal__law_shifted_right (T : Txt K mg D) (c_sums : CalX P w K mg base 3 "sums" (spU K D 4 F_sums)) (c__law_plain : CalX P w K mg base 1 "_law_plain" (spU K D 1 F__law_plain)) : CalX P w K mg base 4 "_law_shifted_right" (spU K D 5 F__law_shifted_right) :=
  calU T.f__law_shifted_right sc__law_shifted_right rfl rfl fun f cdv A outer s H E hr tk => ⟨_, [],
     (pss_cons (ps_asg (My.pe_cx c_sums tk hr (by decide) (by rfl) (pa_cons (pv 0) (pa_cons (pv 1) (pa_cons (pv 2) (pa_cons (pv 3) pa_nil))))) (pg_tupK (K := K) (pg_tup (by rfl) (pgs_cons (pg_name (i := 5) sc__law_shifted_right.nd rfl (Or.inl rfl)) (pgs_cons (pg_name (i := 6) sc__law_shifted_right.nd rfl (Or.inl rfl)) (pgs_cons (pg_name (i := 7) sc__law_shifted_right.nd rfl (Or.inl rfl)) pgs_nil))))))
      (pss_cons (ps_asg (My.pe_cx c__law_plain tk hr (by decide) (by rfl) (pa_cons (pv 0) pa_nil)) (pg_unlK (K := K) (pg_unl (by rfl) (pgs_cons (pg_name (i := 8) sc__law_shifted_right.nd rfl (Or.inl rfl)) (pgs_cons (pg_name (i := 9) sc__law_shifted_right.nd rfl (Or.inl rfl)) pgs_nil)))))
      (pss_cons (ps_set (i := 10) sc__law_shifted_right.nd rfl (Or.inl rfl) (My.pe_cx c_sums tk hr (by decide) (by rfl) (pa_cons (pv 0) (pa_cons (pv 1) (pa_cons (pe_op (op_addAnyK (K := K)) (pv 2) (pe_op (op_mulAnyK (K := K)) (pv 4) (pv 3))) (pa_cons (pv 3) pa_nil))))))
      (pss_cons (ps_set (i := 11) sc__law_shifted_right.nd rfl (Or.inl rfl) (pe_op (op_addAnyK (K := K)) (pe_op (op_addAnyK (K := K)) (pv 7) (pe_op (op_mulAnyK (K := K)) (pe_op (op_mulAnyK (K := K)) pe_int (pv 4)) (pv 5))) (pe_op (op_mulAnyK (K := K)) (pe_op (op_mulAnyK (K := K)) (pv 4) (pv 4)) (pv 0))))
      (pss_cons (ps_if (pt_cmpR (op_neDK (K := K) hr.units) (pv 10) (pe_tup (pa_cons (pe_op (op_addAnyK (K := K)) (pv 5) (pe_op (op_mulAnyK (K := K)) (pv 4) (pv 0))) (pa_cons (pe_op (op_addAnyK (K := K)) (pv 6) (pe_op (op_mulAnyK (K := K)) (pv 4) (pv 8))) (pa_cons (pv 11) pa_nil)))) (nomark _))
      (pss_one (ps_ret pe_bl))
      pss_nil)
      (pss_cons (ps_set (i := 10) sc__law_shifted_right.nd rfl (Or.inl rfl) (My.pe_cx c_sums tk hr (by decide) (by rfl) (pa_cons (pv 0) (pa_cons (pe_op (op_addAnyK (K := K)) (pv 1) (pe_op (op_mulAnyK (K := K)) (pv 4) (pv 3))) (pa_cons (pv 2) (pa_cons (pv 3) pa_nil))))))
      (pss_cons (ps_set (i := 11) sc__law_shifted_right.nd rfl (Or.inl rfl) (pe_op (op_addAnyK (K := K)) (pe_op (op_addAnyK (K := K)) (pv 7) (pe_op (op_mulAnyK (K := K)) (pe_op (op_mulAnyK (K := K)) pe_int (pv 4)) (pv 6))) (pe_op (op_mulAnyK (K := K)) (pe_op (op_mulAnyK (K := K)) (pv 4) (pv 4)) (pv 9))))
      (pss_one (ps_ret (pe_cmpR (op_eqDK (K := K) hr.units) (pv 10) (pe_tup (pa_cons (pe_op (op_addAnyK (K := K)) (pv 5) (pe_op (op_mulAnyK (K := K)) (pv 4) (pv 8))) (pa_cons (pe_op (op_addAnyK (K := K)) (pv 6) (pe_op (op_mulAnyK (K := K)) (pv 4) (pv 9))) (pa_cons (pv 11) pa_nil)))) (nomark _))))))))))),
     (sok_seq (sok_asg (eok_call (aok_cons (eok_var (by decide)) (aok_cons (eok_var (by decide)) (aok_cons (eok_var (by decide)) (aok_cons (eok_var (by decide)) aok_nil))))) (tg_tup (gs_len_cons (gs_len_cons (gs_len_cons gs_len_nil))) (tgs_cons (tg_name ⟨by decide, by decide⟩) (tgs_cons (tg_name ⟨by decide, by decide⟩) (tgs_cons (tg_name ⟨by decide, by decide⟩) tgs_nil)))))
      (sok_seq (sok_asg (eok_call (aok_cons (eok_var (by decide)) aok_nil)) (tg_unl (gs_len_cons (gs_len_cons gs_len_nil)) (tgs_cons (tg_name ⟨by decide, by decide⟩) (tgs_cons (tg_name ⟨by decide, by decide⟩) tgs_nil))))
      (sok_seq (sok_asg (eok_call (aok_cons (eok_var (by decide)) (aok_cons (eok_var (by decide)) (aok_cons (eok_op ok_add (eok_sn (eok_var (by decide))) (eok_sn (eok_op ok_mul (eok_sn (eok_var (by decide))) (eok_sn (eok_var (by decide)))))) (aok_cons (eok_var (by decide)) aok_nil))))) (tg_name ⟨by decide, by decide⟩))
      (sok_seq (sok_asg (eok_op ok_add (eok_sn (eok_op ok_add (eok_sn (eok_var (by decide))) (eok_sn (eok_op ok_mul (eok_sn (eok_op ok_mul (eok_sn (eok_c fun _ => .int _)) (eok_sn (eok_var (by decide))))) (eok_sn (eok_var (by decide))))))) (eok_sn (eok_op ok_mul (eok_sn (eok_op ok_mul (eok_sn (eok_var (by decide))) (eok_sn (eok_var (by decide))))) (eok_sn (eok_var (by decide)))))) (tg_name ⟨by decide, by decide⟩))
      (sok_seq (sok_if (tok_valT (eok_sn (eok_op ok_ne (eok_sn (eok_var (by decide))) (eok_sn (eok_tup (aok_cons (eok_op ok_add (eok_sn (eok_var (by decide))) (eok_sn (eok_op ok_mul (eok_sn (eok_var (by decide))) (eok_sn (eok_var (by decide)))))) (aok_cons (eok_op ok_add (eok_sn (eok_var (by decide))) (eok_sn (eok_op ok_mul (eok_sn (eok_var (by decide))) (eok_sn (eok_var (by decide)))))) (aok_cons (eok_var (by decide)) aok_nil)))))))) (sok_ret (eok_c fun _ => .bl _)) sok_nil)
      (sok_seq (sok_asg (eok_call (aok_cons (eok_var (by decide)) (aok_cons (eok_op ok_add (eok_sn (eok_var (by decide))) (eok_sn (eok_op ok_mul (eok_sn (eok_var (by decide))) (eok_sn (eok_var (by decide)))))) (aok_cons (eok_var (by decide)) (aok_cons (eok_var (by decide)) aok_nil))))) (tg_name ⟨by decide, by decide⟩))
      (sok_seq (sok_asg (eok_op ok_add (eok_sn (eok_op ok_add (eok_sn (eok_var (by decide))) (eok_sn (eok_op ok_mul (eok_sn (eok_op ok_mul (eok_sn (eok_c fun _ => .int _)) (eok_sn (eok_var (by decide))))) (eok_sn (eok_var (by decide))))))) (eok_sn (eok_op ok_mul (eok_sn (eok_op ok_mul (eok_sn (eok_var (by decide))) (eok_sn (eok_var (by decide))))) (eok_sn (eok_var (by decide)))))) (tg_name ⟨by decide, by decide⟩))
      (sok_ret (eok_op ok_eq (eok_sn (eok_var (by decide))) (eok_sn (eok_tup (aok_cons (eok_op ok_add (eok_sn (eok_var (by decide))) (eok_sn (eok_op ok_mul (eok_sn (eok_var (by decide))) (eok_sn (eok_var (by decide)))))) (aok_cons (eok_op ok_add (eok_sn (eok_var (by decide))) (eok_sn (eok_op ok_mul (eok_sn (eok_var (by decide))) (eok_sn (eok_var (by decide)))))) (aok_cons (eok_var (by decide)) aok_nil))))))))))))))⟩
theorem cal__law_turned_right (T : Txt K mg D) (c_sums : CalX P w K mg base 3 "sums" (spU K D 4 F_sums)) (c__law_plain : CalX P w K mg base 1 "_law_plain" (spU K D 1 F__law_plain)) : CalX P w K mg base 4 "_law_turned_right" (spU K D 4 F__law_turned_right) :=
  calU T.f__law_turned_right sc__law_turned_right rfl rfl fun f cdv A outer s H E hr tk => ⟨_, [],
     (pss_cons (ps_par (i := 1) (j := 2) (by rfl) sc__law_turned_right.nd rfl rfl (by decide) rfl rfl (pa_cons (pe_op op_mod (pe_callTy call_intAny (by rfl) T.b_int (by decide +kernel) (pa_cons (pv 1) pa_nil)) (pv 3)) (pa_cons (pe_op op_mod (pe_callTy call_intAny (by rfl) T.b_int (by decide +kernel) (pa_cons (pv 2) pa_nil)) (pv 3)) pa_nil)) (by rfl))
      (pss_cons (ps_set (i := 4) sc__law_turned_right.nd rfl (Or.inl rfl) (pe_ix (ix_anyK (K := K)) (My.pe_cx c_sums tk hr (by decide) (by rfl) (pa_cons (pv 0) (pa_cons (pv 1) (pa_cons (pv 2) (pa_cons (pv 3) pa_nil))))) pe_int (fun _ _ => rfl)))
      (pss_cons (ps_set (i := 5) sc__law_turned_right.nd rfl (Or.inl rfl) (pe_ix (ix_anyK (K := K)) (My.pe_cx c_sums tk hr (by decide) (by rfl) (pa_cons (pv 0) (pa_cons (pe_op op_sub (pv 3) (pv 1)) (pa_cons (pe_op op_sub (pe_op op_sub (pv 3) pe_int) (pv 2)) (pa_cons (pv 3) pa_nil))))) pe_int (fun _ _ => rfl)))
      (pss_one (ps_ret (pe_cmpR (op_eqDK (K := K) hr.units) (pe_op (op_addAnyK (K := K)) (pv 4) (pv 5)) (pe_ix (ix_anyK (K := K)) (My.pe_cx c__law_plain tk hr (by decide) (by rfl) (pa_cons (pv 0) pa_nil)) pe_int (fun _ _ => rfl)) (nomark _))))))),
     (sok_seq (sok_par (by decide) (by decide) (by decide) (by decide) (aok_cons (eok_op ok_mod (eok_sn (eok_cb ok_int (aoks_cons (eok_sn (eok_var (by decide))) aoks_nil))) (eok_sn (eok_var (by decide)))) (aok_cons (eok_op ok_mod (eok_sn (eok_cb ok_int (aoks_cons (eok_sn (eok_var (by decide))) aoks_nil))) (eok_sn (eok_var (by decide)))) aok_nil)))
      (sok_seq (sok_asg (eok_op ok_ix (eok_sn (eok_call (aok_cons (eok_var (by decide)) (aok_cons (eok_var (by decide)) (aok_cons (eok_var (by decide)) (aok_cons (eok_var (by decide)) aok_nil)))))) (eok_sn (eok_c fun _ => .int _))) (tg_name ⟨by decide, by decide⟩))
      (sok_seq (sok_asg (eok_op ok_ix (eok_sn (eok_call (aok_cons (eok_var (by decide)) (aok_cons (eok_op ok_sub (eok_sn (eok_var (by decide))) (eok_sn (eok_var (by decide)))) (aok_cons (eok_op ok_sub (eok_sn (eok_op ok_sub (eok_sn (eok_var (by decide))) (eok_sn (eok_c fun _ => .int _)))) (eok_sn (eok_var (by decide)))) (aok_cons (eok_var (by decide)) aok_nil)))))) (eok_sn (eok_c fun _ => .int _))) (tg_name ⟨by decide, by decide⟩))
      (sok_ret (eok_op ok_eq (eok_sn (eok_op ok_add (eok_sn (eok_var (by decide))) (eok_sn (eok_var (by decide))))) (eok_sn (eok_op ok_ix (eok_sn (eok_call (aok_cons (eok_var (by decide)) aok_nil))) (eok_sn (eok_c fun _ => .int _)))))))))⟩
theorem cal__law_few_right (T : Txt K mg D) (c_sums : CalX P w K mg base 3 "sums" (spU K D 4 F_sums)) : CalX P w K mg base 4 "_law_few_right" (spU K D 3 F__law_few_right) :=
  calU T.f__law_few_right sc__law_few_right rfl rfl fun f cdv A outer s H E hr tk => ⟨_, [],
     (pss_cons (ps_par (i := 3) (j := 4) (by rfl) sc__law_few_right.nd rfl rfl (by decide) rfl rfl (pa_cons (pe_op op_fdivW (pv 1) (pv 2)) (pa_cons (pe_op op_fdivW (pe_op (op_addAnyK (K := K)) (pv 0) (pv 1)) (pv 2)) pa_nil)) (by rfl))
      (pss_cons (ps_if (pt_cmpR (op_neDK (K := K) hr.units) (My.pe_cx c_sums tk hr (by decide) (by rfl) (pa_cons pe_int (pa_cons (pv 0) (pa_cons (pv 1) (pa_cons (pv 2) pa_nil))))) (pe_tup (pa_cons (pv 3) (pa_cons pe_int (pa_cons (pe_op (op_mulAnyK (K := K)) (pv 3) (pv 3)) pa_nil)))) (nomark _))
      (pss_one (ps_ret pe_bl))
      pss_nil)
      (pss_one (ps_ret (pe_cmpR (op_eqDK (K := K) hr.units) (My.pe_cx c_sums tk hr (by decide) (by rfl) (pa_cons pe_int (pa_cons (pv 0) (pa_cons (pv 1) (pa_cons (pv 2) pa_nil))))) (pe_tup (pa_cons (pe_op (op_addAnyK (K := K)) (pv 3) (pv 4)) (pa_cons (pv 4) (pa_cons (pe_op (op_addAnyK (K := K)) (pe_op (op_mulAnyK (K := K)) (pv 3) (pv 3)) (pe_op (op_mulAnyK (K := K)) (pv 4) (pv 4))) pa_nil)))) (nomark _)))))),
     (sok_seq (sok_par (by decide) (by decide) (by decide) (by decide) (aok_cons (eok_op ok_div (eok_sn (eok_var (by decide))) (eok_sn (eok_var (by decide)))) (aok_cons (eok_op ok_div (eok_sn (eok_op ok_add (eok_sn (eok_var (by decide))) (eok_sn (eok_var (by decide))))) (eok_sn (eok_var (by decide)))) aok_nil)))
      (sok_seq (sok_if (tok_valT (eok_sn (eok_op ok_ne (eok_sn (eok_call (aok_cons (eok_c fun _ => .int _) (aok_cons (eok_var (by decide)) (aok_cons (eok_var (by decide)) (aok_cons (eok_var (by decide)) aok_nil)))))) (eok_sn (eok_tup (aok_cons (eok_var (by decide)) (aok_cons (eok_c fun _ => .int _) (aok_cons (eok_op ok_mul (eok_sn (eok_var (by decide))) (eok_sn (eok_var (by decide)))) aok_nil)))))))) (sok_ret (eok_c fun _ => .bl _)) sok_nil)
      (sok_ret (eok_op ok_eq (eok_sn (eok_call (aok_cons (eok_c fun _ => .int _) (aok_cons (eok_var (by decide)) (aok_cons (eok_var (by decide)) (aok_cons (eok_var (by decide)) aok_nil)))))) (eok_sn (eok_tup (aok_cons (eok_op ok_add (eok_sn (eok_var (by decide))) (eok_sn (eok_var (by decide)))) (aok_cons (eok_var (by decide)) (aok_cons (eok_op ok_add (eok_sn (eok_op ok_mul (eok_sn (eok_var (by decide))) (eok_sn (eok_var (by decide))))) (eok_sn (eok_op ok_mul (eok_sn (eok_var (by decide))) (eok_sn (eok_var (by decide)))))) aok_nil)))))))))⟩
end My

set_option Elab.async false
set_option linter.all false
set_option maxRecDepth 100000
set_option maxHeartbeats 4000000
namespace My
open PySem PySem.Spec PyProof.Rows L2
open C8 (Cal pe_c pe_gc)
variable {P : Program} {w : World} {K : PySem.W.Frag} {mg : Str → Option Value} {base : Heap} {D : String → Addr}
theorem ok_law (T : Txt K mg D) {f : Addr} {fd : FuncData} (F : Fun K "law" "law" s_law f fd) (c__law_source : CalX P w K mg base 1 "_law_source" (spSource K)) (c__law_any : CalX P w K mg base 2 "_law_any" (spS K D 0 F__law_any)) (c__law_draw : CalX P w K mg base 1 "_law_draw" (spS K D 1 F__law_draw)) (c__law_fibonacci : CalX P w K mg base 1 "_law_fibonacci" (spU K D 1 F__law_fibonacci)) (c__law_pick : CalX P w K mg base 2 "_law_pick" (spS K D 1 F__law_pick)) (c__law_parts_right : CalX P w K mg base 4 "_law_parts_right" (spU K D 5 F__law_parts_right)) (c__law_shifted_right : CalX P w K mg base 4 "_law_shifted_right" (spU K D 5 F__law_shifted_right)) (c__law_turned_right : CalX P w K mg base 4 "_law_turned_right" (spU K D 4 F__law_turned_right)) (c__law_few_right : CalX P w K mg base 4 "_law_few_right" (spU K D 3 F__law_few_right)) : FnOk P w K mg base L2.CX0 5 f fd ["_law_script"] (sp_law K) := by
  refine F.ok sc_law (fun vs H Q E h => ?len) (fun cdv A outer s H vs Q E hr h => ?body)
  case len => obtain ⟨_, _, rfl, _⟩ := h; rfl
  case body =>
    have tk : Takes (cxOf CX0 P w K mg base nm_law "law" (defScope s_law) f cdv A outer s H E).nox (fun _ _ _ _ => False) := takes0
    exact ⟨_, pss_cons (ps_set (i := 1) sc_law.nd rfl (Or.inl rfl) (My.pe_cx c__law_source tk hr (by decide) (by rfl) (pa_cons (pv 0) pa_nil)))
     (pss_cons (ps_for PassesOwn.never rfl (pi_range1 (by rfl) T.b_range (pa_cons pe_int pa_nil)) (pg_name (i := 2) sc_law.nd rfl (Or.inl rfl))
      (pss_cons (ps_par (i := 3) (j := 4) (by rfl) sc_law.nd rfl rfl (by decide) rfl rfl (pa_cons (My.pe_cx c__law_any tk hr (by decide) (by rfl) (pa_cons (pv 1) pa_nil)) (pa_cons (My.pe_cx c__law_any tk hr (by decide) (by rfl) (pa_cons (pv 1) pa_nil)) pa_nil)) (by rfl))
      (pss_cons (ps_par (i := 5) (j := 6) (by rfl) sc_law.nd rfl rfl (by decide) rfl rfl (pa_cons (My.pe_cx c__law_any tk hr (by decide) (by rfl) (pa_cons (pv 1) pa_nil)) (pa_cons (pe_op (op_addAnyK (K := K)) pe_int (My.pe_cx c__law_any tk hr (by decide) (by rfl) (pa_cons (pv 1) pa_nil))) pa_nil)) (by rfl))
      (pss_cons (ps_if (pt_cmpR (op_eqDK (K := K) hr.units) (pe_op op_mod (pv 2) pe_int) pe_int (nomark _))
      (pss_cons (ps_asg (My.pe_cx c__law_fibonacci tk hr (by decide) (by rfl) (pa_cons (My.pe_cx c__law_pick tk hr (by decide) (by rfl) (pa_cons (pv 1) (pa_cons (pe_lst (pa_cons pe_int (pa_cons pe_int (pa_cons pe_int (pa_cons pe_int pa_nil))))) pa_nil))) pa_nil)) (pg_unlK (K := K) (pg_unl (by rfl) (pgs_cons (pg_name (i := 4) sc_law.nd rfl (Or.inl rfl)) (pgs_cons (pg_name (i := 6) sc_law.nd rfl (Or.inl rfl)) pgs_nil)))))
      (pss_one (ps_set (i := 5) sc_law.nd rfl (Or.inl rfl) (My.pe_cx c__law_pick tk hr (by decide) (by rfl) (pa_cons (pv 1) (pa_cons (pe_lst (pa_cons pe_int (pa_cons pe_int (pa_cons (pe_op op_sub (pv 6) pe_int) (pa_cons (pv 4) pa_nil))))) pa_nil))))))
      pss_nil)
      (pss_cons (ps_set (i := 7) sc_law.nd rfl (Or.inl rfl) (My.pe_cx c__law_any tk hr (by decide) (by rfl) (pa_cons (pv 1) pa_nil)))
      (pss_cons (ps_set (i := 8) sc_law.nd rfl (Or.inl rfl) (pe_callB (call_min2 rfl) (by rfl) T.b_min (by decide +kernel) (pa_cons (pv 3) (pa_cons (pv 7) pa_nil))))
      (pss_cons (ps_if (PW.pt (pw_and (pt_cmpR op_le (pe_op (op_addAnyK (K := K)) (pe_op (op_mulAnyK (K := K)) (pv 4) (pv 8)) (pv 5)) (pe_op My.op_powW pe_int pe_int) (nomark _)) (pw_and1 (pt_not (pt_truthK (K := K) (My.pe_cx c__law_parts_right tk hr (by decide) (by rfl) (pa_cons (pv 3) (pa_cons (pv 4) (pa_cons (pv 5) (pa_cons (pv 6) (pa_cons (pv 8) pa_nil)))))) (fun _ => rfl))))))
      (pss_one (ps_ret pe_bl))
      pss_nil)
      (pss_cons (ps_set (i := 9) sc_law.nd rfl (Or.inl rfl) (My.pe_cx c__law_draw tk hr (by decide) (by rfl) (pa_cons (pv 1) (pa_cons (pe_op My.op_powW pe_int pe_int) pa_nil))))
      (pss_cons (ps_if (PW.pt (pw_and (pt_cmpR op_le (pe_op (op_addAnyK (K := K)) (pv 5) (pe_op (op_mulAnyK (K := K)) (pv 9) (pv 6))) (pe_op My.op_powW pe_int pe_int) (nomark _)) (pw_and1 (pt_cmpR op_le (pe_op (op_addAnyK (K := K)) (pv 4) (pe_op (op_mulAnyK (K := K)) (pv 9) (pv 6))) (pe_op My.op_powW pe_int pe_int) (nomark _)))))
      (pss_one (ps_if (pt_not (pt_truthK (K := K) (My.pe_cx c__law_shifted_right tk hr (by decide) (by rfl) (pa_cons (pv 3) (pa_cons (pv 4) (pa_cons (pv 5) (pa_cons (pv 6) (pa_cons (pv 9) pa_nil)))))) (fun _ => rfl)))
      (pss_one (ps_ret pe_bl))
      pss_nil))
      pss_nil)
      (pss_one (ps_if (PW.pt (pw_or (pt_not (pt_truthK (K := K) (My.pe_cx c__law_turned_right tk hr (by decide) (by rfl) (pa_cons (pv 3) (pa_cons (pv 4) (pa_cons (pv 5) (pa_cons (pv 6) pa_nil))))) (fun _ => rfl))) (pw_or1 (pt_not (pt_truthK (K := K) (My.pe_cx c__law_few_right tk hr (by decide) (by rfl) (pa_cons (pv 4) (pa_cons (pv 5) (pa_cons (pv 6) pa_nil)))) (fun _ => rfl))))))
      (pss_one (ps_ret pe_bl))
      pss_nil)))))))))))
      (pss_one (ps_ret pe_bl))), law_run (O' := []) (m := 9) rfl
     (sok_seq (sok_for (iok_rng1 (aoks_cons (eok_sn (eok_c fun _ => .int _)) aoks_nil)) (tg_name ⟨by decide, by decide⟩) (sok_seq (sok_par (by decide) (by decide) (by decide) (by decide) (aok_cons (eok_callS aok_nil) (aok_cons (eok_callS aok_nil) aok_nil)))
      (sok_seq (sok_par (by decide) (by decide) (by decide) (by decide) (aok_cons (eok_callS aok_nil) (aok_cons (eok_op ok_add (eok_sn (eok_c fun _ => .int _)) (eok_sn (eok_callS aok_nil))) aok_nil)))
      (sok_seq (sok_if (tok_valT (eok_sn (eok_op ok_eq (eok_sn (eok_op ok_mod (eok_sn (eok_var (by decide))) (eok_sn (eok_c fun _ => .int _)))) (eok_sn (eok_c fun _ => .int _))))) (sok_seq (sok_asg (eok_call (aok_cons (eok_callS (aok_cons (eok_of (fok_lst (aok_cons (eok_c fun _ => .int _) (aok_cons (eok_c fun _ => .int _) (aok_cons (eok_c fun _ => .int _) (aok_cons (eok_c fun _ => .int _) aok_nil)))))) aok_nil)) aok_nil)) (tg_unl (gs_len_cons (gs_len_cons gs_len_nil)) (tgs_cons (tg_name ⟨by decide, by decide⟩) (tgs_cons (tg_name ⟨by decide, by decide⟩) tgs_nil))))
      (sok_asg (eok_callS (aok_cons (eok_of (fok_lst (aok_cons (eok_c fun _ => .int _) (aok_cons (eok_c fun _ => .int _) (aok_cons (eok_op ok_sub (eok_sn (eok_var (by decide))) (eok_sn (eok_c fun _ => .int _))) (aok_cons (eok_var (by decide)) aok_nil)))))) aok_nil)) (tg_name ⟨by decide, by decide⟩))) sok_nil)
      (sok_seq (sok_asg (eok_callS aok_nil) (tg_name ⟨by decide, by decide⟩))
      (sok_seq (sok_asg (eok_cb ok_min2 (aoks_cons (eok_sn (eok_var (by decide))) (aoks_cons (eok_sn (eok_var (by decide))) aoks_nil))) (tg_name ⟨by decide, by decide⟩))
      (sok_seq (sok_if (tok_and (tok_valT (eok_sn (eok_op ok_le (eok_sn (eok_op ok_add (eok_sn (eok_op ok_mul (eok_sn (eok_var (by decide))) (eok_sn (eok_var (by decide))))) (eok_sn (eok_var (by decide))))) (eok_sn (eok_op ok_pow (eok_sn (eok_c fun _ => .int _)) (eok_sn (eok_c fun _ => .int _))))))) (tok_not (tok_tru (eok_sn (eok_call (aok_cons (eok_var (by decide)) (aok_cons (eok_var (by decide)) (aok_cons (eok_var (by decide)) (aok_cons (eok_var (by decide)) (aok_cons (eok_var (by decide)) aok_nil)))))))))) (sok_ret (eok_c fun _ => .bl _)) sok_nil)
      (sok_seq (sok_asg (eok_callS (aok_cons (eok_op ok_pow (eok_sn (eok_c fun _ => .int _)) (eok_sn (eok_c fun _ => .int _))) aok_nil)) (tg_name ⟨by decide, by decide⟩))
      (sok_seq (sok_if (tok_and (tok_valT (eok_sn (eok_op ok_le (eok_sn (eok_op ok_add (eok_sn (eok_var (by decide))) (eok_sn (eok_op ok_mul (eok_sn (eok_var (by decide))) (eok_sn (eok_var (by decide))))))) (eok_sn (eok_op ok_pow (eok_sn (eok_c fun _ => .int _)) (eok_sn (eok_c fun _ => .int _))))))) (tok_valT (eok_sn (eok_op ok_le (eok_sn (eok_op ok_add (eok_sn (eok_var (by decide))) (eok_sn (eok_op ok_mul (eok_sn (eok_var (by decide))) (eok_sn (eok_var (by decide))))))) (eok_sn (eok_op ok_pow (eok_sn (eok_c fun _ => .int _)) (eok_sn (eok_c fun _ => .int _)))))))) (sok_if (tok_not (tok_tru (eok_sn (eok_call (aok_cons (eok_var (by decide)) (aok_cons (eok_var (by decide)) (aok_cons (eok_var (by decide)) (aok_cons (eok_var (by decide)) (aok_cons (eok_var (by decide)) aok_nil))))))))) (sok_ret (eok_c fun _ => .bl _)) sok_nil) sok_nil)
      (sok_if (tok_or (tok_not (tok_tru (eok_sn (eok_call (aok_cons (eok_var (by decide)) (aok_cons (eok_var (by decide)) (aok_cons (eok_var (by decide)) (aok_cons (eok_var (by decide)) aok_nil)))))))) (tok_not (tok_tru (eok_sn (eok_call (aok_cons (eok_var (by decide)) (aok_cons (eok_var (by decide)) (aok_cons (eok_var (by decide)) aok_nil)))))))) (sok_ret (eok_c fun _ => .bl _)) sok_nil))))))))))
      (sok_ret (eok_c fun _ => .bl _))) law_true h (by decide)⟩
end My

set_option Elab.async false
set_option linter.all false
set_option maxRecDepth 100000
set_option maxHeartbeats 4000000
namespace My
open PySem PySem.Spec PyProof.Rows L2
open C8 (Cal pe_c pe_gc)
variable {P : Program} {w : World} {K : PySem.W.Frag} {mg : Str → Option Value} {base : Heap} {D : String → Addr}
theorem all_mk {P : Program} {w : World} {K : PySem.W.Frag} {h : Heap} {mg : Str → Option Value} {fa : Addr} (X : K.In h) (G : h.Ns mainGlobals mg) (hfa : mg "law" = some (.ref fa))
    {f0 f1 f2 f3 f4 f5 f6 f7 f8 f9 f10 f11 f12 f13 f14 f15 : Addr} {od0 an0 od1 an1 od2 an2 od3 an3 od4 an4 od5 an5 od6 an6 od7 an7 od8 an8 od9 an9 od10 an10 od11 an11 od12 an12 od13 an13 od14 an14 od15 an15 : Option Addr} {sl0 sl1 sl2 sl3 sl4 sl5 sl6 sl7 sl8 sl9 sl10 sl11 sl12 sl13 sl14 sl15 : Array (Option Value)} {oc0 kV0 dc0 pm0 cd0 ct0 oc1 kV1 dc1 pm1 cd1 ct1 oc2 kV2 dc2 pm2 cd2 ct2 oc3 kV3 dc3 pm3 cd3 ct3 oc4 kV4 dc4 pm4 cd4 ct4 oc5 kV5 dc5 pm5 cd5 ct5 oc6 kV6 dc6 pm6 cd6 ct6 oc7 kV7 dc7 pm7 cd7 ct7 oc8 kV8 dc8 pm8 cd8 ct8 oc9 kV9 dc9 pm9 cd9 ct9 oc10 kV10 dc10 pm10 cd10 ct10 oc11 kV11 dc11 pm11 cd11 ct11 oc12 kV12 dc12 pm12 cd12 ct12 oc13 kV13 dc13 pm13 cd13 ct13 oc14 kV14 dc14 pm14 cd14 ct14 oc15 kV15 dc15 pm15 cd15 ct15 : Value}
    (a0 : PySem.W.nsIn K mainGlobals "is_integer" = some (some (.ref f0))) (l0 : K.lookup f0 = some ⟨oc0, od0, .func (PySem.W.fnOf "is_integer" "is_integer" (defArgs s_is_integer) (defBody s_is_integer) (defScope s_is_integer) .none kV0 dc0 pm0 an0 cd0 ct0), sl0⟩) (c0 : PySem.W.codeIn K cd0 "is_integer" = true) (k0 : PySem.W.keepIn K (.ref f0) = true)
    (a1 : PySem.W.nsIn K mainGlobals "sums_of_turn" = some (some (.ref f1))) (l1 : K.lookup f1 = some ⟨oc1, od1, .func (PySem.W.fnOf "sums_of_turn" "sums_of_turn" (defArgs s_sums_of_turn) (defBody s_sums_of_turn) (defScope s_sums_of_turn) .none kV1 dc1 pm1 an1 cd1 ct1), sl1⟩) (c1 : PySem.W.codeIn K cd1 "sums_of_turn" = true) (k1 : PySem.W.keepIn K (.ref f1) = true)
    (a2 : PySem.W.nsIn K mainGlobals "floor_sums" = some (some (.ref f2))) (l2 : K.lookup f2 = some ⟨oc2, od2, .func (PySem.W.fnOf "floor_sums" "floor_sums" (defArgs s_floor_sums) (defBody s_floor_sums) (defScope s_floor_sums) .none kV2 dc2 pm2 an2 cd2 ct2), sl2⟩) (c2 : PySem.W.codeIn K cd2 "floor_sums" = true) (k2 : PySem.W.keepIn K (.ref f2) = true)
    (a3 : PySem.W.nsIn K mainGlobals "sums" = some (some (.ref f3))) (l3 : K.lookup f3 = some ⟨oc3, od3, .func (PySem.W.fnOf "sums" "sums" (defArgs s_sums) (defBody s_sums) (defScope s_sums) .none kV3 dc3 pm3 an3 cd3 ct3), sl3⟩) (c3 : PySem.W.codeIn K cd3 "sums" = true) (k3 : PySem.W.keepIn K (.ref f3) = true)
    (a4 : PySem.W.nsIn K mainGlobals "_law_source" = some (some (.ref f4))) (l4 : K.lookup f4 = some ⟨oc4, od4, .func (PySem.W.fnOf "_law_source" "_law_source" (defArgs s__law_source) (defBody s__law_source) (defScope s__law_source) .none kV4 dc4 pm4 an4 cd4 ct4), sl4⟩) (c4 : PySem.W.codeIn K cd4 "_law_source" = true) (k4 : PySem.W.keepIn K (.ref f4) = true)
    (a5 : PySem.W.nsIn K mainGlobals "_law_draw" = some (some (.ref f5))) (l5 : K.lookup f5 = some ⟨oc5, od5, .func (PySem.W.fnOf "_law_draw" "_law_draw" (defArgs s__law_draw) (defBody s__law_draw) (defScope s__law_draw) .none kV5 dc5 pm5 an5 cd5 ct5), sl5⟩) (c5 : PySem.W.codeIn K cd5 "_law_draw" = true) (k5 : PySem.W.keepIn K (.ref f5) = true)
    (a6 : PySem.W.nsIn K mainGlobals "_law_ten" = some (some (.ref f6))) (l6 : K.lookup f6 = some ⟨oc6, od6, .func (PySem.W.fnOf "_law_ten" "_law_ten" (defArgs s__law_ten) (defBody s__law_ten) (defScope s__law_ten) .none kV6 dc6 pm6 an6 cd6 ct6), sl6⟩) (c6 : PySem.W.codeIn K cd6 "_law_ten" = true) (k6 : PySem.W.keepIn K (.ref f6) = true)
    (a7 : PySem.W.nsIn K mainGlobals "_law_pick" = some (some (.ref f7))) (l7 : K.lookup f7 = some ⟨oc7, od7, .func (PySem.W.fnOf "_law_pick" "_law_pick" (defArgs s__law_pick) (defBody s__law_pick) (defScope s__law_pick) .none kV7 dc7 pm7 an7 cd7 ct7), sl7⟩) (c7 : PySem.W.codeIn K cd7 "_law_pick" = true) (k7 : PySem.W.keepIn K (.ref f7) = true)
    (a8 : PySem.W.nsIn K mainGlobals "_law_any" = some (some (.ref f8))) (l8 : K.lookup f8 = some ⟨oc8, od8, .func (PySem.W.fnOf "_law_any" "_law_any" (defArgs s__law_any) (defBody s__law_any) (defScope s__law_any) .none kV8 dc8 pm8 an8 cd8 ct8), sl8⟩) (c8 : PySem.W.codeIn K cd8 "_law_any" = true) (k8 : PySem.W.keepIn K (.ref f8) = true)
    (a9 : PySem.W.nsIn K mainGlobals "_law_fibonacci" = some (some (.ref f9))) (l9 : K.lookup f9 = some ⟨oc9, od9, .func (PySem.W.fnOf "_law_fibonacci" "_law_fibonacci" (defArgs s__law_fibonacci) (defBody s__law_fibonacci) (defScope s__law_fibonacci) .none kV9 dc9 pm9 an9 cd9 ct9), sl9⟩) (c9 : PySem.W.codeIn K cd9 "_law_fibonacci" = true) (k9 : PySem.W.keepIn K (.ref f9) = true)
    (a10 : PySem.W.nsIn K mainGlobals "_law_plain" = some (some (.ref f10))) (l10 : K.lookup f10 = some ⟨oc10, od10, .func (PySem.W.fnOf "_law_plain" "_law_plain" (defArgs s__law_plain) (defBody s__law_plain) (defScope s__law_plain) .none kV10 dc10 pm10 an10 cd10 ct10), sl10⟩) (c10 : PySem.W.codeIn K cd10 "_law_plain" = true) (k10 : PySem.W.keepIn K (.ref f10) = true)
    (a11 : PySem.W.nsIn K mainGlobals "_law_parts_right" = some (some (.ref f11))) (l11 : K.lookup f11 = some ⟨oc11, od11, .func (PySem.W.fnOf "_law_parts_right" "_law_parts_right" (defArgs s__law_parts_right) (defBody s__law_parts_right) (defScope s__law_parts_right) .none kV11 dc11 pm11 an11 cd11 ct11), sl11⟩) (c11 : PySem.W.codeIn K cd11 "_law_parts_right" = true) (k11 : PySem.W.keepIn K (.ref f11) = true)
    (a12 : PySem.W.nsIn K mainGlobals "_law_shifted_right" = some (some (.ref f12))) (l12 : K.lookup f12 = some ⟨oc12, od12, .func (PySem.W.fnOf "_law_shifted_right" "_law_shifted_right" (defArgs s__law_shifted_right) (defBody s__law_shifted_right) (defScope s__law_shifted_right) .none kV12 dc12 pm12 an12 cd12 ct12), sl12⟩) (c12 : PySem.W.codeIn K cd12 "_law_shifted_right" = true) (k12 : PySem.W.keepIn K (.ref f12) = true)
    (a13 : PySem.W.nsIn K mainGlobals "_law_turned_right" = some (some (.ref f13))) (l13 : K.lookup f13 = some ⟨oc13, od13, .func (PySem.W.fnOf "_law_turned_right" "_law_turned_right" (defArgs s__law_turned_right) (defBody s__law_turned_right) (defScope s__law_turned_right) .none kV13 dc13 pm13 an13 cd13 ct13), sl13⟩) (c13 : PySem.W.codeIn K cd13 "_law_turned_right" = true) (k13 : PySem.W.keepIn K (.ref f13) = true)
    (a14 : PySem.W.nsIn K mainGlobals "_law_few_right" = some (some (.ref f14))) (l14 : K.lookup f14 = some ⟨oc14, od14, .func (PySem.W.fnOf "_law_few_right" "_law_few_right" (defArgs s__law_few_right) (defBody s__law_few_right) (defScope s__law_few_right) .none kV14 dc14 pm14 an14 cd14 ct14), sl14⟩) (c14 : PySem.W.codeIn K cd14 "_law_few_right" = true) (k14 : PySem.W.keepIn K (.ref f14) = true)
    (a15 : PySem.W.nsIn K mainGlobals "law" = some (some (.ref f15))) (l15 : K.lookup f15 = some ⟨oc15, od15, .func (PySem.W.fnOf "law" "law" (defArgs s_law) (defBody s_law) (defScope s_law) .none kV15 dc15 pm15 an15 cd15 ct15), sl15⟩) (c15 : PySem.W.codeIn K cd15 "law" = true) (k15 : PySem.W.keepIn K (.ref f15) = true)
    (z_abs : PySem.W.nsIn K mainGlobals "abs" = some none)
    (z_bool : PySem.W.nsIn K mainGlobals "bool" = some none)
    (z_int : PySem.W.nsIn K mainGlobals "int" = some none)
    (z_isinstance : PySem.W.nsIn K mainGlobals "isinstance" = some none)
    (z_len : PySem.W.nsIn K mainGlobals "len" = some none)
    (z_list : PySem.W.nsIn K mainGlobals "list" = some none)
    (z_min : PySem.W.nsIn K mainGlobals "min" = some none)
    (z_range : PySem.W.nsIn K mainGlobals "range" = some none)
    (z_reversed : PySem.W.nsIn K mainGlobals "reversed" = some none)
    {t_GREATEST : Tok} (z_GREATEST : PySem.W.nsIn K mainGlobals "GREATEST" = some (some (.int 10000000000000000000000000000000000000000 t_GREATEST)))
    {C_InvalidNumber : Addr}
    (y_InvalidNumber : PySem.W.nsIn K mainGlobals "InvalidNumber" = some (some (.ref C_InvalidNumber)))
    (xe_InvalidNumber : PySem.W.excIn K C_InvalidNumber bmVE "ValueError.__new__" = true) (xk_InvalidNumber : PySem.W.keepIn K (.ref C_InvalidNumber) = true) (xt_InvalidNumber : PySem.W.typeIn K (.ref C_InvalidNumber) = some (.type "type"))
    (xhg_InvalidNumber : PySem.W.findIn K (.ref C_InvalidNumber) "__getattribute__" = some (some (.builtin "BaseException.__getattribute__")))
    (xhk_InvalidNumber : PySem.W.findIn K (.ref C_InvalidNumber) "__getattr__" = some none)
    (xhs_InvalidNumber : PySem.W.subIn K (.ref C_InvalidNumber) (.type "BaseException") = some true)
    (xhd_InvalidNumber : PySem.W.hasDictIn K C_InvalidNumber = true)
    (xha_InvalidNumber : PySem.W.findIn K (.ref C_InvalidNumber) "__class__" = some (some (.builtin "object.__class__")))
    (xhn_InvalidNumber : PySem.W.specialIn K (.builtin "object.__class__") "__get__" = some (some (.builtin "getset_descriptor.__get__")))
    (xht_InvalidNumber : PySem.W.takesIn K (.builtin "object.__class__") = some true)
    (xhm_InvalidNumber : PySem.W.mroIn K C_InvalidNumber (.type "object") = some true)
    (xv_InvalidNumber : PySem.W.subIn K (.ref C_InvalidNumber) (.type "ValueError") = some true)
    (xi_InvalidNumber_InvalidNumber : PySem.W.subIn K (.ref C_InvalidNumber) (.ref C_InvalidNumber) = some true)
    : ∃ fd : FuncData, (∀ (s : Shared) (v : Value), BindsTo s fd ⟨[v], []⟩ [("_law_script", v)]) ∧ ∀ base : Heap, K.In base → base.Ns mainGlobals mg → FnOk P w K mg base L2.CX0 5 fa fd ["_law_script"] (sp_law K) := by
  have hD : ∃ D : String → Addr, D "InvalidNumber" = C_InvalidNumber ∧ True := ⟨fun c => if c = "InvalidNumber" then C_InvalidNumber else 0, by simp, trivial⟩
  obtain ⟨D, rfl, _⟩ := hD
  have KL : KlsOK K D kls := by
    refine ⟨?_, ?_, ?_, ?_, ?_⟩
    · intro c hc
      simp only [My.kls, List.mem_cons, List.not_mem_nil, or_false] at hc
      rcases hc with rfl
      · exact ⟨xhg_InvalidNumber, xhk_InvalidNumber, xhs_InvalidNumber, xhd_InvalidNumber, xha_InvalidNumber, xhn_InvalidNumber, xht_InvalidNumber, xhm_InvalidNumber⟩
    · intro c hc d hd
      simp only [My.kls, List.mem_cons, List.not_mem_nil, or_false] at hc hd
      rcases hc with rfl
      · rcases hd with rfl
        · exact kit_own xi_InvalidNumber_InvalidNumber xi_InvalidNumber_InvalidNumber xhd_InvalidNumber xt_InvalidNumber
    · intro c hc
      simp only [My.kls, List.mem_cons, List.not_mem_nil, or_false] at hc
      rcases hc with rfl
      · exact kit_ve xv_InvalidNumber
    · intro c hc
      simp only [My.kls, List.mem_cons, List.not_mem_nil, or_false] at hc
      rcases hc with rfl
      · exact kit_no xhd_InvalidNumber xt_InvalidNumber
    · intro c hc d hd
      simp only [My.kls, List.mem_cons, List.not_mem_nil, or_false] at hc hd
      rcases hc with rfl
      · rcases hd with rfl
        · exact PySem.W.exm_ref xhs_InvalidNumber xhd_InvalidNumber xt_InvalidNumber xi_InvalidNumber_InvalidNumber
  have T : Txt K mg D := ⟨My.has_mk X G a0 l0 c0 k0 (by intro _ _ _ _ _ _ us hl; exact (match us, hl with | [_], _ => rfl)), My.has_mk X G a1 l1 c1 k1 (by intro _ _ _ _ _ _ us hl; exact (match us, hl with | [_, _], _ => rfl)), My.has_mk X G a2 l2 c2 k2 (by intro _ _ _ _ _ _ us hl; exact (match us, hl with | [_, _, _, _], _ => rfl)), My.has_mk X G a3 l3 c3 k3 (by intro _ _ _ _ _ _ us hl; exact (match us, hl with | [_, _, _, _], _ => rfl)), My.has_mk X G a4 l4 c4 k4 (by intro _ _ _ _ _ _ us hl; exact (match us, hl with | [_], _ => rfl)), My.has_mk X G a5 l5 c5 k5 (by intro _ _ _ _ _ _ us hl; exact (match us, hl with | [_, _], _ => rfl)), My.has_mk X G a6 l6 c6 k6 (by intro _ _ _ _ _ _ us hl; exact (match us, hl with | [_], _ => rfl)), My.has_mk X G a7 l7 c7 k7 (by intro _ _ _ _ _ _ us hl; exact (match us, hl with | [_, _], _ => rfl)), My.has_mk X G a8 l8 c8 k8 (by intro _ _ _ _ _ _ us hl; exact (match us, hl with | [_], _ => rfl)), My.has_mk X G a9 l9 c9 k9 (by intro _ _ _ _ _ _ us hl; exact (match us, hl with | [_], _ => rfl)), My.has_mk X G a10 l10 c10 k10 (by intro _ _ _ _ _ _ us hl; exact (match us, hl with | [_], _ => rfl)), My.has_mk X G a11 l11 c11 k11 (by intro _ _ _ _ _ _ us hl; exact (match us, hl with | [_, _, _, _, _], _ => rfl)), My.has_mk X G a12 l12 c12 k12 (by intro _ _ _ _ _ _ us hl; exact (match us, hl with | [_, _, _, _, _], _ => rfl)), My.has_mk X G a13 l13 c13 k13 (by intro _ _ _ _ _ _ us hl; exact (match us, hl with | [_, _, _, _], _ => rfl)), My.has_mk X G a14 l14 c14 k14 (by intro _ _ _ _ _ _ us hl; exact (match us, hl with | [_, _, _], _ => rfl)), My.has_mk X G a15 l15 c15 k15 (by intro _ _ _ _ _ _ us hl; exact (match us, hl with | [_], _ => rfl)), PySem.W.mg_none_of X G z_abs, PySem.W.mg_none_of X G z_bool, PySem.W.mg_none_of X G z_int, PySem.W.mg_none_of X G z_isinstance, PySem.W.mg_none_of X G z_len, PySem.W.mg_none_of X G z_list, PySem.W.mg_none_of X G z_min, PySem.W.mg_none_of X G z_range, PySem.W.mg_none_of X G z_reversed, ⟨_, PySem.W.mg_of X G z_GREATEST, _, rfl⟩, PySem.W.mg_of X G y_InvalidNumber, ⟨xe_InvalidNumber, xk_InvalidNumber, ⟨xhg_InvalidNumber, xhk_InvalidNumber, xhs_InvalidNumber, xhd_InvalidNumber, xha_InvalidNumber, xhn_InvalidNumber, xht_InvalidNumber, xhm_InvalidNumber⟩, xt_InvalidNumber⟩, KL⟩
  have e := hfa.symm.trans (PySem.W.mg_of X G a15)
  cases e
  refine ⟨PySem.W.fnOf "law" "law" (defArgs s_law) (defBody s_law) (defScope s_law) .none kV15 dc15 pm15 an15 cd15 ct15, fun s v => .of_eq rfl, fun base _ _ => ?_⟩
  have c_is_integer : CalX P w K mg base 1 "is_integer" (spU K D 1 F_is_integer) := cal_is_integer T 
  have c_sums_of_turn : CalX P w K mg base 1 "sums_of_turn" (spU K D 2 F_sums_of_turn) := cal_sums_of_turn T 
  have c_floor_sums : CalX P w K mg base 2 "floor_sums" (spU K D 4 F_floor_sums) := cal_floor_sums T c_sums_of_turn
  have c_sums : CalX P w K mg base 3 "sums" (spU K D 4 F_sums) := cal_sums T c_floor_sums c_is_integer
  have c__law_source : CalX P w K mg base 1 "_law_source" (spSource K) := cal__law_source T 
  have c__law_draw : CalX P w K mg base 1 "_law_draw" (spS K D 1 F__law_draw) := cal__law_draw T 
  have c__law_ten : CalX P w K mg base 1 "_law_ten" (spU K D 1 F__law_ten) := cal__law_ten T 
  have c__law_pick : CalX P w K mg base 2 "_law_pick" (spS K D 1 F__law_pick) := cal__law_pick T c__law_draw
  have c__law_any : CalX P w K mg base 2 "_law_any" (spS K D 0 F__law_any) := cal__law_any T c__law_ten c__law_draw
  have c__law_fibonacci : CalX P w K mg base 1 "_law_fibonacci" (spU K D 1 F__law_fibonacci) := cal__law_fibonacci T 
  have c__law_plain : CalX P w K mg base 1 "_law_plain" (spU K D 1 F__law_plain) := cal__law_plain T 
  have c__law_parts_right : CalX P w K mg base 4 "_law_parts_right" (spU K D 5 F__law_parts_right) := cal__law_parts_right T c_sums
  have c__law_shifted_right : CalX P w K mg base 4 "_law_shifted_right" (spU K D 5 F__law_shifted_right) := cal__law_shifted_right T c_sums c__law_plain
  have c__law_turned_right : CalX P w K mg base 4 "_law_turned_right" (spU K D 4 F__law_turned_right) := cal__law_turned_right T c_sums c__law_plain
  have c__law_few_right : CalX P w K mg base 4 "_law_few_right" (spU K D 3 F__law_few_right) := cal__law_few_right T c_sums
  exact ok_law T (fun_mk (st := s_law) l15 c15 k15) c__law_source c__law_any c__law_draw c__law_fibonacci c__law_pick c__law_parts_right c__law_shifted_right c__law_turned_right c__law_few_right
end My
open PySem PySem.W PyProof.Rows
set_option maxHeartbeats 0 in
theorem PySem.Challenge.cw_bymarks_k42_whole_sums_holds : PySem.Challenge.rw_bymarks_k42_whole_sums.Holds := by
  w_on; o_law; k_head; (case hw => w_witness2)
  k_fill
  refine L2.walk_of (l := PySem.Challenge.rw_bymarks_k42_whole_sums) (n := 63) (k := 5) (x := "_law_script") (CX := fun _ => L2.CX0) (sp := fun w => My.sp_law _) rfl (by decide) rfl ⟨rfl, by decide, by decide⟩ (fun w h Y => PySem.W.kIn_of Y) ?F (fun w H a ns hl hO hS => My.law_start hl hO hS) (fun _ _ _ _ _ h => h)
  case F =>
    intro w mg fa h KX G hmg
    refine' My.all_mk KX G hmg ?a0 ?l0 ?c0 ?k0 ?a1 ?l1 ?c1 ?k1 ?a2 ?l2 ?c2 ?k2 ?a3 ?l3 ?c3 ?k3 ?a4 ?l4 ?c4 ?k4 ?a5 ?l5 ?c5 ?k5 ?a6 ?l6 ?c6 ?k6 ?a7 ?l7 ?c7 ?k7 ?a8 ?l8 ?c8 ?k8 ?a9 ?l9 ?c9 ?k9 ?a10 ?l10 ?c10 ?k10 ?a11 ?l11 ?c11 ?k11 ?a12 ?l12 ?c12 ?k12 ?a13 ?l13 ?c13 ?k13 ?a14 ?l14 ?c14 ?k14 ?a15 ?l15 ?c15 ?k15 ?z_abs ?z_bool ?z_int ?z_isinstance ?z_len ?z_list ?z_min ?z_range ?z_reversed ?z_GREATEST ?y_InvalidNumber ?xe_InvalidNumber ?xk_InvalidNumber ?xt_InvalidNumber ?xhg_InvalidNumber ?xhk_InvalidNumber ?xhs_InvalidNumber ?xhd_InvalidNumber ?xha_InvalidNumber ?xhn_InvalidNumber ?xht_InvalidNumber ?xhm_InvalidNumber ?xv_InvalidNumber ?xi_InvalidNumber_InvalidNumber
    (case a0 => k_is)
    (case l0 => k_is)
    (case c0 => k_is)
    (case k0 => k_is)
    (case a1 => k_is)
    (case l1 => k_is)
    (case c1 => k_is)
    (case k1 => k_is)
    (case a2 => k_is)
    (case l2 => k_is)
    (case c2 => k_is)
    (case k2 => k_is)
    (case a3 => k_is)
    (case l3 => k_is)
    (case c3 => k_is)
    (case k3 => k_is)
    (case a4 => k_is)
    (case l4 => k_is)
    (case c4 => k_is)
    (case k4 => k_is)
    (case a5 => k_is)
    (case l5 => k_is)
    (case c5 => k_is)
    (case k5 => k_is)
    (case a6 => k_is)
    (case l6 => k_is)
    (case c6 => k_is)
    (case k6 => k_is)
    (case a7 => k_is)
    (case l7 => k_is)
    (case c7 => k_is)
    (case k7 => k_is)
    (case a8 => k_is)
    (case l8 => k_is)
    (case c8 => k_is)
    (case k8 => k_is)
    (case a9 => k_is)
    (case l9 => k_is)
    (case c9 => k_is)
    (case k9 => k_is)
    (case a10 => k_is)
    (case l10 => k_is)
    (case c10 => k_is)
    (case k10 => k_is)
    (case a11 => k_is)
    (case l11 => k_is)
    (case c11 => k_is)
    (case k11 => k_is)
    (case a12 => k_is)
    (case l12 => k_is)
    (case c12 => k_is)
    (case k12 => k_is)
    (case a13 => k_is)
    (case l13 => k_is)
    (case c13 => k_is)
    (case k13 => k_is)
    (case a14 => k_is)
    (case l14 => k_is)
    (case c14 => k_is)
    (case k14 => k_is)
    (case a15 => k_is)
    (case l15 => k_is)
    (case c15 => k_is)
    (case k15 => k_is)
    (case z_abs => k_is)
    (case z_bool => k_is)
    (case z_int => k_is)
    (case z_isinstance => k_is)
    (case z_len => k_is)
    (case z_list => k_is)
    (case z_min => k_is)
    (case z_range => k_is)
    (case z_reversed => k_is)
    (case z_GREATEST => k_is)
    (case y_InvalidNumber => k_is)
    (case xe_InvalidNumber => k_exc)
    (case xk_InvalidNumber => k_is)
    (case xt_InvalidNumber => k_is)
    (case xhg_InvalidNumber => k_is)
    (case xhk_InvalidNumber => k_is)
    (case xhs_InvalidNumber => k_is)
    (case xhd_InvalidNumber => k_is)
    (case xha_InvalidNumber => k_is)
    (case xhn_InvalidNumber => k_is)
    (case xht_InvalidNumber => k_is)
    (case xhm_InvalidNumber => k_is)
    (case xv_InvalidNumber => k_is)
    (case xi_InvalidNumber_InvalidNumber => k_is)

