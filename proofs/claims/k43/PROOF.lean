import PyProof.Rows.All
import Wide.All
import OpenK.AllK
import Wide.FinOn
import PySem.Challenge.RW_bymarks_k43_families
import HandS.ForMost
import HandS.Codes
import HandS.Wide
import HandS.WideBits
import HandS.Gcd
import HandS.IsInst
import HandS.NoneIn
import HandS.Style
import HandS.ExcValue
import HandS.ExcIs
import HandS.ExcInit
import HandS.ExcOwn
import HandS.WordsExc
import HandS.RaiseMore
import HandS.FStr
import HandS.TupAny
import HandS.TupMul
import HandS.Deep
import HandS.Walk
import KE.GoesMore
import HandS.SetFor
import HandS.Strs
import HandS.SortInts
import HandS.More
import HandS.SortRule
import KE.KMathGC
import HandS.SortKw
import KE.DatumOrd
import KE.DataFind
import KE.KRevSl
import PyProof.EqAt
import PyProof.ListRange
import PyProof.Rows.SortShellAny
import PyProof.LongRange
import KE.KDictList
import KE.KDictCopyH
import KE.KDictWalk
import PyProof.TupleOfGen
set_option Elab.async false
set_option linter.all false
set_option maxRecDepth 100000
set_option maxHeartbeats 4000000
/-! own text: rules beside the layer's, steps over readings, heaps that are kept, a law's source of numbers -/
namespace My
open PySem PySem.Spec PyProof.Rows L2
open C8 (Cal pe_c pe_gc)
/-! ### rules -/
def CPowW (i j : Int) : Prop := 0 ≤ j ∧ (Builtin.Int.intBits i : Int) * j ≤ 2 ^ 27
section
variable {X : Cx}
theorem op_powW : OpR X (binaryOp .Pow) (rI CPowW fun i j => .int (i ^ j.toNat)) := opI fun _ _ _ _ _ _ _ hc q => pow_int hc.1 hc.2 q
theorem call_divmodB : CallR X (.builtin "divmod") (fun xs H Q => ∃ i j, xs = [.int i, .int j] ∧ CDivW i j ∧ ∀ p, H p = none → Q (.ref p) (upd H p (.tup [.int (i / j), .int (i % j)]))) := by
  intro pins s σ H xs us Q I r h
  obtain ⟨i, j, rfl, hc, q⟩ := h
  exact call_divmodW pins s σ H _ us Q I r ⟨i, j, rfl, ⟨hc.1, PyProof.noPylong_of_log2 hc.2⟩, q⟩
theorem call_intI : CallR X (.type "int") (fun xs H Q => ∃ i, xs = [.int i] ∧ Q (.int i) H) := by
  intro pins s σ H xs us Q I r h
  exact call_int1 pins s σ H xs us Q I r (.inl h)
theorem call_absI : CallR X (.builtin "abs") (fun xs H Q => ∃ i, xs = [.int i] ∧ Q (.int (i.natAbs : Int)) H) := by
  intro pins s σ H xs us Q I r h
  obtain ⟨i, e, q⟩ := h
  refine call_abs pins s σ H xs us Q I r ⟨i, e, ?_⟩
  have e2 : (if i < 0 then -i else i) = (i.natAbs : Int) := by split <;> omega
  rw [e2]
  exact q
theorem ix_tupK {K : PySem.W.Frag} (h : X.K = K := by rfl) : IxR X (rIxT K) := by subst h; exact ix_tup
theorem ix_listK {K : PySem.W.Frag} (h : X.K = K := by rfl) : IxR X (rIxL K) := by subst h; exact ix_list
theorem call_intB : CallR X (.type "int") (fun xs H Q => ∃ k : Bool, xs = [.bl k] ∧ Q (.int (if k then 1 else 0)) H) := by
  intro pins s σ H xs us Q I r h
  exact call_int1 pins s σ H xs us Q I r (.inr h)
end
/-! ### a def of the text, by its name -/
def Has (K : PySem.W.Frag) (mg : Str → Option Value) (x : Str) (st : Stmt) (ps : List Str) : Prop := ∃ (f : Addr) (fd : FuncData), Fun K x x st f fd ∧ mg x = some (.ref f) ∧ Binds K fd ps []
section
variable {P : Program} {w : World} {K : PySem.W.Frag} {mg : Str → Option Value} {base : Heap}
theorem mkCal {x : Str} {st : Stmt} {f : Addr} {fd : FuncData} {N ps : List Str} {k : Nat} {sp : Sp} (F : Fun K x x st f fd) (gF : mg x = some (.ref f)) (b : Binds K fd ps []) (S : FnScope N ps (defScope st)) (len : ∀ vs H Q E, sp vs H Q E → vs.length = ps.length)
    (hbody : ∀ (cdv : Value) (A : Around) (outer : List Env) (s : Shared) (H : Hp) (vs : List V) (Q : VK) (E : XK), Room k (A.deeper (envOfC x (defScope st) s.heap.objs.size f cdv)) → sp vs H Q E →
      ∃ t, PSs (cxOf CX0 P w K mg base N x (defScope st) f cdv A outer s H E).nox (defBody st) t ∧ t { nx := fun _ H' => Q .non H', rt := Q } (start N vs) H) : Cal P w K mg base (k + 1) x sp [] :=
  ⟨f, fd, ps, [], F.ok S len hbody, gF, F.kp, b, .nil⟩
theorem has_mk {x : Str} {st : Stmt} {h : Heap} {f : Addr} {oc : Value} {od an : Option Addr} {osl : Array (Option Value)} {kV doc pm cdv ct : Value} {ps : List Str} (X : K.In h) (G : h.Ns mainGlobals mg)
    (a : PySem.W.nsIn K mainGlobals x = some (some (.ref f))) (l : K.lookup f = some ⟨oc, od, .func (PySem.W.fnOf x x (defArgs st) (defBody st) (defScope st) .none kV doc pm an cdv ct), osl⟩)
    (c : PySem.W.codeIn K cdv x = true) (k : PySem.W.keepIn K (.ref f) = true)
    (hb : ∀ (kV doc pm : Value) (an : Option Addr) (cdv ct : Value) (us : List Value), us.length = ps.length → bindArgs (PySem.W.fnOf x x (defArgs st) (defBody st) (defScope st) .none kV doc pm an cdv ct) ⟨us, []⟩ = pure (ps.zip us)) : Has K mg x st ps :=
  ⟨f, _, fun_mk (st := st) l c k, PySem.W.mg_of X G a, (fun_mk (st := st) l c k).binds hb⟩
end
/-! ### steps over readings -/
section
variable {σ : L2.St} {H : Hp} {D : Ends} {Q : VK} {K : PySem.W.Frag} {ta tb te tc : TE} {t u : TS} {c c' : TT} {g : TG}
theorem r_seq (h : t { D with nx := u D } σ H) : tSeq t u D σ H := h
theorem r_nx {f : L2.St → Hp → Prop} {r b e} (h : f σ H) : Ends.nx ⟨f, r, b, e⟩ σ H := h
theorem r_rt {f : V → Hp → Prop} {n b e} {v : V} (h : f v H) : Ends.rt ⟨n, f, b, e⟩ v H := h
theorem r_bk {f : L2.St → Hp → Prop} {n r e} (h : f σ H) : Ends.bk ⟨n, r, f, e⟩ σ H := h
theorem r_ct {f : L2.St → Hp → Prop} {n r b} (h : f σ H) : Ends.ct ⟨n, r, b, f⟩ σ H := h
theorem r_next (h : D.nx σ H) : tNext D σ H := h
theorem r_asg (h : te σ H fun x H1 => g x σ H1 D.nx) : tAsg te g D σ H := h
theorem r_name {i : Nat} {v : V} {R : L2.St → Hp → Prop} (h : R (σ.set i (some v)) H) : gName i v σ H R := h
theorem r_ret (h : te σ H D.rt) : tRet te D σ H := h
theorem r_drop (h : te σ H fun _ H1 => D.nx σ H1) : tDrop te D σ H := h
theorem r_ifS (h : c σ H fun b H1 => if b = true then t D σ H1 else u D σ H1) : tIfS c t u D σ H := h
theorem r_test {R : Bool → Hp → Prop} (h : te σ H fun x H' => ∃ k, x = .bl k ∧ R k H') : tTest te σ H R := h
theorem r_tB {R : Bool → Hp → Prop} (h : te σ H fun x H' => ∃ k, x = .bl k ∧ R k H') : tB te σ H R := h
theorem r_isbl {b : Bool} {R : Bool → Prop} (h : R b) : ∃ k, V.bl b = .bl k ∧ R k := ⟨b, rfl, h⟩
theorem r_and {R : Bool → Hp → Prop} (h : c σ H fun b H1 => if b = true then c' σ H1 R else R false H1) : tAnd c c' σ H R := h
theorem r_or {R : Bool → Hp → Prop} (h : c σ H fun b H1 => if b = true then R true H1 else c' σ H1 R) : tOr c c' σ H R := h
theorem r_not {R : Bool → Hp → Prop} (h : c σ H fun b H1 => R (!b) H1) : tNot c σ H R := h
theorem r_var {i : Nat} {v : V} (e : σ[i]? = some (some v)) (h : Q v H) : tVar i σ H Q := ⟨v, e, h⟩
theorem r_c {v : V} (h : Q v H) : tC v σ H Q := h
theorem r_op {r : R2} (h : ta σ H fun x H1 => tb σ H1 fun y H2 => r x y H2 Q) : tOp r ta tb σ H Q := h
theorem r_un {r : V → Hp → VK → Prop} (h : ta σ H fun x H1 => r x H1 Q) : tUn r ta σ H Q := h
theorem r_I0 {f : Int → Int → V} {i j : Int} (h : Q (f i j) H) : rI0 f (.int i) (.int j) H Q := ⟨i, j, rfl, rfl, h⟩
theorem r_I {C : Int → Int → Prop} {f : Int → Int → V} {i j : Int} (hc : C i j) (h : Q (f i j) H) : rI C f (.int i) (.int j) H Q := ⟨i, j, rfl, rfl, hc, h⟩
theorem r_U {f : Int → V} {i : Int} (h : Q (f i) H) : rU f (.int i) H Q := ⟨i, rfl, h⟩
theorem r_eq {x y : V} (hs : scal x y = true) (h : Q (.bl (decide (x = y))) H) : rEq x y H Q := ⟨hs, h⟩
theorem r_ne {x y : V} (hs : scal x y = true) (h : Q (.bl (!decide (x = y))) H) : rNe x y H Q := ⟨hs, h⟩
theorem r_eqI {i j : Int} (h : Q (.bl (decide (i = j))) H) : rEq (.int i) (.int j) H Q := by
  refine ⟨rfl, ?_⟩
  rw [show decide (V.int i = V.int j) = decide (i = j) by rw [dec_int]; exact Bool.beq_eq_decide_eq i j]
  exact h
theorem r_neI {i j : Int} (h : Q (.bl (!decide (i = j))) H) : rNe (.int i) (.int j) H Q := by
  refine ⟨rfl, ?_⟩
  rw [show decide (V.int i = V.int j) = decide (i = j) by rw [dec_int]; exact Bool.beq_eq_decide_eq i j]
  exact h
theorem r_nil {R : List V → Hp → Prop} (h : R [] H) : tNil σ H R := h
theorem r_cons {tr : TA} {R : List V → Hp → Prop} (h : ta σ H fun x H1 => tr σ H1 fun xs H2 => R (x :: xs) H2) : tCons ta tr σ H R := h
theorem r_tup {tr : TA} (h : tr σ H fun xs H1 => xs.length ≤ sizeLine ∧ ∀ p, H1 p = none → Q (.ref p) (upd H1 p (.tup xs))) : tTup tr σ H Q := h
theorem r_lst {tr : TA} (h : tr σ H fun xs H1 => xs.length ≤ sizeLine ∧ ∀ p, H1 p = none → Q (.ref p) (upd H1 p (.lst xs))) : tLst tr σ H Q := h
theorem r_call {sp : Sp} {dvs : List V} {E : XK} {tr : TA} (h : tr σ H fun vs H1 => sp (vs ++ dvs) H1 Q E) : tCall sp dvs E tr σ H Q := h
theorem r_cb {r : List V → Hp → VK → Prop} {tr : TA} (h : tr σ H fun vs H1 => r vs H1 Q) : tCB r tr σ H Q := h
theorem r_ixL {p : Addr} {xs : List V} {i : Int} {v : V} (hs : SqL K H p xs) (ha : atI xs i = some v) (h : Q v H) : rIxL K (.ref p) (.int i) H Q := ⟨p, xs, i, v, rfl, rfl, hs, ha, h⟩
theorem r_ixT {p : Addr} {xs : List V} {i : Int} {v : V} (hs : SqT K H p xs) (ha : atI xs i = some v) (h : Q v H) : rIxT K (.ref p) (.int i) H Q := ⟨p, xs, i, v, rfl, rfl, hs, ha, h⟩
theorem r_andV (h : ta σ H fun x H1 => ∃ c, x = .bl c ∧ if c = true then tb σ H1 Q else Q (.bl false) H1) : tAndV ta tb σ H Q := h
theorem r_orV (h : ta σ H fun x H1 => ∃ c, x = .bl c ∧ if c = true then Q (.bl true) H1 else tb σ H1 Q) : tOrV ta tb σ H Q := h
theorem r_notV (h : ta σ H fun x H1 => ∃ c, x = .bl c ∧ Q (.bl (!c)) H1) : tNotV ta σ H Q := h
theorem r_ite {p A B : Prop} [Decidable p] (h1 : p → A) (h2 : ¬ p → B) : if p then A else B := by
  by_cases h : p
  · rw [if_pos h]; exact h1 h
  · rw [if_neg h]; exact h2 h
theorem r_dec {p A B : Prop} [Decidable p] (h1 : p → A) (h2 : ¬ p → B) : if decide p = true then A else B := by
  by_cases h : p
  · rw [decide_eq_true h]; exact h1 h
  · rw [decide_eq_false h]; exact h2 h
theorem r_ndec {p A B : Prop} [Decidable p] (h1 : ¬ p → A) (h2 : p → B) : if (!decide p) = true then A else B := by
  by_cases h : p
  · rw [decide_eq_true h]; exact h2 h
  · rw [decide_eq_false h]; exact h1 h
theorem r_T {A B : Prop} (h : A) : if true = true then A else B := h
theorem r_F {A B : Prop} (h : B) : if false = true then A else B := by rw [if_neg Bool.false_ne_true]; exact h
theorem r_nT {A B : Prop} (h : B) : if (!true) = true then A else B := r_F h
theorem r_nF {A B : Prop} (h : A) : if (!false) = true then A else B := h
theorem r_sl {r : V → Option Int → Option Int → Hp → VK → Prop} {tl th : TO} (h : te σ H fun x H1 => tl σ H1 fun l H2 => th σ H2 fun u H3 => r x l u H3 Q) : L2.tSl r te tl th σ H Q := h
theorem r_slL {p : Addr} {xs : List V} {lo hi : Option Int} (hs : SqL K H p xs) (h : ∀ q, H q = none → Q (.ref q) (upd H q (.lst (cutV xs lo hi)))) : rSlL K (.ref p) lo hi H Q := ⟨p, xs, rfl, hs, h⟩
theorem r_par {i j : Nat} {tr : TA} (h : tr σ H fun vs H1 => ∃ v w, vs = [v, w] ∧ D.nx ((σ.set i (some v)).set j (some w)) H1) : tPar i j tr D σ H := h
theorem r_sub {to ti : TE} {ts : TSet} {v : V} {R : L2.St → Hp → Prop} (h : to σ H fun o H1 => ti σ H1 fun i H2 => ts o i v H2 fun H3 => R σ H3) : gSub to ti ts v σ H R := h
theorem r_setL {p : Addr} {xs : List V} {k : Int} {j : Nat} {v : V} {R : Hp → Prop} (hp : H p = some (.lst xs)) (hj : ixN xs.length k = some j) (h : R (upd H p (.lst (xs.set j v)))) : rSetL (.ref p) (.int k) v H R := ⟨p, xs, k, j, rfl, rfl, hp, hj, h⟩
theorem r_int {i : Int} {R : Int → Prop} (h : R i) : ∃ i', [V.int i] = [V.int i'] ∧ R i' := ⟨i, rfl, h⟩
theorem r_int2 {i j : Int} {R : Int → Int → Prop} (h : R i j) : ∃ i' j', [V.int i, V.int j] = [V.int i', V.int j'] ∧ R i' j' := ⟨i, j, rfl, h⟩
theorem r_gtup {n : Nat} {tg : TGs} {p : Addr} {xs : List V} {R : L2.St → Hp → Prop} (hs : SqT K H p xs) (hl : xs.length = n) (h : tg xs σ H R) : gTup K n tg (.ref p) σ H R := ⟨p, xs, rfl, hs, hl, h⟩
theorem r_gunl {n : Nat} {tg : TGs} {p : Addr} {xs : List V} {R : L2.St → Hp → Prop} (hs : SqL K H p xs) (hl : xs.length = n) (h : tg xs σ H R) : gUnl K n tg (.ref p) σ H R := ⟨p, xs, rfl, hs, hl, h⟩
theorem r_gcons {tg : TG} {us : TGs} {v : V} {r : List V} {R : L2.St → Hp → Prop} (h : tg v σ H fun σ' H' => us r σ' H' R) : gCons tg us (v :: r) σ H R := ⟨v, r, rfl, h⟩
theorem r_gnil {R : L2.St → Hp → Prop} (h : R σ H) : gNil [] σ H R := ⟨rfl, h⟩
theorem r_chain {r r' : R2} (h : ta σ H fun x H1 => tb σ H1 fun y H2 => r x y H2 fun z H3 => ∃ k, z = .bl k ∧ (if k = true then tc σ H3 fun w' H4 => r' y w' H4 Q else Q (.bl false) H3)) : tChain r r' ta tb tc σ H Q := h
theorem r_tuple2 {v w : V} {R : V → V → Prop} (h : R v w) : ∃ v' w', [v, w] = [v', w'] ∧ R v' w' := ⟨v, w, rfl, h⟩
end
theorem r_start {N : List Str} {vs : List V} {σ : L2.St} {H : Hp} {D : Ends} {t : TS} (e : L2.start N vs = σ) (h : t D σ H) : t D (L2.start N vs) H := by rw [e]; exact h
section
variable {σ : L2.St} {H : Hp} {te : TE}
theorem r_part {R : Option Int → Hp → Prop} (h : te σ H fun x H1 => ∃ i, x = .int i ∧ R (some i) H1) : tPart te σ H R := h
theorem r_nopart {R : Option Int → Hp → Prop} (h : R none H) : tNoPart σ H R := h
theorem r_isint {i : Int} {R : Int → Prop} (h : R i) : ∃ k, V.int i = .int k ∧ R k := ⟨i, rfl, h⟩
end
theorem r_lenL {K : PySem.W.Frag} {H : Hp} {p : Addr} {ys : List V} {R : List V → Prop} (hs : SqL K H p ys) (h : R ys) : ∃ p' ys', [V.ref p] = [V.ref p'] ∧ (SqL K H p' ys' ∨ SqT K H p' ys') ∧ R ys' := ⟨p, ys, rfl, .inl hs, h⟩
theorem r_lenT {K : PySem.W.Frag} {H : Hp} {p : Addr} {ys : List V} {R : List V → Prop} (hs : SqT K H p ys) (h : R ys) : ∃ p' ys', [V.ref p] = [V.ref p'] ∧ (SqL K H p' ys' ∨ SqT K H p' ys') ∧ R ys' := ⟨p, ys, rfl, .inr hs, h⟩
theorem r_sz {n : Nat} {R : Prop} (hn : n ≤ 16777216) (h : R) : n ≤ sizeLine ∧ R := ⟨Nat.le_trans hn (by decide), h⟩
theorem r_eqD {K : PySem.W.Frag} {H : Hp} {x y : V} {d e : PyData} {R : PyData → PyData → Prop} (hd : Dp K H x d) (he : Dp K H y e) (h1 : SeqAt.shaped d = true) (h2 : SeqAt.shaped e = true) (h : R d e) :
    ∃ d' e', Dp K H x d' ∧ Dp K H y e' ∧ SeqAt.shaped d' = true ∧ SeqAt.shaped e' = true ∧ R d' e' := ⟨d, e, hd, he, h1, h2, h⟩
theorem r_non {R : Prop} (h : R) : V.non = V.non ∧ R := ⟨rfl, h⟩
theorem r_neB {H : Hp} {Q : VK} {a b : Bool} (h : Q (.bl (!decide (a = b))) H) : rNe (.bl a) (.bl b) H Q := by
  refine ⟨rfl, ?_⟩
  rw [show decide (V.bl a = V.bl b) = decide (a = b) from decide_eq_decide.mpr ⟨fun e => V.bl.inj e, fun e => by rw [e]⟩]
  exact h
theorem r_eqB {H : Hp} {Q : VK} {a b : Bool} (h : Q (.bl (decide (a = b))) H) : rEq (.bl a) (.bl b) H Q := by
  refine ⟨rfl, ?_⟩
  rw [show decide (V.bl a = V.bl b) = decide (a = b) from decide_eq_decide.mpr ⟨fun e => V.bl.inj e, fun e => by rw [e]⟩]
  exact h
theorem cx_K {CX : CXT} {P : Program} {w : World} {K : PySem.W.Frag} {mg : Str → Option Value} {base : Heap} {N : List Str} {qual : Str} {scope : Scope} {f : Addr} {cd : Value} {A : Around} {outer : List Env} {s : Shared} {H : Hp} {E : XK} :
    (cxOf CX P w K mg base N qual scope f cd A outer s H E).K = K := rfl
/-! ### loops -/
def LoopW (J : It) (g : TG) (ts : TS) (D : Ends) (σ : L2.St) (H : Hp) : Prop := ∃ W : Nat → Nat → L2.St → Hp → Prop, (∃ m, W 0 m σ H) ∧ ∀ i m σ H, W i m σ H →
  (J.stop i H ∧ D.nx σ H) ∨ (J.go i H ∧ ∃ N : L2.St → Hp → Prop, (∀ σ' H', N σ' H' → ∃ m', m' < m ∧ W (i + 1) m' σ' H') ∧ ∀ x H', J.yld i H x H' → g x σ H' fun σ2 H2 => ts { D with nx := N, ct := N, bk := D.nx } σ2 H2)
def LcW (J : It) (g : TG) (tt : TT) (te : TE) (vs : List Nat) (σ : L2.St) (H1 : Hp) (Dl : Addr) (Qd : Hp → Prop) : Prop := ∃ W : Nat → Nat → Hp → Prop, (∃ m, W 0 m (upd H1 Dl (.lst []))) ∧ ∀ i m H, W i m H →
  (J.stop i H ∧ Qd H) ∨ (J.go i H ∧ ∃ Nx : Hp → Prop, (∀ H', Nx H' → ∃ m', m' < m ∧ W (i + 1) m' H') ∧ ∀ x H', J.yld i H x H' → g x (wipe σ vs) H' fun σ2 H2 => wipe σ2 vs = wipe σ vs ∧ tt σ2 H2 fun b H3 =>
    if b = true then te σ2 H3 fun y H4 => ∃ acc, H4 Dl = some (.lst acc) ∧ acc.length < sizeLine ∧ Nx (upd H4 Dl (.lst (acc ++ [y]))) else Nx H3)
section
variable {σ : L2.St} {H : Hp} {D : Ends} {Q : VK} {K : PySem.W.Frag} {ta : TA} {tl tb te : TE} {ts : TS} {c tt : TT} {g : TG} {wi : TI} {vs : List Nat}
theorem r_for (h : wi σ H fun J H1 => LoopW J g ts D σ H1) : tFor wi g ts D σ H := h
theorem r_lc (h : wi σ H fun J H1 => ∀ Dl, H1 Dl = none → LcW J g tt te vs σ H1 Dl fun H' => Q (.ref Dl) H') : tLc wi g tt te vs σ H Q := h
theorem r_rng1 {R : It → Hp → Prop} (h : ta σ H fun us H1 => ∃ j : Int, us = [.int j] ∧ -(2 ^ 62) ≤ j ∧ j < 2 ^ 62 ∧ R (Itr 0 j.toNat) H1) : iRng1 ta σ H R := h
theorem r_rng2 {R : It → Hp → Prop} (h : ta σ H fun us H1 => ∃ i j : Int, us = [.int i, .int j] ∧ (-(2 ^ 62) ≤ i ∧ i < 2 ^ 62 ∧ -(2 ^ 62) ≤ j ∧ j < 2 ^ 62) ∧ R (Itr i (j - i).toNat) H1) : iRng2 ta σ H R := h
theorem r_ilist {R : It → Hp → Prop} (h : tl σ H fun x H1 => ∃ a, x = .ref a ∧ (∃ xs, SqL K H1 a xs) ∧ R (Itl K a) H1) : iList K tl σ H R := h
theorem r_itup {R : It → Hp → Prop} (h : tl σ H fun x H1 => ∃ a, x = .ref a ∧ (∃ xs, SqT K H1 a xs) ∧ R (Itt K a) H1) : iTup K tl σ H R := h
theorem r_rgL (n : Nat) {j : Int} (e : j = (n : Int)) (hn : n < 2 ^ 62) (h : LoopW (Itr 0 n) g ts D σ H) : -(2 ^ 62) ≤ j ∧ j < 2 ^ 62 ∧ LoopW (Itr 0 j.toNat) g ts D σ H := by
  subst e
  exact ⟨by omega, by omega, by rw [Int.toNat_natCast]; exact h⟩
theorem r_rgC {R : Addr → Hp → Prop} (n : Nat) {j : Int} (e : j = (n : Int)) (hn : n < 2 ^ 62) (h : ∀ Dl, H Dl = none → LcW (Itr 0 n) g tt te vs σ H Dl (R Dl)) :
    -(2 ^ 62) ≤ j ∧ j < 2 ^ 62 ∧ ∀ Dl, H Dl = none → LcW (Itr 0 j.toNat) g tt te vs σ H Dl (R Dl) := by
  subst e
  exact ⟨by omega, by omega, by rw [Int.toNat_natCast]; exact h⟩
theorem r_islist {R : Addr → Prop} {a : Addr} {xs : List V} (hs : SqL K H a xs) (h : R a) : ∃ a', V.ref a = .ref a' ∧ (∃ xs, SqL K H a' xs) ∧ R a' := ⟨a, rfl, ⟨xs, hs⟩, h⟩
theorem r_istup {R : Addr → Prop} {a : Addr} {xs : List V} (hs : SqT K H a xs) (h : R a) : ∃ a', V.ref a = .ref a' ∧ (∃ xs, SqT K H a' xs) ∧ R a' := ⟨a, rfl, ⟨xs, hs⟩, h⟩
theorem loop_range {n : Nat} (Pv : Nat → L2.St → Hp → Prop) (h0 : Pv 0 σ H)
    (hs : ∀ i σ' H', i < n → Pv i σ' H' → g (.int (i : Int)) σ' H' fun σ2 H2 => ts { D with nx := Pv (i + 1), ct := Pv (i + 1), bk := D.nx } σ2 H2) (hd : ∀ σ' H', Pv n σ' H' → D.nx σ' H') : LoopW (Itr 0 n) g ts D σ H :=
  for_range Pv h0 (fun i σ' H' hi p => by rw [Int.zero_add]; exact hs i σ' H' hi p) hd
theorem r_rg2L {lo hi : Int} (n : Nat) (e : (hi - lo).toNat = n) (hb : -(2 ^ 62) ≤ lo ∧ lo < 2 ^ 62 ∧ -(2 ^ 62) ≤ hi ∧ hi < 2 ^ 62) (h : LoopW (Itr lo n) g ts D σ H) :
    (-(2 ^ 62) ≤ lo ∧ lo < 2 ^ 62 ∧ -(2 ^ 62) ≤ hi ∧ hi < 2 ^ 62) ∧ LoopW (Itr lo (hi - lo).toNat) g ts D σ H := ⟨hb, by rw [e]; exact h⟩
theorem loop_range2 {lo : Int} {n : Nat} (Pv : Nat → L2.St → Hp → Prop) (h0 : Pv 0 σ H)
    (hs : ∀ i σ' H', i < n → Pv i σ' H' → g (.int (lo + (i : Int))) σ' H' fun σ2 H2 => ts { D with nx := Pv (i + 1), ct := Pv (i + 1), bk := D.nx } σ2 H2) (hd : ∀ σ' H', Pv n σ' H' → D.nx σ' H') : LoopW (Itr lo n) g ts D σ H := for_range Pv h0 hs hd
theorem loop_list {a : Addr} {xs : List V} (Pv : Nat → L2.St → Hp → Prop) (h0 : Pv 0 σ H) (hl : ∀ i σ' H', i ≤ xs.length → Pv i σ' H' → SqL K H' a xs)
    (hs : ∀ i x σ' H', xs[i]? = some x → Pv i σ' H' → g x σ' H' fun σ2 H2 => ts { D with nx := Pv (i + 1), ct := Pv (i + 1), bk := D.nx } σ2 H2) (hd : ∀ σ' H', Pv xs.length σ' H' → D.nx σ' H') : LoopW (Itl K a) g ts D σ H := for_list Pv h0 hl hs hd
theorem loop_tup {a : Addr} {xs : List V} (Pv : Nat → L2.St → Hp → Prop) (h0 : Pv 0 σ H) (hl : ∀ i σ' H', i ≤ xs.length → Pv i σ' H' → SqT K H' a xs)
    (hs : ∀ i x σ' H', xs[i]? = some x → Pv i σ' H' → g x σ' H' fun σ2 H2 => ts { D with nx := Pv (i + 1), ct := Pv (i + 1), bk := D.nx } σ2 H2) (hd : ∀ σ' H', Pv xs.length σ' H' → D.nx σ' H') : LoopW (Itt K a) g ts D σ H := for_tup Pv h0 hl hs hd
theorem comp_range {n : Nat} {H1 : Hp} {Dl : Addr} {Qd : Hp → Prop} (Pv : Nat → Hp → Prop) (h0 : Pv 0 (upd H1 Dl (.lst [])))
    (hs : ∀ i H, i < n → Pv i H → g (.int (i : Int)) (wipe σ vs) H fun σ2 H2 => wipe σ2 vs = wipe σ vs ∧ tt σ2 H2 fun b H3 =>
      if b = true then te σ2 H3 fun y H4 => ∃ acc, H4 Dl = some (.lst acc) ∧ acc.length < sizeLine ∧ Pv (i + 1) (upd H4 Dl (.lst (acc ++ [y]))) else Pv (i + 1) H3) (hd : ∀ H, Pv n H → Qd H) : LcW (Itr 0 n) g tt te vs σ H1 Dl Qd :=
  lc_range Pv h0 (fun i H hi p => by rw [Int.zero_add]; exact hs i H hi p) hd
theorem comp_list {a : Addr} {xs : List V} {H1 : Hp} {Dl : Addr} {Qd : Hp → Prop} (Pv : Nat → Hp → Prop) (h0 : Pv 0 (upd H1 Dl (.lst []))) (hl : ∀ i H, i ≤ xs.length → Pv i H → SqL K H a xs)
    (hs : ∀ i x H, xs[i]? = some x → Pv i H → g x (wipe σ vs) H fun σ2 H2 => wipe σ2 vs = wipe σ vs ∧ tt σ2 H2 fun b H3 =>
      if b = true then te σ2 H3 fun y H4 => ∃ acc, H4 Dl = some (.lst acc) ∧ acc.length < sizeLine ∧ Pv (i + 1) (upd H4 Dl (.lst (acc ++ [y]))) else Pv (i + 1) H3) (hd : ∀ H, Pv xs.length H → Qd H) : LcW (Itl K a) g tt te vs σ H1 Dl Qd := lc_list Pv h0 hl hs hd
theorem r_while (W : Nat → L2.St → Hp → Prop) (m : Nat) (h0 : W m σ H)
    (hs : ∀ m σ H, W m σ H → c σ H fun b H1 => if b = true then ∃ N : L2.St → Hp → Prop, (∀ σ' H', N σ' H' → ∃ m', m' < m ∧ W m' σ' H') ∧ ts { D with nx := N, ct := N, bk := D.nx } σ H1 else D.nx σ H1) : tWhile c ts D σ H := ⟨W, ⟨m, h0⟩, hs⟩
theorem r_again {R : L2.St → Hp → Prop} {rt : V → Hp → Prop} {bk : L2.St → Hp → Prop} (h : ts ⟨R, rt, bk, R⟩ σ H) :
    ∃ N : L2.St → Hp → Prop, (∀ σ' H', N σ' H' → R σ' H') ∧ ts ⟨N, rt, bk, N⟩ σ H := ⟨_, fun _ _ h => h, h⟩
theorem r_gcdN {a b : Nat} (h : Q (.int ((Nat.gcd a b : Nat) : Int)) H) : rGcd [.int (a : Int), .int (b : Int)] H Q := ⟨a, b, rfl, h⟩
theorem r_wipe {A : Prop} {σ2 : L2.St} (e : wipe σ2 vs = wipe σ vs) (h : A) : wipe σ2 vs = wipe σ vs ∧ A := ⟨e, h⟩
end
/-! ### heaps that are kept -/
def Keep (a c : Addr) (H H' : Hp) : Prop := ∀ b o, b ≠ a → b ≠ c → H b = some o → H' b = some o
def Bd (n : Int) : Prop := n.natAbs < 2 ^ 4000
/-- a source of drawn numbers: the list at a holds the cells' list at c and the turn -/
structure Src (H : Hp) (a c : Addr) (t : Int) : Prop where
  src : H a = some (.lst [.ref c, .int t])
  cells : ∃ ns : List Int, H c = some (.lst (ns.map V.int)) ∧ 0 < ns.length ∧ ns.length ≤ 63 ∧ ∀ n ∈ ns, Bd n
  turn : 0 ≤ t
  ne : c ≠ a
abbrev Big : Int := 2 ^ 60
theorem Keep.refl (a c : Addr) (H : Hp) : Keep a c H H := fun _ _ _ _ h => h
theorem Keep.trans {a c : Addr} {H H1 H2 : Hp} (x : Keep a c H H1) (y : Keep a c H1 H2) : Keep a c H H2 := fun b o h1 h2 h => y b o h1 h2 (x b o h1 h2 h)
theorem same_keep {a c : Addr} {H H1 : Hp} (x : Same H H1) : Keep a c H H1 := fun b o _ _ h => x b o h
theorem Same.new {H : Hp} {p : Addr} {o : HO} (h : H p = none) : Same H (upd H p o) := fun b u e => by
  rw [upd_ne (ne_of_none e h)]
  exact e
theorem Src.same {H H' : Hp} {a c : Addr} {t : Int} (s : Src H a c t) (x : Same H H') : Src H' a c t := by
  obtain ⟨h1, ⟨ns, h2, h3⟩, h4, h5⟩ := s
  exact ⟨x _ _ h1, ⟨ns, x _ _ h2, h3⟩, h4, h5⟩
theorem Src.new {H : Hp} {a c p : Addr} {t : Int} {o : HO} (s : Src H a c t) (h : H p = none) : Src (upd H p o) a c t := s.same (Same.new h)
theorem Src.ne_tup {H : Hp} {a c p : Addr} {t : Int} {xs : List V} (s : Src H a c t) (h : H p = some (.tup xs)) : p ≠ a ∧ p ≠ c := by
  obtain ⟨h1, ⟨ns, h2, _⟩, _⟩ := s
  exact ⟨fun e => (by rw [e, h1] at h; cases h), fun e => (by rw [e, h2] at h; cases h)⟩
theorem Src.ne_frz {H : Hp} {a c p : Addr} {t : Int} {o : Obj} {u : HO} (s : Src H a c t) (h : H p = some (.frz o u)) : p ≠ a ∧ p ≠ c := by
  obtain ⟨h1, ⟨ns, h2, _⟩, _⟩ := s
  exact ⟨fun e => (by rw [e, h1] at h; cases h), fun e => (by rw [e, h2] at h; cases h)⟩
theorem Src.ne_none {H : Hp} {a c p : Addr} {t : Int} (s : Src H a c t) (h : H p = none) : p ≠ a ∧ p ≠ c := by
  obtain ⟨h1, ⟨ns, h2, _⟩, _⟩ := s
  exact ⟨fun e => (by rw [e, h1] at h; cases h), fun e => (by rw [e, h2] at h; cases h)⟩
theorem Keep.tup {K : PySem.W.Frag} {H H' : Hp} {a c p : Addr} {t : Int} {xs : List V} (k : Keep a c H H') (s : Src H a c t) (h : SqT K H p xs) : SqT K H' p xs := by
  rcases h with (h | ⟨o, h⟩) | h
  · exact .inl (.inl (k _ _ (s.ne_tup h).1 (s.ne_tup h).2 h))
  · exact .inl (.inr ⟨o, k _ _ (s.ne_frz h).1 (s.ne_frz h).2 h⟩)
  · exact .inr h
theorem Same.tup {K : PySem.W.Frag} {H H' : Hp} {p : Addr} {xs : List V} (k : Same H H') (h : SqT K H p xs) : SqT K H' p xs := by
  rcases h with (h | ⟨o, h⟩) | h
  · exact .inl (.inl (k _ _ h))
  · exact .inl (.inr ⟨o, k _ _ h⟩)
  · exact .inr h
theorem atI0 {α : Type} {x : α} {xs : List α} : atI (x :: xs) 0 = some x := atI_nat (j := 0) rfl
theorem atI1 {α : Type} {x y : α} {xs : List α} : atI (x :: y :: xs) 1 = some y := atI_nat (j := 1) rfl
theorem cut63 {xs : List V} (h : xs.length ≤ 63) : cutV xs none (some 63) = xs := by
  unfold cutV
  rw [show HT.sIx xs.length 0 none = 0 from rfl, show HT.sIx xs.length xs.length (some 63) = min 63 xs.length from HT.sIx_nat xs.length xs.length 63]
  rw [List.drop_zero, show min 63 xs.length - 0 = xs.length by omega, List.take_length]
theorem ixN_nat {n j : Nat} (h : j < n) : ixN n (j : Int) = some j := by
  unfold ixN
  rw [if_pos (by omega), if_pos (by omega), Int.toNat_natCast]
theorem map_set {ns : List Int} {j : Nat} {x : Int} : (ns.map V.int).set j (.int x) = (ns.set j x).map V.int := by
  rw [List.map_set]
theorem bd_small {n : Int} (h : n.natAbs < 2 ^ 64) : Bd n := Nat.lt_of_lt_of_le h (Nat.pow_le_pow_right (by decide) (by decide))
theorem bd_le {n m : Int} (h0 : 0 ≤ n) (h : n ≤ m) (b : Bd m) : Bd n := Nat.lt_of_le_of_lt (by omega) b
/-! ### data -/
def Shp (n : Nat) (d : PyData) : Prop := d.canLay0 = true ∧ d.depth ≤ n
theorem Shp.mono {n m : Nat} {d : PyData} (h : Shp n d) (e : n ≤ m) : Shp m d := ⟨h.1, Nat.le_trans h.2 e⟩
theorem shp_int {n : Nat} {i : Int} : Shp n (.int i) := ⟨by simp [PyData.canLay0], by simp [PyData.depth]⟩
theorem shp_bl {n : Nat} {i : Bool} : Shp n (.bool i) := ⟨by simp [PyData.canLay0], by simp [PyData.depth]⟩
theorem shp_non {n : Nat} : Shp n .none := ⟨by simp [PyData.canLay0], by simp [PyData.depth]⟩
theorem shp_all {n : Nat} : ∀ {ds : List PyData}, (∀ d ∈ ds, Shp n d) → PyData.canLayAll0 ds = true ∧ PyData.depthAll ds ≤ n
  | [], _ => ⟨by simp [PyData.canLayAll0], by simp [PyData.depthAll]⟩
  | d :: ds, h => by
    obtain ⟨h1, h2⟩ := h d List.mem_cons_self
    obtain ⟨h3, h4⟩ := shp_all (ds := ds) fun e he => h e (List.mem_cons_of_mem _ he)
    refine ⟨by rw [PyData.canLayAll0, h1, h3] <;> rfl, ?_⟩
    rw [PyData.depthAll]
    omega
theorem shp_list {n : Nat} {ds : List PyData} (h : ∀ d ∈ ds, Shp n d) : Shp (n + 1) (.list ds) := by
  obtain ⟨h1, h2⟩ := shp_all h
  exact ⟨by rw [PyData.canLay0]; exact h1, by rw [PyData.depth]; omega⟩
theorem shp_tup {n : Nat} {ds : List PyData} (h : ∀ d ∈ ds, Shp n d) : Shp (n + 1) (.tuple ds) := by
  obtain ⟨h1, h2⟩ := shp_all h
  exact ⟨by rw [PyData.canLay0]; exact h1, by rw [PyData.depth]; omega⟩
theorem Shp.ok {n : Nat} {d : PyData} (h : Shp n d) (hn : n ≤ 64 := by decide) : SeqAt.shaped d = true := by
  unfold SeqAt.shaped
  rw [h.1, decide_eq_true (Nat.le_trans h.2 hn)] <;> rfl
theorem eqvAll_map {α : Type} [DecidableEq α] {f : α → PyData} (h : ∀ x y, PyData.eqv (f x) (f y) = decide (x = y)) : ∀ xs ys : List α, PyData.eqvAll (xs.map f) (ys.map f) = decide (xs = ys)
  | [], [] => by simp [PyData.eqvAll]
  | x :: xs, [] => by simp [PyData.eqvAll]
  | [], y :: ys => by simp [PyData.eqvAll]
  | x :: xs, y :: ys => by
    rw [List.map_cons, List.map_cons, PyData.eqvAll, h, eqvAll_map h xs ys]
    by_cases e1 : x = y
    · by_cases e2 : xs = ys
      · simp [e1, e2]
      · simp [e1, e2]
    · simp [e1]
theorem eqv_int (x y : Int) : PyData.eqv (.int x) (.int y) = decide (x = y) := by
  rw [PyData.eqv]
  exact Bool.beq_eq_decide_eq x y
theorem eqv_list {α : Type} [DecidableEq α] {f : α → PyData} (h : ∀ x y, PyData.eqv (f x) (f y) = decide (x = y)) (xs ys : List α) : PyData.eqv (.list (xs.map f)) (.list (ys.map f)) = decide (xs = ys) := by
  rw [PyData.eqv]
  exact eqvAll_map h xs ys
section
variable {K : PySem.W.Frag} {H : Hp}
theorem dp_map {α : Type} {f : α → V} {g : α → PyData} : ∀ {xs : List α}, (∀ x ∈ xs, Dp K H (f x) (g x)) → DpAll K H (xs.map f) (xs.map g)
  | [], _ => .nil
  | x :: xs, h => .cons (h x List.mem_cons_self) (dp_map fun y hy => h y (List.mem_cons_of_mem _ hy))
theorem dp_ints {p : Addr} {ns : List Int} (h : SqL K H p (ns.map V.int)) : Dp K H (.ref p) (.list (ns.map PyData.int)) := .lst h (dp_map fun x _ => .int x)
theorem shp_ints {ns : List Int} : Shp 1 (.list (ns.map PyData.int)) := shp_list fun d hd => by
  obtain ⟨x, _, rfl⟩ := List.mem_map.mp hd
  exact shp_int
end
theorem atI_int {ns : List Int} {j : Nat} {x : Int} (h : ns[j]? = some x) : atI (ns.map V.int) (j : Int) = some (.int x) := atI_nat (by rw [List.getElem?_map, h]; rfl)
theorem get_of {α : Type} {xs : List α} {j : Nat} (h : j < xs.length) : ∃ x, xs[j]? = some x := ⟨xs[j], List.getElem?_eq_getElem h⟩
/-! ### written powers -/
def E1200 : Int := ((10 : Int) ^ 60) ^ 20
theorem e1200_pos : (0 : Int) < E1200 := by decide +kernel
theorem bd_e1200 {n : Int} (h0 : 0 ≤ n) (h : n < E1200) : Bd n := by
  have h2 : E1200.natAbs < 2 ^ 4000 := by decide +kernel
  have h3 : n.natAbs ≤ E1200.natAbs := by omega
  exact Nat.lt_of_le_of_lt h3 h2
section
variable {H : Hp} {Q : VK}
theorem pw_ok {i j n : Int} (h1 : 0 ≤ j) (h2 : (Builtin.Int.intBits i : Int) * j ≤ 2 ^ 27) (e : i ^ j.toNat = n) (h : Q (.int n) H) : rI CPowW (fun i j => V.int (i ^ j.toNat)) (.int i) (.int j) H Q := ⟨i, j, rfl, rfl, ⟨h1, h2⟩, by subst e; exact h⟩
theorem r_pow18 (h : Q (.int 1000000000000000000) H) : rI CPowW (fun i j => V.int (i ^ j.toNat)) (.int 10) (.int 18) H Q := pw_ok (by decide) (by decide) (by decide +kernel) h
theorem r_pow30 (h : Q (.int 1000000000000000000000000000000) H) : rI CPowW (fun i j => V.int (i ^ j.toNat)) (.int 10) (.int 30) H Q := pw_ok (by decide) (by decide) (by decide +kernel) h
theorem r_pow60 (h : Q (.int ((10 : Int) ^ 60)) H) : rI CPowW (fun i j => V.int (i ^ j.toNat)) (.int 10) (.int 60) H Q := pw_ok (by decide) (by decide) (by decide +kernel) h
theorem r_pow1200 (h : Q (.int E1200) H) : rI CPowW (fun i j => V.int (i ^ j.toNat)) (.int ((10 : Int) ^ 60)) (.int 20) H Q := pw_ok (by decide) (by decide +kernel) (by decide +kernel) h
theorem r_mod {i j : Int} (hj : 0 < j) (h : Q (.int (i % j)) H) : rI (fun _ j => 0 < j) (fun i j => V.int (i % j)) (.int i) (.int j) H Q := ⟨i, j, rfl, rfl, hj, h⟩
theorem r_mul {i j : Int} (hc : CMulX i j) (h : Q (.int (i * j)) H) : rI CMulX (fun i j => V.int (i * j)) (.int i) (.int j) H Q := ⟨i, j, rfl, rfl, hc, h⟩
theorem r_div {i j : Int} (hc : CDivW i j) (h : Q (.int (i / j)) H) : rI CDivW (fun i j => V.int (i / j)) (.int i) (.int j) H Q := ⟨i, j, rfl, rfl, hc, h⟩
end
def Sm (i : Int) : Prop := i.natAbs < 2 ^ 20000
theorem mul_sm {i j : Int} (hi : Sm i) (hj : Sm j) : CMulX i j := mulx_ok hi hj (by decide)
theorem Bd.sm {i : Int} (h : Bd i) : Sm i := Nat.lt_trans h (Nat.pow_lt_pow_right (by decide) (by decide))
theorem sm_small {n : Int} (h : n.natAbs < 2 ^ 64) : Sm n := (bd_small h).sm
theorem div_bd {i j : Int} (h0 : 0 < j) (h : Bd j) : CDivW i j := wide_div h0 h (by decide) (by decide)
/-! ### one list changes -/
def Kept (l : Addr) (H H' : Hp) : Prop := ∀ b o, b ≠ l → H b = some o → H' b = some o
theorem Kept.refl (l : Addr) (H : Hp) : Kept l H H := fun _ _ _ h => h
theorem Kept.trans {l : Addr} {H H1 H2 : Hp} (x : Kept l H H1) (y : Kept l H1 H2) : Kept l H H2 := fun b o h1 h => y b o h1 (x b o h1 h)
theorem Kept.same {l : Addr} {H H1 H2 : Hp} (x : Kept l H H1) (y : Same H1 H2) : Kept l H H2 := fun b o h1 h => y b o (x b o h1 h)
theorem Kept.upd {l : Addr} {H H1 : Hp} {o : HO} (x : Kept l H H1) : Kept l H (upd H1 l o) := fun b u h1 h => by
  rw [upd_ne h1]
  exact x b u h1 h
theorem Kept.all {l : Addr} {H H1 H2 : Hp} (s : Same H H1) (hl : H l = none) (k : Kept l H1 H2) : Same H H2 := fun b o h => k b o (ne_of_none h hl) (s b o h)
theorem Kept.tup {K : PySem.W.Frag} {l p : Addr} {H H' : Hp} {xs ys : List V} (k : Kept l H H') (hl : H l = some (.lst ys)) (h : SqT K H p xs) : SqT K H' p xs := by
  rcases h with (h | ⟨o, h⟩) | h
  · exact .inl (.inl (k _ _ (fun e => by rw [e, hl] at h; cases h) h))
  · exact .inl (.inr ⟨o, k _ _ (fun e => by rw [e, hl] at h; cases h) h⟩)
  · exact .inr h
theorem r_app {K : PySem.W.Frag} {σ : L2.St} {H : Hp} {Q : VK} {l : Addr} {t : TA} (hx : ∃ xs, SqL K H l xs) (h : t σ H fun vs H2 => rAppend (.ref l) vs H2 Q) : tyV K "list" (.ref l) H ∧ t σ H fun vs H2 => rAppend (.ref l) vs H2 Q := ⟨.inl ⟨rfl, hx⟩, h⟩
theorem r_append {H : Hp} {Q : VK} {l : Addr} {xs : List V} {y : V} (h : H l = some (.lst xs)) (hn : xs.length < 16777216) (q : Q .non (upd H l (.lst (xs ++ [y])))) : rAppend (.ref l) [y] H Q := ⟨l, xs, y, rfl, rfl, h, hn, q⟩
theorem r_bm {K : PySem.W.Frag} {σ : L2.St} {H : Hp} {Q : VK} {T : String} {r : V → List V → Hp → VK → Prop} {to : TE} {t : TA} (h : to σ H fun x H1 => tyV K T x H1 ∧ t σ H1 fun xs H2 => r x xs H2 Q) : tBM K T r to t σ H Q := h
theorem Src.put {H : Hp} {a c l : Addr} {t : Int} {o : HO} (s : Src H a c t) (la : l ≠ a) (lc : l ≠ c) : Src (upd H l o) a c t := by
  obtain ⟨h1, ⟨ns, h2, h3⟩, h4, h5⟩ := s
  exact ⟨by rw [upd_ne (Ne.symm la)]; exact h1, ⟨ns, by rw [upd_ne (Ne.symm lc)]; exact h2, h3⟩, h4, h5⟩
/-! ### the mathematics of classes -/
/-- the marks of the class (m, r) -/
def MeetR (m1 r1 m2 r2 : Nat) : Option (Nat × Nat) → Prop
  | none => ¬ ((r1 : Int) - r2) % ((Nat.gcd m1 m2 : Nat) : Int) = 0
  | some (L, x) => ((r1 : Int) - r2) % ((Nat.gcd m1 m2 : Nat) : Int) = 0 ∧ L = m1 * (m2 / Nat.gcd m1 m2) ∧ x < L ∧ x % m1 = r1 ∧ x % m2 = r2
def Fits (m1 r1 m2 r2 : Nat) : Prop := ((r1 : Int) - r2) % ((Nat.gcd m1 m2 : Nat) : Int) = 0
instance (m1 r1 m2 r2 : Nat) : Decidable (Fits m1 r1 m2 r2) := inferInstanceAs (Decidable (_ = _))
theorem dvd_of_mods {x y m : Nat} (h : x % m = y % m) : (m : Int) ∣ (x : Int) - y := Int.dvd_of_emod_eq_zero (by
  have h2 : ((x : Int) % m) = ((y : Int) % m) := by exact_mod_cast h
  exact Int.emod_eq_emod_iff_emod_sub_eq_zero.mp h2)
theorem mods_of_dvd {x y m : Nat} (h : (m : Int) ∣ (x : Int) - y) : x % m = y % m := by
  have h2 : ((x : Int) % m) = ((y : Int) % m) := Int.emod_eq_emod_iff_emod_sub_eq_zero.mpr (Int.emod_eq_zero_of_dvd h)
  exact_mod_cast h2
theorem fits_of {m1 r1 m2 r2 h : Nat} (h1 : h % m1 = r1) (h2 : h % m2 = r2) : ((r1 : Int) - r2) % ((Nat.gcd m1 m2 : Nat) : Int) = 0 := by
  have a1 : ((Nat.gcd m1 m2 : Nat) : Int) ∣ (h : Int) - r1 := by
    refine Int.dvd_trans (Int.natCast_dvd_natCast.mpr (Nat.gcd_dvd_left m1 m2)) (dvd_of_mods ?_)
    rw [← h1, Nat.mod_mod]
  have a2 : ((Nat.gcd m1 m2 : Nat) : Int) ∣ (h : Int) - r2 := by
    refine Int.dvd_trans (Int.natCast_dvd_natCast.mpr (Nat.gcd_dvd_right m1 m2)) (dvd_of_mods ?_)
    rw [← h2, Nat.mod_mod]
  refine Int.emod_eq_zero_of_dvd ?_
  have e : (r1 : Int) - r2 = ((h : Int) - r2) - ((h : Int) - r1) := by omega
  rw [e]
  exact Int.dvd_sub a2 a1
theorem lcm_of {m1 m2 : Nat} : m1 * (m2 / Nat.gcd m1 m2) = Nat.lcm m1 m2 := by
  unfold Nat.lcm
  rw [Nat.mul_div_assoc _ (Nat.gcd_dvd_right m1 m2)]
theorem mod_mod_dvd {h L m : Nat} (d : m ∣ L) : h % L % m = h % m := Nat.mod_mod_of_dvd h d
/-- the class that is met holds just the marks of both -/
theorem met_iff {m1 r1 m2 r2 L x : Nat} (M : MeetR m1 r1 m2 r2 (some (L, x))) (h : Nat) : h % L = x ↔ h % m1 = r1 ∧ h % m2 = r2 := by
  obtain ⟨_, hL, hx, h1, h2⟩ := M
  rw [lcm_of] at hL
  subst hL
  constructor
  · intro e
    subst e
    rw [mod_mod_dvd (Nat.dvd_lcm_left m1 m2)] at h1
    rw [mod_mod_dvd (Nat.dvd_lcm_right m1 m2)] at h2
    exact ⟨h1, h2⟩
  · rintro ⟨e1, e2⟩
    have d1 : (m1 : Int) ∣ (h : Int) - x := dvd_of_mods (e1.trans h1.symm)
    have d2 : (m2 : Int) ∣ (h : Int) - x := dvd_of_mods (e2.trans h2.symm)
    have d3 : Nat.lcm m1 m2 ∣ ((h : Int) - x).natAbs := Nat.lcm_dvd (Int.ofNat_dvd_left.mp d1) (Int.ofNat_dvd_left.mp d2)
    have d4 : ((Nat.lcm m1 m2 : Nat) : Int) ∣ (h : Int) - x := Int.ofNat_dvd_left.mpr d3
    rw [mods_of_dvd d4, Nat.mod_eq_of_lt hx]
theorem met_none {m1 r1 m2 r2 : Nat} (M : MeetR m1 r1 m2 r2 none) (h : Nat) : ¬ (h % m1 = r1 ∧ h % m2 = r2) := fun ⟨h1, h2⟩ => M (fits_of h1 h2)
/-- a set of marks told as a class, or as empty -/
def Tells (S : Nat → Prop) : Option (Nat × Nat) → Prop
  | none => ∀ h, ¬ S h
  | some (L, x) => x < L ∧ ∀ h, h % L = x ↔ S h
theorem tells_meet {m1 r1 m2 r2 : Nat} : ∀ {o : Option (Nat × Nat)}, MeetR m1 r1 m2 r2 o → Tells (fun h => h % m1 = r1 ∧ h % m2 = r2) o
  | none, M => met_none M
  | some (_, _), M => ⟨M.2.2.1, met_iff M⟩
theorem tells_one {S : Nat → Prop} : ∀ {o o' : Option (Nat × Nat)}, Tells S o → Tells S o' → o = o'
  | none, none, _, _ => rfl
  | none, some (L, x), h, h' => absurd ((h'.2 x).mp (Nat.mod_eq_of_lt h'.1)) (h x)
  | some (L, x), none, h', h => absurd ((h'.2 x).mp (Nat.mod_eq_of_lt h'.1)) (h x)
  | some (L, x), some (L', x'), ⟨hx, h⟩, ⟨hx', h'⟩ => by
    have a1 : x % L' = x' := (h' x).mpr ((h x).mp (Nat.mod_eq_of_lt hx))
    have a2 : x' % L = x := (h x').mpr ((h' x').mp (Nat.mod_eq_of_lt hx'))
    have e : x = x' := Nat.le_antisymm (by rw [← a2]; exact Nat.mod_le _ _) (by rw [← a1]; exact Nat.mod_le _ _)
    subst e
    have b1 : (x + L) % L' = x := (h' _).mpr ((h _).mp (by rw [Nat.add_mod_right]; exact Nat.mod_eq_of_lt hx))
    have b2 : (x + L') % L = x := (h _).mpr ((h' _).mp (by rw [Nat.add_mod_right]; exact Nat.mod_eq_of_lt hx'))
    have d1 : L' ∣ L := by
      have := dvd_of_mods (x := x + L) (y := x) (m := L') (by rw [b1, Nat.mod_eq_of_lt hx'])
      have e : ((x + L : Nat) : Int) - x = (L : Int) := by omega
      rw [e] at this
      exact Int.natCast_dvd_natCast.mp this
    have d2 : L ∣ L' := by
      have := dvd_of_mods (x := x + L') (y := x) (m := L) (by rw [b2, Nat.mod_eq_of_lt hx])
      have e : ((x + L' : Nat) : Int) - x = (L' : Int) := by omega
      rw [e] at this
      exact Int.natCast_dvd_natCast.mp this
    rw [Nat.dvd_antisymm d2 d1]
/-- the class that the program reckons -/
theorem met_mk {m1 r1 m2 r2 : Nat} {inv : Int} (p1 : 0 < m1) (p2 : 0 < m2) (l1 : r1 < m1) (l2 : r2 < m2) (hf : ((r1 : Int) - r2) % ((Nat.gcd m1 m2 : Nat) : Int) = 0)
    (hi : (((m2 / Nat.gcd m1 m2 : Nat) : Int)) ∣ ((m1 / Nat.gcd m1 m2 : Nat) : Int) * inv - 1) :
    ∃ x : Nat, (r1 : Int) + m1 * ((((r2 : Int) - r1) / ((Nat.gcd m1 m2 : Nat) : Int) * inv) % ((m2 / Nat.gcd m1 m2 : Nat) : Int)) = (x : Int) ∧ MeetR m1 r1 m2 r2 (some (m1 * (m2 / Nat.gcd m1 m2), x)) := by
  have gp : 0 < Nat.gcd m1 m2 := Nat.gcd_pos_of_pos_left _ p1
  generalize hg : Nat.gcd m1 m2 = g at hf hi gp ⊢
  have da : g ∣ m1 := hg ▸ Nat.gcd_dvd_left m1 m2
  have db : g ∣ m2 := hg ▸ Nat.gcd_dvd_right m1 m2
  obtain ⟨a, ha⟩ := da
  obtain ⟨f, hf2⟩ := db
  have ea : m1 / g = a := by rw [ha]; exact Nat.mul_div_cancel_left _ gp
  have ef : m2 / g = f := by rw [hf2]; exact Nat.mul_div_cancel_left _ gp
  rw [ea, ef] at hi
  rw [ef]
  have fp : 0 < f := by
    rcases Nat.eq_zero_or_pos f with e | e
    · rw [e, Nat.mul_zero] at hf2; omega
    · exact e
  obtain ⟨d, hd⟩ := Int.dvd_of_emod_eq_zero hf
  have ed : ((r2 : Int) - r1) / (g : Int) = -d := by
    have e : (r2 : Int) - r1 = (g : Int) * (-d) := by rw [Int.mul_neg, ← hd]; omega
    rw [e]
    exact Int.mul_ediv_cancel_left _ (by omega)
  rw [ed]
  generalize hs : (-d * inv) % (f : Int) = s
  have s0 : 0 ≤ s := hs ▸ Int.emod_nonneg _ (by omega)
  have s1 : s < (f : Int) := hs ▸ Int.emod_lt_of_pos _ (by omega)
  obtain ⟨t, rfl⟩ : ∃ t : Nat, s = (t : Int) := ⟨s.toNat, by omega⟩
  refine ⟨r1 + m1 * t, by rw [Int.natCast_add, Int.natCast_mul], ?_, ?_, ?_, ?_, ?_⟩
  · rw [hg]; exact hf
  · rw [hg, ef]
  · have : m1 * (t + 1) ≤ m1 * f := Nat.mul_le_mul_left _ (by omega)
    rw [Nat.mul_add, Nat.mul_one] at this
    omega
  · rw [Nat.add_mul_mod_self_left]
    exact Nat.mod_eq_of_lt l1
  · have q1 : (f : Int) ∣ -d * inv - t := by
      refine Int.dvd_of_emod_eq_zero ?_
      rw [← hs, Int.sub_emod, Int.emod_emod, ← Int.sub_emod, Int.sub_self, Int.zero_emod]
    obtain ⟨u, hu⟩ := hi
    obtain ⟨v, hv⟩ := q1
    have key : (m2 : Int) ∣ ((r1 + m1 * t : Nat) : Int) - (r2 : Nat) := by
      refine ⟨-d * u - a * v, ?_⟩
      have e1 : ((r1 + m1 * t : Nat) : Int) - (r2 : Nat) = (g : Int) * d + (g * a : Nat) * t := by
        rw [Int.natCast_add, Int.natCast_mul, ← ha, ← hd]
        omega
      have e2 : (t : Int) = -d * inv - f * v := by omega
      have e3 : (a : Int) * inv = 1 + f * u := by omega
      rw [e1, e2, hf2, Int.natCast_mul, Int.natCast_mul]
      have e4 : (g : Int) * a * (-d * inv - f * v) = (g : Int) * (-d * (a * inv)) - g * f * (a * v) := by
        rw [Int.mul_sub]
        congr 1
        · simp only [Int.neg_mul, Int.mul_neg]; congr 1; simp only [Int.mul_assoc, Int.mul_left_comm]
        · simp only [Int.mul_assoc, Int.mul_left_comm]
      rw [e4, e3]
      simp only [Int.mul_add, Int.mul_sub, Int.mul_one, Int.mul_neg, Int.neg_mul, Int.mul_assoc, Int.mul_left_comm]
      omega
    rw [mods_of_dvd key]
    exact Nat.mod_eq_of_lt l2
theorem cop_div {m1 m2 : Nat} (p1 : 0 < m1) : Nat.gcd (m1 / Nat.gcd m1 m2) (m2 / Nat.gcd m1 m2) = 1 :=
  Nat.gcd_div_gcd_div_gcd_of_pos_left p1
def G300 : Nat := 10 ^ 300 + 7
theorem g300_odd : G300 % 2 = 1 := by decide +kernel
theorem g300_5 : 5 < G300 := by decide +kernel
/-! ### classes as values -/
def IsC (K : PySem.W.Frag) (H : Hp) (v : V) (m r : Nat) : Prop := ∃ p, v = .ref p ∧ SqT K H p [.int (m : Int), .int (r : Int)]
def CC (m r : Nat) : Prop := r < m ∧ Bd (m : Int)
def OptC (K : PySem.W.Frag) (H : Hp) (v : V) : Option (Nat × Nat) → Prop
  | none => v = .non
  | some (m, r) => IsC K H v m r
section
variable {K : PySem.W.Frag} {H H' : Hp} {v : V} {m r : Nat}
theorem IsC.same (h : IsC K H v m r) (s : Same H H') : IsC K H' v m r := let ⟨p, e, q⟩ := h; ⟨p, e, Same.tup s q⟩
theorem IsC.keep {a c : Addr} {t : Int} (h : IsC K H v m r) (k : Keep a c H H') (s : Src H a c t) : IsC K H' v m r := let ⟨p, e, q⟩ := h; ⟨p, e, k.tup s q⟩
theorem OptC.same : ∀ {o : Option (Nat × Nat)}, OptC K H v o → Same H H' → OptC K H' v o
  | none, h, _ => h
  | some (_, _), h, s => IsC.same h s
theorem OptC.keep {a c : Addr} {t : Int} : ∀ {o : Option (Nat × Nat)}, OptC K H v o → Keep a c H H' → Src H a c t → OptC K H' v o
  | none, h, _, _ => h
  | some (_, _), h, k, s => IsC.keep h k s
theorem tyx_tup {p : Addr} {xs : List V} (h : SqT K H p xs) : TyX K H (.ref p) (.type "tuple") := by
  rcases h with (h | ⟨o, h⟩) | ⟨o, its, n, h1, h2, _⟩
  · exact .base (.tup h)
  · exact .fTuple h
  · exact .kTuple h1 h2
theorem tyx_lst {p : Addr} {xs : List V} (h : SqL K H p xs) : TyX K H (.ref p) (.type "list") := by
  rcases h with (h | ⟨o, h⟩) | ⟨o, its, n, h1, h2, _⟩
  · exact .base (.lst h)
  · exact .base (.frz h)
  · exact .kList h1 h2
theorem tyx_int {i : Int} : TyX K H (.int i) (.type "int") := .base (.int i)
theorem tyx_bl {i : Bool} : TyX K H (.bl i) (.type "bool") := .base (.bl i)
theorem tyx_non : TyX K H .non (.type "NoneType") := .base .non
theorem r_isi {Q : VK} {x : V} {n t : String} {b : Bool} (ht : TyX K H x (.type t)) (hk : kitB t n = some b) (h : Q (.bl b) H) : rIsi K [x, .ty n] H Q := ⟨x, _, _, _, b, rfl, .ty n, ht, kit_ty hk, h⟩
theorem k_tt : kitB "tuple" "tuple" = some true := by decide +kernel
theorem k_nt : kitB "NoneType" "tuple" = some false := by decide +kernel
theorem k_ii : kitB "int" "int" = some true := by decide +kernel
theorem k_ib : kitB "int" "bool" = some false := by decide +kernel
theorem k_bb : kitB "bool" "bool" = some true := by decide +kernel
theorem k_bi : kitB "bool" "int" = some true := by decide +kernel
theorem k_ll : kitB "list" "list" = some true := by decide +kernel
end
def cdat (z : Nat × Nat) : PyData := .tuple [.int (z.1 : Int), .int (z.2 : Int)]
def odat : Option (Nat × Nat) → PyData
  | none => .none
  | some z => cdat z
theorem cdat_eqv (z w : Nat × Nat) : PyData.eqv (cdat z) (cdat w) = decide (z = w) := by
  obtain ⟨a, b⟩ := z
  obtain ⟨c, d⟩ := w
  unfold cdat
  rw [PyData.eqv, PyData.eqvAll, PyData.eqvAll, PyData.eqvAll, eqv_int, eqv_int]
  by_cases e1 : a = c
  · by_cases e2 : b = d
    · simp [e1, e2]
    · have e3 : ¬ (b : Int) = (d : Int) := by omega
      simp [e1, e2, e3]
  · have e3 : ¬ (a : Int) = (c : Int) := by omega
    simp [e1, e3]
theorem odat_eqv (z w : Option (Nat × Nat)) : PyData.eqv (odat z) (odat w) = decide (z = w) := by
  cases z with
  | none =>
    cases w with
    | none => simp [odat, PyData.eqv]
    | some w => simp [odat, cdat, PyData.eqv]
  | some z =>
    cases w with
    | none => simp [odat, cdat, PyData.eqv]
    | some w =>
      show PyData.eqv (cdat z) (cdat w) = _
      rw [cdat_eqv]
      by_cases e : z = w <;> simp [e]
theorem shp_cdat {z : Nat × Nat} : Shp 1 (cdat z) := shp_tup fun d hd => by
  rcases List.mem_cons.mp hd with e | hd
  · subst e; exact shp_int
  · rcases List.mem_cons.mp hd with e | hd
    · subst e; exact shp_int
    · cases hd
theorem shp_odat : ∀ {o : Option (Nat × Nat)}, Shp 1 (odat o)
  | none => shp_non
  | some _ => shp_cdat
section
variable {K : PySem.W.Frag} {H : Hp} {v : V} {m r : Nat}
theorem IsC.dp (h : IsC K H v m r) : Dp K H v (cdat (m, r)) := by
  obtain ⟨p, rfl, hq⟩ := h
  exact .tup hq (.cons (.int _) (.cons (.int _) .nil))
theorem OptC.dp : ∀ {o : Option (Nat × Nat)}, OptC K H v o → Dp K H v (odat o)
  | none, h => by
    have e : v = .non := h
    rw [e]
    exact .non
  | some (_, _), h => IsC.dp h
end
theorem sm_mul {i j : Int} {a b : Nat} (hi : i.natAbs < 2 ^ a) (hj : j.natAbs < 2 ^ b) (h : a + b ≤ 20000) : Sm (i * j) := Nat.lt_of_lt_of_le (wide_lt hi hj) (Nat.pow_le_pow_right (by decide) h)
theorem bd_nat {a b : Nat} (h : a ≤ b) (hb : Bd (b : Int)) : Bd (a : Int) := Nat.lt_of_le_of_lt (by omega) hb
theorem le_mul_abs {a b : Int} (h : 1 ≤ b) : (a.natAbs : Int) ≤ (a.natAbs : Int) * b := by
  have := Int.mul_le_mul_of_nonneg_left h (show 0 ≤ (a.natAbs : Int) by omega)
  omega
theorem abs_step {af rf q : Int} (hq : 0 ≤ q) : ((af - q * rf).natAbs : Int) ≤ (af.natAbs : Int) + q * (rf.natAbs : Int) := by
  have h1 : (af - q * rf).natAbs ≤ af.natAbs + (q * rf).natAbs := Int.natAbs_sub_le af (q * rf)
  have h2 : ((q * rf).natAbs : Int) = q * (rf.natAbs : Int) := by
    rw [Int.natAbs_mul, Int.natCast_mul]
    congr 1
    omega
  omega
/-- one turn of the reckoning of an inverse -/
structure InvW (n m : Int) (a r af rf : Int) : Prop where
  a1 : 1 ≤ a
  a2 : a ≤ m
  r0 : 0 ≤ r
  r1 : r < m
  g : Int.gcd a r = 1
  d1 : m ∣ af * n - a
  d2 : m ∣ rf * n - r
  sz : (af.natAbs : Int) * r + (rf.natAbs : Int) * a ≤ m
theorem InvW.turn {n m a r af rf : Int} (h : InvW n m a r af rf) (hr : 0 < r) : InvW n m r (a % r) rf (af - a / r * rf) := by
  have q0 : 0 ≤ a / r := Int.ediv_nonneg (by have := h.a1; omega) (by omega)
  have e1 : a / r * r + a % r = a := by rw [Int.mul_comm]; exact Int.mul_ediv_add_emod a r
  have m0 := Int.emod_nonneg a (show r ≠ 0 by omega)
  have m1 := Int.emod_lt_of_pos a hr
  refine ⟨by omega, by have := h.r1; omega, m0, by have := h.r1; omega, ?_, h.d2, ?_, ?_⟩
  · have hg := h.g
    obtain ⟨A, rfl⟩ : ∃ A : Nat, a = (A : Int) := ⟨a.toNat, by have := h.a1; omega⟩
    obtain ⟨R, rfl⟩ : ∃ R : Nat, r = (R : Int) := ⟨r.toNat, by omega⟩
    have hg2 : Nat.gcd A R = 1 := hg
    show Nat.gcd R ((A : Int) % (R : Int)).natAbs = 1
    rw [show ((A : Int) % (R : Int)).natAbs = A % R by rw [← Int.natCast_emod]; rfl, Nat.gcd_comm, ← Nat.gcd_rec, Nat.gcd_comm]
    exact hg2
  · obtain ⟨u, hu⟩ := h.d1
    obtain ⟨v, hv⟩ := h.d2
    refine ⟨u - a / r * v, ?_⟩
    rw [Int.sub_mul, Int.mul_assoc, Int.mul_sub, ← hu, Int.mul_left_comm m, ← hv, Int.mul_sub]
    omega
  · have s := h.sz
    have k := abs_step (af := af) (rf := rf) q0
    have k2 := Int.mul_le_mul_of_nonneg_right k (show 0 ≤ r by omega)
    rw [Int.add_mul] at k2
    have e2 : a / r * (rf.natAbs : Int) * r = (rf.natAbs : Int) * (a / r * r) := by
      rw [Int.mul_comm (a / r) (rf.natAbs : Int), Int.mul_assoc]
    rw [e2] at k2
    have e3 : (rf.natAbs : Int) * a = (rf.natAbs : Int) * (a / r * r) + (rf.natAbs : Int) * (a % r) := by rw [← Int.mul_add, e1]
    omega
theorem InvW.bd {n m a r af rf : Int} (h : InvW n m a r af rf) (hm : Bd m) : Bd rf := by
  have s := h.sz
  have k := le_mul_abs (a := rf) h.a1
  have z : 0 ≤ (af.natAbs : Int) * r := Int.mul_nonneg (by omega) h.r0
  have e : (rf.natAbs : Int) ≤ m := by omega
  exact Nat.lt_of_le_of_lt (by omega) hm
theorem inv_end {n m af : Int} (h : m ∣ af * n - 1) : m ∣ n * (af % m) - 1 := by
  obtain ⟨u, hu⟩ := h
  refine ⟨u - n * (af / m), ?_⟩
  have e := Int.mul_ediv_add_emod af m
  have e2 : n * (af % m) = n * af - n * (m * (af / m)) := by rw [← Int.mul_sub]; congr 1; omega
  rw [e2, Int.mul_sub, ← hu, Int.mul_left_comm m n, Int.mul_comm af n]
  omega
theorem gcd_start {n m : Nat} (h : Nat.gcd n m = 1) : Int.gcd (m : Int) ((n : Int) % (m : Int)) = 1 := by
  show Nat.gcd m ((n : Int) % (m : Int)).natAbs = 1
  rw [show ((n : Int) % (m : Int)).natAbs = n % m by rw [← Int.natCast_emod]; rfl, Nat.gcd_comm, ← Nat.gcd_rec, Nat.gcd_comm]
  exact h
section
variable {K : PySem.W.Frag} {H : Hp} {v : V} {m r : Nat} {Q : VK}
theorem r_c0 (h : IsC K H v m r) (q : Q (.int (m : Int)) H) : rIxT K v (.int 0) H Q := by
  obtain ⟨p, rfl, hp⟩ := h
  exact r_ixT hp atI0 q
theorem r_c1 (h : IsC K H v m r) (q : Q (.int (r : Int)) H) : rIxT K v (.int 1) H Q := by
  obtain ⟨p, rfl, hp⟩ := h
  exact r_ixT hp atI1 q
theorem r_isC {b : Bool} (h : IsC K H v m r) (q : Q (.bl true) H) : rIsi K [v, .ty "tuple"] H Q := by
  obtain ⟨p, rfl, hp⟩ := h
  exact r_isi (tyx_tup hp) k_tt q
theorem r_lenC {R : List V → Prop} (h : IsC K H v m r) (q : R [.int (m : Int), .int (r : Int)]) : ∃ p' ys', [v] = [V.ref p'] ∧ (SqL K H p' ys' ∨ SqT K H p' ys') ∧ R ys' := by
  obtain ⟨p, rfl, hp⟩ := h
  exact r_lenT hp q
theorem r_neD {x y : V} {a b : PyData} (ha : Dp K H x a) (hb : Dp K H y b) (h1 : SeqAt.shaped a = true) (h2 : SeqAt.shaped b = true) (q : Q (.bl (!PyData.eqv a b)) H) : rNeD K x y H Q := ⟨a, b, ha, hb, h1, h2, q⟩
theorem r_eqDD {x y : V} {a b : PyData} (ha : Dp K H x a) (hb : Dp K H y b) (h1 : SeqAt.shaped a = true) (h2 : SeqAt.shaped b = true) (q : Q (.bl (PyData.eqv a b)) H) : rEqD K x y H Q := ⟨a, b, ha, hb, h1, h2, q⟩
theorem r_neO {x y : V} {o o' : Option (Nat × Nat)} (ha : OptC K H x o) (hb : OptC K H y o') (q : Q (.bl (!decide (o = o'))) H) : rNeD K x y H Q := r_neD ha.dp hb.dp shp_odat.ok shp_odat.ok (by rw [odat_eqv]; exact q)
theorem r_eqO {x y : V} {o o' : Option (Nat × Nat)} (ha : OptC K H x o) (hb : OptC K H y o') (q : Q (.bl (decide (o = o'))) H) : rEqD K x y H Q := r_eqDD ha.dp hb.dp shp_odat.ok shp_odat.ok (by rw [odat_eqv]; exact q)
theorem nat_mod_cast {a b c : Nat} : decide ((a : Int) % (b : Int) = (c : Int)) = decide (a % b = c) := decide_eq_decide.mpr (by rw [← Int.natCast_emod]; omega)
theorem natV {l : List Nat} : l.map (fun k : Nat => V.int (k : Int)) = (l.map fun k : Nat => (k : Int)).map V.int := by rw [List.map_map]; rfl
theorem r_neNats {a b : Addr} {xs ys : List Nat} (hx : SqL K H a (xs.map fun k : Nat => V.int (k : Int))) (hy : SqL K H b (ys.map fun k : Nat => V.int (k : Int))) (q : Q (.bl (!decide (xs = ys))) H) : rNeD K (.ref a) (.ref b) H Q := by
  rw [natV] at hx hy
  refine r_neD (dp_ints hx) (dp_ints hy) shp_ints.ok shp_ints.ok ?_
  rw [List.map_map, List.map_map, eqv_list (f := PyData.int ∘ fun k : Nat => (k : Int)) (fun x y => by show PyData.eqv (.int (x : Int)) (.int (y : Int)) = _; rw [eqv_int]; exact decide_eq_decide.mpr (by omega))]
  exact q
theorem comp_filter {i n : Nat} {σ : L2.St} {H1 : Hp} {Dl : Addr} {tt : TT} {Qd : Hp → Prop} (p : Nat → Bool) (hi : i < σ.length) (hn : n < 1000000) (hD : H1 Dl = none)
    (ht : ∀ (k : Nat) H', k < n → Same H1 H' → ∀ R : Bool → Hp → Prop, (∀ H2, Same H' H2 → R (p k) H2) → tt ((wipe σ [i]).set i (some (.int (k : Int)))) H' R)
    (hq : ∀ H', Same H1 H' → H' Dl = some (.lst (((List.range n).filter p).map fun k : Nat => V.int (k : Int))) → Qd H') : LcW (Itr 0 n) (gName i) tt (tVar i) [i] σ H1 Dl Qd := by
  refine comp_range (fun j H' => Same H1 H' ∧ H' Dl = some (.lst (((List.range j).filter p).map fun k : Nat => V.int (k : Int)))) ⟨Same.new hD, upd_same⟩ ?_ (fun H' ⟨a, b⟩ => hq H' a b)
  rintro j H' hj ⟨sm, hl⟩
  refine ⟨?_, ht j H' hj sm _ fun H2 s2 => ?_⟩
  · show ((σ.set i none).set i _).set i none = σ.set i none
    rw [List.set_set, List.set_set]
  · have hl2 := s2 _ _ hl
    have ln : (((List.range j).filter p).map fun k : Nat => V.int (k : Int)).length ≤ j := by
      rw [List.length_map]
      have := List.length_filter_le p (List.range j)
      rw [List.length_range] at this
      exact this
    have sm2 : ∀ o, Same H1 (upd H2 Dl o) := fun o b u e => by
      rw [upd_ne (ne_of_none e hD)]
      exact s2 _ _ (sm _ _ e)
    cases hp : p j with
    | true =>
      refine r_T (r_var (v := .int (j : Int)) ?_ ⟨_, hl2, Nat.lt_of_le_of_lt ln (Nat.lt_of_lt_of_le (Nat.lt_trans hj hn) (by decide)), sm2 _, ?_⟩)
      · show ((σ.set i none).set i _)[i]? = _
        rw [List.getElem?_set_self (by rw [List.length_set]; exact hi)]
      · rw [List.range_succ, List.filter_append, List.map_append, List.filter_cons, if_pos hp]
        exact upd_same
    | false =>
      refine r_F ⟨sm.trans s2, ?_⟩
      rw [List.range_succ, List.filter_append, List.map_append, List.filter_cons, if_neg (by rw [hp]; decide)]
      show H2 Dl = some (.lst (_ ++ []))
      rw [List.append_nil]
      exact hl2
end
theorem IsC.kept {K : PySem.W.Frag} {l : Addr} {H H' : Hp} {ys : List V} {v : V} {m r : Nat} (h : IsC K H v m r) (k : Kept l H H') (hl : H l = some (.lst ys)) : IsC K H' v m r := let ⟨p, e, q⟩ := h; ⟨p, e, k.tup hl q⟩
theorem OptC.kept {K : PySem.W.Frag} {l : Addr} {H H' : Hp} {ys : List V} {v : V} : ∀ {o : Option (Nat × Nat)}, OptC K H v o → Kept l H H' → H l = some (.lst ys) → OptC K H' v o
  | none, h, _, _ => h
  | some (_, _), h, k, hl => IsC.kept h k hl
def E300 : Int := ((10 : Int) ^ 60) ^ 5
theorem e300_eq : E300 + 7 = (G300 : Int) := by decide +kernel
theorem r_pow300 {H : Hp} {Q : VK} (h : Q (.int E300) H) : rI CPowW (fun i j => V.int (i ^ j.toNat)) (.int ((10 : Int) ^ 60)) (.int 5) H Q := pw_ok (by decide) (by decide +kernel) (by decide +kernel) h
theorem bd_g300 : Bd ((G300 : Nat) : Int) := by
  have h2 : G300 < 2 ^ 4000 := by decide +kernel
  exact Nat.lt_of_le_of_lt (show (((G300 : Nat) : Int)).natAbs ≤ G300 by omega) h2
theorem bd_2g300 {n : Nat} (h : n ≤ 4 * G300) : Bd (n : Int) := by
  have h2 : 4 * G300 < 2 ^ 4000 := by decide +kernel
  exact Nat.lt_of_le_of_lt (show ((n : Int)).natAbs ≤ 4 * G300 by omega) h2
theorem r_revL {K : PySem.W.Frag} {σ : L2.St} {H : Hp} {Q : VK} {te : TE} (h : te σ H fun x H1 => ∃ a xs, x = .ref a ∧ SqL K H1 a xs ∧ ∀ p, H1 p = none → Q (.ref p) (upd H1 p (.lst xs.reverse))) : tRevL K te σ H Q := h
/-! ### lists of classes -/
theorem dvd_lcm_gcds {d a b : Nat} (pd : 0 < d) (h : d ∣ Nat.lcm a b) : d ∣ Nat.lcm (Nat.gcd d a) (Nat.gcd d b) := by
  have gp : 0 < Nat.gcd d (Nat.gcd a b) := Nat.gcd_pos_of_pos_left _ pd
  have hab : d * Nat.gcd a b ∣ a * b := by
    have e := Nat.gcd_mul_lcm a b
    rw [← e, Nat.mul_comm]
    exact Nat.mul_dvd_mul_left _ h
  have T : d * Nat.gcd d (Nat.gcd a b) ∣ Nat.gcd d a * Nat.gcd d b := by
    rw [← Nat.gcd_mul_left (Nat.gcd d a) d b, ← Nat.gcd_mul_right d d a, ← Nat.gcd_mul_right d b a]
    refine Nat.dvd_gcd (Nat.dvd_gcd ?_ ?_) (Nat.dvd_gcd ?_ ?_)
    · exact Nat.mul_dvd_mul_left _ (Nat.gcd_dvd_left _ _)
    · rw [Nat.mul_comm a d]
      exact Nat.mul_dvd_mul_left _ (Nat.dvd_trans (Nat.gcd_dvd_right _ _) (Nat.gcd_dvd_left _ _))
    · exact Nat.mul_dvd_mul_left _ (Nat.dvd_trans (Nat.gcd_dvd_right _ _) (Nat.gcd_dvd_right _ _))
    · exact Nat.dvd_trans (Nat.mul_dvd_mul_left _ (Nat.gcd_dvd_right _ _)) hab
  have e2 := Nat.gcd_mul_lcm (Nat.gcd d a) (Nat.gcd d b)
  have g2 : Nat.gcd (Nat.gcd d a) (Nat.gcd d b) ∣ Nat.gcd d (Nat.gcd a b) :=
    Nat.dvd_gcd (Nat.dvd_trans (Nat.gcd_dvd_left _ _) (Nat.gcd_dvd_left _ _)) (Nat.dvd_gcd (Nat.dvd_trans (Nat.gcd_dvd_left _ _) (Nat.gcd_dvd_right _ _)) (Nat.dvd_trans (Nat.gcd_dvd_right _ _) (Nat.gcd_dvd_right _ _)))
  rw [← e2] at T
  have T2 : d * Nat.gcd d (Nat.gcd a b) ∣ Nat.lcm (Nat.gcd d a) (Nat.gcd d b) * Nat.gcd d (Nat.gcd a b) := by
    refine Nat.dvd_trans T ?_
    rw [Nat.mul_comm]
    exact Nat.mul_dvd_mul_left _ g2
  exact Nat.dvd_of_mul_dvd_mul_right gp T2
/-- the least common multiple of a list -/
def lcmL (ms : List Nat) : Nat := ms.foldl Nat.lcm 1
theorem lcmL_snoc (ms : List Nat) (m : Nat) : lcmL (ms ++ [m]) = Nat.lcm (lcmL ms) m := by
  unfold lcmL
  rw [List.foldl_append]
  rfl
theorem list_snoc {α : Type} {P : List α → Prop} (h0 : P []) (hs : ∀ l x, P l → P (l ++ [x])) : ∀ l, P l := by
  have key : ∀ l r : List α, P r → P (r ++ l) := by
    intro l
    induction l with
    | nil => intro r hr; rw [List.append_nil]; exact hr
    | cons x l ih =>
      intro r hr
      have := ih (r ++ [x]) (hs r x hr)
      rw [List.append_assoc] at this
      exact this
  intro l
  exact key l [] h0
theorem lcmL_pos : ∀ {ms : List Nat}, (∀ m ∈ ms, 0 < m) → 0 < lcmL ms := fun {ms} => by
  refine list_snoc (P := fun ms => (∀ m ∈ ms, 0 < m) → 0 < lcmL ms) (fun _ => by decide) (fun l x ih h => ?_) ms
  rw [lcmL_snoc]
  exact Nat.lcm_pos (ih fun m hm => h m (List.mem_append_left _ hm)) (h x (by simp))
theorem dvd_lcmL : ∀ {ms : List Nat} {m : Nat}, m ∈ ms → m ∣ lcmL ms := fun {ms} => by
  refine list_snoc (P := fun ms => ∀ {m : Nat}, m ∈ ms → m ∣ lcmL ms) (fun {_} h => absurd h List.not_mem_nil) (fun l x ih {m} h => ?_) ms
  rw [lcmL_snoc]
  rcases List.mem_append.mp h with h | h
  · exact Nat.dvd_trans (ih h) (Nat.dvd_lcm_left _ _)
  · rw [List.mem_singleton] at h
    subst h
    exact Nat.dvd_lcm_right _ _
theorem lcmL_dvd : ∀ {ms : List Nat} {k : Nat}, (∀ m ∈ ms, m ∣ k) → lcmL ms ∣ k := fun {ms} => by
  refine list_snoc (P := fun ms => ∀ {k : Nat}, (∀ m ∈ ms, m ∣ k) → lcmL ms ∣ k) (fun {_} _ => Nat.one_dvd _) (fun l x ih {k} h => ?_) ms
  rw [lcmL_snoc]
  exact Nat.lcm_dvd (ih fun m hm => h m (List.mem_append_left _ hm)) (h x (by simp))
theorem lcmL_le {B : Nat} : ∀ {ms : List Nat}, (∀ m ∈ ms, 0 < m) → (∀ m ∈ ms, m ≤ B) → lcmL ms ≤ B ^ ms.length := fun {ms} => by
  refine list_snoc (P := fun ms => (∀ m ∈ ms, 0 < m) → (∀ m ∈ ms, m ≤ B) → lcmL ms ≤ B ^ ms.length) (fun _ _ => by show 1 ≤ B ^ 0; rw [Nat.pow_zero]; exact Nat.le_refl _) (fun l x ih h0 h => ?_) ms
  rw [lcmL_snoc, List.length_append, List.length_singleton, Nat.pow_succ]
  have a := ih (fun m hm => h0 m (List.mem_append_left _ hm)) (fun m hm => h m (List.mem_append_left _ hm))
  have b := h x (by simp)
  have p : 0 < lcmL l * x := Nat.mul_pos (lcmL_pos fun m hm => h0 m (List.mem_append_left _ hm)) (h0 x (by simp))
  exact Nat.le_trans (Nat.le_of_dvd p (Nat.lcm_dvd (Nat.dvd_mul_right _ _) (Nat.dvd_mul_left _ _))) (Nat.mul_le_mul a b)
theorem gcd_lcmL_dvd {m y : Nat} (pm : 0 < m) : ∀ {ms : List Nat}, (∀ a ∈ ms, 0 < a) → (∀ a ∈ ms, Nat.gcd m a ∣ y) → Nat.gcd m (lcmL ms) ∣ y := fun {ms} => by
  refine list_snoc (P := fun ms => (∀ a ∈ ms, 0 < a) → (∀ a ∈ ms, Nat.gcd m a ∣ y) → Nat.gcd m (lcmL ms) ∣ y) (fun _ _ => ?_) (fun l x ih h0 h => ?_) ms
  · show Nat.gcd m 1 ∣ y
    rw [Nat.gcd_one_right]
    exact Nat.one_dvd _
  · rw [lcmL_snoc]
    have dp : 0 < Nat.gcd m (Nat.lcm (lcmL l) x) := Nat.gcd_pos_of_pos_left _ pm
    refine Nat.dvd_trans (dvd_lcm_gcds dp (Nat.gcd_dvd_right _ _)) (Nat.lcm_dvd ?_ ?_)
    · refine Nat.dvd_trans (Nat.dvd_gcd (Nat.dvd_trans (Nat.gcd_dvd_left _ _) (Nat.gcd_dvd_left _ _)) (Nat.gcd_dvd_right _ _)) (ih (fun a ha => h0 a (List.mem_append_left _ ha)) fun a ha => h a (List.mem_append_left _ ha))
    · exact Nat.dvd_trans (Nat.dvd_gcd (Nat.dvd_trans (Nat.gcd_dvd_left _ _) (Nat.gcd_dvd_left _ _)) (Nat.gcd_dvd_right _ _)) (h x (by simp))
/-- which pairs of a list of classes have a mark in common -/
def FitsAt (zs : List (Nat × Nat)) (i j : Nat) : Prop := ∀ z w, zs[i]? = some z → zs[j]? = some w → Fits z.1 z.2 w.1 w.2
def BarR (zs : List (Nat × Nat)) : Option (Nat × Nat) → Prop
  | none => ∀ i j, i < j → j < zs.length → FitsAt zs i j
  | some (i, j) => i < j ∧ j < zs.length ∧ ¬ FitsAt zs i j ∧ ∀ i' j', i' < j' → j' < zs.length → (i' < i ∨ i' = i ∧ j' < j) → FitsAt zs i' j'
theorem bar_one {zs : List (Nat × Nat)} : ∀ {o o' : Option (Nat × Nat)}, BarR zs o → BarR zs o' → o = o'
  | none, none, _, _ => rfl
  | none, some (i, j), h, ⟨a, b, c, _⟩ => absurd (h i j a b) c
  | some (i, j), none, ⟨a, b, c, _⟩, h => absurd (h i j a b) c
  | some (i, j), some (i', j'), ⟨a, b, c, d⟩, ⟨a', b', c', d'⟩ => by
    have h1 : ¬ (i' < i ∨ i' = i ∧ j' < j) := fun z => c' (d i' j' a' b' z)
    have h2 : ¬ (i < i' ∨ i = i' ∧ j < j') := fun z => c (d' i j a b z)
    have e1 : i = i' := by omega
    have e2 : j = j' := by omega
    rw [e1, e2]
/-- all marks of all classes -/
def AllIn (zs : List (Nat × Nat)) (h : Nat) : Prop := ∀ z ∈ zs, h % z.1 = z.2
/-- pairs suffice: one more class meets the common one -/
theorem next_fits {zs : List (Nat × Nat)} {m r L x : Nat} (hz : ∀ z ∈ zs, z.2 < z.1) (hm : r < m) (hL : L = lcmL (zs.map (·.1))) (hx : AllIn zs x) (hf : ∀ z ∈ zs, Fits z.1 z.2 m r) : Fits L x m r := by
  have key : Nat.gcd m L ∣ ((x : Int) - r).natAbs := by
    rw [hL]
    refine gcd_lcmL_dvd (by omega) (fun a ha => ?_) fun a ha => ?_
    · obtain ⟨z, hz', rfl⟩ := List.mem_map.mp ha
      have := hz z hz'
      omega
    · obtain ⟨z, hz', rfl⟩ := List.mem_map.mp ha
      have f : ((z.2 : Int) - r) % ((Nat.gcd z.1 m : Nat) : Int) = 0 := hf z hz'
      have d1 : ((Nat.gcd z.1 m : Nat) : Int) ∣ (z.2 : Int) - r := Int.dvd_of_emod_eq_zero f
      have d2 : ((Nat.gcd z.1 m : Nat) : Int) ∣ (x : Int) - z.2 := by
        refine Int.dvd_trans (Int.natCast_dvd_natCast.mpr (Nat.gcd_dvd_left z.1 m)) (dvd_of_mods ?_)
        rw [hx z hz', Nat.mod_eq_of_lt (hz z hz')]
      have d3 : ((Nat.gcd z.1 m : Nat) : Int) ∣ (x : Int) - r := by
        have e : (x : Int) - r = ((x : Int) - z.2) + ((z.2 : Int) - r) := by omega
        rw [e]
        exact Int.dvd_add d2 d1
      rw [Nat.gcd_comm]
      exact Int.ofNat_dvd_left.mp d3
  show ((x : Int) - r) % ((Nat.gcd L m : Nat) : Int) = 0
  rw [Nat.gcd_comm]
  exact Int.emod_eq_zero_of_dvd (Int.ofNat_dvd_left.mpr key)
/-- what is told of a list of classes: a bar, or the common class -/
def AllR (zs : List (Nat × Nat)) : Sum (Nat × Nat) (Nat × Nat) → Prop
  | .inl ij => BarR zs (some ij)
  | .inr (L, x) => BarR zs none ∧ x < L ∧ L = lcmL (zs.map (·.1)) ∧ AllIn zs x
theorem all_one {zs : List (Nat × Nat)} (hz : ∀ z ∈ zs, z.2 < z.1) : ∀ {o o' : Sum (Nat × Nat) (Nat × Nat)}, AllR zs o → AllR zs o' → o = o'
  | .inl a, .inl b, h, h' => by have e := bar_one (zs := zs) (o := some a) (o' := some b) h h'; cases e; rfl
  | .inl a, .inr (_, _), h, h' => by have e := bar_one (zs := zs) (o := some a) (o' := none) h h'.1; cases e
  | .inr (_, _), .inl a, h', h => by have e := bar_one (zs := zs) (o := some a) (o' := none) h h'.1; cases e
  | .inr (L, x), .inr (L', x'), ⟨_, hx, hL, hA⟩, ⟨_, hx', hL', hA'⟩ => by
    have e : L = L' := hL.trans hL'.symm
    subst e
    have d : lcmL (zs.map (·.1)) ∣ ((x : Int) - x').natAbs := lcmL_dvd fun m hm => by
      obtain ⟨z, hz', rfl⟩ := List.mem_map.mp hm
      exact Int.ofNat_dvd_left.mp (dvd_of_mods ((hA z hz').trans (hA' z hz').symm))
    rw [← hL] at d
    have d2 : (L : Int) ∣ (x : Int) - x' := Int.ofNat_dvd_left.mpr d
    have e2 := mods_of_dvd d2
    rw [Nat.mod_eq_of_lt hx, Nat.mod_eq_of_lt hx'] at e2
    rw [e2]
theorem all_snoc {zs : List (Nat × Nat)} {m r L x L' x' : Nat} (hz : ∀ z ∈ zs, z.2 < z.1) (hL : L = lcmL (zs.map (·.1))) (hA : AllIn zs x) (M : MeetR L x m r (some (L', x'))) :
    L' = lcmL ((zs ++ [(m, r)]).map (·.1)) ∧ x' < L' ∧ AllIn (zs ++ [(m, r)]) x' := by
  obtain ⟨_, h1, h2, h3, h4⟩ := M
  refine ⟨?_, h2, fun z hz' => ?_⟩
  · rw [List.map_append, List.map_singleton, lcmL_snoc, ← hL, h1, lcm_of]
  · rcases List.mem_append.mp hz' with hm | hm
    · rw [← hA z hm, ← h3, hL]
      exact (mod_mod_dvd (dvd_lcmL (List.mem_map.mpr ⟨z, hm, rfl⟩))).symm
    · rw [List.mem_singleton] at hm
      subst hm
      exact h4
theorem take_snoc {α : Type} {l : List α} {i : Nat} {x : α} (h : l[i]? = some x) : l.take (i + 1) = l.take i ++ [x] := by
  rw [List.take_add_one, h]
  rfl
theorem lcm_take_le {zs : List (Nat × Nat)} (hz : ∀ z ∈ zs, z.2 < z.1) (i : Nat) : lcmL ((zs.take i).map (·.1)) ≤ lcmL (zs.map (·.1)) := by
  refine Nat.le_of_dvd (lcmL_pos fun m hm => ?_) (lcmL_dvd fun m hm => ?_)
  · obtain ⟨z, hz', rfl⟩ := List.mem_map.mp hm
    have := hz z hz'
    omega
  · obtain ⟨z, hz', rfl⟩ := List.mem_map.mp hm
    exact dvd_lcmL (List.mem_map.mpr ⟨z, List.mem_of_mem_take hz', rfl⟩)
/-! ### written lists -/
def fitsB (zs : List (Nat × Nat)) (i j : Nat) : Bool := match zs[i]?, zs[j]? with
  | some z, some w => decide (Fits z.1 z.2 w.1 w.2)
  | _, _ => true
theorem fitsB_iff {zs : List (Nat × Nat)} {i j : Nat} : fitsB zs i j = true ↔ FitsAt zs i j := by
  unfold fitsB FitsAt
  cases h1 : zs[i]? with
  | none => simp
  | some z =>
    cases h2 : zs[j]? with
    | none => simp
    | some w => simp
def barB (zs : List (Nat × Nat)) : Option (Nat × Nat) → Bool
  | none => (List.range zs.length).all fun j => (List.range j).all fun i => fitsB zs i j
  | some (i, j) => decide (i < j ∧ j < zs.length) && !fitsB zs i j && (List.range zs.length).all fun j' => (List.range j').all fun i' => if i' < i ∨ i' = i ∧ j' < j then fitsB zs i' j' else true
theorem barB_ok {zs : List (Nat × Nat)} : ∀ {o : Option (Nat × Nat)}, barB zs o = true → BarR zs o
  | none, h => fun i j h1 h2 => fitsB_iff.mp (List.all_eq_true.mp (List.all_eq_true.mp h j (List.mem_range.mpr h2)) i (List.mem_range.mpr h1))
  | some (i, j), h => by
    have h0 : (decide (i < j ∧ j < zs.length) && !fitsB zs i j && (List.range zs.length).all fun j' => (List.range j').all fun i' => if i' < i ∨ i' = i ∧ j' < j then fitsB zs i' j' else true) = true := h
    rw [Bool.and_eq_true, Bool.and_eq_true] at h0
    obtain ⟨⟨h1, h2⟩, h3⟩ := h0
    have h1 := of_decide_eq_true h1
    refine ⟨h1.1, h1.2, fun f => ?_, fun i' j' a b c => ?_⟩
    · rw [fitsB_iff.mpr f] at h2
      cases h2
    · have := List.all_eq_true.mp (List.all_eq_true.mp h3 j' (List.mem_range.mpr b)) i' (List.mem_range.mpr a)
      rw [if_pos c] at this
      exact fitsB_iff.mp this
def allB (zs : List (Nat × Nat)) : Sum (Nat × Nat) (Nat × Nat) → Bool
  | .inl ij => barB zs (some ij)
  | .inr (L, x) => barB zs none && decide (x < L) && decide (L = lcmL (zs.map (·.1))) && zs.all fun z => decide (x % z.1 = z.2)
theorem allB_ok {zs : List (Nat × Nat)} : ∀ {o : Sum (Nat × Nat) (Nat × Nat)}, allB zs o = true → AllR zs o
  | .inl ij, h => barB_ok (o := some ij) h
  | .inr (L, x), h => by
    have h0 : (barB zs none && decide (x < L) && decide (L = lcmL (zs.map (·.1))) && zs.all fun z => decide (x % z.1 = z.2)) = true := h
    rw [Bool.and_eq_true, Bool.and_eq_true, Bool.and_eq_true] at h0
    obtain ⟨⟨⟨h1, h2⟩, h3⟩, h4⟩ := h0
    exact ⟨barB_ok h1, of_decide_eq_true h2, of_decide_eq_true h3, fun z hz => of_decide_eq_true (List.all_eq_true.mp h4 z hz)⟩
theorem good_all {zs : List (Nat × Nat)} (h : (zs.all fun z => decide (z.2 < z.1)) = true) : ∀ z ∈ zs, z.2 < z.1 := fun z hz => of_decide_eq_true (List.all_eq_true.mp h z hz)
/-! ### classes that take 2 ^ n marks in a row take all: sums of powers modulo a prime -/
def PP : Int := 2521
def GG : Nat := 17
/-- a sum of powers: pairs (factor, base) -/
def ev (l : List (Int × Int)) (x : Nat) : Int := (l.map fun t => t.1 * t.2 ^ x).sum
theorem ev_cons (t : Int × Int) (l : List (Int × Int)) (x : Nat) : ev (t :: l) x = t.1 * t.2 ^ x + ev l x := by
  unfold ev
  rw [List.map_cons, List.sum_cons]
theorem ev_app (l r : List (Int × Int)) (x : Nat) : ev (l ++ r) x = ev l x + ev r x := by
  unfold ev
  rw [List.map_append, List.sum_append]
theorem ev_step (b : Int) : ∀ (l : List (Int × Int)) (x : Nat), ev (l.map fun t => (t.1 * (t.2 - b), t.2)) x = ev l (x + 1) - b * ev l x
  | [], x => by simp [ev]
  | t :: l, x => by
    rw [List.map_cons, ev_cons, ev_cons, ev_cons, ev_step b l x, Int.pow_succ, Int.mul_add]
    have e : t.1 * (t.2 - b) * t.2 ^ x = t.1 * (t.2 ^ x * t.2) - b * (t.1 * t.2 ^ x) := by
      rw [Int.mul_sub, Int.sub_mul]
      congr 1
      · rw [Int.mul_assoc, Int.mul_comm t.2]
      · rw [Int.mul_comm t.1 b, Int.mul_assoc]
    rw [e]
    omega
/-- as many noughts in a row as there are powers make all noughts -/
theorem ev_zero (p : Int) : ∀ (l : List (Int × Int)) (x0 : Nat), (∀ k, k < l.length → p ∣ ev l (x0 + k)) → ∀ k, p ∣ ev l (x0 + k)
  | [], x0, _, k => by simp [ev]
  | t :: l, x0, h, k => by
    have hg : ∀ k, k < l.length → p ∣ ev (l.map fun u => (u.1 * (u.2 - t.2), u.2)) (x0 + k) := fun k hk => by
      have h1 := h k (by rw [List.length_cons]; omega)
      have h2 := h (k + 1) (by rw [List.length_cons]; omega)
      rw [ev_step]
      have e : ev l (x0 + k + 1) - t.2 * ev l (x0 + k) = ev (t :: l) (x0 + (k + 1)) - t.2 * ev (t :: l) (x0 + k) := by
        rw [ev_cons, ev_cons, Int.mul_add, ← Nat.add_assoc, Int.pow_succ]
        have : t.2 * (t.1 * t.2 ^ (x0 + k)) = t.1 * (t.2 ^ (x0 + k) * t.2) := by rw [Int.mul_left_comm, Int.mul_comm t.2]
        rw [this]
        omega
      rw [e]
      exact Int.dvd_sub h2 (Int.dvd_trans h1 (Int.dvd_mul_left _ _))
    have ih := ev_zero p (l.map fun u => (u.1 * (u.2 - t.2), u.2)) x0 (by rw [List.length_map]; exact hg)
    induction k with
    | zero => exact h 0 (by rw [List.length_cons]; omega)
    | succ k ihk =>
      have hs := ih k
      rw [ev_step] at hs
      have e : ev (t :: l) (x0 + (k + 1)) = (ev l (x0 + k + 1) - t.2 * ev l (x0 + k)) + t.2 * ev (t :: l) (x0 + k) := by
        rw [ev_cons, ev_cons, Int.mul_add, ← Nat.add_assoc, Int.pow_succ]
        have : t.2 * (t.1 * t.2 ^ (x0 + k)) = t.1 * (t.2 ^ (x0 + k) * t.2) := by rw [Int.mul_left_comm, Int.mul_comm t.2]
        rw [this]
        omega
      rw [e]
      exact Int.dvd_add hs (Int.dvd_trans ihk (Int.dvd_mul_left _ _))
termination_by l => l.length
/-- one factor more -/
def grow (l : List (Int × Int)) (c q : Int) : List (Int × Int) := l ++ l.map fun t => (-(t.1 * c), t.2 * q)
theorem grow_len (l : List (Int × Int)) (c q : Int) : (grow l c q).length = 2 * l.length := by
  unfold grow
  rw [List.length_append, List.length_map]
  omega
theorem ev_neg (c q : Int) : ∀ (l : List (Int × Int)) (x : Nat), ev (l.map fun t => (-(t.1 * c), t.2 * q)) x = -(ev l x * (c * q ^ x))
  | [], x => by simp [ev]
  | t :: l, x => by
    rw [List.map_cons, ev_cons, ev_cons, ev_neg c q l x, Int.add_mul, Int.mul_pow]
    have : -(t.1 * c) * (t.2 ^ x * q ^ x) = -(t.1 * t.2 ^ x * (c * q ^ x)) := by
      rw [Int.neg_mul]
      congr 1
      simp only [Int.mul_assoc, Int.mul_left_comm]
    rw [this]
    omega
theorem ev_grow (l : List (Int × Int)) (c q : Int) (x : Nat) : ev (grow l c q) x = ev l x * (1 - c * q ^ x) := by
  unfold grow
  rw [ev_app, ev_neg, Int.mul_sub, Int.mul_one]
  omega
/-- the sum of powers that is nought modulo the prime just at the marks of the classes -/
def coverL : List (Nat × Nat) → List (Int × Int)
  | [] => [(1, 1)]
  | z :: zs => grow (coverL zs) ((GG : Int) ^ (2520 / z.1 * (z.1 - z.2))) ((GG : Int) ^ (2520 / z.1))
theorem coverL_len : ∀ zs : List (Nat × Nat), (coverL zs).length = 2 ^ zs.length
  | [] => rfl
  | z :: zs => by
    show (grow (coverL zs) _ _).length = _
    rw [grow_len, coverL_len zs, List.length_cons, Nat.pow_succ]
    omega
theorem order_check : (List.range 2520).all (fun e => decide (GG ^ e % 2521 = 1 → e = 0)) = true := by decide +kernel
theorem order_full : GG ^ 2520 % 2521 = 1 := by decide +kernel
theorem prime_check : (List.range 2521).all (fun e => decide (e = 0 ∨ Nat.gcd e 2521 = 1)) = true := by decide +kernel
theorem order_iff (e : Nat) : GG ^ e % 2521 = 1 ↔ 2520 ∣ e := by
  have he : GG ^ e % 2521 = GG ^ (e % 2520) % 2521 := by
    conv => lhs; rw [← Nat.div_add_mod e 2520, Nat.pow_add, Nat.pow_mul, Nat.mul_mod, Nat.pow_mod, order_full, Nat.one_pow]
    rw [show 1 % 2521 = 1 from rfl, Nat.one_mul, Nat.mod_mod]
  rw [he]
  constructor
  · intro h
    have := of_decide_eq_true (List.all_eq_true.mp order_check (e % 2520) (List.mem_range.mpr (Nat.mod_lt _ (by decide)))) h
    exact Nat.dvd_of_mod_eq_zero this
  · intro h
    rw [Nat.mod_eq_zero_of_dvd h]
    rfl
theorem prime_mul {a b : Int} (h : PP ∣ a * b) : PP ∣ a ∨ PP ∣ b := by
  by_cases ha : PP ∣ a
  · exact .inl ha
  · right
    have h1 : (2521 : Nat) ∣ a.natAbs * b.natAbs := by
      rw [← Int.natAbs_mul]
      exact Int.ofNat_dvd_left.mp h
    have h2 : ¬ 2521 ∣ a.natAbs := fun z => ha (Int.ofNat_dvd_left.mpr z)
    have h3 : Nat.gcd (a.natAbs % 2521) 2521 = 1 := by
      have := of_decide_eq_true (List.all_eq_true.mp prime_check (a.natAbs % 2521) (List.mem_range.mpr (Nat.mod_lt _ (by decide))))
      rcases this with e | e
      · exact absurd (Nat.dvd_of_mod_eq_zero e) h2
      · exact e
    have h4 : Nat.Coprime 2521 a.natAbs := by
      show Nat.gcd 2521 a.natAbs = 1
      rw [Nat.gcd_rec]
      exact h3
    exact Int.ofNat_dvd_left.mpr (Nat.Coprime.dvd_of_dvd_mul_left h4 h1)
theorem factor_iff {m r : Nat} (d : m ∣ 2520) (pm : 0 < m) (hr : r < m) (x : Nat) : PP ∣ 1 - (GG : Int) ^ (2520 / m * (m - r)) * ((GG : Int) ^ (2520 / m)) ^ x ↔ x % m = r := by
  rw [← Int.pow_mul, ← Int.pow_add, ← Nat.mul_add]
  obtain ⟨k, hk⟩ := d
  have kp : 0 < k := by
    rcases Nat.eq_zero_or_pos k with e | e
    · rw [e] at hk; omega
    · exact e
  have e1 : 2520 / m = k := by rw [hk]; exact Nat.mul_div_cancel_left k pm
  rw [e1]
  have c1 : PP ∣ 1 - (GG : Int) ^ (k * (m - r + x)) ↔ GG ^ (k * (m - r + x)) % 2521 = 1 := by
    have e2 : ((GG : Int) ^ (k * (m - r + x))) = ((GG ^ (k * (m - r + x)) : Nat) : Int) := by rw [Int.natCast_pow]
    rw [e2]
    generalize GG ^ (k * (m - r + x)) = w
    unfold PP
    omega
  rw [c1, order_iff, hk, Nat.mul_comm m k, Nat.mul_dvd_mul_iff_left kp]
  constructor
  · rintro ⟨q, hq⟩
    have : x = m * (q - 1) + r := by
      have q1 : 1 ≤ q := by
        rcases Nat.eq_zero_or_pos q with e | e
        · rw [e, Nat.mul_zero] at hq; omega
        · exact e
      have : m * q = m * (q - 1) + m := by
        rw [← Nat.mul_succ]
        congr 1
        omega
      omega
    rw [this, Nat.mul_add_mod]
    exact Nat.mod_eq_of_lt hr
  · intro h
    refine ⟨x / m + 1, ?_⟩
    have := Nat.div_add_mod x m
    rw [Nat.mul_add, Nat.mul_one]
    omega
/-- marks that some of the classes take -/
def Taken (zs : List (Nat × Nat)) (x : Nat) : Prop := ∃ z ∈ zs, x % z.1 = z.2
theorem cover_iff : ∀ {zs : List (Nat × Nat)}, (∀ z ∈ zs, z.1 ∣ 2520 ∧ z.2 < z.1) → ∀ x, PP ∣ ev (coverL zs) x ↔ Taken zs x
  | [], _, x => by
    constructor
    · intro h
      have e : ev (coverL []) x = 1 := by
        show ((1 : Int) * 1 ^ x + 0) = 1
        rw [Int.one_pow]
        rfl
      rw [e] at h
      exact absurd h (by decide)
    · rintro ⟨z, hz, _⟩
      cases hz
  | z :: zs, hz, x => by
    obtain ⟨hd, hl⟩ := hz z List.mem_cons_self
    have ih := cover_iff (zs := zs) (fun w hw => hz w (List.mem_cons_of_mem _ hw)) x
    have f := factor_iff hd (by omega) hl x
    show PP ∣ ev (grow (coverL zs) _ _) x ↔ _
    rw [ev_grow]
    constructor
    · intro h
      rcases prime_mul h with h | h
      · obtain ⟨w, hw, e⟩ := ih.mp h
        exact ⟨w, List.mem_cons_of_mem _ hw, e⟩
      · exact ⟨z, List.mem_cons_self, f.mp h⟩
    · rintro ⟨w, hw, e⟩
      rcases List.mem_cons.mp hw with rfl | hw
      · exact Int.dvd_trans (f.mpr e) (Int.dvd_mul_left _ _)
      · exact Int.dvd_trans (ih.mpr ⟨w, hw, e⟩) (Int.dvd_mul_right _ _)
theorem ev_line (r m : Nat) : ∀ (l : List (Int × Int)) (k : Nat), ev (l.map fun t => (t.1 * t.2 ^ r, t.2 ^ m)) k = ev l (r + m * k)
  | [], k => by simp [ev]
  | t :: l, k => by
    rw [List.map_cons, ev_cons, ev_cons, ev_line r m l k, Int.mul_assoc, ← Int.pow_mul, ← Int.pow_add]
/-- classes with small moduli that take 2 ^ n marks in a row of a class take all of them -/
theorem taken_all {zs : List (Nat × Nat)} (hz : ∀ z ∈ zs, z.1 ∣ 2520 ∧ z.2 < z.1) {r m : Nat} (h : ∀ k, k < 2 ^ zs.length → Taken zs (r + m * k)) (k : Nat) : Taken zs (r + m * k) := by
  have := ev_zero PP ((coverL zs).map fun t => (t.1 * t.2 ^ r, t.2 ^ m)) 0 (fun k hk => by
    rw [List.length_map, coverL_len] at hk
    rw [Nat.zero_add, ev_line]
    exact (cover_iff hz _).mpr (h k hk)) k
  rw [Nat.zero_add, ev_line] at this
  exact (cover_iff hz _).mp this
end My

set_option linter.all false
namespace My
open PySem PySem.Spec PyProof.Rows L2
open C8 (Cal pe_c pe_gc)
/-! ### own exceptions as values -/
/-! ### own exceptions as values -/
abbrev bmVE : List Value := [.type "ValueError", .type "Exception", .type "BaseException", .type "object"]
/-- what the written part says of an own exception class without an __init__ of its own -/
structure XC (K : PySem.W.Frag) (C : Addr) : Prop where
  exc : PySem.W.excIn K C bmVE "ValueError.__new__" = true
  keep : PySem.W.keepIn K (.ref C) = true
  is : ExcC K C
  ty : PySem.W.typeIn K (.ref C) = some (.type "type")
theorem XC.raises {X : Cx} {C : Addr} (h : XC X.K C) : Raises X (.ref C) := raises_own h.is.hs h.ty
section
variable {X : Cx}
theorem Inv_kin {pins : List (Addr × Obj)} {σ : L2.St} {H : Hp} {s : Shared} (I : L2.Inv X pins σ H s) : X.K.In s.heap := fun a o e => I.bk a o (I.ok.mod.kin a o e)
theorem call_mkX {C : Addr} (h : XC X.K C) : CallR X (.ref C) (fun xs H Q => xs.length ≤ sizeLine ∧ ∀ a, H a = none → Q (.ref a) (upd H a (ExO (.ref C) a))) := by
  intro pins s σ H xs us Q I r hq
  obtain ⟨hl, q⟩ := hq
  obtain ⟨bm, N, nm, qn, bs, hdct, sn, sub, ab, col, dd, k0, k1, k2, k3, k5, mN, hC, hN, hi, hT⟩ := exc_obj (Inv_kin I) h.exc
  have hl' : us.length ≤ sizeLine := by rw [← r.length]; exact hl
  refine wpAny_call_exc_subT F.excBase_ValueError hT hC hN hi (fun h' e M => ?_) hl'
  obtain ⟨t, he, -, -⟩ := M.there
  have hH : H e = none := HOk.gone I.hok M.new
  exact ⟨.ref e, _, I.laidN M.keeps M.new hH (exO_ok he ⟨rfl, rfl⟩ rfl rfl rfl (show 4 < 6 by decide)), rfl, q e hH⟩
theorem pe_mkX {C : Addr} {x : Str} {e : Expr} {es : List Expr} {t : TA} {p pos : Pos} (hg : Gl X x) (hm : X.mg x = some (.ref C)) (h : XC X.K C) (ha : PA X (e :: es) t)
    (hd : (x == ("__debug__" : Str)) = false := by decide)
    (hs : starEach (e :: es) X.env = (false, eval e X.env) :: starEach es X.env := by rfl)
    (hs2 : ((PySem.backTo pos (starEach es X.env)).any fun x => x.fst) = false := by rfl) :
    PE X (.Call (.Name x p) (e :: es) [] pos) (tCB (fun xs H Q => xs.length ≤ sizeLine ∧ ∀ a, H a = none → Q (.ref a) (upd H a (ExO (.ref C) a))) t) := by
  refine ⟨fun pins s σ H Q I q => wpAny_Call_NameR ?_⟩
  refine wpAny_mono ((C8.pe_gc (v := .ref C) hg ⟨_, hm, rfl⟩ hd).run pins s σ H (fun v H' => v = .ref C ∧ H' = H) I ⟨rfl, rfl⟩) (fun u s1 r => ?_) (fun _ _ k => k)
  obtain ⟨v, H', I1, rv, rfl, rfl⟩ := r
  cases rv
  refine PySem.W.callWith_K I.ok.mod.kin h.keep ?_ hs hs2
  refine wpAny_mono (ha.run pos pins s1 σ H' _ I1 q) (fun us s2 r2 => ?_) (fun _ _ k => k)
  obtain ⟨vs, H2, I2, rvs, q2⟩ := r2
  exact ⟨Inv_kin I2, call_mkX h pins s2 σ H2 vs us Q I2 rvs q2⟩
theorem pe_mkX0 {C : Addr} {x : Str} {p pos : Pos} (hg : Gl X x) (hm : X.mg x = some (.ref C)) (h : XC X.K C)
    (hd : (x == ("__debug__" : Str)) = false := by decide) :
    PE X (.Call (.Name x p) [] [] pos) (fun _ H Q => ∀ a, H a = none → Q (.ref a) (upd H a (ExO (.ref C) a))) := by
  refine ⟨fun pins s σ H Q I q => wpAny_Call_NameR ?_⟩
  refine wpAny_mono ((C8.pe_gc (v := .ref C) hg ⟨_, hm, rfl⟩ hd).run pins s σ H (fun v H' => v = .ref C ∧ H' = H) I ⟨rfl, rfl⟩) (fun u s1 r => ?_) (fun _ _ k => k)
  obtain ⟨v, H', I1, rv, rfl, rfl⟩ := r
  cases rv
  refine PySem.W.callWith_K0 (Inv_kin I1) h.keep ?_
  exact call_mkX h pins s1 σ H' [] [] Q I1 .nil ⟨Nat.zero_le _, q⟩
/-- an own exception with class D stands at a -/
inductive IsX (H : Hp) (a D : Addr) : Prop where
  | plain : H a = some (ExO (.ref D) a) → IsX H a D
theorem call_isX : CallR X (.builtin "isinstance") (fun xs H Q => ∃ (a D : Addr) (c : V) (u : Value) (b : Bool), xs = [.ref a, c] ∧ ClsV c u ∧ ExcC X.K D ∧ H a = some (ExO (.ref D) a) ∧ PySem.W.kitOne X.K (.ref D) u = some b ∧ Q (.bl b) H) := by
  intro pins s σ H xs us Q I r hq
  obtain ⟨a, D, c, u, b, rfl, hc, hD, hH, hk, q⟩ := hq
  match us, r with
  | [v, w], .cons rv (.cons rw .nil) =>
    cases rv
    have e := hc.eq rw
    subst e
    have ok := I.hok a _ hH
    obtain ⟨⟨oe, vs, ha, hz, hd, -, -, -⟩, -⟩ := ok
    refine PySem.W.kia_one (PySem.W.handS_kitx_exc (ox := oe) hD.hg hD.hk hD.hs hD.hd hD.ha hD.hn hD.ht hD.hm) (Inv_kin I) (?_ : PySem.W.InstAt s.heap a oe D none) hk (by simp) (fun tk => ⟨.bl b, H, I.tok tk, rfl, q⟩)
    exact ⟨ha, hz.1, by unfold PySem.W.notCls; rw [hd], by rw [hz.2]; trivial⟩
end
end My

set_option linter.all false
namespace My
open PySem PySem.Spec PyProof.Rows L2
open C8 (Cal pe_c pe_gc)
/-! ### own exceptions as values -/
/-! ### a caught exception that is looked at behind the suite -/
def ExZ (cls : Value) (d : Option Addr) (a : Addr) : HO := .ext fun h => ∃ oe vs, h.get? a = some oe ∧ Zc cls d oe ∧ oe.data = .fields vs
def kpD (i : Nat) (cls : Value) (d : Option Addr) (a : Addr) (D : Ends) : Ends :=
  { nx := fun σ H => D.nx (List.set σ i none) (upd H a (ExZ cls d a)), rt := fun v H => D.rt v (upd H a (ExZ cls d a)), bk := fun σ H => D.bk (List.set σ i none) (upd H a (ExZ cls d a)), ct := fun σ H => D.ct (List.set σ i none) (upd H a (ExZ cls d a)) }
def wKeep (K : PySem.W.Frag) (c : Value) (i : Nat) (ts : TS) (Wout : WX) (D : Ends) : WX := fun cls d σ H =>
  ∃ b, PySem.W.exmOne K cls c = some b ∧ (b = true → ∀ a, H a = none → ts (kpD i cls d a D) (List.set σ i (some (.ref a))) H) ∧ (b = false → Wout cls d σ H)
section
variable {X : Cx}
theorem Inv_track {pins : List (Addr × Obj)} {σ : L2.St} {H : Hp} {s : Shared} (I : L2.Inv X pins σ H s) {a : Addr} {oe : Obj} {vs : Array Value} {φ : Heap → Prop}
    (hg : s.heap.get? a = some oe) (hd : oe.data = .fields vs) (hH : H a = none) (h0 : X.s_0.heap.get? a = none) (hp : ∀ p ∈ X.pn ++ pins, p.1 ≠ a) (hl : X.env.locals ≠ a)
    (ok : ObjOk X.prog X.w (upd H a (.ext φ)) s.heap a (.ext φ)) : L2.Inv X pins σ (upd H a (.ext φ)) s := by
  have ne : ∀ {b : Addr}, b ≠ a → upd H a (.ext φ) b = H b := fun h => upd_ne h
  refine ⟨I.ok, I.os, I.bare, ?_, I.loc, I.cell, ?_, ?_, ?_, ?_, I.len⟩
  · refine ⟨I.base.keep, I.base.slot, fun b o e hb hx => ?_, I.base.there, fun b xs e => ?_, fun b o u e => ?_, fun b ps e => ?_⟩
    · rw [ne (fun z => by rw [z, h0] at e; cases e)]; exact I.base.free b o e hb hx
    · have k := I.base.tups b xs e
      rw [ne (fun z => by rw [z, hH] at k; cases k)]; exact k
    · have k := I.base.frzs b o u e
      rw [ne (fun z => by rw [z, hH] at k; cases k)]; exact k
    · obtain ⟨more, k⟩ := I.base.tbls b ps e
      exact ⟨more, by rw [ne (fun z => by rw [z, hH] at k; cases k)]; exact k⟩
  · rw [ne hl]; exact I.free
  · intro x c e
    obtain ⟨v, o, ho, hc⟩ := I.cell x c e
    rw [ne (fun z => by rw [z, hg] at ho; cases ho; rw [hd] at hc; cases hc)]; exact I.freeC x c e
  · intro p hm
    obtain ⟨k1, k2, k3⟩ := I.pin p hm
    exact ⟨k1, by rw [ne (hp p hm)]; exact k2, k3⟩
  · exact HOk.laidN I.hok (fun _ _ e => e) hH ok
theorem ps_try_keep {x n : Str} {c : Value} {i : Nat} {body suite : List Stmt} {b₀ : Stmt} {np pos pos' : Pos} {tb : WX → TS} {ts : TS} {Wout : WX}
    (hs : X.stack = X.env :: X.outer) (hf : X.env.frame = some X.env.locals) (hex : X.ex = []) (hN : X.N.Nodup) (hi : X.N[i]? = some n) (hln : X.env.kindOf n = some .local)
    (hln2 : L2.Loc X.env.scope n) (hln3 : X.fn n = true ∨ List.lookup n X.env.scope.names = some .local)
    (hc : Names X x c) (tk : Takes X Wout)
    (hb : ∀ (W : WX) (pn : List (Addr × Obj)) (xe : Value → Shared → Prop), Takes (X.tr pn xe) W → PassesOwn (model X.prog X.w) X.A X.env xe → PSs (X.tr pn xe) body (tb W))
    (hsu : ∀ (a : Addr) (oe : Obj) (pn : List (Addr × Obj)), PSs (X.suite a ((a, oe) :: pn)) (b₀ :: suite) ts) :
    PS X (.Try body [.ExceptHandler (some (.Name x np)) (some n) (b₀ :: suite) pos'] [] [] pos) (fun D σ H => tb (wKeep X.K c i ts Wout D) D σ H) := by
  refine ⟨fun pins s σ H D I h => wpAny_Try_except ?_⟩
  refine wpAny_mono ((hb (wKeep X.K c i ts Wout D) (X.pn ++ pins)
    (fun e s₁ => wpAny (model X.prog X.w) X.A (noteFrame e X.env) (fun _ s₂ => wpAny (model X.prog X.w) X.A (setFlight e none)
      (fun _ s₃ => wpAny (model X.prog X.w) X.A (handleBy e X.env [.ExceptHandler (some (.Name x np)) (some n) (b₀ :: suite) pos']) (SP X pins D) X.xe s₃) X.xe s₂) X.xe s₁) ?tk PassesOwn.looking).run [] s σ H D (I.toTry _) h) ?q (fun _ _ k => k)
  case q =>
    intro f s1 r
    match f, r with
    | .next, ⟨σ', H', I', q⟩ => exact wpAny_execs_nil ⟨σ', H', I'.ofTry I.ok, q⟩
    | .brk, ⟨σ', H', I', q⟩ => exact ⟨σ', H', I'.ofTry I.ok, q⟩
    | .cont, ⟨σ', H', I', q⟩ => exact ⟨σ', H', I'.ofTry I.ok, q⟩
    | .ret u, ⟨v, σ', H', I', rv, q⟩ => exact ⟨v, σ', H', I'.ofTry I.ok, rv, q⟩
  case tk =>
    rintro u s1 ⟨a, B, sI, pins', σ1, H1, cls, d, rfl, I1, hB, up, sky, hHa, os, bare, W⟩
    have I2 : L2.Inv X pins σ1 H1 sI := I1.ofTry I.ok
    have sky' : Sky B (X.env :: X.outer) a (Zc cls d) X.env.locals s1.heap := hs ▸ sky
    refine Sky.land Zc.steady (by rw [← hs]; exact I.ok.frames) hf sky' (fun h' fl up2 => ?_)
    have I3 : L2.Inv X pins σ1 H1 { heap := h', gens := s1.gens, drawn := s1.drawn, toks := s1.toks, os := s1.os } := I2.landed hB fl.1 (up.trans up2) os bare
    obtain ⟨oe, vs, hoe, hz, hd⟩ := fl.there
    have hne : ∀ b, b ∈ frs (X.env :: X.outer) → b ≠ a := by
      intro b hb e
      obtain ⟨-, o, ho, hn⟩ := Heap.FunFrames.mem fl.2.2.1 hb
      rw [e, hoe] at ho
      cases ho
      exact hn _ hd
    have hloc : X.env.locals ∈ frs (X.env :: X.outer) := List.mem_filterMap.mpr ⟨X.env, List.mem_cons_self, hf⟩
    have hout : ∀ b, b ∈ X.fs → b ∈ frs (X.env :: X.outer) := by
      intro b hb
      obtain ⟨e, he, hb'⟩ := List.mem_filterMap.mp hb
      exact List.mem_filterMap.mpr ⟨e, List.mem_cons_of_mem _ he, hb'⟩
    have hI : sI.heap.get? a = none := by
      cases e : sI.heap.get? a with
      | none => rfl
      | some o =>
        have k := hB a o e (fun z => hne a (by have z' := z; rw [show (X.tr (X.pn ++ pins) _).stack = X.stack from rfl, hs] at z'; exact z') rfl)
        rw [fl.2.1] at k
        cases k
    have h0 : X.s_0.heap.get? a = none := by
      cases e : X.s_0.heap.get? a with
      | none => rfl
      | some o =>
        obtain ⟨o', k⟩ := I2.base.there a o e (by rw [hex]; exact List.not_mem_nil)
        rw [hI] at k
        cases k
    have hpn : ∀ p ∈ X.pn ++ pins, p.1 ≠ a := by
      intro p hp e
      have k := (I2.pin p hp).1
      rw [e, hI] at k
      cases k
    have IS : L2.Inv (X.suite a ((a, oe) :: (X.pn ++ pins))) [] σ1 H1 { heap := h', gens := s1.gens, drawn := s1.drawn, toks := s1.toks, os := s1.os } :=
      I3.suite hoe hd hHa (hne _ hloc).symm (fun z => hne _ (hout _ z) rfl)
    obtain ⟨b, hb1, ht, hfl⟩ := W
    have lk : PySem.W.Looks (model X.prog X.w) h' (typeOf (.ref a)) cls := fun A Q E s keep q => wpAny_typeOf_ref (keep _ _ hoe) (hz.1 ▸ q)
    have ev : ∀ (Q : Value → Shared → Prop) (E : Value → Shared → Prop), Q c { heap := h', gens := s1.gens, drawn := s1.drawn, toks := s1.toks, os := s1.os } →
        wpAny (model X.prog X.w) (X.A.mark (some (.ref a))) (eval (.Name x np) X.env) Q E { heap := h', gens := s1.gens, drawn := s1.drawn, toks := s1.toks, os := s1.os } := by
      intro Q E q
      obtain ⟨hg, hdb, hm | ⟨hm, hbt, hnn⟩⟩ := hc
      · exact ld_glob (X := X.suite a ((a, oe) :: (X.pn ++ pins))) IS hg hm q hdb
      · exact ld_blt (X := X.suite a ((a, oe) :: (X.pn ++ pins))) IS hg hm hbt q hnn hdb
    refine wpAny_handleBy_cons (codeAny_handlers_test (ev _ _ (PySem.W.Looks.here (PySem.W.exm_one I3.kIn lk hb1) ?_))) (by intro z; cases z)
    cases b with
    | false =>
      refine wpAny_handleBy_nil ?_
      obtain ⟨oe', vs', T, oT, ts', h1, z1, d1, v1, -⟩ := fl.2.2.2
      unfold PySem.passOn
      refine wpAny_bind (wpAny_field h1 d1 v1 ?_)
      rw [if_neg (show ¬ ((Value.ref T == Value.none) = true) by simp), hf]
      refine wpAny_bind (HandSPX.setFlight_upZ fl (fun h2 held up3 => wpAny_throw (tk _ _ ?_)))
      exact ⟨a, B, sI, pins, σ1, H1, cls, d, rfl, I2, hB, up.trans (up2.trans up3), hs ▸ Or.inr (Or.inr held), hHa, os, bare, hfl rfl⟩
    | true =>
      refine codeAny_handlers_suite_as (HandSPX.lands_againZ fl (fun h2 fl2 up3 => ?_))
      have I4 : L2.Inv X pins σ1 H1 { heap := h2, gens := s1.gens, drawn := s1.drawn, toks := s1.toks, os := s1.os } := I2.landed hB fl2.1 (up.trans (up2.trans up3)) os bare
      obtain ⟨oe2, vs2, hoe2, hz2, hd2⟩ := fl2.there
      have IS2 : L2.Inv (X.suite a ((a, oe2) :: (X.pn ++ pins))) [] σ1 H1 { heap := h2, gens := s1.gens, drawn := s1.drawn, toks := s1.toks, os := s1.os } :=
        I4.suite hoe2 hd2 hHa (hne _ hloc).symm (fun z => hne _ (hout _ z) rfl)
      refine store_ok (X := X.suite a ((a, oe2) :: (X.pn ++ pins))) (v := .ref a) IS2 hN hi hln2 rfl (fun s5 I5 => ?_) hln3
      refine wpAny_mono ((hsu a oe2 (X.pn ++ pins)).run [] s5 (List.set σ1 i (some (.ref a))) H1 (kpD i cls d a D) I5 (ht rfl a hHa)) (fun f s6 r => ?_) (fun _ _ k => k.elim)
      have gone : ∀ {σ' : L2.St} {H' : Hp} {P : Unit → Shared → Prop} {E : Value → Shared → Prop}, L2.Inv (X.suite a ((a, oe2) :: (X.pn ++ pins))) [] σ' H' s6 →
          (∀ s7, L2.Inv X pins (List.set σ' i none) (upd H' a (ExZ cls d a)) s7 → P () s7) → wpAny (model X.prog X.w) X.A (do bindName X.env n Value.none; unbindBehindTheSuite X.env n pos') P E s6 := by
        intro σ' H' P E I6 k
        refine gone_ok (X := X.suite a ((a, oe2) :: (X.pn ++ pins))) I6 hN hi hln (fun s7 I7 => k s7 ?_)
        obtain ⟨g7, n7, -⟩ := I7.pin (a, oe2) (by simp)
        exact Inv_track (I7.unsuite I.ok) g7 hd2 n7 h0 hpn (hne _ hloc) ⟨⟨oe2, vs2, g7, hz2, hd2⟩, ⟨oe2, g7⟩, fun h1 h2 q k => by
          obtain ⟨o, v, q1, q2⟩ := q
          exact ⟨o, v, k _ q1, q2⟩⟩
      match f, r with
      | .next, ⟨σ', H', I', q⟩ => exact gone I' (fun s7 I7 => ⟨_, _, I7, q⟩)
      | .brk, ⟨σ', H', I', q⟩ => exact gone I' (fun s7 I7 => ⟨_, _, I7, q⟩)
      | .cont, ⟨σ', H', I', q⟩ => exact gone I' (fun s7 I7 => ⟨_, _, I7, q⟩)
      | .ret u, ⟨v, σ', H', I', rv, q⟩ => exact gone I' (fun s7 I7 => ⟨v, _, _, I7, rv, q⟩)
end
end My

set_option linter.all false
namespace My
open PySem PySem.Spec PyProof.Rows L2
open C8 (Cal pe_c pe_gc)
/-! ### own exceptions as values -/
/-! ### defs that may raise -/
structure CalX (P : Program) (w : World) (K : PySem.W.Frag) (mg : Str → Option Value) (base : Heap) (k : Nat) (x : Str) (sp : Sp) : Prop where
  ex : ∃ f fd ps, FnOk P w K mg base (L2.CX P w) k f fd ps sp ∧ mg x = some (.ref f) ∧ PySem.W.keepIn K (.ref f) = true ∧ L2.Binds K fd ps []
theorem mkCalX {P : Program} {w : World} {K : PySem.W.Frag} {mg : Str → Option Value} {base : Heap} {x : Str} {st : Stmt} {f : Addr} {fd : FuncData} {N ps : List Str} {k : Nat} {sp : Sp}
    (F : Fun K x x st f fd) (hm : mg x = some (.ref f)) (hk : PySem.W.keepIn K (.ref f) = true) (hb : L2.Binds K fd ps []) (S : FnScope N ps (defScope st))
    (len : ∀ (vs : List V) (H : Hp) (Q : VK) (E : XK), sp vs H Q E → vs.length = ps.length)
    (body : ∀ (cdv : Value) (A : Around) (outer : List Env) (s : Shared) (H : Hp) (vs : List V) (Q : VK) (E : XK),
      Room k (A.deeper (PyProof.Rows.envOfC x (defScope st) s.heap.objs.size f cdv)) → sp vs H Q E →
      Takes (cxOf (L2.CX P w) P w K mg base N x (defScope st) f cdv A outer s H E) (fun cls d _ H => E cls d H) →
      ∃ t, PSs (cxOf (L2.CX P w) P w K mg base N x (defScope st) f cdv A outer s H E) (defBody st) t ∧ t { nx := fun _ H' => Q .non H', rt := Q } (L2.start N vs) H) :
    CalX P w K mg base (k + 1) x sp :=
  ⟨f, fd, ps, F.okX S len (fun cdv A outer s H vs Q E hr h => body cdv A outer s H vs Q E hr h (takes_of rfl rfl rfl rfl)), hm, hk, hb⟩
section
variable {X : Cx}
theorem pe_cx {k j : Nat} {x : Str} {sp : Sp} {p pos : Pos} {e : Expr} {es : List Expr} {t : TA} {W : WX} (h : CalX X.prog X.w X.K X.mg X.base k x sp) (tk : Takes X W) (hr : Room j X.A) (le : k ≤ j) (hg : Gl X x)
    (ha : PA X (e :: es) t) (hd : (x == ("__debug__" : Str)) = false := by decide)
    (hs : starEach (e :: es) X.env = (false, eval e X.env) :: starEach es X.env := by rfl)
    (hs2 : ((PySem.backTo pos (starEach es X.env)).any fun x => x.fst) = false := by rfl) :
    PE X (.Call (.Name x p) (e :: es) [] pos) (tCallS sp (fun σ => WE W σ) t) := by
  obtain ⟨f, fd, ps, F, hm, hk, hb⟩ := h
  exact pe_callS F (hr.mono le) hg hm hk hb (fun σ => passAt tk σ) ha hd hs hs2
/-- an own exception with class D stands at a: what isinstance asks -/
theorem kitZ {pins : List (Addr × Obj)} {σ : L2.St} {H : Hp} {s : Shared} (I : L2.Inv X pins σ H s) {a D : Addr} (hD : ExcC X.K D) (hH : H a = some (ExZ (.ref D) none a)) :
    ∃ ox, PySem.W.KitX X.K (.ref a) (.ref D) (fun h => PySem.W.InstAt h a ox D none) ∧ PySem.W.InstAt s.heap a ox D none := by
  obtain ⟨⟨oe, vs, ha, hz, hd⟩, -⟩ := I.hok a _ hH
  exact ⟨oe, PySem.W.handS_kitx_exc hD.hg hD.hk hD.hs hD.hd hD.ha hD.hn hD.ht hD.hm, ha, hz.1, by unfold PySem.W.notCls; rw [hd], by rw [hz.2]; trivial⟩
theorem call_isZ : CallR X (.builtin "isinstance") (fun xs H Q => ∃ (a D : Addr) (c : V) (u : Value) (b : Bool), xs = [.ref a, c] ∧ ClsV c u ∧ ExcC X.K D ∧ H a = some (ExZ (.ref D) none a) ∧ PySem.W.kitOne X.K (.ref D) u = some b ∧ Q (.bl b) H) := by
  intro pins s σ H xs us Q I r hq
  obtain ⟨a, D, c, u, b, rfl, hc, hD, hH, hk, q⟩ := hq
  match us, r with
  | [v, w], .cons rv (.cons rw .nil) =>
    cases rv
    have e := hc.eq rw
    subst e
    obtain ⟨ox, k1, k2⟩ := kitZ I hD hH
    exact PySem.W.kia_one k1 (Inv_kin I) k2 hk (by simp) (fun tk => ⟨.bl b, H, I.tok tk, rfl, q⟩)
theorem call_isZT : CallR X (.builtin "isinstance") (fun xs H Q => ∃ (a D tp : Addr) (cs : List V) (us : List Value) (b : Bool), xs = [.ref a, .ref tp] ∧ H tp = some (.tup cs) ∧ Paired ClsV cs us ∧ ExcC X.K D ∧ H a = some (ExZ (.ref D) none a) ∧ PySem.W.kitAny X.K (.ref D) us = some b ∧ Q (.bl b) H) := by
  intro pins s σ H xs us Q I r hq
  obtain ⟨a, D, tp, cs, ws, b, rfl, htp, hcs, hD, hH, hk, q⟩ := hq
  match us, r with
  | [v, w], .cons rv (.cons rw .nil) =>
    cases rv
    cases rw
    obtain ⟨ox, k1, k2⟩ := kitZ I hD hH
    obtain ⟨-, its, hv, o, ho, hcl, n, hdt⟩ := I.hok tp _ htp
    have e := ClsV.all hcs hv
    subst e
    obtain ⟨cl, dd, dt, sl⟩ := o
    cases hcl
    cases hdt
    exact PySem.W.kia_tup k1 (Inv_kin I) k2 ho hk (by simp) (fun tk => ⟨.bl b, H, I.tok tk, rfl, q⟩)
end
end My

set_option linter.all false
set_option maxRecDepth 100000
namespace My
open PySem PySem.Spec PyProof.Rows L2
open C8 (pe_gc)
/-! ### plain values and what a text does with them, apart from the machine -/
inductive U where
  | non | bl (b : Bool) | int (i : Int) | str (x : Str) | ty (n : String) | cls (c : String) | exc (c : String)
  | lst (us : List U) | tup (us : List U) | dct (kvs : List (U × U))
structure Sst where
  cells : List Int
  turn : Int
inductive R (α : Type) where
  | ok (a : α) (s : Sst) | err (c : String) (s : Sst) | stuck
def R.bind {α β : Type} (r : R α) (k : α → Sst → R β) : R β := match r with
  | .ok a s => k a s
  | .err c s => .err c s
  | .stuck => .stuck
inductive R0 where
  | ok (u : U) | err (c : String) | stuck
abbrev Rho := List (Option U)
abbrev EF := Rho → Sst → R U
abbrev TF := Rho → Sst → R Bool
abbrev AF := Rho → Sst → R (List U)
def opt {α : Type} (o : Option α) (s : Sst) : R α := match o with
  | some u => .ok u s
  | none => .stuck
def R0.lift (r : R0) (s : Sst) : R U := match r with
  | .ok u => .ok u s
  | .err c => .err c s
  | .stuck => .stuck
def eC (u : U) : EF := fun _ s => .ok u s
def eV (i : Nat) : EF := fun ρ s => match ρ[i]? with
  | some (some u) => .ok u s
  | _ => .stuck
def e1 (f : U → Option U) (a : EF) : EF := fun ρ s => (a ρ s).bind fun x s => opt (f x) s
def e2 (f : U → U → Option U) (a b : EF) : EF := fun ρ s => (a ρ s).bind fun x s => (b ρ s).bind fun y s => opt (f x y) s
def eN (f : List U → Option U) (as : AF) : EF := fun ρ s => (as ρ s).bind fun xs s => opt (f xs) s
def aNil : AF := fun _ s => .ok [] s
def aCons (a : EF) (as : AF) : AF := fun ρ s => (a ρ s).bind fun x s => (as ρ s).bind fun xs s => .ok (x :: xs) s
def eCall (n : Nat) (F : List U → R0) (as : AF) : EF := fun ρ s => (as ρ s).bind fun xs s => if xs.length = n then (F xs).lift s else .stuck
def eCallS (n : Nat) (F : Sst → List U → R U) (as : AF) : EF := fun ρ s => (as ρ s).bind fun xs s => if xs.length = n then F s xs else .stuck
/-- tests -/
def toB : U → Option Bool
  | .bl b => some b
  | _ => none
def tV (a : EF) : TF := fun ρ s => (a ρ s).bind fun x s => opt (toB x) s
def tN (a : TF) : TF := fun ρ s => (a ρ s).bind fun x s => .ok (!x) s
def tA (a b : TF) : TF := fun ρ s => (a ρ s).bind fun x s => if x = true then b ρ s else .ok false s
def tO (a b : TF) : TF := fun ρ s => (a ρ s).bind fun x s => if x = true then .ok true s else b ρ s
def eNot (a : EF) : EF := fun ρ s => (a ρ s).bind fun x s => opt ((toB x).map fun b => .bl (!b)) s
def eAnd (a b : EF) : EF := fun ρ s => (a ρ s).bind fun x s => (opt (toB x) s).bind fun c s => if c = true then b ρ s else .ok (.bl false) s
def eOr (a b : EF) : EF := fun ρ s => (a ρ s).bind fun x s => (opt (toB x) s).bind fun c s => if c = true then .ok (.bl true) s else b ρ s
def eIf (c : TF) (a b : EF) : EF := fun ρ s => (c ρ s).bind fun x s => if x = true then a ρ s else b ρ s
/-- a op b op' c -/
def eChain (f f' : U → U → Option U) (a b c : EF) : EF := fun ρ s => (a ρ s).bind fun x s => (b ρ s).bind fun y s => (opt (f x y) s).bind fun z s => (opt (toB z) s).bind fun k s =>
  if k = true then (c ρ s).bind fun w s => opt (f' y w) s else .ok (.bl false) s
/-! operations -/
def lineB (n : Nat) : Bool := decide (n ≤ 16777216)
def smB (i : Int) : Bool := decide (i.natAbs < 2 ^ 20000)
def bdB (i : Int) : Bool := decide (i.natAbs < 2 ^ 9000)
def pAdd : U → U → Option U
  | .int i, .int j => some (.int (i + j))
  | .lst a, .lst b => if lineB (a.length + b.length) then some (.lst (a ++ b)) else none
  | .tup a, .tup b => if lineB (a.length + b.length) then some (.tup (a ++ b)) else none
  | .str a, .str b => if lineB (a.length + b.length) then some (.str (a ++ b)) else none
  | _, _ => none
def pAdd' : U → U → Option U
  | .int i, .int j => some (.int (i + j))
  | _, _ => none
def pSub : U → U → Option U
  | .int i, .int j => some (.int (i - j))
  | _, _ => none
def pMul : U → U → Option U
  | .int i, .int j => if smB i && smB j then some (.int (i * j)) else none
  | .tup a, .int k => if decide (2 ≤ k ∧ k ≤ 1000 ∧ a ≠ [] ∧ a.length ≤ 1000) then some (.tup (List.replicate k.toNat a).flatten) else none
  | .lst a, .int k => if decide (0 ≤ k ∧ k ≤ 1000 ∧ a.length ≤ 1000) then some (.lst (List.replicate k.toNat a).flatten) else none
  | _, _ => none
def pDiv : U → U → Option U
  | .int i, .int j => if decide (0 < j) && bdB j then some (.int (i / j)) else none
  | _, _ => none
def pMod : U → U → Option U
  | .int i, .int j => if decide (0 < j) then some (.int (i % j)) else none
  | _, _ => none
def pPow : U → U → Option U
  | .int i, .int j => if decide (0 ≤ j ∧ (i.natAbs.log2 + 1 : Int) * j ≤ 2 ^ 20) then some (.int (i ^ j.toNat)) else none
  | _, _ => none
def pNeg : U → Option U
  | .int i => some (.int (-i))
  | _ => none
def pLt : U → U → Option U
  | .int i, .int j => some (.bl (decide (i < j)))
  | _, _ => none
def pLe : U → U → Option U
  | .int i, .int j => some (.bl (decide (i ≤ j)))
  | _, _ => none
def pGt : U → U → Option U
  | .int i, .int j => some (.bl (decide (j < i)))
  | _, _ => none
def pGe : U → U → Option U
  | .int i, .int j => some (.bl (decide (j ≤ i)))
  | _, _ => none
mutual
/-- plain data, at most so deep -/
def U.flat : Nat → U → Bool
  | _, .non => true
  | _, .bl _ => true
  | _, .int _ => true
  | _, .str x => PyData.strOk x
  | n + 1, .lst us => U.flatAll n us
  | n + 1, .tup us => U.flatAll n us
  | _, _ => false
def U.flatAll : Nat → List U → Bool
  | _, [] => true
  | n, u :: us => U.flat n u && U.flatAll n us
end
mutual
def ueq : U → U → Bool
  | .non, .non => true
  | .bl a, .bl b => a == b
  | .bl a, .int j => (if a then 1 else 0) == j
  | .int i, .bl b => i == (if b then 1 else 0)
  | .int i, .int j => i == j
  | .str x, .str y => x == y
  | .lst xs, .lst ys => ueqAll xs ys
  | .tup xs, .tup ys => ueqAll xs ys
  | _, _ => false
def ueqAll : List U → List U → Bool
  | [], [] => true
  | x :: xs, y :: ys => ueq x y && ueqAll xs ys
  | _, _ => false
end
def deepB (a b : U) : Bool := U.flat 40 a && U.flat 40 b
def pEq (a b : U) : Option U := if deepB a b then some (.bl (ueq a b)) else none
def pNe (a b : U) : Option U := if deepB a b then some (.bl (!ueq a b)) else none
def isNon : U → Bool
  | .non => true
  | _ => false
def pIs (a b : U) : Option U := if isNon b then some (.bl (isNon a)) else none
def pIsNot (a b : U) : Option U := if isNon b then some (.bl (!isNon a)) else none
def pIn (a b : U) : Option U := match b with
  | .lst us => if deepB a b then some (.bl (us.any fun z => ueq z a)) else none
  | _ => none
def pNotIn (a b : U) : Option U := match b with
  | .lst us => if deepB a b then some (.bl (!(us.any fun z => ueq z a))) else none
  | _ => none
/-- the place of index i in n -/
def pIdx : U → U → Option U
  | .lst us, .int i => atI us i
  | .tup us, .int i => atI us i
  | _, _ => none
def cutU (xs : List U) (lo hi : Option Int) : List U := (xs.drop (HT.sIx xs.length 0 lo)).take (HT.sIx xs.length xs.length hi - HT.sIx xs.length 0 lo)
def pSl (lo hi : Option Int) : U → Option U
  | .lst us => some (.lst (cutU us lo hi))
  | .tup us => some (.tup (cutU us lo hi))
  | _ => none
def pTup (us : List U) : Option U := if lineB us.length then some (.tup us) else none
def pLst (us : List U) : Option U := if lineB us.length then some (.lst us) else none
def U.seq? : U → Option (List U)
  | .lst us => some us
  | .tup us => some us
  | _ => none
def pLen : List U → Option U
  | [.lst us] => some (.int us.length)
  | [.tup us] => some (.int us.length)
  | _ => none
def pList : List U → Option U
  | [.lst us] => some (.lst us)
  | [.tup us] => some (.lst us)
  | _ => none
def pTuple : List U → Option U
  | [.lst us] => some (.tup us)
  | [.tup us] => some (.tup us)
  | _ => none
def allInt : List U → Option (List Int)
  | [] => some []
  | .int i :: us => (allInt us).map (i :: ·)
  | _ :: _ => none
def allBl : List U → Option (List Bool)
  | [] => some []
  | .bl i :: us => (allBl us).map (i :: ·)
  | _ :: _ => none
def pSum : List U → Option U
  | [.lst us] => (allInt us).map fun ns => .int ns.sum
  | _ => none
def pAll : List U → Option U
  | [.lst us] => (allBl us).map fun bs => .bl (bs.all id)
  | _ => none
def pAny : List U → Option U
  | [.lst us] => (allBl us).map fun bs => .bl (bs.any id)
  | _ => none
def pInt : List U → Option U
  | [.int i] => some (.int i)
  | [.bl k] => some (.int (if k then 1 else 0))
  | _ => none
def pAbs : List U → Option U
  | [.int i] => some (.int (i.natAbs : Int))
  | _ => none
def pDivmod : List U → Option U
  | [.int i, .int j] => if decide (0 < j) && bdB j then some (.tup [.int (i / j), .int (i % j)]) else none
  | _ => none
def pGcd : List U → Option U
  | [.int i, .int j] => if decide (0 ≤ i ∧ 0 ≤ j) then some (.int ((Nat.gcd i.toNat j.toNat : Nat) : Int)) else none
  | _ => none
def U.tyName : U → Option String
  | .non => some "NoneType"
  | .bl _ => some "bool"
  | .int _ => some "int"
  | .str _ => some "str"
  | .lst _ => some "list"
  | .tup _ => some "tuple"
  | .dct _ => some "dict"
  | _ => none
/-- isinstance(u, T) for the five written classes -/
def pIsi (n : String) (u : U) : Option U := match u.tyName with
  | some t => some (.bl (decide (t = n) || (decide (t = "bool") && decide (n = "int"))))
  | none => none
/-- isinstance with a written class -/
def pIsiB (n : String) : List U → Option U
  | [u, .ty m] => if decide (m = n ∧ n ∈ ["bool", "int", "str", "list", "tuple", "dict"]) then pIsi n u else none
  | _ => none
/-! statements -/
inductive RS where
  | nx (ρ : Rho) (s : Sst) | rt (u : U) (s : Sst) | bk (ρ : Rho) (s : Sst) | ct (ρ : Rho) (s : Sst) | er (c : String) (ρ : Rho) (s : Sst) | stuck
abbrev SF := Rho → Sst → RS
def R.stm {α : Type} (r : R α) (ρ : Rho) (k : α → Sst → RS) : RS := match r with
  | .ok a s => k a s
  | .err c s => .er c ρ s
  | .stuck => .stuck
def sNil : SF := fun ρ s => .nx ρ s
def sSeq (a b : SF) : SF := fun ρ s => match a ρ s with
  | .nx ρ s => b ρ s
  | o => o
/-- a target: what it does with the slots -/
abbrev PF := U → Rho → Option Rho
def gN (i : Nat) : PF := fun u ρ => some (ρ.set i (some u))
def gsNil : List U → Rho → Option Rho
  | [], ρ => some ρ
  | _, _ => none
def gsCons (g : PF) (gs : List U → Rho → Option Rho) : List U → Rho → Option Rho
  | u :: us, ρ => (g u ρ).bind fun ρ => gs us ρ
  | _, _ => none
def gT (gs : List U → Rho → Option Rho) : PF := fun u ρ => match u with
  | .tup us => gs us ρ
  | _ => none
def gL (gs : List U → Rho → Option Rho) : PF := fun u ρ => match u with
  | .lst us => gs us ρ
  | _ => none
def sAsg (g : PF) (a : EF) : SF := fun ρ s => (a ρ s).stm ρ fun x s => match g x ρ with
  | some ρ => .nx ρ s
  | none => .stuck
def sPar (is : List Nat) (as : AF) : SF := fun ρ s => (as ρ s).stm ρ fun xs s => if xs.length = is.length then .nx ((is.zip xs).foldl (fun ρ p => ρ.set p.1 (some p.2)) ρ) s else .stuck
def sDrop (a : EF) : SF := fun ρ s => (a ρ s).stm ρ fun _ s => .nx ρ s
def sRet (a : EF) : SF := fun ρ s => (a ρ s).stm ρ fun x s => .rt x s
def sRetN : SF := fun _ s => .rt .non s
def sBrk : SF := fun ρ s => .bk ρ s
def sCnt : SF := fun ρ s => .ct ρ s
def sIf (c : TF) (a b : SF) : SF := fun ρ s => (c ρ s).stm ρ fun x s => if x = true then a ρ s else b ρ s
/-- raise C(message) -/
def sRaise (c : String) (a : EF) : SF := fun ρ s => (a ρ s).stm ρ fun _ s => .er c ρ s
def loopF (g : PF) (b : SF) : List U → Rho → Sst → RS
  | [], ρ, s => .nx ρ s
  | u :: us, ρ, s => match g u ρ with
    | none => .stuck
    | some ρ => match b ρ s with
      | .nx ρ s => loopF g b us ρ s
      | .ct ρ s => loopF g b us ρ s
      | .bk ρ s => .nx ρ s
      | o => o
def sFor (i : AF) (g : PF) (b : SF) : SF := fun ρ s => (i ρ s).stm ρ fun us s => loopF g b us ρ s
def loopW (c : TF) (b : SF) : Nat → Rho → Sst → RS
  | 0, _, _ => .stuck
  | n + 1, ρ, s => (c ρ s).stm ρ fun x s => if x = true then (match b ρ s with
      | .nx ρ s => loopW c b n ρ s
      | .ct ρ s => loopW c b n ρ s
      | .bk ρ s => .nx ρ s
      | o => o) else .nx ρ s
def sWhile (n : Nat) (c : TF) (b : SF) : SF := loopW c b n
/-- x.append(e), x.pop(), x[i] = e for a list of the def's own in slot i -/
def sApp (i : Nat) (a : EF) : SF := fun ρ s => match ρ[i]? with
  | some (some (.lst us)) => (a ρ s).stm ρ fun x s => if lineB (us.length + 1) then .nx (ρ.set i (some (.lst (us ++ [x])))) s else .stuck
  | _ => .stuck
def sPop (g : PF) (i : Nat) : SF := fun ρ s => match ρ[i]? with
  | some (some (.lst us)) => match us.getLast? with
    | some u => match g u (ρ.set i (some (.lst us.dropLast))) with
      | some ρ => .nx ρ s
      | none => .stuck
    | none => .stuck
  | _ => .stuck
def sPut (i : Nat) (k a : EF) : SF := fun ρ s => (a ρ s).stm ρ fun x s => match ρ[i]? with
  | some (some (.lst us)) => (k ρ s).stm ρ fun j s => match j with
    | .int j => match ixN us.length j with
      | some j => .nx (ρ.set i (some (.lst (us.set j x)))) s
      | none => .stuck
    | _ => .stuck
  | _ => .stuck
/-- try: body except C as e: x = e -/
def sTry (kls : List String) (d : String) (e x : Nat) (b : SF) : SF := fun ρ s => match b ρ s with
  | .er c ρ s => if kls.contains c then (if (decide (c = d) || decide (d = "MarkError")) = true then (if e < ρ.length then .nx (((ρ.set e none).set x (some (.exc c))).set e none) s else .stuck) else .er c ρ s) else .stuck
  | o => o
/-- a walked list: its items -/
def iSeq (a : EF) : AF := fun ρ s => (a ρ s).bind fun x s => opt x.seq? s
def rngU (lo : Int) (n : Nat) (c : Int) : List U := (List.range n).map fun k : Nat => .int (lo + k * c)
def rngOk (i : Int) : Bool := decide (-(2 ^ 62) ≤ i ∧ i < 2 ^ 62)
def pRng1 : List U → Option (List U)
  | [.int j] => if rngOk j then some (rngU 0 j.toNat 1) else none
  | _ => none
def pRng2 : List U → Option (List U)
  | [.int i, .int j] => if rngOk i && rngOk j then some (rngU i (j - i).toNat 1) else none
  | _ => none
/-- range(i, j, -1) -/
def pRng3 : List U → Option (List U)
  | [.int i, .int j, .int (-1)] => if rngOk i && rngOk j then some (rngU i (i - j).toNat (-1)) else none
  | _ => none
def iRng (p : List U → Option (List U)) (as : AF) : AF := fun ρ s => (as ρ s).bind fun xs s => opt (p xs) s
/-- a comprehension -/
def lcF (g : PF) (c : TF) (a : EF) : List U → Rho → Sst → List U → R (List U)
  | [], _, s, acc => .ok acc s
  | u :: us, ρ, s, acc => match g u ρ with
    | none => .stuck
    | some ρ1 => (c ρ1 s).bind fun x s => if x = true then (a ρ1 s).bind fun y s => if lineB (acc.length + 1) then lcF g c a us ρ s (acc ++ [y]) else .stuck else lcF g c a us ρ s acc
def tY : TF := fun _ s => .ok true s
def wipeR (ρ : Rho) : List Nat → Rho
  | [] => ρ
  | v :: vs => (wipeR ρ vs).set v none
def R.noerr {α : Type} (r : R α) : R α := match r with
  | .err _ _ => .stuck
  | o => o
def eLc (vs : List Nat) (i : AF) (g : PF) (c : TF) (a : EF) : EF := fun ρ s => (i ρ s).bind fun us s => ((lcF g c a us (wipeR ρ vs) s []).noerr).bind fun xs s => .ok (.lst xs) s
/-! a def -/
def dSst : Sst := ⟨[], 0⟩
def startR (us : List U) (m : Nat) : Rho := us.map some ++ List.replicate m none
/-- a def with n parameters and m further slots -/
def runF (b : SF) (n m : Nat) (us : List U) : R0 := if us.length = n then (match b (startR us m) dSst with
  | .nx _ _ => .ok .non
  | .rt u _ => .ok u
  | .er c _ _ => .err c
  | _ => .stuck) else .stuck
def runS (b : SF) (n m : Nat) (s : Sst) (us : List U) : R U := if us.length = n then (match b (none :: startR us m) s with
  | .nx _ s => .ok .non s
  | .rt u s => .ok u s
  | .er c _ s => .err c s
  | _ => .stuck) else .stuck
/-- the truth of a value -/
def truU : U → Option Bool
  | .non => some false
  | .bl b => some b
  | .int i => some (i != 0)
  | .lst us => some (!us.isEmpty)
  | .tup us => some (!us.isEmpty)
  | .dct us => some (!us.isEmpty)
  | _ => none
def tT (a : EF) : TF := fun ρ s => (a ρ s).bind fun x s => opt (truU x) s
abbrev OF := Rho → Sst → R (Option Int)
def oNo : OF := fun _ s => .ok none s
def toI : U → Option (Option Int)
  | .int i => some (some i)
  | _ => none
def oSo (a : EF) : OF := fun ρ s => (a ρ s).bind fun x s => opt (toI x) s
def eSl (a : EF) (l h : OF) : EF := fun ρ s => (a ρ s).bind fun x s => (l ρ s).bind fun i s => (h ρ s).bind fun j s => opt (pSl i j x) s
def pCat : U → U → Option U
  | .lst a, .lst b => if lineB (a.length + b.length) then some (.lst (a ++ b)) else none
  | _, _ => none
/-- reversed(list) -/
def iRev (a : EF) : AF := fun ρ s => (a ρ s).bind fun x s => match x with
  | .lst us => .ok us.reverse s
  | _ => .stuck
/-! messages -/
def eFmt (a : EF) : EF := fun ρ s => (a ρ s).bind fun x s => match x with
  | .str y => if lineB y.length then .ok (.str y) s else .stuck
  | .int i => if decide (i.natAbs.log2 < 1920) then .ok (.str (toString i)) s else .stuck
  | _ => .stuck
def joinL : List EF → Str → EF
  | [], acc => fun _ s => .ok (.str acc) s
  | f :: fs, acc => fun ρ s => (f ρ s).bind fun x s => match x with
    | .str y => if lineB (acc ++ y).length then joinL fs (acc ++ y) ρ s else .stuck
    | _ => .stuck
/-! errors as values -/
def isSub (c d : String) : Bool := decide (c = d) || decide (d = "MarkError")
/-- isinstance, kls the package's errors that the text names -/
def pInst (kls : List String) : List U → Option U
  | [.exc c, .cls d] => if kls.contains c && kls.contains d then some (.bl (isSub c d)) else none
  | [.non, .cls d] => if kls.contains d then some (.bl false) else none
  | [.exc c, .ty n] => if kls.contains c && decide (n = "ValueError") then some (.bl true) else none
  | [u, .ty n] => pIsiB n [u, .ty n]
  | _ => none
/-! ### a drawn number -/
def drawC (s : Sst) (n : Int) : Prop := 0 < n ∧ n.natAbs < 2 ^ 4000 ∧ 0 < s.cells.length ∧ 0 ≤ s.turn ∧ s.turn < 1152921504606846976
instance (s : Sst) (n : Int) : Decidable (drawC s n) := inferInstanceAs (Decidable (_ ∧ _ ∧ _ ∧ _ ∧ _))
def drawF (s : Sst) (n : Int) : R U := match s.cells[(s.turn % (s.cells.length : Int)).toNat]? with
  | none => .stuck
  | some x => if (1000000000000000000 : Int) ≤ x then .ok (.int (x % n)) ⟨s.cells.set (s.turn % (s.cells.length : Int)).toNat (x / n), s.turn + 1⟩
    else .ok (.int (((x % 2147483629 * 48271 + s.turn * s.turn * 69621 + 11) % 2147483647 * ((x % 2147483629 * 48271 + s.turn * s.turn * 69621 + 11) % 2147483647) % 2147483629 * ((x % 2147483629 * 48271 + s.turn * s.turn * 69621 + 11) % 2147483647 * ((x % 2147483629 * 48271 + s.turn * s.turn * 69621 + 11) % 2147483647) % 2147483629) % 2147483587) % n)) ⟨s.cells, s.turn + 1⟩
def F__law_draw (s : Sst) (us : List U) : R U := match us with
  | [.int n] => if drawC s n then drawF s n else .stuck
  | _ => .stuck
theorem draw_ne {s : Sst} {us : List U} (h : F__law_draw s us ≠ .stuck) : ∃ n, us = [.int n] ∧ drawC s n := by
  unfold F__law_draw at h
  split at h
  · split at h
    · exact ⟨_, rfl, by assumption⟩
    · exact absurd rfl h
  · exact absurd rfl h
end My

set_option linter.all false
set_option maxRecDepth 100000
namespace My
open PySem PySem.Spec PyProof.Rows L2
open C8 (pe_gc)
/-! ### how plain values stand in a heap -/
def kU : Key → U
  | .inl i => .int i
  | .inr x => .str x
mutual
inductive Rep (K : PySem.W.Frag) (D : String → Addr) (H : Hp) : V → U → Prop
  | non : Rep K D H .non .non
  | bl (b : Bool) : Rep K D H (.bl b) (.bl b)
  | int (i : Int) : Rep K D H (.int i) (.int i)
  | str (x : Str) : Rep K D H (.str x) (.str x)
  | ty (n : String) : Rep K D H (.ty n) (.ty n)
  | cls (c : String) : Rep K D H (.ref (D c)) (.cls c)
  | exc {a : Addr} (c : String) : H a = some (ExZ (.ref (D c)) none a) → Rep K D H (.ref a) (.exc c)
  | lst {a : Addr} {vs : List V} {us : List U} : H a = some (.lst vs) → RepAll K D H vs us → Rep K D H (.ref a) (.lst us)
  | tup {a : Addr} {vs : List V} {us : List U} : SqT K H a vs → RepAll K D H vs us → Rep K D H (.ref a) (.tup us)
  | dct {a : Addr} {kvs : List (Key × V)} {ds : List (U × U)} : H a = some (.dK kvs) → RepKV K D H kvs ds → Rep K D H (.ref a) (.dct ds)
inductive RepAll (K : PySem.W.Frag) (D : String → Addr) (H : Hp) : List V → List U → Prop
  | nil : RepAll K D H [] []
  | cons {v : V} {vs : List V} {u : U} {us : List U} : Rep K D H v u → RepAll K D H vs us → RepAll K D H (v :: vs) (u :: us)
inductive RepKV (K : PySem.W.Frag) (D : String → Addr) (H : Hp) : List (Key × V) → List (U × U) → Prop
  | nil : RepKV K D H [] []
  | cons {k : Key} {v : V} {vs : List (Key × V)} {c u : U} {us : List (U × U)} : c = kU k → Rep K D H v u → RepKV K D H vs us → RepKV K D H ((k, v) :: vs) ((c, u) :: us)
end
section
variable {K : PySem.W.Frag} {D : String → Addr} {H H' : Hp}
mutual
theorem Rep.same (sm : Same H H') : ∀ {v : V} (u : U), Rep K D H v u → Rep K D H' v u
  | _, .non, h => by cases h; exact .non
  | _, .bl _, h => by cases h; exact .bl _
  | _, .int _, h => by cases h; exact .int _
  | _, .str _, h => by cases h; exact .str _
  | _, .ty _, h => by cases h; exact .ty _
  | _, .cls _, h => by cases h; exact .cls _
  | _, .exc _, h => by cases h with | exc _ e => exact .exc _ (sm _ _ e)
  | _, .lst us, h => by cases h with | lst e r => exact .lst (sm _ _ e) (RepAll.same sm us r)
  | _, .tup us, h => by cases h with | tup e r => exact .tup (Same.tup sm e) (RepAll.same sm us r)
  | _, .dct ds, h => by cases h with | dct e r => exact .dct (sm _ _ e) (RepKV.same sm ds r)
theorem RepAll.same (sm : Same H H') : ∀ {vs : List V} (us : List U), RepAll K D H vs us → RepAll K D H' vs us
  | _, [], h => by cases h; exact .nil
  | _, u :: us, h => by cases h with | cons h1 h2 => exact .cons (Rep.same sm u h1) (RepAll.same sm us h2)
theorem RepKV.same (sm : Same H H') : ∀ {vs : List (Key × V)} (us : List (U × U)), RepKV K D H vs us → RepKV K D H' vs us
  | _, [], h => by cases h; exact .nil
  | _, (c, u) :: us, h => by cases h with | cons h0 h1 h2 => exact .cons h0 (Rep.same sm u h1) (RepKV.same sm us h2)
end
theorem RepAll.length : ∀ {vs : List V} {us : List U}, RepAll K D H vs us → vs.length = us.length
  | _, [], h => by cases h; rfl
  | _, u :: us, h => by cases h with | cons h1 h2 => rw [List.length_cons, List.length_cons, h2.length]
theorem RepAll.app : ∀ {vs ws : List V} {us zs : List U}, RepAll K D H vs us → RepAll K D H ws zs → RepAll K D H (vs ++ ws) (us ++ zs)
  | _, _, [], _, h, g => by cases h; exact g
  | _, _, u :: us, _, h, g => by cases h with | cons h1 h2 => exact .cons h1 (h2.app g)
theorem RepAll.get : ∀ {vs : List V} {us : List U} {n : Nat} {u : U}, RepAll K D H vs us → us[n]? = some u → ∃ v, vs[n]? = some v ∧ Rep K D H v u
  | _, [], _, _, h, e => by simp at e
  | _, u :: us, 0, _, h, e => by
    cases h with
    | cons h1 h2 =>
      simp at e
      subst e
      exact ⟨_, rfl, h1⟩
  | _, u :: us, n + 1, _, h, e => by
    cases h with
    | cons h1 h2 =>
      obtain ⟨v, e1, e2⟩ := h2.get (n := n) (by simpa using e)
      exact ⟨v, by simpa using e1, e2⟩
theorem RepAll.set {x : V} {y : U} (r : Rep K D H x y) : ∀ {vs : List V} {us : List U} (n : Nat), RepAll K D H vs us → RepAll K D H (vs.set n x) (us.set n y)
  | _, [], _, h => by cases h; exact .nil
  | _, u :: us, 0, h => by cases h with | cons h1 h2 => exact .cons r h2
  | _, u :: us, n + 1, h => by cases h with | cons h1 h2 => exact .cons h1 (h2.set r n)
theorem RepAll.drop : ∀ {vs : List V} {us : List U} (n : Nat), RepAll K D H vs us → RepAll K D H (vs.drop n) (us.drop n)
  | _, us, 0, h => h
  | _, [], n + 1, h => by cases h; exact .nil
  | _, u :: us, n + 1, h => by cases h with | cons h1 h2 => exact h2.drop n
theorem RepAll.take : ∀ {vs : List V} {us : List U} (n : Nat), RepAll K D H vs us → RepAll K D H (vs.take n) (us.take n)
  | _, us, 0, h => .nil
  | _, [], n + 1, h => by cases h; exact .nil
  | _, u :: us, n + 1, h => by cases h with | cons h1 h2 => exact .cons h1 (h2.take n)
theorem RepAll.snoc {vs : List V} {us : List U} {x : V} {y : U} (h : RepAll K D H vs us) (r : Rep K D H x y) : RepAll K D H (vs ++ [x]) (us ++ [y]) := h.app (.cons r .nil)
theorem RepAll.dropLast : ∀ {vs : List V} {us : List U}, RepAll K D H vs us → RepAll K D H vs.dropLast us.dropLast := fun {vs us} h => by
  rw [List.dropLast_eq_take, List.dropLast_eq_take, h.length]
  exact h.take _
theorem RepAll.int {vs : List V} : ∀ {us : List U} {ns : List Int}, RepAll K D H vs us → allInt us = some ns → vs = ns.map V.int
  | [], ns, h, e => by
    cases h
    simp [allInt] at e
    subst e
    rfl
  | u :: us, ns, h, e => by
    cases h with
    | cons h1 h2 =>
      cases u with
      | int i =>
        simp only [allInt, Option.map_eq_some_iff] at e
        obtain ⟨ms, e1, rfl⟩ := e
        cases h1
        rw [h2.int e1]
        rfl
      | _ => simp [allInt] at e
theorem RepAll.bls {vs : List V} : ∀ {us : List U} {ns : List Bool}, RepAll K D H vs us → allBl us = some ns → vs = ns.map V.bl
  | [], ns, h, e => by
    cases h
    simp [allBl] at e
    subst e
    rfl
  | u :: us, ns, h, e => by
    cases h with
    | cons h1 h2 =>
      cases u with
      | bl i =>
        simp only [allBl, Option.map_eq_some_iff] at e
        obtain ⟨ms, e1, rfl⟩ := e
        cases h1
        rw [h2.bls e1]
        rfl
      | _ => simp [allBl] at e
mutual
/-- as the layer's own data -/
def U.py : U → PyData
  | .non => .none
  | .bl b => .bool b
  | .int i => .int i
  | .str x => .str x
  | .lst us => .list (U.pyAll us)
  | .tup us => .tuple (U.pyAll us)
  | _ => .none
def U.pyAll : List U → List PyData
  | [] => []
  | u :: us => U.py u :: U.pyAll us
end
mutual
theorem Rep.dp : ∀ (n : Nat) {v : V} (u : U), Rep K D H v u → U.flat n u = true → Dp K H v u.py
  | _, _, .non, h, _ => by cases h; exact .non
  | _, _, .bl _, h, _ => by cases h; exact .bl _
  | _, _, .int _, h, _ => by cases h; exact .int _
  | _, _, .str _, h, _ => by cases h; exact .str _
  | n, _, .ty _, h, e => by simp [U.flat] at e
  | n, _, .cls _, h, e => by simp [U.flat] at e
  | n, _, .exc _, h, e => by simp [U.flat] at e
  | 0, _, .lst us, h, e => by simp [U.flat] at e
  | n + 1, _, .lst us, h, e => by
    cases h with
    | lst a r => rw [U.py]; exact .lst (.of a) (RepAll.dp n us r (by simpa [U.flat] using e))
  | 0, _, .tup us, h, e => by simp [U.flat] at e
  | n + 1, _, .tup us, h, e => by
    cases h with
    | tup a r => rw [U.py]; exact .tup a (RepAll.dp n us r (by simpa [U.flat] using e))
  | n, _, .dct _, h, e => by simp [U.flat] at e
theorem RepAll.dp : ∀ (n : Nat) {vs : List V} (us : List U), RepAll K D H vs us → U.flatAll n us = true → DpAll K H vs (U.pyAll us)
  | _, _, [], h, _ => by cases h; rw [U.pyAll]; exact .nil
  | n, _, u :: us, h, e => by
    cases h with
    | cons h1 h2 =>
      simp only [U.flatAll, Bool.and_eq_true] at e
      rw [U.pyAll]
      exact .cons (Rep.dp n u h1 e.1) (RepAll.dp n us h2 e.2)
end
mutual
theorem shp_flat : ∀ (n : Nat) (u : U), U.flat n u = true → Shp n u.py
  | _, .non, _ => by rw [U.py]; exact shp_non
  | _, .bl _, _ => by rw [U.py]; exact shp_bl
  | _, .int _, _ => by rw [U.py]; exact shp_int
  | _, .str _, e => by rw [U.py]; exact ⟨by simpa [PyData.canLay0, U.flat] using e, by simp [PyData.depth]⟩
  | n, .ty _, e => by simp [U.flat] at e
  | n, .cls _, e => by simp [U.flat] at e
  | n, .exc _, e => by simp [U.flat] at e
  | 0, .lst us, e => by simp [U.flat] at e
  | n + 1, .lst us, e => by rw [U.py]; exact shp_list (shp_flatAll n us (by simpa [U.flat] using e))
  | 0, .tup us, e => by simp [U.flat] at e
  | n + 1, .tup us, e => by rw [U.py]; exact shp_tup (shp_flatAll n us (by simpa [U.flat] using e))
  | n, .dct _, e => by simp [U.flat] at e
theorem shp_flatAll : ∀ (n : Nat) (us : List U), U.flatAll n us = true → ∀ d ∈ U.pyAll us, Shp n d
  | n, [], _, d, hd => by rw [U.pyAll] at hd; cases hd
  | n, u :: us, e, d, hd => by
    simp only [U.flatAll, Bool.and_eq_true] at e
    rw [U.pyAll] at hd
    rcases List.mem_cons.mp hd with rfl | hd
    · exact shp_flat n u e.1
    · exact shp_flatAll n us e.2 d hd
end
mutual
theorem ueq_py : ∀ (n : Nat) (u w : U), U.flat n u = true → U.flat n w = true → PyData.eqv u.py w.py = ueq u w
  | n, .non, w, e, f => by cases w <;> simp [U.py, PyData.eqv, ueq, U.flat] at f ⊢
  | n, .bl a, w, e, f => by cases w <;> simp [U.py, PyData.eqv, ueq, U.flat] at f ⊢
  | n, .int a, w, e, f => by cases w <;> simp [U.py, PyData.eqv, ueq, U.flat] at f ⊢
  | n, .str a, w, e, f => by cases w <;> simp [U.py, PyData.eqv, ueq, U.flat] at f ⊢
  | n, .ty _, w, e, f => by simp [U.flat] at e
  | n, .cls _, w, e, f => by simp [U.flat] at e
  | n, .exc _, w, e, f => by simp [U.flat] at e
  | 0, .lst us, w, e, f => by simp [U.flat] at e
  | n + 1, .lst us, w, e, f => by
    cases w with
    | lst ws => simp only [U.py, PyData.eqv, ueq]; exact ueqAll_py n us ws (by simpa [U.flat] using e) (by simpa [U.flat] using f)
    | _ => simp [U.py, PyData.eqv, ueq, U.flat] at f ⊢
  | 0, .tup us, w, e, f => by simp [U.flat] at e
  | n + 1, .tup us, w, e, f => by
    cases w with
    | tup ws => simp only [U.py, PyData.eqv, ueq]; exact ueqAll_py n us ws (by simpa [U.flat] using e) (by simpa [U.flat] using f)
    | _ => simp [U.py, PyData.eqv, ueq, U.flat] at f ⊢
  | n, .dct _, w, e, f => by simp [U.flat] at e
theorem ueqAll_py : ∀ (n : Nat) (us ws : List U), U.flatAll n us = true → U.flatAll n ws = true → PyData.eqvAll (U.pyAll us) (U.pyAll ws) = ueqAll us ws
  | n, [], [], _, _ => by simp [U.pyAll, PyData.eqvAll, ueqAll]
  | n, [], w :: ws, _, _ => by simp [U.pyAll, PyData.eqvAll, ueqAll]
  | n, u :: us, [], _, _ => by simp [U.pyAll, PyData.eqvAll, ueqAll]
  | n, u :: us, w :: ws, e, f => by
    simp only [U.flatAll, Bool.and_eq_true] at e f
    simp only [U.pyAll, PyData.eqvAll, ueqAll]
    rw [ueq_py n u w e.1 f.1, ueqAll_py n us ws e.2 f.2]
end
mutual
theorem flat_mono : ∀ (n : Nat) (u : U), U.flat n u = true → U.flat (n + 1) u = true
  | _, .non, _ => by simp [U.flat]
  | _, .bl _, _ => by simp [U.flat]
  | _, .int _, _ => by simp [U.flat]
  | _, .str _, e => by simpa [U.flat] using e
  | n, .ty _, e => by simp [U.flat] at e
  | n, .cls _, e => by simp [U.flat] at e
  | n, .exc _, e => by simp [U.flat] at e
  | 0, .lst us, e => by simp [U.flat] at e
  | n + 1, .lst us, e => by rw [U.flat]; exact flatAll_mono n us (by simpa [U.flat] using e)
  | 0, .tup us, e => by simp [U.flat] at e
  | n + 1, .tup us, e => by rw [U.flat]; exact flatAll_mono n us (by simpa [U.flat] using e)
  | n, .dct _, e => by simp [U.flat] at e
theorem flatAll_mono : ∀ (n : Nat) (us : List U), U.flatAll n us = true → U.flatAll (n + 1) us = true
  | n, [], _ => by simp [U.flatAll]
  | n, u :: us, e => by
    simp only [U.flatAll, Bool.and_eq_true] at e ⊢
    exact ⟨flat_mono n u e.1, flatAll_mono n us e.2⟩
end
theorem eqv_any (n : Nat) (a : U) (ha : U.flat n a = true) : ∀ (us : List U), U.flatAll n us = true → ((U.pyAll us).any fun z => PyData.eqv z a.py) = us.any fun z => ueq z a
  | [], _ => by simp [U.pyAll]
  | u :: us, e => by
    simp only [U.flatAll, Bool.and_eq_true] at e
    simp only [U.pyAll, List.any_cons]
    rw [ueq_py n u a e.1 ha, eqv_any n a ha us e.2]
end
/-! ### part of a heap -/
def mask (H : Hp) (A : List Addr) : Hp := fun b => if b ∈ A then none else H b
theorem mask_some {H : Hp} {A : List Addr} {b : Addr} {o : HO} (h : mask H A b = some o) : b ∉ A ∧ H b = some o := by
  unfold mask at h
  split at h
  · cases h
  · exact ⟨by assumption, h⟩
theorem mask_of {H : Hp} {A : List Addr} {b : Addr} {o : HO} (n : b ∉ A) (h : H b = some o) : mask H A b = some o := by
  unfold mask
  rw [if_neg n]
  exact h
theorem mask_same (H : Hp) (A : List Addr) : Same (mask H A) H := fun _ _ h => (mask_some h).2
theorem mask_sub {H : Hp} {A B : List Addr} (h : ∀ a ∈ B, a ∈ A) : Same (mask H A) (mask H B) := fun b o e => by
  obtain ⟨n, e⟩ := mask_some e
  exact mask_of (fun m => n (h _ m)) e
/-- all but S stays as it is -/
def Ext (S : List Addr) (H H' : Hp) : Prop := (∀ b o, b ∉ S → H b = some o → H' b = some o) ∧ ∀ b, H b ≠ none → H' b ≠ none
theorem Ext.refl (S : List Addr) (H : Hp) : Ext S H H := ⟨fun _ _ _ h => h, fun _ h => h⟩
theorem Ext.trans {S : List Addr} {H H1 H2 : Hp} (a : Ext S H H1) (b : Ext S H1 H2) : Ext S H H2 := ⟨fun c o n h => b.1 c o n (a.1 c o n h), fun c h => b.2 c (a.2 c h)⟩
theorem Ext.of {S : List Addr} {H H1 : Hp} (s : Same H H1) : Ext S H H1 := ⟨fun c o _ h => s c o h, fun c h => by
  cases e : H c with
  | none => exact absurd e h
  | some o => rw [s c o e]; exact fun z => nomatch z⟩
theorem Ext.sub {S T : List Addr} {H H1 : Hp} (a : Ext T H H1) (h : ∀ b ∈ T, b ∈ S) : Ext S H H1 := ⟨fun c o n e => a.1 c o (fun m => n (h _ m)) e, a.2⟩
theorem Ext.new {S : List Addr} {H : Hp} {p : Addr} {o : HO} (h : H p = none) : Ext S H (upd H p o) := .of (Same.new h)
theorem Ext.same {H H1 : Hp} (a : Ext [] H H1) : Same H H1 := fun b o e => a.1 b o (by simp) e
theorem Ext.mask {S A : List Addr} {H H1 : Hp} (a : Ext S H H1) (h : ∀ b ∈ S, b ∈ A) : Same (mask H A) (mask H1 A) := fun b o e => by
  obtain ⟨n, e⟩ := mask_some e
  exact mask_of n (a.1 b o (fun m => n (h _ m)) e)
/-- the source of drawn numbers, if there is one -/
def SrcH (S : List Addr) (H : Hp) (s : Sst) : Prop := S = [] ∨ ∃ a c, S = [a, c] ∧ a ≠ c ∧ H a = some (.lst [.ref c, .int s.turn]) ∧ H c = some (.lst (s.cells.map V.int))
def SlotS (sl : Option Nat) (S : List Addr) (σ : L2.St) : Prop := match sl with
  | none => True
  | some i => ∃ a c, S = [a, c] ∧ σ[i]? = some (some (.ref a))
section
variable (K : PySem.W.Frag) (D : String → Addr) (O : List Nat) (sl : Option Nat) (A S : List Addr)
/-- a list or a dict of the def's own: what is in it stands apart -/
def OwnAt (M H : Hp) (a : Addr) (u : U) : Prop := (∃ vs us, u = .lst us ∧ H a = some (.lst vs) ∧ RepAll K D M vs us) ∨ ∃ vs us, u = .dct us ∧ H a = some (.dK vs) ∧ RepKV K D M vs us
def Shal (H : Hp) (v : V) (u : U) : Prop := ∃ a, v = .ref a ∧ a ∉ S ∧ OwnAt K D (mask H A) H a u
structure Ctx (H : Hp) (σ : L2.St) (ρ : Rho) (s : Sst) : Prop where
  sub : ∀ a ∈ S, a ∈ A
  dom : ∀ a ∈ A, H a ≠ none
  len : σ.length = ρ.length
  env : ∀ i u, ρ[i]? = some (some u) → ∃ v, σ[i]? = some (some v) ∧ (i ∈ O → Shal K D A S H v u) ∧ (i ∉ O → Rep K D (mask H A) v u)
  src : SrcH S H s
  slot : SlotS sl S σ
/-- clean: no list of the def's own; seen: perhaps one -/
def Cl (_ : List Addr) (H : Hp) (v : V) (u : U) : Prop := Rep K D (mask H A) v u
def Sn (H : Hp) (v : V) (u : U) : Prop := Rep K D (mask H A) v u ∨ Shal K D A S H v u
def ClA (_ : List Addr) (H : Hp) (v : List V) (u : List U) : Prop := RepAll K D (mask H A) v u
def SnA (H : Hp) : List V → List U → Prop
  | [], [] => True
  | v :: vs, u :: us => Sn K D A S H v u ∧ SnA H vs us
  | _, _ => False
def Bo (_ : Hp) (v : Bool) (u : Bool) : Prop := v = u
end
section
variable {K : PySem.W.Frag} {D : String → Addr} {O : List Nat} {sl : Option Nat} {A S : List Addr} {H H' : Hp} {σ : L2.St} {ρ : Rho} {s s' : Sst}
theorem OwnAt.ext {M M' : Hp} {a : Addr} {u : U} (h : OwnAt K D M H a u) (e : Ext S H H') (m : Same M M') (n : a ∉ S) : OwnAt K D M' H' a u := by
  rcases h with ⟨vs, us, h1, h2, h3⟩ | ⟨vs, us, h1, h2, h3⟩
  · exact .inl ⟨vs, us, h1, e.1 _ _ n h2, h3.same m⟩
  · exact .inr ⟨vs, us, h1, e.1 _ _ n h2, h3.same m⟩
theorem OwnAt.rep {M : Hp} {a : Addr} {u : U} (h : OwnAt K D M H a u) (m : Same M H') (e : ∀ o, H a = some o → H' a = some o) : Rep K D H' (.ref a) u := by
  rcases h with ⟨vs, us, rfl, h2, h3⟩ | ⟨vs, us, rfl, h2, h3⟩
  · exact .lst (e _ h2) (h3.same m)
  · exact .dct (e _ h2) (h3.same m)
theorem Ctx.ext (c : Ctx K D O sl A S H σ ρ s) (e : Ext S H H') (h : SrcH S H' s') : Ctx K D O sl A S H' σ ρ s' where
  sub := c.sub
  dom := fun a m => e.2 a (c.dom a m)
  len := c.len
  env := fun i u g => by
    obtain ⟨v, h1, h2, h3⟩ := c.env i u g
    refine ⟨v, h1, fun m => ?_, fun m => (h3 m).same (e.mask c.sub)⟩
    obtain ⟨a, e1, e2, e3⟩ := h2 m
    exact ⟨a, e1, e2, e3.ext e (e.mask c.sub) e2⟩
  src := h
  slot := c.slot
theorem SrcH.same (h : SrcH S H s) (e : Same H H') : SrcH S H' s := by
  rcases h with h | ⟨a, c, h1, h2, h3, h4⟩
  · exact .inl h
  · exact .inr ⟨a, c, h1, h2, e _ _ h3, e _ _ h4⟩
theorem Ctx.same (c : Ctx K D O sl A S H σ ρ s) (e : Same H H') : Ctx K D O sl A S H' σ ρ s := c.ext (.of e) (c.src.same e)
theorem Sn.full {v : V} {u : U} (h : Sn K D A S H v u) : Rep K D H v u := by
  rcases h with h | ⟨a, rfl, _, h⟩
  · exact h.same (mask_same _ _)
  · exact h.rep (mask_same _ _) fun _ e => e
theorem Cl.sn {v : V} {u : U} (h : Cl K D A S H v u) : Sn K D A S H v u := .inl h
/-- a seen list's items are clean -/
theorem Sn.lst {v : V} {us : List U} (h : Sn K D A S H v (.lst us)) : ∃ a vs, v = .ref a ∧ H a = some (.lst vs) ∧ RepAll K D (mask H A) vs us := by
  rcases h with h | ⟨a, rfl, _, h⟩
  · cases h with
    | lst e r => exact ⟨_, _, rfl, (mask_some e).2, r⟩
  · rcases h with ⟨vs, us', e, h2, h3⟩ | ⟨vs, us', e, h2, h3⟩
    · cases e
      exact ⟨a, vs, rfl, h2, h3⟩
    · cases e
theorem Sn.dct {v : V} {us : List (U × U)} (h : Sn K D A S H v (.dct us)) : ∃ a vs, v = .ref a ∧ H a = some (.dK vs) ∧ RepKV K D (mask H A) vs us := by
  rcases h with h | ⟨a, rfl, _, h⟩
  · cases h with
    | dct e r => exact ⟨_, _, rfl, (mask_some e).2, r⟩
  · rcases h with ⟨vs, us', e, h2, h3⟩ | ⟨vs, us', e, h2, h3⟩
    · cases e
    · cases e
      exact ⟨a, vs, rfl, h2, h3⟩
theorem SqT.full {a : Addr} {xs : List V} (h : SqT K (mask H A) a xs) : SqT K H a xs := Same.tup (mask_same _ _) h
theorem Sn.cl {v : V} {u : U} (h : Sn K D A S H v u) (n : ∀ us, u ≠ .lst us) (n' : ∀ us, u ≠ .dct us) : Cl K D A S H v u := by
  rcases h with h | ⟨a, rfl, _, h⟩
  · exact h
  · rcases h with ⟨vs, us', e, h2, h3⟩ | ⟨vs, us', e, h2, h3⟩
    · exact absurd e (n _)
    · exact absurd e (n' _)
theorem Sn.tup {v : V} {us : List U} (h : Sn K D A S H v (.tup us)) : ∃ a vs, v = .ref a ∧ SqT K H a vs ∧ SqT K (mask H A) a vs ∧ RepAll K D (mask H A) vs us := by
  cases h.cl (fun _ e => by cases e) (fun _ e => by cases e) with
  | tup e r => exact ⟨_, _, rfl, SqT.full e, e, r⟩
theorem Sn.int {v : V} {i : Int} (h : Sn K D A S H v (.int i)) : v = .int i := by
  have := h.full
  cases this
  rfl
theorem Sn.bl {v : V} {i : Bool} (h : Sn K D A S H v (.bl i)) : v = .bl i := by
  have := h.full
  cases this
  rfl
theorem Sn.str {v : V} {i : Str} (h : Sn K D A S H v (.str i)) : v = .str i := by
  have := h.full
  cases this
  rfl
theorem Rep.isnon {v : V} {u : U} (h : Rep K D H v u) : decide (v = .non) = isNon u := by
  cases h <;> simp [isNon]
end
/-! ### what is wanted behind a piece of text -/
section
variable {α β γ δ : Type} (D : String → Addr) (W : WX) (S : List Addr) (σ : L2.St)
def PostG (H : Hp) (rep : Hp → β → α → Prop) (r : R α) (Q : β → Hp → Prop) : Prop := match r with
  | .ok u s => ∀ v H', Ext S H H' → SrcH S H' s → rep H' v u → Q v H'
  | .err c s => ∀ H', Ext S H H' → SrcH S H' s → W (.ref (D c)) none σ H'
  | .stuck => False
variable {D W S σ} {H H1 : Hp} {rep : Hp → β → α → Prop} {rep2 : Hp → δ → γ → Prop} {r : R α} {Q : β → Hp → Prop} {Q2 : δ → Hp → Prop} {k : α → Sst → R γ}
theorem PostG.ext (h : PostG D W S σ H rep r Q) (e : Ext S H H1) : PostG D W S σ H1 rep r Q := by
  cases r with
  | ok u s => exact fun v H' e' hs hr => h v H' (e.trans e') hs hr
  | err c s => exact fun H' e' hs => h H' (e.trans e') hs
  | stuck => exact h
theorem PostG.bind (h : PostG D W S σ H rep2 (r.bind k) Q2) (hk : ∀ u s1 v H1, Ext S H H1 → SrcH S H1 s1 → rep H1 v u → PostG D W S σ H1 rep2 (k u s1) Q2 → Q v H1) : PostG D W S σ H rep r Q := by
  cases r with
  | ok u s => exact fun v H' e hs hr => hk u s v H' e hs hr (PostG.ext (r := k u s) h e)
  | err c s => exact h
  | stuck => exact h
theorem PostG.mono {Q' : β → Hp → Prop} (h : PostG D W S σ H rep r Q) (hk : ∀ v H1, Q v H1 → Q' v H1) : PostG D W S σ H rep r Q' := by
  cases r with
  | ok u s => exact fun v H' e hs hr => hk _ _ (h v H' e hs hr)
  | err c s => exact h
  | stuck => exact h
theorem PostG.opt {o : Option α} {s : Sst} (h : PostG D W S σ H rep (My.opt o s) Q) (hs : SrcH S H s) : ∃ u, o = some u ∧ ∀ v H', Same H H' → rep H' v u → Q v H' := by
  cases o with
  | none => exact h.elim
  | some u => exact ⟨u, rfl, fun v H' e hr => h v H' (.of e) (hs.same e) hr⟩
end
section
variable {K : PySem.W.Frag} {D : String → Addr} {A S : List Addr} {H H' : Hp}
theorem Sn.ext {v : V} {u : U} (h : Sn K D A S H v u) (e : Ext S H H') (m : ∀ b ∈ S, b ∈ A) : Sn K D A S H' v u := by
  rcases h with h | ⟨a, rfl, n, h⟩
  · exact .inl (h.same (e.mask m))
  · exact .inr ⟨a, rfl, n, h.ext e (e.mask m) n⟩
theorem SnA.ext (e : Ext S H H') (m : ∀ b ∈ S, b ∈ A) : ∀ {vs : List V} {us : List U}, SnA K D A S H vs us → SnA K D A S H' vs us
  | [], [], _ => trivial
  | v :: vs, u :: us, h => ⟨h.1.ext e m, SnA.ext e m h.2⟩
  | [], _ :: _, h => h.elim
  | _ :: _, [], h => h.elim
theorem Cl.ext {v : V} {u : U} (h : Cl K D A S H v u) (e : Ext S H H') (m : ∀ b ∈ S, b ∈ A) : Cl K D A S H' v u := Rep.same (e.mask m) u h
end
/-! ### expressions -/
abbrev Rp := PySem.W.Frag → (String → Addr) → List Addr → List Addr → Hp → V → U → Prop
abbrev RpA := PySem.W.Frag → (String → Addr) → List Addr → List Addr → Hp → List V → List U → Prop
section
variable (K : PySem.W.Frag) (D : String → Addr) (W : WX) (O : List Nat) (sl : Option Nat)
def EOK (rp : Rp) (te : TE) (f : EF) : Prop := ∀ A S H σ ρ s Q, Ctx K D O sl A S H σ ρ s → PostG D W S σ H (rp K D A S) (f ρ s) Q → te σ H Q
def TOK (tt : TT) (f : TF) : Prop := ∀ A S H σ ρ s Q, Ctx K D O sl A S H σ ρ s → PostG D W S σ H Bo (f ρ s) Q → tt σ H Q
def AOK (rp : RpA) (ta : TA) (f : AF) : Prop := ∀ A S H σ ρ s Q, Ctx K D O sl A S H σ ρ s → PostG D W S σ H (rp K D A S) (f ρ s) Q → ta σ H Q
/-- an operation of two seen values -/
def OpOK (r : R2) (p : U → U → Option U) : Prop := ∀ A S H x y a b c Q, (∀ z ∈ A, H z ≠ none) → Sn K D A S H x a → Sn K D A S H y b → p a b = some c → (∀ v H', Same H H' → Cl K D A S H' v c → Q v H') → r x y H Q
def UnOK (r : V → Hp → VK → Prop) (p : U → Option U) : Prop := ∀ A S H x a c Q, (∀ z ∈ A, H z ≠ none) → Sn K D A S H x a → p a = some c → (∀ v H', Same H H' → Cl K D A S H' v c → Q v H') → r x H Q
/-- a call of a builtin: its arguments may be seen -/
def CbOK (r : List V → Hp → VK → Prop) (p : List U → Option U) : Prop := ∀ A S H xs as c Q, (∀ z ∈ A, H z ≠ none) → SnA K D A S H xs as → p as = some c → (∀ v H', Same H H' → Cl K D A S H' v c → Q v H') → r xs H Q
end
end My

set_option linter.all false
set_option maxRecDepth 100000
namespace My
open PySem PySem.Spec PyProof.Rows L2
open C8 (pe_gc)
section
variable {K : PySem.W.Frag} {D : String → Addr} {W : WX} {O : List Nat} {sl : Option Nat} {ta tb tc te : TE} {fa fb fc fe : EF} {tt tu : TT} {ft fu : TF} {tas : TA} {fas : AF}
theorem eok_sn (h : EOK K D W O sl Cl te fe) : EOK K D W O sl Sn te fe := fun A S H σ ρ s Q c p => h A S H σ ρ s Q c (by
  cases e : fe ρ s with
  | ok u s' => rw [e] at p; exact fun v H' a b r => p v H' a b (Cl.sn r)
  | err c s' => rw [e] at p; exact p
  | stuck => rw [e] at p; exact p)
theorem eok_var {i : Nat} (n : i ∉ O) : EOK K D W O sl Cl (tVar i) (eV i) := fun A S H σ ρ s Q c p => by
  unfold eV at p
  split at p
  · rename_i u e
    obtain ⟨v, h1, _, h2⟩ := c.env i u e
    exact ⟨v, h1, p v H (Ext.refl _ _) c.src (h2 n)⟩
  · exact p.elim
theorem eok_varS {i : Nat} : EOK K D W O sl Sn (tVar i) (eV i) := fun A S H σ ρ s Q c p => by
  unfold eV at p
  split at p
  · rename_i u e
    obtain ⟨v, h1, h2, h3⟩ := c.env i u e
    refine ⟨v, h1, p v H (Ext.refl _ _) c.src ?_⟩
    by_cases m : i ∈ O
    · exact .inr (h2 m)
    · exact .inl (h3 m)
  · exact p.elim
theorem eok_c {v : V} {u : U} (h : ∀ H, Rep K D H v u) : EOK K D W O sl Cl (tC v) (eC u) := fun A S H σ ρ s Q c p => p v H (Ext.refl _ _) c.src (h _)
theorem eok_op {r : R2} {p : U → U → Option U} (h : OpOK K D r p) (ha : EOK K D W O sl Sn ta fa) (hb : EOK K D W O sl Sn tb fb) : EOK K D W O sl Cl (tOp r ta tb) (e2 p fa fb) := fun A S H σ ρ s Q c q =>
  ha A S H σ ρ s _ c (q.bind fun x s1 v H1 e1 h1 r1 q1 => hb A S H1 σ ρ s1 _ (c.ext e1 h1) (q1.bind fun y s2 w H2 e2 h2 r2 q2 => by
    obtain ⟨z, hz, q3⟩ := q2.opt h2
    exact h A S H2 v w x y z Q ((c.ext e1 h1).ext e2 h2).dom (r1.ext e2 c.sub) r2 hz q3))
theorem eok_un {r : V → Hp → VK → Prop} {p : U → Option U} (h : UnOK K D r p) (ha : EOK K D W O sl Sn ta fa) : EOK K D W O sl Cl (tUn r ta) (My.e1 p fa) := fun A S H σ ρ s Q c q =>
  ha A S H σ ρ s _ c (q.bind fun x s1 v H1 e1 h1 r1 q1 => by
    obtain ⟨z, hz, q3⟩ := q1.opt h1
    exact h A S H1 v x z Q (c.ext e1 h1).dom r1 hz q3)
theorem aok_nil : AOK K D W O sl ClA tNil aNil := fun A S H σ ρ s Q c q => q [] H (Ext.refl _ _) c.src .nil
theorem aok_cons (ha : EOK K D W O sl Cl ta fa) (hs : AOK K D W O sl ClA tas fas) : AOK K D W O sl ClA (tCons ta tas) (aCons fa fas) := fun A S H σ ρ s Q c q =>
  ha A S H σ ρ s _ c (q.bind fun x s1 v H1 e1 h1 r1 q1 => hs A S H1 σ ρ s1 _ (c.ext e1 h1) (q1.bind fun y s2 w H2 e2 h2 r2 q2 => q2 (v :: w) H2 (Ext.refl _ _) h2 (.cons (Cl.ext r1 e2 c.sub) r2)))
theorem aoks_nil : AOK K D W O sl SnA tNil aNil := fun A S H σ ρ s Q c q => q [] H (Ext.refl _ _) c.src trivial
theorem aoks_cons (ha : EOK K D W O sl Sn ta fa) (hs : AOK K D W O sl SnA tas fas) : AOK K D W O sl SnA (tCons ta tas) (aCons fa fas) := fun A S H σ ρ s Q c q =>
  ha A S H σ ρ s _ c (q.bind fun x s1 v H1 e1 h1 r1 q1 => hs A S H1 σ ρ s1 _ (c.ext e1 h1) (q1.bind fun y s2 w H2 e2 h2 r2 q2 => q2 (v :: w) H2 (Ext.refl _ _) h2 ⟨r1.ext e2 c.sub, r2⟩))
theorem lineB_le {n : Nat} (h : lineB n = true) : n ≤ sizeLine := Nat.le_trans (of_decide_eq_true h) (by decide)
theorem Rep.newT {A : List Addr} {H : Hp} {p : Addr} {vs : List V} {us : List U} (h : RepAll K D (mask H A) vs us) (np : H p = none) (d : ∀ z ∈ A, H z ≠ none) : Rep K D (mask (upd H p (.tup vs)) A) (.ref p) (.tup us) :=
  .tup (.of (mask_of (fun m => d p m np) upd_same)) (h.same ((Ext.of (Same.new np) : Ext [] _ _).mask (by simp)))
theorem Rep.newL {A : List Addr} {H : Hp} {p : Addr} {vs : List V} {us : List U} (h : RepAll K D (mask H A) vs us) (np : H p = none) (d : ∀ z ∈ A, H z ≠ none) : Rep K D (mask (upd H p (.lst vs)) A) (.ref p) (.lst us) :=
  .lst (mask_of (fun m => d p m np) upd_same) (h.same ((Ext.of (Same.new np) : Ext [] _ _).mask (by simp)))
theorem eok_tup (h : AOK K D W O sl ClA tas fas) : EOK K D W O sl Cl (tTup tas) (eN pTup fas) := fun A S H σ ρ s Q c q =>
  h A S H σ ρ s _ c (q.bind fun xs s1 vs H1 e1 h1 r1 q1 => by
    obtain ⟨z, hz, q3⟩ := q1.opt h1
    unfold pTup at hz
    split at hz
    · rename_i hl
      cases hz
      exact ⟨by rw [RepAll.length r1]; exact lineB_le hl, fun p np => q3 _ _ (Same.new np) (Rep.newT r1 np (c.ext e1 h1).dom)⟩
    · cases hz)
theorem eok_lst (h : AOK K D W O sl ClA tas fas) : EOK K D W O sl Cl (tLst tas) (eN pLst fas) := fun A S H σ ρ s Q c q =>
  h A S H σ ρ s _ c (q.bind fun xs s1 vs H1 e1 h1 r1 q1 => by
    obtain ⟨z, hz, q3⟩ := q1.opt h1
    unfold pLst at hz
    split at hz
    · rename_i hl
      cases hz
      exact ⟨by rw [RepAll.length r1]; exact lineB_le hl, fun p np => q3 _ _ (Same.new np) (Rep.newL r1 np (c.ext e1 h1).dom)⟩
    · cases hz)
theorem eok_cb {r : List V → Hp → VK → Prop} {p : List U → Option U} (h : CbOK K D r p) (ha : AOK K D W O sl SnA tas fas) : EOK K D W O sl Cl (tCB r tas) (eN p fas) := fun A S H σ ρ s Q c q =>
  ha A S H σ ρ s _ c (q.bind fun xs s1 vs H1 e1 h1 r1 q1 => by
    obtain ⟨z, hz, q3⟩ := q1.opt h1
    exact h A S H1 vs xs z Q (c.ext e1 h1).dom r1 hz q3)
theorem toB_some {u : U} {b : Bool} (h : toB u = some b) : u = .bl b := by
  cases u <;> simp [toB] at h
  subst h
  rfl
/-- a value that is True or False -/
theorem eok_isB {A S : List Addr} {H : Hp} {v : V} {x : U} {s1 : Sst} {σ : L2.St} {α β : Type} {rep : Hp → β → α → Prop} {k : Bool → Sst → R α} {Q : β → Hp → Prop} (r : Sn K D A S H v x) (hs : SrcH S H s1) (q : PostG D W S σ H rep ((opt (toB x) s1).bind k) Q) :
    ∃ b, v = .bl b ∧ PostG D W S σ H rep (k b s1) Q := by
  cases e : toB x with
  | none => rw [e] at q; exact q.elim
  | some b =>
    have e2 := toB_some e
    subst e2
    exact ⟨b, r.bl, by rw [e] at q; exact q⟩
theorem eok_and (ha : EOK K D W O sl Sn ta fa) (hb : EOK K D W O sl Cl tb fb) : EOK K D W O sl Cl (tAndV ta tb) (eAnd fa fb) := fun A S H σ ρ s Q c q =>
  ha A S H σ ρ s _ c (q.bind fun x s1 v H1 e1 h1 r1 q1 => by
    obtain ⟨b, rfl, q2⟩ := eok_isB r1 h1 q1
    refine ⟨b, rfl, ?_⟩
    cases b with
    | true => exact hb A S H1 σ ρ s1 _ (c.ext e1 h1) q2
    | false => exact q2 _ _ (Ext.refl _ _) h1 (.bl _))
theorem eok_or (ha : EOK K D W O sl Sn ta fa) (hb : EOK K D W O sl Cl tb fb) : EOK K D W O sl Cl (tOrV ta tb) (eOr fa fb) := fun A S H σ ρ s Q c q =>
  ha A S H σ ρ s _ c (q.bind fun x s1 v H1 e1 h1 r1 q1 => by
    obtain ⟨b, rfl, q2⟩ := eok_isB r1 h1 q1
    refine ⟨b, rfl, ?_⟩
    cases b with
    | false => exact hb A S H1 σ ρ s1 _ (c.ext e1 h1) q2
    | true => exact q2 _ _ (Ext.refl _ _) h1 (.bl _))
theorem eok_not (ha : EOK K D W O sl Sn ta fa) : EOK K D W O sl Cl (tNotV ta) (eNot fa) := fun A S H σ ρ s Q c q =>
  ha A S H σ ρ s _ c (q.bind fun x s1 v H1 e1 h1 r1 q1 => by
    cases e : toB x with
    | none => rw [e] at q1; exact q1.elim
    | some b =>
      have e2 := toB_some e
      subst e2
      obtain rfl := r1.bl
      exact ⟨b, rfl, q1 _ _ (Ext.refl _ _) h1 (.bl _)⟩)
theorem eok_if (hc : TOK K D W O sl tt ft) (ha : EOK K D W O sl Cl ta fa) (hb : EOK K D W O sl Cl tb fb) : EOK K D W O sl Cl (tIf tt ta tb) (eIf ft fa fb) := fun A S H σ ρ s Q c q =>
  hc A S H σ ρ s _ c (q.bind fun x s1 v H1 e1 h1 r1 q1 => by
    have e2 : v = x := r1
    subst e2
    cases v with
    | true => exact ha A S H1 σ ρ s1 _ (c.ext e1 h1) q1
    | false => exact hb A S H1 σ ρ s1 _ (c.ext e1 h1) q1)
theorem eok_chain {r r' : R2} {p p' : U → U → Option U} (h : OpOK K D r p) (h' : OpOK K D r' p') (ha : EOK K D W O sl Sn ta fa) (hb : EOK K D W O sl Sn tb fb) (hc : EOK K D W O sl Sn tc fc) :
    EOK K D W O sl Cl (tChain r r' ta tb tc) (eChain p p' fa fb fc) := fun A S H σ ρ s Q c q =>
  ha A S H σ ρ s _ c (q.bind fun x s1 v H1 e1 h1 r1 q1 => hb A S H1 σ ρ s1 _ (c.ext e1 h1) (q1.bind fun y s2 w H2 e2 h2 r2 q2 => by
    cases hz : p x y with
    | none => rw [hz] at q2; exact q2.elim
    | some z =>
      rw [hz] at q2
      have c2 := (c.ext e1 h1).ext e2 h2
      refine h A S H2 v w x y z _ c2.dom (r1.ext e2 c.sub) r2 hz fun v3 H3 s3 r3 => ?_
      have q2' := PostG.ext q2 (Ext.of (S := S) s3)
      obtain ⟨b, rfl, q3⟩ := eok_isB (Cl.sn r3) (h2.same s3) q2'
      refine ⟨b, rfl, ?_⟩
      cases b with
      | false => exact q3 _ _ (Ext.refl _ _) (h2.same s3) (.bl _)
      | true =>
        refine hc A S H3 σ ρ s2 _ (c2.same s3) (q3.bind fun z s4 u H4 e4 h4 r4 q4 => ?_)
        obtain ⟨z', hz', q5⟩ := q4.opt h4
        exact h' A S H4 w u y z z' Q ((c2.same s3).ext e4 h4).dom ((r2.ext (Ext.of s3) c.sub).ext e4 c.sub) r4 hz' q5))
/-! tests -/
theorem tok_val (ha : EOK K D W O sl Sn ta fa) : TOK K D W O sl (tB ta) (tV fa) := fun A S H σ ρ s Q c q =>
  ha A S H σ ρ s _ c (q.bind fun x s1 v H1 e1 h1 r1 q1 => by
    cases e : toB x with
    | none => rw [e] at q1; exact q1.elim
    | some b =>
      have e2 := toB_some e
      subst e2
      obtain rfl := r1.bl
      exact ⟨b, rfl, q1 _ _ (Ext.refl _ _) h1 rfl⟩)
theorem tok_not (ha : TOK K D W O sl tt ft) : TOK K D W O sl (tNot tt) (tN ft) := fun A S H σ ρ s Q c q =>
  ha A S H σ ρ s _ c (q.bind fun x s1 v H1 e1 h1 r1 q1 => by
    have e2 : v = x := r1
    subst e2
    exact q1 _ _ (Ext.refl _ _) h1 rfl)
theorem tok_and (ha : TOK K D W O sl tt ft) (hb : TOK K D W O sl tu fu) : TOK K D W O sl (tAnd tt tu) (tA ft fu) := fun A S H σ ρ s Q c q =>
  ha A S H σ ρ s _ c (q.bind fun x s1 v H1 e1 h1 r1 q1 => by
    have e2 : v = x := r1
    subst e2
    cases v with
    | true => exact hb A S H1 σ ρ s1 _ (c.ext e1 h1) q1
    | false => exact q1 _ _ (Ext.refl _ _) h1 rfl)
theorem tok_or (ha : TOK K D W O sl tt ft) (hb : TOK K D W O sl tu fu) : TOK K D W O sl (tOr tt tu) (tO ft fu) := fun A S H σ ρ s Q c q =>
  ha A S H σ ρ s _ c (q.bind fun x s1 v H1 e1 h1 r1 q1 => by
    have e2 : v = x := r1
    subst e2
    cases v with
    | false => exact hb A S H1 σ ρ s1 _ (c.ext e1 h1) q1
    | true => exact q1 _ _ (Ext.refl _ _) h1 rfl)
theorem tok_yes : TOK K D W O sl tYes tY := fun A S H σ ρ s Q c q => q true H (Ext.refl _ _) c.src rfl
end
/-! ### operations -/
/-- one of two readings -/
def R2.or (r r' : R2) : R2 := fun x y H Q => r x y H Q ∨ r' x y H Q
section
variable {X : Cx} {f : Value → Value → Sem Value} {r r' : R2}
theorem op_or2 (h : OpR X f r) (h' : OpR X f r') : OpR X f (R2.or r r') := fun pins s σ H x y v u Q I rx ry q => by
  rcases q with q | q
  · exact h pins s σ H x y v u Q I rx ry q
  · exact h' pins s σ H x y v u Q I rx ry q
theorem ix_or2 (h : IxR X r) (h' : IxR X r') : IxR X (R2.or r r') := fun a b pins s σ H x y v u Q I rx ry q e => by
  rcases q with q | q
  · exact h a b pins s σ H x y v u Q I rx ry q e
  · exact h' a b pins s σ H x y v u Q I rx ry q e
end
abbrev rAdd : R2 := rI0 fun i j => .int (i + j)
abbrev rAddS : R2 := fun x y H Q => ∃ i j, x = .str i ∧ y = .str j ∧ i.length + j.length ≤ sizeLine ∧ Q (.str (i ++ j)) H
abbrev rAddAny (K : PySem.W.Frag) : R2 := R2.or (R2.or rAdd rAddS) (R2.or rCat (rCatA K))
section
variable {K : PySem.W.Frag} {D : String → Addr}
theorem op_addAny {X : Cx} : OpR X (binaryOp .Add) (rAddAny X.K) := op_or2 (op_or2 op_add op_add_str) (op_or2 op_cat op_catA)
theorem ok_add : OpOK K D (rAddAny K) pAdd := fun A S H x y a b c Q d ha hb e q => by
  unfold pAdd at e
  split at e
  · cases e
    obtain rfl := ha.int
    obtain rfl := hb.int
    exact .inl (.inl ⟨_, _, rfl, rfl, q _ _ (Same.refl _) (.int _)⟩)
  · split at e
    · rename_i hl
      cases e
      obtain ⟨p, vs, rfl, hp, hv⟩ := ha.lst
      obtain ⟨p', vs', rfl, hp', hv'⟩ := hb.lst
      exact .inr (.inl ⟨p, p', vs, vs', rfl, rfl, hp, hp', by rw [hv.length, hv'.length]; exact lineB_le hl, fun z nz => q _ _ (Same.new nz) (Rep.newL (hv.app hv') nz d)⟩)
    · cases e
  · split at e
    · rename_i hl
      cases e
      obtain ⟨p, vs, rfl, hp, hpm, hv⟩ := ha.tup
      obtain ⟨p', vs', rfl, hp', hpm', hv'⟩ := hb.tup
      refine .inr (.inr ⟨p, p', vs, vs', rfl, rfl, hp, hp', by rw [hv.length, hv'.length]; exact lineB_le hl, fun h0 => ?_, fun _ h0 => ?_, fun _ _ z nz => q _ _ (Same.new nz) (Rep.newT (hv.app hv') nz d)⟩)
      · subst h0
        cases hv
        exact q _ _ (Same.refl _) (.tup hpm' hv')
      · subst h0
        cases hv'
        rw [List.append_nil] at q
        exact q _ _ (Same.refl _) (.tup hpm hv)
    · cases e
  · split at e
    · rename_i hl
      cases e
      obtain rfl := ha.str
      obtain rfl := hb.str
      exact .inl (.inr ⟨_, _, rfl, rfl, lineB_le hl, q _ _ (Same.refl _) (.str _)⟩)
    · cases e
  · cases e
theorem ok_sub : OpOK K D (rI0 fun i j => .int (i - j)) pSub := fun A S H x y a b c Q d ha hb e q => by
  unfold pSub at e
  split at e
  · cases e
    obtain rfl := ha.int
    obtain rfl := hb.int
    exact ⟨_, _, rfl, rfl, q _ _ (Same.refl _) (.int _)⟩
  · cases e
abbrev rMulAny (K : PySem.W.Frag) : R2 := R2.or (rI CMulX fun i j => .int (i * j)) (R2.or (rRepT K) rRep)
theorem op_mulAny {X : Cx} : OpR X (binaryOp .Mult) (rMulAny X.K) := op_or2 op_mulX (op_or2 op_repT op_rep)
theorem flat_rep {H : Hp} {vs : List V} {us : List U} (h : RepAll K D H vs us) : ∀ n : Nat, RepAll K D H (List.replicate n vs).flatten (List.replicate n us).flatten
  | 0 => .nil
  | n + 1 => by
    rw [List.replicate_succ, List.flatten_cons, List.replicate_succ, List.flatten_cons]
    exact h.app (flat_rep h n)
theorem ok_mul : OpOK K D (rMulAny K) pMul := fun A S H x y a b c Q d ha hb e q => by
  unfold pMul at e
  split at e
  · split at e
    · rename_i hl
      cases e
      obtain rfl := ha.int
      obtain rfl := hb.int
      simp only [Bool.and_eq_true] at hl
      exact .inl ⟨_, _, rfl, rfl, mul_sm (show _ < 2 ^ 20000 from of_decide_eq_true hl.1) (show _ < 2 ^ 20000 from of_decide_eq_true hl.2), q _ _ (Same.refl _) (.int _)⟩
    · cases e
  · split at e
    · rename_i hl
      cases e
      obtain ⟨p, vs, rfl, hp, hpm, hv⟩ := ha.tup
      obtain rfl := hb.int
      have hl := of_decide_eq_true hl
      refine .inr (.inl ⟨p, _, vs, rfl, rfl, hp, fun h0 => ?_, hl.1, hl.2.1, by rw [hv.length]; exact hl.2.2.2, fun z nz => q _ _ (Same.new nz) (Rep.newT (flat_rep hv _) nz d)⟩)
      subst h0
      cases hv
      exact hl.2.2.1 rfl
    · cases e
  · split at e
    · rename_i hl
      cases e
      obtain ⟨p, vs, rfl, hp, hv⟩ := ha.lst
      obtain rfl := hb.int
      have hl := of_decide_eq_true hl
      refine .inr (.inr ⟨p, _, vs, rfl, rfl, hp, by omega, by omega, ?_, fun z nz => q _ _ (Same.new nz) (Rep.newL (flat_rep hv _) nz d)⟩)
      rw [hv.length, sizeLine_eq]
      exact Nat.le_trans (Nat.mul_le_mul hl.2.2 (show _ ≤ 1000 by omega)) (by decide)
    · cases e
  · cases e
theorem ok_div : OpOK K D (rI CDivW fun i j => .int (i / j)) pDiv := fun A S H x y a b c Q d ha hb e q => by
  unfold pDiv at e
  split at e
  · split at e
    · rename_i hl
      cases e
      obtain rfl := ha.int
      obtain rfl := hb.int
      simp only [Bool.and_eq_true] at hl
      exact ⟨_, _, rfl, rfl, wide_div (of_decide_eq_true hl.1) (of_decide_eq_true hl.2) (by decide) (by decide), q _ _ (Same.refl _) (.int _)⟩
    · cases e
  · cases e
theorem ok_mod : OpOK K D (rI (fun _ j => 0 < j) fun i j => .int (i % j)) pMod := fun A S H x y a b c Q d ha hb e q => by
  unfold pMod at e
  split at e
  · split at e
    · rename_i hl
      cases e
      obtain rfl := ha.int
      obtain rfl := hb.int
      exact ⟨_, _, rfl, rfl, of_decide_eq_true hl, q _ _ (Same.refl _) (.int _)⟩
    · cases e
  · cases e
theorem ok_neg : UnOK K D (rU fun i => .int (-i)) pNeg := fun A S H x a c Q d ha e q => by
  unfold pNeg at e
  split at e
  · cases e
    obtain rfl := ha.int
    exact ⟨_, rfl, q _ _ (Same.refl _) (.int _)⟩
  · cases e
theorem ok_cmp {g : Int → Int → Bool} {p : U → U → Option U} (h : ∀ a b c, p a b = some c → ∃ i j, a = .int i ∧ b = .int j ∧ c = .bl (g i j)) : OpOK K D (rI0 fun i j => .bl (g i j)) p := fun A S H x y a b c Q d ha hb e q => by
  obtain ⟨i, j, rfl, rfl, rfl⟩ := h a b c e
  obtain rfl := ha.int
  obtain rfl := hb.int
  exact ⟨_, _, rfl, rfl, q _ _ (Same.refl _) (.bl _)⟩
theorem ok_lt : OpOK K D (rI0 fun i j => .bl (decide (i < j))) pLt := ok_cmp fun a b c e => by
  unfold pLt at e
  split at e
  · cases e; exact ⟨_, _, rfl, rfl, rfl⟩
  · cases e
theorem ok_le : OpOK K D (rI0 fun i j => .bl (decide (i ≤ j))) pLe := ok_cmp fun a b c e => by
  unfold pLe at e
  split at e
  · cases e; exact ⟨_, _, rfl, rfl, rfl⟩
  · cases e
theorem ok_gt : OpOK K D (rI0 fun i j => .bl (decide (j < i))) pGt := ok_cmp fun a b c e => by
  unfold pGt at e
  split at e
  · cases e; exact ⟨_, _, rfl, rfl, rfl⟩
  · cases e
theorem ok_ge : OpOK K D (rI0 fun i j => .bl (decide (j ≤ i))) pGe := ok_cmp fun a b c e => by
  unfold pGe at e
  split at e
  · cases e; exact ⟨_, _, rfl, rfl, rfl⟩
  · cases e
theorem deep_dp {A S : List Addr} {H : Hp} {x y : V} {a b : U} (ha : Sn K D A S H x a) (hb : Sn K D A S H y b) (e : deepB a b = true) : Dp K H x a.py ∧ Dp K H y b.py ∧ SeqAt.shaped a.py = true ∧ SeqAt.shaped b.py = true ∧ PyData.eqv a.py b.py = ueq a b := by
  unfold deepB at e
  simp only [Bool.and_eq_true] at e
  exact ⟨ha.full.dp 40 a e.1, hb.full.dp 40 b e.2, (shp_flat 40 a e.1).ok, (shp_flat 40 b e.2).ok, ueq_py 40 a b e.1 e.2⟩
theorem ok_eq : OpOK K D (rEqD K) pEq := fun A S H x y a b c Q d ha hb e q => by
  unfold pEq at e
  split at e
  · rename_i hd
    cases e
    obtain ⟨h1, h2, h3, h4, h5⟩ := deep_dp ha hb hd
    exact ⟨_, _, h1, h2, h3, h4, by rw [h5]; exact q _ _ (Same.refl _) (.bl _)⟩
  · cases e
theorem ok_ne : OpOK K D (rNeD K) pNe := fun A S H x y a b c Q d ha hb e q => by
  unfold pNe at e
  split at e
  · rename_i hd
    cases e
    obtain ⟨h1, h2, h3, h4, h5⟩ := deep_dp ha hb hd
    exact ⟨_, _, h1, h2, h3, h4, by rw [h5]; exact q _ _ (Same.refl _) (.bl _)⟩
  · cases e
theorem non_of {H : Hp} {v : V} {u : U} (h : Rep K D H v u) (e : isNon u = true) : v = .non := by
  have := h.isnon
  rw [e] at this
  exact of_decide_eq_true this
abbrev rIsN' : R2 := fun x y H Q => y = .non ∧ Q (.bl (decide (x = .non))) H
abbrev rNotN' : R2 := fun x y H Q => y = .non ∧ Q (.bl (!decide (x = .non))) H
theorem ok_is : OpOK K D rIsN' pIs := fun A S H x y a b c Q d ha hb e q => by
  unfold pIs at e
  split at e
  · rename_i hd
    cases e
    exact ⟨non_of hb.full hd, by rw [ha.full.isnon]; exact q _ _ (Same.refl _) (.bl _)⟩
  · cases e
theorem ok_isNot : OpOK K D rNotN' pIsNot := fun A S H x y a b c Q d ha hb e q => by
  unfold pIsNot at e
  split at e
  · rename_i hd
    cases e
    exact ⟨non_of hb.full hd, by rw [ha.full.isnon]; exact q _ _ (Same.refl _) (.bl _)⟩
  · cases e
theorem ok_in : OpOK K D (rInD K) pIn := fun A S H x y a b c Q d ha hb e q => by
  unfold pIn at e
  split at e
  · rename_i us
    split at e
    · rename_i hd
      cases e
      obtain ⟨h1, h2, h3, h4, h5⟩ := deep_dp ha hb hd
      unfold deepB at hd
      simp only [Bool.and_eq_true] at hd
      have h6 : U.flatAll 39 us = true := by simpa [U.flat] using hd.2
      rw [U.py] at h2 h4
      refine ⟨_, _, h1, h2, h3, h4, ?_⟩
      have h7 : U.flatAll 40 us = true := flatAll_mono 39 us h6
      rw [eqv_any 40 a hd.1 us h7]
      exact q _ _ (Same.refl _) (.bl _)
    · cases e
  · cases e
theorem ok_notIn : OpOK K D (rNotInD K) pNotIn := fun A S H x y a b c Q d ha hb e q => by
  unfold pNotIn at e
  split at e
  · rename_i us
    split at e
    · rename_i hd
      cases e
      obtain ⟨h1, h2, h3, h4, h5⟩ := deep_dp ha hb hd
      unfold deepB at hd
      simp only [Bool.and_eq_true] at hd
      have h6 : U.flatAll 39 us = true := by simpa [U.flat] using hd.2
      rw [U.py] at h2 h4
      refine ⟨_, _, h1, h2, h3, h4, ?_⟩
      have h7 : U.flatAll 40 us = true := flatAll_mono 39 us h6
      rw [eqv_any 40 a hd.1 us h7]
      exact q _ _ (Same.refl _) (.bl _)
    · cases e
  · cases e
abbrev rIxAny (K : PySem.W.Frag) : R2 := R2.or (rIxL K) (rIxT K)
theorem ix_any {X : Cx} : IxR X (rIxAny X.K) := ix_or2 ix_list ix_tup
theorem ix_anyK {X : Cx} {K : PySem.W.Frag} (h : X.K = K := by rfl) : IxR X (rIxAny K) := by subst h; exact ix_any
theorem atI_rep {H : Hp} {vs : List V} {us : List U} {i : Int} {u : U} (h : RepAll K D H vs us) (e : atI us i = some u) : ∃ v, atI vs i = some v ∧ Rep K D H v u := by
  unfold atI at e ⊢
  rw [h.length]
  cases g : ixN us.length i with
  | none => rw [g] at e; cases e
  | some j =>
    rw [g] at e
    exact h.get e
theorem ok_ix : OpOK K D (rIxAny K) pIdx := fun A S H x y a b c Q d ha hb e q => by
  unfold pIdx at e
  split at e
  · obtain ⟨p, vs, rfl, hp, hv⟩ := ha.lst
    obtain rfl := hb.int
    obtain ⟨v, e1, e2⟩ := atI_rep hv e
    exact .inl ⟨p, vs, _, v, rfl, rfl, .of hp, e1, q _ _ (Same.refl _) e2⟩
  · obtain ⟨p, vs, rfl, hp, hpm, hv⟩ := ha.tup
    obtain rfl := hb.int
    obtain ⟨v, e1, e2⟩ := atI_rep hv e
    exact .inr ⟨p, vs, _, v, rfl, rfl, hp, e1, q _ _ (Same.refl _) e2⟩
  · cases e
end
end My

set_option linter.all false
set_option maxRecDepth 100000
namespace My
open PySem PySem.Spec PyProof.Rows L2
open C8 (pe_gc)
/-! ### builtins -/
section
variable {K : PySem.W.Frag} {D : String → Addr} {A S : List Addr} {H : Hp}
theorem SnA.one {xs : List V} {u : U} (h : SnA K D A S H xs [u]) : ∃ v, xs = [v] ∧ Sn K D A S H v u := by
  match xs, h with
  | [v], h => exact ⟨v, rfl, h.1⟩
theorem SnA.two {xs : List V} {u w : U} (h : SnA K D A S H xs [u, w]) : ∃ v v', xs = [v, v'] ∧ Sn K D A S H v u ∧ Sn K D A S H v' w := by
  match xs, h with
  | [v, v'], h => exact ⟨v, v', rfl, h.1, h.2.1⟩
theorem ok_len : CbOK K D (fun xs H Q => ∃ p ys, xs = [.ref p] ∧ (SqL K H p ys ∨ SqT K H p ys) ∧ Q (.int ys.length) H) pLen := fun A S H xs as c Q d ha e q => by
  unfold pLen at e
  split at e
  · cases e
    obtain ⟨v, rfl, h⟩ := ha.one
    obtain ⟨p, vs, rfl, hp, hv⟩ := h.lst
    exact ⟨p, vs, rfl, .inl (.of hp), by rw [hv.length]; exact q _ _ (Same.refl _) (.int _)⟩
  · cases e
    obtain ⟨v, rfl, h⟩ := ha.one
    obtain ⟨p, vs, rfl, hp, _, hv⟩ := h.tup
    exact ⟨p, vs, rfl, .inr hp, by rw [hv.length]; exact q _ _ (Same.refl _) (.int _)⟩
  · cases e
theorem ok_list : CbOK K D (fun xs H Q => ∃ p ys, xs = [.ref p] ∧ (SqL K H p ys ∨ SqT K H p ys) ∧ ∀ l, H l = none → Q (.ref l) (upd H l (.lst ys))) pList := fun A S H xs as c Q d ha e q => by
  unfold pList at e
  split at e
  · cases e
    obtain ⟨v, rfl, h⟩ := ha.one
    obtain ⟨p, vs, rfl, hp, hv⟩ := h.lst
    exact ⟨p, vs, rfl, .inl (.of hp), fun l nl => q _ _ (Same.new nl) (Rep.newL hv nl d)⟩
  · cases e
    obtain ⟨v, rfl, h⟩ := ha.one
    obtain ⟨p, vs, rfl, hp, _, hv⟩ := h.tup
    exact ⟨p, vs, rfl, .inr hp, fun l nl => q _ _ (Same.new nl) (Rep.newL hv nl d)⟩
  · cases e
theorem ok_tuple : CbOK K D (fun xs H Q => ∃ p ys, xs = [.ref p] ∧ ((SqL K H p ys ∧ ∀ l, H l = none → Q (.ref l) (upd H l (.tup ys))) ∨ (SqT K H p ys ∧ Q (.ref p) H))) pTuple := fun A S H xs as c Q d ha e q => by
  unfold pTuple at e
  split at e
  · cases e
    obtain ⟨v, rfl, h⟩ := ha.one
    obtain ⟨p, vs, rfl, hp, hv⟩ := h.lst
    exact ⟨p, vs, rfl, .inl ⟨.of hp, fun l nl => q _ _ (Same.new nl) (Rep.newT hv nl d)⟩⟩
  · cases e
    obtain ⟨v, rfl, h⟩ := ha.one
    obtain ⟨p, vs, rfl, hp, hm, hv⟩ := h.tup
    exact ⟨p, vs, rfl, .inr ⟨hp, q _ _ (Same.refl _) (.tup hm hv)⟩⟩
  · cases e
theorem ok_sum : CbOK K D (rSum K) pSum := fun A S H xs as c Q d ha e q => by
  unfold pSum at e
  split at e
  · simp only [Option.map_eq_some_iff] at e
    obtain ⟨ns, e1, rfl⟩ := e
    obtain ⟨v, rfl, h⟩ := ha.one
    obtain ⟨p, vs, rfl, hp, hv⟩ := h.lst
    rw [hv.int e1] at hp
    exact ⟨p, ns, rfl, .of hp, q _ _ (Same.refl _) (.int _)⟩
  · cases e
theorem ok_all : CbOK K D (rAll K) pAll := fun A S H xs as c Q d ha e q => by
  unfold pAll at e
  split at e
  · simp only [Option.map_eq_some_iff] at e
    obtain ⟨ns, e1, rfl⟩ := e
    obtain ⟨v, rfl, h⟩ := ha.one
    obtain ⟨p, vs, rfl, hp, hv⟩ := h.lst
    rw [hv.bls e1] at hp
    exact ⟨p, ns, rfl, .of hp, q _ _ (Same.refl _) (.bl _)⟩
  · cases e
theorem ok_any : CbOK K D (rAny K) pAny := fun A S H xs as c Q d ha e q => by
  unfold pAny at e
  split at e
  · simp only [Option.map_eq_some_iff] at e
    obtain ⟨ns, e1, rfl⟩ := e
    obtain ⟨v, rfl, h⟩ := ha.one
    obtain ⟨p, vs, rfl, hp, hv⟩ := h.lst
    rw [hv.bls e1] at hp
    exact ⟨p, ns, rfl, .of hp, q _ _ (Same.refl _) (.bl _)⟩
  · cases e
abbrev rIntAny : List V → Hp → VK → Prop := fun xs H Q => (∃ i, xs = [.int i] ∧ Q (.int i) H) ∨ ∃ k : Bool, xs = [.bl k] ∧ Q (.int (if k then 1 else 0)) H
theorem call_intAny {X : Cx} : CallR X (.type "int") rIntAny := by
  intro pins s σ H xs us Q I r h
  exact call_int1 pins s σ H xs us Q I r h
theorem ok_int : CbOK K D rIntAny pInt := fun A S H xs as c Q d ha e q => by
  unfold pInt at e
  split at e
  · cases e
    obtain ⟨v, rfl, h⟩ := ha.one
    obtain rfl := h.int
    exact .inl ⟨_, rfl, q _ _ (Same.refl _) (.int _)⟩
  · cases e
    obtain ⟨v, rfl, h⟩ := ha.one
    obtain rfl := h.bl
    exact .inr ⟨_, rfl, q _ _ (Same.refl _) (.int _)⟩
  · cases e
theorem ok_abs : CbOK K D (fun xs H Q => ∃ i, xs = [.int i] ∧ Q (.int (i.natAbs : Int)) H) pAbs := fun A S H xs as c Q d ha e q => by
  unfold pAbs at e
  split at e
  · cases e
    obtain ⟨v, rfl, h⟩ := ha.one
    obtain rfl := h.int
    exact ⟨_, rfl, q _ _ (Same.refl _) (.int _)⟩
  · cases e
theorem ok_divmod : CbOK K D (fun xs H Q => ∃ i j, xs = [.int i, .int j] ∧ CDivW i j ∧ ∀ p, H p = none → Q (.ref p) (upd H p (.tup [.int (i / j), .int (i % j)]))) pDivmod := fun A S H xs as c Q d ha e q => by
  unfold pDivmod at e
  split at e
  · split at e
    · rename_i hl
      cases e
      obtain ⟨v, w, rfl, h1, h2⟩ := ha.two
      obtain rfl := h1.int
      obtain rfl := h2.int
      simp only [Bool.and_eq_true] at hl
      exact ⟨_, _, rfl, wide_div (of_decide_eq_true hl.1) (of_decide_eq_true hl.2) (by decide) (by decide), fun p np => q _ _ (Same.new np) (Rep.newT (.cons (.int _) (.cons (.int _) .nil)) np d)⟩
    · cases e
  · cases e
theorem ok_gcd : CbOK K D rGcd pGcd := fun A S H xs as c Q d ha e q => by
  unfold pGcd at e
  split at e
  · split at e
    · rename_i i j hl
      cases e
      obtain ⟨v, w, rfl, h1, h2⟩ := ha.two
      obtain rfl := h1.int
      obtain rfl := h2.int
      have hl := of_decide_eq_true hl
      exact ⟨i.toNat, j.toNat, by rw [Int.toNat_of_nonneg hl.1, Int.toNat_of_nonneg hl.2], q _ _ (Same.refl _) (.int _)⟩
    · cases e
  · cases e
theorem tyx_of {v : V} {u : U} {t : String} (h : Rep K D H v u) (e : u.tyName = some t) : TyX K H v (.type t) := by
  cases h <;> simp [U.tyName] at e <;> subst e
  · exact .base .non
  · exact .base (.bl _)
  · exact .base (.int _)
  · exact .base (.str _)
  · rename_i h _
    exact .base (.lst h)
  · rename_i h _
    exact tyx_tup h
  · rename_i h _
    exact .base (.dK h)
theorem kit_all : ∀ t ∈ ["NoneType", "bool", "int", "str", "list", "tuple", "dict"], ∀ n ∈ ["bool", "int", "str", "list", "tuple", "dict"], kitB t n = some (decide (t = n) || (decide (t = "bool") && decide (n = "int"))) := by decide +kernel
theorem tyName_mem {u : U} {t : String} (e : u.tyName = some t) : t ∈ ["NoneType", "bool", "int", "str", "list", "tuple", "dict"] := by
  cases u <;> simp [U.tyName] at e <;> subst e <;> decide
theorem ok_isi {n : String} : CbOK K D (rIsi K) (pIsiB n) := fun A S H xs as c Q d ha e q => by
  unfold pIsiB at e
  split at e
  · split at e
    · rename_i hl
      obtain ⟨rfl, hn⟩ := of_decide_eq_true hl
      unfold pIsi at e
      split at e
      · rename_i t ht
        cases e
        obtain ⟨v, w, rfl, h1, h2⟩ := ha.two
        have h2' := h2.full
        cases h2'
        exact r_isi (tyx_of h1.full ht) (kit_all t (tyName_mem ht) _ hn) (q _ _ (Same.refl _) (.bl _))
      · cases e
    · cases e
  · cases e
end
/-! ### targets and statements -/
section
variable (K : PySem.W.Frag) (D : String → Addr)
/-- the state between two statements: W tells the def's own lists by their slots -/
structure StW (O : List Nat) (sl : Option Nat) (A0 S : List Addr) (H0 : Hp) (L : List (Nat × Addr)) (H : Hp) (σ : L2.St) (ρ : Rho) (s : Sst) : Prop where
  slots : ∀ i, i ∈ L.map (·.1) ↔ i ∈ O
  once : (L.map (·.1)).Nodup
  apart : (L.map (·.2)).Nodup
  fresh : ∀ p ∈ L, p.2 ∉ A0 ∧ H0 p.2 = none
  own : ∀ p ∈ L, p.1 < ρ.length → σ[p.1]? = some (some (.ref p.2)) ∧ ∃ u, ρ[p.1]? = some (some u) ∧ OwnAt K D (mask H (L.map (·.2) ++ A0)) H p.2 u
  ctx : Ctx K D O sl (L.map (·.2) ++ A0) S H σ ρ s
  ext : Ext S H0 H
  sub : ∀ a ∈ S, a ∈ A0
def StM (O : List Nat) (sl : Option Nat) (A0 S : List Addr) (H0 H : Hp) (σ : L2.St) (ρ : Rho) (s : Sst) : Prop := ∃ L, StW K D O sl A0 S H0 L H σ ρ s
variable (W : WX)
def PostS (O' OL : List Nat) (sl : Option Nat) (A0 S : List Addr) (H0 : Hp) (r : RS) (Dn : Ends) : Prop := match r with
  | .nx ρ s => ∀ σ' H', StM K D O' sl A0 S H0 H' σ' ρ s → Dn.nx σ' H'
  | .bk ρ s => ∀ σ' H', StM K D OL sl A0 S H0 H' σ' ρ s → Dn.bk σ' H'
  | .ct ρ s => ∀ σ' H', StM K D OL sl A0 S H0 H' σ' ρ s → Dn.ct σ' H'
  | .rt u s => ∀ v H', Ext S H0 H' → SrcH S H' s → Rep K D (mask H' A0) v u → Dn.rt v H'
  | .er c ρ s => ∀ σ' H', StM K D [] sl A0 S H0 H' σ' ρ s → W (.ref (D c)) none σ' H'
  | .stuck => False
def SOK (O O' OL : List Nat) (sl : Option Nat) (ts : TS) (f : SF) : Prop := ∀ A0 S H0 H σ ρ s Dn, StM K D O sl A0 S H0 H σ ρ s → PostS K D W O' OL sl A0 S H0 (f ρ s) Dn → ts Dn σ H
/-- a target: names and tuples of targets; P is what is kept when an allowed slot gets a clean value -/
def TgOK (ok : Nat → Prop) (g : TG) (p : PF) : Prop := ∀ (M H : Hp) (P : L2.St → Rho → Prop) σ ρ v u ρ' (R : L2.St → Hp → Prop), Same M H → (∀ i σ ρ v u, ok i → P σ ρ → Rep K D M v u → P (σ.set i (some v)) (ρ.set i (some u))) → P σ ρ → Rep K D M v u → p u ρ = some ρ' →
  (∀ σ', P σ' ρ' → R σ' H) → g v σ H R
def TgsOK (ok : Nat → Prop) (g : TGs) (p : List U → Rho → Option Rho) : Prop := ∀ (M H : Hp) (P : L2.St → Rho → Prop) σ ρ v u ρ' (R : L2.St → Hp → Prop), Same M H → (∀ i σ ρ v u, ok i → P σ ρ → Rep K D M v u → P (σ.set i (some v)) (ρ.set i (some u))) → P σ ρ → RepAll K D M v u → p u ρ = some ρ' →
  (∀ σ', P σ' ρ' → R σ' H) → g v σ H R
/-- slots that a statement may set -/
def okS (O : List Nat) (sl : Option Nat) (i : Nat) : Prop := i ∉ O ∧ sl ≠ some i
end
end My

set_option linter.all false
set_option maxRecDepth 100000
namespace My
open PySem PySem.Spec PyProof.Rows L2
open C8 (pe_gc)
section
variable {K : PySem.W.Frag} {D : String → Addr} {W : WX} {O O' O1 O2 OL : List Nat} {sl : Option Nat} {A0 S : List Addr} {H0 H0' H H' H1 : Hp} {L : List (Nat × Addr)} {σ : L2.St} {ρ : Rho} {s s' : Sst}
theorem StW.inA (h : StW K D O sl A0 S H0 L H σ ρ s) : ∀ a ∈ S, a ∈ L.map (·.2) ++ A0 := fun a m => List.mem_append_right _ (h.sub a m)
theorem StW.nS (h : StW K D O sl A0 S H0 L H σ ρ s) {p : Nat × Addr} (m : p ∈ L) : p.2 ∉ S := fun z => (h.fresh p m).1 (h.sub _ z)
theorem StW.next (h : StW K D O sl A0 S H0 L H σ ρ s) (e : Ext S H H') (hs : SrcH S H' s') : StW K D O sl A0 S H0 L H' σ ρ s' where
  slots := h.slots
  once := h.once
  apart := h.apart
  fresh := h.fresh
  own := fun p m hl => by
    obtain ⟨h1, u, h2, h3⟩ := h.own p m hl
    exact ⟨h1, u, h2, h3.ext e (e.mask h.inA) (h.nS m)⟩
  ctx := h.ctx.ext e hs
  ext := h.ext.trans e
  sub := h.sub
theorem mem_snd {L : List (Nat × Addr)} {p : Nat × Addr} (m : p ∈ L) : p.2 ∈ L.map (·.2) := List.mem_map.mpr ⟨p, m, rfl⟩
theorem nodup_snd : ∀ {L : List (Nat × Addr)} {p q : Nat × Addr}, (L.map (·.2)).Nodup → p ∈ L → q ∈ L → p.2 = q.2 → p = q
  | [], _, _, _, m, _, _ => by cases m
  | x :: L, p, q, n, m1, m2, e => by
    rw [List.map_cons, List.nodup_cons] at n
    rcases List.mem_cons.mp m1 with e1 | k1
    · rcases List.mem_cons.mp m2 with e2 | k2
      · rw [e1, e2]
      · exact absurd (by rw [← e1, e]; exact mem_snd k2) n.1
    · rcases List.mem_cons.mp m2 with e2 | k2
      · exact absurd (by rw [← e2, ← e]; exact mem_snd k1) n.1
      · exact nodup_snd n.2 k1 k2 e
/-- lists that are no more the def's own -/
theorem StM.drop (p : Nat → Bool) (h : StM K D O sl A0 S H0 H σ ρ s) : StM K D (O.filter p) sl A0 S H0 H σ ρ s := by
  obtain ⟨L, h⟩ := h
  have sb : ∀ a ∈ (L.filter fun q => p q.1).map (·.2) ++ A0, a ∈ L.map (·.2) ++ A0 := fun a m => by
    rcases List.mem_append.mp m with m | m
    · obtain ⟨q, m1, e⟩ := List.mem_map.mp m
      exact List.mem_append_left _ (List.mem_map.mpr ⟨q, (List.mem_filter.mp m1).1, e⟩)
    · exact List.mem_append_right _ m
  have sm : Same (mask H (L.map (·.2) ++ A0)) (mask H ((L.filter fun q => p q.1).map (·.2) ++ A0)) := mask_sub sb
  have eO : ∀ i, i ∈ (L.filter fun q => p q.1).map (·.1) ↔ i ∈ O.filter p := fun i => by
    rw [List.mem_filter, ← h.slots i]
    constructor
    · intro m
      obtain ⟨q, m1, rfl⟩ := List.mem_map.mp m
      exact ⟨List.mem_map.mpr ⟨q, (List.mem_filter.mp m1).1, rfl⟩, (List.mem_filter.mp m1).2⟩
    · rintro ⟨m, hp⟩
      obtain ⟨q, m1, rfl⟩ := List.mem_map.mp m
      exact List.mem_map.mpr ⟨q, List.mem_filter.mpr ⟨m1, hp⟩, rfl⟩
  refine ⟨L.filter fun q => p q.1, eO, h.once.sublist (List.Sublist.map _ List.filter_sublist), ?_, fun q m => h.fresh q (List.mem_filter.mp m).1, fun q m hl => ?_, ⟨fun a m => List.mem_append_right _ (h.sub a m), fun a m => h.ctx.dom a (sb a m), h.ctx.len, fun i u e => ?_, h.ctx.src, h.ctx.slot⟩, h.ext, h.sub⟩
  · exact h.apart.sublist (List.Sublist.map _ List.filter_sublist)
  · obtain ⟨h1, u, h2, h3⟩ := h.own q (List.mem_filter.mp m).1 hl
    exact ⟨h1, u, h2, h3.ext (Ext.refl [] H) sm (by simp)⟩
  · obtain ⟨v, h1, h2, h3⟩ := h.ctx.env i u e
    refine ⟨v, h1, fun m => ?_, fun m => ?_⟩
    · obtain ⟨a, e1, e2, e3⟩ := h2 (List.mem_filter.mp m).1
      exact ⟨a, e1, e2, e3.ext (Ext.refl [] H) sm (by simp)⟩
    · by_cases mO : i ∈ O
      · obtain ⟨a, e1, e2, e3⟩ := h2 mO
        have mO' := (h.slots i).mpr mO
        obtain ⟨q, mq, rfl⟩ := List.mem_map.mp mO'
        obtain ⟨g1, _⟩ := h.own q mq (List.getElem?_eq_some_iff.mp e).1
        rw [h1] at g1
        have g2 : v = .ref q.2 := by simpa using g1
        rw [g2] at e1
        have g3 : q.2 = a := by simpa using e1
        subst g3
        subst g2
        refine e3.rep sm fun o ho => mask_of (fun z => ?_) ho
        rcases List.mem_append.mp z with z | z
        · obtain ⟨q', m', e'⟩ := List.mem_map.mp z
          have := nodup_snd h.apart (List.mem_filter.mp m').1 mq e'
          subst this
          exact m (List.mem_filter.mpr ⟨mO, (List.mem_filter.mp m').2⟩)
        · exact (h.fresh q mq).1 z
      · exact (h3 mO).same sm
theorem StM.eqv (e : ∀ i, i ∈ O ↔ i ∈ O') (h : StM K D O sl A0 S H0 H σ ρ s) : StM K D O' sl A0 S H0 H σ ρ s := by
  obtain ⟨L, h⟩ := h
  exact ⟨L, fun i => (h.slots i).trans (e i), h.once, h.apart, h.fresh, h.own, ⟨h.ctx.sub, h.ctx.dom, h.ctx.len, fun i u g => by
    obtain ⟨v, h1, h2, h3⟩ := h.ctx.env i u g
    exact ⟨v, h1, fun m => h2 ((e i).mpr m), fun m => h3 fun z => m ((e i).mp z)⟩, h.ctx.src, h.ctx.slot⟩, h.ext, h.sub⟩
theorem StM.none (h : StM K D O sl A0 S H0 H σ ρ s) : StM K D [] sl A0 S H0 H σ ρ s := by
  have := h.drop fun _ => false
  rwa [List.filter_eq_nil_iff.mpr (by simp)] at this
theorem getSet {α : Type} {l : List (Option α)} {i j : Nat} {v : α} {u : α} (h : (l.set i (some v))[j]? = some (some u)) : (i = j ∧ u = v) ∨ (i ≠ j ∧ l[j]? = some (some u)) := by
  by_cases e : i = j
  · subst e
    by_cases hl : i < l.length
    · rw [List.getElem?_set_self hl] at h
      exact .inl ⟨rfl, by simpa using h.symm⟩
    · rw [List.getElem?_eq_none (by rw [List.length_set]; omega)] at h
      cases h
  · rw [List.getElem?_set_ne e] at h
    exact .inr ⟨e, h⟩
theorem setSelf {l : L2.St} {ρ : Rho} {i : Nat} {v : V} {u : U} {w : Option U} (e : l.length = ρ.length) (h : (ρ.set i w)[i]? = some (some u)) : (l.set i (some v))[i]? = some (some v) := by
  have hl : i < ρ.length := by
    by_cases hl : i < ρ.length
    · exact hl
    · rw [List.getElem?_eq_none (by rw [List.length_set]; omega)] at h
      cases h
  exact List.getElem?_set_self (by omega)
theorem SlotS.set {i : Nat} {w : Option V} (h : SlotS sl S σ) (n : sl ≠ some i) : SlotS sl S (σ.set i w) := by
  cases sl with
  | none => trivial
  | some j =>
    obtain ⟨a, c, h1, h2⟩ := h
    exact ⟨a, c, h1, by rw [List.getElem?_set_ne (fun z => n (by rw [z]))]; exact h2⟩
theorem StW.set {i : Nat} {v : V} {u : U} (h : StW K D O sl A0 S H0 L H σ ρ s) (nO : i ∉ O) (nS : sl ≠ some i) (r : Rep K D (mask H (L.map (·.2) ++ A0)) v u) : StW K D O sl A0 S H0 L H (σ.set i (some v)) (ρ.set i (some u)) s where
  slots := h.slots
  once := h.once
  apart := h.apart
  fresh := h.fresh
  own := fun p m hl => by
    rw [List.length_set] at hl
    have ne : i ≠ p.1 := fun z => nO ((h.slots i).mp (by rw [z]; exact List.mem_map.mpr ⟨p, m, rfl⟩))
    rw [List.getElem?_set_ne ne, List.getElem?_set_ne ne]
    exact h.own p m hl
  ctx := ⟨h.ctx.sub, h.ctx.dom, by rw [List.length_set, List.length_set]; exact h.ctx.len, fun j w e => by
    rcases getSet e with ⟨rfl, rfl⟩ | ⟨ne, e⟩
    · exact ⟨v, setSelf h.ctx.len e, fun m => absurd m nO, fun _ => r⟩
    · rw [List.getElem?_set_ne ne]
      exact h.ctx.env j w e, h.ctx.src, h.ctx.slot.set nS⟩
  ext := h.ext
  sub := h.sub
theorem StW.unset {i : Nat} (h : StW K D O sl A0 S H0 L H σ ρ s) (nO : i ∉ O) (nS : sl ≠ some i) (w : Option V) : StW K D O sl A0 S H0 L H (σ.set i w) (ρ.set i none) s where
  slots := h.slots
  once := h.once
  apart := h.apart
  fresh := h.fresh
  own := fun p m hl => by
    rw [List.length_set] at hl
    have ne : i ≠ p.1 := fun z => nO ((h.slots i).mp (by rw [z]; exact List.mem_map.mpr ⟨p, m, rfl⟩))
    rw [List.getElem?_set_ne ne, List.getElem?_set_ne ne]
    exact h.own p m hl
  ctx := ⟨h.ctx.sub, h.ctx.dom, by rw [List.length_set, List.length_set]; exact h.ctx.len, fun j w e => by
    by_cases ne : i = j
    · subst ne
      by_cases hl : i < ρ.length
      · rw [List.getElem?_set_self hl] at e; cases e
      · rw [List.getElem?_eq_none (by rw [List.length_set]; omega)] at e; cases e
    · rw [List.getElem?_set_ne ne] at e ⊢
      exact h.ctx.env j w e, h.ctx.src, h.ctx.slot.set nS⟩
  ext := h.ext
  sub := h.sub
/-- a new list of the def's own -/
theorem StW.own_new {i : Nat} {p : Addr} {u : U} (h : StW K D O sl A0 S H0 L H σ ρ s) (e : Ext S H H') (hs : SrcH S H' s') (nO : i ∉ O) (nS : sl ≠ some i) (np : H p = none) (o : OwnAt K D (mask H' (p :: (L.map (·.2) ++ A0))) H' p u) :
    StW K D (i :: O) sl A0 S H0 ((i, p) :: L) H' (σ.set i (some (.ref p))) (ρ.set i (some u)) s' := by
  have h' := h.next e hs
  have npA : p ∉ L.map (·.2) ++ A0 := fun z => h.ctx.dom p z np
  have sm : Same (mask H (L.map (·.2) ++ A0)) (mask H' (p :: (L.map (·.2) ++ A0))) := fun b o q => by
    obtain ⟨n, q⟩ := mask_some q
    refine mask_of (fun z => ?_) (e.1 b o (fun z => n (h.inA b z)) q)
    rcases List.mem_cons.mp z with z | z
    · rw [z, np] at q; cases q
    · exact n z
  have hp : H' p ≠ none := by
    rcases o with ⟨_, _, _, q, _⟩ | ⟨_, _, _, q, _⟩ <;> rw [q] <;> exact fun z => nomatch z
  have pS : p ∉ S := fun z => npA (h.inA p z)
  have eA : ((i, p) :: L).map (·.2) ++ A0 = p :: (L.map (·.2) ++ A0) := rfl
  refine ⟨fun j => by rw [List.map_cons, List.mem_cons, List.mem_cons, h.slots j], by rw [List.map_cons, List.nodup_cons]; exact ⟨fun z => nO ((h.slots i).mp z), h.once⟩, ?_, fun q m => ?_, fun q m hl => ?_, ⟨fun a m => List.mem_append_right _ (h.sub a m), fun a m => ?_, by rw [List.length_set, List.length_set]; exact h.ctx.len, fun j w g => ?_, hs, h.ctx.slot.set nS⟩, h'.ext, h.sub⟩
  · rw [List.map_cons, List.nodup_cons]
    exact ⟨fun z => npA (List.mem_append_left _ z), h.apart⟩
  · rcases List.mem_cons.mp m with rfl | m
    · refine ⟨fun z => npA (List.mem_append_right _ z), ?_⟩
      cases q : H0 p with
      | none => rfl
      | some x => exact absurd np (h.ext.2 p (by rw [q]; exact fun z => nomatch z))
    · exact h.fresh q m
  · rw [eA]
    rcases List.mem_cons.mp m with rfl | m
    · rw [List.length_set] at hl
      rw [List.getElem?_set_self (by rw [h.ctx.len]; exact hl), List.getElem?_set_self hl]
      exact ⟨rfl, u, rfl, o⟩
    · have ne : i ≠ q.1 := fun z => nO ((h.slots i).mp (by rw [z]; exact List.mem_map.mpr ⟨q, m, rfl⟩))
      rw [List.getElem?_set_ne ne, List.getElem?_set_ne ne]
      rw [List.length_set] at hl
      obtain ⟨h1, w, h2, h3⟩ := h.own q m hl
      exact ⟨h1, w, h2, h3.ext e sm (h.nS m)⟩
  · rw [eA] at m
    rcases List.mem_cons.mp m with rfl | m
    · exact hp
    · exact h'.ctx.dom a m
  · rw [eA]
    rcases getSet g with ⟨rfl, rfl⟩ | ⟨ne, g⟩
    · exact ⟨_, setSelf h.ctx.len g, fun _ => ⟨p, rfl, pS, o⟩, fun m => absurd List.mem_cons_self m⟩
    · rw [List.getElem?_set_ne ne]
      obtain ⟨v, h1, h2, h3⟩ := h.ctx.env j w g
      refine ⟨v, h1, fun m => ?_, fun m => (h3 fun z => m (List.mem_cons_of_mem _ z)).same sm⟩
      rcases List.mem_cons.mp m with m | m
      · exact absurd m.symm ne
      · obtain ⟨a, e1, e2, e3⟩ := h2 m
        exact ⟨a, e1, e2, e3.ext e sm e2⟩
end
end My

set_option linter.all false
set_option maxRecDepth 100000
namespace My
open PySem PySem.Spec PyProof.Rows L2
open C8 (pe_gc)
section
variable {K : PySem.W.Frag} {D : String → Addr} {W : WX} {O O' O1 O2 OL : List Nat} {sl : Option Nat} {A0 S : List Addr} {H0 H0' H H' H1 : Hp} {L : List (Nat × Addr)} {σ : L2.St} {ρ : Rho} {s s' : Sst}
theorem PostS.stm {α β : Type} {rep : Hp → β → α → Prop} {r : R α} {k : α → Sst → RS} {Q : β → Hp → Prop} {Dn : Ends} (h : StW K D O sl A0 S H0 L H σ ρ s) (p : PostS K D W O' OL sl A0 S H0 (r.stm ρ k) Dn)
    (hk : ∀ u s1 v H1, Ext S H H1 → SrcH S H1 s1 → rep H1 v u → PostS K D W O' OL sl A0 S H0 (k u s1) Dn → Q v H1) : PostG D W S σ H rep r Q := by
  cases r with
  | ok u s1 => exact fun v H1 e hs hr => hk u s1 v H1 e hs hr p
  | err c s1 => exact fun H1 e hs => p σ H1 (StM.none ⟨L, h.next e hs⟩)
  | stuck => exact p
section
variable {te : TE} {fe : EF} {ta tb ts : TS} {fa fb fs : SF} {g : TG} {pf : PF} {tt : TT} {ft : TF} {tas : TA} {fas : AF}
theorem sok_nil : SOK K D W O O OL sl tNext sNil := fun A0 S H0 H σ ρ s Dn h p => p σ H h
theorem sok_brk : SOK K D W O O' O sl tBreak sBrk := fun A0 S H0 H σ ρ s Dn h p => p σ H h
theorem sok_cnt : SOK K D W O O' O sl tCont sCnt := fun A0 S H0 H σ ρ s Dn h p => p σ H h
theorem sok_drop (q : Nat → Bool) (h : SOK K D W (O.filter q) O' OL sl ts fs) : SOK K D W O O' OL sl ts fs := fun A0 S H0 H σ ρ s Dn hs p => h A0 S H0 H σ ρ s Dn (hs.drop q) p
/-- behind a statement: fewer lists of the def's own, or the same in another turn -/
theorem sok_post (q : Nat → Bool) (h : SOK K D W O O1 OL sl ts fs) (e : ∀ i, i ∈ O1.filter q ↔ i ∈ O') : SOK K D W O O' OL sl ts fs := fun A0 S H0 H σ ρ s Dn hs p => h A0 S H0 H σ ρ s Dn hs (by
  cases e1 : fs ρ s with
  | nx ρ s => rw [e1] at p; exact fun σ' H' h' => p σ' H' ((h'.drop q).eqv e)
  | _ => rw [e1] at p; exact p)
theorem sok_seq (ha : SOK K D W O O1 OL sl ta fa) (hb : SOK K D W O1 O2 OL sl tb fb) : SOK K D W O O2 OL sl (tSeq ta tb) (sSeq fa fb) := fun A0 S H0 H σ ρ s Dn h p =>
  ha A0 S H0 H σ ρ s _ h (by
    unfold sSeq at p
    cases e : fa ρ s with
    | nx ρ' s' => rw [e] at p; exact fun σ' H' h' => hb A0 S H0 H' σ' ρ' s' Dn h' p
    | _ => rw [e] at p; exact p)
theorem tg_name {ok : Nat → Prop} {i : Nat} (n : ok i) : TgOK K D ok (gName i) (gN i) := fun M H P σ ρ v u ρ' R sm hp h r e q => by
  cases e
  exact q _ (hp i σ ρ v u n h r)
theorem tgs_nil {ok : Nat → Prop} : TgsOK K D ok gNil gsNil := fun M H P σ ρ v u ρ' R sm hp h r e q => by
  cases u with
  | cons _ _ => simp [gsNil] at e
  | nil =>
    cases r
    cases e
    exact ⟨rfl, q _ h⟩
theorem tgs_cons {ok : Nat → Prop} {gs : TGs} {ps : List U → Rho → Option Rho} (h1 : TgOK K D ok g pf) (hs : TgsOK K D ok gs ps) : TgsOK K D ok (gCons g gs) (gsCons pf ps) := fun M H P σ ρ v u ρ' R sm hp h r e q => by
  cases u with
  | nil => simp [gsCons] at e
  | cons u us =>
    cases r with
    | cons r1 r2 =>
      simp only [gsCons, Option.bind_eq_some_iff] at e
      obtain ⟨ρ1, e1, e2⟩ := e
      exact ⟨_, _, rfl, h1 M H P σ ρ _ u ρ1 _ sm hp h r1 e1 fun σ' h' => hs M H P σ' ρ1 _ us ρ' R sm hp h' r2 e2 q⟩
theorem tg_tup {ok : Nat → Prop} {n : Nat} {gs : TGs} {ps : List U → Rho → Option Rho} (hl : ∀ us ρ ρ', ps us ρ = some ρ' → us.length = n) (hs : TgsOK K D ok gs ps) : TgOK K D ok (gTup K n gs) (gT ps) := fun M H P σ ρ v u ρ' R sm hp h r e q => by
  unfold gT at e
  split at e
  · cases r with
    | tup et er => exact ⟨_, _, rfl, Same.tup sm et, by rw [er.length]; exact hl _ _ _ e, hs M H P σ ρ _ _ ρ' R sm hp h er e q⟩
  · cases e
theorem tg_unl {ok : Nat → Prop} {n : Nat} {gs : TGs} {ps : List U → Rho → Option Rho} (hl : ∀ us ρ ρ', ps us ρ = some ρ' → us.length = n) (hs : TgsOK K D ok gs ps) : TgOK K D ok (gUnl K n gs) (gL ps) := fun M H P σ ρ v u ρ' R sm hp h r e q => by
  unfold gL at e
  split at e
  · cases r with
    | lst et er => exact ⟨_, _, rfl, .of (sm _ _ et), by rw [er.length]; exact hl _ _ _ e, hs M H P σ ρ _ _ ρ' R sm hp h er e q⟩
  · cases e
theorem StW.target {v : V} {u : U} {ρ' : Rho} {R : L2.St → Hp → Prop} (hg : TgOK K D (okS O sl) g pf) (h : StW K D O sl A0 S H0 L H σ ρ s) (r : Rep K D (mask H (L.map (·.2) ++ A0)) v u) (e : pf u ρ = some ρ') (q : ∀ σ', StW K D O sl A0 S H0 L H σ' ρ' s → R σ' H) : g v σ H R :=
  hg _ H (fun σ ρ => StW K D O sl A0 S H0 L H σ ρ s) σ ρ v u ρ' R (mask_same _ _) (fun i σ ρ v u ok h r => h.set ok.1 ok.2 r) h r e q
theorem gs_len_nil : ∀ us ρ ρ', gsNil us ρ = some ρ' → us.length = 0 := fun us ρ ρ' e => by
  cases us with
  | nil => rfl
  | cons _ _ => simp [gsNil] at e
theorem gs_len_cons {n : Nat} {p : PF} {ps : List U → Rho → Option Rho} (h : ∀ us ρ ρ', ps us ρ = some ρ' → us.length = n) : ∀ us ρ ρ', gsCons p ps us ρ = some ρ' → us.length = n + 1 := fun us ρ ρ' e => by
  cases us with
  | nil => simp [gsCons] at e
  | cons u us =>
    simp only [gsCons, Option.bind_eq_some_iff] at e
    obtain ⟨ρ1, e1, e2⟩ := e
    rw [List.length_cons, h _ _ _ e2]
theorem sok_asg (he : EOK K D W O sl Cl te fe) (hg : TgOK K D (okS O sl) g pf) : SOK K D W O O OL sl (tAsg te g) (sAsg pf fe) := fun A0 S H0 H σ ρ s Dn hm p => by
  obtain ⟨L, h⟩ := hm
  refine he _ S H σ ρ s _ h.ctx (PostS.stm h p fun u s1 v H1 e hs r q => ?_)
  split at q
  · rename_i ρ' e1
    exact (h.next e hs).target hg r e1 fun σ' h' => q _ _ ⟨L, h'⟩
  · exact q.elim
/-- an expression that makes a new list or dict -/
def FOK (K : PySem.W.Frag) (D : String → Addr) (W : WX) (O : List Nat) (sl : Option Nat) (te : TE) (f : EF) : Prop := ∀ A S H σ ρ s Q, Ctx K D O sl A S H σ ρ s → PostG D W S σ H (fun H' v u => ∃ p, v = .ref p ∧ H p = none ∧ OwnAt K D (mask H' (p :: A)) H' p u) (f ρ s) Q → te σ H Q
theorem sok_own {i : Nat} (n : i ∉ O) (n2 : sl ≠ some i) (he : FOK K D W O sl te fe) : SOK K D W O (i :: O) OL sl (tAsg te (gName i)) (sAsg (gN i) fe) := fun A0 S H0 H σ ρ s Dn hm p => by
  obtain ⟨L, h⟩ := hm
  refine he _ S H σ ρ s _ h.ctx (PostS.stm h p fun u s1 v H1 e hs r q => ?_)
  obtain ⟨p, rfl, np, o⟩ := r
  exact q _ _ ⟨_, h.own_new e hs n n2 np o⟩
theorem fok_lst (h : AOK K D W O sl ClA tas fas) : FOK K D W O sl (tLst tas) (eN pLst fas) := fun A S H σ ρ s Q c q =>
  h A S H σ ρ s _ c (q.bind fun xs s1 vs H1 e1 h1 r1 q1 => by
    obtain ⟨z, hz, q3⟩ := q1.opt h1
    unfold pLst at hz
    split at hz
    · rename_i hl
      cases hz
      refine ⟨by rw [RepAll.length r1]; exact lineB_le hl, fun p np => q3 _ _ (Same.new np) ⟨p, rfl, ?_, .inl ⟨vs, xs, rfl, upd_same, RepAll.same (fun b o m => ?_) xs r1⟩⟩⟩
      · cases q : H p with
        | none => rfl
        | some x => exact absurd np (e1.2 p (by rw [q]; exact fun z => nomatch z))
      · obtain ⟨n, m⟩ := mask_some m
        have ne : b ≠ p := fun z => by rw [z, np] at m; cases m
        refine mask_of (fun z => ?_) (by rw [upd_ne ne]; exact m)
        rcases List.mem_cons.mp z with z | z
        · exact ne z
        · exact n z
    · cases hz)
theorem sok_par {i j : Nat} (n : i ∉ O) (n2 : sl ≠ some i) (m : j ∉ O) (m2 : sl ≠ some j) (ha : AOK K D W O sl ClA tas fas) : SOK K D W O O OL sl (tPar i j tas) (sPar [i, j] fas) := fun A0 S H0 H σ ρ s Dn hm p => by
  obtain ⟨L, h⟩ := hm
  refine ha _ S H σ ρ s _ h.ctx (PostS.stm h p fun us s1 vs H1 e hs r q => ?_)
  match us, vs, r with
  | [u, w], [v, v'], .cons r1 (.cons r2 _) => exact ⟨v, v', rfl, q _ _ ⟨L, ((h.next e hs).set n n2 r1).set m m2 r2⟩⟩
  | [], _, _ => exact q.elim
  | [_], _, _ => exact q.elim
  | _ :: _ :: _ :: _, _, _ => simp [PostS] at q
theorem sok_par3 {i j k : Nat} (n : i ∉ O) (n2 : sl ≠ some i) (m : j ∉ O) (m2 : sl ≠ some j) (l : k ∉ O) (l2 : sl ≠ some k) (ha : AOK K D W O sl ClA tas fas) : SOK K D W O O OL sl (tPar3 i j k tas) (sPar [i, j, k] fas) := fun A0 S H0 H σ ρ s Dn hm p => by
  obtain ⟨L, h⟩ := hm
  refine ha _ S H σ ρ s _ h.ctx (PostS.stm h p fun us s1 vs H1 e hs r q => ?_)
  match us, vs, r with
  | [u, w, x], [v, v', v''], .cons r1 (.cons r2 (.cons r3 _)) => exact ⟨v, v', v'', rfl, q _ _ ⟨L, (((h.next e hs).set n n2 r1).set m m2 r2).set l l2 r3⟩⟩
  | [], _, _ => exact q.elim
  | [_], _, _ => exact q.elim
  | [_, _], _, _ => exact q.elim
  | _ :: _ :: _ :: _ :: _, _, _ => simp [PostS] at q
theorem sok_aug {i : Nat} {ti : TIp} {pp : U → U → Option U} (n : i ∉ O) (n2 : sl ≠ some i) (hp : OpOK K D ti pp) (he : EOK K D W O sl Sn te fe) : SOK K D W O O OL sl (tAug i te ti) (sAsg (gN i) (e2 pp (eV i) fe)) := fun A0 S H0 H σ ρ s Dn hm p => by
  obtain ⟨L, h⟩ := hm
  have p2 : PostG D W S σ H (Cl K D (L.map (·.2) ++ A0) S) (e2 pp (eV i) fe ρ s) (fun z H1 => Dn.nx (σ.set i (some z)) H1) := PostS.stm h p fun u s1 v H1 e hs r q => q _ _ ⟨L, (h.next e hs).set n n2 r⟩
  unfold e2 eV at p2
  split at p2
  · rename_i u e
    obtain ⟨v, h1, _, h2⟩ := h.ctx.env i u e
    refine ⟨v, h1, he _ S H σ ρ s _ h.ctx (PostG.bind p2 fun y s2 w H2 e2 hs2 r2 q2 => ?_)⟩
    obtain ⟨z, hz, q3⟩ := q2.opt hs2
    exact hp _ S H2 v w u y z _ (h.ctx.ext e2 hs2).dom (Sn.ext (.inl (h2 n)) e2 h.inA) r2 hz q3
  · exact p2.elim
theorem ok_ipadd : OpOK K D (ipI fun i j => i + j) pAdd' := fun A S H x y a b c Q d ha hb e q => by
  unfold pAdd' at e
  split at e
  · cases e
    obtain rfl := ha.int
    obtain rfl := hb.int
    exact ⟨_, _, rfl, rfl, q _ _ (Same.refl _) (.int _)⟩
  · cases e
theorem sok_drop1 (he : EOK K D W O sl Cl te fe) : SOK K D W O O OL sl (tDrop te) (sDrop fe) := fun A0 S H0 H σ ρ s Dn hm p => by
  obtain ⟨L, h⟩ := hm
  exact he _ S H σ ρ s _ h.ctx (PostS.stm h p fun u s1 v H1 e hs r q => q _ _ ⟨L, h.next e hs⟩)
theorem StW.out {v : V} {u : U} (h : StW K D O sl A0 S H0 L H σ ρ s) (r : Rep K D (mask H (L.map (·.2) ++ A0)) v u) : Rep K D (mask H A0) v u := r.same (mask_sub fun a m => List.mem_append_right _ m)
theorem sok_ret (he : EOK K D W O sl Cl te fe) : SOK K D W O O' OL sl (tRet te) (sRet fe) := fun A0 S H0 H σ ρ s Dn hm p => by
  obtain ⟨L, h⟩ := hm
  exact he _ S H σ ρ s _ h.ctx (PostS.stm h p fun u s1 v H1 e hs r q => q _ _ (h.ext.trans e) hs ((h.next e hs).out r))
theorem sok_retN : SOK K D W O O' OL sl tRetN sRetN := fun A0 S H0 H σ ρ s Dn hm p => by
  obtain ⟨L, h⟩ := hm
  exact p _ _ h.ext h.ctx.src .non
theorem sok_if (hc : TOK K D W O sl tt ft) (ha : SOK K D W O O' OL sl ta fa) (hb : SOK K D W O O' OL sl tb fb) : SOK K D W O O' OL sl (tIfS tt ta tb) (sIf ft fa fb) := fun A0 S H0 H σ ρ s Dn hm p => by
  obtain ⟨L, h⟩ := hm
  refine hc _ S H σ ρ s _ h.ctx (PostS.stm h p fun u s1 v H1 e hs r q => ?_)
  have e2 : v = u := r
  subst e2
  cases v with
  | true => exact ha A0 S H0 H1 σ ρ s1 Dn ⟨L, h.next e hs⟩ q
  | false => exact hb A0 S H0 H1 σ ρ s1 Dn ⟨L, h.next e hs⟩ q
theorem sok_raise {c : String} (he : EOK K D W O sl Cl te fe) : SOK K D W O O' OL sl (fun _ σ H => te σ H fun _ H1 => W (.ref (D c)) none σ H1) (sRaise c fe) := fun A0 S H0 H σ ρ s Dn hm p => by
  obtain ⟨L, h⟩ := hm
  exact he _ S H σ ρ s _ h.ctx (PostS.stm h p fun u s1 v H1 e hs r q => q _ _ (StM.none ⟨L, h.next e hs⟩))
theorem sok_while {n : Nat} (hc : TOK K D W O sl tt ft) (hb : SOK K D W O O O sl tb fb) : SOK K D W O O OL sl (tWhile tt tb) (sWhile n ft fb) := fun A0 S H0 H σ ρ s Dn hm p => by
  refine ⟨fun m σ H => ∃ ρ s, StM K D O sl A0 S H0 H σ ρ s ∧ PostS K D W O OL sl A0 S H0 (loopW ft fb m ρ s) Dn, ⟨n, ρ, s, hm, p⟩, ?_⟩
  rintro m σ H ⟨ρ, s, ⟨L, h⟩, p⟩
  cases m with
  | zero => exact p.elim
  | succ m =>
    refine hc _ S H σ ρ s _ h.ctx (PostS.stm h p fun u s1 v H1 e hs r q => ?_)
    have e2 : v = u := r
    subst e2
    cases v with
    | false => exact q _ _ ⟨L, h.next e hs⟩
    | true =>
      refine ⟨fun σ H => ∃ ρ s, StM K D O sl A0 S H0 H σ ρ s ∧ PostS K D W O OL sl A0 S H0 (loopW ft fb m ρ s) Dn, fun σ' H' h' => ⟨m, Nat.lt_succ_self m, h'⟩, ?_⟩
      refine hb A0 S H0 H1 σ ρ s1 _ ⟨L, h.next e hs⟩ ?_
      have q' := (if_pos rfl : (if true = true then (match fb ρ s1 with
        | .nx ρ s => loopW ft fb m ρ s
        | .ct ρ s => loopW ft fb m ρ s
        | .bk ρ s => .nx ρ s
        | o => o) else RS.nx ρ s1) = _) ▸ q
      cases e3 : fb ρ s1 with
      | nx ρ' s' => rw [e3] at q'; exact fun σ' H' h' => ⟨ρ', s', h', q'⟩
      | ct ρ' s' => rw [e3] at q'; exact fun σ' H' h' => ⟨ρ', s', h', q'⟩
      | bk ρ' s' => rw [e3] at q'; exact q'
      | rt u s' => rw [e3] at q'; exact q'
      | er c ρ' s' => rw [e3] at q'; exact q'
      | stuck => rw [e3] at q'; exact q'
end
end
end My

set_option linter.all false
set_option maxRecDepth 100000
namespace My
open PySem PySem.Spec PyProof.Rows L2
open C8 (pe_gc)
/-! ### what is walked -/
def Yd (K : PySem.W.Frag) (D : String → Addr) (M H : Hp) (x : V) (H' : Hp) (u : U) : Prop := (H' = H ∧ Rep K D M x u) ∨ ∃ T vs us, x = .ref T ∧ H T = none ∧ H' = upd H T (.tup vs) ∧ u = .tup us ∧ RepAll K D M vs us
structure JOK (K : PySem.W.Frag) (D : String → Addr) (J : It) (us : List U) (M : Hp) : Prop where
  go : ∀ i H, i < us.length → Same M H → J.go i H
  stop : ∀ H, Same M H → J.stop us.length H
  yld : ∀ i H x H' u, us[i]? = some u → Same M H → J.yld i H x H' → Yd K D M H x H' u
def IOK (K : PySem.W.Frag) (D : String → Addr) (W : WX) (O : List Nat) (sl : Option Nat) (wi : TI) (f : AF) : Prop := ∀ A S H σ ρ s (R : It → Hp → Prop), Ctx K D O sl A S H σ ρ s → PostG D W S σ H (fun H' (J : It) us => JOK K D J us (mask H' A)) (f ρ s) R → wi σ H R
def iSeqT (K : PySem.W.Frag) (tl : TE) : TI := fun σ H R => tl σ H fun x H1 => ∃ a, x = .ref a ∧ (((∃ xs, SqL K H1 a xs) ∧ R (Itl K a) H1) ∨ ((∃ xs, SqT K H1 a xs) ∧ R (Itt K a) H1))
theorem thnI {M : Model} {A : Around} {α : Type} {m : Sem α} {Q Q' : α → Shared → Prop} {E : Value → Shared → Prop} {s : Shared} (h : wpAny M A m Q E s) (k : ∀ a s, Q a s → Q' a s) : wpAny M A m Q' E s := wpAny_mono h k fun _ _ x => x
theorem pi_seq {X : Cx} {tg l : Expr} {tl : TE} (hl : PE X l tl) : PI X tg l (iSeqT X.K tl) := by
  refine ⟨fun pins s σ H R I h => thnI (hl.run pins s σ H _ I h) fun v s1 hq => ?_⟩
  obtain ⟨x, H1, I1, r1, a, rfl, q⟩ := hq
  cases r1
  rcases q with ⟨⟨xs, hq⟩, q⟩ | ⟨⟨xs, hq⟩, q⟩
  · obtain ⟨its, rv, p, hz⟩ := I1.list hq
    exact wpAny_pyIter_list p.isList (pi_one (tk := s1.toks) I1 _ (turn_list a _) ⟨_, Heap.get?_push_size _ rfl, rfl, rfl⟩ q)
  · obtain ⟨its, rv, p, hz⟩ := I1.tuple hq
    exact wpAny_pyIter_tuple (show s1.heap.IsTuple a its.toArray from p) (pi_one (tk := s1.toks) I1 _ (turn_tuple a _) ⟨_, Heap.get?_push_size _ rfl, rfl, rfl⟩ q)
section
variable {K : PySem.W.Frag} {D : String → Addr} {W : WX} {O O' OL : List Nat} {sl : Option Nat} {A A0 S : List Addr} {H0 H0' H H' H1 : Hp} {L : List (Nat × Addr)} {σ : L2.St} {ρ : Rho} {s s' : Sst}
variable {te tl : TE} {fe fl : EF} {tb : TS} {fb : SF} {g : TG} {pf : PF} {tt : TT} {ft : TF} {tas : TA} {fas fi : AF} {wi : TI}
theorem jok_list {a : Addr} {vs : List V} {us : List U} {M : Hp} (h : M a = some (.lst vs)) (r : RepAll K D M vs us) : JOK K D (Itl K a) us M where
  go := fun i H hi sm => walk_list.goes i H (by rw [r.length]; exact hi) (.of (sm _ _ h))
  stop := fun H sm => by rw [← r.length]; exact walk_list.stops H (.of (sm _ _ h))
  yld := fun i H x H' u e sm y => by
    obtain ⟨v, e1, e2⟩ := r.get e
    obtain ⟨h1, h2⟩ := walk_list.yields i H x H' (List.getElem?_eq_some_iff.mp e1).1 (.of (sm _ _ h)) y
    rw [e1] at h2
    cases h2
    exact .inl ⟨h1, e2⟩
theorem jok_tup {a : Addr} {vs : List V} {us : List U} {M : Hp} (h : SqT K M a vs) (r : RepAll K D M vs us) : JOK K D (Itt K a) us M where
  go := fun i H hi sm => walk_tup.goes i H (by rw [r.length]; exact hi) (Same.tup sm h)
  stop := fun H sm => by rw [← r.length]; exact walk_tup.stops H (Same.tup sm h)
  yld := fun i H x H' u e sm y => by
    obtain ⟨v, e1, e2⟩ := r.get e
    obtain ⟨h1, h2⟩ := walk_tup.yields i H x H' (List.getElem?_eq_some_iff.mp e1).1 (Same.tup sm h) y
    rw [e1] at h2
    cases h2
    exact .inl ⟨h1, e2⟩
theorem iok_seq (h : EOK K D W O sl Cl tl fl) : IOK K D W O sl (iSeqT K tl) (iSeq fl) := fun A S H σ ρ s R c q =>
  h A S H σ ρ s _ c (q.bind fun x s1 v H1 e1 h1 r1 q1 => by
    cases x with
    | lst us =>
      cases r1 with
      | lst e r => exact ⟨_, rfl, .inl ⟨⟨_, .of (mask_some e).2⟩, q1 _ _ (Ext.refl _ _) h1 (jok_list e r)⟩⟩
    | tup us =>
      cases r1 with
      | tup e r => exact ⟨_, rfl, .inr ⟨⟨_, SqT.full e⟩, q1 _ _ (Ext.refl _ _) h1 (jok_tup e r)⟩⟩
    | _ => exact q1.elim)
theorem rngU_get {lo c : Int} {n i : Nat} {u : U} (e : (rngU lo n c)[i]? = some u) : u = .int (lo + i * c) ∧ i < n := by
  unfold rngU at e
  rw [List.getElem?_map] at e
  have hl : i < n := by
    by_cases hl : i < n
    · exact hl
    · rw [List.getElem?_eq_none (by rw [List.length_range]; omega)] at e
      cases e
  rw [List.getElem?_range hl] at e
  exact ⟨by simpa using e.symm, hl⟩
theorem rngU_len {lo c : Int} {n : Nat} : (rngU lo n c).length = n := by simp [rngU]
theorem jok_rng {lo : Int} {n : Nat} {M : Hp} : JOK K D (Itr lo n) (rngU lo n 1) M where
  go := fun i H hi sm => by rw [rngU_len] at hi; exact hi
  stop := fun H sm => by rw [rngU_len]; exact Nat.le_refl _
  yld := fun i H x H' u e sm y => by
    obtain ⟨rfl, hl⟩ := rngU_get e
    obtain ⟨h1, h2⟩ := walk_range.yields i H x H' hl trivial y
    subst h1 h2
    rw [Int.mul_one]
    exact .inl ⟨rfl, .int _⟩
theorem jok_rngC {lo c : Int} {n : Nat} {M : Hp} : JOK K D (Itc lo c n) (rngU lo n c) M where
  go := fun i H hi sm => by rw [rngU_len] at hi; exact hi
  stop := fun H sm => by rw [rngU_len]; exact Nat.le_refl _
  yld := fun i H x H' u e sm y => by
    obtain ⟨rfl, hl⟩ := rngU_get e
    obtain ⟨h1, h2⟩ := walk_rangeC.yields i H x H' hl trivial y
    subst h1 h2
    exact .inl ⟨rfl, .int _⟩
theorem iok_rng1 (h : AOK K D W O sl SnA tas fas) : IOK K D W O sl (iRng1 tas) (iRng pRng1 fas) := fun A S H σ ρ s R c q =>
  h A S H σ ρ s _ c (q.bind fun xs s1 vs H1 e1 h1 r1 q1 => by
    cases e : pRng1 xs with
    | none => rw [e] at q1; exact q1.elim
    | some us =>
      rw [e] at q1
      unfold pRng1 at e
      split at e
      · split at e
        · rename_i hl
          cases e
          obtain ⟨v, rfl, h2⟩ := r1.one
          obtain rfl := h2.int
          have hl := of_decide_eq_true hl
          exact ⟨_, rfl, hl.1, hl.2, q1 _ _ (Ext.refl _ _) h1 jok_rng⟩
        · cases e
      · cases e)
theorem iok_rng2 (h : AOK K D W O sl SnA tas fas) : IOK K D W O sl (iRng2 tas) (iRng pRng2 fas) := fun A S H σ ρ s R c q =>
  h A S H σ ρ s _ c (q.bind fun xs s1 vs H1 e1 h1 r1 q1 => by
    cases e : pRng2 xs with
    | none => rw [e] at q1; exact q1.elim
    | some us =>
      rw [e] at q1
      unfold pRng2 at e
      split at e
      · split at e
        · rename_i hl
          cases e
          obtain ⟨v, w, rfl, h2, h3⟩ := r1.two
          obtain rfl := h2.int
          obtain rfl := h3.int
          simp only [Bool.and_eq_true] at hl
          have hl1 := of_decide_eq_true hl.1
          have hl2 := of_decide_eq_true hl.2
          exact ⟨_, _, rfl, ⟨hl1.1, hl1.2, hl2.1, hl2.2⟩, q1 _ _ (Ext.refl _ _) h1 jok_rng⟩
        · cases e
      · cases e)
theorem iok_rng3 (h : AOK K D W O sl SnA tas fas) : IOK K D W O sl (iRng3 tas) (iRng pRng3 fas) := fun A S H σ ρ s R c q =>
  h A S H σ ρ s _ c (q.bind fun xs s1 vs H1 e1 h1 r1 q1 => by
    cases e : pRng3 xs with
    | none => rw [e] at q1; exact q1.elim
    | some us =>
      rw [e] at q1
      unfold pRng3 at e
      split at e
      · split at e
        · rename_i hl
          cases e
          match vs, r1 with
          | [v, w, x], h2 =>
            obtain rfl := h2.1.int
            obtain rfl := h2.2.1.int
            obtain rfl := h2.2.2.1.int
            simp only [Bool.and_eq_true] at hl
            have hl1 := of_decide_eq_true hl.1
            have hl2 := of_decide_eq_true hl.2
            exact ⟨_, _, _, _, rfl, RgC.neg hl1.1 hl1.2 hl2.1 hl2.2, q1 _ _ (Ext.refl _ _) h1 jok_rngC⟩
        · cases e
      · cases e)
/-! ### for -/
theorem StM.rebase (h : StM K D O sl A0 S H0' H σ ρ s) (e : Ext S H0 H0') : StM K D O sl A0 S H0 H σ ρ s := by
  obtain ⟨L, h⟩ := h
  refine ⟨L, h.slots, h.once, h.apart, fun p m => ⟨(h.fresh p m).1, ?_⟩, h.own, h.ctx, e.trans h.ext, h.sub⟩
  cases q : H0 p.2 with
  | none => rfl
  | some x => exact absurd (h.fresh p m).2 (e.2 _ (by rw [q]; exact fun z => nomatch z))
theorem PostS.rebase {r : RS} {Dn : Ends} (p : PostS K D W O' OL sl A0 S H0 r Dn) (e : Ext S H0 H0') : PostS K D W O' OL sl A0 S H0' r Dn := by
  cases r with
  | nx ρ s => exact fun σ' H' h => p σ' H' (h.rebase e)
  | bk ρ s => exact fun σ' H' h => p σ' H' (h.rebase e)
  | ct ρ s => exact fun σ' H' h => p σ' H' (h.rebase e)
  | rt u s => exact fun v H' h hs r => p v H' (e.trans h) hs r
  | er c ρ s => exact fun σ' H' h => p σ' H' (h.rebase e)
  | stuck => exact p
theorem sok_for (hi : IOK K D W O sl wi fi) (hg : TgOK K D (okS O sl) g pf) (hb : SOK K D W O O O sl tb fb) : SOK K D W O O OL sl (tFor wi g tb) (sFor fi pf fb) := fun A0 S H0 H σ ρ s Dn hm p => by
  obtain ⟨L, h⟩ := hm
  refine hi _ S H σ ρ s _ h.ctx (PostS.stm h p fun us s1 J H1 e hs hJ q => ?_)
  have h1 := h.next e hs
  -- what the walked thing leans on stays as it is: from here on all of it counts as the entry
  have eB : Ext S H0 (mask H1 (L.map (·.2))) := by
    refine ⟨fun b o n hb => mask_of (fun z => ?_) (h1.ext.1 b o n hb), fun b hb => ?_⟩
    · obtain ⟨p, m, rfl⟩ := List.mem_map.mp z
      rw [(h1.fresh p m).2] at hb
      cases hb
    · have k := h1.ext.2 b hb
      cases q2 : H1 b with
      | none => exact absurd q2 k
      | some x =>
        rw [mask_of (fun z => ?_) q2]
        · exact fun z => nomatch z
        · obtain ⟨p, m, rfl⟩ := List.mem_map.mp z
          exact hb (h1.fresh p m).2
  have h2 : StW K D O sl A0 S (mask H1 (L.map (·.2))) L H1 σ ρ s1 := ⟨h1.slots, h1.once, h1.apart, fun p m => ⟨(h1.fresh p m).1, by unfold mask; rw [if_pos (mem_snd m)]⟩, h1.own, h1.ctx, .of (mask_same _ _), h1.sub⟩
  have q := PostS.rebase q eB
  refine ⟨fun i m σ H => m = us.length - i ∧ i ≤ us.length ∧ ∃ ρ s, StM K D O sl A0 S (mask H1 (L.map (·.2))) H σ ρ s ∧ PostS K D W O OL sl A0 S (mask H1 (L.map (·.2))) (loopF pf fb (us.drop i) ρ s) Dn, ⟨us.length, by simp, Nat.zero_le _, ρ, s1, ⟨L, h2⟩, q⟩, ?_⟩
  rintro i m σ2 H2 ⟨rfl, hil, ρ2, s2, ⟨L2, h3⟩, p3⟩
  have sm : Same (mask H1 (L.map (·.2) ++ A0)) (mask H2 (L2.map (·.2) ++ A0)) := fun b o hb => by
    obtain ⟨n, hb⟩ := mask_some hb
    have k : mask H1 (L.map (·.2)) b = some o := mask_of (fun z => n (List.mem_append_left _ z)) hb
    refine mask_of (fun z => ?_) (h3.ext.1 b o (fun z => n (List.mem_append_right _ (h.sub b z))) k)
    rcases List.mem_append.mp z with z | z
    · obtain ⟨p, m, rfl⟩ := List.mem_map.mp z
      rw [(h3.fresh p m).2] at k
      cases k
    · exact n (List.mem_append_right _ z)
  have sm2 : Same (mask H1 (L.map (·.2) ++ A0)) H2 := fun b o hb => (mask_some (sm b o hb)).2
  by_cases hlt : i < us.length
  · have e0 : us.drop i = us[i] :: us.drop (i + 1) := List.drop_eq_getElem_cons hlt
    rw [e0] at p3
    refine .inr ⟨hJ.go i H2 hlt sm2, fun σ H => ∃ ρ s, StM K D O sl A0 S (mask H1 (L.map (·.2))) H σ ρ s ∧ PostS K D W O OL sl A0 S (mask H1 (L.map (·.2))) (loopF pf fb (us.drop (i + 1)) ρ s) Dn, fun σ' H' h' => ⟨us.length - (i + 1), by omega, rfl, hlt, h'⟩, fun x H' y => ?_⟩
    have hy := hJ.yld i H2 x H' us[i] (List.getElem?_eq_getElem hlt) sm2 y
    have h4 : StW K D O sl A0 S (mask H1 (L.map (·.2))) L2 H' σ2 ρ2 s2 ∧ Rep K D (mask H' (L2.map (·.2) ++ A0)) x us[i] := by
      rcases hy with ⟨rfl, r⟩ | ⟨T, vs, ws, rfl, nT, rfl, eu, r⟩
      · exact ⟨h3, r.same sm⟩
      · rw [eu]
        exact ⟨h3.next (Ext.new nT) (h3.ctx.src.same (Same.new nT)), Rep.newT (r.same sm) nT h3.ctx.dom⟩
    unfold loopF at p3
    split at p3
    · exact p3.elim
    · rename_i ρ3 e3
      refine h4.1.target hg h4.2 e3 fun σ' h' => hb A0 S _ H' σ' ρ3 s2 _ ⟨L2, h'⟩ ?_
      cases e5 : fb ρ3 s2 with
      | nx ρ' s' => rw [e5] at p3; exact fun σ' H' h' => ⟨ρ', s', h', p3⟩
      | ct ρ' s' => rw [e5] at p3; exact fun σ' H' h' => ⟨ρ', s', h', p3⟩
      | bk ρ' s' => rw [e5] at p3; exact p3
      | rt u s' => rw [e5] at p3; exact p3
      | er c ρ' s' => rw [e5] at p3; exact p3
      | stuck => rw [e5] at p3; exact p3
  · have ei : i = us.length := by omega
    subst ei
    rw [List.drop_length] at p3
    exact .inl ⟨hJ.stop H2 sm2, p3 _ _ ⟨L2, h3⟩⟩
/-! ### a comprehension -/
theorem wipe_len (σ : L2.St) (vs : List Nat) : (wipe σ vs).length = σ.length := wipe_length σ vs
theorem wipeR_len (ρ : Rho) : ∀ vs : List Nat, (wipeR ρ vs).length = ρ.length
  | [] => rfl
  | v :: vs => by unfold wipeR; rw [List.length_set, wipeR_len ρ vs]
theorem wipe_get (σ : L2.St) : ∀ (vs : List Nat) (j : Nat), (wipe σ vs)[j]? = if j ∈ vs then (if j < σ.length then some none else none) else σ[j]?
  | [], j => by simp [wipe]
  | v :: vs, j => by
    unfold wipe
    by_cases e : v = j
    · subst e
      rw [if_pos List.mem_cons_self]
      by_cases hl : v < σ.length
      · rw [if_pos hl, List.getElem?_set_self (by rw [wipe_len]; exact hl)]
      · rw [if_neg hl, List.getElem?_eq_none (by rw [List.length_set, wipe_len]; omega)]
    · rw [List.getElem?_set_ne e, wipe_get σ vs j]
      by_cases m : j ∈ vs
      · rw [if_pos m, if_pos (List.mem_cons_of_mem _ m)]
      · rw [if_neg m, if_neg (fun z => by rcases List.mem_cons.mp z with z | z; exact e z.symm; exact m z)]
theorem wipe_eq {σ τ : L2.St} {vs : List Nat} (hl : σ.length = τ.length) (h : ∀ j, j ∉ vs → σ[j]? = τ[j]?) : wipe σ vs = wipe τ vs := by
  apply List.ext_getElem?
  intro j
  rw [wipe_get, wipe_get, hl]
  split
  · rfl
  · rename_i m
    exact h j m
theorem wipeR_get (ρ : Rho) : ∀ (vs : List Nat) (j : Nat) (u : U), (wipeR ρ vs)[j]? = some (some u) → j ∉ vs ∧ ρ[j]? = some (some u)
  | [], j, u, e => ⟨by simp, e⟩
  | v :: vs, j, u, e => by
    unfold wipeR at e
    by_cases ne : v = j
    · subst ne
      by_cases hl : v < (wipeR ρ vs).length
      · rw [List.getElem?_set_self hl] at e; cases e
      · rw [List.getElem?_eq_none (by rw [List.length_set]; omega)] at e; cases e
    · rw [List.getElem?_set_ne ne] at e
      obtain ⟨h1, h2⟩ := wipeR_get ρ vs j u e
      exact ⟨fun z => by rcases List.mem_cons.mp z with z | z; exact ne z.symm; exact h1 z, h2⟩
/-- slots of a comprehension's own -/
def okC (vs O : List Nat) (sl : Option Nat) (i : Nat) : Prop := i ∈ vs ∧ i ∉ O ∧ sl ≠ some i
theorem Ctx.wiped {vs : List Nat} (c : Ctx K D O sl A S H σ ρ s) (hv : ∀ i ∈ vs, sl ≠ some i) : Ctx K D O sl A S H (wipe σ vs) (wipeR ρ vs) s where
  sub := c.sub
  dom := c.dom
  len := by rw [wipe_len, wipeR_len]; exact c.len
  env := fun i u e => by
    obtain ⟨n, e⟩ := wipeR_get ρ vs i u e
    rw [wipe_get, if_neg n]
    exact c.env i u e
  src := c.src
  slot := by
    cases sl with
    | none => trivial
    | some j =>
      obtain ⟨a, d, h1, h2⟩ := c.slot
      refine ⟨a, d, h1, ?_⟩
      rw [wipe_get, if_neg (fun m => hv j m rfl)]
      exact h2
theorem Ctx.inner {p : Addr} (c : Ctx K D O sl A S H σ ρ s) (np : H p = none) (e : Ext S H H') (hp : H' p ≠ none) (hs : SrcH S H' s') : Ctx K D O sl (p :: A) S H' σ ρ s' where
  sub := fun a m => List.mem_cons_of_mem _ (c.sub a m)
  dom := fun a m => by
    rcases List.mem_cons.mp m with rfl | m
    · exact hp
    · exact e.2 a (c.dom a m)
  len := c.len
  env := fun i u g => by
    have sm : Same (mask H A) (mask H' (p :: A)) := fun b o q => by
      obtain ⟨n, q⟩ := mask_some q
      refine mask_of (fun z => ?_) (e.1 b o (fun z => n (c.sub b z)) q)
      rcases List.mem_cons.mp z with z | z
      · rw [z, np] at q; cases q
      · exact n z
    obtain ⟨v, h1, h2, h3⟩ := c.env i u g
    refine ⟨v, h1, fun m => ?_, fun m => (h3 m).same sm⟩
    obtain ⟨a, e1, e2, e3⟩ := h2 m
    exact ⟨a, e1, e2, e3.ext e sm e2⟩
  src := hs
  slot := c.slot
theorem Ctx.set {i : Nat} {v : V} {u : U} (c : Ctx K D O sl A S H σ ρ s) (nO : i ∉ O) (nS : sl ≠ some i) (r : Rep K D (mask H A) v u) : Ctx K D O sl A S H (σ.set i (some v)) (ρ.set i (some u)) s where
  sub := c.sub
  dom := c.dom
  len := by rw [List.length_set, List.length_set]; exact c.len
  env := fun j w e => by
    rcases getSet e with ⟨rfl, rfl⟩ | ⟨ne, e⟩
    · exact ⟨v, setSelf c.len e, fun m => absurd m nO, fun _ => r⟩
    · rw [List.getElem?_set_ne ne]
      exact c.env j w e
  src := c.src
  slot := c.slot.set nS
/-- the state within a comprehension's block: the slots beside the block's own are as they were -/
theorem Ctx.targetC {vs : List Nat} {v : V} {u : U} {ρ' : Rho} {τ : L2.St} {R : L2.St → Hp → Prop} (hg : TgOK K D (okC vs O sl) g pf) (c : Ctx K D O sl A S H τ ρ s) (r : Rep K D (mask H A) v u) (e : pf u ρ = some ρ')
    (q : ∀ σ', Ctx K D O sl A S H σ' ρ' s → wipe σ' vs = wipe τ vs → R σ' H) : g v τ H R :=
  hg _ H (fun σ ρ => Ctx K D O sl A S H σ ρ s ∧ wipe σ vs = wipe τ vs) τ ρ v u ρ' R (mask_same _ _)
    (fun i σ ρ v u ok h r => ⟨h.1.set ok.2.1 ok.2.2 r, by
      rw [← h.2]
      exact wipe_eq (by rw [List.length_set]) fun j m => by rw [List.getElem?_set_ne fun z => m (by rw [← z]; exact ok.1)]⟩) ⟨c, rfl⟩ r e fun σ' h => q σ' h.1 h.2
theorem wipe_idem (σ : L2.St) (vs : List Nat) : wipe (wipe σ vs) vs = wipe σ vs := wipe_eq (wipe_len _ _) fun j m => by rw [wipe_get, if_neg m]
abbrev W0 : WX := fun _ _ _ _ => False
theorem Yd.inner {M : Hp} {x : V} {u : U} (y : Yd K D M H x H' u) (sm : Same M (mask H A)) (c : Ctx K D O sl A S H σ ρ s) : Ctx K D O sl A S H' σ ρ s ∧ Rep K D (mask H' A) x u ∧ Same H H' := by
  rcases y with ⟨rfl, r⟩ | ⟨T, vs, ws, rfl, nT, rfl, rfl, r⟩
  · exact ⟨c, r.same sm, Same.refl _⟩
  · exact ⟨c.same (Same.new nT), Rep.newT (r.same sm) nT c.dom, Same.new nT⟩
theorem fok_lc {vs : List Nat} (hv : ∀ i ∈ vs, sl ≠ some i) (hi : IOK K D W O sl wi fi) (hg : TgOK K D (okC vs O sl) g pf) (ht : TOK K D W0 O sl tt ft) (he : EOK K D W0 O sl Cl te fe) : FOK K D W O sl (tLc wi g tt te vs) (eLc vs fi pf ft fe) := fun A S Hs σ ρ s Q c q =>
  hi A S Hs σ ρ s _ c (q.bind fun us s1 J H1 e1 h1 hJ q1 => by
    intro p np
    have c1 : Ctx K D O sl A S H1 σ ρ s1 := c.ext e1 h1
    have pA : p ∉ A := fun z => c1.dom p z np
    have pS : p ∉ S := fun z => pA (c.sub p z)
    refine ⟨fun i m H => m = us.length - i ∧ i ≤ us.length ∧ ∃ acc accU s, Ext S H1 H ∧ SrcH S H s ∧ H p = some (.lst acc) ∧ RepAll K D (mask H (p :: A)) acc accU ∧
      PostG D W S σ H1 (fun H' v u => ∃ p, v = .ref p ∧ Hs p = none ∧ OwnAt K D (mask H' (p :: A)) H' p u) (((lcF pf ft fe (us.drop i) (wipeR ρ vs) s accU).noerr).bind fun xs s => .ok (.lst xs) s) Q, ⟨us.length, by simp, Nat.zero_le _, [], [], s1, Ext.new np, h1.same (Same.new np), upd_same, .nil, q1⟩, ?_⟩
    rintro i m H2 ⟨rfl, hil, acc, accU, s2, e2, h2, hp, hr, q2⟩
    have hpn : H2 p ≠ none := by rw [hp]; exact fun z => nomatch z
    have sm : Same (mask H1 A) (mask H2 (p :: A)) := fun b o hb => by
      obtain ⟨n, hb⟩ := mask_some hb
      refine mask_of (fun z => ?_) (e2.1 b o (fun z => n (c.sub b z)) hb)
      rcases List.mem_cons.mp z with z | z
      · rw [z, np] at hb; cases hb
      · exact n z
    have sm2 : Same (mask H1 A) H2 := fun b o hb => (mask_some (sm b o hb)).2
    have c2 : Ctx K D O sl (p :: A) S H2 (wipe σ vs) (wipeR ρ vs) s2 := (c1.inner np e2 hpn h2).wiped hv
    by_cases hlt : i < us.length
    · have e0 : us.drop i = us[i] :: us.drop (i + 1) := List.drop_eq_getElem_cons hlt
      rw [e0] at q2
      refine .inr ⟨hJ.go i H2 hlt sm2, fun H => ∃ acc accU s, Ext S H1 H ∧ SrcH S H s ∧ H p = some (.lst acc) ∧ RepAll K D (mask H (p :: A)) acc accU ∧
        PostG D W S σ H1 (fun H' v u => ∃ p, v = .ref p ∧ Hs p = none ∧ OwnAt K D (mask H' (p :: A)) H' p u) (((lcF pf ft fe (us.drop (i + 1)) (wipeR ρ vs) s accU).noerr).bind fun xs s => .ok (.lst xs) s) Q, fun H' h' => ⟨us.length - (i + 1), by omega, rfl, hlt, h'⟩, fun x H3 y => ?_⟩
      obtain ⟨c3, r3, s3⟩ := (hJ.yld i H2 x H3 us[i] (List.getElem?_eq_getElem hlt) sm2 y).inner sm c2
      unfold lcF at q2
      cases e3 : pf us[i] (wipeR ρ vs) with
      | none => rw [e3] at q2; exact q2.elim
      | some ρ3 =>
        rw [e3] at q2
        refine Ctx.targetC hg c3 r3 e3 fun σ3 c4 w4 => ⟨by rw [w4, wipe_idem], ht _ S H3 σ3 ρ3 s2 _ c4 ?_⟩
        cases e4 : ft ρ3 s2 with
        | err a b => simp only [e4] at q2; exact q2.elim
        | stuck => simp only [e4] at q2; exact q2.elim
        | ok b s4 =>
          simp only [e4] at q2
          intro b' H4 x4 h4 eb
          have eb' : b' = b := eb
          subst eb'
          have e14 : Ext S H1 H4 := (e2.trans (.of s3)).trans x4
          have hp4 : H4 p = some (.lst acc) := x4.1 _ _ pS (s3 _ _ hp)
          have smr : Same (mask H2 (p :: A)) (mask H4 (p :: A)) := ((Ext.of s3 : Ext S H2 H3).trans x4).mask c2.sub
          cases b' with
          | false => exact ⟨acc, accU, s4, e14, h4, hp4, hr.same smr, q2⟩
          | true =>
            refine he _ S H4 σ3 ρ3 s4 _ (c4.ext x4 h4) ?_
            cases e5 : fe ρ3 s4 with
            | err a b => simp only [R.bind, e5] at q2; exact q2.elim
            | stuck => simp only [R.bind, e5] at q2; exact q2.elim
            | ok y5 s5 =>
              intro v5 H5 x5 h5 r5
              have q3 : PostG D W S σ H1 (fun H' v u => ∃ p, v = .ref p ∧ Hs p = none ∧ OwnAt K D (mask H' (p :: A)) H' p u) (((if lineB (accU.length + 1) then lcF pf ft fe (us.drop (i + 1)) (wipeR ρ vs) s5 (accU ++ [y5]) else .stuck).noerr).bind fun xs s => .ok (.lst xs) s) Q := by
                simpa only [R.bind, e5, if_true] using q2
              have hp5 : H5 p = some (.lst acc) := x5.1 _ _ pS hp4
              have smr5 : Same (mask H2 (p :: A)) (mask H5 (p :: A)) := fun b o k => (x5.mask c2.sub) b o (smr b o k)
              split at q3
              · rename_i hl
                have eM : mask (upd H5 p (.lst (acc ++ [v5]))) (p :: A) = mask H5 (p :: A) := by
                  funext b
                  unfold mask
                  by_cases mb : b ∈ p :: A
                  · rw [if_pos mb, if_pos mb]
                  · rw [if_neg mb, if_neg mb, upd_ne fun z => mb (by rw [z]; exact List.mem_cons_self)]
                refine ⟨acc, hp5, ?_, acc ++ [v5], accU ++ [y5], s5, ?_, ?_, upd_same, ?_, q3⟩
                · have := lineB_le hl
                  rw [hr.length]
                  omega
                · refine ⟨fun b o n k => ?_, fun b k => ?_⟩
                  · have ne : b ≠ p := fun z => by rw [z, np] at k; cases k
                    rw [upd_ne ne]
                    exact (e14.trans x5).1 b o n k
                  · by_cases ne : b = p
                    · rw [ne, upd_same]; exact fun z => nomatch z
                    · rw [upd_ne ne]; exact (e14.trans x5).2 b k
                · rcases h5 with h5 | ⟨a, d, g1, g2, g3, g4⟩
                  · exact .inl h5
                  · have na : a ≠ p := fun z => pS (by rw [g1, ← z]; simp)
                    have nd : d ≠ p := fun z => pS (by rw [g1, ← z]; simp)
                    exact .inr ⟨a, d, g1, g2, by rw [upd_ne na]; exact g3, by rw [upd_ne nd]; exact g4⟩
                · rw [eM]
                  exact (hr.same smr5).snoc r5
              · exact q3.elim
    · have ei : i = us.length := by omega
      subst ei
      rw [List.drop_length] at q2
      refine .inl ⟨hJ.stop H2 sm2, q2 _ H2 e2 h2 ⟨p, rfl, ?_, .inl ⟨acc, accU, rfl, hp, hr⟩⟩⟩
      cases q : Hs p with
      | none => rfl
      | some x => exact absurd np (e1.2 p (by rw [q]; exact fun z => nomatch z)))
theorem eok_of (h : FOK K D W O sl te fe) : EOK K D W O sl Cl te fe := fun A S H σ ρ s Q c q => h A S H σ ρ s Q c (by
  cases e : fe ρ s with
  | ok u s1 =>
    rw [e] at q
    rintro v H' x hs ⟨p, rfl, np, o⟩
    have pA : p ∉ A := fun z => c.dom p z np
    exact q _ H' x hs (o.rep (mask_sub fun a m => List.mem_cons_of_mem _ m) fun o ho => mask_of pA ho)
  | err a b => rw [e] at q; exact q
  | stuck => rw [e] at q; exact q)
end
end My

set_option linter.all false
set_option maxRecDepth 100000
namespace My
open PySem PySem.Spec PyProof.Rows L2
open C8 (pe_gc)
section
variable {K : PySem.W.Frag} {D : String → Addr} {W : WX} {O O' OL : List Nat} {sl : Option Nat} {A A0 S : List Addr} {H0 H0' H H' H1 : Hp} {L : List (Nat × Addr)} {σ : L2.St} {ρ : Rho} {s s' : Sst}
variable {te tk : TE} {fe fk : EF} {tb : TS} {fb : SF} {g : TG} {pf : PF} {tt : TT} {ft : TF} {tas : TA} {fas fi : AF} {wi : TI}
theorem mask_upd {p : Addr} {o : HO} (m : p ∈ A) : mask (upd H p o) A = mask H A := by
  funext b
  unfold mask
  by_cases mb : b ∈ A
  · rw [if_pos mb, if_pos mb]
  · rw [if_neg mb, if_neg mb, upd_ne fun z => mb (by rw [z]; exact m)]
theorem StW.at (h : StW K D O sl A0 S H0 L H σ ρ s) {i : Nat} {u : U} (m : i ∈ O) (e : ρ[i]? = some (some u)) : ∃ p, (i, p) ∈ L ∧ σ[i]? = some (some (.ref p)) ∧ OwnAt K D (mask H (L.map (·.2) ++ A0)) H p u := by
  obtain ⟨⟨j, p⟩, m', rfl⟩ := List.mem_map.mp ((h.slots i).mpr m)
  obtain ⟨h1, w, h2, h3⟩ := h.own _ m' (List.getElem?_eq_some_iff.mp e).1
  have : w = u := by
    have k := h2.symm.trans e
    simpa using k
  subst this
  exact ⟨p, m', h1, h3⟩
theorem SrcH.put {p : Addr} {o : HO} (h : SrcH S H s) (n : p ∉ S) : SrcH S (upd H p o) s := by
  rcases h with h | ⟨a, c, h1, h2, h3, h4⟩
  · exact .inl h
  · subst h1
    have na : a ≠ p := fun z => n (by rw [z]; simp)
    have nc : c ≠ p := fun z => n (by rw [z]; simp)
    exact .inr ⟨a, c, rfl, h2, by rw [upd_ne na]; exact h3, by rw [upd_ne nc]; exact h4⟩
theorem upd_dom {p b : Addr} {o : HO} (h : H b ≠ none) : upd H p o b ≠ none := by
  by_cases e : b = p
  · rw [e, upd_same]; exact fun z => nomatch z
  · rw [upd_ne e]; exact h
/-- a list of the def's own is changed -/
theorem StW.mut (h : StW K D O sl A0 S H0 L H σ ρ s) {i : Nat} {p : Addr} {o : HO} {u : U} (m : (i, p) ∈ L) (ho : OwnAt K D (mask H (L.map (·.2) ++ A0)) (upd H p o) p u) : StW K D O sl A0 S H0 L (upd H p o) σ (ρ.set i (some u)) s := by
  have mA : p ∈ L.map (·.2) ++ A0 := List.mem_append_left _ (mem_snd m)
  have eM : mask (upd H p o) (L.map (·.2) ++ A0) = mask H (L.map (·.2) ++ A0) := mask_upd mA
  have mO : i ∈ O := (h.slots i).mp (List.mem_map.mpr ⟨_, m, rfl⟩)
  have one : ∀ q ∈ L, q.1 = i → q = (i, p) := by
    intro q mq e
    have key : ∀ {L : List (Nat × Addr)}, (L.map (·.1)).Nodup → ∀ {p q : Nat × Addr}, p ∈ L → q ∈ L → p.1 = q.1 → p = q := by
      intro L
      induction L with
      | nil => intro _ p q m1; cases m1
      | cons x L ih =>
        intro n p q m1 m2 e
        rw [List.map_cons, List.nodup_cons] at n
        have ms : ∀ {p : Nat × Addr}, p ∈ L → p.1 ∈ L.map (·.1) := fun m => List.mem_map.mpr ⟨_, m, rfl⟩
        rcases List.mem_cons.mp m1 with e1 | k1
        · rcases List.mem_cons.mp m2 with e2 | k2
          · rw [e1, e2]
          · exact absurd (by rw [← e1, e]; exact ms k2) n.1
        · rcases List.mem_cons.mp m2 with e2 | k2
          · exact absurd (by rw [← e2, ← e]; exact ms k1) n.1
          · exact ih n.2 k1 k2 e
    exact key h.once mq m e
  have ne_of : ∀ q ∈ L, q.1 ≠ i → q.2 ≠ p := fun q mq ne z => ne (by rw [nodup_snd h.apart mq m z])
  refine ⟨h.slots, h.once, h.apart, h.fresh, fun q mq hl => ?_, ⟨h.ctx.sub, fun a ma => upd_dom (h.ctx.dom a ma), by rw [List.length_set]; exact h.ctx.len, fun j w e => ?_, h.ctx.src.put (h.nS m), h.ctx.slot⟩, ⟨fun b o' n k => ?_, fun b k => upd_dom (h.ext.2 b k)⟩, h.sub⟩
  · rw [List.length_set] at hl
    obtain ⟨h1, w, h2, h3⟩ := h.own q mq hl
    rw [eM]
    by_cases e : q.1 = i
    · have := one q mq e
      subst this
      exact ⟨h1, u, List.getElem?_set_self hl, ho⟩
    · refine ⟨h1, w, by rw [List.getElem?_set_ne (Ne.symm e)]; exact h2, ?_⟩
      rcases h3 with ⟨vs, us, e1, e2, e3⟩ | ⟨vs, us, e1, e2, e3⟩
      · exact .inl ⟨vs, us, e1, by rw [upd_ne (ne_of q mq e)]; exact e2, e3⟩
      · exact .inr ⟨vs, us, e1, by rw [upd_ne (ne_of q mq e)]; exact e2, e3⟩
  · rw [eM]
    rcases getSet e with ⟨rfl, rfl⟩ | ⟨ne, e⟩
    · obtain ⟨h1, _⟩ := h.own _ m (by rw [← List.length_set]; exact (List.getElem?_eq_some_iff.mp e).1)
      exact ⟨_, h1, fun _ => ⟨p, rfl, h.nS m, by rw [eM]; exact ho⟩, fun n => absurd mO n⟩
    · obtain ⟨v, h1, h2, h3⟩ := h.ctx.env j w e
      refine ⟨v, h1, fun mj => ?_, h3⟩
      obtain ⟨q, mq, g1, g2⟩ := h.at mj e
      rw [h1] at g1
      have g1 : v = .ref q := by simpa using g1
      subst g1
      have nq : q ≠ p := ne_of (j, q) mq (Ne.symm ne)
      refine ⟨q, rfl, h.nS mq, ?_⟩
      rw [eM]
      rcases g2 with ⟨vs, us, e1, e2, e3⟩ | ⟨vs, us, e1, e2, e3⟩
      · exact .inl ⟨vs, us, e1, by rw [upd_ne nq]; exact e2, e3⟩
      · exact .inr ⟨vs, us, e1, by rw [upd_ne nq]; exact e2, e3⟩
  · have ne : b ≠ p := fun z => by rw [z, (h.fresh _ m).2] at k; cases k
    rw [upd_ne ne]
    exact h.ext.1 b o' n k
theorem OwnAt.lst {M : Hp} {p : Addr} {us : List U} (h : OwnAt K D M H p (.lst us)) : ∃ vs, H p = some (.lst vs) ∧ RepAll K D M vs us := by
  rcases h with ⟨vs, us', e, h1, h2⟩ | ⟨vs, us', e, h1, h2⟩
  · cases e; exact ⟨vs, h1, h2⟩
  · cases e
theorem OwnAt.dct {M : Hp} {p : Addr} {us : List (U × U)} (h : OwnAt K D M H p (.dct us)) : ∃ vs, H p = some (.dK vs) ∧ RepKV K D M vs us := by
  rcases h with ⟨vs, us', e, h1, h2⟩ | ⟨vs, us', e, h1, h2⟩
  · cases e
  · cases e; exact ⟨vs, h1, h2⟩
theorem sok_app {i : Nat} (m : i ∈ O) (he : EOK K D W O sl Cl te fe) : SOK K D W O O OL sl (tDrop (tBM K "list" rAppend (tVar i) (tCons te tNil))) (sApp i fe) := fun A0 S H0 H σ ρ s Dn hm p => by
  obtain ⟨L, h⟩ := hm
  unfold sApp at p
  split at p
  · rename_i us ei
    obtain ⟨p0, ml, hs0, ho⟩ := h.at m ei
    obtain ⟨vs, hp, hr⟩ := ho.lst
    refine ⟨.ref p0, hs0, .inl ⟨rfl, vs, .of hp⟩, he _ S H σ ρ s _ h.ctx (PostS.stm h p fun u s1 v H1 e hs r q => ?_)⟩
    have h1 := h.next e hs
    have hp1 : H1 p0 = some (.lst vs) := e.1 _ _ (h.nS ml) hp
    by_cases hl : lineB (us.length + 1) = true
    · rw [if_pos hl] at q
      have hl2 := lineB_le hl
      exact ⟨p0, vs, v, rfl, rfl, hp1, by rw [hr.length]; omega, q _ _ ⟨L, h1.mut ml (.inl ⟨_, _, rfl, upd_same, (hr.same (e.mask h.inA)).snoc r⟩)⟩⟩
    · rw [if_neg hl] at q
      exact q.elim
  · exact p.elim
theorem sok_popD {i : Nat} (m : i ∈ O) (hg : TgOK K D (okS O sl) g pf) : SOK K D W O O OL sl (tAsg (tBM0 K "list" rPop (tVar i)) g) (sPop pf i) := fun A0 S H0 H σ ρ s Dn hm p => by
  obtain ⟨L, h⟩ := hm
  unfold sPop at p
  split at p
  · rename_i us ei
    obtain ⟨p0, ml, hs0, ho⟩ := h.at m ei
    obtain ⟨vs, hp, hr⟩ := ho.lst
    split at p
    · rename_i u eu
      rw [List.getLast?_eq_getElem?] at eu
      obtain ⟨v, ev, rv⟩ := hr.get eu
      rw [← hr.length] at ev
      split at p
      · rename_i ρ' e'
        have h1 := h.mut (o := .lst vs.dropLast) (u := .lst us.dropLast) ml (.inl ⟨_, _, rfl, upd_same, hr.dropLast⟩)
        refine ⟨.ref p0, hs0, .inl ⟨rfl, vs, .of hp⟩, p0, vs, v, rfl, rfl, hp, ev, h1.target hg ?_ e' fun σ' h' => p _ _ ⟨L, h'⟩⟩
        rw [mask_upd (List.mem_append_left _ (mem_snd ml))]
        exact rv
      · exact p.elim
    · exact p.elim
  · exact p.elim
theorem sok_put {i : Nat} (m : i ∈ O) (he : EOK K D W O sl Cl te fe) (hk : EOK K D W O sl Sn tk fk) : SOK K D W O O OL sl (tAsg te (gSub (tVar i) tk rSetL)) (sPut i fk fe) := fun A0 S H0 H σ ρ s Dn hm p => by
  obtain ⟨L, h⟩ := hm
  refine he _ S H σ ρ s _ h.ctx (PostS.stm h p fun u s1 v H1 e hs r q => ?_)
  have h1 := h.next e hs
  split at q
  · rename_i us ei
    obtain ⟨p0, ml, hs0, ho⟩ := h1.at m ei
    refine ⟨.ref p0, hs0, hk _ S H1 σ ρ s1 _ h1.ctx (PostS.stm h1 q fun j s2 w H2 e2 hs2 r2 q2 => ?_)⟩
    have h2 := h1.next e2 hs2
    cases j with
    | int j =>
      obtain rfl := r2.int
      simp only at q2
      cases eN : ixN us.length j with
      | none => rw [eN] at q2; exact q2.elim
      | some n =>
        rw [eN] at q2
        obtain ⟨vs, hp, hr⟩ := ho.lst
        have hp2 : H2 p0 = some (.lst vs) := e2.1 _ _ (h.nS ml) hp
        exact ⟨p0, vs, j, n, rfl, rfl, hp2, by rw [hr.length]; exact eN, q2 _ _ ⟨L, h2.mut ml (.inl ⟨_, _, rfl, upd_same, (hr.same (e2.mask h.inA)).set (Rep.same (e2.mask h.inA) u r) n⟩)⟩⟩
    | _ => exact q2.elim
  · exact q.elim
/-! ### try -/
theorem sok_tryG {i x : Nat} {kls : List String} {c : String} {tb : WX → TS} (hi : okS O sl i) (hx : okS O sl x) (hO : O = []) (hC : ∀ d ∈ kls, PySem.W.exmOne K (.ref (D d)) (.ref (D c)) = some (decide (d = c) || decide (c = "MarkError")))
    (hb : ∀ W', SOK K D W' O O OL sl (tb W') fb) : SOK K D W O O OL sl (fun Dn σ H => tb (wKeep K (.ref (D c)) i (tAsg (tVar i) (gName x)) W Dn) Dn σ H) (sTry kls c i x fb) := fun A0 S H0 H σ ρ s Dn hm p => by
  refine hb _ A0 S H0 H σ ρ s Dn hm ?_
  unfold sTry at p
  cases e : fb ρ s with
  | er d ρ' s' =>
    rw [e] at p
    rintro σ' H' ⟨L, h⟩
    subst hO
    simp only at p
    split at p
    · rename_i hk
      simp only [List.contains_iff_mem] at hk
      refine ⟨_, hC d hk, fun ht a na => ?_, fun hf => ?_⟩
      · rw [if_pos ht] at p
        split at p
        · rename_i hl
          refine ⟨.ref a, List.getElem?_set_self (by rw [h.ctx.len]; exact hl), p _ _ ⟨L, ?_⟩⟩
          have h1 := (h.unset hi.1 hi.2 (some (.ref a))).next (Ext.new (o := ExZ (.ref (D d)) none a) na) (h.ctx.src.same (Same.new na))
          exact (h1.set hx.1 hx.2 (.exc _ (mask_of (fun m => h.ctx.dom a m na) upd_same))).unset hi.1 hi.2 none
        · exact p.elim
      · rw [if_neg (by rw [hf]; decide)] at p
        exact p σ' H' ⟨L, h⟩
    · exact p.elim
  | _ => rw [e] at p; exact p
end
end My

set_option linter.all false
set_option maxRecDepth 100000
namespace My
open PySem PySem.Spec PyProof.Rows L2
open C8 (pe_gc)
/-! ### defs -/
def spU (K : PySem.W.Frag) (D : String → Addr) (n : Nat) (F : List U → R0) : Sp := fun vs H Q E => ∃ us A, us.length = n ∧ (∀ a ∈ A, H a ≠ none) ∧ RepAll K D (mask H A) vs us ∧ (match F us with
  | .ok u => ∀ v H', Ext [] H H' → Rep K D (mask H' A) v u → Q v H'
  | .err c => ∀ H', Ext [] H H' → E (.ref (D c)) none H'
  | .stuck => False)
/-- a def whose first parameter is the source of drawn numbers -/
def spS (K : PySem.W.Frag) (D : String → Addr) (n : Nat) (F : Sst → List U → R U) : Sp := fun vs H Q E => ∃ a c ws us A s, vs = .ref a :: ws ∧ us.length = n ∧ a ∈ A ∧ c ∈ A ∧ (∀ a ∈ A, H a ≠ none) ∧ SrcH [a, c] H s ∧ RepAll K D (mask H A) ws us ∧ (match F s us with
  | .ok u s' => ∀ v H', Ext [a, c] H H' → SrcH [a, c] H' s' → Rep K D (mask H' A) v u → Q v H'
  | .err d s' => ∀ H', Ext [a, c] H H' → SrcH [a, c] H' s' → E (.ref (D d)) none H'
  | .stuck => False)
section
variable {K : PySem.W.Frag} {D : String → Addr} {W : WX} {O O' OL : List Nat} {sl : Option Nat} {A A0 S : List Addr} {H0 H H' H1 : Hp} {L : List (Nat × Addr)} {σ : L2.St} {ρ : Rho} {s s' : Sst}
variable {te : TE} {fe : EF} {ts : TS} {fs : SF} {tas : TA} {fas : AF}
theorem eok_call {n : Nat} {F : List U → R0} (ha : AOK K D W O sl ClA tas fas) : EOK K D W O sl Cl (tCallS (spU K D n F) (fun σ => WE W σ) tas) (eCall n F fas) := fun A S H σ ρ s Q c q =>
  ha A S H σ ρ s _ c (q.bind fun us s1 vs H1 e1 h1 r1 q1 => by
    split at q1
    · rename_i hn
      refine ⟨us, A, hn, (c.ext e1 h1).dom, r1, ?_⟩
      cases e : F us with
      | ok u => rw [e] at q1; exact fun v H' x r => q1 v H' (x.sub (by simp)) (h1.same x.same) r
      | err d => rw [e] at q1; exact fun H' x => q1 H' (x.sub (by simp)) (h1.same x.same)
      | stuck => rw [e] at q1; exact q1
    · exact q1.elim)
theorem eok_callS {i n : Nat} {F : Sst → List U → R U} (ha : AOK K D W O (some i) ClA tas fas) : EOK K D W O (some i) Cl (tCallS (spS K D n F) (fun σ => WE W σ) (tCons (tVar i) tas)) (eCallS n F fas) := fun A S H σ ρ s Q c q => by
  obtain ⟨a, d, eS, e2⟩ := c.slot
  refine ⟨.ref a, e2, ha A S H σ ρ s _ c (q.bind fun us s1 vs H1 e1 h1 r1 q1 => ?_)⟩
  subst eS
  split at q1
  · rename_i hn
    refine ⟨a, d, vs, us, A, s1, rfl, hn, c.sub a (by simp), c.sub d (by simp), (c.ext e1 h1).dom, h1, r1, ?_⟩
    cases e : F s1 us with
    | ok u s' => rw [e] at q1; exact fun v H' x h r => q1 v H' x h r
    | err d s' => rw [e] at q1; exact fun H' x h => q1 H' x h
    | stuck => rw [e] at q1; exact q1
  · exact q1.elim
theorem start_get {N : List Str} {vs : List V} {us : List U} {m : Nat} (hN : N.length = us.length + m) (r : RepAll K D H vs us) {i : Nat} {u : U} (e : (startR us m)[i]? = some (some u)) : ∃ v, (L2.start N vs)[i]? = some (some v) ∧ Rep K D H v u := by
  unfold startR at e
  unfold L2.start
  by_cases hl : i < us.length
  · rw [List.getElem?_append_left (by rw [List.length_map]; exact hl), List.getElem?_map] at e
    have e2 : us[i]? = some u := by
      cases q : us[i]? with
      | none => rw [q] at e; cases e
      | some w => rw [q] at e; simpa using e
    obtain ⟨v, h1, h2⟩ := r.get e2
    exact ⟨v, by rw [List.getElem?_append_left (by rw [List.length_map, r.length]; exact hl), List.getElem?_map, h1]; rfl, h2⟩
  · rw [List.getElem?_append_right (by rw [List.length_map]; omega)] at e
    rw [List.getElem?_replicate] at e
    split at e <;> cases e
theorem start_len {N : List Str} {vs : List V} {us : List U} {m : Nat} (hN : N.length = us.length + m) (r : RepAll K D H vs us) : (L2.start N vs).length = (startR us m).length := by
  unfold startR L2.start
  rw [List.length_append, List.length_append, List.length_map, List.length_map, List.length_replicate, List.length_replicate, r.length]
  omega
/-- a def's body, from its statements -/
theorem body_U {N : List Str} {vs : List V} {n m : Nat} {Q : VK} {E : XK} (hN : N.length = n + m) (hs : SOK K D (fun cls d _ H => E cls d H) [] O' [] none ts fs) (h : spU K D n (runF fs n m) vs H Q E) :
    ts { nx := fun _ H' => Q .non H', rt := Q } (L2.start N vs) H := by
  obtain ⟨us, A, hn, hd, r, q⟩ := h
  have r' : RepAll K D H vs us := r.same (mask_same _ _)
  refine hs A [] H H (L2.start N vs) (startR us m) dSst _ ⟨[], fun i => Iff.rfl, List.nodup_nil, List.nodup_nil, fun p m => absurd m List.not_mem_nil, fun p m => absurd m List.not_mem_nil, ⟨by simp, hd, start_len (by rw [hN, hn]) r', fun i u e => ?_, .inl rfl, trivial⟩, Ext.refl _ _, by simp⟩ ?_
  · obtain ⟨v, h1, h2⟩ := start_get (N := N) (by rw [hN, hn]) r e
    exact ⟨v, h1, fun m => absurd m List.not_mem_nil, fun _ => h2⟩
  · unfold runF at q
    rw [if_pos hn] at q
    cases e : fs (startR us m) dSst with
    | nx ρ s =>
      simp only [e] at q
      rintro σ' H' ⟨L, h⟩
      exact q _ _ h.ext .non
    | rt u s =>
      simp only [e] at q
      exact fun v H' x _ r => q v H' x r
    | er c ρ s =>
      simp only [e] at q
      rintro σ' H' ⟨L, h⟩
      exact q _ h.ext
    | bk ρ s => simp only [e] at q
    | ct ρ s => simp only [e] at q
    | stuck => simp only [e] at q
theorem body_S {N : List Str} {vs : List V} {n m : Nat} {Q : VK} {E : XK} (hN : N.length = n + 1 + m) (hs : SOK K D (fun cls d _ H => E cls d H) [] O' [] (some 0) ts fs) (h : spS K D n (runS fs n m) vs H Q E) :
    ts { nx := fun _ H' => Q .non H', rt := Q } (L2.start N vs) H := by
  obtain ⟨a, c, ws, us, A, s, rfl, hn, ma, mc, hd, hsrc, r, q⟩ := h
  have e0 : L2.start N (.ref a :: ws) = some (.ref a) :: (ws.map some ++ List.replicate (N.length - (ws.length + 1)) none) := rfl
  have hl : ws.length = n := by rw [r.length, hn]
  refine hs A [a, c] H H (L2.start N (.ref a :: ws)) (none :: startR us m) s _ ⟨[], fun i => Iff.rfl, List.nodup_nil, List.nodup_nil, fun p m => absurd m List.not_mem_nil, fun p m => absurd m List.not_mem_nil, ⟨fun b hb => ?_, hd, ?_, fun i u e => ?_, hsrc, ⟨a, c, rfl, rfl⟩⟩, Ext.refl _ _, fun b hb => ?_⟩ ?_
  · simp only [List.mem_cons, List.not_mem_nil, or_false] at hb
    rcases hb with rfl | rfl
    · exact ma
    · exact mc
  · rw [e0]
    unfold startR
    simp only [List.length_cons, List.length_append, List.length_map, List.length_replicate]
    omega
  · cases i with
    | zero => simp at e
    | succ i =>
      rw [List.getElem?_cons_succ] at e
      have key : ∃ v, (L2.start (N.drop 1) ws)[i]? = some (some v) ∧ Rep K D (mask H A) v u := start_get (by rw [List.length_drop]; omega) r e
      obtain ⟨v, h1, h2⟩ := key
      refine ⟨v, ?_, fun m => absurd m List.not_mem_nil, fun _ => h2⟩
      rw [e0, List.getElem?_cons_succ]
      unfold L2.start at h1
      rw [List.length_drop] at h1
      rw [show N.length - (ws.length + 1) = N.length - 1 - ws.length by omega]
      exact h1
  · simp only [List.mem_cons, List.not_mem_nil, or_false] at hb
    rcases hb with rfl | rfl
    · exact ma
    · exact mc
  · unfold runS at q
    rw [if_pos hn] at q
    cases e : fs (none :: startR us m) s with
    | nx ρ s =>
      simp only [e] at q
      rintro σ' H' ⟨L, h⟩
      exact q _ _ h.ext h.ctx.src .non
    | rt u s =>
      simp only [e] at q
      exact fun v H' x hs r => q v H' x hs r
    | er c ρ s =>
      simp only [e] at q
      rintro σ' H' ⟨L, h⟩
      exact q _ h.ext h.ctx.src
    | bk ρ s => simp only [e] at q
    | ct ρ s => simp only [e] at q
    | stuck => simp only [e] at q
theorem spU_len {n : Nat} {F : List U → R0} {vs : List V} {Q : VK} {E : XK} (h : spU K D n F vs H Q E) : vs.length = n := by
  obtain ⟨us, A, hn, _, r, _⟩ := h
  rw [r.length, hn]
theorem spS_len {n : Nat} {F : Sst → List U → R U} {vs : List V} {Q : VK} {E : XK} (h : spS K D n F vs H Q E) : vs.length = n + 1 := by
  obtain ⟨a, c, ws, us, A, s, rfl, hn, _, _, _, _, r, _⟩ := h
  rw [List.length_cons, r.length, hn]
end
section
variable {P : Program} {w : World} {K : PySem.W.Frag} {mg : Str → Option Value} {base : Heap} {D : String → Addr}
abbrev cxX (P : Program) (w : World) (K : PySem.W.Frag) (mg : Str → Option Value) (base : Heap) (N : List Str) (x : Str) (st : Stmt) (f : Addr) (cdv : Value) (A : Around) (outer : List Env) (s : Shared) (H : Hp) (E : XK) : Cx := cxOf (L2.CX P w) P w K mg base N x (defScope st) f cdv A outer s H E
/-- a def of the text by its plain reading -/
theorem calU {x : Str} {st : Stmt} {N ps : List Str} {k n m : Nat} {fs : SF} (hh : My.Has K mg x st ps) (S : FnScope N ps (defScope st)) (hp : ps.length = n) (hN : N.length = n + m)
    (body : ∀ (f : Addr) (cdv : Value) (A : Around) (outer : List Env) (s : Shared) (H : Hp) (E : XK), Room k (A.deeper (PyProof.Rows.envOfC x (defScope st) s.heap.objs.size f cdv)) →
      Takes (cxX P w K mg base N x st f cdv A outer s H E) (fun cls d _ H => E cls d H) → ∃ ts O', PSs (cxX P w K mg base N x st f cdv A outer s H E) (defBody st) ts ∧ SOK K D (fun cls d _ H => E cls d H) [] O' [] none ts fs) :
    CalX P w K mg base (k + 1) x (spU K D n (runF fs n m)) := by
  obtain ⟨f, fd, F, gF, b⟩ := hh
  refine mkCalX F gF F.kp b S (fun vs H Q E h => by rw [hp]; exact spU_len h) fun cdv A outer s H vs Q E hr h tk => ?_
  obtain ⟨ts, O', h1, h2⟩ := body f cdv A outer s H E hr tk
  exact ⟨ts, h1, body_U hN h2 h⟩
theorem calS {x : Str} {st : Stmt} {N ps : List Str} {k n m : Nat} {fs : SF} (hh : My.Has K mg x st ps) (S : FnScope N ps (defScope st)) (hp : ps.length = n + 1) (hN : N.length = n + 1 + m)
    (body : ∀ (f : Addr) (cdv : Value) (A : Around) (outer : List Env) (s : Shared) (H : Hp) (E : XK), Room k (A.deeper (PyProof.Rows.envOfC x (defScope st) s.heap.objs.size f cdv)) →
      Takes (cxX P w K mg base N x st f cdv A outer s H E) (fun cls d _ H => E cls d H) → ∃ ts O', PSs (cxX P w K mg base N x st f cdv A outer s H E) (defBody st) ts ∧ SOK K D (fun cls d _ H => E cls d H) [] O' [] (some 0) ts fs) :
    CalX P w K mg base (k + 1) x (spS K D n (runS fs n m)) := by
  obtain ⟨f, fd, F, gF, b⟩ := hh
  refine mkCalX F gF F.kp b S (fun vs H Q E h => by rw [hp]; exact spS_len h) fun cdv A outer s H vs Q E hr h tk => ?_
  obtain ⟨ts, O', h1, h2⟩ := body f cdv A outer s H E hr tk
  exact ⟨ts, h1, body_S hN h2 h⟩
end
end My

set_option linter.all false
set_option maxRecDepth 100000
namespace My
open PySem PySem.Spec PyProof.Rows L2
open C8 (pe_gc)
section
variable {K : PySem.W.Frag} {D : String → Addr} {W : WX} {O O' OL : List Nat} {sl : Option Nat} {A A0 S : List Addr} {H0 H H' H1 : Hp} {σ : L2.St} {ρ : Rho} {s s' : Sst}
variable {te : TE} {fe : EF} {tl th : TO} {fl fh : OF} {tas : TA} {fas : AF}
theorem RepAll.empty {vs : List V} {us : List U} (h : RepAll K D H vs us) : (!vs.isEmpty) = !us.isEmpty := by
  cases h <;> rfl
theorem tru_of {v : V} {u : U} {k : Bool} (h : Rep K D H v u) (e : truU u = some k) : TruV K v H k := by
  cases h <;> simp only [truU, Option.some.injEq] at e <;> (try cases e)
  · exact rfl
  · exact rfl
  · exact rfl
  · rename_i h r
    exact .inl ⟨_, .of h, by rw [r.empty]⟩
  · rename_i h r
    exact .inr (.inl ⟨_, h, by rw [r.empty]⟩)
  · rename_i h r
    exact .inr (.inr ⟨_, h, by cases r <;> rfl⟩)
theorem tok_tru (ha : EOK K D W O sl Sn te fe) : TOK K D W O sl (fun σ H Q => te σ H fun x H' => ∃ k, TruV K x H' k ∧ Q k H') (tT fe) := fun A S H σ ρ s Q c q =>
  ha A S H σ ρ s _ c (q.bind fun x s1 v H1 e1 h1 r1 q1 => by
    obtain ⟨k, hk, q2⟩ := q1.opt h1
    exact ⟨k, tru_of r1.full hk, q2 _ _ (Same.refl _) rfl⟩)
theorem ok_pow : OpOK K D (rI CPowW fun i j => .int (i ^ j.toNat)) pPow := fun A S H x y a b c Q d ha hb e q => by
  unfold pPow at e
  split at e
  · split at e
    · rename_i i j hl
      cases e
      obtain rfl := ha.int
      obtain rfl := hb.int
      have hl := of_decide_eq_true hl
      refine ⟨_, _, rfl, rfl, ⟨hl.1, ?_⟩, q _ _ (Same.refl _) (.int _)⟩
      have h2 := hl.2
      unfold Builtin.Int.intBits
      split
      · simp
      · rw [Int.natCast_add]
        exact Int.le_trans h2 (by decide)
    · cases e
  · cases e
/-! slices -/
def OfOK (K : PySem.W.Frag) (D : String → Addr) (W : WX) (O : List Nat) (sl : Option Nat) (t : TO) (f : OF) : Prop := ∀ A S H σ ρ s (Q : Option Int → Hp → Prop), Ctx K D O sl A S H σ ρ s → PostG D W S σ H (fun _ (v : Option Int) u => v = u) (f ρ s) Q → t σ H Q
theorem of_no : OfOK K D W O sl tNoPart oNo := fun A S H σ ρ s Q c q => q none H (Ext.refl _ _) c.src rfl
theorem of_so (h : EOK K D W O sl Sn te fe) : OfOK K D W O sl (tPart te) (oSo fe) := fun A S H σ ρ s Q c q =>
  h A S H σ ρ s _ c (q.bind fun x s1 v H1 e1 h1 r1 q1 => by
    cases x with
    | int i =>
      obtain rfl := r1.int
      exact ⟨i, rfl, q1 _ _ (Ext.refl _ _) h1 rfl⟩
    | _ => exact q1.elim)
def rSlAny (K : PySem.W.Frag) : V → Option Int → Option Int → Hp → VK → Prop := fun x lo hi H Q => rSlL K x lo hi H Q ∨ rSlA K x lo hi H Q
theorem sl_any {X : Cx} : SlR X (rSlAny X.K) := by
  intro pins s σ H x v vl vu lo hi sl Q I rx hs pl pu h
  rcases h with h | h
  · exact sl_list pins s σ H x v vl vu lo hi sl Q I rx hs pl pu h
  · exact sl_tupA pins s σ H x v vl vu lo hi sl Q I rx hs pl pu h
theorem cut_rep {vs : List V} {us : List U} (h : RepAll K D H vs us) (lo hi : Option Int) : RepAll K D H (cutV vs lo hi) (cutU us lo hi) := by
  unfold cutV cutU
  rw [h.length]
  exact (h.drop _).take _
theorem ok_sl {x : V} {a c : U} {lo hi : Option Int} {Q : VK} (d : ∀ z ∈ A, H z ≠ none) (ha : Sn K D A S H x a) (e : pSl lo hi a = some c) (q : ∀ v H', Same H H' → Cl K D A S H' v c → Q v H') : rSlAny K x lo hi H Q := by
  unfold pSl at e
  split at e
  · cases e
    obtain ⟨p, vs, rfl, hp, hv⟩ := ha.lst
    exact .inl ⟨p, vs, rfl, .of hp, fun l nl => q _ _ (Same.new nl) (Rep.newL (cut_rep hv lo hi) nl d)⟩
  · cases e
    obtain ⟨p, vs, rfl, hp, hm, hv⟩ := ha.tup
    refine .inr ⟨p, vs, rfl, hp, fun h0 => q _ _ (Same.refl _) ?_, fun _ l nl => q _ _ (Same.new nl) (Rep.newT (cut_rep hv lo hi) nl d)⟩
    have e : cutV vs lo hi = vs := by
      unfold cutV
      rw [h0.1, h0.2, List.drop_zero, Nat.sub_zero, List.take_length]
    have r := cut_rep hv lo hi
    rw [e] at r
    exact .tup hm r
  · cases e
theorem eok_slice (he : EOK K D W O sl Sn te fe) (hl : OfOK K D W O sl tl fl) (hh : OfOK K D W O sl th fh) : EOK K D W O sl Cl (L2.tSl (rSlAny K) te tl th) (eSl fe fl fh) := fun A S H σ ρ s Q c q =>
  he A S H σ ρ s _ c (q.bind fun x s1 v H1 e1 h1 r1 q1 => hl A S H1 σ ρ s1 _ (c.ext e1 h1) (q1.bind fun i s2 i' H2 e2 h2 r2 q2 => hh A S H2 σ ρ s2 _ ((c.ext e1 h1).ext e2 h2) (q2.bind fun j s3 j' H3 e3 h3 r3 q3 => by
    obtain ⟨z, hz, q4⟩ := q3.opt h3
    subst r2 r3
    exact ok_sl (((c.ext e1 h1).ext e2 h2).ext e3 h3).dom ((r1.ext e2 c.sub).ext e3 c.sub) hz q4)))
end
section
variable {X : Cx}
theorem pe_cx0 {k j : Nat} {x : Str} {sp : Sp} {p pos : Pos} {W : WX} (h : CalX X.prog X.w X.K X.mg X.base k x sp) (tk : Takes X W) (hr : Room j X.A) (le : k ≤ j) (hg : Gl X x)
    (hd : (x == ("__debug__" : Str)) = false := by decide) : PE X (.Call (.Name x p) [] [] pos) (tCallS sp (fun σ => WE W σ) tNil) := by
  obtain ⟨f, fd, ps, F, hm, hk, hb⟩ := h
  refine ⟨fun pins s σ H Q I h => ?_⟩
  refine wpAny_Call_Name_kw (ld_glob I hg hm ?_ hd)
  exact PySem.W.callWith_K0 (Inv_kin I) hk (run_fnS F (hr.mono le) hb (passAt tk σ) I .nil h)
theorem Room.u65 {k : Nat} {A : Around} (r : Room k A) : A.units + 65 < cLine := by have := r.un; omega
end
end My

set_option linter.all false
set_option maxRecDepth 100000
namespace My
open PySem PySem.Spec PyProof.Rows L2
open C8 (pe_gc)
/-! ### rules whose readings name the written part -/
section
variable {X : Cx} {K : PySem.W.Frag}
theorem op_addAnyK (h : X.K = K := by rfl) : OpR X (binaryOp .Add) (rAddAny K) := by subst h; exact op_addAny
theorem op_mulAnyK (h : X.K = K := by rfl) : OpR X (binaryOp .Mult) (rMulAny K) := by subst h; exact op_mulAny
theorem op_eqDK (hu : X.A.units + 64 < cLine) (h : X.K = K := by rfl) : OpR X (compareOp .Eq) (rEqD K) := by subst h; exact op_eqD hu
theorem op_neDK (hu : X.A.units + 64 < cLine) (h : X.K = K := by rfl) : OpR X (compareOp .NotEq) (rNeD K) := by subst h; exact op_neD hu
theorem op_inDK (hu : X.A.units + 65 < cLine) (h : X.K = K := by rfl) : OpR X (compareOp .In) (rInD K) := by subst h; exact op_inD hu
theorem op_notInDK (hu : X.A.units + 65 < cLine) (h : X.K = K := by rfl) : OpR X (compareOp .NotIn) (rNotInD K) := by subst h; exact op_notInD hu
theorem sl_anyK (h : X.K = K := by rfl) : SlR X (rSlAny K) := by subst h; exact sl_any
theorem call_lenK (h : X.K = K := by rfl) : CallR X (.builtin "len") (fun xs H Q => ∃ p ys, xs = [.ref p] ∧ (SqL K H p ys ∨ SqT K H p ys) ∧ Q (.int ys.length) H) := by subst h; exact call_len_seq
theorem call_listK (h : X.K = K := by rfl) : CallR X (.type "list") (fun xs H Q => ∃ p ys, xs = [.ref p] ∧ (SqL K H p ys ∨ SqT K H p ys) ∧ ∀ l, H l = none → Q (.ref l) (upd H l (.lst ys))) := by subst h; exact call_list_of
theorem call_tupleK (h : X.K = K := by rfl) : CallR X (.type "tuple") (fun xs H Q => ∃ p ys, xs = [.ref p] ∧ ((SqL K H p ys ∧ ∀ l, H l = none → Q (.ref l) (upd H l (.tup ys))) ∨ (SqT K H p ys ∧ Q (.ref p) H))) := by subst h; exact call_tuple_of
theorem cr_sumK (hc : X.calm = true) (h : X.K = K := by rfl) : CallR X (.builtin "sum") (rSum K) := by subst h; exact cr_sum hc
theorem cr_allK (hc : X.calm = true) (h : X.K = K := by rfl) : CallR X (.builtin "all") (rAll K) := by subst h; exact cr_all hc
theorem cr_anyK (hc : X.calm = true) (h : X.K = K := by rfl) : CallR X (.builtin "any") (rAny K) := by subst h; exact cr_any hc
theorem pi_seqK {tg l : Expr} {tl : TE} (hl : PE X l tl) (h : X.K = K := by rfl) : PI X tg l (iSeqT K tl) := by subst h; exact pi_seq hl
theorem pi_revK {tg it : Expr} {ta : TA} (h : PI X tg it (L2.iRev X.K ta)) (e : X.K = K := by rfl) : PI X tg it (L2.iRev K ta) := by subst e; exact h
theorem pt_truthK {a : Expr} {ta : TE} (ha : PE X a ta) (he : ∀ whole, isTrue a X.env whole = (do let v ← whole; standAt a.pos; holding [v] (truthy v))) (h : X.K = K := by rfl) : PT X a (fun σ H Q => ta σ H fun x H' => ∃ k, TruV K x H' k ∧ Q k H') := by subst h; exact pt_truth ha he
theorem pg_tupK {tg : Expr} {t : TGs} {n : Nat} (h : PG X tg (gTup X.K n t)) (e : X.K = K := by rfl) : PG X tg (gTup K n t) := by subst e; exact h
theorem pg_unlK {tg : Expr} {t : TGs} {n : Nat} (h : PG X tg (gUnl X.K n t)) (e : X.K = K := by rfl) : PG X tg (gUnl K n t) := by subst e; exact h
end
section
variable {K : PySem.W.Frag} {D : String → Addr} {W : WX} {O O' OL : List Nat} {sl : Option Nat} {A A0 S : List Addr} {H0 H H' H1 : Hp} {σ : L2.St} {ρ : Rho} {s s' : Sst}
variable {te ta tb : TE} {fe fa fb : EF} {tas : TA} {fas : AF}
theorem tok_valT (ha : EOK K D W O sl Sn te fe) : TOK K D W O sl (tTest te) (tV fe) := fun A S H σ ρ s Q c q =>
  ha A S H σ ρ s _ c (q.bind fun x s1 v H1 e1 h1 r1 q1 => by
    cases e : toB x with
    | none => rw [e] at q1; exact q1.elim
    | some b =>
      have e2 := toB_some e
      subst e2
      obtain rfl := r1.bl
      exact ⟨b, rfl, q1 _ _ (Ext.refl _ _) h1 rfl⟩)
theorem jok_rev {a : Addr} {vs : List V} {us : List U} {M : Hp} (h : M a = some (.lst vs)) (r : RepAll K D M vs us) : JOK K D (Itv K a vs.length) us.reverse M where
  go := fun i H hi sm => walk_rev.goes i H (by rw [List.length_reverse] at hi; rw [r.length]; exact hi) (.of (sm _ _ h))
  stop := fun H sm => by rw [List.length_reverse, ← r.length]; exact walk_rev.stops H (.of (sm _ _ h))
  yld := fun i H x H' u e sm y => by
    have hi : i < us.length := by
      have := (List.getElem?_eq_some_iff.mp e).1
      rwa [List.length_reverse] at this
    rw [List.getElem?_reverse hi] at e
    obtain ⟨v, e1, e2⟩ := r.get e
    obtain ⟨h1, h2⟩ := walk_rev.yields i H x H' (by rw [r.length]; exact hi) (.of (sm _ _ h)) y
    rw [r.length, show us.length - 1 - i = us.length - 1 - i from rfl, e1] at h2
    cases h2
    exact .inl ⟨h1, e2⟩
theorem iok_rev (h : EOK K D W O sl Cl te fe) : IOK K D W O sl (L2.iRev K (tCons te tNil)) (My.iRev fe) := fun A S H σ ρ s R c q =>
  h A S H σ ρ s _ c (q.bind fun x s1 v H1 e1 h1 r1 q1 => by
    cases x with
    | lst us =>
      cases r1 with
      | lst e r => exact ⟨_, _, rfl, .of (mask_some e).2, q1 _ _ (Ext.refl _ _) h1 (jok_rev e r)⟩
    | _ => exact q1.elim)
theorem fok_cat (ha : EOK K D W O sl Sn ta fa) (hb : EOK K D W O sl Sn tb fb) : FOK K D W O sl (tOp rCat ta tb) (e2 pCat fa fb) := fun A S Hs σ ρ s Q c q =>
  ha A S Hs σ ρ s _ c (q.bind fun x s1 v H1 e1 h1 r1 q1 => hb A S H1 σ ρ s1 _ (c.ext e1 h1) (q1.bind fun y s2 w H2 e2 h2 r2 q2 => by
    obtain ⟨z, hz, q3⟩ := q2.opt h2
    unfold pCat at hz
    split at hz
    · split at hz
      · rename_i hl
        cases hz
        obtain ⟨p, vs, rfl, hp, hv⟩ := (r1.ext e2 c.sub).lst
        obtain ⟨p', vs', rfl, hp', hv'⟩ := r2.lst
        refine ⟨p, p', vs, vs', rfl, rfl, hp, hp', by rw [hv.length, hv'.length]; exact lineB_le hl, fun z nz => q3 _ _ (Same.new nz) ⟨z, rfl, ?_, .inl ⟨_, _, rfl, upd_same, (hv.app hv').same fun b o m => ?_⟩⟩⟩
        · cases q : Hs z with
          | none => rfl
          | some x => exact absurd nz ((e1.trans e2).2 z (by rw [q]; exact fun z => nomatch z))
        · obtain ⟨n, m⟩ := mask_some m
          have ne : b ≠ z := fun k => by rw [k, nz] at m; cases m
          refine mask_of (fun k => ?_) (by rw [upd_ne ne]; exact m)
          rcases List.mem_cons.mp k with k | k
          · exact ne k
          · exact n k
      · cases hz
    · cases hz))
theorem fok_list (ha : AOK K D W O sl SnA tas fas) : FOK K D W O sl (tCB (fun xs H Q => ∃ p ys, xs = [.ref p] ∧ (SqL K H p ys ∨ SqT K H p ys) ∧ ∀ l, H l = none → Q (.ref l) (upd H l (.lst ys))) tas) (eN pList fas) := fun A S Hs σ ρ s Q c q =>
  ha A S Hs σ ρ s _ c (q.bind fun xs s1 vs H1 e1 h1 r1 q1 => by
    obtain ⟨z, hz, q3⟩ := q1.opt h1
    have key : ∀ (ws : List V) (us : List U), RepAll K D (mask H1 A) ws us → z = .lst us → ∀ l, H1 l = none → Q (.ref l) (upd H1 l (.lst ws)) := fun ws us hv ez l nl => q3 _ _ (Same.new nl) ⟨l, rfl, by
      cases q : Hs l with
      | none => rfl
      | some x => exact absurd nl (e1.2 l (by rw [q]; exact fun z => nomatch z)), .inl ⟨ws, us, ez, upd_same, hv.same fun b o m => by
        obtain ⟨n, m⟩ := mask_some m
        have ne : b ≠ l := fun k => by rw [k, nl] at m; cases m
        refine mask_of (fun k => ?_) (by rw [upd_ne ne]; exact m)
        rcases List.mem_cons.mp k with k | k
        · exact ne k
        · exact n k⟩⟩
    unfold pList at hz
    split at hz
    · cases hz
      obtain ⟨v, rfl, h⟩ := r1.one
      obtain ⟨p, ws, rfl, hp, hv⟩ := h.lst
      exact ⟨p, ws, rfl, .inl (.of hp), key _ _ hv rfl⟩
    · cases hz
      obtain ⟨v, rfl, h⟩ := r1.one
      obtain ⟨p, ws, rfl, hp, _, hv⟩ := h.tup
      exact ⟨p, ws, rfl, .inr hp, key _ _ hv rfl⟩
    · cases hz)
/-! messages -/
theorem eok_fmt (h : EOK K D W O sl Sn te fe) : EOK K D W O sl Cl (tFmt te) (eFmt fe) := fun A S H σ ρ s Q c q =>
  h A S H σ ρ s _ c (q.bind fun x s1 v H1 e1 h1 r1 q1 => by
    cases x with
    | str y =>
      obtain rfl := r1.str
      simp only at q1
      split at q1
      · rename_i hl
        exact .inl ⟨y, rfl, lineB_le hl, q1 _ _ (Ext.refl _ _) h1 (.str _)⟩
      · exact q1.elim
    | int i =>
      obtain rfl := r1.int
      simp only at q1
      split at q1
      · rename_i hl
        exact .inr ⟨i, rfl, of_decide_eq_true hl, q1 _ _ (Ext.refl _ _) h1 (.str _)⟩
      · exact q1.elim
    | _ => exact q1.elim)
def RepJ (K : PySem.W.Frag) (D : String → Addr) (W : WX) (O : List Nat) (sl : Option Nat) (ts : List TE) (fs : List EF) : Prop := ∀ acc A S H σ ρ s (Q : VK), Ctx K D O sl A S H σ ρ s → PostG D W S σ H (Cl K D A S) (joinL fs acc ρ s) Q → tJs ts acc σ H fun out H1 => Q (.str out) H1
theorem rj_nil : RepJ K D W O sl [] [] := fun acc A S H σ ρ s Q c q => q (.str acc) H (Ext.refl _ _) c.src (.str _)
theorem rj_cons {ts : List TE} {fs : List EF} (h : EOK K D W O sl Sn te fe) (hs : RepJ K D W O sl ts fs) : RepJ K D W O sl (te :: ts) (fe :: fs) := fun acc A S H σ ρ s Q c q =>
  h A S H σ ρ s _ c (PostG.bind (rep := Sn K D A S) q fun x s1 v H1 e1 h1 r1 q1 => by
    cases x with
    | str y =>
      obtain rfl := r1.str
      simp only at q1
      split at q1
      · rename_i hl
        exact ⟨y, rfl, lineB_le hl, hs (acc ++ y) A S H1 σ ρ s1 Q (c.ext e1 h1) q1⟩
      · exact q1.elim
    | _ => exact q1.elim)
theorem eok_join {ts : List TE} {fs : List EF} (h : RepJ K D W O sl ts fs) : EOK K D W O sl Cl (fun σ H Q => tJs ts Str.empty σ H fun out H1 => Q (.str out) H1) (joinL fs Str.empty) := fun A S H σ ρ s Q c q => h Str.empty A S H σ ρ s Q c q
end
/-! ### errors as values -/
structure KlsOK (K : PySem.W.Frag) (D : String → Addr) (kls : List String) : Prop where
  ex : ∀ c ∈ kls, ExcC K (D c)
  kit : ∀ c ∈ kls, ∀ d ∈ kls, PySem.W.kitOne K (.ref (D c)) (.ref (D d)) = some (isSub c d)
  kve : ∀ c ∈ kls, PySem.W.kitOne K (.ref (D c)) (.type "ValueError") = some true
  kno : ∀ c ∈ kls, PySem.W.kitOne K (.type "NoneType") (.ref (D c)) = some false
  exm : ∀ c ∈ kls, ∀ d ∈ kls, PySem.W.exmOne K (.ref (D c)) (.ref (D d)) = some (isSub c d)
abbrev rIsZ (K : PySem.W.Frag) : List V → Hp → VK → Prop := fun xs H Q => ∃ (a D : Addr) (c : V) (u : Value) (b : Bool), xs = [.ref a, c] ∧ ClsV c u ∧ ExcC K D ∧ H a = some (ExZ (.ref D) none a) ∧ PySem.W.kitOne K (.ref D) u = some b ∧ Q (.bl b) H
abbrev rInst (K : PySem.W.Frag) : List V → Hp → VK → Prop := fun xs H Q => rIsi K xs H Q ∨ rIsZ K xs H Q
section
variable {X : Cx} {K : PySem.W.Frag} {D : String → Addr}
theorem call_isiK (h : X.K = K := by rfl) : CallR X (.builtin "isinstance") (rIsi K) := by subst h; exact call_isi
theorem call_instK (h : X.K = K := by rfl) : CallR X (.builtin "isinstance") (rInst K) := by
  subst h
  intro pins s σ H xs us Q I r hq
  rcases hq with hq | hq
  · exact call_isi pins s σ H xs us Q I r hq
  · exact call_isZ pins s σ H xs us Q I r hq
theorem isi_own {kls : List String} {H : Hp} {v : V} {d : String} {Q : VK} (T : KlsOK K D kls) (hd : d ∈ kls) (e : v = .non) (q : Q (.bl false) H) : rIsi K [v, .ref (D d)] H Q := by
  subst e
  exact ⟨_, _, _, _, _, rfl, .own _, tyx_non, T.kno d hd, q⟩
theorem ok_inst {kls : List String} (T : KlsOK K D kls) : CbOK K D (rInst K) (pInst kls) := fun A S H xs as c Q d ha e q => by
  unfold pInst at e
  split at e
  · split at e
    · rename_i hl
      cases e
      simp only [Bool.and_eq_true, List.contains_iff_mem] at hl
      obtain ⟨v, w, rfl, h1, h2⟩ := ha.two
      have h1' := h1.full
      have h2' := h2.full
      cases h2'
      cases h1' with
      | exc _ hx => exact .inr ⟨_, _, _, _, _, rfl, .own _, T.ex _ hl.1, hx, T.kit _ hl.1 _ hl.2, q _ _ (Same.refl _) (.bl _)⟩
    · cases e
  · split at e
    · rename_i hl
      cases e
      simp only [List.contains_iff_mem] at hl
      obtain ⟨v, w, rfl, h1, h2⟩ := ha.two
      have h1' := h1.full
      have h2' := h2.full
      cases h2'
      cases h1'
      exact .inl (isi_own T hl rfl (q _ _ (Same.refl _) (.bl _)))
    · cases e
  · split at e
    · rename_i hl
      simp only [Bool.and_eq_true, List.contains_iff_mem, decide_eq_true_eq] at hl
      cases e
      obtain ⟨v, w, rfl, h1, h2⟩ := ha.two
      have h1' := h1.full
      have h2' := h2.full
      cases h2'
      cases h1' with
      | exc _ hx =>
        rw [hl.2]
        exact .inr ⟨_, _, _, _, _, rfl, .ty _, T.ex _ hl.1, hx, T.kve _ hl.1, q _ _ (Same.refl _) (.bl _)⟩
    · cases e
  · exact .inl (ok_isi (n := _) A S H xs _ c Q d ha e q)
  · cases e
end
section
variable {K : PySem.W.Frag} {D : String → Addr} {W : WX} {O O' OL : List Nat} {sl : Option Nat} {fb : SF}
theorem sok_try {i x : Nat} {kls : List String} {c : String} {tb : WX → TS} (hi : okS O sl i) (hx : okS O sl x) (hO : O = []) (T : KlsOK K D kls) (hc : c ∈ kls) (hb : ∀ W', SOK K D W' O O OL sl (tb W') fb) :
    SOK K D W O O OL sl (fun Dn σ H => tb (wKeep K (.ref (D c)) i (tAsg (tVar i) (gName x)) W Dn) Dn σ H) (sTry kls c i x fb) := sok_tryG hi hx hO (fun d hd => T.exm d hd c hc) hb
/-! ### the law -/
def sp_law (K : PySem.W.Frag) : Sp := fun vs H Q _ => ∃ (s : Addr) (ns : List Int), vs = [.ref s] ∧ SqL K H s (ns.map V.int) ∧ ns.length ≤ 63 ∧ ∀ H', Q (.bl true) H'
theorem law_start {H : Hp} {a : Addr} {ns : List Int} (hl : ns.length ≤ 63) (_ : Only H) (hS : SqL K H a (ns.map V.int)) : sp_law K [.ref a] H (fun v _ => v = .bl true) fun _ _ _ => False := ⟨a, ns, rfl, hS, hl, fun _ => rfl⟩
/-- a source as the law makes it of a script -/
def NewS (s : Sst) : Prop := s.turn = 0 ∧ 0 < s.cells.length ∧ s.cells.length ≤ 63 ∧ ∀ n ∈ s.cells, Bd n
def spSource (K : PySem.W.Frag) : Sp := fun vs H Q _ => ∃ (s : Addr) (ns : List Int), vs = [.ref s] ∧ SqL K H s (ns.map V.int) ∧ ns.length ≤ 63 ∧ ∀ a c H' s, Same H H' → SrcH [a, c] H' s → NewS s → Q (.ref a) H'
theorem law_run {N : List Str} {vs : List V} {H : Hp} {Q : VK} {m : Nat} {ts : TS} {fs : SF} {W : WX} (hN : N.length = 1 + m) (hs : SOK K D W [] O' [] (some 1) ts fs) (ht : ∀ s, NewS s → ∃ s', fs (List.replicate (m + 1) none) s = .rt (.bl true) s') (h : sp_law K vs H Q (fun _ _ _ => False)) (hm : 1 < m + 1) :
    tSeq (tAsg (tCallS (spSource K) (fun σ => WE W σ) (tCons (tVar 0) tNil)) (gName 1)) ts { nx := fun _ H' => Q .non H', rt := Q } (L2.start N vs) H := by
  obtain ⟨s0, ns, rfl, hS, hl, q⟩ := h
  refine ⟨.ref s0, rfl, s0, ns, rfl, hS, hl, fun a c H1 s sm src hs1 => ?_⟩
  obtain ⟨s', e⟩ := ht s hs1
  have src' : SrcH [a, c] H1 s := src
  rcases src with h0 | ⟨a', c', h1, h2, h3, h4⟩
  · cases h0
  · cases h1
    refine hs [a, c] [a, c] H1 H1 _ (List.replicate (m + 1) none) s _ ⟨[], fun i => Iff.rfl, List.nodup_nil, List.nodup_nil, fun p m => absurd m List.not_mem_nil, fun p m => absurd m List.not_mem_nil, ⟨fun _ z => z, fun b hb => ?_, ?_, fun i u g => ?_, src', ⟨a, c, rfl, ?_⟩⟩, Ext.refl _ _, fun _ z => z⟩ ?_
    · simp only [List.map_nil, List.nil_append, List.mem_cons, List.not_mem_nil, or_false] at hb
      rcases hb with rfl | rfl
      · rw [h3]; exact fun z => nomatch z
      · rw [h4]; exact fun z => nomatch z
    · simp only [L2.start, List.length_set, List.length_append, List.length_map, List.length_replicate, List.length_cons, List.length_nil]
      omega
    · rw [List.getElem?_replicate] at g
      split at g <;> cases g
    · rw [List.getElem?_set_self]
      simp only [L2.start, List.length_append, List.length_map, List.length_replicate, List.length_cons, List.length_nil]
      omega
    · rw [e]
      intro v H' x hs r
      cases r
      exact q H'
end
section
variable {K : PySem.W.Frag}
theorem cls_some {D : Addr} (hd : PySem.W.hasDictIn K D = true) (ht : PySem.W.typeIn K (.ref D) = some (.type "type")) : ((PySem.W.clsIn K D).isSome && PySem.W.typeIn K (.ref D) == some (.type "type")) = true := by
  obtain ⟨cd, hc, _⟩ := PySem.W.any_some hd
  rw [hc, ht] <;> rfl
theorem kit_own {C D : Addr} {b : Bool} (hs : PySem.W.subIn K (.ref C) (.ref C) = some true) (h : PySem.W.subIn K (.ref C) (.ref D) = some b) (hd : PySem.W.hasDictIn K D = true) (ht : PySem.W.typeIn K (.ref D) = some (.type "type")) : PySem.W.kitOne K (.ref C) (.ref D) = some b := by
  unfold PySem.W.kitOne
  by_cases e : C = D
  · subst e
    rw [hs] at h
    rw [if_pos (by simp)]
    exact h
  · rw [if_neg (fun z => e (by simpa using z))]
    show (if ((PySem.W.clsIn K D).isSome && PySem.W.typeIn K (.ref D) == some (.type "type")) = true then PySem.W.subIn K (.ref C) (.ref D) else none) = some b
    rw [if_pos (cls_some hd ht)]
    exact h
theorem kit_ve {C : Addr} (h : PySem.W.subIn K (.ref C) (.type "ValueError") = some true) : PySem.W.kitOne K (.ref C) (.type "ValueError") = some true := h
theorem kit_no {D : Addr} (hd : PySem.W.hasDictIn K D = true) (ht : PySem.W.typeIn K (.ref D) = some (.type "type")) : PySem.W.kitOne K (.type "NoneType") (.ref D) = some false := by
  unfold PySem.W.kitOne
  rw [if_neg (by simp)]
  show (if ((PySem.W.clsIn K D).isSome && PySem.W.typeIn K (.ref D) == some (.type "type")) = true then PySem.W.subIn K (.type "NoneType") (.ref D) else none) = some false
  rw [if_pos (cls_some hd ht)]
  rfl
end
end My

set_option linter.all false
set_option maxRecDepth 100000
namespace My
open PySem PySem.Spec PyProof.Rows L2
open C8 (pe_gc)
/-! min and max of two -/
section
variable {K : PySem.W.Frag} {D : String → Addr}
def pMin2 : List U → Option U
  | [.int i, .int j] => some (.int (if j < i then j else i))
  | _ => none
def pMax2 : List U → Option U
  | [.int i, .int j] => some (.int (if j > i then j else i))
  | _ => none
theorem ok_min2 : CbOK K D (fun xs H Q => ∃ i j, xs = [.int i, .int j] ∧ Q (.int (if j < i then j else i)) H) pMin2 := fun A S H xs as c Q d ha e q => by
  unfold pMin2 at e
  split at e
  · cases e
    obtain ⟨v, w, rfl, h1, h2⟩ := ha.two
    obtain rfl := h1.int
    obtain rfl := h2.int
    exact ⟨_, _, rfl, q _ _ (Same.refl _) (.int _)⟩
  · cases e
theorem ok_max2 : CbOK K D (fun xs H Q => ∃ i j, xs = [.int i, .int j] ∧ Q (.int (if j > i then j else i)) H) pMax2 := fun A S H xs as c Q d ha e q => by
  unfold pMax2 at e
  split at e
  · cases e
    obtain ⟨v, w, rfl, h1, h2⟩ := ha.two
    obtain rfl := h1.int
    obtain rfl := h2.int
    exact ⟨_, _, rfl, q _ _ (Same.refl _) (.int _)⟩
  · cases e
end
end My

set_option linter.all false
set_option maxRecDepth 100000
namespace My
open PySem PySem.Spec PyProof.Rows L2
open C8 (pe_gc)
/-! a comprehension of two clauses -/
def lc2F (vs1 : List Nat) (g : PF) (c : TF) (i1 : AF) (g1 : PF) (c1 : TF) (a : EF) : List U → Rho → Sst → List U → R (List U)
  | [], _, s, acc => .ok acc s
  | u :: us, ρ, s, acc => match g u ρ with
    | none => .stuck
    | some ρ1 => (c ρ1 s).bind fun x s => if x = true then ((i1 ρ1 s).bind fun ws s => lcF g1 c1 a ws (wipeR ρ1 vs1) s acc).bind fun acc s => lc2F vs1 g c i1 g1 c1 a us ρ s acc else lc2F vs1 g c i1 g1 c1 a us ρ s acc
def eLc2 (vs vs1 : List Nat) (i : AF) (g : PF) (c : TF) (i1 : AF) (g1 : PF) (c1 : TF) (a : EF) : EF := fun ρ s => (i ρ s).bind fun us s => ((lc2F vs1 g c i1 g1 c1 a us (wipeR ρ vs) s []).noerr).bind fun xs s => .ok (.lst xs) s
def okThen (r : R (List U)) (P : List U → Sst → Prop) : Prop := match r with
  | .ok x s => P x s
  | _ => False
section
variable {K : PySem.W.Frag} {D : String → Addr} {W : WX} {O : List Nat} {sl : Option Nat} {A S : List Addr} {H H' H1 H3 : Hp} {σ : L2.St} {ρ : Rho} {s : Sst}
variable {te : TE} {fe : EF} {g g1 : TG} {pf pf1 : PF} {tt tt1 : TT} {ft ft1 : TF} {fi fi1 : AF} {wi wi1 : TI}
theorem Ctx.targetCF {vs : List Nat} {v : V} {u : U} {ρ' : Rho} {τ : L2.St} {R : L2.St → Hp → Prop} {M : Hp} {X : Hp → Sst → Prop} (hg : TgOK K D (okC vs O sl) g pf) (c : ∀ H' s', X H' s' → Same M (mask H' A) → Ctx K D O sl A S H' τ ρ s') (hM : Same M H) (r : Rep K D M v u) (e : pf u ρ = some ρ')
    (q : ∀ σ', (∀ H' s', X H' s' → Same M (mask H' A) → Ctx K D O sl A S H' σ' ρ' s') → wipe σ' vs = wipe τ vs → R σ' H) : g v τ H R :=
  hg M H (fun σ ρ => (∀ H' s', X H' s' → Same M (mask H' A) → Ctx K D O sl A S H' σ ρ s') ∧ wipe σ vs = wipe τ vs) τ ρ v u ρ' R hM
    (fun i σ ρ v u ok h r => ⟨fun H' s' x sm => (h.1 H' s' x sm).set ok.2.1 ok.2.2 (r.same sm), by
      rw [← h.2]
      exact wipe_eq (by rw [List.length_set]) fun j m => by rw [List.getElem?_set_ne fun z => m (by rw [← z]; exact ok.1)]⟩) ⟨c, rfl⟩ r e fun σ' h => q σ' h.1 h.2
/-- the inner clause's loop: it appends to the list p -/
theorem lc_in {vs1 : List Nat} {p : Addr} {acc : List V} {accU : List U} {P : List U → Sst → Prop} {Nx : Hp → Prop} (hv1 : ∀ i ∈ vs1, sl ≠ some i) (hi1 : IOK K D W0 O sl wi1 fi1) (hg1 : TgOK K D (okC vs1 O sl) g1 pf1) (ht1 : TOK K D W0 O sl tt1 ft1) (he : EOK K D W0 O sl Cl te fe)
    (np : H1 p = none) (pA : p ∉ A) (pS : p ∉ S) (sub : ∀ a ∈ S, a ∈ A)
    (C : ∀ H' s', (Ext S H1 H' ∧ SrcH S H' s' ∧ H' p ≠ none) → Same (mask H3 (p :: A)) (mask H' (p :: A)) → Ctx K D O sl (p :: A) S H' σ ρ s')
    (e3 : Ext S H1 H3) (h3 : SrcH S H3 s) (hp3 : H3 p = some (.lst acc)) (r3 : RepAll K D (mask H3 (p :: A)) acc accU)
    (q : okThen ((fi1 ρ s).bind fun ws s => lcF pf1 ft1 fe ws (wipeR ρ vs1) s accU) P)
    (hN : ∀ H' acc' accU' s', Ext S H1 H' → SrcH S H' s' → H' p = some (.lst acc') → RepAll K D (mask H' (p :: A)) acc' accU' → P accU' s' → Nx H') :
    wi1 σ H3 fun J1 H4 => ∃ W1 : Nat → Nat → Hp → Prop, (∃ m, W1 0 m H4) ∧ ∀ j k H, W1 j k H →
      (J1.stop j H ∧ Nx H) ∨ (J1.go j H ∧ ∃ Nx1 : Hp → Prop, (∀ H', Nx1 H' → ∃ k', k' < k ∧ W1 (j + 1) k' H') ∧ ∀ x H', J1.yld j H x H' → g1 x (wipe σ vs1) H' fun σ3 H5 => wipe σ3 vs1 = wipe σ vs1 ∧ tt1 σ3 H5 fun b H6 =>
        if b = true then te σ3 H6 fun y H7 => ∃ acc, H7 p = some (.lst acc) ∧ acc.length < sizeLine ∧ Nx1 (upd H7 p (.lst (acc ++ [y]))) else Nx1 H6) := by
  have hpn3 : H3 p ≠ none := by rw [hp3]; exact fun z => nomatch z
  have subp : ∀ a ∈ S, a ∈ p :: A := fun a m => List.mem_cons_of_mem _ (sub a m)
  refine hi1 (p :: A) S H3 σ ρ s _ (C H3 s ⟨e3, h3, hpn3⟩ (Same.refl _)) ?_
  cases ei : fi1 ρ s with
  | err a b => rw [ei] at q; exact q.elim
  | stuck => rw [ei] at q; exact q.elim
  | ok ws s4 =>
    rw [ei] at q
    intro J1 H4 e4 h4 hJ
    have hp4 : H4 p = some (.lst acc) := e4.1 _ _ pS hp3
    have sm34 : Same (mask H3 (p :: A)) (mask H4 (p :: A)) := e4.mask subp
    refine ⟨fun j k H => k = ws.length - j ∧ j ≤ ws.length ∧ ∃ acc accU s, Ext S H1 H ∧ SrcH S H s ∧ H p = some (.lst acc) ∧ RepAll K D (mask H (p :: A)) acc accU ∧ Same (mask H4 (p :: A)) (mask H (p :: A)) ∧ okThen (lcF pf1 ft1 fe (ws.drop j) (wipeR ρ vs1) s accU) P,
      ⟨ws.length, by simp, Nat.zero_le _, acc, accU, s4, e3.trans e4, h4, hp4, r3.same sm34, Same.refl _, q⟩, ?_⟩
    rintro i m H2 ⟨rfl, hil, acc, accU, s2, e2, h2, hp, hr, smM, q2⟩
    have hpn : H2 p ≠ none := by rw [hp]; exact fun z => nomatch z
    have c2 : Ctx K D O sl (p :: A) S H2 (wipe σ vs1) (wipeR ρ vs1) s2 := (C H2 s2 ⟨e2, h2, hpn⟩ fun b o k => smM b o (sm34 b o k)).wiped hv1
    have sm2 : Same (mask H4 (p :: A)) H2 := fun b o hb => (mask_some (smM b o hb)).2
    by_cases hlt : i < ws.length
    · have e0 : ws.drop i = ws[i] :: ws.drop (i + 1) := List.drop_eq_getElem_cons hlt
      rw [e0] at q2
      refine .inr ⟨hJ.go i H2 hlt sm2, fun H => ∃ acc accU s, Ext S H1 H ∧ SrcH S H s ∧ H p = some (.lst acc) ∧ RepAll K D (mask H (p :: A)) acc accU ∧ Same (mask H4 (p :: A)) (mask H (p :: A)) ∧ okThen (lcF pf1 ft1 fe (ws.drop (i + 1)) (wipeR ρ vs1) s accU) P, fun H' h' => ⟨ws.length - (i + 1), by omega, rfl, hlt, h'⟩, fun x H3 y => ?_⟩
      obtain ⟨c3, r3, s3⟩ := (hJ.yld i H2 x H3 ws[i] (List.getElem?_eq_getElem hlt) sm2 y).inner smM c2
      unfold lcF at q2
      cases e3 : pf1 ws[i] (wipeR ρ vs1) with
      | none => rw [e3] at q2; exact q2.elim
      | some ρ3 =>
        rw [e3] at q2
        refine Ctx.targetC hg1 c3 r3 e3 fun σ3 c4 w4 => ⟨by rw [w4, wipe_idem], ht1 _ S H3 σ3 ρ3 s2 _ c4 ?_⟩
        cases e4 : ft1 ρ3 s2 with
        | err a b => simp only [e4] at q2; exact q2.elim
        | stuck => simp only [e4] at q2; exact q2.elim
        | ok b s4 =>
          simp only [e4] at q2
          intro b' H4' x4 h4 eb
          have eb' : b' = b := eb
          subst eb'
          have e14 : Ext S H1 H4' := (e2.trans (.of s3)).trans x4
          have hp4 : H4' p = some (.lst acc) := x4.1 _ _ pS (s3 _ _ hp)
          have smr : Same (mask H2 (p :: A)) (mask H4' (p :: A)) := ((Ext.of s3 : Ext S H2 H3).trans x4).mask c2.sub
          cases b' with
          | false => exact ⟨acc, accU, s4, e14, h4, hp4, hr.same smr, fun b o k => smr b o (smM b o k), q2⟩
          | true =>
            refine he _ S H4' σ3 ρ3 s4 _ (c4.ext x4 h4) ?_
            cases e5 : fe ρ3 s4 with
            | err a b => simp only [R.bind, e5] at q2; exact q2.elim
            | stuck => simp only [R.bind, e5] at q2; exact q2.elim
            | ok y5 s5 =>
              intro v5 H5 x5 h5 r5
              have q3 : okThen (if lineB (accU.length + 1) then lcF pf1 ft1 fe (ws.drop (i + 1)) (wipeR ρ vs1) s5 (accU ++ [y5]) else .stuck) P := by
                simpa only [R.bind, e5, if_true] using q2
              have hp5 : H5 p = some (.lst acc) := x5.1 _ _ pS hp4
              have smr5 : Same (mask H2 (p :: A)) (mask H5 (p :: A)) := fun b o k => (x5.mask c2.sub) b o (smr b o k)
              split at q3
              · rename_i hl
                have eM : mask (upd H5 p (.lst (acc ++ [v5]))) (p :: A) = mask H5 (p :: A) := by
                  funext b
                  unfold mask
                  by_cases mb : b ∈ p :: A
                  · rw [if_pos mb, if_pos mb]
                  · rw [if_neg mb, if_neg mb, upd_ne fun z => mb (by rw [z]; exact List.mem_cons_self)]
                refine ⟨acc, hp5, ?_, acc ++ [v5], accU ++ [y5], s5, ?_, ?_, upd_same, ?_, ?_, q3⟩
                · have := lineB_le hl
                  rw [hr.length]
                  omega
                · refine ⟨fun b o n k => ?_, fun b k => ?_⟩
                  · have ne : b ≠ p := fun z => by rw [z, np] at k; cases k
                    rw [upd_ne ne]
                    exact (e14.trans x5).1 b o n k
                  · by_cases ne : b = p
                    · rw [ne, upd_same]; exact fun z => nomatch z
                    · rw [upd_ne ne]; exact (e14.trans x5).2 b k
                · rcases h5 with h5 | ⟨a, d, g1, g2, g3, g4⟩
                  · exact .inl h5
                  · have na : a ≠ p := fun z => pS (by rw [g1, ← z]; simp)
                    have nd : d ≠ p := fun z => pS (by rw [g1, ← z]; simp)
                    exact .inr ⟨a, d, g1, g2, by rw [upd_ne na]; exact g3, by rw [upd_ne nd]; exact g4⟩
                · rw [eM]
                  exact (hr.same smr5).snoc r5
                · rw [eM]
                  exact fun b o k => smr5 b o (smM b o k)
              · exact q3.elim
    · have ei : i = ws.length := by omega
      subst ei
      rw [List.drop_length] at q2
      exact .inl ⟨hJ.stop H2 sm2, hN H2 acc accU s2 e2 h2 hp hr q2⟩
theorem fok_lc2 {vs vs1 : List Nat} (hv : ∀ i ∈ vs, sl ≠ some i) (hv1 : ∀ i ∈ vs1, sl ≠ some i) (hi : IOK K D W O sl wi fi) (hg : TgOK K D (okC vs O sl) g pf) (ht : TOK K D W0 O sl tt ft) (hi1 : IOK K D W0 O sl wi1 fi1) (hg1 : TgOK K D (okC vs1 O sl) g1 pf1) (ht1 : TOK K D W0 O sl tt1 ft1) (he : EOK K D W0 O sl Cl te fe) :
    FOK K D W O sl (tLc2 wi g tt wi1 g1 tt1 te vs vs1) (eLc2 vs vs1 fi pf ft fi1 pf1 ft1 fe) := fun A S Hs σ ρ s Q c q =>
  hi A S Hs σ ρ s _ c (q.bind fun us s1 J H1 e1 h1 hJ q1 => by
    intro p np
    have c1 : Ctx K D O sl A S H1 σ ρ s1 := c.ext e1 h1
    have pA : p ∉ A := fun z => c1.dom p z np
    have pS : p ∉ S := fun z => pA (c.sub p z)
    let RR := fun (i : Nat) (s : Sst) (accU : List U) => PostG D W S σ H1 (fun H' v u => ∃ p, v = .ref p ∧ Hs p = none ∧ OwnAt K D (mask H' (p :: A)) H' p u) (((lc2F vs1 pf ft fi1 pf1 ft1 fe (us.drop i) (wipeR ρ vs) s accU).noerr).bind fun xs s => .ok (.lst xs) s) Q
    refine ⟨fun i m H => m = us.length - i ∧ i ≤ us.length ∧ ∃ acc accU s, Ext S H1 H ∧ SrcH S H s ∧ H p = some (.lst acc) ∧ RepAll K D (mask H (p :: A)) acc accU ∧ RR i s accU, ⟨us.length, by simp, Nat.zero_le _, [], [], s1, Ext.new np, h1.same (Same.new np), upd_same, .nil, q1⟩, ?_⟩
    rintro i m H2 ⟨rfl, hil, acc, accU, s2, e2, h2, hp, hr, q2⟩
    have hpn : H2 p ≠ none := by rw [hp]; exact fun z => nomatch z
    have sm : Same (mask H1 A) (mask H2 (p :: A)) := fun b o hb => by
      obtain ⟨n, hb⟩ := mask_some hb
      refine mask_of (fun z => ?_) (e2.1 b o (fun z => n (c.sub b z)) hb)
      rcases List.mem_cons.mp z with z | z
      · rw [z, np] at hb; cases hb
      · exact n z
    have sm2 : Same (mask H1 A) H2 := fun b o hb => (mask_some (sm b o hb)).2
    have c2 : Ctx K D O sl (p :: A) S H2 (wipe σ vs) (wipeR ρ vs) s2 := (c1.inner np e2 hpn h2).wiped hv
    by_cases hlt : i < us.length
    · have e0 : us.drop i = us[i] :: us.drop (i + 1) := List.drop_eq_getElem_cons hlt
      have q2 : PostG D W S σ H1 (fun H' v u => ∃ p, v = .ref p ∧ Hs p = none ∧ OwnAt K D (mask H' (p :: A)) H' p u) (((lc2F vs1 pf ft fi1 pf1 ft1 fe (us.drop i) (wipeR ρ vs) s2 accU).noerr).bind fun xs s => .ok (.lst xs) s) Q := q2
      rw [e0] at q2
      refine .inr ⟨hJ.go i H2 hlt sm2, fun H => ∃ acc accU s, Ext S H1 H ∧ SrcH S H s ∧ H p = some (.lst acc) ∧ RepAll K D (mask H (p :: A)) acc accU ∧ RR (i + 1) s accU, fun H' h' => ⟨us.length - (i + 1), by omega, rfl, hlt, h'⟩, fun x H3 y => ?_⟩
      obtain ⟨c3, r3, s3⟩ := (hJ.yld i H2 x H3 us[i] (List.getElem?_eq_getElem hlt) sm2 y).inner sm c2
      have x3 : Ext S H2 H3 := Ext.of s3
      have hp3 : H3 p = some (.lst acc) := s3 _ _ hp
      have hpn3 : H3 p ≠ none := by rw [hp3]; exact fun z => nomatch z
      have h3 : SrcH S H3 s2 := c3.src
      unfold lc2F at q2
      cases e3 : pf us[i] (wipeR ρ vs) with
      | none => rw [e3] at q2; exact q2.elim
      | some ρ3 =>
        rw [e3] at q2
        refine Ctx.targetCF (A := p :: A) (S := S) (M := mask H3 (p :: A)) (X := fun H' s' => Ext S H1 H' ∧ SrcH S H' s' ∧ H' p ≠ none) hg (fun H' s' x _ => (c1.inner np x.1 x.2.2 x.2.1).wiped hv) (mask_same _ _) r3 e3 fun σ3 C w4 => ⟨by rw [w4, wipe_idem], ?_⟩
        refine ht _ S H3 σ3 ρ3 s2 _ (C H3 s2 ⟨e2.trans x3, h3, hpn3⟩ (Same.refl _)) ?_
        cases e4 : ft ρ3 s2 with
        | err a b => simp only [e4] at q2; exact q2.elim
        | stuck => simp only [e4] at q2; exact q2.elim
        | ok b s4 =>
          simp only [e4] at q2
          intro b' H4 x4 h4 eb
          have eb' : b' = b := eb
          subst eb'
          have e14 : Ext S H1 H4 := (e2.trans x3).trans x4
          have hp4 : H4 p = some (.lst acc) := x4.1 _ _ pS hp3
          have smr : Same (mask H2 (p :: A)) (mask H4 (p :: A)) := (x3.trans x4).mask c2.sub
          have smr3 : Same (mask H3 (p :: A)) (mask H4 (p :: A)) := x4.mask c2.sub
          cases b' with
          | false => exact ⟨acc, accU, s4, e14, h4, hp4, hr.same smr, q2⟩
          | true =>
            refine lc_in (H1 := H1) (P := fun accU s => RR (i + 1) s accU) hv1 hi1 hg1 ht1 he np pA pS c.sub (fun H' s' x sm => C H' s' x fun b o k => sm b o (smr3 b o k)) e14 h4 hp4 (hr.same smr) ?_ fun H' acc' accU' s' x1 x2 x3 x4 x5 => ⟨acc', accU', s', x1, x2, x3, x4, x5⟩
            have q3 : PostG D W S σ H1 (fun H' v u => ∃ p, v = .ref p ∧ Hs p = none ∧ OwnAt K D (mask H' (p :: A)) H' p u) (((((fi1 ρ3 s4).bind fun ws s => lcF pf1 ft1 fe ws (wipeR ρ3 vs1) s accU).bind fun acc s => lc2F vs1 pf ft fi1 pf1 ft1 fe (us.drop (i + 1)) (wipeR ρ vs) s acc).noerr).bind fun xs s => .ok (.lst xs) s) Q := by
              simpa only [R.bind, if_true] using q2
            cases e5 : (fi1 ρ3 s4).bind fun ws s => lcF pf1 ft1 fe ws (wipeR ρ3 vs1) s accU with
            | err a b => rw [e5] at q3; exact q3.elim
            | stuck => rw [e5] at q3; exact q3.elim
            | ok a b => rw [e5] at q3; exact q3
    · have ei : i = us.length := by omega
      subst ei
      have q2 : PostG D W S σ H1 (fun H' v u => ∃ p, v = .ref p ∧ Hs p = none ∧ OwnAt K D (mask H' (p :: A)) H' p u) (((lc2F vs1 pf ft fi1 pf1 ft1 fe (us.drop us.length) (wipeR ρ vs) s2 accU).noerr).bind fun xs s => .ok (.lst xs) s) Q := q2
      rw [List.drop_length] at q2
      refine .inl ⟨hJ.stop H2 sm2, q2 _ H2 e2 h2 ⟨p, rfl, ?_, .inl ⟨acc, accU, rfl, hp, hr⟩⟩⟩
      cases q : Hs p with
      | none => rfl
      | some x => exact absurd np (e1.2 p (by rw [q]; exact fun z => nomatch z)))
end
end My

set_option linter.all false
set_option maxRecDepth 100000
namespace My
open PySem PySem.Spec PyProof.Rows L2
open C8 (pe_gc)
/-! zip of two sequences, each a list or a tuple -/
def SqX (K : PySem.W.Frag) (H : Hp) : Bool → Addr → List V → Prop
  | true, a, xs => SqT K H a xs
  | false, a, xs => SqL K H a xs
def AtX (h : Heap) : Bool → Addr → Array Value → Prop
  | true, a, us => h.IsTuple a us
  | false, a, us => h.IsList a us
def TnX (h : Heap) : Bool → Addr → Addr → Nat → Prop
  | true, i, a, n => h.IsTupleIter i a n
  | false, i, a, n => h.IsListIter i a n
theorem TnX.keep {h h' : Heap} {t : Bool} {i a : Addr} {n : Nat} (x : TnX h t i a n) (k : ∀ o, h.get? i = some o → h'.get? i = some o) : TnX h' t i a n := by
  cases t with
  | true => exact Heap.IsTupleIter.at x k
  | false => exact Heap.IsListIter.at x k
theorem TnX.obj {h : Heap} {t : Bool} {i a : Addr} {n : Nat} (x : TnX h t i a n) : ∃ o, h.get? i = some o ∧ ∀ v, o.data ≠ .cell v := by
  cases t with
  | true => obtain ⟨o, e, -, d⟩ := x; exact ⟨o, e, fun v z => by rw [d] at z; cases z⟩
  | false => obtain ⟨o, e, -, d⟩ := x; exact ⟨o, e, fun v z => by rw [d] at z; cases z⟩
theorem AtX.lt {h : Heap} {t : Bool} {a : Addr} {us : Array Value} (x : AtX h t a us) : a < h.objs.size := by
  cases t with
  | true => obtain ⟨o, e, -⟩ := x; exact Heap.lt_size e
  | false => obtain ⟨o, e, -⟩ := x; exact Heap.lt_size e
theorem drawsX {prog : Program} {w : World} {A : Around} (hh : A.handled = none) (t : Bool) (i a : Addr) (ne : a ≠ i) (us : Array Value) : Draws prog w A i [i, a] us.size (fun n v => us[n]? = some v) (fun n h => TnX h t i a n ∧ AtX h t a us) := by
  cases t with
  | true => exact Draws.tuple hh i a ne us
  | false => exact Draws.list hh i a ne us
/-- the pairs of what stands at a and b at each turn -/
def Itx (K : PySem.W.Frag) (t1 t2 : Bool) (a b : Addr) : It where
  go := fun n H => ∃ xs ys x y, SqX K H t1 a xs ∧ SqX K H t2 b ys ∧ xs[n]? = some x ∧ ys[n]? = some y
  yld := fun n H v H' => ∃ T x y, v = .ref T ∧ H T = none ∧ H' = upd H T (.tup [x, y]) ∧ (∀ xs, SqX K H t1 a xs → xs[n]? = some x) ∧ (∀ ys, SqX K H t2 b ys → ys[n]? = some y)
  stop := fun n H => ∃ xs ys, SqX K H t1 a xs ∧ SqX K H t2 b ys ∧ n ≤ xs.length ∧ n ≤ ys.length ∧ (n = xs.length ∨ n = ys.length)
section
variable {X : Cx} {pins : List (Addr × Obj)} {σ : L2.St} {H : Hp} {s : Shared}
theorem invX {t : Bool} {a : Addr} {xs : List V} (I : Inv X pins σ H s) (h : SqX X.K H t a xs) : ∃ us : List Value, Vals xs us ∧ AtX s.heap t a us.toArray := by
  cases t with
  | true => obtain ⟨us, r, p, -⟩ := I.tuple h; exact ⟨us, r, p⟩
  | false => obtain ⟨us, r, p, -⟩ := I.list h; exact ⟨us, r, p.isList⟩
theorem injX {t : Bool} {a : Addr} {xs ys : List V} (I : Inv X pins σ H s) (h : SqX X.K H t a xs) (g : SqX X.K H t a ys) : xs = ys := by
  cases t with
  | true => exact I.tuple_inj h g
  | false => exact I.list_inj h g
/-- how the iterator's cells lie -/
structure Lie (z TI TO i1 i2 a b : Addr) : Prop where
  sep : ZipSep2 z TI TO i1 i2 [i1, a] [i2, b]
  ne1 : a ≠ i1
  ne2 : b ≠ i2
theorem lie_of {n a b : Nat} (ha : a < n) (hb : b < n) : Lie (n + 4) (n + 2) (n + 3) n (n + 1) a b := by
  have m : ∀ {x y z : Nat}, x ≠ y → x ≠ z → x ∉ [y, z] := fun h1 h2 h => by
    rcases List.mem_cons.mp h with e | h
    · exact h1 e
    · exact h2 (List.mem_singleton.mp h)
  refine ⟨⟨?_, ?_, ?_, ?_, List.mem_cons_self, m ?_ ?_, m ?_ ?_, ?_, List.mem_cons_self, m ?_ ?_, m ?_ ?_, m ?_ ?_, m ?_ ?_⟩, ?_, ?_⟩ <;> (intro e; try (have e : (_ : Nat) = _ := e); omega)
abbrev cells5 (z TI TO i1 i2 : Addr) : List Addr := [z, TI, TO, i1, i2]
theorem in5 {c z TI TO i1 i2 : Addr} (h : c ∈ cells5 z TI TO i1 i2) : c = z ∨ c = TI ∨ c = TO ∨ c = i1 ∨ c = i2 := by simpa using h
theorem turn_zipX {P : Program} {w : World} {K : PySem.W.Frag} {elts : List Expr} {kk : Nat} {tpos : Pos} {t1 t2 : Bool} {a b z TI TO i1 i2 : Addr} (L : Lie z TI TO i1 i2 a b) :
    Turn P w K (.Tuple elts kk tpos) (Itx K t1 t2 a b) (cells5 z TI TO i1 i2) z (fun n h => IsZip h z TI TO .none ∧ IsTupOf2 h TI (.ref i1) (.ref i2) ∧ (∃ x y, IsTupOf2 h TO x y) ∧ TnX h t1 i1 a n ∧ TnX h t2 i2 b n) where
  mem := List.mem_cons_self
  obj := fun n h st c hc => by
    obtain ⟨hz, hI, ⟨x, y, hO⟩, h1, h2⟩ := st
    rcases in5 hc with rfl | rfl | rfl | rfl | rfl
    · exact ⟨_, hz, nofun⟩
    · exact ⟨_, hI, nofun⟩
    · exact ⟨_, hO, nofun⟩
    · exact h1.obj
    · exact h2.obj
  keep := fun n h h' st k => by
    obtain ⟨hz, hI, ⟨x, y, hO⟩, h1, h2⟩ := st
    exact ⟨k _ (by simp) _ hz, k _ (by simp) _ hI, ⟨x, y, k _ (by simp) _ hO⟩, h1.keep fun o e => k _ (by simp) o e, h2.keep fun o e => k _ (by simp) o e⟩
  item := by
    intro X hP hw hK hcalm n pins s σ H E I hf st hg
    subst hP hw hK
    obtain ⟨hz, hI, ⟨x0, y0, hO⟩, h1, h2⟩ := st
    obtain ⟨xs, ys, x, y, gx, gy, ex, ey⟩ := hg
    obtain ⟨us, rx, px⟩ := invX I gx
    obtain ⟨ws, ry, py⟩ := invX I gy
    obtain ⟨u, eu, ru⟩ := rx.get ex
    obtain ⟨v, ev, rv⟩ := ry.get ey
    have zlt : z < s.heap.objs.size := Heap.lt_size hz
    have hh : X.A.in1.handled = none := I.ok.hd hcalm
    refine wpAny_pyNext_zipD2_item L.sep (drawsX hh t1 i1 a L.ne1 us.toArray) (drawsX hh t2 i2 b L.ne2 ws.toArray) hz hI hO ⟨h1, px⟩ ⟨h2, py⟩ (i := n) (by have := (List.getElem?_eq_some_iff.mp eu).1; simpa using this) (by have := (List.getElem?_eq_some_iff.mp ev).1; simpa using this) fun u' v' h' tk pu pv hz' hO' s1' s2' hT hsz hk => ?_
    have eu' : u' = u := by simp only [List.getElem?_toArray] at pu; rw [eu] at pu; injection pu with q; exact q.symm
    have ev' : v' = v := by simp only [List.getElem?_toArray] at pv; rw [ev] at pv; injection pv with q; exact q.symm
    subst eu' ev'
    refine ⟨_, rfl, wpAny_letOwnedTupleGo_zip (s := { s with heap := h', toks := tk }) hz' fun h2' hz2 sb => ?_⟩
    have go : ∀ c o, c ≠ z → c ≠ TO → c ≠ i1 → c ≠ i2 → s.heap.get? c = some o → h2'.get? c = some o := fun c o n1 n2 n3 n4 e => (sb.2 c n1).trans (hk c o n1 n2 n3 n4 e)
    have hT2 := (sb.2 _ (Nat.ne_of_gt zlt)).trans hT
    have new : ObjOk X.prog X.w (upd H s.heap.objs.size (.tup [x, y])) h2' s.heap.objs.size (.tup [x, y]) :=
      ⟨(by decide : 2 ≤ sizeLine), [u', v'], .cons ru (.cons rv .nil), _, hT2, rfl, _, rfl⟩
    have I2 : Inv X pins σ (upd H s.heap.objs.size (.tup [x, y])) { s with heap := h2', toks := tk } := I.turnedNew (ch := cells5 z TI TO i1 i2) (fun c o hc e => go c o (fun q => hc (by simp [q])) (fun q => hc (by simp [q])) (fun q => hc (by simp [q])) (fun q => hc (by simp [q])) e) hf (Nat.le_refl _) new
    refine ⟨.ref s.heap.objs.size, _, I2, rfl, ⟨_, x, y, rfl, I.hok.fresh (Nat.le_refl _), rfl, fun l g => (injX I g gx) ▸ ex, fun l g => (injX I g gy) ▸ ey⟩, ⟨hz2, ?_, ⟨u', v', ?_⟩, ?_, ?_⟩, fun c hc => ?_⟩
    · exact (sb.2 _ L.sep.TIz).trans (hk _ _ L.sep.TIz L.sep.TITO L.sep.TIi1 L.sep.TIi2 hI)
    · exact (sb.2 _ L.sep.TOz).trans hO'
    · exact s1'.1.keep fun o e => (sb.2 _ L.sep.zi1.symm).trans e
    · exact s2'.1.keep fun o e => (sb.2 _ L.sep.zi2.symm).trans e
    · have ne : c ≠ s.heap.objs.size := by
        rcases in5 hc with rfl | rfl | rfl | rfl | rfl
        · exact Nat.ne_of_lt zlt
        · exact Nat.ne_of_lt (Heap.lt_size hI)
        · exact Nat.ne_of_lt (Heap.lt_size hO)
        · obtain ⟨o, e, -⟩ := h1.obj; exact Nat.ne_of_lt (Heap.lt_size e)
        · obtain ⟨o, e, -⟩ := h2.obj; exact Nat.ne_of_lt (Heap.lt_size e)
      rw [upd_ne ne]
      exact (hf c hc).1
  done := by
    intro X hP hw hK hcalm n pins s σ H E I hf st hg
    subst hP hw hK
    obtain ⟨hz, hI, ⟨x0, y0, hO⟩, h1, h2⟩ := st
    obtain ⟨xs, ys, gx, gy, l1, l2, ee⟩ := hg
    obtain ⟨us, rx, px⟩ := invX I gx
    obtain ⟨ws, ry, py⟩ := invX I gy
    have n1 := rx.length
    have n2 := ry.length
    have hh : X.A.in1.handled = none := I.ok.hd hcalm
    refine wpAny_pyNext_zipD2_end L.sep (drawsX hh t1 i1 a L.ne1 us.toArray) (drawsX hh t2 i2 b L.ne2 ws.toArray) hz hI hO ⟨h1, px⟩ ⟨h2, py⟩ (i := n) (by simp; omega) (by simp; omega) (by simp; omega) fun h' tk hk => ⟨rfl, I.turnedL (ch := cells5 z TI TO i1 i2) (fun c o hc e => hk c o (fun q => hc (by simp [q])) (fun q => hc (by simp [q])) (fun q => hc (by simp [q])) (fun q => hc (by simp [q])) e) hf⟩
  self := fun A n s Q E st h => wpAny_pyIter_zip st.1 h
theorem beginsX (t : Bool) (a : Addr) (us : Array Value) : ∃ o, Begins (.ref a) o (fun h => AtX h t a us) ∧ ∀ h i, h.get? i = some o → TnX h t i a 0 := by
  cases t with
  | true => exact ⟨_, begins_tuple a us, fun h i e => ⟨_, e, rfl, rfl⟩⟩
  | false => exact ⟨_, begins_list a us, fun h i e => ⟨_, e, rfl, rfl⟩⟩
def iZipX (K : PySem.W.Frag) (ta : TA) : TI := fun σ H R => ta σ H fun vs H1 => ∃ a b t1 t2 xs ys, vs = [.ref a, .ref b] ∧ SqX K H1 t1 a xs ∧ SqX K H1 t2 b ys ∧ R (Itx K t1 t2 a b) H1
theorem pi_zipX {e e2 : Expr} {ta : TA} {p pos tpos : Pos} {elts : List Expr} {kk : Nat} (hg : Gl X "zip") (hm : X.mg "zip" = none) (ha : PA X [e, e2] ta)
    (hs : starEach [e, e2] X.env = (false, eval e X.env) :: starEach [e2] X.env := by rfl) (hpl : (backTo pos (starEach [e2] X.env)).any (·.1) = false := by rfl) :
    PI X (.Tuple elts kk tpos) (.Call (.Name "zip" p) [e, e2] [] pos) (iZipX X.K ta) := by
  refine ⟨fun pins s σ H R I h => Call_ (ld_blt I hg hm PyProof.Rows.boot_zip (PyProof.Rows.callWith_type1 (thn (ha.run pos pins s σ H _ I h) fun us s1 hq => ?_) hs hpl))⟩
  obtain ⟨vs, H1, I1, r1, a, b, t1, t2, xs, ys, rfl, gx, gy, q⟩ := hq
  cases r1 with
  | cons ra r1 =>
    cases r1 with
    | cons rb r1 =>
      cases r1
      cases ra
      cases rb
      obtain ⟨us, -, px⟩ := invX I1 gx
      obtain ⟨ws, -, py⟩ := invX I1 gy
      obtain ⟨o1, b1, d1⟩ := beginsX t1 a us.toArray
      obtain ⟨o2, b2, d2⟩ := beginsX t2 b ws.toArray
      refine zip_begins2 b1 b2 px py fun h' hz hI hO g1 g2 hsz hk => wpAny_pyIter_zip hz ?_
      refine ⟨_, cells5 _ _ _ _ _, _, _, H1, rfl, I1.kept hk, turn_zipX (lie_of px.lt py.lt), ⟨hz, hI, ⟨_, _, hO⟩, d1 _ _ g1, d2 _ _ g2⟩, fun c hc => ?_, q⟩
      have hle : s1.heap.objs.size ≤ c := by
        rcases in5 hc with rfl | rfl | rfl | rfl | rfl
        · exact Nat.le_add_right _ _
        · exact Nat.le_add_right _ _
        · exact Nat.le_add_right _ _
        · exact Nat.le_refl _
        · exact Nat.le_add_right _ _
      have f := I1.fpOk hle (I1.hok.fresh hle)
      exact f
theorem pi_zipK {K : PySem.W.Frag} {e e2 : Expr} {ta : TA} {p pos tpos : Pos} {elts : List Expr} {kk : Nat} (hg : Gl X "zip") (hm : X.mg "zip" = none) (ha : PA X [e, e2] ta) (hK : X.K = K := by rfl)
    (hs : starEach [e, e2] X.env = (false, eval e X.env) :: starEach [e2] X.env := by rfl) (hpl : (backTo pos (starEach [e2] X.env)).any (·.1) = false := by rfl) :
    PI X (.Tuple elts kk tpos) (.Call (.Name "zip" p) [e, e2] [] pos) (iZipX K ta) := by
  subst hK
  exact pi_zipX hg hm ha hs hpl
end
def zipU (x y : U) : Option (List U) := match x.seq?, y.seq? with
  | some xs, some ys => some ((xs.zip ys).map fun p => .tup [p.1, p.2])
  | _, _ => none
def iZip (a b : EF) : AF := fun ρ s => ((aCons a (aCons b aNil)) ρ s).bind fun l s => match l with | [x, y] => opt (zipU x y) s | _ => .stuck
section
variable {K : PySem.W.Frag} {D : String → Addr} {W : WX} {O : List Nat} {sl : Option Nat}
theorem seqX {M H : Hp} {v : V} {u : U} {us : List U} (r : Rep K D M v u) (e : u.seq? = some us) (sm : Same M H) : ∃ a t vs, v = .ref a ∧ RepAll K D M vs us ∧ ∀ H', Same M H' → SqX K H' t a vs := by
  cases u with
  | lst ws =>
    cases e
    cases r with
    | lst g r => exact ⟨_, false, _, rfl, r, fun H' s => SqL.of (s _ _ g)⟩
  | tup ws =>
    cases e
    cases r with
    | tup g r => exact ⟨_, true, _, rfl, r, fun H' s => Same.tup s g⟩
  | _ => cases e
theorem RepAll.get? {M : Hp} : ∀ {vs : List V} {us : List U} {i : Nat} {u : U}, RepAll K D M vs us → us[i]? = some u → ∃ v, vs[i]? = some v ∧ Rep K D M v u
  | _, _, 0, _, .cons r _, e => by cases e; exact ⟨_, rfl, r⟩
  | _, _, i + 1, _, .cons _ r, e => RepAll.get? (i := i) r e
  | _, _, _, _, .nil, e => by cases e
theorem jok_zip {t1 t2 : Bool} {a b : Addr} {vs ws : List V} {us qs : List U} {M : Hp} (ha : ∀ H', Same M H' → SqX K H' t1 a vs) (hb : ∀ H', Same M H' → SqX K H' t2 b ws) (ra : RepAll K D M vs us) (rb : RepAll K D M ws qs) : JOK K D (Itx K t1 t2 a b) ((us.zip qs).map fun p => U.tup [p.1, p.2]) M where
  go := fun i H hi sm => by
    have la := ra.length
    have lb := rb.length
    rw [List.length_map, List.length_zip] at hi
    exact ⟨vs, ws, vs[i], ws[i], ha H sm, hb H sm, List.getElem?_eq_getElem (by omega), List.getElem?_eq_getElem (by omega)⟩
  stop := fun H sm => by
    have la := ra.length
    have lb := rb.length
    rw [List.length_map, List.length_zip]
    exact ⟨vs, ws, ha H sm, hb H sm, by omega, by omega, by omega⟩
  yld := fun i H x H' u e sm y => by
    obtain ⟨T, xv, yv, rfl, nT, rfl, h1, h2⟩ := y
    rw [List.getElem?_map] at e
    cases ez : (us.zip qs)[i]? with
    | none => rw [ez] at e; cases e
    | some p =>
      rw [ez] at e
      cases e
      rw [List.getElem?_zip_eq_some] at ez
      obtain ⟨v1, g1, r1⟩ := ra.get? ez.1
      obtain ⟨v2, g2, r2⟩ := rb.get? ez.2
      have k1 := h1 _ (ha H sm)
      have k2 := h2 _ (hb H sm)
      rw [g1] at k1
      rw [g2] at k2
      cases k1
      cases k2
      exact .inr ⟨T, [xv, yv], [p.1, p.2], rfl, nT, rfl, rfl, .cons r1 (.cons r2 .nil)⟩
theorem iok_zipA {tas : TA} {fa fb : EF} (h : AOK K D W O sl ClA tas (aCons fa (aCons fb aNil))) : IOK K D W O sl (iZipX K tas) (iZip fa fb) := fun A S H σ ρ s R c q =>
  h A S H σ ρ s _ c (q.bind fun xs s1 vs H1 e1 h1 r1 q1 => by
    split at q1
    · rename_i x y
      cases r1 with
      | cons ra r1 =>
        cases r1 with
        | cons rb r1 =>
          cases r1
          unfold zipU at q1
          split at q1
          · rename_i us qs eu eq
            obtain ⟨a, t1, vs, rfl, ra, ha⟩ := seqX ra eu (mask_same _ _)
            obtain ⟨b, t2, ws, rfl, rb, hb⟩ := seqX rb eq (mask_same _ _)
            exact ⟨a, b, t1, t2, vs, ws, rfl, ha _ (mask_same _ _), hb _ (mask_same _ _), q1 _ _ (Ext.refl _ _) h1 (jok_zip ha hb ra rb)⟩
          · exact q1.elim
    · exact q1.elim)
theorem iok_zip {ta tb : TE} {fa fb : EF} (ha : EOK K D W O sl Cl ta fa) (hb : EOK K D W O sl Cl tb fb) : IOK K D W O sl (iZipX K (tCons ta (tCons tb tNil))) (iZip fa fb) := iok_zipA (aok_cons ha (aok_cons hb aok_nil))
end
end My

set_option linter.all false
set_option maxRecDepth 100000
namespace My
open PySem PySem.Spec PyProof.Rows L2
open C8 (pe_gc)
/-! the set of a list of whole numbers, sorted -/
abbrev emptySet (w : World) : Obj := { cls := .type "set", dict := none, data := .set #[] 0 (.fresh 0 0 (!w.params.followText "set-order")) }
section
variable {P : Program} {w : World} {A : Around} {E : Value → Shared → Prop} {s : Shared}
set_option maxHeartbeats 3200000 in
theorem set_of_list {l : Addr} {us : Array Value} (ns : List Int) {Q : Value → Shared → Prop} (hh : A.handled = none) (hl : s.heap.IsList l us) (hi : IntsAre us.toList ns) (room : ns.length + 1 < scanBound)
    (q : ∀ (g : Heap) (tk c : Nat), SetR w g s.heap.objs.size (fun j => decide (j ∈ ns)) c → c ≤ ns.length → (∀ b o, s.heap.get? b = some o → g.get? b = some o) → Q (.ref s.heap.objs.size) { s with heap := g, toks := tk }) :
    wpAny (model P w) A (call (.type "set") [.ref l]) Q E s := by
  have size : us.size = ns.length := by rw [← Array.length_toList]; exact IntsAre.length hi
  obtain ⟨c0, t0, m0⟩ := F.called_set.mro
  have made := F.called_set.made
  have subs := F.called_set.sub
  refine wpAny_call (codeAny_of_tree (show wpAny _ _ (callAny (.type "set") _) _ _ _ from wpAny_pure ⟨Code.quiet_builtin _ (by decide +kernel), codeAny_builtin F.entry_type_call ?_⟩))
  rw [Around.under_plain (weight_type_call_type "set" [.ref l] []) rfl]
  have f1 := F.called_set.notType
  have f2 := F.called_set.canCreate
  have f3 := F.typeCall_set_1 (.ref l)
  repeat any_goals first | assumption | wp_step
  refine codeAny_mono (code_set_led1 (.ref l) (E := E) (Q₁ := fun p s1 => p = .ref s.heap.objs.size ∧ s1 = { s with heap := s.heap.push (emptySet w) }) ⟨rfl, rfl⟩) fun r s1 hr => ?_
  match r, hr with
  | .error _, hr => exact hr
  | .ok (.ret p), hr =>
    obtain ⟨rfl, rfl⟩ := hr
    have atS : (s.heap.push (emptySet w)).get? s.heap.objs.size = some (emptySet w) := Heap.get?_push_size _ rfl
    have isS : Shared.TypeIs { s with heap := s.heap.push (emptySet w) } (.ref s.heap.objs.size) "set" := ⟨_, atS, rfl⟩
    have i1 := F.called_set.init.lookup
    have i2 := F.called_set.init.bind (.ref s.heap.objs.size)
    repeat any_goals first | assumption | wp_step
    refine codeAny_mono (codeAny_call_builtin (R := wants (fun r s2 => r = .none ∧ ∃ g tk c, s2 = { s with heap := g, toks := tk } ∧ SetR w g s.heap.objs.size (fun j => decide (j ∈ ns)) c ∧ c ≤ ns.length ∧ ∀ b o, s.heap.get? b = some o → g.get? b = some o) E) F.called_set.init.plain F.entry_set_init (check_set_init_1 isS ?_)) fun r2 s2 hr2 => ?_
    · obtain ⟨⟨cl, di, da, sl⟩, eo, e1, n0, e2⟩ := hl
      simp only at e1 e2
      subst e1 e2
      have at0 : (s.heap.push (emptySet w)).get? l = some { cls := .type "list", dict := di, data := .seq us n0, slots := sl } := Heap.get?_push_of_some _ eo
      have n1 := F.sub_list_set
      have n2 := F.sub_list_frozenset
      have n3 : (Value.type "list" == Value.type "dict") = false := rfl
      have isL : (s.heap.push (emptySet w)).IsList l us := ⟨_, at0, rfl, n0, rfl⟩
      unfold Builtin.«set.__init__» noKeywords Builtin.Frozenset.updateFrom
      generalize eI : pyIter = I0
      wp_walk
      subst eI
      refine wpAny_pyIter_list isL (wpAny_bind (wpAny_runValue ?_))
      have lt : l < s.heap.objs.size := Heap.lt_size eo
      have grown : (s.heap.push (emptySet w)).objs.size = s.heap.objs.size + 1 := Heap.size_push ..
      have apart : l ≠ (s.heap.push (emptySet w)).objs.size := by rw [grown]; exact Nat.ne_of_lt (Nat.lt_succ_of_lt lt)
      have out : s.heap.objs.size ∉ [(s.heap.push (emptySet w)).objs.size, l] := fun z => by
        rw [grown] at z
        rcases List.mem_cons.mp z with z | z
        · exact absurd z (Nat.ne_of_lt (Nat.lt_succ_self _))
        · exact absurd (List.mem_singleton.mp z) (Nat.ne_of_gt lt)
      have vals : ∀ (i : Nat) (v : Value), us[i]? = some v → ∃ k t, ns[i]? = some k ∧ v = .int k t := fun i v e => by
        have lt : i < ns.length := size ▸ (Array.getElem?_eq_some_iff.mp e).1
        obtain ⟨t, e⟩ := IntsAre.int_at hi i v ((Array.getElem?_toList ..).trans e)
        exact ⟨ns[i], t, List.getElem?_eq_getElem lt, by rw [e, List.getD_eq_getElem?_getD, List.getElem?_eq_getElem lt]; rfl⟩
      refine set_update_ints ((Walks.list (by simp [hh]) _ l apart us).toS) s.heap.objs.size out ns size room vals (us.size - 0) 0 _ rfl (Nat.zero_le _) ⟨⟨_, Heap.get?_push_size _ rfl, rfl, rfl⟩, isL.push _⟩ ⟨0, Nat.le_refl _, setR_new_at (Heap.get?_push_of_some _ atS)⟩ ?_
      rintro ⟨g, g2, d2, tk, os2⟩ c moved hc hS
      obtain rfl : g2 = s.gens := moved.gens
      obtain rfl : d2 = s.drawn := moved.drawn
      obtain rfl : os2 = s.os := moved.os
      rw [size] at hc
      refine wpAny_pure (show wpAny _ _ (ret Value.none) _ _ _ from wpAny_pure ⟨rfl, g, tk, c, rfl, hS, hc, fun b o e => ?_⟩)
      have lb : b < s.heap.objs.size := Heap.lt_size e
      refine moved.heap b o (fun z => ?_) (Heap.get?_push_of_some _ (Heap.get?_push_of_some _ e))
      rw [grown] at z
      rcases List.mem_cons.mp z with z | z
      · exact absurd z (Nat.ne_of_lt lb)
      · exact absurd (List.mem_singleton.mp z) (Nat.ne_of_lt (Nat.lt_succ_of_lt lb))
    · match r2, hr2 with
      | .error _, hr2 => exact hr2
      | .ok (.ret _), hr2 =>
        obtain ⟨rfl, g, tk, c, rfl, k1, k2, k3⟩ := hr2
        repeat any_goals first | assumption | wp_step
        exact q _ _ _ k1 k2 k3
      | .ok .next, hr2 => exact hr2.elim
      | .ok .brk, hr2 => exact hr2.elim
      | .ok .cont, hr2 => exact hr2.elim
  | .ok .next, hr => exact hr.elim
  | .ok .brk, hr => exact hr.elim
  | .ok .cont, hr => exact hr.elim
end
end My

set_option linter.all false
set_option maxRecDepth 100000
namespace My
open PySem PySem.Spec PyProof.Rows L2
open C8 (pe_gc)
/-! sorted -/
def insZ (x : Int) : List Int → List Int
  | [] => [x]
  | y :: ys => if x ≤ y then x :: y :: ys else y :: insZ x ys
def sortZ (ns : List Int) : List Int := ns.foldr insZ []
def addI (x : Int) : List Int → List Int
  | [] => [x]
  | y :: ys => if x < y then x :: y :: ys else if x = y then y :: ys else y :: addI x ys
def setI (ns : List Int) : List Int := ns.foldr addI []
theorem insZ_perm (x : Int) : ∀ ys, (insZ x ys).Perm (x :: ys)
  | [] => .refl _
  | y :: ys => by
    unfold insZ
    split
    · exact .refl _
    · exact ((insZ_perm x ys).cons y).trans (.swap x y ys)
theorem sortZ_perm : ∀ ns, (sortZ ns).Perm ns
  | [] => .refl _
  | n :: ns => (insZ_perm n (sortZ ns)).trans ((sortZ_perm ns).cons n)
theorem insZ_srt (x : Int) : ∀ ys, ys.Pairwise (· ≤ ·) → (insZ x ys).Pairwise (· ≤ ·)
  | [], _ => by simp [insZ]
  | y :: ys, h => by
    obtain ⟨h1, h2⟩ := List.pairwise_cons.mp h
    unfold insZ
    split
    · rename_i e
      refine List.pairwise_cons.mpr ⟨fun z hz => ?_, h⟩
      rcases List.mem_cons.mp hz with rfl | hz
      · exact e
      · exact Int.le_trans e (h1 z hz)
    · rename_i e
      refine List.pairwise_cons.mpr ⟨fun z hz => ?_, insZ_srt x ys h2⟩
      rcases List.mem_cons.mp ((insZ_perm x ys).mem_iff.mp hz) with rfl | hz
      · show y ≤ z; omega
      · exact h1 z hz
theorem sortZ_srt : ∀ ns, (sortZ ns).Pairwise (· ≤ ·)
  | [] => .nil
  | n :: ns => insZ_srt n _ (sortZ_srt ns)
theorem sortZ_of {ns ms : List Int} (p : ms.Perm ns) (s : ms.Pairwise (· ≤ ·)) : ms = sortZ ns :=
  List.Perm.eq_of_pairwise (le := (· ≤ ·)) (fun a b _ _ h1 h2 => Int.le_antisymm h1 h2) s (sortZ_srt ns) (p.trans (sortZ_perm ns).symm)
theorem addI_mem (x k : Int) : ∀ ys, k ∈ addI x ys ↔ k = x ∨ k ∈ ys
  | [] => by simp [addI]
  | y :: ys => by
    unfold addI
    split
    · simp
    · split
      · rename_i e; subst e; simp
      · rw [List.mem_cons, addI_mem x k ys, List.mem_cons]; constructor
        · rintro (h | h | h)
          · exact .inr (.inl h)
          · exact .inl h
          · exact .inr (.inr h)
        · rintro (h | h | h)
          · exact .inr (.inl h)
          · exact .inl h
          · exact .inr (.inr h)
theorem setI_mem (k : Int) : ∀ ns, k ∈ setI ns ↔ k ∈ ns
  | [] => by simp [setI]
  | n :: ns => by
    show k ∈ addI n (setI ns) ↔ _
    rw [addI_mem, setI_mem k ns, List.mem_cons]
theorem addI_srt (x : Int) : ∀ ys, ys.Pairwise (· < ·) → (addI x ys).Pairwise (· < ·)
  | [], _ => by simp [addI]
  | y :: ys, h => by
    obtain ⟨h1, h2⟩ := List.pairwise_cons.mp h
    unfold addI
    split
    · rename_i e
      refine List.pairwise_cons.mpr ⟨fun z hz => ?_, h⟩
      rcases List.mem_cons.mp hz with rfl | hz
      · exact e
      · exact Int.lt_trans e (h1 z hz)
    · split
      · exact h
      · refine List.pairwise_cons.mpr ⟨fun z hz => ?_, addI_srt x ys h2⟩
        rcases (addI_mem x z ys).mp hz with rfl | hz
        · show y < z; omega
        · exact h1 z hz
theorem setI_srt : ∀ ns, (setI ns).Pairwise (· < ·)
  | [] => .nil
  | n :: ns => addI_srt n _ (setI_srt ns)
theorem nodup_lt {ns : List Int} (h : ns.Pairwise (· < ·)) : ns.Nodup := h.imp fun h => Int.ne_of_lt h
theorem setI_of {ns ms : List Int} (s : ms.Pairwise (· < ·)) (m : ∀ k, k ∈ ms ↔ k ∈ ns) : ms = setI ns :=
  List.Perm.eq_of_pairwise (le := (· < ·)) (fun a b _ _ h1 h2 => absurd (Int.lt_trans h1 h2) (Int.lt_irrefl _)) s (setI_srt ns) ((List.perm_ext_iff_of_nodup (nodup_lt s) (nodup_lt (setI_srt ns))).mpr fun k => (m k).trans (setI_mem k ns).symm)
theorem addI_len (x : Int) : ∀ ys, (addI x ys).length ≤ ys.length + 1
  | [] => by simp [addI]
  | y :: ys => by
    have := addI_len x ys
    unfold addI
    split
    · simp
    · split
      · simp
      · simp; omega
theorem setI_len : ∀ ns, (setI ns).length ≤ ns.length
  | [] => by simp [setI]
  | n :: ns => by
    have h1 := addI_len n (setI ns)
    have h2 := setI_len ns
    show (addI n (setI ns)).length ≤ ns.length + 1
    omega
/-- sorted(set(xs)) -/
def pSetSort : List U → Option U
  | [.lst us] => (allInt us).bind fun ns => if us.length < 4000 ∧ (setI ns).length < 60 then some (.lst ((setI ns).map .int)) else none
  | _ => none
def intKeys : List (U × U) → Option (List Int)
  | [] => some []
  | (.int i, _) :: us => (intKeys us).map (i :: ·)
  | _ :: _ => none
section
variable {X : Cx} {K : PySem.W.Frag} {D : String → Addr}
theorem nodup_in {α : Type} [DecidableEq α] : ∀ (xs l : List α), xs.Nodup → (∀ x ∈ xs, x ∈ l) → xs.length ≤ l.length
  | [], _, _, _ => Nat.zero_le _
  | x :: xs, l, nd, h => by
    obtain ⟨a, b⟩ := List.nodup_cons.mp nd
    have hx := h x (by simp)
    have := nodup_in xs (l.erase x) b fun y hy => (List.mem_erase_of_ne (by rintro rfl; exact a hy)).mpr (h y (List.mem_cons_of_mem _ hy))
    rw [List.length_erase_of_mem hx] at this
    have := List.length_pos_of_mem hx
    rw [List.length_cons]
    omega
theorem newInts {A : List Addr} {H : Hp} {p : Addr} (np : H p = none) (d : ∀ z ∈ A, H z ≠ none) (ns : List Int) : Cl K D A S (upd H p (.lst (ns.map V.int))) (.ref p) (.lst (ns.map .int)) := by
  refine Rep.newL ?_ np d
  induction ns with
  | nil => exact .nil
  | cons n ns ih => exact .cons (.int n) ih
theorem keys_of {M : Hp} : ∀ {us : List (U × U)} {vs : List (Key × V)} {ns : List Int}, RepKV K D M vs us → intKeys us = some ns → vs.map (·.1) = ns.map Sum.inl
  | [], _, _, .nil, e => by cases e; rfl
  | (c, u) :: us, _, ns, .cons (k := k) h0 h1 h2, e => by
    cases k with
    | inl i =>
      subst h0
      change (intKeys us).map (i :: ·) = some ns at e
      cases e2 : intKeys us with
      | none => rw [e2] at e; cases e
      | some ms =>
        rw [e2] at e
        cases e
        show Sum.inl i :: _ = Sum.inl i :: _
        rw [keys_of h2 e2]
    | inr x => subst h0; cases e
theorem intKeys_len : ∀ {us : List (U × U)} {ns : List Int}, intKeys us = some ns → ns.length = us.length
  | [], _, e => by cases e; rfl
  | (c, u) :: us, ns, e => by
    cases c with
    | int i =>
      change (intKeys us).map (i :: ·) = some ns at e
      cases e2 : intKeys us with
      | none => rw [e2] at e; cases e
      | some ms => rw [e2] at e; cases e; simp [intKeys_len e2]
    | _ => cases e
/-- sorted(set(xs)), xs a list of fewer than 60 whole numbers -/
def tSetSort (K : PySem.W.Frag) (ta : TE) : TE := fun σ H Q => ta σ H fun x H1 => ∃ (l : Addr) (ns : List Int), x = .ref l ∧ SqL K H1 l (ns.map V.int) ∧ (ns.length < 4000 ∧ (setI ns).length < 60) ∧ ∀ p, H1 p = none → Q (.ref p) (upd H1 p (.lst ((setI ns).map V.int)))
theorem pe_setSort {a : Expr} {ta : TE} {p p2 r0 pos : Pos} (hg : Gl X "sorted") (hm : X.mg "sorted" = none) (hg2 : Gl X "set") (hm2 : X.mg "set" = none) (ha : PE X a ta) (hc : X.calm = true := by rfl)
    (na : starEach [a] X.env = (false, eval a X.env) :: starEach [] X.env := by rfl) : PE X (.Call (.Name "sorted" p) [.Call (.Name "set" p2) [a] [] r0] [] pos) (tSetSort X.K ta) := by
  refine ⟨fun pins s σ H Q I h => Call_ (ld_blt I hg hm boot_sorted ?_)⟩
  refine PyProof.Rows.callWith_builtin1 (PyProof.Rows.args_cons (Call_ (ld_blt I hg2 hm2 boot_set (PyProof.Rows.callWith_type1 (PyProof.Rows.args_cons (thn (ha.run pins s σ H _ I h) fun v s1 hq => PyProof.Rows.args_nil ?_) na) na rfl))) rfl) rfl rfl
  obtain ⟨x, H1, I1, r1, l, ns, rfl, hs, ⟨hl, hl2⟩, q⟩ := hq
  cases r1
  obtain ⟨us, rv, at0, -⟩ := I1.list hs
  have hi : IntsAre us.toArray.toList ns := ints_of_vals rv
  refine set_of_list ns (I1.ok.hd hc) at0.isList hi (by unfold scanBound; omega) fun g tk c R cl old => PyProof.Rows.args_nil ?_
  have hc64 : c < 64 := by
    obtain ⟨o, es, ep, t, _, _, _, _, nd, hm, _, _, hn, _⟩ := id R
    have := nodup_in (es.toList.map keyOf) (setI ns) nd fun k hk => (setI_mem k ns).mpr (by simpa using (hm k).mpr hk)
    rw [List.length_map, Array.length_toList, hn] at this
    omega
  refine sorted_set R (I1.ok.hd hc) hc64 fun s2 p out c2 ms k g2 o2 hp at1 im sm mm lm => ?_
  have I2 : Inv X pins σ H1 { s1 with heap := g, toks := tk } := I1.kept old
  have le : s1.heap.objs.size ≤ p := Nat.le_trans (Nat.le_of_lt (Heap.lt_size (R.choose_spec.choose_spec.choose_spec.choose_spec.1))) hp
  have np : H1 p = none := I1.hok.fresh le
  have em : ms = setI ns := setI_of sm fun k => (mm k).trans (by simp)
  have sz : (ms.map V.int).length ≤ sizeLine := by
    have := setI_len ns
    rw [List.length_map, em, sizeLine_eq]
    omega
  have J : Inv X pins σ (upd H1 p (.lst (ms.map V.int))) { ({ s1 with heap := g, toks := tk } : Shared) with heap := s2.heap, gens := s2.gens, drawn := s2.drawn, toks := s2.toks } :=
    I2.call (ch := []) (Un.laid k hp np) (I2.hok.laid k hp ⟨sz, out.toList, c2, vals_of_ints im, at1⟩) (by rw [g2]; exact I2.bare) nofun
  have es : s2 = { s1 with heap := s2.heap, gens := s2.gens, drawn := s2.drawn, toks := s2.toks } := by
    obtain ⟨a1, a2, a3, a4, a5⟩ := s2
    obtain rfl : a5 = s1.os := o2
    rfl
  rw [es]
  exact ⟨.ref p, _, J, rfl, by rw [em]; exact q p np⟩
theorem pe_setSortK {a : Expr} {ta : TE} {p p2 r0 pos : Pos} (hg : Gl X "sorted") (hm : X.mg "sorted" = none) (hg2 : Gl X "set") (hm2 : X.mg "set" = none) (ha : PE X a ta) (hc : X.calm = true := by rfl) (hK : X.K = K := by rfl)
    (na : starEach [a] X.env = (false, eval a X.env) :: starEach [] X.env := by rfl) : PE X (.Call (.Name "sorted" p) [.Call (.Name "set" p2) [a] [] r0] [] pos) (tSetSort K ta) := by
  subst hK
  exact pe_setSort hg hm hg2 hm2 ha hc na
end
section
variable {K : PySem.W.Frag} {D : String → Addr} {W : WX} {O : List Nat} {sl : Option Nat} {ta : TE} {fa : EF}
theorem eok_setSort (ha : EOK K D W O sl Cl ta fa) : EOK K D W O sl Cl (tSetSort K ta) (My.e1 (fun x => pSetSort [x]) fa) := fun A S H σ ρ s Q c q =>
  ha A S H σ ρ s _ c (q.bind fun x s1 v H1 e1 h1 r1 q1 => by
    obtain ⟨z, hz, q3⟩ := q1.opt h1
    change pSetSort [x] = some z at hz
    unfold pSetSort at hz
    split at hz
    · rename_i us eq
      cases eq
      simp only [Option.bind_eq_some_iff] at hz
      obtain ⟨ns, e2, hz⟩ := hz
      split at hz
      · rename_i hl
        cases hz
        cases r1 with
        | lst g r =>
          have hv := r.int e2
          have hlen := r.length
          rw [hv] at g hlen
          rw [List.length_map] at hlen
          exact ⟨_, ns, rfl, .of (mask_some g).2, ⟨by omega, hl.2⟩, fun p np => q3 _ _ (Same.new np) (newInts np (c.ext e1 h1).dom _)⟩
      · cases hz
    · cases hz)
end
end My

set_option linter.all false
set_option maxRecDepth 100000
namespace My
open PySem PySem.Spec PyProof.Rows L2
open C8 (pe_gc)
/-! sorted: a list of pairs of whole numbers -/
def insP (x : Int × Int) : List (Int × Int) → List (Int × Int)
  | [] => [x]
  | y :: ys => if SrtO.lexB y x then y :: insP x ys else x :: y :: ys
def sortP (ps : List (Int × Int)) : List (Int × Int) := ps.foldr insP []
abbrev leP (a b : Int × Int) : Prop := SrtO.lexB b a = false
theorem insP_perm (x : Int × Int) : ∀ ys, (insP x ys).Perm (x :: ys)
  | [] => .refl _
  | y :: ys => by
    unfold insP
    split
    · exact ((insP_perm x ys).cons y).trans (.swap x y ys)
    · exact .refl _
theorem sortP_perm : ∀ ns, (sortP ns).Perm ns
  | [] => .refl _
  | n :: ns => (insP_perm n (sortP ns)).trans ((sortP_perm ns).cons n)
theorem insP_srt (x : Int × Int) : ∀ ys, ys.Pairwise leP → (insP x ys).Pairwise leP
  | [], _ => by simp [insP]
  | y :: ys, h => by
    obtain ⟨h1, h2⟩ := List.pairwise_cons.mp h
    unfold insP
    split
    · rename_i e
      refine List.pairwise_cons.mpr ⟨fun z hz => ?_, insP_srt x ys h2⟩
      rcases List.mem_cons.mp ((insP_perm x ys).mem_iff.mp hz) with rfl | hz
      · refine SrtO.lexB_no.mpr ?_
        have := SrtO.lexB_iff.mp e
        omega
      · exact h1 z hz
    · rename_i e
      have e : SrtO.lexB y x = false := by simpa using e
      refine List.pairwise_cons.mpr ⟨fun z hz => ?_, h⟩
      rcases List.mem_cons.mp hz with rfl | hz
      · exact e
      · have a := SrtO.lexB_no.mp e
        have b := SrtO.lexB_no.mp (h1 z hz)
        refine SrtO.lexB_no.mpr ?_
        omega
theorem sortP_srt : ∀ ns, (sortP ns).Pairwise leP
  | [] => .nil
  | n :: ns => insP_srt n _ (sortP_srt ns)
theorem sortP_of {ns ms : List (Int × Int)} (p : ms.Perm ns) (s : ms.Pairwise leP) : ms = sortP ns :=
  List.Perm.eq_of_pairwise (le := leP) (fun a b _ _ h1 h2 => by
    have a := SrtO.lexB_no.mp h1
    have b := SrtO.lexB_no.mp h2
    exact Prod.ext (by omega) (by omega)) s (sortP_srt ns) (p.trans (sortP_perm ns).symm)
def PairsAt (K : PySem.W.Frag) (H : Hp) : List V → List (Int × Int) → Prop
  | [], [] => True
  | x :: xs, p :: ps => (∃ t, x = .ref t ∧ SqT K H t [.int p.1, .int p.2]) ∧ PairsAt K H xs ps
  | _, _ => False
def rSortPX (K : PySem.W.Frag) : List V → Hp → VK → Prop := fun vs H Q => ∃ (a : Addr) (xs : List V) (ps : List (Int × Int)) (M : Hp), vs = [.ref a] ∧ SqL K H a xs ∧ Same M H ∧ PairsAt K M xs ps ∧ ∀ ys l, PairsAt K M ys (sortP ps) → H l = none → Q (.ref l) (upd H l (.lst ys))
theorem isPair_inj {h : Heap} {v : Value} {p q : Int × Int} (a : Srt.IsPair h v p.1 p.2) (b : Srt.IsPair h v q.1 q.2) : p = q := by
  obtain ⟨a1, o1, t1, u1, n1, rfl, g1, -, d1⟩ := a
  obtain ⟨a2, o2, t2, u2, n2, e, g2, -, d2⟩ := b
  cases e
  rw [g1] at g2
  cases g2
  rw [d1] at d2
  simp only [Data.seq.injEq, Array.mk.injEq, List.cons.injEq, Value.int.injEq] at d2
  exact Prod.ext d2.1.1.1 d2.1.2.1.1
noncomputable def keyAt (h : Heap) (v : Value) : Int × Int := open Classical in if e : ∃ q : Int × Int, Srt.IsPair h v q.1 q.2 then e.choose else (0, 0)
theorem keyAt_of {h : Heap} {v : Value} {q : Int × Int} (p : Srt.IsPair h v q.1 q.2) : keyAt h v = q := by
  have e : ∃ q : Int × Int, Srt.IsPair h v q.1 q.2 := ⟨q, p⟩
  unfold keyAt
  rw [dif_pos e]
  exact isPair_inj e.choose_spec p
section
variable {X : Cx} {pins : List (Addr × Obj)} {σ : L2.St} {H : Hp} {s : Shared}
theorem pairsAt_vals {M : Hp} (sm : Same M H) (I : Inv X pins σ H s) : ∀ {xs : List V} {us : List Value} {ps : List (Int × Int)}, Vals xs us → PairsAt X.K M xs ps → us.map (keyAt s.heap) = ps ∧ ∀ u ∈ us, ∃ t, u = .ref t ∧ SqT X.K M t [.int (keyAt s.heap u).1, .int (keyAt s.heap u).2] ∧ Srt.IsPair s.heap u (keyAt s.heap u).1 (keyAt s.heap u).2
  | _, _, [], .nil, _ => ⟨rfl, fun u m => nomatch m⟩
  | _, _, p :: ps, .cons r t, h => by
    obtain ⟨⟨a, rfl, g⟩, h2⟩ := h
    cases r
    obtain ⟨its, rv, ⟨o, e1, e2, n, e3⟩, -⟩ := I.tuple (Same.tup sm g)
    obtain ⟨u1, u2, rfl, ⟨t1, rfl⟩, ⟨t2, rfl⟩⟩ := vals2 rv
    have ip : Srt.IsPair s.heap (.ref a) p.1 p.2 := ⟨a, o, t1, t2, n, rfl, e1, e2, e3⟩
    have ek := keyAt_of ip
    obtain ⟨k1, k2⟩ := pairsAt_vals sm I t h2
    refine ⟨by rw [List.map_cons, ek, k1], fun u m => ?_⟩
    rcases List.mem_cons.mp m with rfl | m
    · rw [ek]; exact ⟨a, rfl, g, ip⟩
    · exact k2 u m
  | _, _, [], .cons _ _, h => h.elim
  | _, _, _ :: _, .nil, h => h.elim
theorem pairsAt_out {K : PySem.W.Frag} {k : Value → Int × Int} : ∀ (us : List Value), (∀ u ∈ us, ∃ t, u = .ref t ∧ SqT K H t [.int (k u).1, .int (k u).2]) → PairsAt K H (us.map L2.backV) (us.map k)
  | [], _ => trivial
  | u :: us, h => by
    obtain ⟨t, e, g⟩ := h u List.mem_cons_self
    exact ⟨⟨t, by rw [e]; rfl, g⟩, pairsAt_out us fun v m => h v (List.mem_cons_of_mem _ m)⟩
theorem call_sortPX : CallR X (.builtin "sorted") (rSortPX X.K) := by
  intro pins s σ H vs us Q I r h
  obtain ⟨a, xs, ps, M, rfl, hs, sm, hx, q⟩ := h
  obtain ⟨its, rv, at0, sz⟩ := I.list hs
  obtain ⟨u, rfl, ru⟩ := vals1 r
  obtain rfl : u = Value.ref a := ru
  obtain ⟨k1, k2⟩ := pairsAt_vals sm I rv hx
  refine SrtO.sorted_pairsO (k := keyAt s.heap) at0.isList (by rw [← rv.length]; exact sz) (fun v m => (k2 v m).choose_spec.2.2) fun g d out h1 h2 old hd hn => ?_
  obtain ⟨n, hn⟩ := hn
  have e : out.map (keyAt s.heap) = sortP ps := by
    refine sortP_of ?_ (List.pairwise_map.mpr h1)
    rw [← k1]
    exact h2.perm.map _
  have refs : ∀ u ∈ out, ∃ t, u = .ref t ∧ SqT X.K M t [.int (keyAt s.heap u).1, .int (keyAt s.heap u).2] := fun u m => by
    obtain ⟨t, e, g, -⟩ := k2 u (h2.perm.mem_iff.mp m)
    exact ⟨t, e, g⟩
  have len : (out.map L2.backV).length ≤ sizeLine := by
    rw [List.length_map, h2.perm.length_eq, ← rv.length]
    exact sz
  exact ⟨.ref d, upd H d (.lst (out.map L2.backV)), I.laid (t' := s.toks) old hd ⟨len, out, n, L2.vals_back fun u m => let ⟨t, e, _⟩ := refs u m; ⟨t, e⟩, hn⟩, rfl, q _ d (e ▸ pairsAt_out out refs) (I.hok.fresh hd)⟩
end
def allPr : List U → Option (List (Int × Int))
  | [] => some []
  | .tup [.int i, .int j] :: us => (allPr us).map ((i, j) :: ·)
  | _ :: _ => none
/-- sorted(xs): whole numbers or pairs of them; a dict's keys -/
def pSorted : List U → Option U
  | [.lst us] => match allInt us with
    | some ns => some (.lst ((sortZ ns).map .int))
    | none => (allPr us).map fun ps => .lst ((sortP ps).map fun p => .tup [.int p.1, .int p.2])
  | [.dct us] => if decide (us.length < 60) then (intKeys us).map fun ns => .lst ((sortZ ns).map .int) else none
  | _ => none
section
variable {X : Cx} {K : PySem.W.Frag} {D : String → Addr}
abbrev rSortX (K : PySem.W.Frag) : List V → Hp → VK → Prop := fun xs H Q => rSortedI K xs H Q ∨ (∃ (a : Addr) (kvs : List (Key × V)) (ks : List Int), xs = [.ref a] ∧ Rd H a (.dK kvs) ∧ kvs.map (·.1) = ks.map Sum.inl ∧ ks.length < 64 ∧
    ∀ (ys : List Int) (p : Addr), ys.Perm ks → ys.Pairwise (· ≤ ·) → H p = none → Q (.ref p) (upd H p (.lst (ys.map V.int)))) ∨ rSortPX K xs H Q
theorem call_sortedX (hc : X.calm = true) : CallR X (.builtin "sorted") (rSortX X.K) := fun pins s σ H xs us Q I r h => by
  rcases h with h | h | h
  · exact cr_sortedI pins s σ H xs us Q I r h
  · exact call_sortedDI hc pins s σ H xs us Q I r h
  · exact call_sortPX pins s σ H xs us Q I r h
theorem call_sortedK (hc : X.calm = true := by rfl) (e : X.K = K := by rfl) : CallR X (.builtin "sorted") (rSortX K) := by subst e; exact call_sortedX hc
theorem pairs_in {M : Hp} : ∀ {us : List U} {vs : List V} {ps : List (Int × Int)}, RepAll K D M vs us → allPr us = some ps → PairsAt K M vs ps := by
  intro us
  induction us with
  | nil => intro vs ps r e; cases r; cases e; trivial
  | cons u us ih =>
    intro vs ps r e
    cases r with
    | cons r1 r2 =>
      unfold allPr at e
      split at e
      · rename_i eq; cases eq
      · rename_i i j us' eq
        cases eq
        cases e2 : allPr us with
        | none => rw [e2] at e; cases e
        | some qs =>
          rw [e2] at e
          cases e
          cases r1 with
          | tup g rr =>
            cases rr with
            | cons a1 rr =>
              cases rr with
              | cons a2 rr =>
                cases rr
                cases a1
                cases a2
                exact ⟨⟨_, rfl, g⟩, ih r2 e2⟩
      · cases e
theorem pairs_out {M : Hp} : ∀ {ps : List (Int × Int)} {ys : List V}, PairsAt K M ys ps → RepAll K D M ys (ps.map fun p => .tup [.int p.1, .int p.2])
  | [], [], _ => .nil
  | p :: ps, y :: ys, h => by
    obtain ⟨⟨t, rfl, g⟩, h2⟩ := h
    exact .cons (.tup g (.cons (.int _) (.cons (.int _) .nil))) (pairs_out h2)
  | [], _ :: _, h => h.elim
  | _ :: _, [], h => h.elim
theorem ok_sorted : CbOK K D (rSortX K) pSorted := fun A S H xs as c Q d ha e q => by
  unfold pSorted at e
  split at e
  · obtain ⟨v, rfl, h⟩ := ha.one
    obtain ⟨p, vs, rfl, hp, hv⟩ := h.lst
    split at e
    · rename_i ns e1
      cases e
      rw [hv.int e1] at hp
      exact .inl ⟨p, ns, rfl, .of hp, fun ms l hP hS nl => by rw [sortZ_of hP hS]; exact q _ _ (Same.new nl) (newInts nl d _)⟩
    · simp only [Option.map_eq_some_iff] at e
      obtain ⟨ps, e1, rfl⟩ := e
      exact .inr (.inr ⟨p, vs, ps, mask H A, rfl, .of hp, mask_same _ _, pairs_in hv e1, fun ys l hy nl => q _ _ (Same.new nl) (Rep.newL (pairs_out hy) nl d)⟩)
  · split at e
    · rename_i hl
      simp only [Option.map_eq_some_iff] at e
      obtain ⟨ns, e1, rfl⟩ := e
      obtain ⟨v, rfl, h⟩ := ha.one
      obtain ⟨p, vs, rfl, hp, hv⟩ := h.dct
      have hl := of_decide_eq_true hl
      exact .inr (.inl ⟨p, vs, ns, rfl, .inl hp, keys_of hv e1, by rw [intKeys_len e1]; omega, fun ms l hP hS nl => by rw [sortZ_of hP hS]; exact q _ _ (Same.new nl) (newInts nl d _)⟩)
    · cases e
  · cases e
end
end My

set_option linter.all false
set_option maxRecDepth 100000
namespace My
open PySem PySem.Spec PyProof.Rows L2
open C8 (pe_gc)
/-! further rules -/
theorem hu65 {k : Nat} {A : Around} (r : Room k A) : A.units + 65 < cLine := by have := r.un; omega
end My

set_option linter.all false
set_option maxRecDepth 100000
namespace My
open PySem PySem.Spec PyProof.Rows L2
open C8 (pe_gc)
/-! dicts with whole numbers and texts as keys -/
def keyU : U → Option Key
  | .int i => some (.inl i)
  | .str x => some (.inr x)
  | _ => none
def dLook (us : List (U × U)) (k : Key) : Option U := (us.find? fun p => decide (keyU p.1 = some k)).map (·.2)
def dPutU (us : List (U × U)) (k : Key) (u : U) : List (U × U) := if (us.any fun p => decide (keyU p.1 = some k)) = true then us.map (fun p => if keyU p.1 = some k then (p.1, u) else p) else us ++ [(kU k, u)]
theorem keyU_kU (k : Key) : keyU (kU k) = some k := by cases k <;> rfl
def pDGet (x y : U) : Option U := match x, keyU y with
  | .dct us, some k => dLook us k
  | _, _ => none
def eGet (d k x : EF) : EF := fun ρ s => (d ρ s).bind fun x0 s => match x0 with
  | .dct us => (k ρ s).bind fun y s => (x ρ s).bind fun z s => match keyU y with
    | some q => .ok ((dLook us q).getD z) s
    | none => .stuck
  | _ => .stuck
def sDput (i : Nat) (k a : EF) : SF := fun ρ s => (a ρ s).stm ρ fun x s => match ρ[i]? with
  | some (some (.dct us)) => (k ρ s).stm ρ fun y s => match keyU y with
    | some q => if lineB (us.length + 1) then .nx (ρ.set i (some (.dct (dPutU us q x)))) s else .stuck
    | none => .stuck
  | _ => .stuck
section
variable {K : PySem.W.Frag} {D : String → Addr} {W : WX} {O OL : List Nat} {sl : Option Nat} {td tk te tx : TE} {fd fk fe fx : EF}
theorem RepKV.look {M : Hp} (k : Key) : ∀ {vs : List (Key × V)} {us : List (U × U)}, RepKV K D M vs us → (valV vs k = none ∧ dLook us k = none) ∨ ∃ v u, valV vs k = some v ∧ dLook us k = some u ∧ Rep K D M v u
  | _, _, .nil => .inl ⟨rfl, rfl⟩
  | _, _, .cons (k := q) (v := v) (vs := vs) (u := u) (us := us) h0 h1 h2 => by
    subst h0
    by_cases e : q = k
    · subst e
      refine .inr ⟨v, u, by simp [valV], ?_, h1⟩
      simp [dLook, keyU_kU]
    · have n : ¬ keyU (kU q) = some k := fun z => e (by rw [keyU_kU] at z; exact Option.some.inj z)
      rcases RepKV.look k h2 with ⟨a, b⟩ | ⟨v', u', a, b, c⟩
      · exact .inl ⟨by rw [← a]; simp [valV, List.find?_cons, e], by rw [← b]; simp [dLook, List.find?_cons, n]⟩
      · exact .inr ⟨v', u', by rw [← a]; simp [valV, List.find?_cons, e], by rw [← b]; simp [dLook, List.find?_cons, n], c⟩
theorem keyU_some {u : U} {k : Key} (h : keyU u = some k) : u = kU k := by
  cases u <;> simp [keyU] at h <;> (subst h; rfl)
theorem Sn.key {A S : List Addr} {H : Hp} {v : V} {u : U} {k : Key} (h : Sn K D A S H v u) (e : keyU u = some k) : v = kV k := by
  have := keyU_some e
  subst this
  cases k with
  | inl i => exact h.int
  | inr x => exact h.str
theorem eok_dget (hd : EOK K D W O sl Sn td fd) (hk : EOK K D W O sl Sn tk fk) : EOK K D W O sl Cl (tDGet td tk) (e2 pDGet fd fk) := fun A S H σ ρ s Q c q =>
  hd A S H σ ρ s _ c (q.bind fun x s1 v H1 e1 h1 r1 q1 => hk A S H1 σ ρ s1 _ (c.ext e1 h1) (q1.bind fun y s2 w H2 e2 h2 r2 q2 => by
    obtain ⟨z, hz, q3⟩ := q2.opt h2
    have r1' := r1.ext e2 c.sub
    unfold pDGet at hz
    split at hz
    · rename_i us k e
      obtain ⟨a, vs, rfl, hp, hr⟩ := r1'.dct
      obtain rfl := r2.key e
      rcases hr.look k with ⟨_, b⟩ | ⟨v', u', a1, b, r⟩
      · rw [b] at hz; cases hz
      · rw [b] at hz
        cases hz
        exact ⟨a, v', rfl, .inl ⟨vs, k, .inl hp, rfl, a1.symm⟩, q3 _ _ (Same.refl _) r⟩
    · cases hz))
theorem eok_get (hd : EOK K D W O sl Sn td fd) (hk : EOK K D W O sl Sn tk fk) (hx : EOK K D W O sl Cl tx fx) : EOK K D W O sl Cl (tDGet2 td tk tx) (eGet fd fk fx) := fun A S H σ ρ s Q c q =>
  hd A S H σ ρ s _ c (q.bind fun x s1 v H1 e1 h1 r1 q1 => by
    cases x with
    | dct us =>
      obtain ⟨a, vs, rfl, hp, hr⟩ := Sn.dct r1
      have c1 := c.ext e1 h1
      refine ⟨a, rfl, .inl ⟨vs, .inl hp⟩, hk A S H1 σ ρ s1 _ c1 (q1.bind fun y s2 w H2 e2 h2 r2 q2 => hx A S H2 σ ρ s2 _ (c1.ext e2 h2) (q2.bind fun z s3 t H3 e3 h3 r3 q3 => ?_))⟩
      have r1' := (r1.ext e2 c.sub).ext e3 c.sub
      obtain ⟨a', vs', ea, hp', hr'⟩ := Sn.dct r1'
      cases ea
      cases ek : keyU y with
      | none => rw [ek] at q3; exact q3.elim
      | some k =>
        rw [ek] at q3
        obtain rfl := (r2.ext e3 c.sub).key ek
        rcases hr'.look k with ⟨a1, b⟩ | ⟨v', u', a1, b, r⟩
        · exact ⟨none, .inl ⟨vs', k, .inl hp', rfl, a1.symm⟩, q3 _ _ (Ext.refl _ _) h3 (by show Cl K D A S H3 t ((dLook us k).getD z); rw [b]; exact r3)⟩
        · exact ⟨some v', .inl ⟨vs', k, .inl hp', rfl, a1.symm⟩, q3 _ _ (Ext.refl _ _) h3 (by show Cl K D A S H3 v' ((dLook us k).getD z); rw [b]; exact r)⟩
    | _ => exact q1.elim)
theorem fok_dict : FOK K D W O sl tDNewK (eC (.dct [])) := fun A S H σ ρ s Q c q => fun p np => q _ _ (Ext.new np) (c.src.same (Same.new np)) ⟨p, rfl, np, .inr ⟨[], [], rfl, upd_same, .nil⟩⟩
theorem RepKV.length {M : Hp} : ∀ {vs : List (Key × V)} {us : List (U × U)}, RepKV K D M vs us → vs.length = us.length
  | _, _, .nil => rfl
  | _, _, .cons _ _ h => by rw [List.length_cons, List.length_cons, RepKV.length h]
theorem RepKV.any {M : Hp} (k : Key) : ∀ {vs : List (Key × V)} {us : List (U × U)}, RepKV K D M vs us → (vs.any fun kv => decide (kv.1 = k)) = (us.any fun p => decide (keyU p.1 = some k))
  | _, _, .nil => rfl
  | _, _, .cons (k := q) h0 h1 h2 => by
    subst h0
    rw [List.any_cons, List.any_cons, RepKV.any k h2, keyU_kU]
    congr 1
    exact decide_eq_decide.mpr ⟨fun e => by rw [show q = k from e], fun e => Option.some.inj e⟩
theorem RepKV.upd {M : Hp} {v : V} {u : U} (r : Rep K D M v u) (k : Key) : ∀ {vs : List (Key × V)} {us : List (U × U)}, RepKV K D M vs us → RepKV K D M (vs.map fun kv => if kv.1 = k then (kv.1, v) else kv) (us.map fun p => if keyU p.1 = some k then (p.1, u) else p)
  | _, _, .nil => .nil
  | _, _, .cons (k := q) h0 h1 h2 => by
    subst h0
    rw [List.map_cons, List.map_cons]
    by_cases e : q = k
    · rw [if_pos e, if_pos (by rw [keyU_kU, e])]
      exact .cons rfl r (RepKV.upd r k h2)
    · rw [if_neg e, if_neg fun z => e (by rw [keyU_kU] at z; exact Option.some.inj z)]
      exact .cons rfl h1 (RepKV.upd r k h2)
theorem RepKV.snoc {M : Hp} {v : V} {u : U} (r : Rep K D M v u) (k : Key) : ∀ {vs : List (Key × V)} {us : List (U × U)}, RepKV K D M vs us → RepKV K D M (vs ++ [(k, v)]) (us ++ [(kU k, u)])
  | _, _, .nil => .cons rfl r .nil
  | _, _, .cons h0 h1 h2 => .cons h0 h1 (RepKV.snoc r k h2)
theorem RepKV.put {M : Hp} {v : V} {u : U} (r : Rep K D M v u) (k : Key) {vs : List (Key × V)} {us : List (U × U)} (h : RepKV K D M vs us) : RepKV K D M (putK vs k v) (dPutU us k u) := by
  unfold putK dPutU
  rw [h.any k]
  split
  · exact h.upd r k
  · exact h.snoc r k
theorem sok_dput {i : Nat} (m : i ∈ O) (he : EOK K D W O sl Cl te fe) (hk : EOK K D W O sl Sn tk fk) : SOK K D W O O OL sl (sDPut (tVar i) tk te) (sDput i fk fe) := fun A0 S H0 H σ ρ s Dn hm p => by
  obtain ⟨L, h⟩ := hm
  refine he _ S H σ ρ s _ h.ctx (PostS.stm h p fun u s1 v H1 e hs r q => ?_)
  have h1 := h.next e hs
  split at q
  · rename_i us ei
    obtain ⟨p0, ml, hs0, ho⟩ := h1.at m ei
    refine ⟨.ref p0, hs0, hk _ S H1 σ ρ s1 _ h1.ctx (PostS.stm h1 q fun j s2 w H2 e2 hs2 r2 q2 => ?_)⟩
    have h2 := h1.next e2 hs2
    cases ek : keyU j with
    | none => rw [ek] at q2; exact q2.elim
    | some k =>
      rw [ek] at q2
      obtain rfl := r2.key ek
      simp only at q2
      split at q2
      · rename_i hl
        obtain ⟨vs, hp, hr⟩ := ho.dct
        have hp2 : H2 p0 = some (.dK vs) := e2.1 _ _ (h.nS ml) hp
        have hl2 := lineB_le hl
        exact ⟨p0, _, rfl, .inl ⟨vs, k, hp2, rfl, by rw [hr.length]; omega, rfl⟩, q2 _ _ ⟨L, h2.mut ml (.inr ⟨_, _, rfl, upd_same, RepKV.put (Rep.same (e2.mask h.inA) u r) k (RepKV.same (e2.mask h.inA) us hr)⟩)⟩⟩
      · exact q2.elim
  · exact q.elim
end
section
variable {X : Cx} {K : PySem.W.Frag}
theorem hu_of {k : Nat} {A : Around} (r : Room k A) : A.units + 1 < cLine := by have := r.un; omega
end
end My

set_option linter.all false
set_option maxRecDepth 100000
namespace My
open PySem PySem.Spec PyProof.Rows L2
open C8 (pe_gc)
/-! the least common multiple -/
section
variable {X : Cx} {K : PySem.W.Frag} {D : String → Addr}
def lcmB (i : Int) : Bool := decide (i.natAbs < 2 ^ 6000)
def rLcmX : List V → Hp → VK → Prop := fun vs H Q => ∃ i j : Int, vs = [.int i, .int j] ∧ lcmB i = true ∧ lcmB j = true ∧ Q (.int ((Nat.lcm i.natAbs j.natAbs : Nat) : Int)) H
theorem log_of {n : Nat} (h : n < 2 ^ 6000) : n.log2 < 6000 := by
  by_cases e : n = 0
  · subst e; decide
  · exact (Nat.log2_lt e).mpr h
theorem cr_lcm : CallR X (.builtin "math.lcm") rLcmX := by
  intro pins s σ H vs us Q I r h
  obtain ⟨i, j, rfl, hi, hj, q⟩ := h
  obtain ⟨t, u, rfl⟩ := Vals.int2 r
  have hi := of_decide_eq_true hi
  have hj := of_decide_eq_true hj
  have e1 : Nat.lcm 1 i.natAbs = i.natAbs := Nat.lcm_one_left _
  have l1 := log_of hi
  have l2 : (max 1 i.natAbs).log2 < 6000 := log_of (by
    rcases Nat.le_total 1 i.natAbs with z | z
    · rw [Nat.max_eq_right z]; exact hi
    · rw [Nat.max_eq_left z]; exact Nat.one_lt_two_pow (by decide))
  have l3 : (max i.natAbs j.natAbs).log2 < 6000 := log_of (by
    rcases Nat.le_total i.natAbs j.natAbs with z | z
    · rw [Nat.max_eq_right z]; exact hj
    · rw [Nat.max_eq_left z]; exact hi)
  have sz : (((Nat.lcm i.natAbs j.natAbs : Nat) : Int)).natAbs.log2 < bitsLine := by
    rw [Int.natAbs_natCast]
    refine PySem.W.mc_size (k := 200) (Nat.le_trans (PySem.W.mc_lcm_le _ _) ?_) (by decide)
    refine Nat.le_trans (Nat.mul_le_mul (Nat.le_of_lt hi) (Nat.le_of_lt hj)) ?_
    rw [← Nat.pow_add]
    exact Nat.pow_le_pow_right (by decide) (by decide)
  have g := PySem.W.mg_run_lcm i t j u (by omega) (by omega) (by rw [e1]; exact sz)
  rw [e1] at g
  exact call_function_meets PySem.W.MGF.kind_lcm PySem.W.MGF.plain_lcm PySem.W.MGF.entry_lcm (PySem.W.MGF.args_lcm _ _) g.meets ⟨.int _, H, I.tok _, ⟨_, rfl⟩, q⟩
def pLcm : List U → Option U
  | [.int i, .int j] => if lcmB i && lcmB j then some (.int ((Nat.lcm i.natAbs j.natAbs : Nat) : Int)) else none
  | _ => none
theorem ok_lcm : CbOK K D rLcmX pLcm := fun A S H xs as c Q d ha e q => by
  unfold pLcm at e
  split at e
  · split at e
    · rename_i hl
      cases e
      obtain ⟨v, w, rfl, h1, h2⟩ := ha.two
      obtain rfl := h1.int
      obtain rfl := h2.int
      rw [Bool.and_eq_true] at hl
      exact ⟨_, _, rfl, hl.1, hl.2, q _ _ (Same.refl _) (.int _)⟩
    · cases e
  · cases e
end
end My

set_option linter.all false
set_option maxRecDepth 100000
namespace My
open PySem PySem.Spec PyProof.Rows L2
open C8 (pe_gc)
/-! ### defs that return a list of their own making -/
section
variable (K : PySem.W.Frag) (D : String → Addr) (W : WX)
def Frs (A : List Addr) (H0 H' : Hp) (v : V) (u : U) : Prop := ∃ p, v = .ref p ∧ H0 p = none ∧ OwnAt K D (mask H' (p :: A)) H' p u
def PostF (sl : Option Nat) (A0 S : List Addr) (H0 : Hp) (r : RS) (Dn : Ends) : Prop := match r with
  | .rt u s => ∀ v H', Ext S H0 H' → SrcH S H' s → Frs K D A0 H0 H' v u → Dn.rt v H'
  | .er c ρ s => ∀ σ' H', StM K D [] sl A0 S H0 H' σ' ρ s → W (.ref (D c)) none σ' H'
  | _ => False
def SFK (O : List Nat) (sl : Option Nat) (ts : TS) (f : SF) : Prop := ∀ A0 S H0 H σ ρ s Dn, StM K D O sl A0 S H0 H σ ρ s → PostF K D W sl A0 S H0 (f ρ s) Dn → ts Dn σ H
end
def sSeqF (a b : SF) : SF := fun ρ s => match a ρ s with
  | .nx ρ s => b ρ s
  | .er c ρ s => .er c ρ s
  | _ => .stuck
section
variable {K : PySem.W.Frag} {D : String → Addr} {W : WX} {O O' O1 O2 OL : List Nat} {sl : Option Nat} {A A0 S : List Addr} {H0 H0' H H' H1 : Hp} {L : List (Nat × Addr)} {σ : L2.St} {ρ : Rho} {s s' : Sst}
variable {te : TE} {fe : EF} {ta tb ts : TS} {fa fb fs : SF} {tt : TT} {ft : TF} {tas : TA} {fas : AF}
theorem PostF.stm {α β : Type} {rep : Hp → β → α → Prop} {r : R α} {k : α → Sst → RS} {Q : β → Hp → Prop} {Dn : Ends} (h : StW K D O sl A0 S H0 L H σ ρ s) (p : PostF K D W sl A0 S H0 (r.stm ρ k) Dn)
    (hk : ∀ u s1 v H1, Ext S H H1 → SrcH S H1 s1 → rep H1 v u → PostF K D W sl A0 S H0 (k u s1) Dn → Q v H1) : PostG D W S σ H rep r Q := by
  cases r with
  | ok u s1 => exact fun v H1 e hs hr => hk u s1 v H1 e hs hr p
  | err c s1 => exact fun H1 e hs => p σ H1 (StM.none ⟨L, h.next e hs⟩)
  | stuck => exact p
theorem sfk_drop (q : Nat → Bool) (h : SFK K D W (O.filter q) sl ts fs) : SFK K D W O sl ts fs := fun A0 S H0 H σ ρ s Dn hs p => h A0 S H0 H σ ρ s Dn (hs.drop q) p
theorem sfk_seq (ha : SOK K D W O O1 OL sl ta fa) (hb : SFK K D W O1 sl tb fb) : SFK K D W O sl (tSeq ta tb) (sSeqF fa fb) := fun A0 S H0 H σ ρ s Dn h p =>
  ha A0 S H0 H σ ρ s _ h (by
    unfold sSeqF at p
    cases e : fa ρ s with
    | nx ρ' s' => rw [e] at p; exact fun σ' H' h' => hb A0 S H0 H' σ' ρ' s' Dn h' p
    | er c ρ' s' => rw [e] at p; exact p
    | _ => rw [e] at p; exact p.elim)
theorem sfk_if (hc : TOK K D W O sl tt ft) (ha : SFK K D W O sl ta fa) (hb : SFK K D W O sl tb fb) : SFK K D W O sl (tIfS tt ta tb) (sIf ft fa fb) := fun A0 S H0 H σ ρ s Dn hm p => by
  obtain ⟨L, h⟩ := hm
  refine hc _ S H σ ρ s _ h.ctx (PostF.stm h p fun u s1 v H1 e hs r q => ?_)
  have e2 : v = u := r
  subst e2
  cases v with
  | true => exact ha A0 S H0 H1 σ ρ s1 Dn ⟨L, h.next e hs⟩ q
  | false => exact hb A0 S H0 H1 σ ρ s1 Dn ⟨L, h.next e hs⟩ q
theorem sfk_ifseq (hc : TOK K D W O sl tt ft) (ha : SFK K D W O sl ta fa) (hb : SFK K D W O sl tb fb) : SFK K D W O sl (tSeq (tIfS tt ta tNext) tb) (sIf ft fa fb) := fun A0 S H0 H σ ρ s Dn hm p => by
  obtain ⟨L, h⟩ := hm
  refine hc _ S H σ ρ s _ h.ctx (PostF.stm h p fun u s1 v H1 e hs r q => ?_)
  have e2 : v = u := r
  subst e2
  cases v with
  | true =>
    refine ha A0 S H0 H1 σ ρ s1 _ ⟨L, h.next e hs⟩ ?_
    have q' : PostF K D W sl A0 S H0 (fa ρ s1) Dn := q
    cases e3 : fa ρ s1 with
    | rt u s => rw [e3] at q'; exact q'
    | er c ρ s => rw [e3] at q'; exact q'
    | _ => rw [e3] at q'; exact q'.elim
  | false => exact hb A0 S H0 H1 σ ρ s1 Dn ⟨L, h.next e hs⟩ q
theorem sfk_raise {c : String} (he : EOK K D W O sl Cl te fe) : SFK K D W O sl (fun _ σ H => te σ H fun _ H1 => W (.ref (D c)) none σ H1) (sRaise c fe) := fun A0 S H0 H σ ρ s Dn hm p => by
  obtain ⟨L, h⟩ := hm
  exact he _ S H σ ρ s _ h.ctx (PostF.stm h p fun u s1 v H1 e hs r q => q _ _ (StM.none ⟨L, h.next e hs⟩))
theorem sfk_ret (he : FOK K D W O sl te fe) : SFK K D W O sl (tRet te) (sRet fe) := fun A0 S H0 H σ ρ s Dn hm p => by
  obtain ⟨L, h⟩ := hm
  refine he _ S H σ ρ s _ h.ctx (PostF.stm h p fun u s1 v H1 e hs r q => ?_)
  obtain ⟨p0, rfl, np, o⟩ := r
  refine q _ _ (h.ext.trans e) hs ⟨p0, rfl, ?_, o.ext (Ext.refl [] _) (mask_sub fun a m => ?_) (by simp)⟩
  · cases q : H0 p0 with
    | none => rfl
    | some x => exact absurd np (h.ext.2 p0 (by rw [q]; exact fun z => nomatch z))
  · rcases List.mem_cons.mp m with m | m
    · rw [m]; exact List.mem_cons_self
    · exact List.mem_cons_of_mem _ (List.mem_append_right _ m)
theorem sfk_retO {i : Nat} (m : i ∈ O) : SFK K D W O sl (tRet (tVar i)) (sRet (eV i)) := fun A0 S H0 H σ ρ s Dn hm p => by
  obtain ⟨L, h⟩ := hm
  unfold sRet eV at p
  cases e : ρ[i]? with
  | none => rw [e] at p; exact p.elim
  | some w => cases w with
    | none => rw [e] at p; exact p.elim
    | some u =>
      rw [e] at p
      obtain ⟨p0, ml, hs0, ho⟩ := h.at m e
      refine ⟨.ref p0, hs0, p _ _ h.ext h.ctx.src ⟨p0, rfl, (h.fresh _ ml).2, ho.ext (Ext.refl [] _) (mask_sub fun a m => ?_) (by simp)⟩⟩
      rcases List.mem_cons.mp m with m | m
      · rw [m]; exact List.mem_append_left _ (mem_snd ml)
      · exact List.mem_append_right _ m
end
def isLD : U → Bool
  | .lst _ => true
  | .dct _ => true
  | _ => false
def runFF (b : SF) (n m : Nat) (us : List U) : R0 := match runF b n m us with
  | .ok u => if isLD u = true then .ok u else .stuck
  | o => o
def runSF (b : SF) (n m : Nat) (s : Sst) (us : List U) : R U := match runS b n m s us with
  | .ok u s => if isLD u = true then .ok u s else .stuck
  | o => o
theorem runFF_lst {b : SF} {n m : Nat} {us xs : List U} (h : runF b n m us = .ok (.lst xs)) : runFF b n m us = .ok (.lst xs) := by unfold runFF; rw [h]; rfl
theorem runSF_lst {b : SF} {n m : Nat} {s s' : Sst} {us xs : List U} (h : runS b n m s us = .ok (.lst xs) s') : runSF b n m s us = .ok (.lst xs) s' := by unfold runSF; rw [h]; rfl
def spUF (K : PySem.W.Frag) (D : String → Addr) (n : Nat) (F : List U → R0) : Sp := fun vs H Q E => ∃ us A, us.length = n ∧ (∀ a ∈ A, H a ≠ none) ∧ RepAll K D (mask H A) vs us ∧ (match F us with
  | .ok u => ∀ v H', Ext [] H H' → Frs K D A H H' v u → Q v H'
  | .err c => ∀ H', Ext [] H H' → E (.ref (D c)) none H'
  | .stuck => False)
def spSF (K : PySem.W.Frag) (D : String → Addr) (n : Nat) (F : Sst → List U → R U) : Sp := fun vs H Q E => ∃ a c ws us A s, vs = .ref a :: ws ∧ us.length = n ∧ a ∈ A ∧ c ∈ A ∧ (∀ a ∈ A, H a ≠ none) ∧ SrcH [a, c] H s ∧ RepAll K D (mask H A) ws us ∧ (match F s us with
  | .ok u s' => ∀ v H', Ext [a, c] H H' → SrcH [a, c] H' s' → Frs K D A H H' v u → Q v H'
  | .err d s' => ∀ H', Ext [a, c] H H' → SrcH [a, c] H' s' → E (.ref (D d)) none H'
  | .stuck => False)
section
variable {K : PySem.W.Frag} {D : String → Addr} {W : WX} {O O' OL : List Nat} {sl : Option Nat} {A A0 S : List Addr} {H0 H H' H1 : Hp} {L : List (Nat × Addr)} {σ : L2.St} {ρ : Rho} {s s' : Sst}
variable {te : TE} {fe : EF} {ts : TS} {fs : SF} {tas : TA} {fas : AF}
theorem none_back {p : Addr} (e : Ext S H H1) (n : H1 p = none) : H p = none := by
  cases q : H p with
  | none => rfl
  | some x => exact absurd n (e.2 p (by rw [q]; exact fun z => nomatch z))
theorem fok_call {n : Nat} {F : List U → R0} (ha : AOK K D W O sl ClA tas fas) : FOK K D W O sl (tCallS (spUF K D n F) (fun σ => WE W σ) tas) (eCall n F fas) := fun A S H σ ρ s Q c q =>
  ha A S H σ ρ s _ c (q.bind fun us s1 vs H1 e1 h1 r1 q1 => by
    split at q1
    · rename_i hn
      refine ⟨us, A, hn, (c.ext e1 h1).dom, r1, ?_⟩
      cases e : F us with
      | ok u =>
        rw [e] at q1
        intro v H' x r
        obtain ⟨p, rfl, np, o⟩ := r
        exact q1 _ H' (x.sub (by simp)) (h1.same x.same) ⟨p, rfl, none_back e1 np, o⟩
      | err d => rw [e] at q1; exact fun H' x => q1 H' (x.sub (by simp)) (h1.same x.same)
      | stuck => rw [e] at q1; exact q1
    · exact q1.elim)
theorem fok_callS {i n : Nat} {F : Sst → List U → R U} (ha : AOK K D W O (some i) ClA tas fas) : FOK K D W O (some i) (tCallS (spSF K D n F) (fun σ => WE W σ) (tCons (tVar i) tas)) (eCallS n F fas) := fun A S H σ ρ s Q c q => by
  obtain ⟨a, d, eS, e2⟩ := c.slot
  refine ⟨.ref a, e2, ha A S H σ ρ s _ c (q.bind fun us s1 vs H1 e1 h1 r1 q1 => ?_)⟩
  subst eS
  split at q1
  · rename_i hn
    refine ⟨a, d, vs, us, A, s1, rfl, hn, c.sub a (by simp), c.sub d (by simp), (c.ext e1 h1).dom, h1, r1, ?_⟩
    cases e : F s1 us with
    | ok u s' =>
      rw [e] at q1
      intro v H' x h r
      obtain ⟨p, rfl, np, o⟩ := r
      exact q1 _ H' x h ⟨p, rfl, none_back e1 np, o⟩
    | err d s' => rw [e] at q1; exact fun H' x h => q1 H' x h
    | stuck => rw [e] at q1; exact q1
  · exact q1.elim
theorem body_UF {N : List Str} {vs : List V} {n m : Nat} {Q : VK} {E : XK} (hN : N.length = n + m) (hs : SFK K D (fun cls d _ H => E cls d H) [] none ts fs) (h : spUF K D n (runFF fs n m) vs H Q E) :
    ts { nx := fun _ H' => Q .non H', rt := Q } (L2.start N vs) H := by
  obtain ⟨us, A, hn, hd, r, q⟩ := h
  have r' : RepAll K D H vs us := r.same (mask_same _ _)
  refine hs A [] H H (L2.start N vs) (startR us m) dSst _ ⟨[], fun i => Iff.rfl, List.nodup_nil, List.nodup_nil, fun p m => absurd m List.not_mem_nil, fun p m => absurd m List.not_mem_nil, ⟨by simp, hd, start_len (by rw [hN, hn]) r', fun i u e => ?_, .inl rfl, trivial⟩, Ext.refl _ _, by simp⟩ ?_
  · obtain ⟨v, h1, h2⟩ := start_get (N := N) (by rw [hN, hn]) r e
    exact ⟨v, h1, fun m => absurd m List.not_mem_nil, fun _ => h2⟩
  · unfold runFF runF at q
    rw [if_pos hn] at q
    cases e : fs (startR us m) dSst with
    | nx ρ s => simp only [e, isLD, Bool.false_eq_true, if_false] at q
    | rt u s =>
      simp only [e] at q
      by_cases hl : isLD u = true
      · rw [if_pos hl] at q
        exact fun v H' x _ r => q v H' x r
      · rw [if_neg hl] at q
        exact q.elim
    | er c ρ s =>
      simp only [e] at q
      rintro σ' H' ⟨L, h⟩
      exact q _ h.ext
    | bk ρ s => simp only [e] at q
    | ct ρ s => simp only [e] at q
    | stuck => simp only [e] at q
theorem body_SF {N : List Str} {vs : List V} {n m : Nat} {Q : VK} {E : XK} (hN : N.length = n + 1 + m) (hs : SFK K D (fun cls d _ H => E cls d H) [] (some 0) ts fs) (h : spSF K D n (runSF fs n m) vs H Q E) :
    ts { nx := fun _ H' => Q .non H', rt := Q } (L2.start N vs) H := by
  obtain ⟨a, c, ws, us, A, s, rfl, hn, ma, mc, hd, hsrc, r, q⟩ := h
  have e0 : L2.start N (.ref a :: ws) = some (.ref a) :: (ws.map some ++ List.replicate (N.length - (ws.length + 1)) none) := rfl
  have hl : ws.length = n := by rw [r.length, hn]
  refine hs A [a, c] H H (L2.start N (.ref a :: ws)) (none :: startR us m) s _ ⟨[], fun i => Iff.rfl, List.nodup_nil, List.nodup_nil, fun p m => absurd m List.not_mem_nil, fun p m => absurd m List.not_mem_nil, ⟨fun b hb => ?_, hd, ?_, fun i u e => ?_, hsrc, ⟨a, c, rfl, rfl⟩⟩, Ext.refl _ _, fun b hb => ?_⟩ ?_
  · simp only [List.mem_cons, List.not_mem_nil, or_false] at hb
    rcases hb with rfl | rfl
    · exact ma
    · exact mc
  · rw [e0]
    unfold startR
    simp only [List.length_cons, List.length_append, List.length_map, List.length_replicate]
    omega
  · cases i with
    | zero => simp at e
    | succ i =>
      rw [List.getElem?_cons_succ] at e
      have key : ∃ v, (L2.start (N.drop 1) ws)[i]? = some (some v) ∧ Rep K D (mask H A) v u := start_get (by rw [List.length_drop]; omega) r e
      obtain ⟨v, h1, h2⟩ := key
      refine ⟨v, ?_, fun m => absurd m List.not_mem_nil, fun _ => h2⟩
      rw [e0, List.getElem?_cons_succ]
      unfold L2.start at h1
      rw [List.length_drop] at h1
      rw [show N.length - (ws.length + 1) = N.length - 1 - ws.length by omega]
      exact h1
  · simp only [List.mem_cons, List.not_mem_nil, or_false] at hb
    rcases hb with rfl | rfl
    · exact ma
    · exact mc
  · unfold runSF runS at q
    rw [if_pos hn] at q
    cases e : fs (none :: startR us m) s with
    | nx ρ s => simp only [e, isLD, Bool.false_eq_true, if_false] at q
    | rt u s =>
      simp only [e] at q
      by_cases hl : isLD u = true
      · rw [if_pos hl] at q
        exact fun v H' x hs r => q v H' x hs r
      · rw [if_neg hl] at q
        exact q.elim
    | er c ρ s =>
      simp only [e] at q
      rintro σ' H' ⟨L, h⟩
      exact q _ h.ext h.ctx.src
    | bk ρ s => simp only [e] at q
    | ct ρ s => simp only [e] at q
    | stuck => simp only [e] at q
theorem spUF_len {n : Nat} {F : List U → R0} {vs : List V} {Q : VK} {E : XK} (h : spUF K D n F vs H Q E) : vs.length = n := by
  obtain ⟨us, A, hn, _, r, _⟩ := h
  rw [r.length, hn]
theorem spSF_len {n : Nat} {F : Sst → List U → R U} {vs : List V} {Q : VK} {E : XK} (h : spSF K D n F vs H Q E) : vs.length = n + 1 := by
  obtain ⟨a, c, ws, us, A, s, rfl, hn, _, _, _, _, r, _⟩ := h
  rw [List.length_cons, r.length, hn]
end
section
variable {P : Program} {w : World} {K : PySem.W.Frag} {mg : Str → Option Value} {base : Heap} {D : String → Addr}
theorem calUF {x : Str} {st : Stmt} {N ps : List Str} {k n m : Nat} {fs : SF} (hh : My.Has K mg x st ps) (S : FnScope N ps (defScope st)) (hp : ps.length = n) (hN : N.length = n + m)
    (body : ∀ (f : Addr) (cdv : Value) (A : Around) (outer : List Env) (s : Shared) (H : Hp) (E : XK), Room k (A.deeper (PyProof.Rows.envOfC x (defScope st) s.heap.objs.size f cdv)) →
      Takes (cxX P w K mg base N x st f cdv A outer s H E) (fun cls d _ H => E cls d H) → ∃ ts, PSs (cxX P w K mg base N x st f cdv A outer s H E) (defBody st) ts ∧ SFK K D (fun cls d _ H => E cls d H) [] none ts fs) :
    CalX P w K mg base (k + 1) x (spUF K D n (runFF fs n m)) := by
  obtain ⟨f, fd, F, gF, b⟩ := hh
  refine mkCalX F gF F.kp b S (fun vs H Q E h => by rw [hp]; exact spUF_len h) fun cdv A outer s H vs Q E hr h tk => ?_
  obtain ⟨ts, h1, h2⟩ := body f cdv A outer s H E hr tk
  exact ⟨ts, h1, body_UF hN h2 h⟩
theorem calSF {x : Str} {st : Stmt} {N ps : List Str} {k n m : Nat} {fs : SF} (hh : My.Has K mg x st ps) (S : FnScope N ps (defScope st)) (hp : ps.length = n + 1) (hN : N.length = n + 1 + m)
    (body : ∀ (f : Addr) (cdv : Value) (A : Around) (outer : List Env) (s : Shared) (H : Hp) (E : XK), Room k (A.deeper (PyProof.Rows.envOfC x (defScope st) s.heap.objs.size f cdv)) →
      Takes (cxX P w K mg base N x st f cdv A outer s H E) (fun cls d _ H => E cls d H) → ∃ ts, PSs (cxX P w K mg base N x st f cdv A outer s H E) (defBody st) ts ∧ SFK K D (fun cls d _ H => E cls d H) [] (some 0) ts fs) :
    CalX P w K mg base (k + 1) x (spSF K D n (runSF fs n m)) := by
  obtain ⟨f, fd, F, gF, b⟩ := hh
  refine mkCalX F gF F.kp b S (fun vs H Q E h => by rw [hp]; exact spSF_len h) fun cdv A outer s H vs Q E hr h tk => ?_
  obtain ⟨ts, h1, h2⟩ := body f cdv A outer s H E hr tk
  exact ⟨ts, h1, body_SF hN h2 h⟩
end
end My

set_option linter.all false
set_option maxRecDepth 100000
namespace My
open PySem PySem.Spec PyProof.Rows L2
open C8 (pe_gc)
/-! ### min with a default, how often a thing stands in a list, powers of two by shifts -/
section
variable {X : Cx} {K : PySem.W.Frag} {D : String → Addr}
def minF (y : Int) (ys : List Int) : Int := ys.foldl (fun a z => if decide (z < a) = true then z else a) y
def minV : List Int → V
  | [] => .non
  | y :: ys => .int (minF y ys)
def minU : List Int → U
  | [] => .non
  | y :: ys => .int (minF y ys)
def rMinD (K : PySem.W.Frag) : List V → List V → Hp → VK → Prop := fun vs zs H Q => ∃ (a : Addr) (ns : List Int), vs = [V.ref a] ∧ zs = [V.non] ∧ (SqL K H a (ns.map V.int) ∨ SqT K H a (ns.map V.int)) ∧ Q (minV ns) H
theorem ints_inv {h : Heap} {v : Value} {n : Int} (H : PySem.W.Holds h v n) : ∃ t, v = .int n t := by
  obtain ⟨as, r⟩ := H
  cases r
  exact ⟨_, rfl⟩
theorem call_minD (hc : X.calm = true) (hu : X.A.units + 65 < cLine) : CallRK X (.builtin "min") [PySem.Str.ofString "default"] (rMinD X.K) := by
  intro pins s σ H vs zs us ws Q I r r2 h
  obtain ⟨a, ns, rfl, rfl, hs, q⟩ := h
  rw [Vals.ref1 r]
  have ew : ws = [.none] := by
    cases r2 with
    | cons h1 h2 =>
      cases h2
      have e : _ = Value.none := h1
      rw [e]
  subst ew
  have hd : X.A.units + 1 + PySem.W.Datum.depth Int < cLine := by
    have e : PySem.W.Datum.depth Int = 0 := rfl
    rw [e]
    omega
  have fin : ∀ (y : Int) (ys : List Int) (v : Value) (h' : Heap) (tk : Nat), ns = y :: ys → PySem.W.Holds h' v (PySem.W.minOf y ys) → (∀ b o, s.heap.get? b = some o → h'.get? b = some o) → EP X pins σ Q v { s with heap := h', toks := tk } := by
    intro y ys v h' tk e hv hk
    subst e
    obtain ⟨t, rfl⟩ := ints_inv hv
    exact ⟨.int (minF y ys), H, I.kept hk, ⟨t, rfl⟩, q⟩
  have fin0 : ns = [] → ∀ (h' : Heap) (tk : Nat), (∀ b o, s.heap.get? b = some o → h'.get? b = some o) → EP X pins σ Q .none { s with heap := h', toks := tk } := by
    intro e h' tk hk
    subst e
    exact ⟨.non, H, I.kept hk, rfl, q⟩
  rcases hs with hs | hs
  · obtain ⟨its, rv, hl, _⟩ := I.list hs
    exact PySem.W.min_list_datum_default (I.ok.hd hc) hl.isList (PySem.W.HoldAll.of_ints rv.ints) hd fin0 fun y ys i v h' tk e _ hv hk => fin y ys v h' tk e hv hk
  · obtain ⟨its, rv, hl, _⟩ := I.tuple hs
    exact PySem.W.min_tuple_datum_default (I.ok.hd hc) hl (PySem.W.HoldAll.of_ints rv.ints) hd fin0 fun y ys i v h' tk e _ hv hk => fin y ys v h' tk e hv hk
theorem call_minDK (hc : X.calm = true) (hu : X.A.units + 65 < cLine) (h : X.K = K := by rfl) : CallRK X (.builtin "min") [PySem.Str.ofString "default"] (rMinD K) := by subst h; exact call_minD hc hu
def pMinDef : List U → Option U
  | [.lst us] => (allInt us).map minU
  | [.tup us] => (allInt us).map minU
  | _ => none
/-! max(l), min(l) of ints -/
theorem call_maxK (hc : X.calm = true := by rfl) (h : X.K = K := by rfl) : CallR X (.builtin "max") (rMax K) := by subst h; exact cr_max hc
theorem call_minK (hc : X.calm = true := by rfl) (h : X.K = K := by rfl) : CallR X (.builtin "min") (rMin K) := by subst h; exact cr_min hc
def maxI : List Int → Option Int
  | [] => none
  | y :: ys => match maxI ys with
    | none => some y
    | some z => some (if y < z then z else y)
def minI : List Int → Option Int
  | [] => none
  | y :: ys => match minI ys with
    | none => some y
    | some z => some (if z < y then z else y)
theorem maxI_ok : ∀ {ns : List Int} {m : Int}, maxI ns = some m → m ∈ ns ∧ ∀ y ∈ ns, y ≤ m
  | [], m, h => by cases h
  | y :: ys, m, h => by
    unfold maxI at h
    cases e : maxI ys with
    | none =>
      rw [e] at h
      cases h
      cases ys with
      | nil => exact ⟨by simp, by simp⟩
      | cons z zs =>
        unfold maxI at e
        cases e2 : maxI zs with
        | none => rw [e2] at e; cases e
        | some w => rw [e2] at e; cases e
    | some z =>
      rw [e] at h
      obtain ⟨h1, h2⟩ := maxI_ok e
      have h := Option.some.inj h
      subst h
      split
      · exact ⟨List.mem_cons_of_mem _ h1, fun w hw => by
          rcases List.mem_cons.mp hw with rfl | hw
          · omega
          · exact h2 w hw⟩
      · exact ⟨by simp, fun w hw => by
          rcases List.mem_cons.mp hw with rfl | hw
          · omega
          · have := h2 w hw
            omega⟩
theorem minI_ok : ∀ {ns : List Int} {m : Int}, minI ns = some m → m ∈ ns ∧ ∀ y ∈ ns, m ≤ y
  | [], m, h => by cases h
  | y :: ys, m, h => by
    unfold minI at h
    cases e : minI ys with
    | none =>
      rw [e] at h
      cases h
      cases ys with
      | nil => exact ⟨by simp, by simp⟩
      | cons z zs =>
        unfold minI at e
        cases e2 : minI zs with
        | none => rw [e2] at e; cases e
        | some w => rw [e2] at e; cases e
    | some z =>
      rw [e] at h
      obtain ⟨h1, h2⟩ := minI_ok e
      have h := Option.some.inj h
      subst h
      split
      · exact ⟨List.mem_cons_of_mem _ h1, fun w hw => by
          rcases List.mem_cons.mp hw with rfl | hw
          · omega
          · exact h2 w hw⟩
      · exact ⟨by simp, fun w hw => by
          rcases List.mem_cons.mp hw with rfl | hw
          · omega
          · have := h2 w hw
            omega⟩
def pMax : List U → Option U
  | [.lst us] => (allInt us).bind fun ns => (maxI ns).map U.int
  | _ => none
def pMin : List U → Option U
  | [.lst us] => (allInt us).bind fun ns => (minI ns).map U.int
  | _ => none
theorem ok_max : CbOK K D (rMax K) pMax := fun A S H xs as c Q d ha e q => by
  unfold pMax at e
  split at e
  · simp only [Option.bind_eq_some_iff, Option.map_eq_some_iff] at e
    obtain ⟨ns, e1, m, e2, rfl⟩ := e
    obtain ⟨v, rfl, h⟩ := ha.one
    obtain ⟨p, vs, rfl, hp, hv⟩ := h.lst
    rw [hv.int e1] at hp
    obtain ⟨h1, h2⟩ := maxI_ok e2
    exact ⟨p, ns, rfl, .of hp, List.length_pos_of_mem h1, fun m' g1 g2 => by
      have : m' = m := Int.le_antisymm (h2 m' g1) (g2 m h1)
      subst this
      exact q _ _ (Same.refl _) (.int _)⟩
  · cases e
theorem ok_min : CbOK K D (rMin K) pMin := fun A S H xs as c Q d ha e q => by
  unfold pMin at e
  split at e
  · simp only [Option.bind_eq_some_iff, Option.map_eq_some_iff] at e
    obtain ⟨ns, e1, m, e2, rfl⟩ := e
    obtain ⟨v, rfl, h⟩ := ha.one
    obtain ⟨p, vs, rfl, hp, hv⟩ := h.lst
    rw [hv.int e1] at hp
    obtain ⟨h1, h2⟩ := minI_ok e2
    exact ⟨p, ns, rfl, .of hp, List.length_pos_of_mem h1, fun m' g1 g2 => by
      have : m' = m := Int.le_antisymm (g2 m h1) (h2 m' g1)
      subst this
      exact q _ _ (Same.refl _) (.int _)⟩
  · cases e
/-- l.count(x) -/
def rCountD (K : PySem.W.Frag) : V → List V → Hp → VK → Prop := fun x xs H Q => ∃ (a : Addr) (y : V) (d : PyData) (ds : List PyData), x = V.ref a ∧ xs = [y] ∧ Dp K H (V.ref a) (.list ds) ∧ Dp K H y d ∧
  SeqAt.shaped (.list ds) = true ∧ SeqAt.shaped d = true ∧ Q (.int ((ds.countP fun z => PyData.eqv z d : Nat) : Int)) H
theorem mt_countD (hu : X.A.units + 65 < cLine) : MtR X "list.count" (rCountD X.K) := by
  intro pins s σ H x xs v us Q I rx rxs h
  obtain ⟨a, y, d, ds, rfl, rfl, hl, hy, sl, sd, q⟩ := h
  cases rx
  cases rxs with
  | cons ry rt =>
    rename_i uy ut
    cases rt
    obtain ⟨bs, r1⟩ := Dp.reads I d y uy hy ry
    have hxs : PyData.canLayAll0 ds = true := SeqAt.canLay_of_shaped sl
    have hroom : X.A.units + 1 + min (PyData.depthAll ds) d.depth < cLine := room_in_shaped sd hu
    cases hl with
    | lst hs ha =>
      obtain ⟨its, rv, hP, hlen⟩ := I.list hs
      obtain ⟨as, h4⟩ := Dp.readsAll I ds _ its ha rv
      exact PySem.SeqAt.count_list_data hP.isList h4 r1 (PyData.plainAll_of_canLay0 ds hxs) (PyData.plain_of_canLay0 d (SeqAt.canLay_of_shaped sd)) hroom ⟨.int _, H, I.tok _, ⟨_, rfl⟩, q⟩
theorem mt_countDK (hu : X.A.units + 65 < cLine) (h : X.K = K := by rfl) : MtR X "list.count" (rCountD K) := by subst h; exact mt_countD hu
def pCount (a b : U) : Option U := match a with
  | .lst us => if deepB b a = true then some (.int ((us.countP fun z => ueq z b : Nat) : Int)) else none
  | _ => none
def isLst : U → Bool
  | .lst _ => true
  | _ => false
def eCnt (a b : EF) : EF := fun ρ s => (a ρ s).bind fun x s => if isLst x = true then (b ρ s).bind fun y s => My.opt (pCount x y) s else .stuck
theorem eqv_count (n : Nat) (a : U) (ha : U.flat n a = true) : ∀ (us : List U), U.flatAll n us = true → ((U.pyAll us).countP fun z => PyData.eqv z a.py) = us.countP fun z => ueq z a
  | [], _ => by simp [U.pyAll]
  | u :: us, e => by
    simp only [U.flatAll, Bool.and_eq_true] at e
    simp only [U.pyAll, List.countP_cons]
    rw [ueq_py n u a e.1 ha, eqv_count n a ha us e.2]
def op1K (i : Int) : Bool := decide (0 ≤ i) && decide (i ≤ 134217727)
def pShl (a b : U) : Option U := match a, b with
  | .int i, .int k => if i = 1 ∧ 0 ≤ k ∧ k ≤ 134217727 then some (.int (2 ^ k.toNat)) else none
  | _, _ => none
theorem ok_shl : OpOK K D (fun x y H Q => ∃ k : Nat, x = .int 1 ∧ y = .int (k : Int) ∧ k ≤ 134217727 ∧ Q (.int (2 ^ k)) H) pShl := fun A S H x y a b c Q d ha hb e q => by
  unfold pShl at e
  split at e
  · rename_i i k
    split at e
    · rename_i hk
      cases e
      obtain rfl := ha.int
      obtain rfl := hb.int
      obtain ⟨rfl, h1, h2⟩ := hk
      exact ⟨k.toNat, rfl, by rw [Int.toNat_of_nonneg h1], by omega, q _ _ (Same.refl _) (.int _)⟩
    · cases e
  · cases e
end
section
variable {K : PySem.W.Frag} {D : String → Addr} {W : WX} {O : List Nat} {sl : Option Nat} {te tb : TE} {fe fb : EF} {tas : TA} {fas : AF}
theorem eok_minD (ha : AOK K D W O sl SnA tas fas) : EOK K D W O sl Cl (tCKw (rMinD K) tas (tCons (tC .non) tNil)) (eN pMinDef fas) := fun A S H σ ρ s Q c q =>
  ha A S H σ ρ s _ c (q.bind fun xs s1 vs H1 e1 h1 r1 q1 => by
    obtain ⟨z, hz, q3⟩ := q1.opt h1
    show rMinD K vs [.non] H1 Q
    have rep : ∀ ns : List Int, Rep K D (mask H1 A) (minV ns) (minU ns) := fun ns => by
      cases ns with
      | nil => exact .non
      | cons y ys => exact .int _
    unfold pMinDef at hz
    split at hz
    · simp only [Option.map_eq_some_iff] at hz
      obtain ⟨ns, e1, rfl⟩ := hz
      obtain ⟨v, rfl, h⟩ := SnA.one r1
      obtain ⟨p, vs, rfl, hp, hv⟩ := h.lst
      rw [hv.int e1] at hp
      exact ⟨p, ns, rfl, rfl, .inl (.of hp), q3 _ _ (Same.refl _) (rep ns)⟩
    · simp only [Option.map_eq_some_iff] at hz
      obtain ⟨ns, e1, rfl⟩ := hz
      obtain ⟨v, rfl, h⟩ := SnA.one r1
      obtain ⟨p, vs, rfl, hp, _, hv⟩ := h.tup
      rw [hv.int e1] at hp
      exact ⟨p, ns, rfl, rfl, .inr hp, q3 _ _ (Same.refl _) (rep ns)⟩
    · cases hz)
theorem eok_count (ha : EOK K D W O sl Sn te fe) (hb : EOK K D W O sl Sn tb fb) : EOK K D W O sl Cl (tBM K "list" (rCountD K) te (tCons tb tNil)) (eCnt fe fb) := fun A S H σ ρ s Q c q =>
  ha A S H σ ρ s _ c (q.bind fun x s1 v H1 e1 h1 r1 q1 => by
    cases x with
    | lst us =>
      obtain ⟨p, vs, rfl, hp, hv⟩ := r1.lst
      refine ⟨.inl ⟨rfl, vs, .of hp⟩, hb A S H1 σ ρ s1 _ (c.ext e1 h1) (PostG.bind (show PostG D W S σ H1 _ ((fb ρ s1).bind fun y s => My.opt (pCount (.lst us) y) s) Q from q1) fun y s2 w H2 e2 h2 r2 q2 => ?_)⟩
      obtain ⟨z, hz, q3⟩ := q2.opt h2
      unfold pCount at hz
      simp only at hz
      split at hz
      · rename_i hd
        cases hz
        have r1' := r1.ext e2 c.sub
        obtain ⟨g1, g2, g3, g4, g5⟩ := deep_dp r2 r1' hd
        unfold deepB at hd
        simp only [Bool.and_eq_true] at hd
        have h6 : U.flatAll 39 us = true := by simpa [U.flat] using hd.2
        rw [U.py] at g2 g4
        refine ⟨p, w, y.py, U.pyAll us, rfl, rfl, g2, g1, g4, g3, ?_⟩
        rw [eqv_count 40 y hd.1 us (flatAll_mono 39 us h6)]
        exact q3 _ _ (Same.refl _) (.int _)
      · cases hz
    | _ => exact q1.elim)
end
end My

set_option linter.all false
set_option maxRecDepth 100000
namespace My
open PySem PySem.Spec PyProof.Rows L2
open C8 (pe_gc)
open PySem.Calls HT
/-! ### xs[::-1] of a list or a tuple -/
section
variable {P : Program} {w : World} {A : Around} {E : Value → Shared → Prop} {s : Shared}
theorem back_adjust (n : Nat) : Builtin.Slice.sliceAdjust none none (-1) (n : Int) = ((n : Int) - 1, -1) := by
  unfold Builtin.Slice.sliceAdjust
  simp
theorem back_places (n : Nat) : Builtin.Slice.slicePlaces ((n : Int) - 1) (-1) (-1) = n := by
  unfold Builtin.Slice.slicePlaces
  by_cases c : n = 0
  · subst c; rfl
  · simp
    omega
theorem fm_congr {α β : Type} {f g : α → Option β} : ∀ l : List α, (∀ x ∈ l, f x = g x) → l.filterMap f = l.filterMap g
  | [], _ => rfl
  | x :: l, h => by rw [List.filterMap_cons, List.filterMap_cons, h x (by simp), fm_congr l fun y hy => h y (List.mem_cons_of_mem _ hy)]
theorem back_pick (xs : Array Value) : ((List.range xs.size).filterMap fun (m : Nat) => xs[((xs.size : Int) - 1 + (m : Int) * -1).toNat]?).toArray = xs.toList.reverse.toArray := by
  have e : (List.range xs.size).filterMap (fun (m : Nat) => xs[((xs.size : Int) - 1 + (m : Int) * -1).toNat]?) = ((List.range xs.size).map fun k => xs.size - 1 - k).filterMap fun k => xs[k]? := by
    rw [List.filterMap_map]
    refine fm_congr _ fun m hm => ?_
    have := List.mem_range.mp hm
    show _ = xs[xs.size - 1 - m]?
    rw [show ((xs.size : Int) - 1 + (m : Int) * -1).toNat = xs.size - 1 - m by omega]
  rw [e, PySem.W.krv_range, List.filterMap_reverse, PySem.W.krv_all]
theorem back_applied {sl : Addr} {t : Tok} {n : Nat} {Q : Int × Int × Nat → Shared → Prop} (hs : s.heap.IsSliceOf sl .none .none (.int (-1) t)) (h : Q ((n : Int) - 1, -1, n) s) : wpAny (model P w) A (Builtin.Slice.sliceApplied (.ref sl) (pure (n : Int))) Q E s := by
  obtain ⟨o, e0, e1, e2⟩ := id hs
  unfold Builtin.Slice.sliceApplied Builtin.Slice.sliceFields
  refine wpAny_bind (wpAny_bind (wpAny_field e0 e2 (x := .none) rfl (wpAny_bind (wpAny_field e0 e2 (x := .none) rfl (wpAny_bind (wpAny_field e0 e2 (x := .int (-1) t) rfl (wpAny_pure ?_)))))))
  refine wpAny_bind (slicePart_int ?_)
  show wpAny _ _ (if ((-1 : Int) == 0) = true then _ else _) _ _ s
  rw [if_neg (show ¬ ((-1 : Int) == 0) = true by decide)]
  refine wpAny_bind (slicePart_none (wpAny_bind (slicePart_none (wpAny_bind (wpAny_pure ?_)))))
  show wpAny _ _ (match Builtin.Slice.sliceAdjust none none (-1) (n : Int) with | (a, b) => pure (a, (-1 : Int), Builtin.Slice.slicePlaces a b (-1))) _ _ s
  rw [back_adjust]
  show wpAny _ _ (pure ((n : Int) - 1, (-1 : Int), Builtin.Slice.slicePlaces ((n : Int) - 1) (-1) (-1))) _ _ s
  rw [back_places]
  exact wpAny_pure h
theorem back_tuple {t sl : Addr} {k : Tok} {items : Array Value} {Q : Value → Shared → Prop} (ht : IsTup s.heap t items) (hs : s.heap.IsSliceOf sl .none .none (.int (-1) k)) (hz : items.size ≤ sizeLine)
    (h : Q (.ref s.heap.objs.size) { s with heap := s.heap.push { cls := .type "tuple", data := .seq items.toList.reverse.toArray } }) : wpAny (model P w) A (getItem (.ref t) (.ref sl)) Q E s := by
  have small : sizeOk (.seq items.toList.reverse.toArray) := by
    show items.toList.reverse.toArray.size ≤ sizeLine
    rw [List.size_toArray, List.length_reverse, Array.length_toList]
    exact hz
  obtain ⟨o, e0, e1, e2⟩ := id hs
  have isSlice : s.TypeIs (.ref sl) "slice" := ⟨o, e0, e1⟩
  unfold getItem
  try with_reducible refine wpAny_holding ?_
  first | refine wpAny_bind (wpAny_pure ?_) | skip
  refine wpAny_bind (wpAny_sequenceKey ht.typeIs (by decide) (wpAny_bind (wpAny_callSpecial?_slot (name := Str.ofString "__getitem__") ht.typeIs PyProof.Rows.slot_tuple_getitem (wpAny_call_entry PyProof.Rows.slot_tuple_getitem ht.typeIs entry_tuple_getitem ?_ (args_tuple_getitem _ _)))))
  show wpAny _ _ (Builtin.Tuple.tupleItemsOf (.ref t) >>= _) _ _ s
  refine wpAny_bind (tupleItemsOf_ ht (wpAny_bind (wpAny_typeOf isSlice ?_)))
  rw [if_pos (show (Value.type "slice" == Value.type "slice") = true by decide)]
  refine wpAny_bind (back_applied hs ?_)
  have no : ¬ ((((items.size : Int) - 1 == 0) && ((-1 : Int) == 1) && (items.size == items.size)) = true) := by
    intro z
    rw [Bool.and_eq_true, Bool.and_eq_true] at z
    exact absurd z.1.2 (by decide)
  show wpAny _ _ (if (((items.size : Int) - 1 == 0) && ((-1 : Int) == 1) && (items.size == items.size)) = true then _ else _) _ _ s
  rw [if_neg no, back_pick]
  first
    | exact wpAny_bind (m := Builtin.Tuple.tupleExact _) (wpAny_newObj_type (wpAny_pure ⟨_, rfl, wpAny_pure h⟩) small)
    | exact wpAny_bind (m := Builtin.Tuple.tupleExact _) (wpAny_newObj_type (wpAny_bind (wpAny_pure (wpAny_pure ⟨_, rfl, wpAny_pure h⟩))) small)
    | exact wpAny_bind (wpAny_bind (m := Builtin.Tuple.tupleExact _) (wpAny_newObj_type (wpAny_pure (wpAny_pure ⟨_, rfl, wpAny_pure h⟩)) small))
    | exact wpAny_bind (wpAny_bind (m := Builtin.Tuple.tupleExact _) (wpAny_newObj_type (wpAny_pure ⟨_, rfl, wpAny_pure h⟩) small))
end
section
variable {X : Cx} {K : PySem.W.Frag} {e : Expr} {te : TE} {p1 p2 p3 pos : Pos} {kd : Nat}
def rBack (K : PySem.W.Frag) : V → Hp → VK → Prop := fun x H Q => ∃ a xs, x = .ref a ∧ ((SqL K H a xs ∧ ∀ p, H p = none → Q (.ref p) (upd H p (.lst xs.reverse))) ∨ (SqT K H a xs ∧ ∀ p, H p = none → Q (.ref p) (upd H p (.tup xs.reverse))))
theorem Vals.rev : ∀ {xs : List V} {us : List Value}, Vals xs us → Vals xs.reverse us.reverse
  | _, _, .nil => .nil
  | _, _, .cons a r => by
    rw [List.reverse_cons, List.reverse_cons]
    exact (Vals.rev r).append (.cons a .nil)
theorem pe_back (he : PE X e te) : PE X (.Subscript e (.Slice none none (some (.UnaryOp .USub (.Constant (.int 1) kd p1) p2)) p3) pos) (tUn (rBack X.K) te) := by
  refine ⟨fun pins s σ H Q I h => ?_⟩
  refine Subscript_ (thn (he.run pins s σ H _ I h) fun v s1 ⟨x, H1, I1, r1, q1⟩ => ?_)
  have one : PE X (.UnaryOp .USub (.Constant (.int 1) kd p1) p2) (tUn (rU fun i => .int (-i)) (tC (.int 1))) := pe_un un_neg pe_int
  refine wpAny_Slice ?_
  rw [evalPart_none]
  refine wpAny_pure (wpAny_pure ?_)
  rw [evalPart_some]
  refine thn (one.run pins s1 σ H1 (fun z H2 => z = .int (-1) ∧ H2 = H1) I1 ⟨1, rfl, rfl, rfl⟩) fun st s3 ⟨z, H3, I3, r3, e1, e2⟩ => ?_
  subst e1 e2
  obtain ⟨t, rfl⟩ := r3
  have I4 : Inv X pins σ H3 { s3 with heap := s3.heap.push { cls := .type "slice", data := .fields #[.none, .none, .int (-1) t] } } := I3.kept (t' := s3.toks) fun b ob q => Heap.get?_push_of_some _ q
  have hs : ({ s3 with heap := s3.heap.push { cls := .type "slice", data := .fields #[.none, .none, .int (-1) t] } } : Shared).heap.IsSliceOf s3.heap.objs.size .none .none (.int (-1) t) := Heap.IsSliceOf.new ..
  obtain ⟨a, xs, rfl, q⟩ := q1
  cases r1
  generalize hs4 : ({ s3 with heap := s3.heap.push { cls := .type "slice", data := .fields #[.none, .none, .int (-1) t] } } : Shared) = s4 at I4 hs
  show wpAny (model X.prog X.w) X.A (subscriptTail e (.Slice none none (some (.UnaryOp .USub (.Constant (.int 1) kd p1) p2)) p3) (.ref a) (.ref s3.heap.objs.size)) (EP X pins σ Q) X.xe _
  rcases q with ⟨hx, q⟩ | ⟨hx, q⟩
  · obtain ⟨its, r, ht, hz⟩ := I4.list hx
    refine tail_any (ops := [.ref a, .ref s3.heap.objs.size]) ht.isList.typeIs slot_list_getitem.lookup ?_ (by with_unfolding_all rfl)
    · refine wpAny_getItem_list_slice ht.isList hs .none .none (.int (-1) t) (by simp) ?_ (by rw [List.size_toArray, ← r.length]; exact hz)
      rw [PySem.W.krv_pick]
      refine ⟨.ref s4.heap.objs.size, _, I4.laid (t' := s4.toks) (o := .lst xs.reverse) (fun b ob q => Heap.get?_push_of_some _ q) (Nat.le_refl _) ?_, rfl, q _ (I4.hok.fresh (Nat.le_refl _))⟩
      exact ⟨by rw [List.length_reverse]; exact hz, _, 0, Vals.rev r, Heap.get?_push_size _ rfl⟩
  · obtain ⟨its, r, ht, hz⟩ := I4.tuple hx
    refine tail_any (ops := [.ref a, .ref s3.heap.objs.size]) ht.typeIs PyProof.Rows.slot_tuple_getitem.lookup ?_ (by with_unfolding_all rfl)
    · refine back_tuple ht hs (by rw [List.size_toArray, ← r.length]; exact hz) ?_
      refine ⟨.ref s4.heap.objs.size, _, I4.laid (t' := s4.toks) (o := .tup xs.reverse) (fun b ob q => Heap.get?_push_of_some _ q) (Nat.le_refl _) ?_, rfl, q _ (I4.hok.fresh (Nat.le_refl _))⟩
      exact ⟨by rw [List.length_reverse]; exact hz, its.reverse, Vals.rev r, IsTup.new _ _⟩
end
end My

set_option linter.all false
set_option maxRecDepth 100000
namespace My
open PySem PySem.Spec PyProof.Rows L2
open C8 (pe_gc)
/-! ### xs[::-1]; calls that are handed a list of the def's own, and return no list -/
section
variable {X : Cx} {K : PySem.W.Frag} {D : String → Addr} {H : Hp} {e : Expr} {te : TE} {p1 p2 p3 pos : Pos} {kd : Nat}
theorem pe_backK (he : PE X e te) (h : X.K = K := by rfl) : PE X (.Subscript e (.Slice none none (some (.UnaryOp .USub (.Constant (.int 1) kd p1) p2)) p3) pos) (tUn (rBack K) te) := by subst h; exact pe_back he
def pBack : U → Option U
  | .lst us => some (.lst us.reverse)
  | .tup us => some (.tup us.reverse)
  | _ => none
theorem RepAll.rev : ∀ {vs : List V} {us : List U}, RepAll K D H vs us → RepAll K D H vs.reverse us.reverse
  | _, [], h => by cases h; exact .nil
  | _, u :: us, h => by
    cases h with
    | cons h1 h2 =>
      rw [List.reverse_cons, List.reverse_cons]
      exact h2.rev.app (.cons h1 .nil)
theorem ok_back : UnOK K D (rBack K) pBack := fun A S H x a c Q d ha e q => by
  unfold pBack at e
  split at e
  · cases e
    obtain ⟨p, vs, rfl, hp, hv⟩ := ha.lst
    exact ⟨p, vs, rfl, .inl ⟨.of hp, fun l nl => q _ _ (Same.new nl) (Rep.newL hv.rev nl d)⟩⟩
  · cases e
    obtain ⟨p, vs, rfl, hp, _, hv⟩ := ha.tup
    exact ⟨p, vs, rfl, .inr ⟨hp, fun l nl => q _ _ (Same.new nl) (Rep.newT hv.rev nl d)⟩⟩
  · cases e
mutual
/-- no list or dict within -/
def noL : U → Bool
  | .lst _ => false
  | .dct _ => false
  | .tup us => noLs us
  | _ => true
def noLs : List U → Bool
  | [] => true
  | u :: us => noL u && noLs us
end
def LDo (o : HO) : Prop := (∃ vs, o = .lst vs) ∨ ∃ kv, o = .dK kv
mutual
theorem Rep.free {A B : List Addr} (hB : ∀ b ∈ A, b ∉ B → ∃ o, H b = some o ∧ LDo o) : ∀ {v : V} (u : U), noL u = true → Rep K D (mask H B) v u → Rep K D (mask H A) v u
  | _, .non, _, h => by cases h; exact .non
  | _, .bl _, _, h => by cases h; exact .bl _
  | _, .int _, _, h => by cases h; exact .int _
  | _, .str _, _, h => by cases h; exact .str _
  | _, .ty _, _, h => by cases h; exact .ty _
  | _, .cls _, _, h => by cases h; exact .cls _
  | _, .exc _, _, h => by
    cases h with
    | exc _ e =>
      obtain ⟨n, e⟩ := mask_some e
      refine .exc _ (mask_of (fun m => ?_) e)
      obtain ⟨o, e2, h⟩ := hB _ m n
      rw [e] at e2
      cases e2
      rcases h with ⟨_, h⟩ | ⟨_, h⟩ <;> cases h
  | _, .lst us, n, h => by simp [noL] at n
  | _, .dct us, n, h => by simp [noL] at n
  | _, .tup us, n, h => by
    cases h with
    | tup e r =>
      refine .tup ?_ (RepAll.free hB us (by simpa [noL] using n) r)
      rcases e with (e | ⟨o, e⟩) | e
      · obtain ⟨n, e⟩ := mask_some e
        refine .inl (.inl (mask_of (fun m => ?_) e))
        obtain ⟨o, e2, h⟩ := hB _ m n
        rw [e] at e2
        cases e2
        rcases h with ⟨_, h⟩ | ⟨_, h⟩ <;> cases h
      · obtain ⟨n, e⟩ := mask_some e
        refine .inl (.inr ⟨o, mask_of (fun m => ?_) e⟩)
        obtain ⟨o, e2, h⟩ := hB _ m n
        rw [e] at e2
        cases e2
        rcases h with ⟨_, h⟩ | ⟨_, h⟩ <;> cases h
      · exact .inr e
theorem RepAll.free {A B : List Addr} (hB : ∀ b ∈ A, b ∉ B → ∃ o, H b = some o ∧ LDo o) : ∀ {vs : List V} (us : List U), noLs us = true → RepAll K D (mask H B) vs us → RepAll K D (mask H A) vs us
  | _, [], _, h => by cases h; exact .nil
  | _, u :: us, n, h => by
    cases h with
    | cons h1 h2 =>
      simp only [noLs, Bool.and_eq_true] at n
      exact .cons (Rep.free hB u n.1 h1) (RepAll.free hB us n.2 h2)
end
end
def eCallV (n : Nat) (F : List U → R0) (as : AF) : EF := fun ρ s => (as ρ s).bind fun us s => if us.length = n then (match F us with
  | .ok u => if noL u = true then .ok u s else .stuck
  | .err c => .err c s
  | .stuck => .stuck) else .stuck
def eCallSV (n : Nat) (F : Sst → List U → R U) (as : AF) : EF := fun ρ s => (as ρ s).bind fun us s => if us.length = n then (match F s us with
  | .ok u s => if noL u = true then .ok u s else .stuck
  | .err c s => .err c s
  | .stuck => .stuck) else .stuck
section
variable {K : PySem.W.Frag} {D : String → Addr} {W : WX} {O : List Nat} {sl : Option Nat} {A S : List Addr} {H H' : Hp} {σ : L2.St} {ρ : Rho} {s : Sst} {tas : TA} {fas : AF}
open Classical in
/-- what stays apart for a callee: all but lists of the def's own -/
noncomputable def apart (A S : List Addr) (H : Hp) : List Addr := S ++ A.filter fun b => decide (¬ ∃ o, H b = some o ∧ LDo o)
theorem apart_sub (h : ∀ a ∈ S, a ∈ A) : ∀ b ∈ apart A S H, b ∈ A := fun b m => by
  unfold apart at m
  rcases List.mem_append.mp m with m | m
  · exact h b m
  · exact (List.mem_filter.mp m).1
theorem apart_out {b : Addr} (hb : b ∈ A) (n : b ∉ apart A S H) : ∃ o, H b = some o ∧ LDo o := by
  classical
  unfold apart at n
  rw [List.mem_append, List.mem_filter, decide_eq_true_eq] at n
  exact Classical.byContradiction fun z => n (.inr ⟨hb, z⟩)
theorem Sn.apart (hS : ∀ a ∈ S, a ∈ A) {v : V} {u : U} (h : Sn K D A S H v u) : Rep K D (mask H (apart A S H)) v u := by
  classical
  rcases h with h | ⟨a, rfl, n, h⟩
  · exact h.same (mask_sub (apart_sub hS))
  · have na : a ∉ My.apart A S H := fun m => by
      unfold My.apart at m
      rcases List.mem_append.mp m with m | m
      · exact n m
      · have := (List.mem_filter.mp m).2
        rw [decide_eq_true_eq] at this
        refine this ?_
        rcases h with ⟨vs, _, _, e, _⟩ | ⟨vs, _, _, e, _⟩
        · exact ⟨_, e, .inl ⟨_, rfl⟩⟩
        · exact ⟨_, e, .inr ⟨_, rfl⟩⟩
    exact h.rep (mask_sub (apart_sub hS)) fun o e => mask_of na e
theorem SnA.apart (hS : ∀ a ∈ S, a ∈ A) : ∀ {vs : List V} {us : List U}, SnA K D A S H vs us → RepAll K D (mask H (apart A S H)) vs us
  | [], [], _ => .nil
  | _ :: _, _ :: _, h => .cons (Sn.apart hS h.1) (SnA.apart hS h.2)
  | [], _ :: _, h => h.elim
  | _ :: _, [], h => h.elim
theorem apart_back (e : Ext S H H') (hS : ∀ a ∈ S, a ∈ My.apart A S H) : ∀ b ∈ A, b ∉ My.apart A S H → ∃ o, H' b = some o ∧ LDo o := fun b hb n => by
  obtain ⟨o, h1, h2⟩ := apart_out hb n
  exact ⟨o, e.1 b o (fun m => n (hS b m)) h1, h2⟩
theorem apart_S : ∀ a ∈ S, a ∈ My.apart A S H := fun a m => by unfold My.apart; exact List.mem_append_left _ m
theorem eok_callV {n : Nat} {F : List U → R0} (ha : AOK K D W O sl SnA tas fas) : EOK K D W O sl Cl (tCallS (spU K D n F) (fun σ => WE W σ) tas) (eCallV n F fas) := fun A S H σ ρ s Q c q =>
  ha A S H σ ρ s _ c (q.bind fun us s1 vs H1 e1 h1 r1 q1 => by
    split at q1
    · rename_i hn
      have c1 := c.ext e1 h1
      refine ⟨us, My.apart A S H1, hn, fun a m => c1.dom a (apart_sub c.sub a m), SnA.apart c.sub r1, ?_⟩
      cases e : F us with
      | ok u =>
        rw [e] at q1
        simp only at q1
        split at q1
        · rename_i hl
          exact fun v H' x r => q1 v H' (x.sub (by simp)) (h1.same x.same) (Rep.free (apart_back (x.sub (by simp)) apart_S) u hl r)
        · exact q1.elim
      | err d => rw [e] at q1; exact fun H' x => q1 H' (x.sub (by simp)) (h1.same x.same)
      | stuck => rw [e] at q1; exact q1
    · exact q1.elim)
theorem eok_callSV {i n : Nat} {F : Sst → List U → R U} (ha : AOK K D W O (some i) SnA tas fas) : EOK K D W O (some i) Cl (tCallS (spS K D n F) (fun σ => WE W σ) (tCons (tVar i) tas)) (eCallSV n F fas) := fun A S H σ ρ s Q c q => by
  obtain ⟨a, d, eS, e2⟩ := c.slot
  refine ⟨.ref a, e2, ha A S H σ ρ s _ c (q.bind fun us s1 vs H1 e1 h1 r1 q1 => ?_)⟩
  subst eS
  split at q1
  · rename_i hn
    have c1 := c.ext e1 h1
    refine ⟨a, d, vs, us, My.apart A [a, d] H1, s1, rfl, hn, apart_S a (by simp), apart_S d (by simp), fun a m => c1.dom a (apart_sub c.sub a m), h1, SnA.apart c.sub r1, ?_⟩
    cases e : F s1 us with
    | ok u s' =>
      rw [e] at q1
      simp only at q1
      split at q1
      · rename_i hl
        exact fun v H' x h r => q1 v H' x h (Rep.free (apart_back x apart_S) u hl r)
      · exact q1.elim
    | err d s' => rw [e] at q1; exact fun H' x h => q1 H' x h
    | stuck => rw [e] at q1; exact q1
  · exact q1.elim
end
/-! ### isinstance of an error kept, with a tuple of errors -/
section
variable {X : Cx} {K : PySem.W.Frag} {D : String → Addr}
abbrev rIsZT (K : PySem.W.Frag) : List V → Hp → VK → Prop := fun xs H Q => ∃ (a D tp : Addr) (cs : List V) (us : List Value) (b : Bool), xs = [.ref a, .ref tp] ∧ H tp = some (.tup cs) ∧ Paired ClsV cs us ∧ ExcC K D ∧ H a = some (ExZ (.ref D) none a) ∧ PySem.W.kitAny K (.ref D) us = some b ∧ Q (.bl b) H
theorem call_isZTc (h : X.K = K := by rfl) : CallR X (.builtin "isinstance") (rIsZT K) := by subst h; exact call_isZT
def pInstT (kls cs : List String) : List U → Option U
  | [.exc c] => if kls.contains c then some (.bl (cs.any fun d => isSub c d)) else none
  | _ => none
theorem kit_any {kls cs : List String} {c : String} (T : KlsOK K D kls) (hc : c ∈ kls) : ∀ cs : List String, (∀ d ∈ cs, d ∈ kls) → PySem.W.kitAny K (.ref (D c)) (cs.map fun d => .ref (D d)) = some (cs.any fun d => isSub c d)
  | [], _ => rfl
  | d :: cs, h => by
    have := kit_any (cs := cs) T hc cs fun x hx => h x (List.mem_cons_of_mem _ hx)
    rw [List.map_cons, List.any_cons]
    unfold PySem.W.kitAny
    rw [T.kit c hc d (h d (by simp)), this]
    cases isSub c d <;> rfl
theorem paired_cls : ∀ cs : List String, Paired ClsV (cs.map fun d => V.ref (D d)) (cs.map fun d => Value.ref (D d))
  | [] => .nil
  | d :: cs => .cons (.own _) (paired_cls cs)
end
def tCls (D : String → Addr) : List String → TA
  | [] => tNil
  | c :: cs => tCons (tC (.ref (D c))) (tCls D cs)
theorem tCls_run {D : String → Addr} {σ : L2.St} {H : Hp} : ∀ (cs : List String) (Q : List V → Hp → Prop), Q (cs.map fun c => V.ref (D c)) H → tCls D cs σ H Q
  | [], _, h => h
  | c :: cs, Q, h => tCls_run cs (fun vs H1 => Q (V.ref (D c) :: vs) H1) h
section
variable {K : PySem.W.Frag} {D : String → Addr} {W : WX} {O : List Nat} {sl : Option Nat} {te : TE} {fe : EF}
theorem eok_isiT {kls cs : List String} (T : KlsOK K D kls) (hs : ((cs.all fun c => kls.contains c) && lineB cs.length) = true) (ha : EOK K D W O sl Sn te fe) : EOK K D W O sl Cl (tCB (rIsZT K) (tCons te (tCons (tTup (tCls D cs)) tNil))) (eN (pInstT kls cs) (aCons fe aNil)) := fun A S H σ ρ s Q c q =>
  ha A S H σ ρ s _ c (PostG.bind (show PostG D W S σ H _ ((fe ρ s).bind fun x s => My.opt (pInstT kls cs [x]) s) Q by
    have e : eN (pInstT kls cs) (aCons fe aNil) ρ s = (fe ρ s).bind fun x s => My.opt (pInstT kls cs [x]) s := by
      unfold eN aCons aNil
      cases fe ρ s <;> rfl
    rw [← e]
    exact q) fun x s1 v H1 e1 h1 r1 q1 => by
    obtain ⟨z, hz, q3⟩ := q1.opt h1
    cases x with
    | exc c' =>
      unfold pInstT at hz
      simp only at hz
      split at hz
      · rename_i hc
        cases hz
        have r1 := r1.full
        cases r1 with
        | exc _ hx =>
          simp only [List.contains_iff_mem] at hc
          obtain ⟨hs1, hl⟩ := (Bool.and_eq_true _ _).mp hs
          have hs' : ∀ d ∈ cs, d ∈ kls := fun d hd => by
            have := List.all_eq_true.mp hs1 d hd
            simpa [List.contains_iff_mem] using this
          refine tCls_run cs _ ⟨by rw [List.length_map]; exact lineB_le hl, fun p np => ?_⟩
          refine ⟨_, _, p, _, _, _, rfl, upd_same, paired_cls cs, T.ex _ hc, ?_, kit_any (cs := cs) T hc cs hs', q3 _ _ (Same.new np) (.bl _)⟩
          rw [upd_ne (fun z => by rw [z, np] at hx; cases hx)]
          exact hx
      · cases hz
    | _ => cases hz)
end
end My

set_option linter.all false
set_option maxRecDepth 100000
namespace My
open PySem PySem.Spec PyProof.Rows L2
open C8 (pe_gc)
/-! ### xs != [], whatever stands in xs -/
section
variable {X : Cx} {K : PySem.W.Frag} {D : String → Addr}
def rNeL (K : PySem.W.Frag) : R2 := fun x y H Q => rNeD K x y H Q ∨ ∃ (a b : Addr) (xs : List V), x = .ref a ∧ y = .ref b ∧ SqL K H a xs ∧ SqL K H b [] ∧ Q (.bl (!xs.isEmpty)) H
theorem op_neL (hu : X.A.units + 64 < cLine) : OpR X (compareOp .NotEq) (rNeL X.K) := by
  intro pins s σ H x y v u Q I rx ry h
  rcases h with h | ⟨a, b, xs, rfl, rfl, h1, h2, q⟩
  · exact op_neD hu pins s σ H x y v u Q I rx ry h
  · cases rx
    cases ry
    obtain ⟨its, r, l1, _⟩ := I.list h1
    obtain ⟨its2, r2, l2, _⟩ := I.list h2
    cases r2
    cases xs with
    | nil =>
      cases r
      exact SeqAt.RcNeAt.lists (e := fun _ => true) l1.isList l2.isList rfl (by omega) (fun j h1 _ => absurd h1 (by simp)) X.prog X.w _ _ ⟨.bl _, H, I, rfl, q⟩
    | cons z zs =>
      have hl := r.length
      exact SeqAt.RcNeAt.lists_lengths l1.isList l2.isList (by rw [List.size_toArray, ← hl]; rfl) (by omega) X.prog X.w _ _ ⟨.bl _, H, I, rfl, q⟩
theorem op_neLK (hu : X.A.units + 64 < cLine) (h : X.K = K := by rfl) : OpR X (compareOp .NotEq) (rNeL K) := by subst h; exact op_neL hu
def pNeL (a b : U) : Option U := match a, b with
  | .lst us, .lst [] => some (.bl (!us.isEmpty))
  | _, _ => pNe a b
theorem ok_neL : OpOK K D (rNeL K) pNeL := fun A S H x y a b c Q d ha hb e q => by
  unfold pNeL at e
  split at e
  · cases e
    obtain ⟨p, vs, rfl, hp, hv⟩ := ha.lst
    obtain ⟨p2, vs2, rfl, hp2, hv2⟩ := hb.lst
    cases hv2
    rename_i us
    refine .inr ⟨p, p2, vs, rfl, rfl, .of hp, .of hp2, ?_⟩
    have : vs.isEmpty = us.isEmpty := by
      have := hv.length
      cases vs <;> cases us <;> first | rfl | cases this
    rw [this]
    exact q _ _ (Same.refl _) (.bl _)
  · exact .inl (ok_ne A S H x y _ _ c Q d ha hb e q)
end
end My

set_option linter.all false
set_option maxRecDepth 100000
namespace My
open PySem PySem.Spec PyProof.Rows L2
open C8 (pe_gc)
/-! ### where a thing stands in a list -/
section
variable {X : Cx} {K : PySem.W.Frag} {D : String → Addr}
def rIndexD (K : PySem.W.Frag) : V → List V → Hp → VK → Prop := fun x xs H Q => ∃ (a : Addr) (y : V) (d : PyData) (ds : List PyData) (j : Nat), x = V.ref a ∧ xs = [y] ∧ Dp K H (V.ref a) (.list ds) ∧ Dp K H y d ∧
  SeqAt.shaped (.list ds) = true ∧ SeqAt.shaped d = true ∧ ds.length ≤ 16777216 ∧ SeqAt.dataPlace ds d = some j ∧ Q (.int (j : Int)) H
theorem mt_indexD (hu : X.A.units + 65 < cLine) : MtR X "list.index" (rIndexD X.K) := by
  intro pins s σ H x xs v us Q I rx rxs h
  obtain ⟨a, y, d, ds, j, rfl, rfl, hl, hy, sl, sd, hn, hj, q⟩ := h
  cases rx
  cases rxs with
  | cons ry rt =>
    rename_i uy ut
    cases rt
    obtain ⟨bs, r1⟩ := Dp.reads I d y uy hy ry
    have hxs : PyData.canLayAll0 ds = true := SeqAt.canLay_of_shaped sl
    have hroom : X.A.units + 1 + min (PyData.depthAll ds) d.depth < cLine := room_in_shaped sd hu
    cases hl with
    | lst hs ha =>
      obtain ⟨its, rv, hP, hlen⟩ := I.list hs
      obtain ⟨as, h4⟩ := Dp.readsAll I ds _ its ha rv
      have hP' := hP.isList
      obtain ⟨⟨cls, dd, data, slt⟩, ho, hc, n, hd'⟩ := id hP'
      simp only at hc hd'
      subst hc hd'
      have px := PyData.plainAll_of_canLay0 ds hxs
      obtain ⟨hk, hit, hno⟩ := SeqAt.hit_at h4 px hj
      have hz := SeqAt.len_at h4
      exact PySem.call_meets F.slot_list_index ⟨_, ho, rfl⟩ F.entry_list_index (F.args_list_index_2 _ _) (PySem.SeqAt.list_indexAt _ its.toArray n dd slt _ _ j hk (by omega) hit hno)
        ⟨ho, SeqAt.items_plain h4 r1 px (PyData.plain_of_canLay0 d (SeqAt.canLay_of_shaped sd)) hroom, ⟨.int (j : Int), H, I.tok _, ⟨_, rfl⟩, q⟩⟩
theorem mt_indexDK (hu : X.A.units + 65 < cLine) (h : X.K = K := by rfl) : MtR X "list.index" (rIndexD K) := by subst h; exact mt_indexD hu
def pIndexU (a b : U) : Option U := match a with
  | .lst us => if deepB b a = true ∧ us.length ≤ 16777216 then (us.findIdx? fun z => ueq z b).map fun j : Nat => U.int (j : Int) else none
  | _ => none
def eIdxOf (a b : EF) : EF := fun ρ s => (a ρ s).bind fun x s => if isLst x = true then (b ρ s).bind fun y s => My.opt (pIndexU x y) s else .stuck
theorem eqv_find (n : Nat) (a : U) (ha : U.flat n a = true) : ∀ (us : List U), U.flatAll n us = true → ((U.pyAll us).findIdx? fun z => PyData.eqv z a.py) = us.findIdx? fun z => ueq z a
  | [], _ => by simp [U.pyAll]
  | u :: us, e => by
    simp only [U.flatAll, Bool.and_eq_true] at e
    simp only [U.pyAll, List.findIdx?_cons]
    rw [ueq_py n u a e.1 ha, eqv_find n a ha us e.2]
theorem pyAll_len : ∀ us : List U, (U.pyAll us).length = us.length
  | [] => rfl
  | u :: us => by rw [U.pyAll, List.length_cons, List.length_cons, pyAll_len us]
end
section
variable {K : PySem.W.Frag} {D : String → Addr} {W : WX} {O : List Nat} {sl : Option Nat} {te tb : TE} {fe fb : EF}
theorem eok_index (ha : EOK K D W O sl Sn te fe) (hb : EOK K D W O sl Sn tb fb) : EOK K D W O sl Cl (tBM K "list" (rIndexD K) te (tCons tb tNil)) (eIdxOf fe fb) := fun A S H σ ρ s Q c q =>
  ha A S H σ ρ s _ c (q.bind fun x s1 v H1 e1 h1 r1 q1 => by
    cases x with
    | lst us =>
      obtain ⟨p, vs, rfl, hp, hv⟩ := r1.lst
      refine ⟨.inl ⟨rfl, vs, .of hp⟩, hb A S H1 σ ρ s1 _ (c.ext e1 h1) (PostG.bind (show PostG D W S σ H1 _ ((fb ρ s1).bind fun y s => My.opt (pIndexU (.lst us) y) s) Q from q1) fun y s2 w H2 e2 h2 r2 q2 => ?_)⟩
      obtain ⟨z, hz, q3⟩ := q2.opt h2
      unfold pIndexU at hz
      simp only at hz
      split at hz
      · rename_i hd
        obtain ⟨hd, hn⟩ := hd
        simp only [Option.map_eq_some_iff] at hz
        obtain ⟨j, hj, rfl⟩ := hz
        have r1' := r1.ext e2 c.sub
        obtain ⟨g1, g2, g3, g4, g5⟩ := deep_dp r2 r1' hd
        unfold deepB at hd
        simp only [Bool.and_eq_true] at hd
        have h6 : U.flatAll 39 us = true := by simpa [U.flat] using hd.2
        rw [U.py] at g2 g4
        refine ⟨p, w, y.py, U.pyAll us, j, rfl, rfl, g2, g1, g4, g3, by rw [pyAll_len]; exact hn, ?_, q3 _ _ (Same.refl _) (.int _)⟩
        unfold SeqAt.dataPlace
        rw [eqv_find 40 y hd.1 us (flatAll_mono 39 us h6)]
        exact hj
      · cases hz
    | _ => exact q1.elim)
end
end My

set_option linter.all false
set_option maxRecDepth 100000
namespace My
open PySem PySem.Spec PyProof.Rows L2
open C8 (pe_gc)
/-! ### list(range(n)); comprehensions over a list of the def's own -/
section
variable {X : Cx} {K : PySem.W.Frag} {D : String → Addr}
theorem intsAre_of : ∀ (us : List Value) (f : Nat → Int), (∀ j v, us[j]? = some v → ∃ t, v = Value.int (f j) t) → IntsAre us ((List.range us.length).map f)
  | [], _, _ => .nil
  | u :: us, f, h => by
    obtain ⟨t, e⟩ := h 0 u rfl
    subst e
    rw [List.length_cons, List.range_succ_eq_map, List.map_cons, List.map_map]
    exact .cons _ _ (intsAre_of us (f ∘ Nat.succ) fun j v e => h (j + 1) v (by rw [List.getElem?_cons_succ]; exact e))
def rangeV (n : Nat) : List V := (List.range n).map fun k : Nat => V.int (k : Int)
def tListRng (ta : TA) : TE := fun σ H Q => ta σ H fun vs H1 => ∃ j : Int, vs = [.int j] ∧ -(2 ^ 62) ≤ j ∧ j ≤ 16777216 ∧ ∀ p, H1 p = none → Q (.ref p) (upd H1 p (.lst (rangeV j.toNat)))
theorem pe_listRng {a : Expr} {ta : TA} {p p2 r0 pos : Pos} (hg : Gl X "list") (hm : X.mg "list" = none) (hg2 : Gl X "range") (hm2 : X.mg "range" = none) (ha : PA X [a] ta) (hc : X.calm = true := by rfl)
    (hs : starEach [a] X.env = [(false, eval a X.env)] := by rfl) (na : ∀ e : Expr, starEach [Expr.Call (.Name "range" p2) [a] [] r0] X.env = (false, eval (.Call (.Name "range" p2) [a] [] r0) X.env) :: starEach [] X.env := by intro _; rfl) : PE X (.Call (.Name "list" p) [.Call (.Name "range" p2) [a] [] r0] [] pos) (tListRng ta) := by
  refine ⟨fun pins s σ H Q I h => Call_ (ld_blt I hg hm boot_list (PyProof.Rows.callWith_type1 (PyProof.Rows.args_cons (Call_ (ld_blt I hg2 hm2 boot_range (PyProof.Rows.callWith_type1 (thn (ha.run r0 pins s σ H _ I h) fun us s1 hq => ?_) hs rfl))) (na a)) (na a) rfl))⟩
  obtain ⟨vs, H1, I1, r1, j, e, q1, q2, q⟩ := hq
  subst e
  cases r1 with
  | cons r rr =>
    cases rr
    obtain ⟨t, rfl⟩ := r
    refine call_range_1 (PyProof.Rows.args_nil ?_)
    refine call_list_range (I1.ok.hd hc) (IsRange.new ..) (small_one (by decide) (by decide) q1 (by omega)) (n := j.toNat) (by rw [rangeSize_one]; split <;> omega) (by omega) fun h' tk acc' c' hk hS hacc => ?_
    have kept : ∀ b o, s1.heap.get? b = some o → h'.get? b = some o := fun b o e => hk b o (Heap.get?_push_of_some _ e)
    have I2 : Inv X pins σ H1 { s1 with heap := h', toks := tk } := I1.kept kept
    generalize hp : (s1.heap.push { cls := .type "range", data := .fields #[.int 0 s1.toks, .int j t, .int 1 (s1.toks + 1)] } : Heap).objs.size = p at hS ⊢
    have le : s1.heap.objs.size ≤ p := by rw [← hp, Heap.size_push]; omega
    have np : H1 p = none := I1.hok.fresh le
    obtain ⟨sz, items⟩ := hacc
    have im : IntsAre acc'.toList ((List.range acc'.toList.length).map fun k : Nat => (k : Int)) := intsAre_of _ _ fun i v e => by
      obtain ⟨t, e2⟩ := items i v (by rw [← Array.getElem?_toList]; exact e)
      exact ⟨t, by rw [e2]; congr 1; omega⟩
    rw [Array.length_toList, sz] at im
    have ev : rangeV j.toNat = ((List.range j.toNat).map fun k : Nat => (k : Int)).map V.int := by unfold rangeV; rw [List.map_map]; rfl
    have szl : (rangeV j.toNat).length ≤ sizeLine := by unfold rangeV; rw [List.length_map, List.length_range, sizeLine_eq]; omega
    have J : Inv X pins σ (upd H1 p (.lst (rangeV j.toNat))) { s1 with heap := h', toks := tk } :=
      I1.laid (t' := tk) kept le ⟨szl, acc'.toList, c', by rw [ev]; exact vals_of_ints im, hS⟩
    exact ⟨.ref p, _, J, rfl, q p np⟩
end
structure JOK2 (K : PySem.W.Frag) (D : String → Addr) (J : It) (us : List U) (M N : Hp) : Prop where
  go : ∀ i H, i < us.length → Same M H → J.go i H
  stop : ∀ H, Same M H → J.stop us.length H
  yld : ∀ i H x H' u, us[i]? = some u → Same M H → J.yld i H x H' → Yd K D N H x H' u
def IOK2 (K : PySem.W.Frag) (D : String → Addr) (W : WX) (O : List Nat) (sl : Option Nat) (wi : TI) (f : AF) : Prop := ∀ A S H σ ρ s (R : It → Hp → Prop), Ctx K D O sl A S H σ ρ s → PostG D W S σ H (fun H' (J : It) us => JOK2 K D J us (mask H' S) (mask H' A)) (f ρ s) R → wi σ H R
section
variable {K : PySem.W.Frag} {D : String → Addr} {W : WX} {O O' OL : List Nat} {sl : Option Nat} {A A0 S : List Addr} {H0 H0' H H' H1 : Hp} {L : List (Nat × Addr)} {σ : L2.St} {ρ : Rho} {s s' : Sst}
variable {te tl : TE} {fe fl : EF} {tb : TS} {fb : SF} {g : TG} {pf : PF} {tt : TT} {ft : TF} {tas : TA} {fas fi : AF} {wi : TI}
theorem jok2_list {a : Addr} {vs : List V} {us : List U} {M N : Hp} (h : M a = some (.lst vs)) (r : RepAll K D N vs us) : JOK2 K D (Itl K a) us M N where
  go := fun i H hi sm => walk_list.goes i H (by rw [r.length]; exact hi) (.of (sm _ _ h))
  stop := fun H sm => by rw [← r.length]; exact walk_list.stops H (.of (sm _ _ h))
  yld := fun i H x H' u e sm y => by
    obtain ⟨v, e1, e2⟩ := r.get e
    obtain ⟨h1, h2⟩ := walk_list.yields i H x H' (List.getElem?_eq_some_iff.mp e1).1 (.of (sm _ _ h)) y
    rw [e1] at h2
    cases h2
    exact .inl ⟨h1, e2⟩
theorem jok2_tup {a : Addr} {vs : List V} {us : List U} {M N : Hp} (h : SqT K M a vs) (r : RepAll K D N vs us) : JOK2 K D (Itt K a) us M N where
  go := fun i H hi sm => walk_tup.goes i H (by rw [r.length]; exact hi) (Same.tup sm h)
  stop := fun H sm => by rw [← r.length]; exact walk_tup.stops H (Same.tup sm h)
  yld := fun i H x H' u e sm y => by
    obtain ⟨v, e1, e2⟩ := r.get e
    obtain ⟨h1, h2⟩ := walk_tup.yields i H x H' (List.getElem?_eq_some_iff.mp e1).1 (Same.tup sm h) y
    rw [e1] at h2
    cases h2
    exact .inl ⟨h1, e2⟩
theorem iok2_seq (h : EOK K D W O sl Sn tl fl) : IOK2 K D W O sl (iSeqT K tl) (iSeq fl) := fun A S H σ ρ s R c q =>
  h A S H σ ρ s _ c (q.bind fun x s1 v H1 e1 h1 r1 q1 => by
    have sub := c.sub
    cases x with
    | lst us =>
      have key : ∃ a vs, v = .ref a ∧ a ∉ S ∧ H1 a = some (.lst vs) ∧ RepAll K D (mask H1 A) vs us := by
        rcases r1 with r1 | ⟨a, rfl, n, o⟩
        · cases r1 with
          | lst e r =>
            obtain ⟨n, e⟩ := mask_some e
            exact ⟨_, _, rfl, fun m => n (sub _ m), e, r⟩
        · rcases o with ⟨vs, us', e, h2, h3⟩ | ⟨vs, us', e, h2, h3⟩
          · cases e
            exact ⟨a, vs, rfl, n, h2, h3⟩
          · cases e
      obtain ⟨a, vs, rfl, n, h2, h3⟩ := key
      exact ⟨a, rfl, .inl ⟨⟨_, .of h2⟩, q1 _ _ (Ext.refl _ _) h1 (jok2_list (mask_of n h2) h3)⟩⟩
    | tup us =>
      obtain ⟨a, vs, rfl, h2, h3, h4⟩ := r1.tup
      have sm : Same (mask H1 A) (mask H1 S) := fun b o hb => by
        obtain ⟨n, hb⟩ := mask_some hb
        exact mask_of (fun m => n (sub b m)) hb
      exact ⟨a, rfl, .inr ⟨⟨_, h2⟩, q1 _ _ (Ext.refl _ _) h1 (jok2_tup (Same.tup sm h3) h4)⟩⟩
    | _ => exact q1.elim)
theorem fok_lcS {vs : List Nat} (hv : ∀ i ∈ vs, sl ≠ some i) (hi : IOK2 K D W O sl wi fi) (hg : TgOK K D (okC vs O sl) g pf) (ht : TOK K D W0 O sl tt ft) (he : EOK K D W0 O sl Cl te fe) : FOK K D W O sl (tLc wi g tt te vs) (eLc vs fi pf ft fe) := fun A S Hs σ ρ s Q c q =>
  hi A S Hs σ ρ s _ c (q.bind fun us s1 J H1 e1 h1 hJ q1 => by
    intro p np
    have c1 : Ctx K D O sl A S H1 σ ρ s1 := c.ext e1 h1
    have pA : p ∉ A := fun z => c1.dom p z np
    have pS : p ∉ S := fun z => pA (c.sub p z)
    refine ⟨fun i m H => m = us.length - i ∧ i ≤ us.length ∧ ∃ acc accU s, Ext S H1 H ∧ SrcH S H s ∧ H p = some (.lst acc) ∧ RepAll K D (mask H (p :: A)) acc accU ∧
      PostG D W S σ H1 (fun H' v u => ∃ p, v = .ref p ∧ Hs p = none ∧ OwnAt K D (mask H' (p :: A)) H' p u) (((lcF pf ft fe (us.drop i) (wipeR ρ vs) s accU).noerr).bind fun xs s => .ok (.lst xs) s) Q, ⟨us.length, by simp, Nat.zero_le _, [], [], s1, Ext.new np, h1.same (Same.new np), upd_same, .nil, q1⟩, ?_⟩
    rintro i m H2 ⟨rfl, hil, acc, accU, s2, e2, h2, hp, hr, q2⟩
    have hpn : H2 p ≠ none := by rw [hp]; exact fun z => nomatch z
    have sm : Same (mask H1 A) (mask H2 (p :: A)) := fun b o hb => by
      obtain ⟨n, hb⟩ := mask_some hb
      refine mask_of (fun z => ?_) (e2.1 b o (fun z => n (c.sub b z)) hb)
      rcases List.mem_cons.mp z with z | z
      · rw [z, np] at hb; cases hb
      · exact n z
    have sm2 : Same (mask H1 S) H2 := fun b o hb => e2.1 b o (mask_some hb).1 (mask_some hb).2
    have c2 : Ctx K D O sl (p :: A) S H2 (wipe σ vs) (wipeR ρ vs) s2 := (c1.inner np e2 hpn h2).wiped hv
    by_cases hlt : i < us.length
    · have e0 : us.drop i = us[i] :: us.drop (i + 1) := List.drop_eq_getElem_cons hlt
      rw [e0] at q2
      refine .inr ⟨hJ.go i H2 hlt sm2, fun H => ∃ acc accU s, Ext S H1 H ∧ SrcH S H s ∧ H p = some (.lst acc) ∧ RepAll K D (mask H (p :: A)) acc accU ∧
        PostG D W S σ H1 (fun H' v u => ∃ p, v = .ref p ∧ Hs p = none ∧ OwnAt K D (mask H' (p :: A)) H' p u) (((lcF pf ft fe (us.drop (i + 1)) (wipeR ρ vs) s accU).noerr).bind fun xs s => .ok (.lst xs) s) Q, fun H' h' => ⟨us.length - (i + 1), by omega, rfl, hlt, h'⟩, fun x H3 y => ?_⟩
      obtain ⟨c3, r3, s3⟩ := (hJ.yld i H2 x H3 us[i] (List.getElem?_eq_getElem hlt) sm2 y).inner sm c2
      unfold lcF at q2
      cases e3 : pf us[i] (wipeR ρ vs) with
      | none => rw [e3] at q2; exact q2.elim
      | some ρ3 =>
        rw [e3] at q2
        refine Ctx.targetC hg c3 r3 e3 fun σ3 c4 w4 => ⟨by rw [w4, wipe_idem], ht _ S H3 σ3 ρ3 s2 _ c4 ?_⟩
        cases e4 : ft ρ3 s2 with
        | err a b => simp only [e4] at q2; exact q2.elim
        | stuck => simp only [e4] at q2; exact q2.elim
        | ok b s4 =>
          simp only [e4] at q2
          intro b' H4 x4 h4 eb
          have eb' : b' = b := eb
          subst eb'
          have e14 : Ext S H1 H4 := (e2.trans (.of s3)).trans x4
          have hp4 : H4 p = some (.lst acc) := x4.1 _ _ pS (s3 _ _ hp)
          have smr : Same (mask H2 (p :: A)) (mask H4 (p :: A)) := ((Ext.of s3 : Ext S H2 H3).trans x4).mask c2.sub
          cases b' with
          | false => exact ⟨acc, accU, s4, e14, h4, hp4, hr.same smr, q2⟩
          | true =>
            refine he _ S H4 σ3 ρ3 s4 _ (c4.ext x4 h4) ?_
            cases e5 : fe ρ3 s4 with
            | err a b => simp only [R.bind, e5] at q2; exact q2.elim
            | stuck => simp only [R.bind, e5] at q2; exact q2.elim
            | ok y5 s5 =>
              intro v5 H5 x5 h5 r5
              have q3 : PostG D W S σ H1 (fun H' v u => ∃ p, v = .ref p ∧ Hs p = none ∧ OwnAt K D (mask H' (p :: A)) H' p u) (((if lineB (accU.length + 1) then lcF pf ft fe (us.drop (i + 1)) (wipeR ρ vs) s5 (accU ++ [y5]) else .stuck).noerr).bind fun xs s => .ok (.lst xs) s) Q := by
                simpa only [R.bind, e5, if_true] using q2
              have hp5 : H5 p = some (.lst acc) := x5.1 _ _ pS hp4
              have smr5 : Same (mask H2 (p :: A)) (mask H5 (p :: A)) := fun b o k => (x5.mask c2.sub) b o (smr b o k)
              split at q3
              · rename_i hl
                have eM : mask (upd H5 p (.lst (acc ++ [v5]))) (p :: A) = mask H5 (p :: A) := by
                  funext b
                  unfold mask
                  by_cases mb : b ∈ p :: A
                  · rw [if_pos mb, if_pos mb]
                  · rw [if_neg mb, if_neg mb, upd_ne fun z => mb (by rw [z]; exact List.mem_cons_self)]
                refine ⟨acc, hp5, ?_, acc ++ [v5], accU ++ [y5], s5, ?_, ?_, upd_same, ?_, q3⟩
                · have := lineB_le hl
                  rw [hr.length]
                  omega
                · refine ⟨fun b o n k => ?_, fun b k => ?_⟩
                  · have ne : b ≠ p := fun z => by rw [z, np] at k; cases k
                    rw [upd_ne ne]
                    exact (e14.trans x5).1 b o n k
                  · by_cases ne : b = p
                    · rw [ne, upd_same]; exact fun z => nomatch z
                    · rw [upd_ne ne]; exact (e14.trans x5).2 b k
                · rcases h5 with h5 | ⟨a, d, g1, g2, g3, g4⟩
                  · exact .inl h5
                  · have na : a ≠ p := fun z => pS (by rw [g1, ← z]; simp)
                    have nd : d ≠ p := fun z => pS (by rw [g1, ← z]; simp)
                    exact .inr ⟨a, d, g1, g2, by rw [upd_ne na]; exact g3, by rw [upd_ne nd]; exact g4⟩
                · rw [eM]
                  exact (hr.same smr5).snoc r5
              · exact q3.elim
    · have ei : i = us.length := by omega
      subst ei
      rw [List.drop_length] at q2
      refine .inl ⟨hJ.stop H2 sm2, q2 _ H2 e2 h2 ⟨p, rfl, ?_, .inl ⟨acc, accU, rfl, hp, hr⟩⟩⟩
      cases q : Hs p with
      | none => rfl
      | some x => exact absurd np (e1.2 p (by rw [q]; exact fun z => nomatch z)))
end
def pLRng : List U → Option U
  | [.int j] => if decide (-(2 ^ 62) ≤ j ∧ j ≤ 16777216) = true then some (.lst (rngU 0 j.toNat 1)) else none
  | _ => none
section
variable {K : PySem.W.Frag} {D : String → Addr} {W : WX} {O : List Nat} {sl : Option Nat} {tas : TA} {fas : AF}
theorem repAll_map {M : Hp} (f : Nat → V) (g : Nat → U) (h : ∀ k, Rep K D M (f k) (g k)) : ∀ l : List Nat, RepAll K D M (l.map f) (l.map g)
  | [] => .nil
  | k :: l => .cons (h k) (repAll_map f g h l)
theorem fok_lrng (ha : AOK K D W O sl SnA tas fas) : FOK K D W O sl (tListRng tas) (eN pLRng fas) := fun A S Hs σ ρ s Q c q =>
  ha A S Hs σ ρ s _ c (q.bind fun xs s1 vs H1 e1 h1 r1 q1 => by
    obtain ⟨z, hz, q3⟩ := q1.opt h1
    unfold pLRng at hz
    split at hz
    · rename_i j
      split at hz
      · rename_i hj
        cases hz
        obtain ⟨v, rfl, h⟩ := r1.one
        obtain rfl := h.int
        obtain ⟨j0, j1⟩ := of_decide_eq_true hj
        refine ⟨j, rfl, j0, j1, fun l nl => q3 _ _ (Same.new nl) ⟨l, rfl, ?_, .inl ⟨_, _, rfl, upd_same, ?_⟩⟩⟩
        · cases q : Hs l with
          | none => rfl
          | some x => exact absurd nl (e1.2 l (by rw [q]; exact fun z => nomatch z))
        · unfold rangeV rngU
          exact repAll_map _ _ (fun k => by rw [show (0 : Int) + (k : Int) * 1 = k by omega]; exact .int _) _
      · cases hz
    · cases hz)
end
/-! ### sorted(set(xs)), xs a list or a tuple of whole numbers, many or few -/
section
variable {P : Program} {w : World} {A : Around} {E : Value → Shared → Prop} {s : Shared}
open PySem.Calls in
theorem sort_of_set {a : Addr} {M : Int → Bool} {c : Nat} {Q : Value → Shared → Prop} (R : SetR w s.heap a M c) (calm : A.handled = none) (few : c < 4096)
    (fin : ∀ (s2 : Shared) (p : Addr) (out : Array Value) (k : Nat) (ms : List Int), (∀ b o, s.heap.get? b = some o → s2.heap.get? b = some o) ∧ s2.gens = s.gens ∧ s2.os = s.os ∧ s.heap.objs.size ≤ p → s2.heap.get? p = some (seqObj "list" out k) → IntsAre out.toList ms ∧ ms.Pairwise (· < ·) ∧ (∀ j, j ∈ ms ↔ M j = true) → Q (.ref p) s2) : wpAny (model P w) A (call (.builtin "sorted") [.ref a]) Q E s := by
  obtain ⟨o, es, ep, t, at0, ex, da, good, nd, mem, sb, fits, num, ris, led⟩ := R
  refine call_function_entry kind_sorted plain_sorted entry_sorted (args_sorted1 _) ?_
  unfold Builtin.«sorted»
  refine wpAny_bind (m := checkCount "sorted" 1 1 _) (wpAny_pure (wpAny_bind (collect_set (A := A.in1) calm ⟨o, at0, ex.1, da⟩ fits sb ris led fun s1 vs old grow g1 o1 pm => ?_)))
  have len : vs.length = c := by
    rw [pm.length_eq, List.length_map, Array.length_toList]; exact num
  have iv : IntsAre vs (vs.map Builtin.Re.reRawOf) := L2.ints_of vs fun v hv => by
    obtain ⟨e, he, ev⟩ := List.mem_map.mp (pm.mem_iff.mp hv)
    obtain ⟨k, tk, e1, _⟩ := good e he
    exact ⟨k, tk, ev ▸ e1⟩
  have keys : (vs.map Builtin.Re.reRawOf).Perm (es.toList.map keyOf) := by
    have k := pm.map Builtin.Re.reRawOf
    rwa [List.map_map] at k
  have room : vs.length ≤ sizeLine := by rw [len, sizeLine_eq]; omega
  refine wpAny_bind (wpAny_newList ?_ room)
  have here : (s1.heap.push (seqObj "list" vs.toArray 0)).get? s1.heap.objs.size = some (seqObj "list" vs.toArray 0) := Heap.get?_push_size _ rfl
  refine wpAny_bind (wpAny_holding (wpAny_call_entry slot_list_sort ⟨_, here, rfl⟩ entry_list_sort (list_sort_treeAny here iv room fun out ms i1 i2 i3 => ⟨_, rfl, ?_⟩) (args_list_sort _)))
  obtain ⟨k, hk⟩ := sortedHeap_at (vs := vs) (out := out) here
  have pm2 : ms.Perm (es.toList.map keyOf) := i2.trans keys
  refine wpAny_pure ⟨_, rfl, fin _ s1.heap.objs.size out k ms ⟨fun b u e => ?_, g1, o1, grow⟩ hk ⟨i1, lt_of_le_nodup ms i3 (pm2.nodup_iff.mpr nd), fun j => by rw [pm2.mem_iff, ← mem j]⟩⟩
  have e1 := old b u e
  have lt := Heap.lt_size e1
  show (sortedHeap (s1.heap.push (seqObj "list" vs.toArray 0)) s1.heap.objs.size vs out).get? b = some u
  rw [sortedHeap_old (Nat.ne_of_lt lt) (by rw [size_push']; exact Nat.lt_succ_of_lt lt)]
  exact Heap.get?_push_of_some _ e1
end
def pSetSort2 : List U → Option U
  | [.lst us] => (allInt us).bind fun ns => if us.length < 4000 then some (.lst ((setI ns).map .int)) else none
  | [.tup us] => (allInt us).bind fun ns => if us.length < 4000 then some (.lst ((setI ns).map .int)) else none
  | _ => none
def tSetSort2 (K : PySem.W.Frag) (ta : TE) : TE := fun σ H Q => ta σ H fun x H1 => ∃ (l : Addr) (ns : List Int), x = .ref l ∧ (SqL K H1 l (ns.map V.int) ∨ SqT K H1 l (ns.map V.int)) ∧ ns.length < 4000 ∧ ∀ p, H1 p = none → Q (.ref p) (upd H1 p (.lst ((setI ns).map V.int)))
section
variable {X : Cx} {K : PySem.W.Frag} {D : String → Addr}
theorem pe_setSort2 {a : Expr} {ta : TE} {p p2 r0 pos : Pos} (hg : Gl X "sorted") (hm : X.mg "sorted" = none) (hg2 : Gl X "set") (hm2 : X.mg "set" = none) (ha : PE X a ta) (hc : X.calm = true := by rfl)
    (na : starEach [a] X.env = (false, eval a X.env) :: starEach [] X.env := by rfl) : PE X (.Call (.Name "sorted" p) [.Call (.Name "set" p2) [a] [] r0] [] pos) (tSetSort2 X.K ta) := by
  refine ⟨fun pins s σ H Q I h => Call_ (ld_blt I hg hm boot_sorted ?_)⟩
  refine PyProof.Rows.callWith_builtin1 (PyProof.Rows.args_cons (Call_ (ld_blt I hg2 hm2 boot_set (PyProof.Rows.callWith_type1 (PyProof.Rows.args_cons (thn (ha.run pins s σ H _ I h) fun v s1 hq => PyProof.Rows.args_nil ?_) na) na rfl))) rfl) rfl rfl
  obtain ⟨x, H1, I1, r1, l, ns, rfl, hs, hl, q⟩ := hq
  cases r1
  rcases hs with hs | hs
  · obtain ⟨us, rv, at0, _⟩ := I1.list hs
    refine set_of_list ns (I1.ok.hd hc) at0.isList (ints_of_vals rv) (by unfold scanBound; omega) fun g tk c R cl old => PyProof.Rows.args_nil ?_
    refine sort_of_set R (I1.ok.hd hc) (by omega) fun s2 p out c2 ms kk at1 im => ?_
    obtain ⟨k, g2, o2, hp⟩ := kk
    obtain ⟨im, sm, mm⟩ := im
    have I2 : Inv X pins σ H1 { s1 with heap := g, toks := tk } := I1.kept old
    have le : s1.heap.objs.size ≤ p := Nat.le_trans (Nat.le_of_lt (Heap.lt_size (R.choose_spec.choose_spec.choose_spec.choose_spec.1))) hp
    have np : H1 p = none := I1.hok.fresh le
    have em : ms = setI ns := setI_of sm fun k => (mm k).trans (by simp)
    have sz : (ms.map V.int).length ≤ sizeLine := by
      have := setI_len ns
      rw [List.length_map, em, sizeLine_eq]
      omega
    have J : Inv X pins σ (upd H1 p (.lst (ms.map V.int))) { ({ s1 with heap := g, toks := tk } : Shared) with heap := s2.heap, gens := s2.gens, drawn := s2.drawn, toks := s2.toks } :=
      I2.call (ch := []) (Un.laid k hp np) (I2.hok.laid k hp ⟨sz, out.toList, c2, vals_of_ints im, at1⟩) (by rw [g2]; exact I2.bare) nofun
    have es : s2 = { s1 with heap := s2.heap, gens := s2.gens, drawn := s2.drawn, toks := s2.toks } := by
      obtain ⟨a1, a2, a3, a4, a5⟩ := s2
      obtain rfl : a5 = s1.os := o2
      rfl
    rw [es]
    exact ⟨.ref p, _, J, rfl, by rw [em]; exact q p np⟩
  · obtain ⟨us, rv, at0, _⟩ := I1.tuple hs
    refine call_set_tupI ns (I1.ok.hd hc) (show s1.heap.IsTuple l us.toArray from at0) (ints_of_vals rv) (by unfold scanBound; omega) fun g tk c R cl old => PyProof.Rows.args_nil ?_
    refine sort_of_set R (I1.ok.hd hc) (by omega) fun s2 p out c2 ms kk at1 im => ?_
    obtain ⟨k, g2, o2, hp⟩ := kk
    obtain ⟨im, sm, mm⟩ := im
    have I2 : Inv X pins σ H1 { s1 with heap := g, toks := tk } := I1.kept old
    have le : s1.heap.objs.size ≤ p := Nat.le_trans (Nat.le_of_lt (Heap.lt_size (R.choose_spec.choose_spec.choose_spec.choose_spec.1))) hp
    have np : H1 p = none := I1.hok.fresh le
    have em : ms = setI ns := setI_of sm fun k => (mm k).trans (by simp)
    have sz : (ms.map V.int).length ≤ sizeLine := by
      have := setI_len ns
      rw [List.length_map, em, sizeLine_eq]
      omega
    have J : Inv X pins σ (upd H1 p (.lst (ms.map V.int))) { ({ s1 with heap := g, toks := tk } : Shared) with heap := s2.heap, gens := s2.gens, drawn := s2.drawn, toks := s2.toks } :=
      I2.call (ch := []) (Un.laid k hp np) (I2.hok.laid k hp ⟨sz, out.toList, c2, vals_of_ints im, at1⟩) (by rw [g2]; exact I2.bare) nofun
    have es : s2 = { s1 with heap := s2.heap, gens := s2.gens, drawn := s2.drawn, toks := s2.toks } := by
      obtain ⟨a1, a2, a3, a4, a5⟩ := s2
      obtain rfl : a5 = s1.os := o2
      rfl
    rw [es]
    exact ⟨.ref p, _, J, rfl, by rw [em]; exact q p np⟩
theorem pe_setSort2K {a : Expr} {ta : TE} {p p2 r0 pos : Pos} (hg : Gl X "sorted") (hm : X.mg "sorted" = none) (hg2 : Gl X "set") (hm2 : X.mg "set" = none) (ha : PE X a ta) (hc : X.calm = true := by rfl) (hK : X.K = K := by rfl)
    (na : starEach [a] X.env = (false, eval a X.env) :: starEach [] X.env := by rfl) : PE X (.Call (.Name "sorted" p) [.Call (.Name "set" p2) [a] [] r0] [] pos) (tSetSort2 K ta) := by
  subst hK
  exact pe_setSort2 hg hm hg2 hm2 ha hc na
end
section
variable {K : PySem.W.Frag} {D : String → Addr} {W : WX} {O : List Nat} {sl : Option Nat} {ta : TE} {fa : EF}
theorem eok_setSort2 (ha : EOK K D W O sl Cl ta fa) : EOK K D W O sl Cl (tSetSort2 K ta) (My.e1 (fun x => pSetSort2 [x]) fa) := fun A S H σ ρ s Q c q =>
  ha A S H σ ρ s _ c (q.bind fun x s1 v H1 e1 h1 r1 q1 => by
    obtain ⟨z, hz, q3⟩ := q1.opt h1
    change pSetSort2 [x] = some z at hz
    unfold pSetSort2 at hz
    split at hz
    · rename_i us eq
      cases eq
      simp only [Option.bind_eq_some_iff] at hz
      obtain ⟨ns, e2, hz⟩ := hz
      split at hz
      · rename_i hl
        cases hz
        cases r1 with
        | lst g r =>
          have hv := r.int e2
          have hlen := r.length
          rw [hv] at g hlen
          rw [List.length_map] at hlen
          exact ⟨_, ns, rfl, .inl (.of (mask_some g).2), by omega, fun p np => q3 _ _ (Same.new np) (newInts np (c.ext e1 h1).dom _)⟩
      · cases hz
    · rename_i us eq
      cases eq
      simp only [Option.bind_eq_some_iff] at hz
      obtain ⟨ns, e2, hz⟩ := hz
      split at hz
      · rename_i hl
        cases hz
        cases r1 with
        | tup g r =>
          have hv := r.int e2
          have hlen := r.length
          rw [hv] at g hlen
          rw [List.length_map] at hlen
          exact ⟨_, ns, rfl, .inr (SqT.full g), by omega, fun p np => q3 _ _ (Same.new np) (newInts np (c.ext e1 h1).dom _)⟩
      · cases hz
    · cases hz)
end
/-! ### x in t, t a tuple -/
section
variable {X : Cx} {K : PySem.W.Frag} {D : String → Addr}
def rInT (K : PySem.W.Frag) : R2 := fun x y H Q =>
  ∃ (d : PyData) (ds : List PyData), (Dp K H x d ∧ Dp K H y (.tuple ds)) ∧ (SeqAt.shaped d = true ∧ SeqAt.shaped (.tuple ds) = true) ∧ Q (.bl (ds.any fun z => PyData.eqv z d)) H
def rNotInT (K : PySem.W.Frag) : R2 := fun x y H Q =>
  ∃ (d : PyData) (ds : List PyData), (Dp K H x d ∧ Dp K H y (.tuple ds)) ∧ (SeqAt.shaped d = true ∧ SeqAt.shaped (.tuple ds) = true) ∧ Q (.bl (!(ds.any fun z => PyData.eqv z d))) H
theorem op_inTK (hu : X.A.units + 65 < cLine) (h : X.K = K := by rfl) : OpR X (compareOp .In) (rInT K) := by
  subst h
  intro pins s σ H x y v u Q I rx ry ⟨d, ds, ⟨hd, he⟩, ⟨sd, se⟩, q⟩
  obtain ⟨as, r1⟩ := Dp.reads I d x v hd rx
  obtain ⟨bs, r2⟩ := Dp.reads I (.tuple ds) y u he ry
  have c2 : PyData.canLayAll0 ds = true := SeqAt.canLay_of_shaped se
  exact SeqAt.in_tuple_data r2 r1 (PyData.plainAll_of_canLay0 ds c2) (PyData.plain_of_canLay0 d (SeqAt.canLay_of_shaped sd)) (room_in_shaped sd hu) ⟨.bl _, H, I, rfl, q⟩
theorem op_notInTK (hu : X.A.units + 65 < cLine) (h : X.K = K := by rfl) : OpR X (compareOp .NotIn) (rNotInT K) := by
  subst h
  intro pins s σ H x y v u Q I rx ry ⟨d, ds, ⟨hd, he⟩, ⟨sd, se⟩, q⟩
  obtain ⟨as, r1⟩ := Dp.reads I d x v hd rx
  obtain ⟨bs, r2⟩ := Dp.reads I (.tuple ds) y u he ry
  have c2 : PyData.canLayAll0 ds = true := SeqAt.canLay_of_shaped se
  exact SeqAt.notIn_tuple_data r2 r1 (PyData.plainAll_of_canLay0 ds c2) (PyData.plain_of_canLay0 d (SeqAt.canLay_of_shaped sd)) (room_in_shaped sd hu) ⟨.bl _, H, I, rfl, q⟩
def pInT (a b : U) : Option U := match b with
  | .tup us => if deepB a b then some (.bl (us.any fun z => ueq z a)) else none
  | _ => none
def pNotInT (a b : U) : Option U := match b with
  | .tup us => if deepB a b then some (.bl (!(us.any fun z => ueq z a))) else none
  | _ => none
theorem ok_inT : OpOK K D (rInT K) pInT := fun A S H x y a b c Q d ha hb e q => by
  unfold pInT at e
  split at e
  · rename_i us
    split at e
    · rename_i hd
      cases e
      obtain ⟨h1, h2, h3, h4, h5⟩ := deep_dp ha hb hd
      unfold deepB at hd
      simp only [Bool.and_eq_true] at hd
      have h6 : U.flatAll 39 us = true := by simpa [U.flat] using hd.2
      rw [U.py] at h2 h4
      refine ⟨_, _, ⟨h1, h2⟩, ⟨h3, h4⟩, ?_⟩
      rw [eqv_any 40 a hd.1 us (flatAll_mono 39 us h6)]
      exact q _ _ (Same.refl _) (.bl _)
    · cases e
  · cases e
theorem ok_notInT : OpOK K D (rNotInT K) pNotInT := fun A S H x y a b c Q d ha hb e q => by
  unfold pNotInT at e
  split at e
  · rename_i us
    split at e
    · rename_i hd
      cases e
      obtain ⟨h1, h2, h3, h4, h5⟩ := deep_dp ha hb hd
      unfold deepB at hd
      simp only [Bool.and_eq_true] at hd
      have h6 : U.flatAll 39 us = true := by simpa [U.flat] using hd.2
      rw [U.py] at h2 h4
      refine ⟨_, _, ⟨h1, h2⟩, ⟨h3, h4⟩, ?_⟩
      rw [eqv_any 40 a hd.1 us (flatAll_mono 39 us h6)]
      exact q _ _ (Same.refl _) (.bl _)
    · cases e
  · cases e
end
end My

set_option linter.all false
set_option maxRecDepth 100000
namespace My
open PySem PySem.Spec PyProof.Rows L2
open C8 (pe_gc)
/-! ### range(i, j, c) by a step from 1 on -/
theorem rgC_steps {r g m : Nat} (hm : 0 < m) (h1 : r < 1000000) (h2 : g < 1000000) (h3 : m < 1000000) : ∃ n : Nat, RgC (r : Int) (g : Int) (m : Int) n ∧ ∀ k : Nat, k < n ↔ r + m * k < g := by
  by_cases hlt : r < g
  · have e : Builtin.Range.rangeSize (r : Int) (g : Int) (m : Int) = (((g - r - 1) / m + 1 : Nat) : Int) := by
      unfold Builtin.Range.rangeSize
      rw [if_pos (by omega), if_pos (by omega), Int.natCast_add, Int.natCast_ediv]
      congr 2
      omega
    have hq : (g - r - 1) / m ≤ g - r - 1 := Nat.div_le_self _ _
    refine ⟨(g - r - 1) / m + 1, ⟨by omega, by omega, ?_, e⟩, fun k => ?_⟩
    · unfold Builtin.Range.small
      rw [e]
      rw [if_pos (by omega)]
      generalize (g - r - 1) / m = w at hq ⊢
      simp only [Builtin.Range.rangeFitsLong, Bool.and_eq_true, Bool.or_eq_true, decide_eq_true_eq, beq_iff_eq]
      omega
    · rw [Nat.lt_succ_iff, Nat.le_div_iff_mul_le hm, Nat.mul_comm]
      omega
  · have e : Builtin.Range.rangeSize (r : Int) (g : Int) (m : Int) = ((0 : Nat) : Int) := by
      unfold Builtin.Range.rangeSize
      rw [if_pos (by omega), if_neg (by omega)]
      rfl
    refine ⟨0, ⟨by omega, by omega, ?_, e⟩, fun k => ?_⟩
    · unfold Builtin.Range.small
      rw [e]
      rw [if_pos (by omega)]
      simp only [Builtin.Range.rangeFitsLong, Bool.and_eq_true, Bool.or_eq_true, decide_eq_true_eq, beq_iff_eq]
      omega
    · omega
/-- so many steps -/
def upN (i j c : Int) : Nat := ((j - i + c - 1) / c).toNat
theorem upN_lt {i j c : Int} (hc : 0 < c) (k : Nat) : k < upN i j c ↔ i + c * (k : Int) < j := by
  unfold upN
  rw [Int.lt_toNat, show ((k : Int) < (j - i + c - 1) / c) ↔ ((k : Int) + 1 ≤ (j - i + c - 1) / c) from Iff.rfl, Int.le_ediv_iff_mul_le hc, Int.add_mul, Int.mul_comm (k : Int) c]
  omega
def pRngUp : List U → Option (List U)
  | [.int i, .int j, .int c] => if decide (0 ≤ i ∧ i < 1000000 ∧ 0 ≤ j ∧ j < 1000000 ∧ 0 < c ∧ c < 1000000) then some (rngU i (upN i j c) c) else none
  | _ => none
theorem pRngUp_eq (i j c : Int) : pRngUp [.int i, .int j, .int c] = if decide (0 ≤ i ∧ i < 1000000 ∧ 0 ≤ j ∧ j < 1000000 ∧ 0 < c ∧ c < 1000000) then some (rngU i (upN i j c) c) else none := rfl
theorem rgC_up {i j c : Int} (h : 0 ≤ i ∧ i < 1000000 ∧ 0 ≤ j ∧ j < 1000000 ∧ 0 < c ∧ c < 1000000) : RgC i j c (upN i j c) := by
  obtain ⟨r, rfl⟩ := Int.eq_ofNat_of_zero_le h.1
  obtain ⟨g, rfl⟩ := Int.eq_ofNat_of_zero_le h.2.2.1
  obtain ⟨m, rfl⟩ := Int.eq_ofNat_of_zero_le (Int.le_of_lt h.2.2.2.2.1)
  obtain ⟨n, hn, hk⟩ := rgC_steps (r := r) (g := g) (m := m) (by omega) (by omega) (by omega) (by omega)
  have e : n = upN (r : Int) (g : Int) (m : Int) := by
    have both : ∀ k : Nat, k < n ↔ k < upN (r : Int) (g : Int) (m : Int) := fun k => by
      rw [hk, upN_lt (by omega), show (r : Int) + (m : Int) * (k : Int) < (g : Int) ↔ r + m * k < g by rw [← Int.natCast_mul, ← Int.natCast_add]; exact Int.ofNat_lt]
    rcases Nat.lt_trichotomy n (upN (r : Int) (g : Int) (m : Int)) with h | h | h
    · exact absurd ((both n).mpr h) (Nat.lt_irrefl _)
    · exact h
    · exact absurd ((both _).mp h) (Nat.lt_irrefl _)
  rw [← e]
  exact hn
section
variable {K : PySem.W.Frag} {D : String → Addr} {W : WX} {O : List Nat} {sl : Option Nat} {tas : TA} {fas : AF}
theorem iok_rngUp (h : AOK K D W O sl SnA tas fas) : IOK K D W O sl (iRng3 tas) (iRng pRngUp fas) := fun A S H σ ρ s R c q =>
  h A S H σ ρ s _ c (q.bind fun xs s1 vs H1 e1 h1 r1 q1 => by
    cases e : pRngUp xs with
    | none => rw [e] at q1; exact q1.elim
    | some us =>
      rw [e] at q1
      unfold pRngUp at e
      split at e
      · split at e
        · rename_i hl
          cases e
          match vs, r1 with
          | [v, w, x], h2 =>
            obtain rfl := h2.1.int
            obtain rfl := h2.2.1.int
            obtain rfl := h2.2.2.1.int
            exact ⟨_, _, _, _, rfl, rgC_up (of_decide_eq_true hl), q1 _ _ (Ext.refl _ _) h1 jok_rngC⟩
        · cases e
      · cases e)
end
end My

set_option linter.all false
set_option maxRecDepth 100000
namespace My
open PySem PySem.Spec PyProof.Rows L2
open C8 (pe_gc)
/-! ### range(i, j) of whatever numbers -/
section
variable {X : Cx} {tg : Expr} {pins : List (Addr × Obj)} {σ : L2.St} {H : Hp} {s : Shared}
theorem turnLong {P : Program} {w : World} {K : PySem.W.Frag} (I : Addr) (a : Int) (n : Nat) :
    Turn P w K tg (Itr a n) [I] I (fun k h => IsLongIter h I (a + (k : Nat) * 1) ((n : Int) - (k : Nat)) 1) := by
  refine ⟨List.mem_singleton.mpr rfl, fun k h q b hb => ?_, fun k h h' q kp => kp I (List.mem_singleton.mpr rfl) _ q, ?_, ?_, fun A k s Q E q g => wpAny_pyIter_longiter q g⟩
  · rw [List.mem_singleton.mp hb]
    exact ⟨_, q, fun v z => nomatch (show Data.fields _ = Data.cell v from z)⟩
  · rintro X rfl rfl rfl calm k pins s σ H E inv free q hk
    obtain ⟨z0, z1, z2, z3, z4, z5⟩ := free I (List.mem_singleton.mpr rfl)
    refine (Walks.longrange (prog := X.prog) (w := X.w) (inv.ok.hd calm) I a 1 n).item k s _ _ hk q fun v h' tk hv q' keep => ?_
    obtain ⟨t, rfl⟩ := hv
    have inv' : Inv X pins σ H { s with heap := h', toks := tk } := inv.turned (fun b o nb e => keep b o (fun m => nb (List.mem_singleton.mp m)) e) z0 z1 z3 z4 z5
    exact ⟨_, rfl, go_of (s := { s with heap := h', toks := tk }) (n := "longrange_iterator") q' rfl rfl (by decide) ⟨.int (a + k), H, inv', ⟨t, by rw [Int.mul_one]⟩, ⟨rfl, rfl⟩, q', fun b hb => (free b hb).1⟩⟩
  · rintro X rfl rfl rfl calm k pins s σ H E inv free q (hk : n ≤ k)
    obtain ⟨z0, z1, z2, z3, z4, z5⟩ := free I (List.mem_singleton.mpr rfl)
    exact wpAny_pyNext_long_end (inv.ok.hd calm) q (by omega) fun h' ext => ⟨rfl, inv.turned (t' := s.toks) (fun b o nb e => ext b o nb e) z0 z1 z3 z4 z5⟩
def iRng2W (ta : TA) : TI := fun σ H R => ta σ H fun vs H1 => ∃ i j : Int, vs = [V.int i, V.int j] ∧ R (Itr i (j - i).toNat) H1
theorem range_any {R : It → Hp → Prop} {E : Value → Shared → Prop} {lo hi : Int} {t u v : Tok} {tk : Nat} (inv : Inv X pins σ H s) (q : R (Itr lo (hi - lo).toNat) H) :
    wpAny (model X.prog X.w) X.A (pyIter (.ref s.heap.objs.size)) (PIE X pins σ tg R) E { s with heap := s.heap.push { cls := .type "range", data := .fields #[.int lo t, .int hi u, .int 1 v] }, toks := tk } := by
  have size : (((hi - lo).toNat : Nat) : Int) - ((0 : Nat) : Int) = Builtin.Range.rangeSize lo hi 1 := by
    rw [rangeSize_one]
    split <;> omega
  have first : lo + ((0 : Nat) : Int) * 1 = lo := by simp
  have inv1 : Inv X pins σ H { s with heap := s.heap.push { cls := .type "range", data := .fields #[.int lo t, .int hi u, .int 1 v] }, toks := tk } := inv.kept fun b o e => Heap.get?_push_of_some _ e
  cases small : Builtin.Range.small lo hi 1 with
  | true =>
    refine wpAny_pyIter_range (IsRange.new ..) small ?_
    refine pi_one (tk := tk) inv1 _ (turn_range _ lo (hi - lo).toNat) ?_ q
    show IsRangeIter _ _ (lo + ((0 : Nat) : Int) * 1) ((((hi - lo).toNat : Nat) : Int) - ((0 : Nat) : Int)) 1
    rw [first, size]
    exact Heap.get?_push_size _ rfl
  | false =>
    refine wpAny_pyIter_longrange (IsRange.new ..) small ?_
    refine pi_one (tk := tk) inv1 _ (turnLong _ lo (hi - lo).toNat) ?_ q
    show IsLongIter _ _ (lo + ((0 : Nat) : Int) * 1) ((((hi - lo).toNat : Nat) : Int) - ((0 : Nat) : Int)) 1
    rw [first, size]
    exact Heap.get?_push_size _ rfl
theorem pi_range2W {a b : Expr} {ta : TA} {p pos : Pos} (hg : Gl X "range") (hm : X.mg "range" = none) (ha : PA X [a, b] ta)
    (s1 : starEach [a, b] X.env = [(false, eval a X.env), (false, eval b X.env)] := by rfl) (s2 : starEach [b] X.env = [(false, eval b X.env)] := by rfl) : PI X tg (.Call (.Name "range" p) [a, b] [] pos) (iRng2W ta) := by
  constructor
  intro pins s σ H R inv h
  refine Call_ (ld_blt inv hg hm boot_range (PyProof.Rows.callWith_type1 (thn (ha.run pos pins s σ H _ inv h) fun us st ⟨vs, H1, inv1, rel, i, j, e, q⟩ => ?_) (by rw [s1, s2]) (by rw [s2]; rfl)))
  subst e
  cases rel with
  | cons one more =>
    cases more with
    | cons two none_ =>
      cases none_
      obtain ⟨t, e1⟩ := one
      obtain ⟨t', e2⟩ := two
      rw [e1, e2]
      exact call_range_2 (range_any inv1 q)
end
def pRng2W : List U → Option (List U)
  | [.int i, .int j] => some (rngU i (j - i).toNat 1)
  | _ => none
section
variable {K : PySem.W.Frag} {D : String → Addr} {W : WX} {O : List Nat} {sl : Option Nat} {tas : TA} {fas : AF}
theorem iok_rng2W (h : AOK K D W O sl SnA tas fas) : IOK K D W O sl (iRng2W tas) (iRng pRng2W fas) := fun A S H σ ρ s R c q =>
  h A S H σ ρ s _ c (q.bind fun xs s1 vs H1 e1 h1 r1 q1 => by
    cases e : pRng2W xs with
    | none => rw [e] at q1; exact q1.elim
    | some us =>
      rw [e] at q1
      unfold pRng2W at e
      split at e
      · cases e
        obtain ⟨v, w, rfl, h2, h3⟩ := r1.two
        obtain rfl := h2.int
        obtain rfl := h3.int
        exact ⟨_, _, rfl, q1 _ _ (Ext.refl _ _) h1 jok_rng⟩
      · cases e)
end
end My

set_option linter.all false
set_option maxRecDepth 100000
namespace My
open PySem PySem.Spec PyProof.Rows L2
open C8 (pe_gc)
open PySem.W (KdlSrc kdl_extend)
/-! ### tuple(d.values()) -/
section
variable {prog : Program} {w : World} {A : Around} {E : Value → Shared → Prop} {s : Shared} {T : String} {r d : Addr} {n : Nat} {Pr : Nat → Value → Prop} {OK : Heap → Prop}
theorem iadd_src {R : Result → Shared → Prop} (K : KdlSrc prog w T r d n Pr OK) (hh : A.handled = none) (hok : OK s.heap) (S : Addr) (hSr : S ≠ r) (hSd : S ≠ d) (c₀ : Nat) (hS : s.heap.get? S = some { cls := .type "list", data := .seq #[] c₀ }) (hn : n ≤ sizeLine)
    (hR : ∀ h' tk acc' c', (∀ b o, b ≠ S → s.heap.get? b = some o → h'.get? b = some o) → h'.get? S = some { cls := .type "list", dict := none, data := .seq acc' c', slots := #[] } → ItemsOf Pr acc' n → R (.ok (.ret (.ref S))) { s with heap := h', toks := tk }) :
    codeAny (model prog w) A (.builtin "list.__iadd__" ⟨[.ref S, .ref r], []⟩) R s := by
  refine codeAny_builtin PySem.F.entry_list_iadd ?_
  rw [Around.under_plainId PySem.F.plain_list_iadd _]
  exact kdl_extend K hh hok S hSr hSd (.ref S) c₀ hS hR hn
theorem collect_src {Q : List Value → Shared → Prop} (K : KdlSrc prog w T r d n Pr OK) (hh : A.handled = none) (hok : OK s.heap) (hn : n ≤ sizeLine)
    (hQ : ∀ (h' : Heap) (tk : Nat) (acc : Array Value), (∀ b o, s.heap.get? b = some o → h'.get? b = some o) → ItemsOf Pr acc n → Q acc.toList { s with heap := h', toks := tk }) :
    wpAny (model prog w) A (collect (.ref r)) Q E s := by
  have there := K.there _ hok
  unfold collect
  refine wpAny_bind (wpAny_runValue (codeAny_builtin PySem.F.entry_proto_collect ?_))
  rw [Around.under_plainId PySem.F.plain_proto_collect _]
  refine wpAny_bind (wpAny_newObj_type ?_)
  have at0 : (s.heap.push { cls := .type "list", data := .seq #[] }).get? s.heap.objs.size = some { cls := .type "list", data := .seq #[] } := Heap.get?_push_size _ rfl
  refine wpAny_pure ⟨plainId_quiet PySem.F.plain_list_iadd _, iadd_src (s := { s with heap := s.heap.push { cls := .type "list", data := .seq #[] } }) K hh (K.keep _ _ hok fun b _ o e => Heap.get?_push_of_some _ e) s.heap.objs.size (Nat.ne_of_gt there.1) (Nat.ne_of_gt there.2) _ at0 hn fun h' tk acc c' hk at1 hacc => ?_⟩
  show wpAny _ A (load s.heap.objs.size >>= _) _ _ _
  refine wpAny_bind (wpAny_load (s := { s with heap := h', toks := tk }) at1 ?_)
  refine wpAny_pure ?_
  exact hQ h' tk acc (fun b o e => hk b o (Nat.ne_of_lt (Heap.lt_size e)) (Heap.get?_push_of_some _ e)) hacc
theorem code_tuple_src {Q₁ : Value → Shared → Prop} (K : KdlSrc prog w T r d n Pr OK) (hh : A.handled = none) (hok : OK s.heap) (hn : n ≤ sizeLine)
    (hQ : ∀ (h' : Heap) (tk : Nat) (acc : Array Value), (∀ b o, s.heap.get? b = some o → h'.get? b = some o) → ItemsOf Pr acc n → Q₁ (.ref h'.objs.size) { s with heap := h'.push { cls := .type "tuple", data := .seq acc }, toks := tk }) :
    codeAny (model prog w) A (.call (.builtin "tuple.__new__") ⟨[.type "tuple", .ref r], []⟩) (wants Q₁ E) s := by
  refine codeAny_of_tree ?_
  show wpAny _ A.in1 (do checkBuiltinCall "tuple.__new__" ⟨[.type "tuple", .ref r], []⟩; again (.builtin "tuple.__new__" ⟨[.type "tuple", .ref r], []⟩)) _ _ s
  refine wpAny_bind (wpAny_of_eq (PySem.F.newCall_tuple_1 _) (wpAny_pure ⟨plainId_quiet PySem.F.plain_tuple_new _, codeAny_builtin PySem.F.entry_tuple_new ?_⟩))
  rw [Around.under_plainId PySem.F.plain_tuple_new _]
  have hsub := sub_tuple_self
  have hinit := init_tuple_lookup
  have hmh := madeHere_tuple
  have hTI := K.type s hok
  have nl := K.notList
  have nt := K.notTuple
  have hh1 : A.in1.handled = none := hh
  wp_walk using wpAny_typeOf hTI, collect_src (A := A.in1) K hh1 hok hn
  intro h' tk acc hk hacc
  show wpAny _ _ (Builtin.Tuple.tupleExact acc.toList.toArray >>= fun v => ret v) _ _ _
  unfold Builtin.Tuple.tupleExact
  refine wpAny_bind (wpAny_newObj_type ?_ (by show acc.toList.toArray.size ≤ sizeLine; simp only [Array.toArray_toList]; rw [hacc.1]; exact hn))
  refine wpAny_pure ?_
  have e : acc.toList.toArray = acc := by simp
  rw [e]
  exact hQ h' tk acc hk hacc
theorem call_tuple_src {Q : Value → Shared → Prop} (K : KdlSrc prog w T r d n Pr OK) (hh : A.handled = none) (hok : OK s.heap) (hn : n ≤ sizeLine)
    (hQ : ∀ (h' : Heap) (tk : Nat) (acc : Array Value), (∀ b o, s.heap.get? b = some o → h'.get? b = some o) → ItemsOf Pr acc n → Q (.ref h'.objs.size) { s with heap := h'.push { cls := .type "tuple", data := .seq acc }, toks := tk }) :
    wpAny (model prog w) A (call (.type "tuple") [.ref r]) Q E s := by
  refine callType_codes (Q₁ := fun obj s₁ => s₁.TypeIs obj "tuple" ∧ Q obj s₁) PySem.F.called_tuple (PySem.F.typeCall_tuple_1 _) PySem.F.entry_object_init
    (code_tuple_src (A := A.in1) K hh hok hn fun h' tk acc hk hacc => ⟨⟨_, Heap.get?_push_size _ rfl, rfl⟩, hQ h' tk acc hk hacc⟩) fun obj s₁ h₁ => ?_
  exact ⟨h₁.1, PySem.F.args_object_init_2 obj _, object_init_meets PySem.F.called_tuple.init.lookup PySem.F.called_tuple.made (by decide) prog w A.in1 _ s₁ ⟨h₁.1, rfl, h₁.2⟩⟩
end
/-- the tuple of a dict's values -/
def tTVals (td : TE) : TE := fun σ H Q => td σ H fun x H1 => ∃ a kvs, x = .ref a ∧ Rd H1 a (.dK kvs) ∧ ∀ l, H1 l = none → Q (.ref l) (upd H1 l (.tup (kvs.map (·.2))))
section
variable {X : Cx} {K : PySem.W.Frag} {D : String → Addr}
theorem kv_vals {κ : Type} : ∀ {kvs : List (κ × V)} {vs : List (κ × Value)}, KV kvs vs → Vals (kvs.map (·.2)) (vs.map (·.2)) := by
  intro kvs vs h
  induction h with
  | nil => exact .nil
  | cons h1 h2 ih => exact .cons h1.2 ih
theorem pe_tupVals {o : Expr} {td : TE} {p pos apos cpos : Pos} (hg : Gl X "tuple") (hm : X.mg "tuple" = none) (ho : PE X o td) (hc : X.calm = true := by rfl)
    (hbase : attributeBase o "values" X.env (eval o X.env) = eval o X.env := by rfl) (hline : (apos.endLine == cpos.line) = true := by rfl)
    (na : starEach [.Call (.Attribute o "values" apos) [] [] cpos] X.env = (false, eval (.Call (.Attribute o "values" apos) [] [] cpos) X.env) :: starEach [] X.env := by rfl) :
    PE X (.Call (.Name "tuple" p) [.Call (.Attribute o "values" apos) [] [] cpos] [] pos) (tTVals td) := by
  refine ⟨fun pins s σ H Q I h => Call_ (ld_blt I hg hm boot_tuple ?_)⟩
  refine PyProof.Rows.callWith_type1 (PyProof.Rows.args_cons (wpAny_Call_method0_late hbase hline (thn (ho.run pins s σ H _ I h) fun v s1 hq => ?_)) na) na rfl
  obtain ⟨x, H1, I1, r1, a, kvs, rfl, rd, q⟩ := hq
  cases r1
  obtain ⟨sz, lo, vs, rel, dd⟩ := dk_rd I1.hok rd
  obtain ⟨es, ep, raw, es1, es2⟩ := dd.raw
  have nd : ∀ b, Value.ref a = .ref b → ∃ ob, s1.heap.get? b = some ob ∧ ob.dict = none := fun b e => by
    cases e
    obtain ⟨ob, _, _, h1, h2, _⟩ := id dd
    exact ⟨ob, h1, h2.2.1⟩
  refine ⟨"dict", "dict.values", PySem.F.plainAttrs_dict, PySem.F.slot_dict_values, PySem.F.type_dict_values, dd.typeIs, nd, Calls.callWith_builtin rfl (PySem.evalArgs_none ?_)⟩
  refine call_meetsIn PySem.F.slot_dict_values dd.typeIs PySem.F.entry_dict_values (PySem.F.args_dict_values_1 _) (meets_dict_values_raw a lo) ⟨⟨es, ep, raw⟩, PyProof.Rows.args_nil ?_⟩
  have view : (s1.heap.push { cls := .type "dict_values", data := .fields #[.ref a] }).IsValuesView s1.heap.objs.size a := ⟨_, Heap.get?_push_size _ rfl, rfl, rfl⟩
  have n1 : es.size ≤ sizeLine := by rw [es1, ← rel.length]; exact sz
  refine call_tuple_src (s := { s1 with heap := s1.heap.push { cls := .type "dict_values", data := .fields #[.ref a] } }) (KdlSrc.rawValues (r := s1.heap.objs.size) (d := a) (es := es) (ep := ep)) (I1.ok.hd hc) ⟨view, raw.at fun o e => Heap.get?_push_of_some _ e⟩ n1 fun h' tk acc hk hacc => ?_
  have I2 : Inv X pins σ H1 { s1 with heap := h', toks := tk } := I1.kept fun b u e => hk b u (Heap.get?_push_of_some _ e)
  have eacc : acc = (vs.map (·.2)).toArray := by
    apply Array.ext'
    rw [List.toList_toArray]
    refine List.ext_getElem? fun i => ?_
    rw [Array.getElem?_toList, List.getElem?_map]
    by_cases hi : i < es.size
    · obtain ⟨kv, hkv⟩ : ∃ kv, vs[i]? = some kv := ⟨vs[i], List.getElem?_eq_getElem (by omega)⟩
      obtain ⟨k, v⟩ := kv
      rw [hkv]
      have hi2 : i < acc.size := by rw [hacc.1]; exact hi
      obtain ⟨hi', hv⟩ := hacc.2 i acc[i] (Array.getElem?_eq_getElem hi2)
      rw [Array.getElem?_eq_getElem hi2, hv, (es2 i hi k v hkv).2]
      rfl
    · rw [Array.getElem?_eq_none (by rw [hacc.1]; omega), List.getElem?_eq_none (by omega)]
      rfl
  subst eacc
  have I3 : Inv X pins σ (upd H1 h'.objs.size (.tup (kvs.map (·.2)))) { s1 with heap := h'.push { cls := .type "tuple", data := .seq (vs.map (·.2)).toArray }, toks := tk } :=
    I2.laid (t' := tk) (fun b o e => Heap.get?_push_of_some _ e) (Nat.le_refl _) (show ObjOk X.prog X.w _ _ _ (.tup (kvs.map (·.2))) from ⟨by rw [List.length_map]; exact sz, vs.map (·.2), kv_vals rel, IsTup.new _ _⟩)
  exact ⟨.ref h'.objs.size, _, I3, rfl, q _ (I2.hok.fresh (Nat.le_refl _))⟩
end
def pTVals : U → Option U
  | .dct us => some (.tup (us.map (·.2)))
  | _ => none
section
variable {K : PySem.W.Frag} {D : String → Addr} {W : WX} {O : List Nat} {sl : Option Nat} {td : TE} {fd : EF}
theorem RepKV.vals {M : Hp} : ∀ {vs : List (Key × V)} {us : List (U × U)}, RepKV K D M vs us → RepAll K D M (vs.map (·.2)) (us.map (·.2))
  | _, _, .nil => .nil
  | _, _, .cons _ h1 h2 => .cons h1 (RepKV.vals h2)
theorem eok_tvals (hd : EOK K D W O sl Sn td fd) : EOK K D W O sl Cl (tTVals td) (My.e1 pTVals fd) := fun A S H σ ρ s Q c q =>
  hd A S H σ ρ s _ c (q.bind fun x s1 v H1 e1 h1 r1 q1 => by
    obtain ⟨z, hz, q3⟩ := q1.opt h1
    unfold pTVals at hz
    split at hz
    · rename_i us
      cases hz
      obtain ⟨a, vs, rfl, hp, hr⟩ := Sn.dct r1
      exact ⟨a, vs, rfl, .inl hp, fun l nl => q3 _ _ (Same.new nl) (Rep.newT hr.vals nl (c.ext e1 h1).dom)⟩
    · cases hz)
end
end My

set_option linter.all false
set_option maxRecDepth 100000
namespace My
open PySem PySem.Spec PyProof.Rows L2
open C8 (pe_gc)
/-! ### what is never gone through: no reading, no duty -/
def sStk : SF := fun _ _ => .stuck
def eStk : EF := fun _ _ => .stuck
section
variable {X : Cx} {K : PySem.W.Frag} {D : String → Addr} {W : WX} {O O' OL : List Nat} {sl : Option Nat} {q : List Addr → List Addr → Hp → V → U → Prop}
theorem pss_stk {ss : List Stmt} : PSs X ss (fun _ _ _ => False) := ⟨fun _ _ _ _ _ _ h => h.elim⟩
theorem ps_stk {st : Stmt} : PS X st (fun _ _ _ => False) := ⟨fun _ _ _ _ _ _ h => h.elim⟩
theorem sok_stk : SOK K D W O O' OL sl (fun _ _ _ => False) sStk := fun _ _ _ _ _ _ _ _ _ h => h
theorem pe_stk {e : Expr} : PE X e (fun _ _ _ => False) := ⟨fun _ _ _ _ _ _ h => h.elim⟩
end
/-! ### xs == [], whatever stands in xs -/
section
variable {X : Cx} {K : PySem.W.Frag} {D : String → Addr}
def rEqL (K : PySem.W.Frag) : R2 := fun x y H Q => rEqD K x y H Q ∨ ∃ (a b : Addr) (xs : List V), x = .ref a ∧ y = .ref b ∧ SqL K H a xs ∧ SqL K H b [] ∧ Q (.bl xs.isEmpty) H
theorem op_eqL (hu : X.A.units + 64 < cLine) : OpR X (compareOp .Eq) (rEqL X.K) := by
  intro pins s σ H x y v u Q I rx ry h
  rcases h with h | ⟨a, b, xs, rfl, rfl, h1, h2, q⟩
  · exact op_eqD hu pins s σ H x y v u Q I rx ry h
  · cases rx
    cases ry
    obtain ⟨its, r, l1, _⟩ := I.list h1
    obtain ⟨its2, r2, l2, _⟩ := I.list h2
    cases r2
    cases xs with
    | nil =>
      cases r
      exact SeqAt.RcAt.lists (e := fun _ => true) l1.isList l2.isList rfl (by omega) (fun j h1 _ => absurd h1 (by simp)) X.prog X.w _ _ ⟨.bl _, H, I, rfl, q⟩
    | cons z zs =>
      have hl := r.length
      exact SeqAt.RcAt.lists_lengths l1.isList l2.isList (by rw [List.size_toArray, ← hl]; rfl) (by omega) X.prog X.w _ _ ⟨.bl _, H, I, rfl, q⟩
theorem op_eqLK (hu : X.A.units + 64 < cLine) (h : X.K = K := by rfl) : OpR X (compareOp .Eq) (rEqL K) := by subst h; exact op_eqL hu
def pEqL (a b : U) : Option U := match a, b with
  | .lst us, .lst [] => some (.bl us.isEmpty)
  | _, _ => pEq a b
theorem ok_eqL : OpOK K D (rEqL K) pEqL := fun A S H x y a b c Q d ha hb e q => by
  unfold pEqL at e
  split at e
  · cases e
    obtain ⟨p, vs, rfl, hp, hv⟩ := ha.lst
    obtain ⟨p2, vs2, rfl, hp2, hv2⟩ := hb.lst
    cases hv2
    rename_i us
    refine .inr ⟨p, p2, vs, rfl, rfl, .of hp, .of hp2, ?_⟩
    have : vs.isEmpty = us.isEmpty := by
      have := hv.length
      cases vs <;> cases us <;> first | rfl | cases this
    rw [this]
    exact q _ _ (Same.refl _) (.bl _)
  · exact .inl (ok_eq A S H x y _ _ c Q d ha hb e q)
end
end My

set_option linter.all false
set_option maxRecDepth 100000
set_option maxHeartbeats 4000000
namespace My
open PySem PySem.Spec PyProof.Rows L2
def sumTo : Nat → (Nat → Int) → Int
  | 0, _ => 0
  | n + 1, f => sumTo n f + f n
/-! ### reckoning by the plain reading -/
def Bn (k : Nat) (x : Int) : Prop := x.natAbs < 2 ^ k
theorem Bn.mono {k l : Nat} {x : Int} (h : Bn k x) (e : k ≤ l) : Bn l x := Nat.lt_of_lt_of_le h (Nat.pow_le_pow_right (by decide) e)
theorem Bn.mul {k l : Nat} {x y : Int} (h : Bn k x) (g : Bn l y) : Bn (k + l) (x * y) := wide_lt h g
theorem Bn.add {k l : Nat} {x y : Int} (h : Bn k x) (g : Bn l y) : Bn (k + l + 1) (x + y) := by
  unfold Bn at *
  have h1 : x.natAbs < 2 ^ (k + l) := Nat.lt_of_lt_of_le h (Nat.pow_le_pow_right (by decide) (by omega))
  have h2 : y.natAbs < 2 ^ (k + l) := Nat.lt_of_lt_of_le g (Nat.pow_le_pow_right (by decide) (by omega))
  rw [Nat.pow_succ]
  have := Int.natAbs_add_le x y
  omega
theorem Bn.neg {k : Nat} {x : Int} (h : Bn k x) : Bn k (-x) := by
  unfold Bn
  rw [Int.natAbs_neg]
  exact h
theorem Bn.sub {k l : Nat} {x y : Int} (h : Bn k x) (g : Bn l y) : Bn (k + l + 1) (x - y) := by
  rw [Int.sub_eq_add_neg]
  exact h.add g.neg
theorem Bn.div {k : Nat} {x y : Int} (h : Bn k x) : Bn k (x / y) := Nat.lt_of_le_of_lt (Int.natAbs_ediv_le_natAbs _ _) h
theorem Bn.mod {k : Nat} {x y : Int} (h : Bn k y) (hy : 0 < y) : Bn k (x % y) := by
  unfold Bn at *
  have h1 := Int.emod_nonneg x (show y ≠ 0 by omega)
  have h2 := Int.emod_lt_of_pos x hy
  omega
theorem Bn.le {k : Nat} {x y : Int} (h0 : 0 ≤ x) (h1 : x ≤ y) (h : Bn k y) : Bn k x := by
  unfold Bn at *
  omega
theorem Bn.of {k : Nat} {x : Int} (h0 : 0 ≤ x) (h1 : x < 2 ^ k) : Bn k x := by
  unfold Bn
  have h2 : ((x.natAbs : Nat) : Int) = x := by omega
  have h3 : ((2 ^ k : Nat) : Int) = (2 : Int) ^ k := by simp
  omega
theorem Bn.lit {x : Int} (h : Nat.ble (x.natAbs + 1) 1606938044258990275541962092341162602522202993782792835301376 = true) : Bn 200 x := Nat.lt_of_lt_of_le (Nat.le_of_ble_eq_true h) (by decide)
theorem bn0 : Bn 1 0 := by unfold Bn; decide
theorem bn1 : Bn 1 1 := by unfold Bn; decide
theorem bn2 : Bn 2 2 := by unfold Bn; decide
theorem bn3 : Bn 2 3 := by unfold Bn; decide
theorem bn10 : Bn 4 10 := by unfold Bn; decide
theorem sm_bn {k : Nat} {x : Int} (h : Bn k x) (e : k ≤ 20000) : smB x = true := decide_eq_true (h.mono e)
theorem bd_bn {k : Nat} {x : Int} (h : Bn k x) (e : k ≤ 9000) : bdB x = true := decide_eq_true (h.mono e)
theorem pMul_int {i j : Int} (h1 : smB i = true) (h2 : smB j = true) : pMul (.int i) (.int j) = some (.int (i * j)) := by
  show (if smB i && smB j then some (U.int (i * j)) else none) = _
  rw [h1, h2]
  rfl
theorem pDiv_int {i j : Int} (h1 : 0 < j) (h2 : bdB j = true) : pDiv (.int i) (.int j) = some (.int (i / j)) := by
  show (if decide (0 < j) && bdB j then some (U.int (i / j)) else none) = _
  rw [h2, decide_eq_true h1]
  rfl
theorem pMod_int {i j : Int} (h1 : 0 < j) : pMod (.int i) (.int j) = some (.int (i % j)) := by
  show (if decide (0 < j) then some (U.int (i % j)) else none) = _
  rw [decide_eq_true h1]
  rfl
theorem pAdd_int {i j : Int} : pAdd (.int i) (.int j) = some (.int (i + j)) := rfl
theorem pAdd'_int {i j : Int} : pAdd' (.int i) (.int j) = some (.int (i + j)) := rfl
theorem pSub_int {i j : Int} : pSub (.int i) (.int j) = some (.int (i - j)) := rfl
theorem pLt_int {i j : Int} : pLt (.int i) (.int j) = some (.bl (decide (i < j))) := rfl
theorem pLe_int {i j : Int} : pLe (.int i) (.int j) = some (.bl (decide (i ≤ j))) := rfl
theorem pGt_int {i j : Int} : pGt (.int i) (.int j) = some (.bl (decide (j < i))) := rfl
theorem pGe_int {i j : Int} : pGe (.int i) (.int j) = some (.bl (decide (j ≤ i))) := rfl
theorem pNeg_int {i : Int} : pNeg (.int i) = some (.int (-i)) := rfl
theorem pEq_int {i j : Int} : pEq (.int i) (.int j) = some (.bl (decide (i = j))) := by
  show some (U.bl (i == j)) = _
  rw [Bool.beq_eq_decide_eq]
theorem pNe_int {i j : Int} : pNe (.int i) (.int j) = some (.bl (!decide (i = j))) := by
  show some (U.bl (!(i == j))) = _
  rw [Bool.beq_eq_decide_eq]
section
variable {ρ ρ1 ρ2 : Rho} {s s1 s2 s3 : Sst} {u x y z : U} {a b c : EF} {as : AF} {us : List U} {t t' : TF} {k : Bool}
theorem ev_c : eC u ρ s = .ok u s := rfl
theorem ev_v {i : Nat} (h : ρ[i]? = some (some u)) : eV i ρ s = .ok u s := by unfold eV; rw [h]
theorem ev_1 {f : U → Option U} (h : a ρ s = .ok x s1) (e : f x = some z) : My.e1 f a ρ s = .ok z s1 := by unfold My.e1; rw [h]; show opt (f x) s1 = _; rw [e]; rfl
theorem ev_2 {f : U → U → Option U} (h : a ρ s = .ok x s1) (g : b ρ s1 = .ok y s2) (e : f x y = some z) : e2 f a b ρ s = .ok z s2 := by
  unfold e2; rw [h]; show (b ρ s1).bind _ = _; rw [g]; show opt (f x y) s2 = _; rw [e]; rfl
theorem ev_n {f : List U → Option U} (h : as ρ s = .ok us s1) (e : f us = some z) : eN f as ρ s = .ok z s1 := by unfold eN; rw [h]; show opt (f us) s1 = _; rw [e]; rfl
theorem av_nil : aNil ρ s = .ok [] s := rfl
theorem av_cons (h : a ρ s = .ok x s1) (g : as ρ s1 = .ok us s2) : aCons a as ρ s = .ok (x :: us) s2 := by unfold aCons; rw [h]; show (as ρ s1).bind _ = _; rw [g]; rfl
theorem ev_call {n : Nat} {F : List U → R0} (h : as ρ s = .ok us s1) (hn : us.length = n) (e : F us = .ok u) : eCall n F as ρ s = .ok u s1 := by
  unfold eCall; rw [h]; show (if us.length = n then (F us).lift s1 else .stuck) = _; rw [if_pos hn, e]; rfl
theorem ev_callE {n : Nat} {F : List U → R0} {d : String} (h : as ρ s = .ok us s1) (hn : us.length = n) (e : F us = .err d) : eCall n F as ρ s = .err d s1 := by
  unfold eCall; rw [h]; show (if us.length = n then (F us).lift s1 else .stuck) = _; rw [if_pos hn, e]; rfl
theorem ev_callS {n : Nat} {F : Sst → List U → R U} (h : as ρ s = .ok us s1) (hn : us.length = n) (e : F s1 us = .ok u s2) : eCallS n F as ρ s = .ok u s2 := by
  unfold eCallS; rw [h]; show (if us.length = n then F s1 us else .stuck) = _; rw [if_pos hn, e]
theorem ev_andT (h : a ρ s = .ok (.bl true) s1) (g : b ρ s1 = .ok u s2) : eAnd a b ρ s = .ok u s2 := by unfold eAnd; rw [h]; exact g
theorem ev_andF (h : a ρ s = .ok (.bl false) s1) : eAnd a b ρ s = .ok (.bl false) s1 := by unfold eAnd; rw [h]; rfl
theorem ev_and (h : a ρ s = .ok (.bl k) s1) (g : k = true → b ρ s1 = .ok (.bl k') s1) : eAnd a b ρ s = .ok (.bl (k && k')) s1 := by
  cases k with
  | true => rw [Bool.true_and]; exact ev_andT h (g rfl)
  | false => exact ev_andF h
theorem ev_or (h : a ρ s = .ok (.bl k) s1) (g : k = false → b ρ s1 = .ok (.bl k') s1) : eOr a b ρ s = .ok (.bl (k || k')) s1 := by
  cases k with
  | true => unfold eOr; rw [h]; rfl
  | false => unfold eOr; rw [h]; exact g rfl
theorem ev_not (h : a ρ s = .ok (.bl k) s1) : eNot a ρ s = .ok (.bl (!k)) s1 := by unfold eNot; rw [h]; rfl
theorem ev_chain {f f' : U → U → Option U} (h : a ρ s = .ok x s1) (g : b ρ s1 = .ok y s2) (e : f x y = some (.bl k)) (g' : k = true → ∃ z, c ρ s2 = .ok z s2 ∧ f' y z = some (.bl k')) : eChain f f' a b c ρ s = .ok (.bl (k && k')) s2 := by
  unfold eChain; rw [h]; show (b ρ s1).bind _ = _; rw [g]; show (opt (f x y) s2).bind _ = _; rw [e]
  cases k with
  | true =>
    obtain ⟨z, h1, h2⟩ := g' rfl
    show (c ρ s2).bind _ = _
    rw [h1]
    show opt (f' y z) s2 = _
    rw [h2]
    rfl
  | false => rfl
theorem tv_v (h : a ρ s = .ok (.bl k) s1) : tV a ρ s = .ok k s1 := by unfold tV; rw [h]; rfl
theorem tv_t (h : a ρ s = .ok u s1) (e : truU u = some k) : tT a ρ s = .ok k s1 := by unfold tT; rw [h]; show opt (truU u) s1 = _; rw [e]; rfl
theorem tv_n (h : t ρ s = .ok k s1) : tN t ρ s = .ok (!k) s1 := by unfold tN; rw [h]; rfl
theorem tv_and (h : t ρ s = .ok k s1) (g : k = true → t' ρ s1 = .ok k' s1) : tA t t' ρ s = .ok (k && k') s1 := by
  unfold tA; rw [h]
  cases k with
  | true => exact g rfl
  | false => rfl
theorem tv_or (h : t ρ s = .ok k s1) (g : k = false → t' ρ s1 = .ok k' s1) : tO t t' ρ s = .ok (k || k') s1 := by
  unfold tO; rw [h]
  cases k with
  | true => rfl
  | false => exact g rfl
theorem tv_y : tY ρ s = .ok true s := rfl
/-! statements -/
variable {A B : SF} {r : RS} {g : PF}
theorem sv_seq (h : A ρ s = .nx ρ1 s1) (e : B ρ1 s1 = r) : sSeq A B ρ s = r := by unfold sSeq; rw [h]; exact e
theorem sv_seqR (h : A ρ s = .rt u s1) : sSeq A B ρ s = .rt u s1 := by unfold sSeq; rw [h]
theorem sv_seqE {d : String} (h : A ρ s = .er d ρ1 s1) : sSeq A B ρ s = .er d ρ1 s1 := by unfold sSeq; rw [h]
theorem sv_asg (h : a ρ s = .ok u s1) (e : g u ρ = some ρ1) : sAsg g a ρ s = .nx ρ1 s1 := by unfold sAsg; rw [h]; show (match g u ρ with | some ρ => RS.nx ρ s1 | none => .stuck) = _; rw [e]
theorem sv_set {i : Nat} (h : a ρ s = .ok u s1) : sAsg (gN i) a ρ s = .nx (ρ.set i (some u)) s1 := sv_asg h rfl
theorem sv_par {is : List Nat} (h : as ρ s = .ok us s1) (hn : us.length = is.length) (e : (is.zip us).foldl (fun ρ p => ρ.set p.1 (some p.2)) ρ = ρ1) : sPar is as ρ s = .nx ρ1 s1 := by
  unfold sPar; rw [h]; show (if us.length = is.length then RS.nx _ s1 else .stuck) = _; rw [if_pos hn, e]
theorem sv_par2 {i j : Nat} {w : U} (h : as ρ s = .ok [u, w] s1) : sPar [i, j] as ρ s = .nx ((ρ.set i (some u)).set j (some w)) s1 := sv_par h rfl rfl
theorem sv_par3 {i j l : Nat} {w v : U} (h : as ρ s = .ok [u, w, v] s1) : sPar [i, j, l] as ρ s = .nx (((ρ.set i (some u)).set j (some w)).set l (some v)) s1 := sv_par h rfl rfl
theorem sv_ret (h : a ρ s = .ok u s1) : sRet a ρ s = .rt u s1 := by unfold sRet; rw [h]; rfl
theorem sv_drop (h : a ρ s = .ok u s1) : sDrop a ρ s = .nx ρ s1 := by unfold sDrop; rw [h]; rfl
theorem sv_dropE {d : String} (h : a ρ s = .err d s1) : sDrop a ρ s = .er d ρ s1 := by unfold sDrop; rw [h]; rfl
theorem sv_if (h : t ρ s = .ok k s1) (h1 : k = true → A ρ s1 = r) (h2 : k = false → B ρ s1 = r) : sIf t A B ρ s = r := by
  unfold sIf; rw [h]
  cases k with
  | true => exact h1 rfl
  | false => exact h2 rfl
theorem sv_ifT (h : t ρ s = .ok true s1) (h1 : A ρ s1 = r) : sIf t A B ρ s = r := by unfold sIf; rw [h]; exact h1
theorem sv_ifF (h : t ρ s = .ok false s1) (h1 : B ρ s1 = r) : sIf t A B ρ s = r := by unfold sIf; rw [h]; exact h1
theorem sv_nil : sNil ρ s = .nx ρ s := rfl
theorem sv_raise {d : String} (h : a ρ s = .ok u s1) : sRaise d a ρ s = .er d ρ s1 := by unfold sRaise; rw [h]; rfl
theorem sv_app {i : Nat} (e : ρ[i]? = some (some (.lst us))) (h : a ρ s = .ok u s1) (hl : lineB (us.length + 1) = true) : sApp i a ρ s = .nx (ρ.set i (some (.lst (us ++ [u])))) s1 := by
  unfold sApp; rw [e]; show ((a ρ s).stm ρ _) = _; rw [h]; show (if lineB (us.length + 1) = true then RS.nx _ s1 else .stuck) = _; rw [if_pos hl]
theorem sv_for (h : as ρ s = .ok us s1) (e : loopF g A us ρ s1 = r) : sFor as g A ρ s = r := by unfold sFor; rw [h]; exact e
theorem iv_seq (h : a ρ s = .ok u s1) (e : u.seq? = some us) : iSeq a ρ s = .ok us s1 := by unfold iSeq; rw [h]; show opt u.seq? s1 = _; rw [e]; rfl
theorem iv_rng {p : List U → Option (List U)} {ws : List U} (h : as ρ s = .ok us s1) (e : p us = some ws) : iRng p as ρ s = .ok ws s1 := by unfold iRng; rw [h]; show opt (p us) s1 = _; rw [e]; rfl
theorem iv_rev (h : a ρ s = .ok (.lst us) s1) : My.iRev a ρ s = .ok us.reverse s1 := by unfold My.iRev; rw [h]; rfl
theorem lv_nil : loopF g A [] ρ s = .nx ρ s := rfl
theorem lv_cons (e : g u ρ = some ρ1) (h : A ρ1 s = .nx ρ2 s1) (k : loopF g A us ρ2 s1 = r) : loopF g A (u :: us) ρ s = r := by unfold loopF; rw [e]; show (match A ρ1 s with | .nx ρ s => _ | .ct ρ s => _ | .bk ρ s => _ | o => o) = _; rw [h]; exact k
theorem lv_ret {v : U} (e : g u ρ = some ρ1) (h : A ρ1 s = .rt v s1) : loopF g A (u :: us) ρ s = .rt v s1 := by unfold loopF; rw [e]; show (match A ρ1 s with | .nx ρ s => _ | .ct ρ s => _ | .bk ρ s => _ | o => o) = _; rw [h]
theorem lv_er {d : String} (e : g u ρ = some ρ1) (h : A ρ1 s = .er d ρ2 s1) : loopF g A (u :: us) ρ s = .er d ρ2 s1 := by unfold loopF; rw [e]; show (match A ρ1 s with | .nx ρ s => _ | .ct ρ s => _ | .bk ρ s => _ | o => o) = _; rw [h]
theorem wv_stop {n : Nat} (h : t ρ s = .ok false s1) : loopW t A (n + 1) ρ s = .nx ρ s1 := by unfold loopW; rw [h]; rfl
theorem wv_go {n : Nat} (h : t ρ s = .ok true s1) (e : A ρ s1 = .nx ρ1 s2) (q : loopW t A n ρ1 s2 = r) : loopW t A (n + 1) ρ s = r := by unfold loopW; rw [h]; show (match A ρ s1 with | .nx ρ s => _ | .ct ρ s => _ | .bk ρ s => _ | o => o) = _; rw [e]; exact q
theorem fv_ret {n m : Nat} (hn : us.length = n) (h : A (startR us m) dSst = .rt u s1) : runF A n m us = .ok u := by unfold runF; rw [if_pos hn, h]
theorem fv_nx {n m : Nat} (hn : us.length = n) (h : A (startR us m) dSst = .nx ρ1 s1) : runF A n m us = .ok .non := by unfold runF; rw [if_pos hn, h]
theorem fv_er {n m : Nat} {d : String} (hn : us.length = n) (h : A (startR us m) dSst = .er d ρ1 s1) : runF A n m us = .err d := by unfold runF; rw [if_pos hn, h]
theorem gv_t {us : List U} {gs : List U → Rho → Option Rho} (h : gs us ρ = some ρ1) : gT gs (.tup us) ρ = some ρ1 := h
theorem gv_cons {gs : List U → Rho → Option Rho} (h : g u ρ = some ρ1) (h2 : gs us ρ1 = some ρ2) : gsCons g gs (u :: us) ρ = some ρ2 := by show (g u ρ).bind _ = _; rw [h]; exact h2
end
local macro_rules | `(tactic| walk_at "bn") => `(tactic| repeat (first | (with_reducible assumption) | (with_reducible apply Bn.mul) | (with_reducible apply Bn.add) | (with_reducible apply Bn.sub) | (with_reducible apply Bn.div) | (with_reducible apply Bn.mod) | (with_reducible apply bn2) | (with_reducible apply bn1) | (with_reducible apply bn3) | (with_reducible apply bn0) | (with_reducible apply bn10) | exact Bn.lit rfl))
local macro_rules | `(tactic| walk_at "sm") => `(tactic| first | (with_reducible assumption) | ((with_reducible apply sm_bn); (focus walk_at "bn"); decide) | ((with_reducible apply bd_bn); (focus walk_at "bn"); decide) | omega)
local macro_rules | `(tactic| walk_at "pp") => `(tactic| first | (with_reducible apply pAdd_int) | (with_reducible apply pSub_int) | (with_reducible apply pLt_int) | (with_reducible apply pLe_int) | (with_reducible apply pGt_int) | (with_reducible apply pGe_int) | (with_reducible apply pNeg_int) | (with_reducible apply pAdd'_int) | (with_reducible apply pEq_int) | (with_reducible apply pNe_int) | ((with_reducible apply pMul_int) <;> walk_at "sm") | ((with_reducible apply pDiv_int) <;> walk_at "sm") | ((with_reducible apply pMod_int) <;> walk_at "sm") | exact rfl)
local macro_rules | `(tactic| walk_at "ev") => `(tactic| first | (with_reducible apply ev_c) | ((with_reducible apply ev_v); exact rfl) | (with_reducible apply av_nil) | (with_reducible apply tv_y) | ((with_reducible apply ev_2); (focus walk_at "ev"); (focus walk_at "ev"); (focus walk_at "pp")) | ((with_reducible apply ev_n); (focus walk_at "ev"); (focus walk_at "pp")) | ((with_reducible apply av_cons); (focus walk_at "ev"); (focus walk_at "ev")) | ((with_reducible apply ev_1); (focus walk_at "ev"); (focus walk_at "pp")) | ((with_reducible apply tv_v); (focus walk_at "ev")) | ((with_reducible apply ev_not); (focus walk_at "ev")) | ((with_reducible apply tv_n); (focus walk_at "ev")) | ((with_reducible apply iv_seq); (focus walk_at "ev"); exact rfl) | ((with_reducible apply iv_rng); (focus walk_at "ev"); exact rfl) | ((with_reducible apply iv_rev); (focus walk_at "ev")))
local macro_rules | `(tactic| walk_at "sv") => `(tactic| first | ((with_reducible apply sv_set); (focus walk_at "ev")) | ((with_reducible apply sv_asg); (focus walk_at "ev"); exact rfl) | ((with_reducible apply sv_par2); (focus walk_at "ev")) | ((with_reducible apply sv_par3); (focus walk_at "ev")) | ((with_reducible apply sv_ret); (focus walk_at "ev")) | ((with_reducible apply sv_drop); (focus walk_at "ev")) | (with_reducible apply sv_nil))
local macro_rules | `(tactic| walk_at "ls") => `(tactic| try simp only [startR, List.map_cons, List.map_nil, List.replicate, List.cons_append, List.nil_append, List.set_cons_zero, List.set_cons_succ])
local macro_rules | `(tactic| walk_at "go") => `(tactic| repeat ((with_reducible apply sv_seq); (focus walk_at "sv"); walk_at "ls"))
/-! ### loops, comprehensions and draws of the plain reading -/
theorem loop_inv {g : PF} {A : SF} {us : List U} (I : Nat → Rho → Sst → Prop) (h : ∀ i u ρ s, us[i]? = some u → I i ρ s → ∃ ρ1 ρ2 s2, g u ρ = some ρ1 ∧ A ρ1 s = .nx ρ2 s2 ∧ I (i + 1) ρ2 s2) {ρ : Rho} {s : Sst} (h0 : I 0 ρ s) : ∃ ρ' s', loopF g A us ρ s = .nx ρ' s' ∧ I us.length ρ' s' := by
  have key : ∀ (n i : Nat) (ρ : Rho) (s : Sst), us.length - i = n → i ≤ us.length → I i ρ s → ∃ ρ' s', loopF g A (us.drop i) ρ s = .nx ρ' s' ∧ I us.length ρ' s' := by
    intro n
    induction n with
    | zero =>
      intro i ρ s e hi hI
      have : i = us.length := by omega
      subst this
      exact ⟨ρ, s, by rw [List.drop_length]; rfl, hI⟩
    | succ n ih =>
      intro i ρ s e hi hI
      have hlt : i < us.length := by omega
      obtain ⟨ρ1, ρ2, s2, e1, e2, e3⟩ := h i us[i] ρ s (List.getElem?_eq_getElem hlt) hI
      obtain ⟨ρ', s', e4, e5⟩ := ih (i + 1) ρ2 s2 (by omega) hlt e3
      exact ⟨ρ', s', by rw [List.drop_eq_getElem_cons hlt]; exact lv_cons e1 e2 e4, e5⟩
  have := key us.length 0 ρ s rfl (Nat.zero_le _) h0
  rwa [List.drop_zero] at this
theorem lc_eval {g : PF} {c : TF} {a : EF} {ρ : Rho} {s : Sst} (p : U → Bool) (f : U → U) : ∀ (us : List U) (acc : List U), (∀ u ∈ us, ∃ ρ1, g u ρ = some ρ1 ∧ c ρ1 s = .ok (p u) s ∧ (p u = true → a ρ1 s = .ok (f u) s)) → acc.length + us.length ≤ 16777216 →
    lcF g c a us ρ s acc = .ok (acc ++ (us.filter p).map f) s
  | [], acc, _, _ => by simp [lcF]
  | u :: us, acc, h, hl => by
    obtain ⟨ρ1, e1, e2, e3⟩ := h u List.mem_cons_self
    rw [List.length_cons] at hl
    unfold lcF
    rw [e1]
    simp only
    rw [e2]
    cases q : p u with
    | false =>
      show lcF g c a us ρ s acc = _
      rw [lc_eval p f us acc (fun v hv => h v (List.mem_cons_of_mem _ hv)) (by omega), List.filter_cons, if_neg (by rw [q]; decide)]
    | true =>
      show (a ρ1 s).bind _ = _
      rw [e3 q]
      show (if lineB (acc.length + 1) = true then lcF g c a us ρ s (acc ++ [f u]) else .stuck) = _
      rw [if_pos (show lineB (acc.length + 1) = true from decide_eq_true (by omega)), lc_eval p f us (acc ++ [f u]) (fun v hv => h v (List.mem_cons_of_mem _ hv)) (by rw [List.length_append, List.length_singleton]; omega), List.filter_cons, if_pos q, List.map_cons, List.append_assoc]
      rfl
theorem ev_lc {vs : List Nat} {i : AF} {g : PF} {c : TF} {a : EF} {ρ : Rho} {s s1 : Sst} {us : List U} (p : U → Bool) (f : U → U) (hi : i ρ s = .ok us s1) (h : ∀ u ∈ us, ∃ ρ1, g u (wipeR ρ vs) = some ρ1 ∧ c ρ1 s1 = .ok (p u) s1 ∧ (p u = true → a ρ1 s1 = .ok (f u) s1)) (hl : us.length ≤ 16777216) :
    eLc vs i g c a ρ s = .ok (.lst ((us.filter p).map f)) s1 := by
  unfold eLc
  rw [hi]
  show ((lcF g c a us (wipeR ρ vs) s1 []).noerr).bind _ = _
  rw [lc_eval p f us [] h (by simpa using hl), List.nil_append]
  rfl
/-- all items -/
theorem ev_lcA {vs : List Nat} {i : AF} {g : PF} {a : EF} {ρ : Rho} {s s1 : Sst} {us : List U} (f : U → U) (hi : i ρ s = .ok us s1) (h : ∀ u ∈ us, ∃ ρ1, g u (wipeR ρ vs) = some ρ1 ∧ a ρ1 s1 = .ok (f u) s1) (hl : us.length ≤ 16777216) :
    eLc vs i g tY a ρ s = .ok (.lst (us.map f)) s1 := by
  have k := ev_lc (c := tY) (fun _ => true) f hi (fun u hu => by
    obtain ⟨ρ1, e1, e2⟩ := h u hu
    exact ⟨ρ1, e1, rfl, fun _ => e2⟩) hl
  rwa [List.filter_eq_self.mpr (fun _ _ => rfl)] at k
theorem rngU0 {n : Nat} : rngU 0 n 1 = (List.range n).map fun k : Nat => U.int (k : Int) := by
  unfold rngU
  exact List.map_congr_left fun k _ => by rw [Int.zero_add, Int.mul_one]
theorem allInt_map {α : Type} (f : α → Int) : ∀ l : List α, allInt (l.map fun k => U.int (f k)) = some (l.map f)
  | [] => rfl
  | x :: l => by
    show (allInt (l.map fun k => U.int (f k))).map _ = _
    rw [allInt_map f l]
    rfl
theorem sum_range (f : Nat → Int) : ∀ n, ((List.range n).map f).sum = sumTo n f
  | 0 => rfl
  | n + 1 => by rw [List.range_succ, List.map_append, List.sum_append, sum_range f n]; simp [sumTo]
theorem pSum_range (f : Nat → Int) (n : Nat) : pSum [.lst ((List.range n).map fun k => U.int (f k))] = some (.int (sumTo n f)) := by
  show (allInt ((List.range n).map fun k => U.int (f k))).map _ = _
  rw [allInt_map, Option.map_some, sum_range]
/-- the source after some draws -/
def Wf (t : Int) (s : Sst) : Prop := 0 < s.cells.length ∧ 0 ≤ s.turn ∧ s.turn ≤ t
theorem Wf.mono {t u : Int} {s : Sst} (h : Wf t s) (e : t ≤ u) : Wf u s := ⟨h.1, h.2.1, by have := h.2.2; omega⟩
theorem NewS.wf {s : Sst} (h : NewS s) : Wf 0 s := ⟨h.2.1, by rw [h.1]; decide, by rw [h.1]; decide⟩
theorem draw_ok {t n : Int} {s : Sst} (h : Wf t s) (h0 : 0 < n) (hn : Bn 4000 n) (ht : t < 1152921504606846976) : ∃ r s', F__law_draw s [.int n] = .ok (.int r) s' ∧ 0 ≤ r ∧ r < n ∧ Wf (t + 1) s' := by
  have hc : drawC s n := ⟨h0, hn, h.1, h.2.1, by have := h.2.2; omega⟩
  have hp := h.1
  have hx : (s.turn % (s.cells.length : Int)).toNat < s.cells.length := by
    have h1 := Int.emod_nonneg s.turn (show (s.cells.length : Int) ≠ 0 by omega)
    have h2 := Int.emod_lt_of_pos s.turn (show (0 : Int) < (s.cells.length : Int) by omega)
    omega
  have e : F__law_draw s [.int n] = drawF s n := by
    show (if drawC s n then drawF s n else .stuck) = _
    rw [if_pos hc]
  rw [e]
  unfold drawF
  rw [List.getElem?_eq_getElem hx]
  simp only
  split
  · exact ⟨_, _, rfl, Int.emod_nonneg _ (by omega), Int.emod_lt_of_pos _ h0, by show 0 < (List.set _ _ _).length; rw [List.length_set]; exact hp, by show 0 ≤ s.turn + 1; have := h.2.1; omega, by show s.turn + 1 ≤ t + 1; have := h.2.2; omega⟩
  · exact ⟨_, _, rfl, Int.emod_nonneg _ (by omega), Int.emod_lt_of_pos _ h0, hp, by show 0 ≤ s.turn + 1; have := h.2.1; omega, by show s.turn + 1 ≤ t + 1; have := h.2.2; omega⟩
/-! ### further lemmas of the plain reading, for all laws -/
theorem ev_lcM {vs : List Nat} {i : AF} {g : PF} {a : EF} {ρ : Rho} {s s1 : Sst} {n : Nat} (q f : Nat → U) (hi : i ρ s = .ok ((List.range n).map q) s1) (h : ∀ k < n, ∃ ρ1, g (q k) (wipeR ρ vs) = some ρ1 ∧ a ρ1 s1 = .ok (f k) s1) (hl : n ≤ 16777216) :
    eLc vs i g tY a ρ s = .ok (.lst ((List.range n).map f)) s1 := by
  have key : ∀ (ks : List Nat) (acc : List U), (∀ k ∈ ks, k < n) → acc.length + ks.length ≤ 16777216 → lcF g tY a (ks.map q) (wipeR ρ vs) s1 acc = .ok (acc ++ ks.map f) s1 := by
    intro ks
    induction ks with
    | nil => intro acc _ _; simp [lcF]
    | cons k ks ih =>
      intro acc hk hl
      obtain ⟨ρ1, e1, e2⟩ := h k (hk k List.mem_cons_self)
      rw [List.length_cons] at hl
      rw [List.map_cons, List.map_cons]
      unfold lcF
      rw [e1]
      show (a ρ1 s1).bind _ = _
      rw [e2]
      show (if lineB (acc.length + 1) = true then lcF g tY a (ks.map q) (wipeR ρ vs) s1 (acc ++ [f k]) else .stuck) = _
      rw [if_pos (show lineB (acc.length + 1) = true from decide_eq_true (by omega)), ih (acc ++ [f k]) (fun v hv => hk v (List.mem_cons_of_mem _ hv)) (by rw [List.length_append, List.length_singleton]; omega), List.append_assoc]
      rfl
  unfold eLc
  rw [hi]
  show ((lcF g tY a ((List.range n).map q) (wipeR ρ vs) s1 []).noerr).bind _ = _
  rw [key (List.range n) [] (fun k hk => List.mem_range.mp hk) (by rw [List.length_range]; simpa using hl), List.nil_append]
  rfl
theorem rng1_ok {ρ : Rho} {s s1 : Sst} {as : AF} {n : Nat} (h : as ρ s = .ok [.int n] s1) (hn : n < 4611686018427387904) : iRng pRng1 as ρ s = .ok ((List.range n).map fun k : Nat => U.int (k : Int)) s1 := by
  refine iv_rng h ?_
  show (if rngOk (n : Int) then some (rngU 0 (n : Int).toNat 1) else none) = _
  rw [if_pos (show rngOk (n : Int) = true from decide_eq_true ⟨by omega, by omega⟩), Int.toNat_natCast, rngU0]
theorem pIdx_range (f : Nat → U) {n k : Nat} (h : k < n) : pIdx (.lst ((List.range n).map f)) (.int (k : Int)) = some (f k) := by
  show atI ((List.range n).map f) (k : Int) = _
  show ((ixN ((List.range n).map f).length (k : Int)).bind fun j => ((List.range n).map f)[j]?) = _
  rw [List.length_map, List.length_range, ixN, if_pos (show (0 : Int) ≤ k by omega), if_pos (show (k : Int) < n by omega), Option.bind_some, Int.toNat_natCast, List.getElem?_map, List.getElem?_range h]
  rfl
theorem pIdx_two {x y j : Int} (h : j = 0 ∨ j = 1) : pIdx (.lst [.int x, .int y]) (.int j) = some (.int (if j = 0 then x else y)) := by
  rcases h with rfl | rfl <;> rfl
def isT : R0 → Bool
  | .ok (.bl true) => true
  | _ => false
theorem isT_eq {r : R0} (h : isT r = true) : r = .ok (.bl true) := by
  unfold isT at h
  split at h
  · rfl
  · cases h
theorem pNe_same {x y : Int} (h : x = y) : pNe (.int x) (.int y) = some (.bl false) := by rw [pNe_int, h, decide_eq_true rfl]; rfl
theorem pEq_same {x y : Int} (h : x = y) : pEq (.int x) (.int y) = some (.bl true) := by rw [pEq_int, h, decide_eq_true rfl]
theorem fS_ret {A : SF} {n m : Nat} {us : List U} {s s1 : Sst} {u : U} (hn : us.length = n) (h : A (none :: startR us m) s = .rt u s1) : runS A n m s us = .ok u s1 := by unfold runS; rw [if_pos hn, h]
def isI (x : Int) : R0 → Bool
  | .ok (.int y) => x == y
  | _ => false
theorem isI_eq {x : Int} {r : R0} (h : isI x r = true) : r = .ok (.int x) := by
  unfold isI at h
  split at h
  · rw [beq_iff_eq] at h; rw [h]
  · cases h
end My

set_option linter.all false
set_option maxRecDepth 100000
set_option maxHeartbeats 4000000
namespace My
open PySem PySem.Spec PyProof.Rows L2
/-! ### the plain reading, step by step, by the simplifier -/
def RS.sq (o : RS) (b : SF) : RS := match o with
  | .nx ρ s => b ρ s
  | o => o
def RS.sqF (o : RS) (b : SF) : RS := match o with
  | .nx ρ s => b ρ s
  | .er c ρ s => .er c ρ s
  | _ => .stuck
def RS.lp (o : RS) (g : PF) (b : SF) (us : List U) : RS := match o with
  | .nx ρ s => loopF g b us ρ s
  | .ct ρ s => loopF g b us ρ s
  | .bk ρ s => .nx ρ s
  | o => o
def RS.asg (o : Option Rho) (s : Sst) : RS := match o with
  | some ρ => .nx ρ s
  | none => .stuck
def RS.fin (o : RS) : R0 := match o with
  | .nx _ _ => .ok .non
  | .rt u _ => .ok u
  | .er c _ _ => .err c
  | _ => .stuck
def RS.finS (o : RS) : R U := match o with
  | .nx _ s => .ok .non s
  | .rt u s => .ok u s
  | .er c _ s => .err c s
  | _ => .stuck
def apC (n : Nat) (F : List U → R0) (xs : List U) (s : Sst) : R U := if xs.length = n then (F xs).lift s else .stuck
def apS (n : Nat) (F : Sst → List U → R U) (xs : List U) (s : Sst) : R U := if xs.length = n then F s xs else .stuck
def appK (o : Option (Option U)) (n : Nat) (a : EF) (ρ : Rho) (s : Sst) : RS := match o with
  | some (some (.lst us)) => (a ρ s).stm ρ fun x s => if lineB (us.length + 1) then .nx (ρ.set n (some (.lst (us ++ [x])))) s else .stuck
  | _ => .stuck
def putJ (us : List U) (n : Nat) (x j : U) (ρ : Rho) (s : Sst) : RS := match j with
  | .int j => match ixN us.length j with
    | some j => .nx (ρ.set n (some (.lst (us.set j x)))) s
    | none => .stuck
  | _ => .stuck
def putK (o : Option (Option U)) (n : Nat) (k : EF) (x : U) (ρ : Rho) (s : Sst) : RS := match o with
  | some (some (.lst us)) => (k ρ s).stm ρ fun j s => putJ us n x j ρ s
  | _ => .stuck
def tryK (kls : List String) (d : String) (e x : Nat) (o : RS) : RS := match o with
  | .er c ρ s => if kls.contains c then (if (decide (c = d) || decide (d = "MarkError")) = true then (if e < ρ.length then .nx (((ρ.set e none).set x (some (.exc c))).set e none) s else .stuck) else .er c ρ s) else .stuck
  | o => o
def R.noLst (r : R U) : R U := match r with
  | .ok u s => if noL u = true then .ok u s else .stuck
  | .err c s => .err c s
  | .stuck => .stuck
def apSV (n : Nat) (F : Sst → List U → R U) (xs : List U) (s : Sst) : R U := if xs.length = n then (F s xs).noLst else .stuck
def R0.noLst (r : R0) (s : Sst) : R U := match r with
  | .ok u => if noL u = true then .ok u s else .stuck
  | .err c => .err c s
  | .stuck => .stuck
def apV (n : Nat) (F : List U → R0) (xs : List U) (s : Sst) : R U := if xs.length = n then (F xs).noLst s else .stuck
def idxK (x : U) (b : EF) (ρ : Rho) (s : Sst) : R U := if isLst x = true then (b ρ s).bind fun y s => My.opt (pIndexU x y) s else .stuck
def cntK (x : U) (b : EF) (ρ : Rho) (s : Sst) : R U := if isLst x = true then (b ρ s).bind fun y s => My.opt (pCount x y) s else .stuck
section
variable {α β : Type} {ρ : Rho} {s : Sst} {u v w x y z : U} {us vs : List U} {a b c : EF} {as : AF} {t t' : TF} {A B : SF} {g : PF} {gs : List U → Rho → Option Rho} {i j : Int} {n : Nat} {k : Bool} {d : String} {o : Option U}
theorem z_bind {a : α} {f : α → Sst → R β} : R.bind (.ok a s) f = f a s := Eq.trans rfl rfl
theorem z_bindE {f : α → Sst → R β} : R.bind (.err d s) f = .err d s := Eq.trans rfl rfl
theorem z_opt {a : α} : opt (some a) s = .ok a s := Eq.trans rfl rfl
theorem z_lift : R0.lift (.ok u) s = .ok u s := Eq.trans rfl rfl
theorem z_liftE : R0.lift (.err d) s = .err d s := Eq.trans rfl rfl
theorem z_c : eC u ρ s = .ok u s := Eq.trans rfl rfl
theorem z_v0 : eV 0 (some u :: ρ) s = .ok u s := Eq.trans rfl rfl
theorem z_vS : eV (n + 1) (o :: ρ) s = eV n ρ s := by unfold eV; rw [List.getElem?_cons_succ]
theorem z_1 {f : U → Option U} : My.e1 f a ρ s = (a ρ s).bind fun x s => opt (f x) s := Eq.trans rfl rfl
theorem z_2 {f : U → U → Option U} : e2 f a b ρ s = (a ρ s).bind fun x s => (b ρ s).bind fun y s => opt (f x y) s := Eq.trans rfl rfl
theorem z_n {f : List U → Option U} : eN f as ρ s = (as ρ s).bind fun xs s => opt (f xs) s := Eq.trans rfl rfl
theorem z_nil : aNil ρ s = .ok [] s := Eq.trans rfl rfl
theorem z_cons : aCons a as ρ s = (a ρ s).bind fun x s => (as ρ s).bind fun xs s => .ok (x :: xs) s := Eq.trans rfl rfl
theorem z_call {F : List U → R0} : eCall n F as ρ s = (as ρ s).bind (apC n F) := Eq.trans rfl rfl
theorem z_callS {F : Sst → List U → R U} : eCallS n F as ρ s = (as ρ s).bind (apS n F) := Eq.trans rfl rfl
theorem z_ap0 {F : List U → R0} : apC 0 F [] s = (F []).lift s := Eq.trans rfl rfl
theorem z_ap1 {F : List U → R0} : apC 1 F [x] s = (F [x]).lift s := Eq.trans rfl rfl
theorem z_ap2 {F : List U → R0} : apC 2 F [x, y] s = (F [x, y]).lift s := Eq.trans rfl rfl
theorem z_ap3 {F : List U → R0} : apC 3 F [x, y, z] s = (F [x, y, z]).lift s := Eq.trans rfl rfl
theorem z_ap4 {F : List U → R0} : apC 4 F [x, y, z, w] s = (F [x, y, z, w]).lift s := Eq.trans rfl rfl
theorem z_ap5 {F : List U → R0} : apC 5 F [x, y, z, w, u] s = (F [x, y, z, w, u]).lift s := Eq.trans rfl rfl
theorem z_ap6 {F : List U → R0} : apC 6 F [x, y, z, w, u, v] s = (F [x, y, z, w, u, v]).lift s := Eq.trans rfl rfl
theorem z_as0 {F : Sst → List U → R U} : apS 0 F [] s = F s [] := Eq.trans rfl rfl
theorem z_as1 {F : Sst → List U → R U} : apS 1 F [x] s = F s [x] := Eq.trans rfl rfl
theorem z_as2 {F : Sst → List U → R U} : apS 2 F [x, y] s = F s [x, y] := Eq.trans rfl rfl
theorem z_as3 {F : Sst → List U → R U} : apS 3 F [x, y, z] s = F s [x, y, z] := Eq.trans rfl rfl
theorem z_as4 {F : Sst → List U → R U} : apS 4 F [x, y, z, w] s = F s [x, y, z, w] := Eq.trans rfl rfl
theorem z_as5 {F : Sst → List U → R U} : apS 5 F [x, y, z, w, u] s = F s [x, y, z, w, u] := Eq.trans rfl rfl
theorem z_not : eNot a ρ s = (a ρ s).bind fun x s => opt ((toB x).map fun b => .bl (!b)) s := Eq.trans rfl rfl
theorem z_and : eAnd a b ρ s = (a ρ s).bind fun x s => (opt (toB x) s).bind fun c s => if c = true then b ρ s else .ok (.bl false) s := Eq.trans rfl rfl
theorem z_or : eOr a b ρ s = (a ρ s).bind fun x s => (opt (toB x) s).bind fun c s => if c = true then .ok (.bl true) s else b ρ s := Eq.trans rfl rfl
theorem z_ife : eIf t a b ρ s = (t ρ s).bind fun x s => if x = true then a ρ s else b ρ s := Eq.trans rfl rfl
theorem z_chain {f f' : U → U → Option U} : eChain f f' a b c ρ s = (a ρ s).bind fun x s => (b ρ s).bind fun y s => (opt (f x y) s).bind fun z s => (opt (toB z) s).bind fun k s => if k = true then (c ρ s).bind fun w s => opt (f' y w) s else .ok (.bl false) s := Eq.trans rfl rfl
theorem z_iAnd {c : Prop} [Decidable c] : (if c then R.ok (U.bl k) s else R.ok (U.bl false) s) = R.ok (U.bl (decide c && k)) s := by by_cases h : c <;> simp [h]
theorem z_iOr {c : Prop} [Decidable c] : (if c then R.ok (U.bl true) s else R.ok (U.bl k) s) = R.ok (U.bl (decide c || k)) s := by by_cases h : c <;> simp [h]
theorem z_iAndB {c : Prop} [Decidable c] : (if c then R.ok k s else R.ok false s) = R.ok (decide c && k) s := by by_cases h : c <;> simp [h]
theorem z_iOrB {c : Prop} [Decidable c] : (if c then R.ok true s else R.ok k s) = R.ok (decide c || k) s := by by_cases h : c <;> simp [h]
theorem z_toB : toB (.bl k) = some k := Eq.trans rfl rfl
theorem z_tV : tV a ρ s = (a ρ s).bind fun x s => opt (toB x) s := Eq.trans rfl rfl
theorem z_tT : tT a ρ s = (a ρ s).bind fun x s => opt (truU x) s := Eq.trans rfl rfl
theorem z_tN : tN t ρ s = (t ρ s).bind fun x s => .ok (!x) s := Eq.trans rfl rfl
theorem z_tA : tA t t' ρ s = (t ρ s).bind fun x s => if x = true then t' ρ s else .ok false s := Eq.trans rfl rfl
theorem z_tO : tO t t' ρ s = (t ρ s).bind fun x s => if x = true then .ok true s else t' ρ s := Eq.trans rfl rfl
theorem z_tY : tY ρ s = .ok true s := Eq.trans rfl rfl
theorem z_trB : truU (.bl k) = some k := Eq.trans rfl rfl
theorem z_trI : truU (.int i) = some (i != 0) := Eq.trans rfl rfl
theorem z_trN : truU .non = some false := Eq.trans rfl rfl
theorem z_trL : truU (.lst us) = some (!us.isEmpty) := Eq.trans rfl rfl
theorem z_trT : truU (.tup us) = some (!us.isEmpty) := Eq.trans rfl rfl
theorem z_sl {l h : OF} : eSl a l h ρ s = (a ρ s).bind fun x s => (l ρ s).bind fun i s => (h ρ s).bind fun j s => opt (pSl i j x) s := Eq.trans rfl rfl
theorem z_oNo : oNo ρ s = .ok none s := Eq.trans rfl rfl
theorem z_oSo : oSo a ρ s = (a ρ s).bind fun x s => opt (toI x) s := Eq.trans rfl rfl
theorem z_toI : toI (.int i) = some (some i) := Eq.trans rfl rfl
theorem z_slL {l h : Option Int} : pSl l h (.lst us) = some (.lst (cutU us l h)) := Eq.trans rfl rfl
theorem z_slT {l h : Option Int} : pSl l h (.tup us) = some (.tup (cutU us l h)) := Eq.trans rfl rfl
/-! statements -/
theorem z_stm {a : α} {f : α → Sst → RS} : R.stm (.ok a s) ρ f = f a s := Eq.trans rfl rfl
theorem z_stmE {f : α → Sst → RS} : R.stm (.err d s) ρ f = .er d ρ s := Eq.trans rfl rfl
theorem z_skip : sNil ρ s = .nx ρ s := Eq.trans rfl rfl
theorem z_seq : sSeq A B ρ s = (A ρ s).sq B := Eq.trans rfl rfl
theorem sv_seqF {A B : SF} {ρ ρ1 : Rho} {s s1 : Sst} {r : RS} (h : A ρ s = .nx ρ1 s1) (e : B ρ1 s1 = r) : sSeqF A B ρ s = r := by unfold sSeqF; rw [h]; exact e
theorem z_seqF : sSeqF A B ρ s = (A ρ s).sqF B := Eq.trans rfl rfl
theorem z_sqFN : RS.sqF (.nx ρ s) B = B ρ s := Eq.trans rfl rfl
theorem z_sqFE : RS.sqF (.er d ρ s) B = .er d ρ s := Eq.trans rfl rfl
theorem z_sqN : RS.sq (.nx ρ s) B = B ρ s := Eq.trans rfl rfl
theorem z_sqR : RS.sq (.rt u s) B = .rt u s := Eq.trans rfl rfl
theorem z_sqE : RS.sq (.er d ρ s) B = .er d ρ s := Eq.trans rfl rfl
theorem z_sqB : RS.sq (.bk ρ s) B = .bk ρ s := Eq.trans rfl rfl
theorem z_sqC : RS.sq (.ct ρ s) B = .ct ρ s := Eq.trans rfl rfl
theorem z_gN : gN n u ρ = some (ρ.set n (some u)) := Eq.trans rfl rfl
theorem z_gT : gT gs (.tup us) ρ = gs us ρ := Eq.trans rfl rfl
theorem z_gL : gL gs (.lst us) ρ = gs us ρ := Eq.trans rfl rfl
theorem z_gsC : gsCons g gs (u :: us) ρ = (g u ρ).bind fun ρ => gs us ρ := Eq.trans rfl rfl
theorem z_gsN : gsNil [] ρ = some ρ := Eq.trans rfl rfl
theorem z_asg : sAsg g a ρ s = (a ρ s).stm ρ fun x s => RS.asg (g x ρ) s := Eq.trans rfl rfl
theorem z_asgS : RS.asg (some ρ) s = .nx ρ s := Eq.trans rfl rfl
theorem z_par2 {p q : Nat} : sPar [p, q] (aCons a (aCons b aNil)) ρ s = (a ρ s).stm ρ fun x s => (b ρ s).stm ρ fun y s => .nx ((ρ.set p (some x)).set q (some y)) s := by
  unfold sPar aCons aNil
  cases a ρ s with
  | ok x s => cases h : b ρ s with
    | ok y s => simp [R.bind, R.stm, h]
    | _ => simp [R.bind, R.stm, h]
  | _ => rfl
theorem z_par3 {p q r : Nat} : sPar [p, q, r] (aCons a (aCons b (aCons c aNil))) ρ s = (a ρ s).stm ρ fun x s => (b ρ s).stm ρ fun y s => (c ρ s).stm ρ fun z s => .nx (((ρ.set p (some x)).set q (some y)).set r (some z)) s := by
  unfold sPar aCons aNil
  cases a ρ s with
  | ok x s => cases h : b ρ s with
    | ok y s => cases h' : c ρ s with
      | ok y s => simp [R.bind, R.stm, h, h']
      | _ => simp [R.bind, R.stm, h, h']
    | _ => simp [R.bind, R.stm, h]
  | _ => rfl
theorem z_drop : sDrop a ρ s = (a ρ s).stm ρ fun _ s => .nx ρ s := Eq.trans rfl rfl
theorem z_ret : sRet a ρ s = (a ρ s).stm ρ fun x s => .rt x s := Eq.trans rfl rfl
theorem z_retN : sRetN ρ s = .rt .non s := Eq.trans rfl rfl
theorem z_brk : sBrk ρ s = .bk ρ s := Eq.trans rfl rfl
theorem z_cnt : sCnt ρ s = .ct ρ s := Eq.trans rfl rfl
theorem z_if : sIf t A B ρ s = (t ρ s).stm ρ fun x s => if x = true then A ρ s else B ρ s := Eq.trans rfl rfl
theorem z_raise : sRaise d a ρ s = (a ρ s).stm ρ fun _ s => .er d ρ s := Eq.trans rfl rfl
theorem z_for : sFor as g A ρ s = (as ρ s).stm ρ fun us s => loopF g A us ρ s := Eq.trans rfl rfl
theorem z_while : sWhile n t A ρ s = loopW t A n ρ s := Eq.trans rfl rfl
theorem z_lp0 : loopF g A [] ρ s = .nx ρ s := Eq.trans rfl rfl
theorem z_lp : loopF g A (u :: us) ρ s = match g u ρ with | none => .stuck | some ρ => (A ρ s).lp g A us := by
  unfold loopF
  cases g u ρ with
  | none => rfl
  | some ρ => rfl
theorem z_lpN : RS.lp (.nx ρ s) g A us = loopF g A us ρ s := Eq.trans rfl rfl
theorem z_lpC : RS.lp (.ct ρ s) g A us = loopF g A us ρ s := Eq.trans rfl rfl
theorem z_lpB : RS.lp (.bk ρ s) g A us = .nx ρ s := Eq.trans rfl rfl
theorem z_lpR : RS.lp (.rt u s) g A us = .rt u s := Eq.trans rfl rfl
theorem z_lpE : RS.lp (.er d ρ s) g A us = .er d ρ s := Eq.trans rfl rfl
theorem z_iseq : iSeq a ρ s = (a ρ s).bind fun x s => opt x.seq? s := Eq.trans rfl rfl
theorem z_sqL : U.seq? (.lst us) = some us := Eq.trans rfl rfl
theorem z_sqT : U.seq? (.tup us) = some us := Eq.trans rfl rfl
theorem z_rng {p : List U → Option (List U)} : iRng p as ρ s = (as ρ s).bind fun xs s => opt (p xs) s := Eq.trans rfl rfl
theorem z_fn {m : Nat} : runF A n m us = if us.length = n then (A (startR us m) dSst).fin else .stuck := Eq.trans rfl rfl
theorem z_finN : RS.fin (.nx ρ s) = .ok .non := Eq.trans rfl rfl
theorem z_finR : RS.fin (.rt u s) = .ok u := Eq.trans rfl rfl
theorem z_finE : RS.fin (.er d ρ s) = .err d := Eq.trans rfl rfl
theorem z_fnS {m : Nat} : runS A n m s us = if us.length = n then (A (none :: startR us m) s).finS else .stuck := Eq.trans rfl rfl
theorem z_finSN : RS.finS (.nx ρ s) = .ok .non s := Eq.trans rfl rfl
theorem z_finSR : RS.finS (.rt u s) = .ok u s := Eq.trans rfl rfl
theorem z_finSE : RS.finS (.er d ρ s) = .err d s := Eq.trans rfl rfl
theorem z_lenL : pLen [.lst us] = some (.int us.length) := Eq.trans rfl rfl
theorem z_lenT : pLen [.tup us] = some (.int us.length) := Eq.trans rfl rfl
theorem z_t0 : pIdx (.tup (u :: us)) (.int 0) = some u := by
  show (ixN (us.length + 1) 0).bind (fun j => (u :: us)[j]?) = _
  rw [ixN, if_pos (by decide), if_pos (by omega)]
  rfl
theorem z_l0 : pIdx (.lst (u :: us)) (.int 0) = some u := by
  show (ixN (us.length + 1) 0).bind (fun j => (u :: us)[j]?) = _
  rw [ixN, if_pos (by decide), if_pos (by omega)]
  rfl
theorem z_t1 : pIdx (.tup (u :: v :: us)) (.int 1) = some v := by
  show (ixN (us.length + 1 + 1) 1).bind (fun j => (u :: v :: us)[j]?) = _
  rw [ixN, if_pos (by decide), if_pos (by omega)]
  rfl
theorem z_l1 : pIdx (.lst (u :: v :: us)) (.int 1) = some v := by
  show (ixN (us.length + 1 + 1) 1).bind (fun j => (u :: v :: us)[j]?) = _
  rw [ixN, if_pos (by decide), if_pos (by omega)]
  rfl
theorem z_t2 : pIdx (.tup (u :: v :: w :: us)) (.int 2) = some w := by
  show (ixN (us.length + 1 + 1 + 1) 2).bind (fun j => (u :: v :: w :: us)[j]?) = _
  rw [ixN, if_pos (by decide), if_pos (by omega)]
  rfl
theorem z_l2 : pIdx (.lst (u :: v :: w :: us)) (.int 2) = some w := by
  show (ixN (us.length + 1 + 1 + 1) 2).bind (fun j => (u :: v :: w :: us)[j]?) = _
  rw [ixN, if_pos (by decide), if_pos (by omega)]
  rfl
theorem z_ln1 : pIdx (.lst (us ++ [u])) (.int (-1)) = some u := by
  show (ixN (us ++ [u]).length (-1)).bind (fun j => (us ++ [u])[j]?) = _
  rw [List.length_append, List.length_singleton, ixN, if_neg (by decide), if_pos (by omega), Option.bind_some, show ((-1 : Int) + ((us.length + 1 : Nat) : Int)).toNat = us.length by omega, List.getElem?_append_right (Nat.le_refl _), Nat.sub_self]
  rfl
theorem z_ixL {i : Nat} (h : us[i]? = some u) : pIdx (.lst us) (.int (i : Int)) = some u := by
  show (ixN us.length (i : Int)).bind (fun j => us[j]?) = _
  obtain ⟨hi, _⟩ := List.getElem?_eq_some_iff.mp h
  rw [ixN, if_pos (show (0 : Int) ≤ i by omega), if_pos (show (i : Int) < us.length by omega), Option.bind_some, Int.toNat_natCast]
  exact h
theorem z_ixT {i : Nat} (h : us[i]? = some u) : pIdx (.tup us) (.int (i : Int)) = some u := by
  show (ixN us.length (i : Int)).bind (fun j => us[j]?) = _
  obtain ⟨hi, _⟩ := List.getElem?_eq_some_iff.mp h
  rw [ixN, if_pos (show (0 : Int) ≤ i by omega), if_pos (show (i : Int) < us.length by omega), Option.bind_some, Int.toNat_natCast]
  exact h
theorem z_addL {us vs : List U} (h : us.length + vs.length ≤ 16777216) : pAdd (.lst us) (.lst vs) = some (.lst (us ++ vs)) := by
  show (if lineB (us.length + vs.length) = true then some (U.lst (us ++ vs)) else none) = _
  rw [if_pos (show lineB (us.length + vs.length) = true from decide_eq_true h)]
theorem z_apK : sApp n a ρ s = appK ρ[n]? n a ρ s := Eq.trans rfl rfl
theorem z_apK1 : appK (some (some (.lst us))) n a ρ s = (a ρ s).stm ρ fun x s => if lineB (us.length + 1) = true then .nx (ρ.set n (some (.lst (us ++ [x])))) s else .stuck := Eq.trans rfl rfl
theorem z_putK : sPut n b a ρ s = (a ρ s).stm ρ fun x s => putK ρ[n]? n b x ρ s := Eq.trans rfl rfl
theorem z_putK1 : putK (some (some (.lst us))) n b x ρ s = (b ρ s).stm ρ fun j s => putJ us n x j ρ s := Eq.trans rfl rfl
theorem z_putL : putJ (us ++ [u]) n x (.int (-1)) ρ s = .nx (ρ.set n (some (.lst (us ++ [x])))) s := by
  show (match ixN (us ++ [u]).length (-1) with | some j => RS.nx (ρ.set n (some (.lst ((us ++ [u]).set j x)))) s | none => .stuck) = _
  rw [List.length_append, List.length_singleton, ixN, if_neg (by decide), if_pos (by omega), show ((-1 : Int) + ((us.length + 1 : Nat) : Int)).toNat = us.length by omega]
  show RS.nx (ρ.set n (some (.lst ((us ++ [u]).set us.length x)))) s = _
  rw [List.set_append_right _ _ (Nat.le_refl _), Nat.sub_self]
  rfl
theorem z_putN {m : Nat} (h : m < us.length) : putJ us n x (.int (m : Int)) ρ s = .nx (ρ.set n (some (.lst (us.set m x)))) s := by
  show (match ixN us.length (m : Int) with | some j => RS.nx (ρ.set n (some (.lst (us.set j x)))) s | none => .stuck) = _
  rw [ixN, if_pos (by omega), if_pos (by omega), Int.toNat_natCast]
theorem z_try {kls : List String} {e m : Nat} : sTry kls d e m A ρ s = tryK kls d e m (A ρ s) := Eq.trans rfl rfl
theorem z_tryN {kls : List String} {e m : Nat} : tryK kls d e m (.nx ρ s) = .nx ρ s := Eq.trans rfl rfl
theorem z_tryR {kls : List String} {e m : Nat} : tryK kls d e m (.rt u s) = .rt u s := Eq.trans rfl rfl
theorem z_tryE {kls : List String} {e m : Nat} {c : String} (h1 : kls.contains c = true) (h2 : (decide (c = d) || decide (d = "MarkError")) = true) : tryK kls d e m (.er c ρ s) = if e < ρ.length then .nx (((ρ.set e none).set m (some (.exc c))).set e none) s else .stuck := by
  show (if kls.contains c then (if (decide (c = d) || decide (d = "MarkError")) = true then (if e < ρ.length then RS.nx (((ρ.set e none).set m (some (.exc c))).set e none) s else .stuck) else .er c ρ s) else .stuck) = _
  rw [if_pos h1, if_pos h2]
theorem z_callSV {F : Sst → List U → R U} : eCallSV n F as ρ s = (as ρ s).bind (apSV n F) := Eq.trans rfl rfl
theorem z_callV {F : List U → R0} : eCallV n F as ρ s = (as ρ s).bind (apV n F) := Eq.trans rfl rfl
theorem z_asv1 {F : Sst → List U → R U} : apSV 1 F [x] s = (F s [x]).noLst := Eq.trans rfl rfl
theorem z_asv2 {F : Sst → List U → R U} : apSV 2 F [x, y] s = (F s [x, y]).noLst := Eq.trans rfl rfl
theorem z_asv3 {F : Sst → List U → R U} : apSV 3 F [x, y, z] s = (F s [x, y, z]).noLst := Eq.trans rfl rfl
theorem z_av1 {F : List U → R0} : apV 1 F [x] s = (F [x]).noLst s := Eq.trans rfl rfl
theorem z_av2 {F : List U → R0} : apV 2 F [x, y] s = (F [x, y]).noLst s := Eq.trans rfl rfl
theorem z_av3 {F : List U → R0} : apV 3 F [x, y, z] s = (F [x, y, z]).noLst s := Eq.trans rfl rfl
theorem z_noL : R.noLst (.ok u s) = if noL u = true then .ok u s else .stuck := Eq.trans rfl rfl
theorem z_noLE : R.noLst (.err d s) = .err d s := Eq.trans rfl rfl
theorem z_noL0 : R0.noLst (.ok u) s = if noL u = true then .ok u s else .stuck := Eq.trans rfl rfl
theorem z_noL0E : R0.noLst (.err d) s = .err d s := Eq.trans rfl rfl
theorem z_idx1 : eIdxOf a b ρ s = (a ρ s).bind fun x s => idxK x b ρ s := Eq.trans rfl rfl
theorem z_idxK : idxK (.lst us) b ρ s = (b ρ s).bind fun y s => My.opt (pIndexU (.lst us) y) s := Eq.trans rfl rfl
theorem z_cnt1 : eCnt a b ρ s = (a ρ s).bind fun x s => cntK x b ρ s := Eq.trans rfl rfl
theorem z_cntK : cntK (.lst us) b ρ s = (b ρ s).bind fun y s => My.opt (pCount (.lst us) y) s := Eq.trans rfl rfl
theorem z_app {n : Nat} (e : ρ[n]? = some (some (.lst us))) (h : us.length ≤ 16777000) : sApp n a ρ s = (a ρ s).stm ρ fun x s => .nx (ρ.set n (some (.lst (us ++ [x])))) s := by
  unfold sApp
  rw [e]
  show ((a ρ s).stm ρ fun x s => if lineB (us.length + 1) = true then RS.nx (ρ.set n (some (.lst (us ++ [x])))) s else .stuck) = _
  rw [show lineB (us.length + 1) = true from decide_eq_true (by omega)]
  rfl
theorem z_rngN {n : Nat} (h : n < 4611686018427387904) : pRng1 [.int (n : Int)] = some ((List.range n).map fun k : Nat => U.int (k : Int)) := by
  show (if rngOk (n : Int) then some (rngU 0 (n : Int).toNat 1) else none) = _
  rw [if_pos (show rngOk (n : Int) = true from decide_eq_true ⟨by omega, by omega⟩), Int.toNat_natCast, rngU0]
theorem rng_get {n i : Nat} {u : U} (h : ((List.range n).map fun k : Nat => U.int (k : Int))[i]? = some u) : i < n ∧ u = .int (i : Int) := by
  have hi : i < n := by
    have := (List.getElem?_eq_some_iff.mp h).1
    rwa [List.length_map, List.length_range] at this
  rw [List.getElem?_map, List.getElem?_range hi] at h
  exact ⟨hi, (Option.some.inj h).symm⟩
theorem z_tup (h : us.length ≤ 16777216) : pTup us = some (.tup us) := by
  unfold pTup
  rw [if_pos (show lineB us.length = true from decide_eq_true h)]
theorem z_tup0 : pTup [] = some (.tup []) := Eq.trans rfl rfl
theorem z_tup1 : pTup [u] = some (.tup [u]) := Eq.trans rfl rfl
theorem z_tup2 : pTup [u, v] = some (.tup [u, v]) := Eq.trans rfl rfl
theorem z_tup3 : pTup [u, v, w] = some (.tup [u, v, w]) := Eq.trans rfl rfl
theorem z_tup4 : pTup [u, v, w, x] = some (.tup [u, v, w, x]) := Eq.trans rfl rfl
theorem z_lst0 : pLst [] = some (.lst []) := Eq.trans rfl rfl
theorem z_lst1 : pLst [u] = some (.lst [u]) := Eq.trans rfl rfl
theorem z_lst2 : pLst [u, v] = some (.lst [u, v]) := Eq.trans rfl rfl
theorem z_lst3 : pLst [u, v, w] = some (.lst [u, v, w]) := Eq.trans rfl rfl
theorem z_lst4 : pLst [u, v, w, x] = some (.lst [u, v, w, x]) := Eq.trans rfl rfl
theorem z_tupleL : pTuple [.lst us] = some (.tup us) := Eq.trans rfl rfl
theorem z_tupleT : pTuple [.tup us] = some (.tup us) := Eq.trans rfl rfl
theorem z_listL : pList [.lst us] = some (.lst us) := Eq.trans rfl rfl
theorem z_listT : pList [.tup us] = some (.lst us) := Eq.trans rfl rfl
theorem z_isN : pIs u .non = some (.bl (isNon u)) := Eq.trans rfl rfl
theorem z_nisN : pIsNot u .non = some (.bl (!isNon u)) := Eq.trans rfl rfl
theorem z_nonI : isNon (.int i) = false := Eq.trans rfl rfl
theorem z_nonN : isNon .non = true := Eq.trans rfl rfl
theorem z_nonT : isNon (.tup us) = false := Eq.trans rfl rfl
theorem z_nonL : isNon (.lst us) = false := Eq.trans rfl rfl
theorem z_nonE : isNon (.exc d) = false := Eq.trans rfl rfl
theorem z_nonS {x : Str} : isNon (.str x) = false := Eq.trans rfl rfl
theorem z_nonB : isNon (.bl k) = false := Eq.trans rfl rfl
theorem z_go {f : SF} {m : Nat} {r : R0} (h : (f (startR us m) dSst).fin = r) (hn : us.length = n) : runF f n m us = r := by
  unfold runF
  rw [if_pos hn]
  exact h
theorem z_goS {f : SF} {m : Nat} {r : R U} (h : (f (none :: startR us m) s).finS = r) (hn : us.length = n) : runS f n m s us = r := by
  unfold runS
  rw [if_pos hn]
  exact h
theorem z_start1 {m : Nat} : startR [x] m = some x :: List.replicate m none := Eq.trans rfl rfl
theorem z_start0 {m : Nat} : startR [] m = List.replicate m none := Eq.trans rfl rfl
theorem z_start2 {m : Nat} : startR [x, y] m = some x :: some y :: List.replicate m none := Eq.trans rfl rfl
theorem z_start3 {m : Nat} : startR [x, y, z] m = some x :: some y :: some z :: List.replicate m none := Eq.trans rfl rfl
theorem z_start4 {m : Nat} : startR [x, y, z, w] m = some x :: some y :: some z :: some w :: List.replicate m none := Eq.trans rfl rfl
theorem z_start5 {m : Nat} : startR [x, y, z, w, u] m = some x :: some y :: some z :: some w :: some u :: List.replicate m none := Eq.trans rfl rfl
theorem z_start6 {m : Nat} : startR [x, y, z, w, u, v] m = some x :: some y :: some z :: some w :: some u :: some v :: List.replicate m none := Eq.trans rfl rfl
theorem z_int : pInt [.int i] = some (.int i) := Eq.trans rfl rfl
theorem z_intB : pInt [.bl k] = some (.int (if k then 1 else 0)) := Eq.trans rfl rfl
end
local macro_rules | `(tactic| simp! [$ts,*]) => `(tactic| simp only [z_callSV, z_callV, z_asv1, z_asv2, z_asv3, z_av1, z_av2, z_av3, z_noL, z_noLE, z_noL0, z_noL0E, z_idx1, z_idxK, z_while, z_try, z_tryN, z_tryR, z_apK, z_apK1, z_putK, z_putK1, z_putL, z_cnt1, z_cntK, List.getElem?_cons_zero, List.getElem?_cons_succ, z_iAnd, z_iOr, z_iAndB, z_iOrB, z_seqF, z_sqFN, z_sqFE, z_bind, z_bindE, z_opt, z_lift, z_liftE, z_c, z_v0, z_vS, z_1, z_2, z_n, z_nil, z_cons, z_call, z_callS, z_ap0, z_ap1, z_ap2, z_ap3, z_ap4, z_ap5, z_ap6, z_as0, z_as1, z_as2, z_as3, z_as4, z_as5, z_not, z_and, z_or, z_ife, z_chain, z_toB, z_tV, z_tT, z_tN, z_tA, z_tO, z_tY, z_trB, z_trI, z_trN, z_trL, z_trT, z_sl, z_oNo, z_oSo, z_toI, z_slL, z_slT, z_stm, z_stmE, z_skip, z_seq, z_sqN, z_sqR, z_sqE, z_sqB, z_sqC, z_gN, z_gT, z_gL, z_gsC, z_gsN, z_asg, z_asgS, z_par2, z_par3, z_drop, z_ret, z_retN, z_brk, z_cnt, z_if, z_raise, z_for, z_lp0, z_lpN, z_lpC, z_lpB, z_lpR, z_lpE, z_iseq, z_sqL, z_sqT, z_rng, z_finN, z_finR, z_finE, z_finSN, z_finSR, z_finSE, z_lenL, z_lenT, z_t0, z_l0, z_t1, z_l1, z_t2, z_l2, z_ln1, z_tup0, z_tup1, z_tup2, z_tup3, z_tup4, z_lst0, z_lst1, z_lst2, z_lst3, z_lst4, z_tupleL, z_tupleT, z_listL, z_listT, z_isN, z_nisN, z_nonI, z_nonN, z_nonT, z_nonL, z_nonE, z_nonS, z_nonB, z_start1, z_start0, z_start2, z_start3, z_start4, z_start5, z_start6, z_int, z_intB, pAdd_int, pAdd'_int, pSub_int, pLt_int, pLe_int, pGt_int, pGe_int, pEq_int, pNe_int, pNeg_int, List.set_cons_zero, List.set_cons_succ, List.replicate_succ, List.replicate_zero, Option.bind_some, Option.map_some, decide_eq_true_eq, Bool.not_eq_true', decide_eq_false_iff_not, if_true, if_false, ite_true, ite_false, Bool.false_eq_true, reduceIte, Bool.not_true, Bool.not_false, Bool.and_eq_true, Bool.or_eq_true, Bool.decide_eq_true, Bool.decide_and, Bool.decide_or, not_false_eq_true, decide_true, decide_false, Bool.and_true, Bool.and_false, Bool.true_and, Bool.false_and, Bool.or_true, Bool.or_false, Bool.true_or, Bool.false_or, List.length_cons, List.length_nil, Nat.reduceAdd, Nat.reduceLT, not_true_eq_false, true_and, and_true, false_and, and_false, or_true, true_or, or_false, false_or, and_self, or_self, $ts,*])
end My

set_option Elab.async false
set_option linter.all false
set_option maxRecDepth 100000
set_option maxHeartbeats 4000000
namespace My
open PySem PySem.Spec PyProof.Rows L2
open C8 (Cal pe_c pe_gc)
def kls : List String := ["InvalidDeals", "InvalidFamilies", "InvalidNumber", "MarkError", "TooMany"]
def f_is_integer : SF := (sRet (eAnd (eN (pIsiB "int") (aCons (eV 0) (aCons (eC (.ty "int")) aNil))) (eNot (eN (pIsiB "bool") (aCons (eV 0) (aCons (eC (.ty "bool")) aNil))))))
abbrev F_is_integer := runF f_is_integer 1 0
def f_is_natural : SF := (sRet (eAnd (eCall 1 F_is_integer (aCons (eV 0) aNil)) (e2 pGe (eV 0) (eC (.int 0)))))
abbrev F_is_natural := runF f_is_natural 1 0
def f_common_multiple : SF := (sSeq (sAsg (gN 1) (eC (.int 1))) (sSeq (sFor (iSeq (eV 0)) (gN 2) (sAsg (gN 1) (eN pLcm (aCons (eV 1) (aCons (eV 2) aNil))))) (sRet (eV 1))))
abbrev F_common_multiple := runF f_common_multiple 1 2
def f_fraction : SF := (sSeq (sAsg (gN 2) (eN pGcd (aCons (eV 0) (aCons (eV 1) aNil)))) (sRet (eN pTup (aCons (e2 pDiv (eV 0) (eV 2)) (aCons (e2 pDiv (eV 1) (eV 2)) aNil)))))
abbrev F_fraction := runF f_fraction 2 1
def f_within : SF := (sRet (eN pMax2 (aCons (eV 1) (aCons (eN pMin2 (aCons (eV 0) (aCons (eV 2) aNil))) aNil))))
abbrev F_within := runF f_within 3 0
def f_below_in_run : SF := (sSeq (sAsg (gT (gsCons (gN 3) (gsCons (gN 4) gsNil))) (eV 0)) (sRet (e2 pSub (e2 pAdd (e2 pMul (e2 pDiv (eV 2) (eV 1)) (e2 pSub (eV 4) (eV 3))) (eCall 3 F_within (aCons (e2 pMod (eV 2) (eV 1)) (aCons (eV 3) (aCons (eV 4) aNil))))) (eV 3))))
abbrev F_below_in_run := runF f_below_in_run 3 2
def f_window_of_one : SF := (sSeq (sAsg (gT (gsCons (gN 3) (gsCons (gN 4) gsNil))) (eV 0)) (sRet (eN pSum (aCons (eLc [5] (iSeq (eV 4)) (gN 5) tY (e2 pSub (eCall 3 F_below_in_run (aCons (eV 5) (aCons (eV 3) (aCons (eV 2) aNil)))) (eCall 3 F_below_in_run (aCons (eV 5) (aCons (eV 3) (aCons (eV 1) aNil)))))) aNil))))
abbrev F_window_of_one := runF f_window_of_one 3 3
def f_window_of_two : SF := sStk
abbrev F_window_of_two := runF f_window_of_two 4 1
def f_count_in : SF := (sSeq (sIf (tV (e2 pEq (eN pLen (aCons (eV 0) aNil)) (eC (.int 0)))) (sRet (e2 pSub (eV 2) (eV 1))) sNil) (sSeq (sIf (tV (e2 pEq (eN pLen (aCons (eV 0) aNil)) (eC (.int 1)))) (sRet (eCall 3 F_window_of_one (aCons (e2 pIdx (eV 0) (eC (.int 0))) (aCons (eV 1) (aCons (eV 2) aNil))))) sNil) (sRet (eCall 4 F_window_of_two (aCons (e2 pIdx (eV 0) (eC (.int 0))) (aCons (e2 pIdx (eV 0) (eC (.int 1))) (aCons (eV 1) (aCons (eV 2) aNil))))))))
abbrev F_count_in := runF f_count_in 3 0
def f_common_in_circle : SF := (sRet (eN pSum (aCons (eLc [3] (iSeq (eN pTup (aCons (My.e1 pNeg (eV 2)) (aCons (eC (.int 0)) (aCons (eV 2) aNil))))) (gN 3) tY (eN pMax2 (aCons (eC (.int 0)) (aCons (e2 pSub (eN pMin2 (aCons (e2 pAdd (e2 pIdx (eV 0) (eC (.int 0))) (e2 pIdx (eV 0) (eC (.int 1)))) (aCons (e2 pAdd (e2 pAdd (e2 pIdx (eV 1) (eC (.int 0))) (e2 pIdx (eV 1) (eC (.int 1)))) (eV 3)) aNil))) (eN pMax2 (aCons (e2 pIdx (eV 0) (eC (.int 0))) (aCons (e2 pAdd (e2 pIdx (eV 1) (eC (.int 0))) (eV 3)) aNil)))) aNil)))) aNil)))
abbrev F_common_in_circle := runF f_common_in_circle 3 1
def f_pairs_of_runs : SF := (sSeq (sAsg (gT (gsCons (gN 3) (gsCons (gN 4) gsNil))) (eN pDivmod (aCons (e2 pSub (e2 pIdx (eV 0) (eC (.int 1))) (e2 pIdx (eV 0) (eC (.int 0)))) (aCons (eV 2) aNil)))) (sSeq (sAsg (gT (gsCons (gN 5) (gsCons (gN 6) gsNil))) (eN pDivmod (aCons (e2 pSub (e2 pIdx (eV 1) (eC (.int 1))) (e2 pIdx (eV 1) (eC (.int 0)))) (aCons (eV 2) aNil)))) (sSeq (sAsg (gN 7) (eCall 3 F_common_in_circle (aCons (eN pTup (aCons (e2 pMod (e2 pIdx (eV 0) (eC (.int 0))) (eV 2)) (aCons (eV 4) aNil))) (aCons (eN pTup (aCons (e2 pMod (e2 pIdx (eV 1) (eC (.int 0))) (eV 2)) (aCons (eV 6) aNil))) (aCons (eV 2) aNil))))) (sRet (e2 pAdd (e2 pAdd (e2 pAdd (e2 pMul (e2 pMul (eV 3) (eV 5)) (eV 2)) (e2 pMul (eV 3) (eV 6))) (e2 pMul (eV 5) (eV 4))) (eV 7))))))
abbrev F_pairs_of_runs := runF f_pairs_of_runs 3 5
def f_common_period : SF := (sRet (eCall 1 F_common_multiple (aCons (eLc [1, 2] (iSeq (eV 0)) (gT (gsCons (gN 1) (gsCons (gN 2) gsNil))) tY (eV 1)) aNil)))
abbrev F_common_period := runF f_common_period 1 2
def f_count_in_period : SF := (sSeq (sIf (tV (e2 pLt (eN pLen (aCons (eV 0) aNil)) (eC (.int 2)))) (sRet (eCall 3 F_count_in (aCons (eV 0) (aCons (eC (.int 0)) (aCons (eCall 1 F_common_period (aCons (eV 0) aNil)) aNil))))) sNil) (sSeq (sAsg (gL (gsCons (gN 1) (gsCons (gN 2) gsNil))) (eV 0)) (sSeq (sAsg (gN 3) (eN pGcd (aCons (e2 pIdx (eV 1) (eC (.int 0))) (aCons (e2 pIdx (eV 2) (eC (.int 0))) aNil)))) (sRet (eN pSum (aCons (eLc2 [4, 5] [5] (iSeq (e2 pIdx (eV 1) (eC (.int 1)))) (gN 4) tY (iSeq (e2 pIdx (eV 2) (eC (.int 1)))) (gN 5) tY (eCall 3 F_pairs_of_runs (aCons (eV 4) (aCons (eV 5) (aCons (eV 3) aNil))))) aNil))))))
abbrev F_count_in_period := runF f_count_in_period 1 5
def f_period_of : SF := (sRet (eCall 1 F_common_multiple (aCons (eLc [1, 2] (iSeq (eV 0)) (gT (gsCons (gN 1) (gsCons (gN 2) gsNil))) tY (eCall 1 F_common_period (aCons (eV 2) aNil))) aNil)))
abbrev F_period_of := runF f_period_of 1 2
def f_whole_count : SF := (sRet (eN pSum (aCons (eLc [2, 3] (iSeq (eV 0)) (gT (gsCons (gN 2) (gsCons (gN 3) gsNil))) tY (e2 pMul (e2 pMul (eV 2) (eCall 1 F_count_in_period (aCons (eV 3) aNil))) (e2 pDiv (eV 1) (eCall 1 F_common_period (aCons (eV 3) aNil))))) aNil)))
abbrev F_whole_count := runF f_whole_count 2 2
def f_share_of_sum : SF := (sSeq (sAsg (gN 1) (eCall 1 F_period_of (aCons (eV 0) aNil))) (sRet (eCall 2 F_fraction (aCons (eCall 2 F_whole_count (aCons (eV 0) (aCons (eV 1) aNil))) (aCons (eV 1) aNil)))))
abbrev F_share_of_sum := runF f_share_of_sum 1 1
def f_below_of_sum : SF := sStk
abbrev F_below_of_sum := runF f_below_of_sum 2 3
def f_nth_of_sum : SF := sStk
abbrev F_nth_of_sum := runF f_nth_of_sum 2 6
def f_is_run : SF := (sRet (eAnd (eN (pIsiB "tuple") (aCons (eV 0) (aCons (eC (.ty "tuple")) aNil))) (eAnd (e2 pEq (eN pLen (aCons (eV 0) aNil)) (eC (.int 2))) (eAnd (eCall 1 F_is_integer (aCons (e2 pIdx (eV 0) (eC (.int 0))) aNil)) (eCall 1 F_is_integer (aCons (e2 pIdx (eV 0) (eC (.int 1))) aNil))))))
abbrev F_is_run := runF f_is_run 1 0
def f_is_family : SF := (sSeq (sIf (tO (tN (tT (eN (pIsiB "tuple") (aCons (eV 0) (aCons (eC (.ty "tuple")) aNil))))) (tV (e2 pNe (eN pLen (aCons (eV 0) aNil)) (eC (.int 2))))) (sRet (eC (.bl false))) sNil) (sSeq (sAsg (gT (gsCons (gN 1) (gsCons (gN 2) gsNil))) (eV 0)) (sSeq (sIf (tO (tN (tT (eCall 1 F_is_integer (aCons (eV 1) aNil)))) (tN (tV (eChain pLe pLe (eC (.int 1)) (eV 1) (eC (.int 1000000000000000000000000000000000000000000000000000000000000)))))) (sRet (eC (.bl false))) sNil) (sSeq (sIf (tO (tN (tT (eN (pIsiB "tuple") (aCons (eV 2) (aCons (eC (.ty "tuple")) aNil))))) (tO (tV (e2 pGt (eN pLen (aCons (eV 2) aNil)) (eC (.int 64)))) (tN (tT (eN pAll (aCons (eLc [7] (iSeq (eV 2)) (gN 7) tY (eCall 1 F_is_run (aCons (eV 7) aNil))) aNil)))))) (sRet (eC (.bl false))) sNil) (sSeq (sAsg (gN 3) (e2 pAdd (eN pLst (aCons (My.e1 pNeg (eC (.int 1))) aNil)) (eLc [4, 5] (iSeq (eV 2)) (gT (gsCons (gN 4) (gsCons (gN 5) gsNil))) tY (eV 5)))) (sRet (eAnd (e2 pLe (e2 pIdx (eV 3) (My.e1 pNeg (eC (.int 1)))) (eV 1)) (eN pAll (aCons (eLc [6, 7] (iZip (eV 3) (eV 2)) (gT (gsCons (gN 6) (gsCons (gN 7) gsNil))) tY (eChain pLt pLt (eV 6) (e2 pIdx (eV 7) (eC (.int 0))) (e2 pIdx (eV 7) (eC (.int 1))))) aNil)))))))))
abbrev F_is_family := runF f_is_family 1 7
def f_check_families : SF := (sSeq (sIf (tO (tN (tT (eN (pIsiB "list") (aCons (eV 0) (aCons (eC (.ty "list")) aNil))))) (tN (tV (eChain pLe pLe (eC (.int 1)) (eN pLen (aCons (eV 0) aNil)) (eC (.int 2)))))) (sRaise "InvalidFamilies" (eC (.str (PySem.Str.ofString "a list of one or two families is needed")))) sNil) (sSeq (sIf (tN (tT (eN pAll (aCons (eLc [2] (iSeq (eV 0)) (gN 2) tY (eCall 1 F_is_family (aCons (eV 2) aNil))) aNil)))) (sRaise "InvalidFamilies" (eC (.str (PySem.Str.ofString "a family is a tuple (period, runs) of a limited size")))) sNil) (sIf (tA (tV (e2 pEq (eN pLen (aCons (eV 0) aNil)) (eC (.int 2)))) (tV (e2 pGt (e2 pMul (eN pLen (aCons (e2 pIdx (e2 pIdx (eV 0) (eC (.int 0))) (eC (.int 1))) aNil)) (eN pLen (aCons (e2 pIdx (e2 pIdx (eV 0) (eC (.int 1))) (eC (.int 1))) aNil))) (eV 1)))) (sRaise "TooMany" (joinL ((eC (.str (PySem.Str.ofString "the numbers of runs, multiplied, are more than "))) :: ((eFmt (eV 1)) :: [])) PySem.Str.empty)) sNil)))
abbrev F_check_families := runF f_check_families 2 1
def f_below : SF := (sSeq (sDrop (eCall 2 F_check_families (aCons (eV 0) (aCons (eC (.int 64)) aNil)))) (sSeq (sIf (tN (tT (eCall 1 F_is_natural (aCons (eV 1) aNil)))) (sRaise "InvalidNumber" (eC (.str (PySem.Str.ofString "a bound is an integer from 0 on")))) sNil) (sRet (eCall 2 F_below_of_sum (aCons (eN pLst (aCons (eN pTup (aCons (eC (.int 1)) (aCons (eV 0) aNil))) aNil)) (aCons (eV 1) aNil))))))
abbrev F_below := runF f_below 2 0
def f_common_share : SF := (sSeq (sDrop (eCall 2 F_check_families (aCons (eV 0) (aCons (eC (.int 64)) aNil)))) (sRet (eCall 1 F_share_of_sum (aCons (eN pLst (aCons (eN pTup (aCons (eC (.int 1)) (aCons (eV 0) aNil))) aNil)) aNil))))
abbrev F_common_share := runF f_common_share 1 0
def f_nth : SF := (sSeq (sDrop (eCall 2 F_check_families (aCons (eV 0) (aCons (eC (.int 4)) aNil)))) (sSeq (sIf (tN (tT (eCall 1 F_is_natural (aCons (eV 1) aNil)))) (sRaise "InvalidNumber" (eC (.str (PySem.Str.ofString "the number of marks ahead is an integer from 0 on")))) sNil) (sSeq (sIf (tV (e2 pEq (e2 pIdx (eCall 1 F_common_share (aCons (eV 0) aNil)) (eC (.int 0))) (eC (.int 0)))) (sRaise "InvalidNumber" (eC (.str (PySem.Str.ofString "no mark lies in all of the families")))) sNil) (sRet (eCall 2 F_nth_of_sum (aCons (eN pLst (aCons (eN pTup (aCons (eC (.int 1)) (aCons (eV 0) aNil))) aNil)) (aCons (eV 1) aNil)))))))
abbrev F_nth := runF f_nth 2 0
def f__law_ten : SF := (sSeq (sAsg (gN 1) (eC (.int 1))) (sSeq (sFor (iRng pRng1 (aCons (eV 0) aNil)) (gN 2) (sAsg (gN 1) (e2 pMul (eV 1) (eC (.int 10))))) (sRet (eV 1))))
abbrev F__law_ten := runF f__law_ten 1 2
def f__law_pick : SF := (sRet (e2 pIdx (eV 1) (eCallS 1 F__law_draw (aCons (eN pLen (aCons (eV 1) aNil)) aNil))))
abbrev F__law_pick := runS f__law_pick 1 0
def f__law_great : SF := (sSeq (sAsg (gN 2) (eC (.int 0))) (sSeq (sFor (iRng pRng1 (aCons (eC (.int 7)) aNil)) (gN 3) (sAsg (gN 2) (e2 pAdd (e2 pMul (eV 2) (e2 pPow (eC (.int 10)) (eC (.int 9)))) (eCallS 1 F__law_draw (aCons (e2 pPow (eC (.int 10)) (eC (.int 9))) aNil))))) (sRet (e2 pMod (eN pInt (aCons (eV 2) aNil)) (eV 1)))))
abbrev F__law_great := runS f__law_great 1 2
def f__law_family : SF := (sSeq (sAsg (gN 2) (e2 pAdd (eC (.int 1)) (eCallS 1 F__law_draw (aCons (eV 1) aNil)))) (sSeq (sIf (tV (e2 pGt (eV 1) (eC (.int 1000)))) (sSeq (sAsg (gN 3) (eCallS 1 F__law_pick (aCons (eN pLst (aCons (eC (.int 1)) (aCons (eC (.int 2)) (aCons (eC (.int 6)) (aCons (eC (.int 12)) (aCons (eC (.int 360)) (aCons (e2 pPow (eC (.int 2)) (eC (.int 40))) (aCons (e2 pAdd (e2 pPow (eC (.int 10)) (eC (.int 9))) (eC (.int 7))) (aCons (e2 pPow (eC (.int 10)) (eC (.int 15))) (aCons (e2 pPow (eC (.int 3)) (eC (.int 20))) aNil)))))))))) aNil))) (sAsg (gN 2) (e2 pMul (eV 3) (e2 pAdd (eC (.int 1)) (eCallS 1 F__law_great (aCons (eN pMin2 (aCons (e2 pDiv (eV 1) (eV 3)) (aCons (eCall 1 F__law_ten (aCons (e2 pAdd (eC (.int 1)) (eCallS 1 F__law_draw (aCons (eC (.int 60)) aNil))) aNil)) aNil))) aNil)))))) sNil) (sSeq (sAsg (gN 4) (My.e1 (fun x => pSetSort [x]) (eLc [6] (iRng pRng1 (aCons (e2 pMul (eC (.int 2)) (eCallS 1 F__law_draw (aCons (eC (.int 4)) aNil))) aNil)) (gN 6) tY (eCallS 1 F__law_great (aCons (e2 pAdd (eV 2) (eC (.int 1))) aNil))))) (sSeq (sAsg (gN 5) (eLc [6] (iRng pRng1 (aCons (e2 pDiv (eN pLen (aCons (eV 4) aNil)) (eC (.int 2))) aNil)) (gN 6) tY (eN pTup (aCons (e2 pIdx (eV 4) (e2 pMul (eC (.int 2)) (eV 6))) (aCons (e2 pIdx (eV 4) (e2 pAdd (e2 pMul (eC (.int 2)) (eV 6)) (eC (.int 1)))) aNil))))) (sRet (eN pTup (aCons (eV 2) (aCons (eN pTuple (aCons (eV 5) aNil)) aNil))))))))
abbrev F__law_family := runS f__law_family 1 5
def f__law_whole : SF := (sRet (eAnd (eN (pIsiB "int") (aCons (eV 0) (aCons (eC (.ty "int")) aNil))) (eAnd (eNot (eN (pIsiB "bool") (aCons (eV 0) (aCons (eC (.ty "bool")) aNil)))) (eAnd (e2 pLe (eV 1) (eV 0)) (e2 pLt (eV 0) (eV 2))))))
abbrev F__law_whole := runF f__law_whole 3 0
def f__law_is_family : SF := (sSeq (sIf (tO (tN (tT (eN (pIsiB "tuple") (aCons (eV 0) (aCons (eC (.ty "tuple")) aNil))))) (tO (tV (e2 pNe (eN pLen (aCons (eV 0) aNil)) (eC (.int 2)))) (tN (tT (eCall 3 F__law_whole (aCons (e2 pIdx (eV 0) (eC (.int 0))) (aCons (eC (.int 1)) (aCons (e2 pAdd (e2 pPow (eC (.int 10)) (eC (.int 60))) (eC (.int 1))) aNil)))))))) (sRet (eC (.bl false))) sNil) (sSeq (sIf (tO (tN (tT (eN (pIsiB "tuple") (aCons (e2 pIdx (eV 0) (eC (.int 1))) (aCons (eC (.ty "tuple")) aNil))))) (tV (e2 pGt (eN pLen (aCons (e2 pIdx (eV 0) (eC (.int 1))) aNil)) (eC (.int 64))))) (sRet (eC (.bl false))) sNil) (sSeq (sAsg (gN 1) (My.e1 pNeg (eC (.int 1)))) (sSeq (sFor (iSeq (e2 pIdx (eV 0) (eC (.int 1)))) (gN 2) (sSeq (sIf (tO (tN (tT (eN (pIsiB "tuple") (aCons (eV 2) (aCons (eC (.ty "tuple")) aNil))))) (tO (tV (e2 pNe (eN pLen (aCons (eV 2) aNil)) (eC (.int 2)))) (tN (tT (eCall 3 F__law_whole (aCons (e2 pIdx (eV 2) (eC (.int 0))) (aCons (e2 pAdd (eV 1) (eC (.int 1))) (aCons (e2 pIdx (eV 0) (eC (.int 0))) aNil)))))))) (sRet (eC (.bl false))) sNil) (sSeq (sIf (tN (tT (eCall 3 F__law_whole (aCons (e2 pIdx (eV 2) (eC (.int 1))) (aCons (e2 pAdd (e2 pIdx (eV 2) (eC (.int 0))) (eC (.int 1))) (aCons (e2 pAdd (e2 pIdx (eV 0) (eC (.int 0))) (eC (.int 1))) aNil)))))) (sRet (eC (.bl false))) sNil) (sAsg (gN 1) (e2 pIdx (eV 2) (eC (.int 1))))))) (sRet (eC (.bl true)))))))
abbrev F__law_is_family := runF f__law_is_family 1 2
def f__law_are_families : SF := (sSeq (sIf (tO (tN (tT (eN (pIsiB "list") (aCons (eV 0) (aCons (eC (.ty "list")) aNil))))) (tO (tV (e2 pLt (eN pLen (aCons (eV 0) aNil)) (eC (.int 1)))) (tV (e2 pGt (eN pLen (aCons (eV 0) aNil)) (eC (.int 2)))))) (sRet (eC (.bl false))) sNil) (sRet (e2 pEqL (eLc [1] (iSeq (eV 0)) (gN 1) (tN (tT (eCall 1 F__law_is_family (aCons (eV 1) aNil)))) (eV 1)) (eN pLst aNil))))
abbrev F__law_are_families := runF f__law_are_families 1 1
def f__law_word : SF := (sSeq (sAsg (gN 2) (eC .non)) (sSeq (sTry kls "MarkError" 3 2 (sIf (tV (e2 pEq (eV 0) (eC (.int 0)))) (sDrop (eCall 2 F_below (aCons (eV 1) (aCons (eC .non) aNil)))) (sIf (tV (e2 pEq (eV 0) (eC (.int 1)))) (sDrop (eCall 2 F_nth (aCons (eV 1) (aCons (My.e1 pNeg (eC (.int 1))) aNil)))) (sDrop (eCall 1 F_common_share (aCons (eV 1) aNil)))))) (sSeq (sIf (tV (e2 pIs (eV 2) (eC .non))) (sRet (eC (.str (PySem.Str.ofString "good")))) sNil) (sSeq (sAsg (gN 4) (eN pLst (aCons (eN (pInst kls) (aCons (eV 2) (aCons (eC (.cls "InvalidFamilies")) aNil))) (aCons (eN (pInst kls) (aCons (eV 2) (aCons (eC (.cls "InvalidNumber")) aNil))) (aCons (eN (pInst kls) (aCons (eV 2) (aCons (eC (.cls "InvalidDeals")) aNil))) aNil))))) (sSeq (sApp 4 (eN (pInst kls) (aCons (eV 2) (aCons (eC (.cls "TooMany")) aNil)))) (sSeq (sIf (tV (e2 pNe (eCnt (eV 4) (eC (.bl true))) (eC (.int 1)))) (sRet (eC (.str (PySem.Str.ofString "other")))) sNil) (sRet (e2 pIdx (eN pLst (aCons (eC (.str (PySem.Str.ofString "families"))) (aCons (eC (.str (PySem.Str.ofString "number"))) (aCons (eC (.str (PySem.Str.ofString "deals"))) (aCons (eC (.str (PySem.Str.ofString "many"))) aNil))))) (eIdxOf (eV 4) (eC (.bl true)))))))))))
abbrev F__law_word := runF f__law_word 2 3
def f__law_right : SF := (sSeq (sAsg (gN 1) (e2 pMul (eN pLst (aCons (eC (.str (PySem.Str.ofString "families"))) aNil)) (eC (.int 3)))) (sSeq (sIf (tT (eCall 1 F__law_are_families (aCons (eV 0) aNil))) (sSeq (sAsg (gN 2) (e2 pMul (e2 pMul (eN pLen (aCons (e2 pIdx (e2 pIdx (eV 0) (eC (.int 0))) (eC (.int 1))) aNil)) (eN pLen (aCons (e2 pIdx (e2 pIdx (eV 0) (My.e1 pNeg (eC (.int 1)))) (eC (.int 1))) aNil))) (e2 pSub (eN pLen (aCons (eV 0) aNil)) (eC (.int 1))))) (sSeq (sAsg (gN 1) (eN pLst (aCons (eC (.str (PySem.Str.ofString "number"))) (aCons (eC (.str (PySem.Str.ofString "number"))) (aCons (eC (.str (PySem.Str.ofString "good"))) aNil))))) (sSeq (sIf (tV (e2 pGt (eV 2) (eC (.int 4)))) (sPut 1 (eC (.int 1)) (eC (.str (PySem.Str.ofString "many")))) sNil) (sIf (tV (e2 pGt (eV 2) (eC (.int 64)))) (sAsg (gN 1) (e2 pMul (eN pLst (aCons (eC (.str (PySem.Str.ofString "many"))) aNil)) (eC (.int 3)))) sNil)))) sNil) (sRet (e2 pEq (eLc [3] (iRng pRng1 (aCons (eC (.int 3)) aNil)) (gN 3) tY (eCall 2 F__law_word (aCons (eV 3) (aCons (eV 0) aNil)))) (eV 1)))))
abbrev F__law_right := runF f__law_right 1 3
def f__law_bent : SF := (sSeq (sAsg (gN 2) (eCallS 1 F__law_draw (aCons (eN pLen (aCons (eV 1) aNil)) aNil))) (sSeq (sAsg (gT (gsCons (gN 3) (gsCons (gN 4) gsNil))) (e2 pIdx (eV 1) (eV 2))) (sSeq (sAsg (gN 5) (eN pLst (aCons (eC .non) (aCons (eC (.bl true)) (aCons (eC (.str (PySem.Str.ofString "1"))) (aCons (My.e1 pNeg (eC (.int 1))) (aCons (eC (.int 0)) (aCons (eV 3) (aCons (e2 pAdd (eV 3) (eC (.int 1))) (aCons (e2 pPow (eC (.int 10)) (eC (.int 60))) (aCons (e2 pAdd (e2 pPow (eC (.int 10)) (eC (.int 60))) (eC (.int 1))) (aCons (eN pLst aNil) (aCons (eN pTup aNil) (aCons (eC (.dct [])) (aCons (eN pTup (aCons (eC (.int 0)) (aCons (eC (.int 1)) aNil))) (aCons (eN pTup (aCons (eN pTup (aCons (eC (.int 0)) (aCons (eC (.int 1)) aNil))) aNil)) aNil)))))))))))))))) (sSeq (sAsg (gN 5) (eCallS 1 F__law_pick (aCons (eV 5) aNil))) (sSeq (sAsg (gN 6) (eN pLst (aCons (eV 5) (aCons (eN pLst (aCons (eV 3) (aCons (eV 4) aNil))) (aCons (eN pTup (aCons (eV 3) aNil)) (aCons (eN pTup (aCons (eV 3) (aCons (eV 4) (aCons (eC (.int 0)) aNil)))) (aCons (eN pTup (aCons (eV 5) (aCons (eV 4) aNil))) (aCons (eN pTup (aCons (eV 3) (aCons (eV 5) aNil))) (aCons (eN pTup (aCons (eV 3) (aCons (eN pList (aCons (eV 4) aNil)) aNil))) aNil))))))))) (sSeq (sAsg (gN 6) (e2 pCat (eV 6) (eN pLst (aCons (eN pTup (aCons (eV 3) (aCons (e2 pAdd (eV 4) (eN pTup (aCons (eN pTup (aCons (eV 3) (aCons (e2 pAdd (eV 3) (eC (.int 1))) aNil))) aNil))) aNil))) (aCons (eN pTup (aCons (eV 3) (aCons (e2 pAdd (eV 4) (eV 4)) aNil))) (aCons (eN pTup (aCons (eV 3) (aCons (eN pTup (aCons (eN pTup (aCons (eC (.int 0)) (aCons (eV 3) aNil))) aNil)) aNil))) aNil)))))) (sSeq (sApp 6 (eN pTup (aCons (eV 3) (aCons (eN pTup (aCons (eN pTup (aCons (eC (.int 0)) (aCons (eV 3) aNil))) (aCons (eN pTup (aCons (eV 3) (aCons (eV 3) aNil))) aNil))) aNil)))) (sSeq (sIf (tV (e2 pNe (eV 4) (eN pTup aNil))) (sSeq (sAsg (gT (gsCons (gN 7) (gsCons (gN 8) gsNil))) (e2 pIdx (eV 4) (My.e1 pNeg (eC (.int 1))))) (sSeq (sFor (iSeq (eN pLst (aCons (eV 5) (aCons (eN pTup (aCons (eV 5) (aCons (eV 8) aNil))) (aCons (eN pTup (aCons (eV 7) (aCons (eV 5) aNil))) (aCons (eN pLst (aCons (eV 7) (aCons (eV 8) aNil))) (aCons (eN pTup (aCons (eV 7) aNil)) (aCons (eN pTup (aCons (eV 7) (aCons (eV 8) (aCons (eC (.int 0)) aNil)))) (aCons (eN pTup (aCons (eV 8) (aCons (eV 7) aNil))) aNil))))))))) (gN 9) (sApp 6 (eN pTup (aCons (eV 3) (aCons (e2 pAdd (eSl (eV 4) oNo (oSo (My.e1 pNeg (eC (.int 1))))) (eN pTup (aCons (eV 9) aNil))) aNil))))) (sSeq (sAsg (gN 6) (e2 pCat (eV 6) (eN pLst (aCons (eN pTup (aCons (eV 3) (aCons (e2 pAdd (eV 4) (eN pTup (aCons (eN pTup (aCons (eV 8) (aCons (e2 pAdd (eV 8) (eC (.int 1))) aNil))) aNil))) aNil))) (aCons (eN pTup (aCons (eV 3) (aCons (e2 pAdd (eV 4) (eN pTup (aCons (eN pTup (aCons (e2 pAdd (eV 8) (eC (.int 1))) (aCons (e2 pAdd (eV 8) (eC (.int 2))) aNil))) aNil))) aNil))) (aCons (eN pTup (aCons (e2 pSub (eV 8) (eC (.int 1))) (aCons (eV 4) aNil))) aNil)))))) (sAsg (gN 6) (e2 pCat (eV 6) (eN pLst (aCons (eN pTup (aCons (eV 3) (aCons (e2 pAdd (eN pTup (aCons (eN pTup (aCons (e2 pSub (eV 8) (eC (.int 1))) (aCons (eV 8) aNil))) aNil)) (eV 4)) aNil))) (aCons (eN pTup (aCons (eV 8) (aCons (eV 4) aNil))) (aCons (eN pTup (aCons (eV 3) (aCons (My.e1 pBack (eV 4)) aNil))) aNil))))))))) sNil) (sSeq (sIf (tV (e2 pEq (eCallS 1 F__law_draw (aCons (eC (.int 6)) aNil)) (eC (.int 0)))) (sRet (eCallS 1 F__law_pick (aCons (eN pLst (aCons (eC .non) (aCons (eN pTup aNil) (aCons (eN pTuple (aCons (eV 1) aNil)) (aCons (e2 pMul (eV 1) (eC (.int 3))) (aCons (eN pLst aNil) (aCons (eC (.dct [])) (aCons (e2 pIdx (eV 1) (eC (.int 0))) (aCons (eC (.str (PySem.Str.ofString "families"))) (aCons (eC (.int 0)) aNil)))))))))) aNil))) sNil) (sRet (e2 pAdd (e2 pAdd (eSl (eV 1) oNo (oSo (eV 2))) (eN pLst (aCons (eCallS 1 F__law_pick (aCons (eV 6) aNil)) aNil))) (eSl (eV 1) (oSo (e2 pAdd (eV 2) (eC (.int 1)))) oNo))))))))))))
abbrev F__law_bent := runS f__law_bent 1 8
def f_law : SF := (sSeq (sFor (iSeq (eN pLst (aCons (eC (.int 63)) (aCons (eC (.int 64)) (aCons (eC (.int 65)) aNil))))) (gN 2) (sSeq (sAsg (gN 3) (eN pTup (aCons (eC (.int 200)) (aCons (eN pTuple (aCons (eLc [12] (iRng pRng1 (aCons (eV 2) aNil)) (gN 12) tY (eN pTup (aCons (e2 pMul (eC (.int 3)) (eV 12)) (aCons (e2 pAdd (e2 pMul (eC (.int 3)) (eV 12)) (eC (.int 2))) aNil)))) aNil)) aNil)))) (sSeq (sIf (tO (tN (tT (eCall 1 F__law_right (aCons (eN pLst (aCons (eV 3) aNil)) aNil)))) (tN (tT (eCall 1 F__law_right (aCons (eN pLst (aCons (eN pTup (aCons (eC (.int 7)) (aCons (eN pTup (aCons (eN pTup (aCons (eC (.int 0)) (aCons (eC (.int 3)) aNil))) aNil)) aNil))) (aCons (eV 3) aNil))) aNil))))) (sRet (eC (.bl false))) sNil) (sIf (tO (tN (tT (eCall 1 F__law_right (aCons (eN pLst (aCons (eN pTup (aCons (eC (.int 7)) (aCons (eN pTup (aCons (eN pTup (aCons (eC (.int 0)) (aCons (eC (.int 3)) aNil))) (aCons (eN pTup (aCons (eC (.int 5)) (aCons (eC (.int 6)) aNil))) aNil))) aNil))) (aCons (eV 3) aNil))) aNil)))) (tN (tT (eCall 1 F__law_right (aCons (eN pLst (aCons (eV 3) (aCons (eN pTup (aCons (eC (.int 7)) (aCons (eN pTup aNil) aNil))) aNil))) aNil))))) (sRet (eC (.bl false))) sNil)))) (sSeq (sAsg (gN 4) (eN pTuple (aCons (eLc [12] (iRng pRng1 (aCons (eC (.int 13)) aNil)) (gN 12) tY (eN pTup (aCons (e2 pMul (eC (.int 3)) (eV 12)) (aCons (e2 pAdd (e2 pMul (eC (.int 3)) (eV 12)) (eC (.int 2))) aNil)))) aNil))) (sSeq (sFor (iSeq (eN pLst (aCons (eN pTup (aCons (eN pTup (aCons (eC (.int 50)) (aCons (eV 4) aNil))) (aCons (eN pTup (aCons (eC (.int 17)) (aCons (eSl (eV 4) oNo (oSo (eC (.int 5)))) aNil))) aNil))) (aCons (eN pTup (aCons (eN pTup (aCons (eC (.int 50)) (aCons (eSl (eV 4) oNo (oSo (eC (.int 5)))) aNil))) (aCons (eN pTup (aCons (eC (.int 3)) (aCons (eSl (eV 4) oNo (oSo (eC (.int 1)))) aNil))) aNil))) (aCons (eN pTup (aCons (eN pTup (aCons (eC (.int 50)) (aCons (eSl (eV 4) oNo (oSo (eC (.int 2)))) aNil))) (aCons (eN pTup (aCons (eC (.int 9)) (aCons (eSl (eV 4) oNo (oSo (eC (.int 2)))) aNil))) aNil))) aNil))))) (gT (gsCons (gN 5) (gsCons (gN 6) gsNil))) (sIf (tO (tN (tT (eCall 1 F__law_right (aCons (eN pLst (aCons (eV 5) (aCons (eV 6) aNil))) aNil)))) (tO (tN (tT (eCall 1 F__law_right (aCons (eN pLst (aCons (eV 6) (aCons (eV 5) aNil))) aNil)))) (tN (tT (eCall 1 F__law_right (aCons (eN pLst (aCons (eV 5) aNil)) aNil)))))) (sRet (eC (.bl false))) sNil)) (sSeq (sFor (iRng pRng1 (aCons (eC (.int 30)) aNil)) (gN 7) (sSeq (sAsg (gN 8) (eLc [12] (iRng pRng1 (aCons (e2 pAdd (eC (.int 1)) (eCallS 1 F__law_draw (aCons (eC (.int 2)) aNil))) aNil)) (gN 12) tY (eCallS 1 F__law_family (aCons (e2 pIdx (eN pLst (aCons (eC (.int 20)) (aCons (e2 pPow (eC (.int 10)) (eC (.int 60))) aNil))) (e2 pMod (eV 7) (eC (.int 2)))) aNil)))) (sSeq (sIf (tO (tN (tT (eCall 1 F__law_are_families (aCons (eV 8) aNil)))) (tO (tN (tT (eCall 1 F__law_right (aCons (eV 8) aNil)))) (tN (tT (eCall 1 F__law_right (aCons (eCallS 1 F__law_bent (aCons (eV 8) aNil)) aNil)))))) (sRet (eC (.bl false))) sNil) (sFor (iSeq (eN pLst (aCons (eC (.bl true)) (aCons (eC (.bl false)) (aCons (eC (.str (PySem.Str.ofString "1"))) (aCons (eN pLst aNil) (aCons (eN pTup (aCons (eC (.int 1)) aNil)) (aCons (e2 pSub (My.e1 pNeg (eC (.int 1))) (eV 7)) aNil)))))))) (gN 9) (sSeq (sAsg (gN 10) (eC .non)) (sSeq (sTry kls "InvalidNumber" 11 10 (sDrop (eCall 2 F_below (aCons (eV 8) (aCons (eV 9) aNil))))) (sIf (tV (e2 pIs (eV 10) (eC .non))) (sRet (eC (.bl false))) sNil))))))) (sRet (eC (.bl true)))))))
end My

set_option linter.all false
set_option autoImplicit false
set_option maxRecDepth 100000
set_option maxHeartbeats 4000000
namespace My
open PySem PySem.Spec PyProof.Rows L2
local macro_rules | `(tactic| walk_at "bn") => `(tactic| repeat (first | (with_reducible assumption) | (with_reducible apply Bn.mul) | (with_reducible apply Bn.add) | (with_reducible apply Bn.sub) | (with_reducible apply Bn.div) | (with_reducible apply Bn.mod) | (with_reducible apply bn2) | (with_reducible apply bn1) | (with_reducible apply bn3) | (with_reducible apply bn0) | (with_reducible apply bn10) | exact Bn.lit rfl))
local macro_rules | `(tactic| walk_at "sm") => `(tactic| first | (with_reducible assumption) | ((with_reducible apply sm_bn); (focus walk_at "bn"); decide) | ((with_reducible apply bd_bn); (focus walk_at "bn"); decide) | omega)
local macro_rules | `(tactic| walk_at "pp") => `(tactic| first | (with_reducible apply pAdd_int) | (with_reducible apply pSub_int) | (with_reducible apply pLt_int) | (with_reducible apply pLe_int) | (with_reducible apply pGt_int) | (with_reducible apply pGe_int) | (with_reducible apply pNeg_int) | (with_reducible apply pAdd'_int) | (with_reducible apply pEq_int) | (with_reducible apply pNe_int) | ((with_reducible apply pMul_int) <;> walk_at "sm") | ((with_reducible apply pDiv_int) <;> walk_at "sm") | ((with_reducible apply pMod_int) <;> walk_at "sm") | exact rfl)
local macro_rules | `(tactic| walk_at "ev") => `(tactic| first | (with_reducible apply ev_c) | ((with_reducible apply ev_v); exact rfl) | (with_reducible apply av_nil) | (with_reducible apply tv_y) | ((with_reducible apply ev_2); (focus walk_at "ev"); (focus walk_at "ev"); (focus walk_at "pp")) | ((with_reducible apply ev_n); (focus walk_at "ev"); (focus walk_at "pp")) | ((with_reducible apply av_cons); (focus walk_at "ev"); (focus walk_at "ev")) | ((with_reducible apply ev_1); (focus walk_at "ev"); (focus walk_at "pp")) | ((with_reducible apply tv_v); (focus walk_at "ev")) | ((with_reducible apply ev_not); (focus walk_at "ev")) | ((with_reducible apply tv_n); (focus walk_at "ev")) | ((with_reducible apply iv_seq); (focus walk_at "ev"); exact rfl) | ((with_reducible apply iv_rng); (focus walk_at "ev"); exact rfl) | ((with_reducible apply iv_rev); (focus walk_at "ev")))
local macro_rules | `(tactic| walk_at "sv") => `(tactic| first | ((with_reducible apply sv_set); (focus walk_at "ev")) | ((with_reducible apply sv_asg); (focus walk_at "ev"); exact rfl) | ((with_reducible apply sv_par2); (focus walk_at "ev")) | ((with_reducible apply sv_par3); (focus walk_at "ev")) | ((with_reducible apply sv_ret); (focus walk_at "ev")) | ((with_reducible apply sv_drop); (focus walk_at "ev")) | (with_reducible apply sv_nil))
local macro_rules | `(tactic| walk_at "ls") => `(tactic| try simp only [startR, List.map_cons, List.map_nil, List.replicate, List.cons_append, List.nil_append, List.set_cons_zero, List.set_cons_succ])
local macro_rules | `(tactic| walk_at "go") => `(tactic| repeat ((with_reducible apply sv_seq); (focus walk_at "sv"); walk_at "ls"))
local macro_rules | `(tactic| simp! [$ts,*]) => `(tactic| simp only [z_callSV, z_callV, z_asv1, z_asv2, z_asv3, z_av1, z_av2, z_av3, z_noL, z_noLE, z_noL0, z_noL0E, z_idx1, z_idxK, z_while, z_try, z_tryN, z_tryR, z_apK, z_apK1, z_putK, z_putK1, z_putL, z_cnt1, z_cntK, List.getElem?_cons_zero, List.getElem?_cons_succ, z_iAnd, z_iOr, z_iAndB, z_iOrB, z_seqF, z_sqFN, z_sqFE, z_bind, z_bindE, z_opt, z_lift, z_liftE, z_c, z_v0, z_vS, z_1, z_2, z_n, z_nil, z_cons, z_call, z_callS, z_ap0, z_ap1, z_ap2, z_ap3, z_ap4, z_ap5, z_ap6, z_as0, z_as1, z_as2, z_as3, z_as4, z_as5, z_not, z_and, z_or, z_ife, z_chain, z_toB, z_tV, z_tT, z_tN, z_tA, z_tO, z_tY, z_trB, z_trI, z_trN, z_trL, z_trT, z_sl, z_oNo, z_oSo, z_toI, z_slL, z_slT, z_stm, z_stmE, z_skip, z_seq, z_sqN, z_sqR, z_sqE, z_sqB, z_sqC, z_gN, z_gT, z_gL, z_gsC, z_gsN, z_asg, z_asgS, z_par2, z_par3, z_drop, z_ret, z_retN, z_brk, z_cnt, z_if, z_raise, z_for, z_lp0, z_lpN, z_lpC, z_lpB, z_lpR, z_lpE, z_iseq, z_sqL, z_sqT, z_rng, z_finN, z_finR, z_finE, z_finSN, z_finSR, z_finSE, z_lenL, z_lenT, z_t0, z_l0, z_t1, z_l1, z_t2, z_l2, z_ln1, z_tup0, z_tup1, z_tup2, z_tup3, z_tup4, z_lst0, z_lst1, z_lst2, z_lst3, z_lst4, z_tupleL, z_tupleT, z_listL, z_listT, z_isN, z_nisN, z_nonI, z_nonN, z_nonT, z_nonL, z_nonE, z_nonS, z_nonB, z_start1, z_start0, z_start2, z_start3, z_start4, z_start5, z_start6, z_int, z_intB, pAdd_int, pAdd'_int, pSub_int, pLt_int, pLe_int, pGt_int, pGe_int, pEq_int, pNe_int, pNeg_int, List.set_cons_zero, List.set_cons_succ, List.replicate_succ, List.replicate_zero, Option.bind_some, Option.map_some, decide_eq_true_eq, Bool.not_eq_true', decide_eq_false_iff_not, if_true, if_false, ite_true, ite_false, Bool.false_eq_true, reduceIte, Bool.not_true, Bool.not_false, Bool.and_eq_true, Bool.or_eq_true, Bool.decide_eq_true, Bool.decide_and, Bool.decide_or, not_false_eq_true, decide_true, decide_false, Bool.and_true, Bool.and_false, Bool.true_and, Bool.false_and, Bool.or_true, Bool.or_false, Bool.true_or, Bool.false_or, List.length_cons, List.length_nil, Nat.reduceAdd, Nat.reduceLT, not_true_eq_false, true_and, and_true, false_and, and_false, or_true, true_or, or_false, false_or, and_self, or_self, $ts,*])
theorem pick_ok {t : Int} {s : Sst} {us : List U} {n : Nat} (h : Wf t s) (hl : us.length = n) (h0 : 0 < n) (h1 : n ≤ 1000) (ht : t < 1152921504606840000) : ∃ u ∈ us, ∃ s' : Sst, F__law_pick s [.lst us] = .ok u s' ∧ Wf (t + 1) s' := by
  obtain ⟨d, s2, e, d0, d1, w2⟩ := draw_ok (n := n) h (by omega) (Bn.of (by omega) (by omega)) (by omega)
  obtain ⟨d, rfl⟩ := Int.eq_ofNat_of_zero_le d0
  have hd : d < us.length := by omega
  refine ⟨us[d], List.getElem_mem hd, s2, ?_, w2⟩
  have run : f__law_pick [none, some (.lst us)] s = .rt us[d] s2 := by
    refine sv_ret (ev_2 (x := .lst us) (s1 := s) rfl (ev_callS (us := [.int n]) (s1 := s) (av_cons (ev_n (us := [.lst us]) (s1 := s) rfl (by show some (U.int us.length) = _; rw [hl])) av_nil) rfl e) ?_)
    show (ixN us.length (d : Int)).bind (fun j => us[j]?) = _
    rw [ixN, if_pos (show (0 : Int) ≤ d by omega), if_pos (show (d : Int) < us.length by omega), Option.bind_some, Int.toNat_natCast, List.getElem?_eq_getElem hd]
  exact fS_ret rfl run
/-! ### more steps of the plain reading -/
theorem pLt_t {i j : Int} (h : i < j) : pLt (.int i) (.int j) = some (.bl true) := by rw [pLt_int, decide_eq_true h]
theorem pLt_f {i j : Int} (h : ¬ i < j) : pLt (.int i) (.int j) = some (.bl false) := by rw [pLt_int, decide_eq_false h]
theorem pLe_t {i j : Int} (h : i ≤ j) : pLe (.int i) (.int j) = some (.bl true) := by rw [pLe_int, decide_eq_true h]
theorem pLe_f {i j : Int} (h : ¬ i ≤ j) : pLe (.int i) (.int j) = some (.bl false) := by rw [pLe_int, decide_eq_false h]
theorem pGt_t {i j : Int} (h : j < i) : pGt (.int i) (.int j) = some (.bl true) := by rw [pGt_int, decide_eq_true h]
theorem pGt_f {i j : Int} (h : ¬ j < i) : pGt (.int i) (.int j) = some (.bl false) := by rw [pGt_int, decide_eq_false h]
theorem pGe_t {i j : Int} (h : j ≤ i) : pGe (.int i) (.int j) = some (.bl true) := by rw [pGe_int, decide_eq_true h]
theorem pGe_f {i j : Int} (h : ¬ j ≤ i) : pGe (.int i) (.int j) = some (.bl false) := by rw [pGe_int, decide_eq_false h]
theorem pEq_t {i j : Int} (h : i = j) : pEq (.int i) (.int j) = some (.bl true) := by rw [pEq_int, decide_eq_true h]
theorem pEq_f {i j : Int} (h : ¬ i = j) : pEq (.int i) (.int j) = some (.bl false) := by rw [pEq_int, decide_eq_false h]
theorem pNe_t {i j : Int} (h : ¬ i = j) : pNe (.int i) (.int j) = some (.bl true) := by rw [pNe_int, decide_eq_false h]; rfl
theorem pNe_f {i j : Int} (h : i = j) : pNe (.int i) (.int j) = some (.bl false) := by rw [pNe_int, decide_eq_true h]; rfl
/-- what a call that is returned leads to -/
def R0.rs (r : R0) (ρ : Rho) (s : Sst) : RS := match r with
  | .ok u => .rt u s
  | .err d => .er d ρ s
  | .stuck => .stuck
section
variable {ρ ρ1 : Rho} {s s1 : Sst} {a : EF} {as : AF} {us : List U} {A B : SF}
theorem sv_tail {k : Nat} {F : List U → R0} {r : R0} (h : as ρ s = .ok us s1) (hn : us.length = k) (e : F us = r) : sRet (eCall k F as) ρ s = r.rs ρ s1 := by
  subst e
  unfold sRet eCall
  rw [h]
  show ((if us.length = k then (F us).lift s1 else .stuck).stm ρ fun x s => .rt x s) = _
  rw [if_pos hn]
  cases F us <;> rfl
theorem fv_rs {n m : Nat} {r : R0} {ρ1 : Rho} (hn : us.length = n) (h : A (startR us m) dSst = r.rs ρ1 s1) : runF A n m us = r := by
  unfold runF
  rw [if_pos hn, h]
  cases r <;> rfl
theorem sv_retE {d : String} (h : a ρ s = .err d s1) : sRet a ρ s = .er d ρ s1 := by unfold sRet; rw [h]; rfl
theorem sv_asgE {d : String} {g : PF} (h : a ρ s = .err d s1) : sAsg g a ρ s = .er d ρ s1 := by unfold sAsg; rw [h]; rfl
theorem sv_dput {i : Nat} {k : EF} {ds : List (U × U)} {x y : U} {q : Key} {s2 : Sst} (ha : a ρ s = .ok x s1) (e : ρ[i]? = some (some (.dct ds))) (hk : k ρ s1 = .ok y s2) (hq : keyU y = some q) (hl : ds.length < 1000) : sDput i k a ρ s = .nx (ρ.set i (some (.dct (dPutU ds q x)))) s2 := by
  unfold sDput
  rw [ha]
  show (match ρ[i]? with | some (some (.dct us)) => _ | _ => RS.stuck) = _
  rw [e]
  show (k ρ s1).stm ρ _ = _
  rw [hk]
  show (match keyU y with | some q => _ | none => RS.stuck) = _
  rw [hq]
  show (if lineB (ds.length + 1) = true then _ else _) = _
  rw [if_pos (show lineB (ds.length + 1) = true from decide_eq_true (by omega))]
theorem ev_get {d k x : EF} {ds : List (U × U)} {y z : U} {q : Key} (hd : d ρ s = .ok (.dct ds) s) (hk : k ρ s = .ok y s) (hx : x ρ s = .ok z s) (hq : keyU y = some q) : eGet d k x ρ s = .ok ((dLook ds q).getD z) s := by
  unfold eGet
  rw [hd]
  show (k ρ s).bind _ = _
  rw [hk]
  show (x ρ s).bind _ = _
  rw [hx]
  show (match keyU y with | some q => _ | none => R.stuck) = _
  rw [hq]
theorem ev_if {c : TF} {b : EF} {k : Bool} {r : R U} (h : c ρ s = .ok k s1) (h1 : k = true → a ρ s1 = r) (h2 : k = false → b ρ s1 = r) : eIf c a b ρ s = r := by
  unfold eIf
  rw [h]
  show (if k = true then a ρ s1 else b ρ s1) = _
  cases k with
  | true => exact h1 rfl
  | false => exact h2 rfl
end
theorem bn_ten {x : Int} (h0 : 0 ≤ x) (h : x ≤ 10000000000000000000000000000000) : Bn 200 x := Bn.of h0 (by omega)
def isBl (k : Bool) : Option U → Bool
  | some (.bl b) => b == k
  | _ => false
theorem isBl_eq {k : Bool} {r : Option U} (h : isBl k r = true) : r = some (.bl k) := by
  unfold isBl at h
  split at h
  · rw [beq_iff_eq] at h; rw [h]
  · cases h
theorem isBlX {r : R0} {u : U} {k : Bool} {f : U → U → Option U} (h : (match r with | .ok x => isBl k (f x u) | _ => false) = true) : ∃ x, r = .ok x ∧ f x u = some (.bl k) := by
  cases r with
  | ok x => exact ⟨x, rfl, isBl_eq h⟩
  | err c => cases h
  | stuck => cases h
/-! ### whole numbers in a row -/
def irange (a b : Int) : List Int := (List.range (b - a).toNat).map fun k : Nat => a + (k : Int)
theorem irange_nil {a b : Int} (h : b ≤ a) : irange a b = [] := by
  unfold irange
  rw [show (b - a).toNat = 0 by omega]
  rfl
theorem irange_cons {a b : Int} (h : a < b) : irange a b = a :: irange (a + 1) b := by
  unfold irange
  rw [show (b - a).toNat = (b - (a + 1)).toNat + 1 by omega, List.range_succ_eq_map, List.map_cons, List.map_map]
  have e : (fun k : Nat => a + (k : Int)) ∘ Nat.succ = fun k : Nat => a + 1 + (k : Int) := by
    funext k
    show a + ((k + 1 : Nat) : Int) = _
    push_cast
    omega
  rw [e]
  show (a + ((0 : Nat) : Int)) :: _ = _
  rw [show a + ((0 : Nat) : Int) = a by omega]
theorem mem_irange {a b x : Int} : x ∈ irange a b ↔ a ≤ x ∧ x < b := by
  unfold irange
  rw [List.mem_map]
  constructor
  · rintro ⟨k, hk, rfl⟩
    have := List.mem_range.mp hk
    omega
  · rintro ⟨h1, h2⟩
    exact ⟨(x - a).toNat, List.mem_range.mpr (by omega), by omega⟩
theorem irange_len (a b : Int) : (irange a b).length = (b - a).toNat := by
  unfold irange
  rw [List.length_map, List.length_range]
theorem irange_split {c : Int} : ∀ (n : Nat) (a : Int), a + n ≤ c → irange a c = irange a (a + n) ++ irange (a + n) c
  | 0, a, h => by rw [irange_nil (a := a) (b := a + (0 : Nat)) (by omega), List.nil_append, show a + ((0 : Nat) : Int) = a by omega]
  | n + 1, a, h => by
    have := irange_split (c := c) n (a + 1) (by push_cast at h; omega)
    rw [irange_cons (a := a) (b := c) (by push_cast at h; omega), irange_cons (a := a) (b := a + (n + 1 : Nat)) (by push_cast; omega), this, List.cons_append, show a + 1 + (n : Int) = a + ((n + 1 : Nat) : Int) by push_cast; omega]
theorem irange_app {a b c : Int} (h : a ≤ b) (h' : b ≤ c) : irange a c = irange a b ++ irange b c := by
  have := irange_split (c := c) (b - a).toNat a (by omega)
  rwa [show a + ((b - a).toNat : Int) = b by omega] at this
theorem rng_irange (n : Nat) : (List.range n).map (fun k : Nat => U.int (k : Int)) = (irange 0 (n : Int)).map U.int := by
  unfold irange
  rw [List.map_map, show ((n : Int) - 0).toNat = n by omega]
  refine List.map_congr_left fun k _ => ?_
  show U.int _ = U.int (0 + (k : Int))
  rw [Int.zero_add]
theorem range_irange {m : Int} (h : 0 ≤ m) : ((List.range m.toNat).map fun k : Nat => (k : Int)) = irange 0 m := by
  unfold irange
  rw [show (m - 0).toNat = m.toNat by omega]
  exact List.map_congr_left fun k _ => by omega
/-! ### rising lists -/
theorem allInt_id : ∀ gs : List Int, allInt (gs.map U.int) = some gs
  | [] => rfl
  | g :: gs => by
    show (allInt (gs.map U.int)).map (g :: ·) = _
    rw [allInt_id gs]
    rfl
theorem irange_asc (a b : Int) : (irange a b).Pairwise (· < ·) := by
  unfold irange
  rw [List.pairwise_map]
  exact List.Pairwise.imp (fun h => by omega) List.pairwise_lt_range
theorem lt_nodup {l : List Int} (h : l.Pairwise (· < ·)) : l.Nodup := h.imp fun a => by omega
theorem len_same {L H : List Int} (nd : L.Nodup) (nd' : H.Nodup) (m : ∀ x, x ∈ L ↔ x ∈ H) : L.length = H.length :=
  Nat.le_antisymm (nodup_in L H nd fun x hx => (m x).mp hx) (nodup_in H L nd' fun x hx => (m x).mpr hx)
theorem minF_spec : ∀ (ys : List Int) (y : Int), minF y ys ∈ y :: ys ∧ ∀ w ∈ y :: ys, minF y ys ≤ w
  | [], y => by simp [minF]
  | z :: ys, y => by
    have e : minF y (z :: ys) = minF (if z < y then z else y) ys := by
      unfold minF
      rw [List.foldl_cons]
      congr 1
      by_cases c : z < y <;> simp [c]
    rw [e]
    obtain ⟨h1, h2⟩ := minF_spec ys (if z < y then z else y)
    refine ⟨?_, fun w hw => ?_⟩
    · rcases List.mem_cons.mp h1 with h | h
      · rw [h]; split <;> simp
      · exact List.mem_cons_of_mem _ (List.mem_cons_of_mem _ h)
    · have h0 := h2 _ (List.mem_cons_self)
      rcases List.mem_cons.mp hw with rfl | hw
      · split at h0 <;> split <;> omega
      · rcases List.mem_cons.mp hw with rfl | hw
        · split at h0 <;> split <;> omega
        · exact h2 w (List.mem_cons_of_mem _ hw)
theorem sortZ_hits {L H : List Int} (nd : L.Nodup) (hs : H.Pairwise (· < ·)) (m : ∀ x, x ∈ L ↔ x ∈ H) : sortZ L = H := by
  refine (sortZ_of (ms := H) (ns := L) ?_ (hs.imp fun a => by omega)).symm
  exact (List.perm_ext_iff_of_nodup (lt_nodup hs) nd).mpr fun x => (m x).symm
theorem pSorted_intsL {gs : List Int} : pSorted [.lst (gs.map U.int)] = some (.lst ((sortZ gs).map U.int)) := by
  show (match allInt (gs.map U.int) with | some ns => some (U.lst ((sortZ ns).map .int)) | none => _) = _
  rw [allInt_id]
theorem flat_len {α β γ : Type} (A : List α) (B : List β) (g : α → β → γ) : (A.flatMap fun x => B.map (g x)).length = A.length * B.length := by
  rw [List.length_flatMap]
  have : (A.map fun x => (B.map (g x)).length) = A.map fun _ => B.length := List.map_congr_left fun x _ => by rw [List.length_map]
  rw [this, List.map_const', List.sum_replicate_nat]
theorem flat_lenC {α β : Type} (A : List α) (B : List β) (g : α → β → Int) : (A.flatMap fun x => B.map (g x)).length = A.length * B.length := flat_len A B g
/-! ### a value is like itself -/
mutual
theorem ueq_refl : ∀ (n : Nat) (u : U), U.flat n u = true → ueq u u = true
  | _, .non, _ => by simp [ueq]
  | _, .bl _, _ => by simp [ueq]
  | _, .int _, _ => by simp [ueq]
  | _, .str _, _ => by simp [ueq]
  | n, .ty _, e => by simp [U.flat] at e
  | n, .cls _, e => by simp [U.flat] at e
  | n, .exc _, e => by simp [U.flat] at e
  | 0, .lst us, e => by simp [U.flat] at e
  | n + 1, .lst us, e => by rw [ueq]; exact ueqAll_refl n us (by simpa [U.flat] using e)
  | 0, .tup us, e => by simp [U.flat] at e
  | n + 1, .tup us, e => by rw [ueq]; exact ueqAll_refl n us (by simpa [U.flat] using e)
  | n, .dct _, e => by simp [U.flat] at e
theorem ueqAll_refl : ∀ (n : Nat) (us : List U), U.flatAll n us = true → ueqAll us us = true
  | n, [], _ => by simp [ueqAll]
  | n, u :: us, e => by
    simp only [U.flatAll, Bool.and_eq_true] at e
    rw [ueqAll, ueq_refl n u e.1, ueqAll_refl n us e.2]
    rfl
end
theorem pNe_self {a : U} (h : U.flat 40 a = true) : pNe a a = some (.bl false) := by
  have d : deepB a a = true := by unfold deepB; rw [h]; rfl
  show (if deepB a a = true then some (U.bl (!ueq a a)) else none) = _
  rw [if_pos d, ueq_refl 40 a h]
  rfl
theorem pEq_self {a : U} (h : U.flat 40 a = true) : pEq a a = some (.bl true) := by
  have d : deepB a a = true := by unfold deepB; rw [h]; rfl
  show (if deepB a a = true then some (U.bl (ueq a a)) else none) = _
  rw [if_pos d, ueq_refl 40 a h]
def isV (w : U) : R0 → Bool
  | .ok u => deepB u w && ueq u w
  | _ => false
theorem isV_ok {w : U} {r : R0} (h : isV w r = true) : ∃ u, r = .ok u ∧ pNe u w = some (.bl false) ∧ pEq u w = some (.bl true) := by
  cases r with
  | ok u =>
    unfold isV at h
    rw [Bool.and_eq_true] at h
    refine ⟨u, rfl, ?_, ?_⟩
    · show (if deepB u w = true then some (U.bl (!ueq u w)) else none) = _
      rw [if_pos h.1, h.2]
      rfl
    · show (if deepB u w = true then some (U.bl (ueq u w)) else none) = _
      rw [if_pos h.1, h.2]
  | err c => cases h
  | stuck => cases h
/-! ### drawn deals -/
theorem lc_st {g : PF} {a : EF} {ρ : Rho} {us : List U} (Q : U → Prop) (I : Nat → Sst → Prop) (h : ∀ i u s, us[i]? = some u → I i s → ∃ ρ1 y s', g u ρ = some ρ1 ∧ a ρ1 s = .ok y s' ∧ Q y ∧ I (i + 1) s') (hl : us.length ≤ 1000) {s : Sst} (h0 : I 0 s) : ∃ ys s', lcF g tY a us ρ s [] = .ok ys s' ∧ ys.length = us.length ∧ (∀ y ∈ ys, Q y) ∧ I us.length s' := by
  have key : ∀ (n i : Nat) (acc : List U) (s : Sst), us.length - i = n → i ≤ us.length → acc.length = i → (∀ y ∈ acc, Q y) → I i s → ∃ ys s', lcF g tY a (us.drop i) ρ s acc = .ok ys s' ∧ ys.length = us.length ∧ (∀ y ∈ ys, Q y) ∧ I us.length s' := by
    intro n
    induction n with
    | zero =>
      intro i acc s e hi ha hQ hI
      have : i = us.length := by omega
      subst this
      exact ⟨acc, s, by rw [List.drop_length]; rfl, ha, hQ, hI⟩
    | succ n ih =>
      intro i acc s e hi ha hQ hI
      have hlt : i < us.length := by omega
      obtain ⟨ρ1, y, s2, e1, e2, e3, e4⟩ := h i us[i] s (List.getElem?_eq_getElem hlt) hI
      obtain ⟨ys, s', e5, e6⟩ := ih (i + 1) (acc ++ [y]) s2 (by omega) hlt (by rw [List.length_append, ha]; rfl) (fun z hz => by
        rcases List.mem_append.mp hz with hz | hz
        · exact hQ z hz
        · rw [List.mem_singleton] at hz; subst hz; exact e3) e4
      refine ⟨ys, s', ?_, e6⟩
      rw [List.drop_eq_getElem_cons hlt]
      unfold lcF
      rw [e1]
      show (a ρ1 s).bind _ = _
      rw [e2]
      show (if lineB (acc.length + 1) = true then lcF g tY a (us.drop (i + 1)) ρ s2 (acc ++ [y]) else .stuck) = _
      rw [if_pos (show lineB (acc.length + 1) = true from decide_eq_true (by omega)), e5]
  have := key us.length 0 [] s rfl (Nat.zero_le _) rfl (by simp) h0
  rwa [List.drop_zero] at this
theorem ev_lcS {vs : List Nat} {i : AF} {g : PF} {a : EF} {ρ : Rho} {s s1 : Sst} {us : List U} (Q : U → Prop) (I : Nat → Sst → Prop) (hi : i ρ s = .ok us s1) (h : ∀ i u s, us[i]? = some u → I i s → ∃ ρ1 y s', g u (wipeR ρ vs) = some ρ1 ∧ a ρ1 s = .ok y s' ∧ Q y ∧ I (i + 1) s') (hl : us.length ≤ 1000) (h0 : I 0 s1) : ∃ ys s', eLc vs i g tY a ρ s = .ok (.lst ys) s' ∧ ys.length = us.length ∧ (∀ y ∈ ys, Q y) ∧ I us.length s' := by
  obtain ⟨ys, s', e, r⟩ := lc_st Q I h hl h0
  refine ⟨ys, s', ?_, r⟩
  unfold eLc
  rw [hi]
  show ((lcF g tY a us (wipeR ρ vs) s1 []).noerr).bind _ = _
  rw [e]
  rfl
theorem ints_of {P : Int → Prop} : ∀ ys : List U, (∀ y ∈ ys, ∃ g, y = .int g ∧ P g) → ∃ gs : List Int, ys = gs.map U.int ∧ ∀ g ∈ gs, P g
  | [], _ => ⟨[], rfl, by simp⟩
  | y :: ys, h => by
    obtain ⟨g, rfl, hg⟩ := h y (by simp)
    obtain ⟨gs, rfl, hgs⟩ := ints_of ys fun z hz => h z (List.mem_cons_of_mem _ hz)
    refine ⟨g :: gs, rfl, fun z hz => ?_⟩
    rcases List.mem_cons.mp hz with rfl | hz
    · exact hg
    · exact hgs z hz
theorem allInt_ints (gs : List Int) : allInt (gs.map U.int) = some gs := by
  have := allInt_map (fun g : Int => g) gs
  rwa [List.map_id''] at this
  intro _; rfl
theorem ev_lcFI {α : Type} {vs : List Nat} {i : AF} {g : PF} {c : TF} {a : EF} {ρ : Rho} {s s1 : Sst} {l : List α} (q f : α → U) (p : α → Bool) (hi : i ρ s = .ok (l.map q) s1) (h : ∀ x ∈ l, ∃ ρ1, g (q x) (wipeR ρ vs) = some ρ1 ∧ c ρ1 s1 = .ok (p x) s1 ∧ (p x = true → a ρ1 s1 = .ok (f x) s1)) (hl : l.length ≤ 16777216) : eLc vs i g c a ρ s = .ok (.lst ((l.filter p).map f)) s1 := by
  have key : ∀ (ks : List α) (acc : List U), (∀ k ∈ ks, k ∈ l) → acc.length + ks.length ≤ 16777216 → lcF g c a (ks.map q) (wipeR ρ vs) s1 acc = .ok (acc ++ (ks.filter p).map f) s1 := by
    intro ks
    induction ks with
    | nil => intro acc _ _; simp [lcF]
    | cons k ks ih =>
      intro acc hk hl
      obtain ⟨ρ1, e1, e2, e3⟩ := h k (hk k List.mem_cons_self)
      rw [List.length_cons] at hl
      rw [List.map_cons]
      unfold lcF
      rw [e1]
      simp only
      rw [e2]
      cases ep : p k with
      | false =>
        show lcF g c a (ks.map q) (wipeR ρ vs) s1 acc = _
        rw [ih acc (fun v hv => hk v (List.mem_cons_of_mem _ hv)) (by omega), List.filter_cons, if_neg (by rw [ep]; decide)]
      | true =>
        show (a ρ1 s1).bind _ = _
        rw [e3 ep]
        show (if lineB (acc.length + 1) = true then lcF g c a (ks.map q) (wipeR ρ vs) s1 (acc ++ [f k]) else .stuck) = _
        rw [if_pos (show lineB (acc.length + 1) = true from decide_eq_true (by omega)), ih (acc ++ [f k]) (fun v hv => hk v (List.mem_cons_of_mem _ hv)) (by rw [List.length_append, List.length_singleton]; omega), List.filter_cons, if_pos ep, List.map_cons, List.append_assoc]
        rfl
  unfold eLc
  rw [hi]
  show ((lcF g c a (l.map q) (wipeR ρ vs) s1 []).noerr).bind _ = _
  rw [key l [] (fun k hk => hk) (by simpa using hl), List.nil_append]
  rfl
/-! ### comprehensions over images -/
theorem ev_lcI {α : Type} {vs : List Nat} {i : AF} {g : PF} {a : EF} {ρ : Rho} {s s1 : Sst} {l : List α} (q f : α → U) (hi : i ρ s = .ok (l.map q) s1) (h : ∀ x ∈ l, ∃ ρ1, g (q x) (wipeR ρ vs) = some ρ1 ∧ a ρ1 s1 = .ok (f x) s1) (hl : l.length ≤ 16777216) : eLc vs i g tY a ρ s = .ok (.lst (l.map f)) s1 := by
  have key : ∀ (ks : List α) (acc : List U), (∀ k ∈ ks, k ∈ l) → acc.length + ks.length ≤ 16777216 → lcF g tY a (ks.map q) (wipeR ρ vs) s1 acc = .ok (acc ++ ks.map f) s1 := by
    intro ks
    induction ks with
    | nil => intro acc _ _; simp [lcF]
    | cons k ks ih =>
      intro acc hk hl
      obtain ⟨ρ1, e1, e2⟩ := h k (hk k List.mem_cons_self)
      rw [List.length_cons] at hl
      rw [List.map_cons, List.map_cons]
      unfold lcF
      rw [e1]
      show (a ρ1 s1).bind _ = _
      rw [e2]
      show (if lineB (acc.length + 1) = true then lcF g tY a (ks.map q) (wipeR ρ vs) s1 (acc ++ [f k]) else .stuck) = _
      rw [if_pos (show lineB (acc.length + 1) = true from decide_eq_true (by omega)), ih (acc ++ [f k]) (fun v hv => hk v (List.mem_cons_of_mem _ hv)) (by rw [List.length_append, List.length_singleton]; omega), List.append_assoc]
      rfl
  unfold eLc
  rw [hi]
  show ((lcF g tY a (l.map q) (wipeR ρ vs) s1 []).noerr).bind _ = _
  rw [key l [] (fun k hk => hk) (by simpa using hl), List.nil_append]
  rfl
/-! ### pairs of whole numbers as values -/
def pcU (p : Int × Int) : U := .tup [.int p.1, .int p.2]
theorem allBl_map {α : Type} (f : α → Bool) : ∀ l : List α, allBl (l.map fun x => U.bl (f x)) = some (l.map f)
  | [] => rfl
  | x :: l => by
    show (allBl (l.map fun x => U.bl (f x))).map _ = _
    rw [allBl_map f l]
    rfl
theorem pAll_map {α : Type} (f : α → Bool) (l : List α) : pAll [.lst (l.map fun x => U.bl (f x))] = some (.bl (l.all f)) := by
  show (allBl (l.map fun x => U.bl (f x))).map _ = _
  rw [allBl_map, Option.map_some, List.all_map]
  rfl
theorem zip_U (ps : List (Int × Int)) (es : List Int) : zipU (.tup (ps.map pcU)) (.lst (es.map .int)) = some ((ps.zip es).map fun q => .tup [pcU q.1, .int q.2]) := by
  show some (((ps.map pcU).zip (es.map .int)).map fun p => U.tup [p.1, p.2]) = _
  rw [List.zip_map, List.map_map]
  rfl
theorem flat_pcs : ∀ (n : Nat) (a : List (Int × Int)), U.flatAll (n + 2) (a.map pcU) = true
  | n, [] => by simp [U.flatAll]
  | n, p :: a => by
    rw [List.map_cons, U.flatAll, flat_pcs n a]
    simp [pcU, U.flat, U.flatAll]
theorem ueq_pcs : ∀ a b : List (Int × Int), ueqAll (a.map pcU) (b.map pcU) = decide (a = b)
  | [], [] => by simp [ueqAll]
  | [], _ :: _ => by simp [ueqAll]
  | _ :: _, [] => by simp [ueqAll]
  | (x, y) :: a, (x', y') :: b => by
    rw [List.map_cons, List.map_cons, ueqAll, ueq_pcs a b]
    simp only [pcU, ueq, ueqAll, Bool.and_true]
    rw [Bool.eq_iff_iff]
    simp only [Bool.and_eq_true, beq_iff_eq, decide_eq_true_eq, List.cons.injEq, Prod.mk.injEq]
/-! ### comprehensions of two lists -/
theorem lcF_I {α : Type} {g : PF} {a : EF} {ρ : Rho} {s1 : Sst} (q f : α → U) : ∀ (ks : List α) (acc : List U), (∀ x ∈ ks, ∃ ρ1, g (q x) ρ = some ρ1 ∧ a ρ1 s1 = .ok (f x) s1) → acc.length + ks.length ≤ 16777216 → lcF g tY a (ks.map q) ρ s1 acc = .ok (acc ++ ks.map f) s1 := by
  intro ks
  induction ks with
  | nil => intro acc _ _; simp [lcF]
  | cons k ks ih =>
    intro acc hk hl
    obtain ⟨ρ1, e1, e2⟩ := hk k List.mem_cons_self
    rw [List.length_cons] at hl
    rw [List.map_cons, List.map_cons]
    unfold lcF
    rw [e1]
    show (a ρ1 s1).bind _ = _
    rw [e2]
    show (if lineB (acc.length + 1) = true then lcF g tY a (ks.map q) ρ s1 (acc ++ [f k]) else .stuck) = _
    rw [if_pos (show lineB (acc.length + 1) = true from decide_eq_true (by omega)), ih (acc ++ [f k]) (fun v hv => hk v (List.mem_cons_of_mem _ hv)) (by rw [List.length_append, List.length_singleton]; omega), List.append_assoc]
    rfl
theorem ev_lc2I {α β : Type} {vs vs1 : List Nat} {i i1 : AF} {g g1 : PF} {a : EF} {ρ : Rho} {s s1 : Sst} {l : List α} {m : List β} (q : α → U) (q2 : β → U) (f : α → β → U) (hi : i ρ s = .ok (l.map q) s1) (h : ∀ x ∈ l, ∃ ρ1, g (q x) (wipeR ρ vs) = some ρ1 ∧ i1 ρ1 s1 = .ok (m.map q2) s1 ∧ ∀ y ∈ m, ∃ ρ2, g1 (q2 y) (wipeR ρ1 vs1) = some ρ2 ∧ a ρ2 s1 = .ok (f x y) s1) (hl : l.length * m.length ≤ 16777216) : eLc2 vs vs1 i g tY i1 g1 tY a ρ s = .ok (.lst (l.flatMap fun x => m.map (f x))) s1 := by
  have key : ∀ (ks : List α) (acc : List U), (∀ x ∈ ks, x ∈ l) → acc.length + ks.length * m.length ≤ 16777216 → lc2F vs1 g tY i1 g1 tY a (ks.map q) (wipeR ρ vs) s1 acc = .ok (acc ++ ks.flatMap fun x => m.map (f x)) s1 := by
    intro ks
    induction ks with
    | nil => intro acc _ _; simp [lc2F]
    | cons k ks ih =>
      intro acc hk hl
      obtain ⟨ρ1, e1, e2, e3⟩ := h k (hk k List.mem_cons_self)
      rw [List.length_cons, Nat.succ_mul] at hl
      rw [List.map_cons]
      unfold lc2F
      rw [e1]
      show ((i1 ρ1 s1).bind fun ws s => lcF g1 tY a ws (wipeR ρ1 vs1) s acc).bind _ = _
      rw [e2]
      show (lcF g1 tY a (m.map q2) (wipeR ρ1 vs1) s1 acc).bind _ = _
      rw [lcF_I q2 (f k) m acc e3 (by omega)]
      show lc2F vs1 g tY i1 g1 tY a (ks.map q) (wipeR ρ vs) s1 (acc ++ m.map (f k)) = _
      rw [ih (acc ++ m.map (f k)) (fun v hv => hk v (List.mem_cons_of_mem _ hv)) (by rw [List.length_append, List.length_map]; omega), List.flatMap_cons, List.append_assoc]
  unfold eLc2
  rw [hi]
  show ((lc2F vs1 g tY i1 g1 tY a (l.map q) (wipeR ρ vs) s1 []).noerr).bind _ = _
  rw [key l [] (fun _ h => h) (by simpa using hl), List.nil_append]
  rfl
end My

set_option linter.all false
set_option autoImplicit false
set_option maxRecDepth 100000
set_option maxHeartbeats 4000000
namespace My
open PySem PySem.Spec PyProof.Rows L2
local macro_rules | `(tactic| walk_at "bn") => `(tactic| repeat (first | (with_reducible assumption) | (with_reducible apply Bn.mul) | (with_reducible apply Bn.add) | (with_reducible apply Bn.sub) | (with_reducible apply Bn.div) | (with_reducible apply Bn.mod) | (with_reducible apply bn2) | (with_reducible apply bn1) | (with_reducible apply bn3) | (with_reducible apply bn0) | (with_reducible apply bn10) | exact Bn.lit rfl))
local macro_rules | `(tactic| walk_at "sm") => `(tactic| first | (with_reducible assumption) | ((with_reducible apply sm_bn); (focus walk_at "bn"); decide) | ((with_reducible apply bd_bn); (focus walk_at "bn"); decide) | omega)
local macro_rules | `(tactic| walk_at "pp") => `(tactic| first | (with_reducible apply pAdd_int) | (with_reducible apply pSub_int) | (with_reducible apply pLt_int) | (with_reducible apply pLe_int) | (with_reducible apply pGt_int) | (with_reducible apply pGe_int) | (with_reducible apply pNeg_int) | (with_reducible apply pAdd'_int) | (with_reducible apply pEq_int) | (with_reducible apply pNe_int) | ((with_reducible apply pMul_int) <;> walk_at "sm") | ((with_reducible apply pDiv_int) <;> walk_at "sm") | ((with_reducible apply pMod_int) <;> walk_at "sm") | exact rfl)
local macro_rules | `(tactic| walk_at "ev") => `(tactic| first | (with_reducible apply ev_c) | ((with_reducible apply ev_v); exact rfl) | (with_reducible apply av_nil) | (with_reducible apply tv_y) | ((with_reducible apply ev_2); (focus walk_at "ev"); (focus walk_at "ev"); (focus walk_at "pp")) | ((with_reducible apply ev_n); (focus walk_at "ev"); (focus walk_at "pp")) | ((with_reducible apply av_cons); (focus walk_at "ev"); (focus walk_at "ev")) | ((with_reducible apply ev_1); (focus walk_at "ev"); (focus walk_at "pp")) | ((with_reducible apply tv_v); (focus walk_at "ev")) | ((with_reducible apply ev_not); (focus walk_at "ev")) | ((with_reducible apply tv_n); (focus walk_at "ev")) | ((with_reducible apply iv_seq); (focus walk_at "ev"); exact rfl) | ((with_reducible apply iv_rng); (focus walk_at "ev"); exact rfl) | ((with_reducible apply iv_rev); (focus walk_at "ev")))
local macro_rules | `(tactic| walk_at "sv") => `(tactic| first | ((with_reducible apply sv_set); (focus walk_at "ev")) | ((with_reducible apply sv_asg); (focus walk_at "ev"); exact rfl) | ((with_reducible apply sv_par2); (focus walk_at "ev")) | ((with_reducible apply sv_par3); (focus walk_at "ev")) | ((with_reducible apply sv_ret); (focus walk_at "ev")) | ((with_reducible apply sv_drop); (focus walk_at "ev")) | (with_reducible apply sv_nil))
local macro_rules | `(tactic| walk_at "ls") => `(tactic| try simp only [startR, List.map_cons, List.map_nil, List.replicate, List.cons_append, List.nil_append, List.set_cons_zero, List.set_cons_succ])
local macro_rules | `(tactic| walk_at "go") => `(tactic| repeat ((with_reducible apply sv_seq); (focus walk_at "sv"); walk_at "ls"))
local macro_rules | `(tactic| simp! [$ts,*]) => `(tactic| simp only [z_callSV, z_callV, z_asv1, z_asv2, z_asv3, z_av1, z_av2, z_av3, z_noL, z_noLE, z_noL0, z_noL0E, z_idx1, z_idxK, z_while, z_try, z_tryN, z_tryR, z_apK, z_apK1, z_putK, z_putK1, z_putL, z_cnt1, z_cntK, List.getElem?_cons_zero, List.getElem?_cons_succ, z_iAnd, z_iOr, z_iAndB, z_iOrB, z_seqF, z_sqFN, z_sqFE, z_bind, z_bindE, z_opt, z_lift, z_liftE, z_c, z_v0, z_vS, z_1, z_2, z_n, z_nil, z_cons, z_call, z_callS, z_ap0, z_ap1, z_ap2, z_ap3, z_ap4, z_ap5, z_ap6, z_as0, z_as1, z_as2, z_as3, z_as4, z_as5, z_not, z_and, z_or, z_ife, z_chain, z_toB, z_tV, z_tT, z_tN, z_tA, z_tO, z_tY, z_trB, z_trI, z_trN, z_trL, z_trT, z_sl, z_oNo, z_oSo, z_toI, z_slL, z_slT, z_stm, z_stmE, z_skip, z_seq, z_sqN, z_sqR, z_sqE, z_sqB, z_sqC, z_gN, z_gT, z_gL, z_gsC, z_gsN, z_asg, z_asgS, z_par2, z_par3, z_drop, z_ret, z_retN, z_brk, z_cnt, z_if, z_raise, z_for, z_lp0, z_lpN, z_lpC, z_lpB, z_lpR, z_lpE, z_iseq, z_sqL, z_sqT, z_rng, z_finN, z_finR, z_finE, z_finSN, z_finSR, z_finSE, z_lenL, z_lenT, z_t0, z_l0, z_t1, z_l1, z_t2, z_l2, z_ln1, z_tup0, z_tup1, z_tup2, z_tup3, z_tup4, z_lst0, z_lst1, z_lst2, z_lst3, z_lst4, z_tupleL, z_tupleT, z_listL, z_listT, z_isN, z_nisN, z_nonI, z_nonN, z_nonT, z_nonL, z_nonE, z_nonS, z_nonB, z_start1, z_start0, z_start2, z_start3, z_start4, z_start5, z_start6, z_int, z_intB, pAdd_int, pAdd'_int, pSub_int, pLt_int, pLe_int, pGt_int, pGe_int, pEq_int, pNe_int, pNeg_int, List.set_cons_zero, List.set_cons_succ, List.replicate_succ, List.replicate_zero, Option.bind_some, Option.map_some, decide_eq_true_eq, Bool.not_eq_true', decide_eq_false_iff_not, if_true, if_false, ite_true, ite_false, Bool.false_eq_true, reduceIte, Bool.not_true, Bool.not_false, Bool.and_eq_true, Bool.or_eq_true, Bool.decide_eq_true, Bool.decide_and, Bool.decide_or, not_false_eq_true, decide_true, decide_false, Bool.and_true, Bool.and_false, Bool.true_and, Bool.false_and, Bool.or_true, Bool.or_false, Bool.true_or, Bool.false_or, List.length_cons, List.length_nil, Nat.reduceAdd, Nat.reduceLT, not_true_eq_false, true_and, and_true, false_and, and_false, or_true, true_or, or_false, false_or, and_self, or_self, $ts,*])
/-! ### closed calls: what they give, by the kernel's run of the plain reading -/
mutual
def U.sm : U → U → Bool
  | .non, .non => true
  | .bl a, .bl b => a == b
  | .int a, .int b => a == b
  | .str a, .str b => decide (a = b)
  | .exc a, .exc b => decide (a = b)
  | .lst as, .lst bs => U.sms as bs
  | .tup as, .tup bs => U.sms as bs
  | _, _ => false
def U.sms : List U → List U → Bool
  | [], [] => true
  | a :: as, b :: bs => U.sm a b && U.sms as bs
  | _, _ => false
end
mutual
theorem U.sm_eq : ∀ a b : U, U.sm a b = true → a = b
  | .lst as, b, h => by
    cases b with
    | lst bs => exact congrArg U.lst (U.sms_eq as bs (by simpa [U.sm] using h))
    | _ => simp [U.sm] at h
  | .tup as, b, h => by
    cases b with
    | tup bs => exact congrArg U.tup (U.sms_eq as bs (by simpa [U.sm] using h))
    | _ => simp [U.sm] at h
  | .non, b, h => by cases b <;> simp [U.sm] at h ⊢
  | .bl a, b, h => by cases b <;> simp [U.sm] at h ⊢; exact h
  | .int a, b, h => by cases b <;> simp [U.sm] at h ⊢; exact h
  | .str a, b, h => by cases b <;> simp [U.sm] at h ⊢; exact h
  | .exc a, b, h => by cases b <;> simp [U.sm] at h ⊢; exact h
  | .ty a, b, h => by cases b <;> simp [U.sm] at h
  | .cls a, b, h => by cases b <;> simp [U.sm] at h
  | .dct a, b, h => by cases b <;> simp [U.sm] at h
theorem U.sms_eq : ∀ as bs : List U, U.sms as bs = true → as = bs
  | [], bs, h => by cases bs <;> simp [U.sms] at h ⊢
  | a :: as, [], h => by simp [U.sms] at h
  | a :: as, b :: bs, h => by
    simp only [U.sms, Bool.and_eq_true] at h
    rw [U.sm_eq a b h.1, U.sms_eq as bs h.2]
end
def R0.sm : R0 → U → Bool
  | .ok u, w => U.sm u w
  | _, _ => false
def R0.errs : R0 → String → Bool
  | .err c, d => decide (c = d)
  | _, _ => false
theorem at_ok {r : R0} {w : U} (h : R0.sm r w = true) : r = .ok w := by
  cases r with
  | ok u => exact congrArg R0.ok (U.sm_eq u w h)
  | _ => cases h
theorem at_err {r : R0} {c : String} (h : R0.errs r c = true) : r = .err c := by
  cases r with
  | err d => exact congrArg R0.err (of_decide_eq_true h)
  | _ => cases h
theorem pEq_closed {a b : U} {r : Bool} (h : (deepB a b && (ueq a b == r)) = true) : pEq a b = some (.bl r) := by
  rw [Bool.and_eq_true, beq_iff_eq] at h
  show (if deepB a b then some (U.bl (ueq a b)) else none) = _
  rw [if_pos h.1, h.2]
theorem pNe_closed {a b : U} {r : Bool} (h : (deepB a b && (ueq a b == !r)) = true) : pNe a b = some (.bl r) := by
  rw [Bool.and_eq_true, beq_iff_eq] at h
  show (if deepB a b then some (U.bl (!ueq a b)) else none) = _
  rw [if_pos h.1, h.2, Bool.not_not]
def U.opt : Option U → U → Bool
  | some u, w => U.sm u w
  | _, _ => false
theorem at_opt {o : Option U} {w : U} (h : U.opt o w = true) : o = some w := by
  cases o with
  | some u => exact congrArg some (U.sm_eq u w h)
  | none => cases h
/-! ### values without types and classes -/
mutual
/-- no type, no class, no error within -/
def plV : U → Bool
  | .ty _ => false
  | .cls _ => false
  | .exc _ => false
  | .lst us => plVs us
  | .tup us => plVs us
  | _ => true
def plVs : List U → Bool
  | [] => true
  | u :: us => plV u && plVs us
end
theorem plVs_mem : ∀ {us : List U}, plVs us = true → ∀ u ∈ us, plV u = true
  | [], _, u, hu => by cases hu
  | v :: us, h, u, hu => by
    simp only [plVs, Bool.and_eq_true] at h
    rcases List.mem_cons.mp hu with rfl | hu
    · exact h.1
    · exact plVs_mem h.2 u hu
theorem plVs_of : ∀ {us : List U}, (∀ u ∈ us, plV u = true) → plVs us = true
  | [], _ => rfl
  | v :: us, h => by
    rw [plVs, h v (by simp), plVs_of fun u hu => h u (List.mem_cons_of_mem _ hu)]
    rfl
def isTupU : U → Bool
  | .tup _ => true
  | _ => false
def intU : U → Option Int
  | .int i => some i
  | _ => none
theorem isi_tup {u : U} (h : plV u = true) : pIsiB "tuple" [u, .ty "tuple"] = some (.bl (isTupU u)) := by
  cases u <;> first | rfl | cases h
theorem isi_int {u : U} (h : plV u = true) : F_is_integer [u] = .ok (.bl (intU u).isSome) := by
  cases u with
  | ty _ => cases h
  | cls _ => cases h
  | exc _ => cases h
  | _ => rfl
/-! ### the greatest common divisor -/
theorem gcd_U (a b : Nat) : pGcd [.int (a : Int), .int (b : Int)] = some (.int ((Nat.gcd a b : Nat) : Int)) := by
  show (if decide (0 ≤ (a : Int) ∧ 0 ≤ (b : Int)) then some (U.int ((Nat.gcd ((a : Int).toNat) ((b : Int).toNat) : Nat) : Int)) else none) = _
  rw [if_pos (decide_eq_true ⟨by omega, by omega⟩), Int.toNat_natCast, Int.toNat_natCast]
/-! ### fractions -/
theorem fraction_ok {a b : Nat} (hb : 0 < b) (bb : Bn 2000 (b : Int)) : F_fraction [.int (a : Int), .int (b : Int)] = .ok (.tup [.int ((a : Int) / ((Nat.gcd a b : Nat) : Int)), .int ((b : Int) / ((Nat.gcd a b : Nat) : Int))]) := by
  have gp : 0 < Nat.gcd a b := Nat.gcd_pos_of_pos_right _ hb
  have gl : Nat.gcd a b ≤ b := Nat.gcd_le_right _ hb
  have bg : Bn 2000 ((Nat.gcd a b : Nat) : Int) := Bn.le (by omega) (by omega) bb
  refine fv_ret (s1 := dSst) rfl (sv_seq (s1 := dSst) (ρ1 := [some (.int (a : Int)), some (.int (b : Int)), some (.int ((Nat.gcd a b : Nat) : Int))]) (sv_set (ev_n (us := [.int (a : Int), .int (b : Int)]) (s1 := dSst) rfl (gcd_U _ _))) (sv_ret ?_))
  exact ev_n (us := [.int ((a : Int) / ((Nat.gcd a b : Nat) : Int)), .int ((b : Int) / ((Nat.gcd a b : Nat) : Int))]) (s1 := dSst) (av_cons (s1 := dSst) (ev_2 (x := .int (a : Int)) (y := .int ((Nat.gcd a b : Nat) : Int)) (s1 := dSst) (s2 := dSst) rfl rfl (pDiv_int (by omega) (bd_bn bg (by decide)))) (av_cons (s1 := dSst) (ev_2 (x := .int (b : Int)) (y := .int ((Nat.gcd a b : Nat) : Int)) (s1 := dSst) (s2 := dSst) rfl rfl (pDiv_int (by omega) (bd_bn bg (by decide)))) av_nil)) rfl
def fracU (a b : Nat) : U := .tup [.int ((a : Int) / ((Nat.gcd a b : Nat) : Int)), .int ((b : Int) / ((Nat.gcd a b : Nat) : Int))]
theorem frac_scale {a b t : Nat} (ht : 0 < t) : fracU (t * a) (t * b) = fracU a b := by
  unfold fracU
  rw [Nat.gcd_mul_left]
  push_cast
  have q : (t : Int) ≠ 0 := by omega
  rw [Int.mul_ediv_mul_of_pos _ _ (by omega), Int.mul_ediv_mul_of_pos _ _ (by omega)]
/-! ### what is a family, of any values -/
def T60 : Int := 1000000000000000000000000000000000000000000000000000000000000
theorem intU_eq {u : U} {i : Int} (h : intU u = some i) : u = .int i := by cases u <;> first | (cases h; rfl) | cases h
def isLstU : U → Bool
  | .lst _ => true
  | _ => false
theorem isi_lst {u : U} (h : plV u = true) : pIsiB "list" [u, .ty "list"] = some (.bl (isLstU u)) := by
  cases u <;> first | rfl | cases h
def pairU : U → Option (Int × Int)
  | .tup [.int s, .int t] => some (s, t)
  | _ => none
theorem pairU_eq {u : U} {p : Int × Int} (h : pairU u = some p) : u = pcU p := by
  unfold pairU at h
  split at h
  · cases h; rfl
  · cases h
theorem pairU_none {a b : U} (h : intU a = none ∨ intU b = none) : pairU (.tup [a, b]) = none := by
  rcases h with h | h
  · cases a <;> first | rfl | cases h
  · cases b with
    | int i => cases h
    | _ => cases a <;> rfl
theorem pairU_len {us : List U} (h : us.length ≠ 2) : pairU (.tup us) = none := by
  unfold pairU
  split
  · rename_i e
    cases e
    exact absurd rfl h
  · rfl
theorem whole_any {u : U} (h : plV u = true) (a b : Int) : F__law_whole [u, .int a, .int b] = .ok (.bl (match intU u with
    | some i => decide (a ≤ i) && decide (i < b)
    | none => false)) := by
  cases u with
  | ty _ => cases h
  | cls _ => cases h
  | exc _ => cases h
  | int i =>
    have t1 : pIsiB "int" [.int i, .ty "int"] = some (.bl true) := rfl
    have t2 : pIsiB "bool" [.int i, .ty "bool"] = some (.bl false) := rfl
    refine z_go ?_ rfl
    unfold f__law_whole
    simp! [t1, t2]
    rfl
  | _ => rfl
def runGo (m : Int) : Int → List U → Bool
  | _, [] => true
  | b, q :: qs => match pairU q with
    | some p => (decide (b + 1 ≤ p.1) && decide (p.1 < m)) && ((decide (p.1 + 1 ≤ p.2) && decide (p.2 < m + 1)) && runGo m p.2 qs)
    | none => false
abbrev lawF : SF := (sSeq (sIf (tO (tN (tT (eN (pIsiB "tuple") (aCons (eV 2) (aCons (eC (.ty "tuple")) aNil))))) (tO (tV (e2 pNe (eN pLen (aCons (eV 2) aNil)) (eC (.int 2)))) (tN (tT (eCall 3 F__law_whole (aCons (e2 pIdx (eV 2) (eC (.int 0))) (aCons (e2 pAdd (eV 1) (eC (.int 1))) (aCons (e2 pIdx (eV 0) (eC (.int 0))) aNil)))))))) (sRet (eC (.bl false))) sNil) (sSeq (sIf (tN (tT (eCall 3 F__law_whole (aCons (e2 pIdx (eV 2) (eC (.int 1))) (aCons (e2 pAdd (e2 pIdx (eV 2) (eC (.int 0))) (eC (.int 1))) (aCons (e2 pAdd (e2 pIdx (eV 0) (eC (.int 0))) (eC (.int 1))) aNil)))))) (sRet (eC (.bl false))) sNil) (sAsg (gN 1) (e2 pIdx (eV 2) (eC (.int 1))))))
theorem fam_loop {m : Int} {w : U} (hw : pIdx w (.int 0) = some (.int m)) : ∀ (qs : List U) (b : Int) (x : Option U), plVs qs = true → (runGo m b qs = true ∧ ∃ b' x', loopF (gN 2) lawF qs [some w, some (.int b), x] dSst = .nx [some w, some (.int b'), x'] dSst) ∨ (runGo m b qs = false ∧ loopF (gN 2) lawF qs [some w, some (.int b), x] dSst = .rt (.bl false) dSst)
  | [], b, x, _ => .inl ⟨rfl, b, x, rfl⟩
  | q :: qs, b, x, h => by
    simp only [plVs, Bool.and_eq_true] at h
    obtain ⟨hq, hqs⟩ := h
    have ist := isi_tup hq
    by_cases ht : isTupU q = true
    · obtain ⟨us, rfl⟩ : ∃ us, q = .tup us := by cases q <;> first | exact ⟨_, rfl⟩ | cases ht
      rw [ht] at ist
      have hs : plVs us = true := hq
      by_cases hl : us.length = 2
      · match us, hl, hs, ist with
        | [u, v], _, hs, ist =>
          have l2 : ¬ ¬ ((2 : Nat) : Int) = 2 := by decide
          have wu := whole_any (plVs_mem hs u (by simp)) (b + 1) m
          cases eu : intU u with
          | none =>
            rw [eu] at wu
            refine .inr ⟨by rw [runGo, pairU_none (.inl eu)], ?_⟩
            rw [z_lp]
            simp! [z_gN, lawF, ist, l2, hw, wu]
          | some s =>
            obtain rfl := intU_eq eu
            rw [eu] at wu
            simp only at wu
            have wv := whole_any (plVs_mem hs v (by simp)) (s + 1) (m + 1)
            cases c1 : decide (b + 1 ≤ s) && decide (s < m) with
            | false =>
              rw [c1] at wu
              refine .inr ⟨?_, ?_⟩
              · cases ev : intU v with
                | none => rw [runGo, pairU_none (.inr ev)]
                | some t =>
                  obtain rfl := intU_eq ev
                  show ((decide (b + 1 ≤ s) && decide (s < m)) && _) = false
                  rw [c1]
                  rfl
              · rw [z_lp]
                simp! [z_gN, lawF, ist, l2, hw, wu]
            | true =>
              rw [c1] at wu
              cases ev : intU v with
              | none =>
                rw [ev] at wv
                refine .inr ⟨by rw [runGo, pairU_none (.inr ev)], ?_⟩
                rw [z_lp]
                simp! [z_gN, lawF, ist, l2, hw, wu, wv]
              | some t =>
                obtain rfl := intU_eq ev
                rw [ev] at wv
                simp only at wv
                have e : runGo m b (.tup [.int s, .int t] :: qs) = ((decide (s + 1 ≤ t) && decide (t < m + 1)) && runGo m t qs) := by
                  show ((decide (b + 1 ≤ s) && decide (s < m)) && ((decide (s + 1 ≤ t) && decide (t < m + 1)) && runGo m t qs)) = _
                  rw [c1, Bool.true_and]
                rw [e]
                cases c2 : decide (s + 1 ≤ t) && decide (t < m + 1) with
                | false =>
                  rw [c2] at wv
                  refine .inr ⟨rfl, ?_⟩
                  rw [z_lp]
                  simp! [z_gN, lawF, ist, l2, hw, wu, wv]
                | true =>
                  rw [c2] at wv
                  have st : loopF (gN 2) lawF (.tup [.int s, .int t] :: qs) [some w, some (.int b), x] dSst = loopF (gN 2) lawF qs [some w, some (.int t), some (.tup [.int s, .int t])] dSst := by
                    rw [z_lp]
                    simp! [z_gN, lawF, ist, l2, hw, wu, wv]
                  rw [st, Bool.true_and]
                  exact fam_loop hw qs t _ hqs
      · have l2 : ¬ (us.length : Int) = 2 := by omega
        refine .inr ⟨by rw [runGo, pairU_len hl], ?_⟩
        rw [z_lp]
        simp! [z_gN, lawF, ist, l2]
    · rw [Bool.eq_false_iff.mpr ht] at ist
      have e : pairU q = none := by cases q <;> first | rfl | exact absurd rfl ht
      refine .inr ⟨by rw [runGo, e], ?_⟩
      rw [z_lp]
      simp! [z_gN, lawF, ist]
def famK : U → Bool
  | .tup [.int m, .tup qs] => (decide (1 ≤ m) && decide (m < T60 + 1)) && (decide (qs.length ≤ 64) && runGo m (-1) qs)
  | _ => false
theorem famK_len {us : List U} (h : us.length ≠ 2) : famK (.tup us) = false := by
  unfold famK
  split
  · rename_i e
    cases e
    exact absurd rfl h
  · rfl
theorem famK_a {a b : U} (h : intU a = none) : famK (.tup [a, b]) = false := by cases a <;> first | rfl | cases h
theorem famK_b {a b : U} (h : isTupU b = false) : famK (.tup [a, b]) = false := by
  cases b with
  | tup _ => cases h
  | _ => cases a <;> rfl
theorem law_family_any {v : U} (h : plV v = true) : F__law_is_family [v] = .ok (.bl (famK v)) := by
  have ist := isi_tup h
  by_cases ht : isTupU v = true
  · obtain ⟨us, rfl⟩ : ∃ us, v = .tup us := by cases v <;> first | exact ⟨_, rfl⟩ | cases ht
    have hs : plVs us = true := h
    rw [ht] at ist
    by_cases hl : us.length = 2
    · match us, hl, hs, ist with
      | [a, b], _, hs, ist =>
        have l2 : ¬ ¬ ((2 : Nat) : Int) = 2 := by decide
        have pw : pPow (.int 10) (.int 60) = some (.int T60) := rfl
        have wa := whole_any (plVs_mem hs a (by simp)) 1 (T60 + 1)
        have tb := isi_tup (plVs_mem hs b (by simp))
        have out : ∀ {r : Bool}, F__law_whole [a, .int 1, .int (T60 + 1)] = .ok (.bl false) → famK (.tup [a, b]) = false → F__law_is_family [.tup [a, b]] = .ok (.bl (famK (.tup [a, b]))) := fun {r} w e => by
          rw [e]
          refine z_go ?_ rfl
          unfold f__law_is_family
          simp! [ist, l2, pw, w]
        cases ea : intU a with
        | none =>
          rw [ea] at wa
          exact out (r := true) wa (famK_a ea)
        | some m =>
          obtain rfl := intU_eq ea
          rw [ea] at wa
          simp only at wa
          cases c1 : decide (1 ≤ m) && decide (m < T60 + 1) with
          | false =>
            rw [c1] at wa
            refine out (r := true) wa ?_
            cases b with
            | tup qs =>
              show ((decide (1 ≤ m) && decide (m < T60 + 1)) && _) = false
              rw [c1]
              rfl
            | _ => rfl
          | true =>
            rw [c1] at wa
            by_cases hb : isTupU b = true
            · obtain ⟨qs, rfl⟩ : ∃ us, b = .tup us := by cases b <;> first | exact ⟨_, rfl⟩ | cases hb
              rw [hb] at tb
              have e : famK (.tup [.int m, .tup qs]) = (decide (qs.length ≤ 64) && runGo m (-1) qs) := by
                show ((decide (1 ≤ m) && decide (m < T60 + 1)) && _) = _
                rw [c1, Bool.true_and]
              rw [e]
              by_cases cl : qs.length ≤ 64
              · have c' : ¬ (64 : Int) < (qs.length : Int) := by omega
                rw [decide_eq_true cl, Bool.true_and]
                have hq : plVs qs = true := plVs_mem hs (.tup qs) (by simp)
                rcases fam_loop (m := m) (w := .tup [.int m, .tup qs]) z_t0 qs (-1) none hq with ⟨g1, b', x', g2⟩ | ⟨g1, g2⟩
                · rw [g1]
                  refine z_go ?_ rfl
                  unfold f__law_is_family
                  simp! [ist, l2, pw, wa, tb, c', g2]
                · rw [g1]
                  refine z_go ?_ rfl
                  unfold f__law_is_family
                  simp! [ist, l2, pw, wa, tb, c', g2]
              · have c' : (64 : Int) < (qs.length : Int) := by omega
                rw [decide_eq_false cl]
                refine z_go ?_ rfl
                unfold f__law_is_family
                simp! [ist, l2, pw, wa, tb, c']
            · rw [Bool.eq_false_iff.mpr hb] at tb
              rw [famK_b (Bool.eq_false_iff.mpr hb)]
              refine z_go ?_ rfl
              unfold f__law_is_family
              simp! [ist, l2, pw, wa, tb]
    · rw [famK_len hl]
      have l2 : ¬ (us.length : Int) = 2 := by omega
      refine z_go ?_ rfl
      unfold f__law_is_family
      simp! [ist, l2]
  · have e : famK v = false := by cases v <;> first | rfl | exact absurd rfl ht
    rw [e]
    rw [Bool.eq_false_iff.mpr ht] at ist
    refine z_go ?_ rfl
    unfold f__law_is_family
    simp! [ist]
/-! the same by the program -/
theorem is_run_any {u : U} (h : plV u = true) : F_is_run [u] = .ok (.bl (pairU u).isSome) := by
  have ist := isi_tup h
  by_cases ht : isTupU u = true
  · obtain ⟨us, rfl⟩ : ∃ us, u = .tup us := by cases u <;> first | exact ⟨_, rfl⟩ | cases ht
    have hs : plVs us = true := h
    rw [ht] at ist
    by_cases hl : us.length = 2
    · match us, hl, hs, ist with
      | [a, b], _, hs, ist =>
        have l2 : ((2 : Nat) : Int) = 2 := by decide
        have ia := isi_int (plVs_mem hs a (by simp))
        have ib := isi_int (plVs_mem hs b (by simp))
        cases ea : intU a with
        | none =>
          rw [ea] at ia
          rw [pairU_none (.inl ea)]
          refine z_go ?_ rfl
          unfold f_is_run
          simp! [ist, l2, ia, Option.isSome]
        | some s =>
          rw [ea] at ia
          obtain rfl := intU_eq ea
          cases eb : intU b with
          | none =>
            rw [eb] at ib
            rw [pairU_none (.inr eb)]
            refine z_go ?_ rfl
            unfold f_is_run
            simp! [ist, l2, ia, ib, Option.isSome]
          | some t =>
            rw [eb] at ib
            obtain rfl := intU_eq eb
            refine z_go ?_ rfl
            unfold f_is_run
            simp! [ist, l2, ia, ib, Option.isSome]
            rfl
    · rw [pairU_len hl]
      have l2 : ¬ (us.length : Int) = 2 := by omega
      refine z_go ?_ rfl
      unfold f_is_run
      simp! [ist, l2]
      rfl
  · have e : pairU u = none := by cases u <;> first | rfl | exact absurd rfl ht
    rw [e]
    rw [Bool.eq_false_iff.mpr ht] at ist
    refine z_go ?_ rfl
    unfold f_is_run
    simp! [ist]
    rfl
def chainB : Int → List (Int × Int) → Bool
  | _, [] => true
  | b, p :: r => (decide (b < p.1) && decide (p.1 < p.2)) && chainB p.2 r
def lastE (b : Int) (ps : List (Int × Int)) : Int := (b :: ps.map (·.2)).getLast (List.cons_ne_nil _ _)
theorem lastE_cons (b : Int) (p : Int × Int) (r : List (Int × Int)) : lastE b (p :: r) = lastE p.2 r := rfl
theorem chain_last : ∀ (ps : List (Int × Int)) (b : Int), chainB b ps = true → b ≤ lastE b ps
  | [], b, _ => Int.le_refl _
  | p :: r, b, h => by
    simp only [chainB, Bool.and_eq_true, decide_eq_true_eq] at h
    have := chain_last r p.2 h.2
    rw [lastE_cons]
    omega
theorem run_chain {m : Int} : ∀ (ps : List (Int × Int)) (b : Int), b ≤ m → runGo m b (ps.map pcU) = (decide (lastE b ps ≤ m) && chainB b ps)
  | [], b, h => by
    show true = (decide (b ≤ m) && true)
    rw [decide_eq_true h]
    rfl
  | p :: r, b, h => by
    show ((decide (b + 1 ≤ p.1) && decide (p.1 < m)) && ((decide (p.1 + 1 ≤ p.2) && decide (p.2 < m + 1)) && runGo m p.2 (r.map pcU))) = (decide (lastE b (p :: r) ≤ m) && ((decide (b < p.1) && decide (p.1 < p.2)) && chainB p.2 r))
    rw [lastE_cons]
    by_cases c : p.2 ≤ m
    · rw [run_chain r p.2 c, Bool.eq_iff_iff]
      simp only [Bool.and_eq_true, decide_eq_true_eq]
      constructor
      · rintro ⟨⟨a1, a2⟩, ⟨a3, a4⟩, a5, a6⟩
        exact ⟨a5, ⟨by omega, by omega⟩, a6⟩
      · rintro ⟨a1, ⟨a2, a3⟩, a4⟩
        exact ⟨⟨by omega, by omega⟩, ⟨by omega, by omega⟩, a1, a4⟩
    · rw [Bool.eq_iff_iff]
      simp only [Bool.and_eq_true, decide_eq_true_eq]
      constructor
      · rintro ⟨_, ⟨_, a4⟩, _⟩
        omega
      · rintro ⟨a1, _, a4⟩
        have := chain_last r p.2 a4
        omega
theorem pairs_of : ∀ qs : List U, (qs.all fun q => (pairU q).isSome) = true → ∃ ps : List (Int × Int), qs = ps.map pcU
  | [], _ => ⟨[], rfl⟩
  | q :: qs, h => by
    rw [List.all_cons, Bool.and_eq_true] at h
    obtain ⟨ps, rfl⟩ := pairs_of qs h.2
    cases e : pairU q with
    | none => rw [e] at h; cases h.1
    | some p => exact ⟨p :: ps, by rw [pairU_eq e]; rfl⟩
theorem run_no {m : Int} : ∀ (qs : List U) (b : Int), (qs.all fun q => (pairU q).isSome) = false → runGo m b qs = false
  | [], b, h => by cases h
  | q :: qs, b, h => by
    cases e : pairU q with
    | none => rw [runGo, e]
    | some p =>
      rw [List.all_cons, e] at h
      have h' : (qs.all fun q => (pairU q).isSome) = false := h
      have hq := pairU_eq e
      subst hq
      show ((decide (b + 1 ≤ p.1) && decide (p.1 < m)) && ((decide (p.1 + 1 ≤ p.2) && decide (p.2 < m + 1)) && runGo m p.2 qs)) = false
      rw [run_no qs p.2 h', Bool.and_false, Bool.and_false]
def zipE : Int → List (Int × Int) → List (Int × Int × Int)
  | _, [] => []
  | b, p :: r => (b, p.1, p.2) :: zipE p.2 r
theorem zip_ends : ∀ (ps : List (Int × Int)) (b : Int), ((U.int b :: ps.map fun p => U.int p.2).zip (ps.map pcU)).map (fun p => U.tup [p.1, p.2]) = (zipE b ps).map fun q => U.tup [.int q.1, pcU (q.2.1, q.2.2)]
  | [], b => rfl
  | p :: r, b => by
    rw [List.map_cons, List.map_cons, List.zip_cons_cons, List.map_cons, zip_ends r p.2]
    rfl
theorem chain_all : ∀ (ps : List (Int × Int)) (b : Int), ((zipE b ps).all fun q => decide (q.1 < q.2.1) && decide (q.2.1 < q.2.2)) = chainB b ps
  | [], b => rfl
  | p :: r, b => by
    show ((decide (b < p.1) && decide (p.1 < p.2)) && (zipE p.2 r).all _) = _
    rw [chain_all r p.2]
    rfl
theorem zipE_len : ∀ (ps : List (Int × Int)) (b : Int), (zipE b ps).length = ps.length
  | [], _ => rfl
  | p :: r, b => by rw [zipE, List.length_cons, List.length_cons, zipE_len r]
end My

set_option linter.all false
set_option autoImplicit false
set_option maxRecDepth 100000
set_option maxHeartbeats 4000000
namespace My
open PySem PySem.Spec PyProof.Rows L2
local macro_rules | `(tactic| walk_at "bn") => `(tactic| repeat (first | (with_reducible assumption) | (with_reducible apply Bn.mul) | (with_reducible apply Bn.add) | (with_reducible apply Bn.sub) | (with_reducible apply Bn.div) | (with_reducible apply Bn.mod) | (with_reducible apply bn2) | (with_reducible apply bn1) | (with_reducible apply bn3) | (with_reducible apply bn0) | (with_reducible apply bn10) | exact Bn.lit rfl))
local macro_rules | `(tactic| walk_at "sm") => `(tactic| first | (with_reducible assumption) | ((with_reducible apply sm_bn); (focus walk_at "bn"); decide) | ((with_reducible apply bd_bn); (focus walk_at "bn"); decide) | omega)
local macro_rules | `(tactic| walk_at "pp") => `(tactic| first | (with_reducible apply pAdd_int) | (with_reducible apply pSub_int) | (with_reducible apply pLt_int) | (with_reducible apply pLe_int) | (with_reducible apply pGt_int) | (with_reducible apply pGe_int) | (with_reducible apply pNeg_int) | (with_reducible apply pAdd'_int) | (with_reducible apply pEq_int) | (with_reducible apply pNe_int) | ((with_reducible apply pMul_int) <;> walk_at "sm") | ((with_reducible apply pDiv_int) <;> walk_at "sm") | ((with_reducible apply pMod_int) <;> walk_at "sm") | exact rfl)
local macro_rules | `(tactic| walk_at "ev") => `(tactic| first | (with_reducible apply ev_c) | ((with_reducible apply ev_v); exact rfl) | (with_reducible apply av_nil) | (with_reducible apply tv_y) | ((with_reducible apply ev_2); (focus walk_at "ev"); (focus walk_at "ev"); (focus walk_at "pp")) | ((with_reducible apply ev_n); (focus walk_at "ev"); (focus walk_at "pp")) | ((with_reducible apply av_cons); (focus walk_at "ev"); (focus walk_at "ev")) | ((with_reducible apply ev_1); (focus walk_at "ev"); (focus walk_at "pp")) | ((with_reducible apply tv_v); (focus walk_at "ev")) | ((with_reducible apply ev_not); (focus walk_at "ev")) | ((with_reducible apply tv_n); (focus walk_at "ev")) | ((with_reducible apply iv_seq); (focus walk_at "ev"); exact rfl) | ((with_reducible apply iv_rng); (focus walk_at "ev"); exact rfl) | ((with_reducible apply iv_rev); (focus walk_at "ev")))
local macro_rules | `(tactic| walk_at "sv") => `(tactic| first | ((with_reducible apply sv_set); (focus walk_at "ev")) | ((with_reducible apply sv_asg); (focus walk_at "ev"); exact rfl) | ((with_reducible apply sv_par2); (focus walk_at "ev")) | ((with_reducible apply sv_par3); (focus walk_at "ev")) | ((with_reducible apply sv_ret); (focus walk_at "ev")) | ((with_reducible apply sv_drop); (focus walk_at "ev")) | (with_reducible apply sv_nil))
local macro_rules | `(tactic| walk_at "ls") => `(tactic| try simp only [startR, List.map_cons, List.map_nil, List.replicate, List.cons_append, List.nil_append, List.set_cons_zero, List.set_cons_succ])
local macro_rules | `(tactic| walk_at "go") => `(tactic| repeat ((with_reducible apply sv_seq); (focus walk_at "sv"); walk_at "ls"))
local macro_rules | `(tactic| simp! [$ts,*]) => `(tactic| simp only [z_callSV, z_callV, z_asv1, z_asv2, z_asv3, z_av1, z_av2, z_av3, z_noL, z_noLE, z_noL0, z_noL0E, z_idx1, z_idxK, z_while, z_try, z_tryN, z_tryR, z_apK, z_apK1, z_putK, z_putK1, z_putL, z_cnt1, z_cntK, List.getElem?_cons_zero, List.getElem?_cons_succ, z_iAnd, z_iOr, z_iAndB, z_iOrB, z_seqF, z_sqFN, z_sqFE, z_bind, z_bindE, z_opt, z_lift, z_liftE, z_c, z_v0, z_vS, z_1, z_2, z_n, z_nil, z_cons, z_call, z_callS, z_ap0, z_ap1, z_ap2, z_ap3, z_ap4, z_ap5, z_ap6, z_as0, z_as1, z_as2, z_as3, z_as4, z_as5, z_not, z_and, z_or, z_ife, z_chain, z_toB, z_tV, z_tT, z_tN, z_tA, z_tO, z_tY, z_trB, z_trI, z_trN, z_trL, z_trT, z_sl, z_oNo, z_oSo, z_toI, z_slL, z_slT, z_stm, z_stmE, z_skip, z_seq, z_sqN, z_sqR, z_sqE, z_sqB, z_sqC, z_gN, z_gT, z_gL, z_gsC, z_gsN, z_asg, z_asgS, z_par2, z_par3, z_drop, z_ret, z_retN, z_brk, z_cnt, z_if, z_raise, z_for, z_lp0, z_lpN, z_lpC, z_lpB, z_lpR, z_lpE, z_iseq, z_sqL, z_sqT, z_rng, z_finN, z_finR, z_finE, z_finSN, z_finSR, z_finSE, z_lenL, z_lenT, z_t0, z_l0, z_t1, z_l1, z_t2, z_l2, z_ln1, z_tup0, z_tup1, z_tup2, z_tup3, z_tup4, z_lst0, z_lst1, z_lst2, z_lst3, z_lst4, z_tupleL, z_tupleT, z_listL, z_listT, z_isN, z_nisN, z_nonI, z_nonN, z_nonT, z_nonL, z_nonE, z_nonS, z_nonB, z_start1, z_start0, z_start2, z_start3, z_start4, z_start5, z_start6, z_int, z_intB, pAdd_int, pAdd'_int, pSub_int, pLt_int, pLe_int, pGt_int, pGe_int, pEq_int, pNe_int, pNeg_int, List.set_cons_zero, List.set_cons_succ, List.replicate_succ, List.replicate_zero, Option.bind_some, Option.map_some, decide_eq_true_eq, Bool.not_eq_true', decide_eq_false_iff_not, if_true, if_false, ite_true, ite_false, Bool.false_eq_true, reduceIte, Bool.not_true, Bool.not_false, Bool.and_eq_true, Bool.or_eq_true, Bool.decide_eq_true, Bool.decide_and, Bool.decide_or, not_false_eq_true, decide_true, decide_false, Bool.and_true, Bool.and_false, Bool.true_and, Bool.false_and, Bool.or_true, Bool.or_false, Bool.true_or, Bool.false_or, List.length_cons, List.length_nil, Nat.reduceAdd, Nat.reduceLT, not_true_eq_false, true_and, and_true, false_and, and_false, or_true, true_or, or_false, false_or, and_self, or_self, $ts,*])
/-! ### families, checked by the program -/
theorem ix_lastE (b : Int) (ps : List (Int × Int)) : pIdx (.lst (U.int b :: ps.map fun p => U.int p.2)) (.int (-1)) = some (.int (lastE b ps)) := by
  rcases List.eq_nil_or_concat ps with rfl | ⟨l, x, rfl⟩
  · rfl
  · have e : (U.int b :: (l.concat x).map fun p => U.int p.2) = (U.int b :: l.map fun p => U.int p.2) ++ [U.int x.2] := by
      rw [List.concat_eq_append, List.map_append]
      rfl
    have e2 : lastE b (l.concat x) = x.2 := by
      rw [List.concat_eq_append]
      clear e
      induction l generalizing b with
      | nil => rfl
      | cons y l ih => exact ih y.2
    rw [e, e2]
    exact z_ln1
theorem is_family_any {v : U} (h : plV v = true) : F_is_family [v] = .ok (.bl (famK v)) := by
  have ist := isi_tup h
  by_cases ht : isTupU v = true
  · obtain ⟨us, rfl⟩ : ∃ us, v = .tup us := by cases v <;> first | exact ⟨_, rfl⟩ | cases ht
    have hs : plVs us = true := h
    rw [ht] at ist
    by_cases hl : us.length = 2
    · match us, hl, hs, ist with
      | [a, b], _, hs, ist =>
        have l2 : ¬ ¬ ((2 : Nat) : Int) = 2 := by decide
        have ia := isi_int (plVs_mem hs a (by simp))
        have tb := isi_tup (plVs_mem hs b (by simp))
        cases ea : intU a with
        | none =>
          rw [ea] at ia
          rw [famK_a ea]
          refine z_go ?_ rfl
          unfold f_is_family
          simp! [ist, l2, ia, Option.isSome]
        | some m =>
          rw [ea] at ia
          obtain rfl := intU_eq ea
          have ia : F_is_integer [.int m] = .ok (.bl true) := ia
          have t60 : T60 = 1000000000000000000000000000000000000000000000000000000000000 := rfl
          by_cases c1 : 1 ≤ m ∧ m ≤ 1000000000000000000000000000000000000000000000000000000000000
          · by_cases hb : isTupU b = true
            · obtain ⟨qs, rfl⟩ : ∃ us, b = .tup us := by cases b <;> first | exact ⟨_, rfl⟩ | cases hb
              rw [hb] at tb
              have hq : plVs qs = true := plVs_mem hs (.tup qs) (by simp)
              have e : famK (.tup [.int m, .tup qs]) = (decide (qs.length ≤ 64) && runGo m (-1) qs) := by
                show ((decide (1 ≤ m) && decide (m < T60 + 1)) && _) = _
                rw [decide_eq_true c1.1, decide_eq_true (by omega)]
                rfl
              rw [e]
              by_cases cl : qs.length ≤ 64
              · have c' : ¬ (64 : Int) < (qs.length : Int) := by omega
                rw [decide_eq_true cl, Bool.true_and]
                have lr : eLc [7] (iSeq (eV 2)) (gN 7) tY (eCall 1 F_is_run (aCons (eV 7) aNil)) [some (.tup [.int m, .tup qs]), some (.int m), some (.tup qs), none, none, none, none, none] dSst = .ok (.lst (qs.map fun q => U.bl (pairU q).isSome)) dSst := by
                  have := ev_lcI (vs := [7]) (i := iSeq (eV 2)) (g := gN 7) (a := eCall 1 F_is_run (aCons (eV 7) aNil)) (ρ := [some (.tup [.int m, .tup qs]), some (.int m), some (.tup qs), none, none, none, none, none]) (s := dSst) (s1 := dSst) (l := qs) id (fun q => U.bl (pairU q).isSome) (by rw [List.map_id]; rfl) (fun q hqs => ⟨_, rfl, by
                    have r := is_run_any (plVs_mem hq q hqs)
                    have r' : F_is_run [id q] = _ := r
                    simp! [wipeR, r']⟩) (by omega)
                  exact this
                have al := pAll_map (fun q => (pairU q).isSome) qs
                cases ca : qs.all fun q => (pairU q).isSome with
                | false =>
                  rw [ca] at al
                  rw [run_no qs (-1) ca]
                  refine z_go ?_ rfl
                  unfold f_is_family
                  simp! [ist, l2, ia, c1.1, c1.2, tb, c', lr, al]
                | true =>
                  rw [ca] at al
                  obtain ⟨ps, rfl⟩ := pairs_of qs ca
                  rw [List.length_map] at cl
                  have l3 : eLc [4, 5] (iSeq (eV 2)) (gT (gsCons (gN 4) (gsCons (gN 5) gsNil))) tY (eV 5) [some (.tup [.int m, .tup (ps.map pcU)]), some (.int m), some (.tup (ps.map pcU)), none, none, none, none, none] dSst = .ok (.lst (ps.map fun p => U.int p.2)) dSst :=
                    ev_lcI (l := ps) pcU (fun p => U.int p.2) (s1 := dSst) rfl (fun p _ => ⟨_, rfl, rfl⟩) (by omega)
                  have ad : pAdd (.lst [.int (-1)]) (.lst (ps.map fun p => U.int p.2)) = some (.lst (U.int (-1) :: ps.map fun p => U.int p.2)) := z_addL (us := [.int (-1)]) (by rw [List.length_map]; show 1 + _ ≤ _; omega)
                  have ix := ix_lastE (-1) ps
                  have l4 : eLc [6, 7] (iZip (eV 3) (eV 2)) (gT (gsCons (gN 6) (gsCons (gN 7) gsNil))) tY (eChain pLt pLt (eV 6) (e2 pIdx (eV 7) (eC (.int 0))) (e2 pIdx (eV 7) (eC (.int 1)))) [some (.tup [.int m, .tup (ps.map pcU)]), some (.int m), some (.tup (ps.map pcU)), some (.lst (U.int (-1) :: ps.map fun p => U.int p.2)), none, none, none, none] dSst = .ok (.lst ((zipE (-1) ps).map fun q => U.bl (decide (q.1 < q.2.1) && decide (q.2.1 < q.2.2)))) dSst := by
                    refine ev_lcI (l := zipE (-1) ps) (fun q => U.tup [.int q.1, pcU (q.2.1, q.2.2)]) (fun q => U.bl (decide (q.1 < q.2.1) && decide (q.2.1 < q.2.2))) (s1 := dSst) ?_ (fun q _ => ⟨_, rfl, ?_⟩) (by rw [zipE_len]; omega)
                    · show opt (zipU (.lst (U.int (-1) :: ps.map fun p => U.int p.2)) (.tup (ps.map pcU))) dSst = _
                      show opt (some (((U.int (-1) :: ps.map fun p => U.int p.2).zip (ps.map pcU)).map fun p => U.tup [p.1, p.2])) dSst = _
                      rw [zip_ends]
                      rfl
                    · exact ev_chain (x := .int q.1) (y := .int q.2.1) (s1 := dSst) (s2 := dSst) rfl rfl pLt_int fun _ => ⟨.int q.2.2, rfl, pLt_int⟩
                  have a2 := pAll_map (fun q : Int × Int × Int => decide (q.1 < q.2.1) && decide (q.2.1 < q.2.2)) (zipE (-1) ps)
                  rw [chain_all] at a2
                  rw [run_chain ps (-1) (by omega)]
                  rw [List.length_map] at c'
                  refine z_go ?_ rfl
                  unfold f_is_family
                  simp! [ist, l2, ia, c1.1, c1.2, tb, List.length_map, c', lr, al, l3, ad, ix, l4, a2]
              · have c' : (64 : Int) < (qs.length : Int) := by omega
                rw [decide_eq_false cl]
                refine z_go ?_ rfl
                unfold f_is_family
                simp! [ist, l2, ia, c1.1, c1.2, tb, c']
            · rw [Bool.eq_false_iff.mpr hb] at tb
              rw [famK_b (Bool.eq_false_iff.mpr hb)]
              refine z_go ?_ rfl
              unfold f_is_family
              simp! [ist, l2, ia, c1.1, c1.2, tb]
          · have e : famK (.tup [.int m, b]) = false := by
              cases b with
              | tup qs =>
                show ((decide (1 ≤ m) && decide (m < T60 + 1)) && _) = false
                have : (decide (1 ≤ m) && decide (m < T60 + 1)) = false := by
                  rw [Bool.eq_false_iff]
                  intro z
                  rw [Bool.and_eq_true, decide_eq_true_eq, decide_eq_true_eq] at z
                  exact c1 ⟨z.1, by omega⟩
                rw [this]
                rfl
              | _ => rfl
            rw [e]
            refine z_go ?_ rfl
            unfold f_is_family
            by_cases d : 1 ≤ m
            · have d2 : ¬ m ≤ 1000000000000000000000000000000000000000000000000000000000000 := fun z => c1 ⟨d, z⟩
              simp! [ist, l2, ia, d, d2]
            · simp! [ist, l2, ia, d]
    · rw [famK_len hl]
      have l2 : ¬ (us.length : Int) = 2 := by omega
      refine z_go ?_ rfl
      unfold f_is_family
      simp! [ist, l2]
  · have e : famK v = false := by cases v <;> first | rfl | exact absurd rfl ht
    rw [e]
    rw [Bool.eq_false_iff.mpr ht] at ist
    refine z_go ?_ rfl
    unfold f_is_family
    simp! [ist]
/-- families as data -/
abbrev Fm : Type := Int × List (Int × Int)
def fmU (f : Fm) : U := .tup [.int f.1, .tup (f.2.map pcU)]
structure GF (f : Fm) : Prop where
  lo : 1 ≤ f.1
  hi : f.1 ≤ T60
  few : f.2.length ≤ 64
  ch : chainB (-1) f.2 = true
  last : lastE (-1) f.2 ≤ f.1
theorem chain_each : ∀ (ps : List (Int × Int)) (b : Int), chainB b ps = true → ∀ p ∈ ps, b < p.1 ∧ p.1 < p.2 ∧ p.2 ≤ lastE b ps
  | [], _, _, p, hp => by cases hp
  | q :: r, b, h, p, hp => by
    simp only [chainB, Bool.and_eq_true, decide_eq_true_eq] at h
    have cl := chain_last r q.2 h.2
    rw [lastE_cons]
    rcases List.mem_cons.mp hp with rfl | hp
    · exact ⟨h.1.1, h.1.2, cl⟩
    · have := chain_each r q.2 h.2 p hp
      omega
theorem GF.each {f : Fm} (g : GF f) : ∀ p ∈ f.2, 0 ≤ p.1 ∧ p.1 < p.2 ∧ p.2 ≤ f.1 := fun p hp => by
  have := chain_each f.2 (-1) g.ch p hp
  have := g.last
  omega
theorem fam_of {u : U} (h : famK u = true) : ∃ f, u = fmU f ∧ GF f := by
  unfold famK at h
  split at h
  · rename_i m qs
    simp only [Bool.and_eq_true, decide_eq_true_eq] at h
    obtain ⟨⟨h1, h2⟩, h3, h4⟩ := h
    have ca : (qs.all fun q => (pairU q).isSome) = true := by
      cases c : qs.all fun q => (pairU q).isSome with
      | true => rfl
      | false => rw [run_no qs (-1) c] at h4; cases h4
    obtain ⟨ps, rfl⟩ := pairs_of qs ca
    rw [run_chain ps (-1) (by omega), Bool.and_eq_true, decide_eq_true_eq] at h4
    rw [List.length_map] at h3
    exact ⟨(m, ps), rfl, h1, by show m ≤ T60; omega, h3, h4.2, h4.1⟩
  · cases h
theorem famK_fm {f : Fm} (g : GF f) : famK (fmU f) = true := by
  show ((decide (1 ≤ f.1) && decide (f.1 < T60 + 1)) && (decide ((f.2.map pcU).length ≤ 64) && runGo f.1 (-1) (f.2.map pcU))) = true
  have := g.lo
  have := g.hi
  rw [decide_eq_true g.lo, decide_eq_true (by omega), List.length_map, decide_eq_true g.few, run_chain f.2 (-1) (by omega), decide_eq_true g.last, g.ch]
  rfl
/-! lists of families -/
def famsK : U → Bool
  | .lst us => (decide (1 ≤ us.length) && decide (us.length ≤ 2)) && us.all famK
  | _ => false
theorem fams_of {v : U} (h : famsK v = true) : ∃ fs : List Fm, v = .lst (fs.map fmU) ∧ (∀ f ∈ fs, GF f) ∧ (fs.length = 1 ∨ fs.length = 2) := by
  unfold famsK at h
  split at h
  · rename_i us
    simp only [Bool.and_eq_true, decide_eq_true_eq] at h
    obtain ⟨⟨h1, h2⟩, h3⟩ := h
    have key : ∀ us : List U, us.all famK = true → ∃ fs : List Fm, us = fs.map fmU ∧ ∀ f ∈ fs, GF f := by
      intro us
      induction us with
      | nil => intro _; exact ⟨[], rfl, by simp⟩
      | cons u us ih =>
        intro h
        rw [List.all_cons, Bool.and_eq_true] at h
        obtain ⟨f, rfl, g⟩ := fam_of h.1
        obtain ⟨fs, rfl, gs⟩ := ih h.2
        exact ⟨f :: fs, rfl, fun z hz => by
          rcases List.mem_cons.mp hz with rfl | hz
          · exact g
          · exact gs z hz⟩
    obtain ⟨fs, rfl, gs⟩ := key us h3
    rw [List.length_map] at h1 h2
    exact ⟨fs, rfl, gs, by omega⟩
  · cases h
theorem fams_plV (fs : List Fm) : plVs (fs.map fmU) = true := plVs_of fun u hu => by
  obtain ⟨f, _, rfl⟩ := List.mem_map.mp hu
  show plVs [.int f.1, .tup (f.2.map pcU)] = true
  have : plVs (f.2.map pcU) = true := plVs_of fun u hu => by
    obtain ⟨p, _, rfl⟩ := List.mem_map.mp hu
    rfl
  simp only [plVs, plV, this, Bool.and_true, Bool.true_and]
theorem law_fams_any {v : U} (h : plV v = true) (hl : ∀ us, v = .lst us → us.length ≤ 1000) : F__law_are_families [v] = .ok (.bl (famsK v)) := by
  have ist := isi_lst h
  by_cases ht : isLstU v = true
  · obtain ⟨us, rfl⟩ : ∃ us, v = .lst us := by cases v <;> first | exact ⟨_, rfl⟩ | cases ht
    rw [ht] at ist
    have hs : plVs us = true := h
    have hl := hl us rfl
    have lc : eLc [1] (iSeq (eV 0)) (gN 1) (tN (tT (eCall 1 F__law_is_family (aCons (eV 1) aNil)))) (eV 1) [some (.lst us), none] dSst = .ok (.lst ((us.filter fun u => !famK u).map id)) dSst :=
      ev_lcFI (l := us) id id (fun u => !famK u) (s1 := dSst) (by rw [List.map_id]; rfl) (fun u hu => ⟨_, rfl, by
        have r := law_family_any (plVs_mem hs u hu)
        have r' : F__law_is_family [id u] = _ := r
        simp! [wipeR, r'], fun _ => rfl⟩) (by omega)
    rw [List.map_id] at lc
    have eq : pEqL (.lst (us.filter fun u => !famK u)) (.lst []) = some (.bl (us.all famK)) := by
      show some (U.bl (us.filter fun u => !famK u).isEmpty) = _
      refine congrArg (fun b => some (U.bl b)) ?_
      rw [Bool.eq_iff_iff, List.isEmpty_iff, List.filter_eq_nil_iff, List.all_eq_true]
      constructor
      · intro h u hu
        have := h u hu
        simpa using this
      · intro h u hu
        rw [h u hu]
        decide
    by_cases c1 : us.length < 1
    · have e : famsK (.lst us) = false := by
        show ((decide (1 ≤ us.length) && decide (us.length ≤ 2)) && us.all famK) = false
        rw [decide_eq_false (by omega)]
        rfl
      rw [e]
      have c1' : (us.length : Int) < 1 := by omega
      refine z_go ?_ rfl
      unfold f__law_are_families
      simp! [ist, c1']
    · by_cases c2 : 2 < us.length
      · have e : famsK (.lst us) = false := by
          show ((decide (1 ≤ us.length) && decide (us.length ≤ 2)) && us.all famK) = false
          rw [decide_eq_false (show ¬ us.length ≤ 2 by omega), Bool.and_false]
          rfl
        rw [e]
        have c1' : ¬ (us.length : Int) < 1 := by omega
        have c2' : (2 : Int) < (us.length : Int) := by omega
        refine z_go ?_ rfl
        unfold f__law_are_families
        simp! [ist, c1', c2']
      · have e : famsK (.lst us) = us.all famK := by
          show ((decide (1 ≤ us.length) && decide (us.length ≤ 2)) && us.all famK) = _
          rw [decide_eq_true (by omega), decide_eq_true (by omega)]
          rfl
        rw [e]
        have c1' : ¬ (us.length : Int) < 1 := by omega
        have c2' : ¬ (2 : Int) < (us.length : Int) := by omega
        refine z_go ?_ rfl
        unfold f__law_are_families
        simp! [ist, c1', c2', lc, eq]
  · rw [Bool.eq_false_iff.mpr ht] at ist
    have e : famsK v = false := by cases v <;> first | rfl | exact absurd rfl ht
    rw [e]
    refine z_go ?_ rfl
    unfold f__law_are_families
    simp! [ist]
/-- the door of the functions that count -/
theorem door_bad {v : U} (h : plV v = true) (hl : ∀ us, v = .lst us → us.length ≤ 1000) (k : famsK v = false) (most : Int) : F_check_families [v, .int most] = .err "InvalidFamilies" := by
  have ist := isi_lst h
  by_cases ht : isLstU v = true
  · obtain ⟨us, rfl⟩ : ∃ us, v = .lst us := by cases v <;> first | exact ⟨_, rfl⟩ | cases ht
    rw [ht] at ist
    have hs : plVs us = true := h
    have hl := hl us rfl
    by_cases c1 : 1 ≤ us.length
    · have c1' : (1 : Int) ≤ (us.length : Int) := by omega
      by_cases c2 : us.length ≤ 2
      · have c2' : (us.length : Int) ≤ 2 := by omega
        have ca : us.all famK = false := by
          have : ((decide (1 ≤ us.length) && decide (us.length ≤ 2)) && us.all famK) = false := k
          rw [decide_eq_true c1, decide_eq_true c2] at this
          exact this
        have lc : eLc [2] (iSeq (eV 0)) (gN 2) tY (eCall 1 F_is_family (aCons (eV 2) aNil)) [some (.lst us), some (.int most), none] dSst = .ok (.lst (us.map fun u => U.bl (famK u))) dSst := by
          have := ev_lcI (vs := [2]) (i := iSeq (eV 0)) (g := gN 2) (a := eCall 1 F_is_family (aCons (eV 2) aNil)) (ρ := [some (.lst us), some (.int most), none]) (s := dSst) (s1 := dSst) (l := us) id (fun u => U.bl (famK u)) (by rw [List.map_id]; rfl) (fun u hu => ⟨_, rfl, by
            have r := is_family_any (plVs_mem hs u hu)
            have r' : F_is_family [id u] = _ := r
            simp! [wipeR, r']⟩) (by omega)
          exact this
        have al := pAll_map famK us
        rw [ca] at al
        refine z_go ?_ rfl
        unfold f_check_families
        simp! [ist, c1', c2', lc, al, z_raise]
      · have c2' : ¬ (us.length : Int) ≤ 2 := by omega
        refine z_go ?_ rfl
        unfold f_check_families
        simp! [ist, c1', c2', z_raise]
    · have c1' : ¬ (1 : Int) ≤ (us.length : Int) := by omega
      refine z_go ?_ rfl
      unfold f_check_families
      simp! [ist, c1', z_raise]
  · rw [Bool.eq_false_iff.mpr ht] at ist
    refine z_go ?_ rfl
    unfold f_check_families
    simp! [ist, z_raise]
/-- so many pairs of runs -/
def pairsN : List Fm → Nat
  | [a, b] => a.2.length * b.2.length
  | _ => 0
theorem idx_f1 {f : Fm} : pIdx (fmU f) (.int 1) = some (.tup (f.2.map pcU)) := Eq.trans rfl rfl
theorem idx_f0 {f : Fm} : pIdx (fmU f) (.int 0) = some (.int f.1) := Eq.trans rfl rfl
theorem door_lc {fs : List Fm} (gs : ∀ f ∈ fs, GF f) (hl : fs.length ≤ 2) (most : Int) : eLc [2] (iSeq (eV 0)) (gN 2) tY (eCall 1 F_is_family (aCons (eV 2) aNil)) [some (.lst (fs.map fmU)), some (.int most), none] dSst = .ok (.lst (fs.map fun _ => U.bl true)) dSst :=
  ev_lcI (l := fs) fmU (fun _ => U.bl true) (s1 := dSst) rfl (fun f hf => ⟨_, rfl, by
    have r := is_family_any (plVs_mem (fams_plV fs) (fmU f) (List.mem_map.mpr ⟨f, hf, rfl⟩))
    rw [famK_fm (gs f hf)] at r
    simp! [wipeR, r]⟩) (by omega)
theorem door_ok {fs : List Fm} (gs : ∀ f ∈ fs, GF f) (hl : fs.length = 1 ∨ fs.length = 2) {most : Int} (hm : (pairsN fs : Int) ≤ most) : F_check_families [.lst (fs.map fmU), .int most] = .ok .non := by
  have lc := door_lc gs (by omega) most
  have al : pAll [.lst (fs.map fun _ => U.bl true)] = some (.bl true) := by
    rw [pAll_map (fun _ : Fm => true)]
    simp
  have ist : pIsiB "list" [.lst (fs.map fmU), .ty "list"] = some (.bl true) := rfl
  rcases hl with hl | hl
  · have c0 : (1 : Int) ≤ (1 : Int) := by decide
    have c1' : ((1 : Nat) : Int) = 1 := rfl
    have c3 : (1 : Int) ≤ 2 := by decide
    have c4 : ¬ (1 : Int) = 2 := by decide
    refine z_go ?_ rfl
    unfold f_check_families
    simp! [ist, List.length_map, hl, c1', c0, c3, c4, lc, al]
  · match fs, hl, gs, lc, al, ist, hm with
    | [a, b], _, gs, lc, al, ist, hm =>
      have ga := (gs a (by simp)).few
      have gb := (gs b (by simp)).few
      have mu : pMul (.int (a.2.length : Int)) (.int (b.2.length : Int)) = some (.int ((a.2.length : Int) * (b.2.length : Int))) := pMul_int (sm_bn (k := 30) (Bn.of (by omega) (by omega)) (by decide)) (sm_bn (k := 30) (Bn.of (by omega) (by omega)) (by decide))
      have c5 : ¬ most < (a.2.length : Int) * (b.2.length : Int) := by
        have : ((a.2.length * b.2.length : Nat) : Int) ≤ most := hm
        rw [Int.natCast_mul] at this
        omega
      have c1' : ((2 : Nat) : Int) = 2 := rfl
      have c0 : (1 : Int) ≤ 2 := by decide
      have c3 : (2 : Int) ≤ 2 := by decide
      simp only [List.map_cons, List.map_nil] at lc al ist ⊢
      refine z_go ?_ rfl
      unfold f_check_families
      simp! [ist, c1', c0, c3, lc, al, idx_f1, List.length_map, mu, c5]
theorem door_many {fs : List Fm} (gs : ∀ f ∈ fs, GF f) (hl : fs.length = 1 ∨ fs.length = 2) {most : Int} (h4 : most = 4 ∨ most = 64) (hm : most < (pairsN fs : Int)) : F_check_families [.lst (fs.map fmU), .int most] = .err "TooMany" := by
  have lc := door_lc gs (by omega) most
  have al : pAll [.lst (fs.map fun _ => U.bl true)] = some (.bl true) := by
    rw [pAll_map (fun _ : Fm => true)]
    simp
  have ist : pIsiB "list" [.lst (fs.map fmU), .ty "list"] = some (.bl true) := rfl
  rcases hl with hl | hl
  · match fs, hl with
    | [a], _ =>
      have : most < ((0 : Nat) : Int) := hm
      omega
  · match fs, hl, gs, lc, al, ist, hm with
    | [a, b], _, gs, lc, al, ist, hm =>
      have ga := (gs a (by simp)).few
      have gb := (gs b (by simp)).few
      have mu : pMul (.int (a.2.length : Int)) (.int (b.2.length : Int)) = some (.int ((a.2.length : Int) * (b.2.length : Int))) := pMul_int (sm_bn (k := 30) (Bn.of (by omega) (by omega)) (by decide)) (sm_bn (k := 30) (Bn.of (by omega) (by omega)) (by decide))
      have c5 : most < (a.2.length : Int) * (b.2.length : Int) := by
        have : most < ((a.2.length * b.2.length : Nat) : Int) := hm
        rw [Int.natCast_mul] at this
        omega
      have c1' : ((2 : Nat) : Int) = 2 := rfl
      have c0 : (1 : Int) ≤ 2 := by decide
      have c3 : (2 : Int) ≤ 2 := by decide
      simp only [List.map_cons, List.map_nil] at lc al ist ⊢
      refine z_go ?_ rfl
      unfold f_check_families
      simp! [ist, c1', c0, c3, lc, al, idx_f1, List.length_map, mu, c5, z_raise]
      rcases h4 with rfl | rfl <;> rfl
end My

set_option linter.all false
set_option autoImplicit false
set_option maxRecDepth 100000
set_option maxHeartbeats 4000000
namespace My
open PySem PySem.Spec PyProof.Rows L2
local macro_rules | `(tactic| walk_at "bn") => `(tactic| repeat (first | (with_reducible assumption) | (with_reducible apply Bn.mul) | (with_reducible apply Bn.add) | (with_reducible apply Bn.sub) | (with_reducible apply Bn.div) | (with_reducible apply Bn.mod) | (with_reducible apply bn2) | (with_reducible apply bn1) | (with_reducible apply bn3) | (with_reducible apply bn0) | (with_reducible apply bn10) | exact Bn.lit rfl))
local macro_rules | `(tactic| walk_at "sm") => `(tactic| first | (with_reducible assumption) | ((with_reducible apply sm_bn); (focus walk_at "bn"); decide) | ((with_reducible apply bd_bn); (focus walk_at "bn"); decide) | omega)
local macro_rules | `(tactic| walk_at "pp") => `(tactic| first | (with_reducible apply pAdd_int) | (with_reducible apply pSub_int) | (with_reducible apply pLt_int) | (with_reducible apply pLe_int) | (with_reducible apply pGt_int) | (with_reducible apply pGe_int) | (with_reducible apply pNeg_int) | (with_reducible apply pAdd'_int) | (with_reducible apply pEq_int) | (with_reducible apply pNe_int) | ((with_reducible apply pMul_int) <;> walk_at "sm") | ((with_reducible apply pDiv_int) <;> walk_at "sm") | ((with_reducible apply pMod_int) <;> walk_at "sm") | exact rfl)
local macro_rules | `(tactic| walk_at "ev") => `(tactic| first | (with_reducible apply ev_c) | ((with_reducible apply ev_v); exact rfl) | (with_reducible apply av_nil) | (with_reducible apply tv_y) | ((with_reducible apply ev_2); (focus walk_at "ev"); (focus walk_at "ev"); (focus walk_at "pp")) | ((with_reducible apply ev_n); (focus walk_at "ev"); (focus walk_at "pp")) | ((with_reducible apply av_cons); (focus walk_at "ev"); (focus walk_at "ev")) | ((with_reducible apply ev_1); (focus walk_at "ev"); (focus walk_at "pp")) | ((with_reducible apply tv_v); (focus walk_at "ev")) | ((with_reducible apply ev_not); (focus walk_at "ev")) | ((with_reducible apply tv_n); (focus walk_at "ev")) | ((with_reducible apply iv_seq); (focus walk_at "ev"); exact rfl) | ((with_reducible apply iv_rng); (focus walk_at "ev"); exact rfl) | ((with_reducible apply iv_rev); (focus walk_at "ev")))
local macro_rules | `(tactic| walk_at "sv") => `(tactic| first | ((with_reducible apply sv_set); (focus walk_at "ev")) | ((with_reducible apply sv_asg); (focus walk_at "ev"); exact rfl) | ((with_reducible apply sv_par2); (focus walk_at "ev")) | ((with_reducible apply sv_par3); (focus walk_at "ev")) | ((with_reducible apply sv_ret); (focus walk_at "ev")) | ((with_reducible apply sv_drop); (focus walk_at "ev")) | (with_reducible apply sv_nil))
local macro_rules | `(tactic| walk_at "ls") => `(tactic| try simp only [startR, List.map_cons, List.map_nil, List.replicate, List.cons_append, List.nil_append, List.set_cons_zero, List.set_cons_succ])
local macro_rules | `(tactic| walk_at "go") => `(tactic| repeat ((with_reducible apply sv_seq); (focus walk_at "sv"); walk_at "ls"))
local macro_rules | `(tactic| simp! [$ts,*]) => `(tactic| simp only [z_callSV, z_callV, z_asv1, z_asv2, z_asv3, z_av1, z_av2, z_av3, z_noL, z_noLE, z_noL0, z_noL0E, z_idx1, z_idxK, z_while, z_try, z_tryN, z_tryR, z_apK, z_apK1, z_putK, z_putK1, z_putL, z_cnt1, z_cntK, List.getElem?_cons_zero, List.getElem?_cons_succ, z_iAnd, z_iOr, z_iAndB, z_iOrB, z_seqF, z_sqFN, z_sqFE, z_bind, z_bindE, z_opt, z_lift, z_liftE, z_c, z_v0, z_vS, z_1, z_2, z_n, z_nil, z_cons, z_call, z_callS, z_ap0, z_ap1, z_ap2, z_ap3, z_ap4, z_ap5, z_ap6, z_as0, z_as1, z_as2, z_as3, z_as4, z_as5, z_not, z_and, z_or, z_ife, z_chain, z_toB, z_tV, z_tT, z_tN, z_tA, z_tO, z_tY, z_trB, z_trI, z_trN, z_trL, z_trT, z_sl, z_oNo, z_oSo, z_toI, z_slL, z_slT, z_stm, z_stmE, z_skip, z_seq, z_sqN, z_sqR, z_sqE, z_sqB, z_sqC, z_gN, z_gT, z_gL, z_gsC, z_gsN, z_asg, z_asgS, z_par2, z_par3, z_drop, z_ret, z_retN, z_brk, z_cnt, z_if, z_raise, z_for, z_lp0, z_lpN, z_lpC, z_lpB, z_lpR, z_lpE, z_iseq, z_sqL, z_sqT, z_rng, z_finN, z_finR, z_finE, z_finSN, z_finSR, z_finSE, z_lenL, z_lenT, z_t0, z_l0, z_t1, z_l1, z_t2, z_l2, z_ln1, z_tup0, z_tup1, z_tup2, z_tup3, z_tup4, z_lst0, z_lst1, z_lst2, z_lst3, z_lst4, z_tupleL, z_tupleT, z_listL, z_listT, z_isN, z_nisN, z_nonI, z_nonN, z_nonT, z_nonL, z_nonE, z_nonS, z_nonB, z_start1, z_start0, z_start2, z_start3, z_start4, z_start5, z_start6, z_int, z_intB, pAdd_int, pAdd'_int, pSub_int, pLt_int, pLe_int, pGt_int, pGe_int, pEq_int, pNe_int, pNeg_int, List.set_cons_zero, List.set_cons_succ, List.replicate_succ, List.replicate_zero, Option.bind_some, Option.map_some, decide_eq_true_eq, Bool.not_eq_true', decide_eq_false_iff_not, if_true, if_false, ite_true, ite_false, Bool.false_eq_true, reduceIte, Bool.not_true, Bool.not_false, Bool.and_eq_true, Bool.or_eq_true, Bool.decide_eq_true, Bool.decide_and, Bool.decide_or, not_false_eq_true, decide_true, decide_false, Bool.and_true, Bool.and_false, Bool.true_and, Bool.false_and, Bool.or_true, Bool.or_false, Bool.true_or, Bool.false_or, List.length_cons, List.length_nil, Nat.reduceAdd, Nat.reduceLT, not_true_eq_false, true_and, and_true, false_and, and_false, or_true, true_or, or_false, false_or, and_self, or_self, $ts,*])
/-! ### the share of what families have in common -/
theorem t60_eq : T60 = 1000000000000000000000000000000000000000000000000000000000000 := rfl
theorem bn60 {x : Int} (h0 : 0 ≤ x) (h1 : x ≤ T60) : Bn 200 x := Bn.of h0 (by
  have : (2 : Int) ^ 200 = 1606938044258990275541962092341162602522202993782792835301376 := by decide +kernel
  rw [this]
  have := t60_eq
  omega)
theorem bn_abs {k : Nat} {x y : Int} (h : Bn k y) (h0 : -y ≤ x) (h1 : x ≤ y) : Bn k x := by
  unfold Bn at *
  omega
abbrev cmB : SF := (sAsg (gN 1) (eN pLcm (aCons (eV 1) (aCons (eV 2) aNil))))
theorem cm_ok {ns : List Nat} (hb : ∀ i, i ≤ ns.length → Bn 6000 ((lcmL (ns.take i) : Nat) : Int)) (hn : ∀ n ∈ ns, Bn 6000 (n : Int)) : F_common_multiple [.lst (ns.map fun n : Nat => U.int (n : Int))] = .ok (.int ((lcmL ns : Nat) : Int)) := by
  obtain ⟨ρ', s', e, hs, z, rfl⟩ := loop_inv (us := ns.map fun n : Nat => U.int (n : Int)) (g := gN 2) (A := cmB) (ρ := [some (.lst (ns.map fun n : Nat => U.int (n : Int))), some (.int ((lcmL [] : Nat) : Int)), none]) (s := dSst)
    (fun i ρ s => s = dSst ∧ ∃ z, ρ = [some (.lst (ns.map fun n : Nat => U.int (n : Int))), some (.int ((lcmL (ns.take i) : Nat) : Int)), z]) (by
      rintro i u ρ s hu ⟨rfl, z, rfl⟩
      have hi : i < ns.length := by
        have := (List.getElem?_eq_some_iff.mp hu).1
        rwa [List.length_map] at this
      have hu2 : u = .int ((ns[i] : Nat) : Int) := by
        rw [List.getElem?_map, List.getElem?_eq_getElem hi, Option.map_some] at hu
        exact (Option.some.inj hu).symm
      subst hu2
      have b1 := hb i (by omega)
      have b2 := hn ns[i] (List.getElem_mem hi)
      have eq : lcmL (ns.take (i + 1)) = Nat.lcm (lcmL (ns.take i)) ns[i] := by
        rw [take_snoc (List.getElem?_eq_getElem hi), lcmL_snoc]
      refine ⟨_, [some (.lst (ns.map fun n : Nat => U.int (n : Int))), some (.int ((lcmL (ns.take (i + 1)) : Nat) : Int)), some (.int ((ns[i] : Nat) : Int))], dSst, rfl, ?_, rfl, _, rfl⟩
      refine sv_set (ev_n (us := [.int ((lcmL (ns.take i) : Nat) : Int), .int ((ns[i] : Nat) : Int)]) (s1 := dSst) rfl ?_)
      show (if lcmB _ && lcmB _ then some (U.int ((Nat.lcm _ _ : Nat) : Int)) else none) = _
      rw [show lcmB ((lcmL (ns.take i) : Nat) : Int) = true from decide_eq_true (b1.mono (by decide)), show lcmB ((ns[i] : Nat) : Int) = true from decide_eq_true (b2.mono (by decide)), Int.natAbs_natCast, Int.natAbs_natCast, ← eq]
      rfl) ⟨rfl, none, rfl⟩
  rw [List.length_map, List.take_length, hs] at e
  exact fv_ret (s1 := dSst) rfl (sv_seq (s1 := dSst) (ρ1 := [some (.lst (ns.map fun n : Nat => U.int (n : Int))), some (.int ((lcmL [] : Nat) : Int)), none]) rfl (sv_seq (sv_for (s1 := dSst) (us := ns.map fun n : Nat => U.int (n : Int)) rfl e) (sv_ret rfl)))
def perF (fs : List Fm) : Nat := lcmL (fs.map fun f => f.1.toNat)
theorem perF_bn {fs : List Fm} (gs : ∀ f ∈ fs, GF f) (hl : fs.length ≤ 2) : Bn 401 ((perF fs : Nat) : Int) ∧ 0 < perF fs := by
  have pos : ∀ n ∈ fs.map (fun f => f.1.toNat), 0 < n := fun n hn => by
    obtain ⟨f, hf, rfl⟩ := List.mem_map.mp hn
    have := (gs f hf).lo
    omega
  refine ⟨?_, lcmL_pos pos⟩
  have k := lcmL_le (ms := fs.map fun f => f.1.toNat) (B := 1000000000000000000000000000000000000000000000000000000000000) pos (fun n hn => by
    obtain ⟨f, hf, rfl⟩ := List.mem_map.mp hn
    have := (gs f hf).hi
    rw [t60_eq] at this
    omega)
  rw [List.length_map] at k
  have k2 : (1000000000000000000000000000000000000000000000000000000000000 : Nat) ^ fs.length ≤ 1000000000000000000000000000000000000000000000000000000000000 ^ 2 := Nat.pow_le_pow_right (by decide +kernel) hl
  have k3 : (1000000000000000000000000000000000000000000000000000000000000 : Nat) ^ 2 < 2 ^ 401 := by decide +kernel
  unfold Bn
  rw [Int.natAbs_natCast]
  unfold perF
  omega
theorem common_period_ok {fs : List Fm} (gs : ∀ f ∈ fs, GF f) (hl : fs.length ≤ 2) : F_common_period [.lst (fs.map fmU)] = .ok (.int ((perF fs : Nat) : Int)) := by
  have lc : eLc [1, 2] (iSeq (eV 0)) (gT (gsCons (gN 1) (gsCons (gN 2) gsNil))) tY (eV 1) [some (.lst (fs.map fmU)), none, none] dSst = .ok (.lst (fs.map fun f => U.int f.1)) dSst :=
    ev_lcI (l := fs) fmU (fun f => U.int f.1) (s1 := dSst) rfl (fun f _ => ⟨_, rfl, rfl⟩) (by omega)
  have e : (fs.map fun f => U.int f.1) = (fs.map fun f => f.1.toNat).map fun n : Nat => U.int (n : Int) := by
    rw [List.map_map]
    refine List.map_congr_left fun f hf => ?_
    show U.int f.1 = U.int ((f.1.toNat : Nat) : Int)
    rw [Int.toNat_of_nonneg (by have := (gs f hf).lo; omega)]
  rw [e] at lc
  have cm := cm_ok (ns := fs.map fun f => f.1.toNat) (fun i _ => by
    have := (perF_bn (fs := fs.take i) (fun f hf => gs f (List.mem_of_mem_take hf)) (by rw [List.length_take]; omega)).1
    unfold perF at this
    rw [← List.map_take]
    exact this.mono (by decide)) (fun n hn => by
    obtain ⟨f, hf, rfl⟩ := List.mem_map.mp hn
    have a := (gs f hf).lo
    have b := (gs f hf).hi
    rw [Int.toNat_of_nonneg (by omega)]
    exact (bn60 (by omega) b).mono (by decide))
  refine z_go ?_ rfl
  unfold f_common_period
  simp! [lc, cm]
  rfl
theorem max2f (i j : Int) : pMax2 [.int i, .int j] = some (.int (max i j)) := by
  show some (U.int (if j > i then j else i)) = _
  refine congrArg (fun z => some (U.int z)) ?_
  omega
theorem min2f (i j : Int) : pMin2 [.int i, .int j] = some (.int (min i j)) := by
  show some (U.int (if j < i then j else i)) = _
  refine congrArg (fun z => some (U.int z)) ?_
  omega
/-- how many numbers below b have a remainder in the run -/
def belR (p : Int × Int) (m b : Int) : Int := b / m * (p.2 - p.1) + max p.1 (min (b % m) p.2) - p.1
theorem below_run_ok {p : Int × Int} {m b : Int} (h0 : 0 ≤ p.1) (h1 : p.1 < p.2) (h2 : p.2 ≤ m) (hm : m ≤ T60) (bb : Bn 6000 b) : F_below_in_run [pcU p, .int m, .int b] = .ok (.int (belR p m b)) := by
  have m0 : 0 < m := by omega
  have bm := bn60 (by omega) hm
  have d := pDiv_int (i := b) m0 (bd_bn bm (by decide))
  have md := pMod_int (i := b) m0
  have mu : pMul (.int (b / m)) (.int (p.2 - p.1)) = some (.int (b / m * (p.2 - p.1))) := pMul_int (sm_bn bb.div (by decide)) (sm_bn (bn60 (x := p.2 - p.1) (by omega) (by omega)) (by decide))
  have w : F_within [.int (b % m), .int p.1, .int p.2] = .ok (.int (max p.1 (min (b % m) p.2))) := by
    refine z_go ?_ rfl
    unfold f_within
    simp! [max2f, min2f]
  refine z_go ?_ rfl
  unfold f_below_in_run
  simp! [pcU, d, md, mu, w]
  rfl
theorem sum_ints (l : List Int) : pSum [.lst (l.map U.int)] = some (.int l.sum) := by
  show (allInt (l.map U.int)).map _ = _
  rw [allInt_ints]
  rfl
theorem sum_ge0 : ∀ l : List Int, (∀ x ∈ l, 0 ≤ x) → 0 ≤ l.sum
  | [], _ => Int.le_refl _
  | x :: l, h => by
    rw [List.sum_cons]
    have := h x (by simp)
    have := sum_ge0 l fun y hy => h y (by simp [hy])
    omega
theorem sum_leB {B : Int} : ∀ l : List Int, (∀ x ∈ l, x ≤ B) → l.sum ≤ (l.length : Int) * B
  | [], _ => by simp
  | x :: l, h => by
    rw [List.sum_cons, List.length_cons]
    have := h x (by simp)
    have := sum_leB l fun y hy => h y (by simp [hy])
    push_cast
    rw [Int.add_mul]
    omega
theorem bn_sum {k : Nat} {l : List Int} (h0 : ∀ x ∈ l, 0 ≤ x) (hb : ∀ x ∈ l, Bn k x) (hl : l.length ≤ 64) : Bn (k + 7) l.sum := by
  have s0 := sum_ge0 l h0
  have p : (0 : Int) < 2 ^ k := Int.pow_pos (by decide)
  have s1 := sum_leB (B := 2 ^ k) l fun x hx => by
    have a := hb x hx
    have b := h0 x hx
    unfold Bn at a
    have h3 : ((x.natAbs : Nat) : Int) = x := by omega
    have h4 : ((2 ^ k : Nat) : Int) = (2 : Int) ^ k := by simp
    omega
  have s2 : (l.length : Int) * 2 ^ k ≤ 64 * 2 ^ k := Int.mul_le_mul_of_nonneg_right (by omega) (by omega)
  refine Bn.of s0 ?_
  rw [Int.pow_add]
  have : (2 : Int) ^ 7 = 128 := by decide
  rw [this]
  omega
theorem bel_zero {p : Int × Int} {m : Int} (h0 : 0 ≤ p.1) (h1 : p.1 < p.2) : belR p m 0 = 0 := by
  unfold belR
  rw [Int.zero_ediv, Int.zero_emod]
  omega
theorem bel_mult {p : Int × Int} {m k : Int} (h0 : 0 ≤ p.1) (h1 : p.1 < p.2) (hm : 0 < m) : belR p m (m * k) = k * (p.2 - p.1) := by
  unfold belR
  rw [Int.mul_ediv_cancel_left _ (by omega), Int.mul_emod_right]
  omega
/-- in one period -/
theorem window_one_ok {f : Fm} (g : GF f) {lo hi : Int} (b1 : Bn 6000 lo) (b2 : Bn 6000 hi) : F_window_of_one [fmU f, .int lo, .int hi] = .ok (.int (f.2.map fun p => belR p f.1 hi - belR p f.1 lo).sum) := by
  have few := g.few
  have lc : eLc [5] (iSeq (eV 4)) (gN 5) tY (e2 pSub (eCall 3 F_below_in_run (aCons (eV 5) (aCons (eV 3) (aCons (eV 2) aNil)))) (eCall 3 F_below_in_run (aCons (eV 5) (aCons (eV 3) (aCons (eV 1) aNil))))) [some (fmU f), some (.int lo), some (.int hi), some (.int f.1), some (.tup (f.2.map pcU)), none] dSst = .ok (.lst (f.2.map fun p => U.int (belR p f.1 hi - belR p f.1 lo))) dSst :=
    ev_lcI (l := f.2) pcU (fun p => U.int (belR p f.1 hi - belR p f.1 lo)) (s1 := dSst) rfl (fun p hp => ⟨_, rfl, by
      obtain ⟨h0, h1, h2⟩ := g.each p hp
      have e1 := below_run_ok h0 h1 h2 g.hi b1
      have e2' := below_run_ok h0 h1 h2 g.hi b2
      simp! [wipeR, e1, e2']⟩) (by omega)
  have em : (f.2.map fun p => U.int (belR p f.1 hi - belR p f.1 lo)) = (f.2.map fun p => belR p f.1 hi - belR p f.1 lo).map U.int := by rw [List.map_map]; rfl
  rw [em] at lc
  have sm := sum_ints (f.2.map fun p => belR p f.1 hi - belR p f.1 lo)
  refine z_go ?_ rfl
  unfold f_window_of_one
  have lc' : eLc [5] (iSeq (eV 4)) (gN 5) tY (e2 pSub (eCall 3 F_below_in_run (aCons (eV 5) (aCons (eV 3) (aCons (eV 2) aNil)))) (eCall 3 F_below_in_run (aCons (eV 5) (aCons (eV 3) (aCons (eV 1) aNil))))) [some (.tup [.int f.1, .tup (f.2.map pcU)]), some (.int lo), some (.int hi), some (.int f.1), some (.tup (f.2.map pcU)), none] dSst = _ := lc
  simp! [fmU, z_gN, lc', sm]
theorem circle_ok {a b c d g : Int} (b0 : 0 ≤ b) (bg : b < g) : ∃ x : Int, F_common_in_circle [.tup [.int a, .int b], .tup [.int c, .int d], .int g] = .ok (.int x) ∧ 0 ≤ x ∧ x ≤ 3 * g := by
  have key : ∀ t : Int, 0 ≤ max 0 (min (a + b) (c + d + t) - max a (c + t)) ∧ max 0 (min (a + b) (c + d + t) - max a (c + t)) ≤ g := fun t => by omega
  have lc : eLc [3] (iSeq (eN pTup (aCons (My.e1 pNeg (eV 2)) (aCons (eC (.int 0)) (aCons (eV 2) aNil))))) (gN 3) tY (eN pMax2 (aCons (eC (.int 0)) (aCons (e2 pSub (eN pMin2 (aCons (e2 pAdd (e2 pIdx (eV 0) (eC (.int 0))) (e2 pIdx (eV 0) (eC (.int 1)))) (aCons (e2 pAdd (e2 pAdd (e2 pIdx (eV 1) (eC (.int 0))) (e2 pIdx (eV 1) (eC (.int 1)))) (eV 3)) aNil))) (eN pMax2 (aCons (e2 pIdx (eV 0) (eC (.int 0))) (aCons (e2 pAdd (e2 pIdx (eV 1) (eC (.int 0))) (eV 3)) aNil)))) aNil))) [some (.tup [.int a, .int b]), some (.tup [.int c, .int d]), some (.int g), none] dSst = .ok (.lst ([-g, 0, g].map fun t => U.int (max 0 (min (a + b) (c + d + t) - max a (c + t))))) dSst :=
    ev_lcI (l := [-g, 0, g]) U.int (fun t => U.int (max 0 (min (a + b) (c + d + t) - max a (c + t)))) (s1 := dSst) rfl (fun t _ => ⟨_, rfl, by simp! [wipeR, max2f, min2f]⟩) (by show 3 ≤ _; decide)
  have em : ([-g, 0, g].map fun t => U.int (max 0 (min (a + b) (c + d + t) - max a (c + t)))) = ([-g, 0, g].map fun t => max 0 (min (a + b) (c + d + t) - max a (c + t))).map U.int := by rw [List.map_map]; rfl
  rw [em] at lc
  have sm := sum_ints ([-g, 0, g].map fun t => max 0 (min (a + b) (c + d + t) - max a (c + t)))
  refine ⟨([-g, 0, g].map fun t => max 0 (min (a + b) (c + d + t) - max a (c + t))).sum, z_go ?_ rfl, sum_ge0 _ fun x hx => ?_, ?_⟩
  · unfold f_common_in_circle
    simp! [lc, sm]
  · obtain ⟨t, _, rfl⟩ := List.mem_map.mp hx
    exact (key t).1
  · have := sum_leB (B := g) ([-g, 0, g].map fun t => max 0 (min (a + b) (c + d + t) - max a (c + t))) fun x hx => by
      obtain ⟨t, _, rfl⟩ := List.mem_map.mp hx
      exact (key t).2
    exact this
theorem pairs_ok {p q : Int × Int} {g : Int} (h0 : 0 ≤ p.1) (h1 : p.1 < p.2) (h2 : p.2 ≤ T60) (k0 : 0 ≤ q.1) (k1 : q.1 < q.2) (k2 : q.2 ≤ T60) (g0 : 0 < g) (g1 : g ≤ T60) : ∃ x : Int, F_pairs_of_runs [pcU p, pcU q, .int g] = .ok (.int x) ∧ 0 ≤ x ∧ Bn 700 x := by
  have bg := bn60 (by omega) g1
  have dm : ∀ i : Int, pDivmod [.int i, .int g] = some (.tup [.int (i / g), .int (i % g)]) := fun i => by
    show (if decide (0 < g) && bdB g then some (U.tup [.int (i / g), .int (i % g)]) else none) = _
    rw [decide_eq_true g0, bd_bn bg (by decide)]
    rfl
  have md := fun i => pMod_int (i := i) g0
  have r1 := Int.emod_nonneg (p.2 - p.1) (show g ≠ 0 by omega)
  have r2 := Int.emod_lt_of_pos (p.2 - p.1) g0
  have s1 := Int.emod_nonneg (q.2 - q.1) (show g ≠ 0 by omega)
  have s2 := Int.emod_lt_of_pos (q.2 - q.1) g0
  have t0 : 0 ≤ (p.2 - p.1) / g := Int.ediv_nonneg (by omega) (by omega)
  have u0 : 0 ≤ (q.2 - q.1) / g := Int.ediv_nonneg (by omega) (by omega)
  obtain ⟨x, ex, x0, x1⟩ := circle_ok (a := p.1 % g) (c := q.1 % g) (d := (q.2 - q.1) % g) r1 r2
  have bt : Bn 200 ((p.2 - p.1) / g) := Bn.div (bn60 (by omega) (by omega))
  have bu : Bn 200 ((q.2 - q.1) / g) := Bn.div (bn60 (by omega) (by omega))
  have bl : Bn 200 ((p.2 - p.1) % g) := bn60 r1 (by omega)
  have bm : Bn 200 ((q.2 - q.1) % g) := bn60 s1 (by omega)
  have bx : Bn 203 x := by
    refine Bn.of x0 ?_
    have : (2 : Int) ^ 203 = 12855504354071922204335696738729300820177623950262342682411008 := by decide +kernel
    rw [this]
    have := t60_eq
    omega
  have dp := dm (p.2 - p.1)
  have dq := dm (q.2 - q.1)
  have mp := md p.1
  have mq := md q.1
  clear dm md
  generalize (p.2 - p.1) / g = t at *
  generalize (q.2 - q.1) / g = u at *
  generalize (p.2 - p.1) % g = l at *
  generalize (q.2 - q.1) % g = m at *
  have m1 : pMul (.int t) (.int u) = some (.int (t * u)) := pMul_int (sm_bn bt (by decide)) (sm_bn bu (by decide))
  have m2 : pMul (.int (t * u)) (.int g) = some (.int (t * u * g)) := pMul_int (sm_bn (bt.mul bu) (by decide)) (sm_bn bg (by decide))
  have m3 : pMul (.int t) (.int m) = some (.int (t * m)) := pMul_int (sm_bn bt (by decide)) (sm_bn bm (by decide))
  have m4 : pMul (.int u) (.int l) = some (.int (u * l)) := pMul_int (sm_bn bu (by decide)) (sm_bn bl (by decide))
  refine ⟨t * u * g + t * m + u * l + x, z_go ?_ rfl, ?_, ?_⟩
  · have i0 : pIdx (pcU p) (.int 0) = some (.int p.1) := rfl
    have i1 : pIdx (pcU p) (.int 1) = some (.int p.2) := rfl
    have j0 : pIdx (pcU q) (.int 0) = some (.int q.1) := rfl
    have j1 : pIdx (pcU q) (.int 1) = some (.int q.2) := rfl
    unfold f_pairs_of_runs
    simp! [i0, i1, j0, j1, dp, dq, mp, mq, z_gN, ex, m1, m2, m3, m4]
  · have := Int.mul_nonneg (Int.mul_nonneg t0 u0) (show 0 ≤ g by omega)
    have := Int.mul_nonneg t0 s1
    have := Int.mul_nonneg u0 r1
    omega
  · have a1 := (bt.mul bu).mul bg
    have a2 := bt.mul bm
    have a3 := bu.mul bl
    have a4 : Bn 601 (t * u * g + t * m) := by
      unfold Bn at *
      have e1 : (2 : Nat) ^ (200 + 200 + 200) = 2 ^ 600 := rfl
      have e2' : (2 : Nat) ^ (200 + 200) ≤ 2 ^ 600 := Nat.pow_le_pow_right (by decide) (by decide)
      have e3 : (2 : Nat) ^ 601 = 2 ^ 600 * 2 := Nat.pow_succ _ _
      omega
    have a5 : Bn 602 (t * u * g + t * m + u * l) := by
      unfold Bn at *
      have e2' : (2 : Nat) ^ (200 + 200) ≤ 2 ^ 601 := Nat.pow_le_pow_right (by decide) (by decide)
      have e3 : (2 : Nat) ^ 602 = 2 ^ 601 * 2 := Nat.pow_succ _ _
      omega
    have a6 : Bn 603 (t * u * g + t * m + u * l + x) := by
      unfold Bn at *
      have e2' : (2 : Nat) ^ 203 ≤ 2 ^ 602 := Nat.pow_le_pow_right (by decide) (by decide)
      have e3 : (2 : Nat) ^ 603 = 2 ^ 602 * 2 := Nat.pow_succ _ _
      omega
    exact a6.mono (by decide)
/-- in one common period -/
theorem count_period_ok {fs : List Fm} (gs : ∀ f ∈ fs, GF f) (hl : fs.length = 1 ∨ fs.length = 2) (hp : pairsN fs ≤ 64) : ∃ x : Int, F_count_in_period [.lst (fs.map fmU)] = .ok (.int x) ∧ 0 ≤ x ∧ Bn 1200 x := by
  have cp := common_period_ok gs (by omega)
  obtain ⟨pb, pp⟩ := perF_bn gs (by omega)
  rcases hl with hl | hl
  · match fs, hl, gs, cp, pb, pp with
    | [f], _, gs, cp, pb, pp =>
      have g := gs f (by simp)
      have lo := g.lo
      have w := window_one_ok g (lo := 0) (hi := ((perF [f] : Nat) : Int)) (Bn.of (by decide) (by decide)) (pb.mono (by decide))
      obtain ⟨k, hk⟩ : f.1.toNat ∣ perF [f] := dvd_lcmL (by simp)
      have ek : ((perF [f] : Nat) : Int) = f.1 * (k : Int) := by
        rw [hk, Int.natCast_mul, Int.toNat_of_nonneg (by omega)]
      have each : ∀ x ∈ f.2.map (fun p => belR p f.1 ((perF [f] : Nat) : Int) - belR p f.1 0), 0 ≤ x ∧ Bn 700 x := fun x hx => by
        obtain ⟨p, hp, rfl⟩ := List.mem_map.mp hx
        obtain ⟨h0, h1, h2⟩ := g.each p hp
        have hi := g.hi
        rw [bel_zero h0 h1, ek, bel_mult h0 h1 (by omega), Int.sub_zero]
        refine ⟨Int.mul_nonneg (by omega) (by omega), ?_⟩
        have bk : Bn 401 (k : Int) := by
          refine Bn.le (by omega) ?_ pb
          rw [ek]
          have := Int.mul_le_mul_of_nonneg_right lo (show 0 ≤ (k : Int) by omega)
          omega
        exact (bk.mul (bn60 (x := p.2 - p.1) (by omega) (by omega))).mono (by decide)
      have few := g.few
      have sn := sum_ge0 _ fun x hx => (each x hx).1
      have sb := bn_sum (fun x hx => (each x hx).1) (fun x hx => (each x hx).2) (by rw [List.length_map]; exact few)
      refine ⟨_, z_go ?_ rfl, sn, sb.mono (by decide)⟩
      have ci : F_count_in [.lst [fmU f], .int 0, .int ((perF [f] : Nat) : Int)] = .ok (.int (f.2.map fun p => belR p f.1 ((perF [f] : Nat) : Int) - belR p f.1 0).sum) := by
        have n1 : ¬ (1 : Int) = 0 := by decide
        have n2 : ((1 : Nat) : Int) = 1 := rfl
        refine z_go ?_ rfl
        unfold f_count_in
        simp! [n1, n2, w]
      have c1 : ((1 : Nat) : Int) < 2 := by decide
      unfold f_count_in_period
      simp only [List.map_cons, List.map_nil] at cp ⊢
      simp! [c1, cp, ci]
  · match fs, hl, gs, hp with
    | [a, b], _, gs, hp =>
      have ga := gs a (by simp)
      have gb := gs b (by simp)
      have al := ga.lo
      have ah := ga.hi
      have bl := gb.lo
      have bh := gb.hi
      have gd : pGcd [.int a.1, .int b.1] = some (.int ((Nat.gcd a.1.toNat b.1.toNat : Nat) : Int)) := by
        have := gcd_U a.1.toNat b.1.toNat
        rwa [Int.toNat_of_nonneg (by omega), Int.toNat_of_nonneg (by omega)] at this
      have gp : 0 < Nat.gcd a.1.toNat b.1.toNat := Nat.gcd_pos_of_pos_left _ (by omega)
      have gle : Nat.gcd a.1.toNat b.1.toNat ≤ a.1.toNat := Nat.gcd_le_left _ (by omega)
      generalize Nat.gcd a.1.toNat b.1.toNat = g at *
      have pr : ∀ p ∈ a.2, ∀ q ∈ b.2, ∃ x : Int, F_pairs_of_runs [pcU p, pcU q, .int (g : Int)] = .ok (.int x) ∧ 0 ≤ x ∧ Bn 700 x := fun p hp q hq => by
        obtain ⟨h0, h1, h2⟩ := ga.each p hp
        obtain ⟨k0, k1, k2⟩ := gb.each q hq
        exact pairs_ok h0 h1 (by omega) k0 k1 (by omega) (by omega) (by omega)
      have ch : ∃ F : Int × Int → Int × Int → Int, ∀ p ∈ a.2, ∀ q ∈ b.2, F_pairs_of_runs [pcU p, pcU q, .int (g : Int)] = .ok (.int (F p q)) ∧ 0 ≤ F p q ∧ Bn 700 (F p q) := by
        refine ⟨fun p q => match F_pairs_of_runs [pcU p, pcU q, .int (g : Int)] with | .ok (.int x) => x | _ => 0, fun p hp q hq => ?_⟩
        obtain ⟨x, e, x0, x1⟩ := pr p hp q hq
        simp only [e]
        exact ⟨trivial, x0, x1⟩
      obtain ⟨F, hF⟩ := ch
      have lc : eLc2 [4, 5] [5] (iSeq (e2 pIdx (eV 1) (eC (.int 1)))) (gN 4) tY (iSeq (e2 pIdx (eV 2) (eC (.int 1)))) (gN 5) tY (eCall 3 F_pairs_of_runs (aCons (eV 4) (aCons (eV 5) (aCons (eV 3) aNil)))) [some (.lst [fmU a, fmU b]), some (fmU a), some (fmU b), some (.int (g : Int)), none, none] dSst = .ok (.lst (a.2.flatMap fun p => b.2.map fun q => U.int (F p q))) dSst := by
        refine ev_lc2I (l := a.2) (m := b.2) pcU pcU (fun p q => U.int (F p q)) (s1 := dSst) rfl (fun p hp => ⟨_, rfl, rfl, fun q hq => ⟨_, rfl, ?_⟩⟩) ?_
        · have e := (hF p hp q hq).1
          simp! [wipeR, e]
        · have h64 : a.2.length * b.2.length ≤ 64 := hp
          omega
      have em : (a.2.flatMap fun p => b.2.map fun q => U.int (F p q)) = (a.2.flatMap fun p => b.2.map fun q => F p q).map U.int := by
        rw [List.map_flatMap]
        simp only [List.map_map]
        rfl
      rw [em] at lc
      have sm := sum_ints (a.2.flatMap fun p => b.2.map fun q => F p q)
      have each : ∀ x ∈ (a.2.flatMap fun p => b.2.map fun q => F p q), 0 ≤ x ∧ Bn 700 x := fun x hx => by
        obtain ⟨p, hp, hx⟩ := List.mem_flatMap.mp hx
        obtain ⟨q, hq, rfl⟩ := List.mem_map.mp hx
        exact (hF p hp q hq).2
      have ln : (a.2.flatMap fun p => b.2.map fun q => F p q).length ≤ 64 := by
        have h64 : a.2.length * b.2.length ≤ 64 := hp
        have key : ∀ l : List (Int × Int), (l.flatMap fun p => b.2.map fun q => F p q).length = l.length * b.2.length := by
          intro l
          induction l with
          | nil => simp
          | cons p l ih => rw [List.flatMap_cons, List.length_append, ih, List.length_map, List.length_cons, Nat.succ_mul, Nat.add_comm]
        rw [key]
        exact h64
      refine ⟨_, z_go ?_ rfl, sum_ge0 _ fun x hx => (each x hx).1, (bn_sum (fun x hx => (each x hx).1) (fun x hx => (each x hx).2) ln).mono (by decide)⟩
      have c1 : ¬ ((2 : Nat) : Int) < 2 := by decide
      simp only [List.map_cons, List.map_nil]
      unfold f_count_in_period
      simp! [c1, z_gN, idx_f0, gd, lc, sm]
theorem share_ends {fs : List Fm} (gs : ∀ f ∈ fs, GF f) (hl : fs.length = 1 ∨ fs.length = 2) (hp : pairsN fs ≤ 64) : ∃ u, F_common_share [.lst (fs.map fmU)] = .ok u := by
  have dk := door_ok gs hl (most := 64) (by omega)
  have cp := common_period_ok gs (by omega)
  obtain ⟨pb, pp⟩ := perF_bn gs (by omega)
  obtain ⟨x, ex, x0, xb⟩ := count_period_ok gs hl hp
  generalize perF fs = P at *
  have po : F_period_of [.lst [.tup [.int 1, .lst (fs.map fmU)]]] = .ok (.int (P : Int)) := by
    have cm := cm_ok (ns := [P]) (fun i hi => by
      have : i = 0 ∨ i = 1 := by simp at hi; omega
      rcases this with rfl | rfl
      · show Bn 6000 ((1 : Nat) : Int)
        exact Bn.of (by decide) (by decide)
      · show Bn 6000 ((lcmL [P] : Nat) : Int)
        rw [show lcmL [P] = P by simp [lcmL]]
        exact pb.mono (by decide)) (fun n hn => by
        rw [List.mem_singleton] at hn
        subst hn
        exact pb.mono (by decide))
    rw [show lcmL [P] = P by simp [lcmL]] at cm
    have lc : eLc [1, 2] (iSeq (eV 0)) (gT (gsCons (gN 1) (gsCons (gN 2) gsNil))) tY (eCall 1 F_common_period (aCons (eV 2) aNil)) [some (.lst [.tup [.int 1, .lst (fs.map fmU)]]), none, none] dSst = .ok (.lst [.int (P : Int)]) dSst := by
      have := ev_lcI (vs := [1, 2]) (i := iSeq (eV 0)) (g := gT (gsCons (gN 1) (gsCons (gN 2) gsNil))) (a := eCall 1 F_common_period (aCons (eV 2) aNil)) (ρ := [some (.lst [.tup [.int 1, .lst (fs.map fmU)]]), none, none]) (s := dSst) (s1 := dSst) (l := [()]) (fun _ => .tup [.int 1, .lst (fs.map fmU)]) (fun _ => U.int (P : Int)) rfl (fun _ _ => ⟨_, rfl, by simp! [wipeR, cp]⟩) (by show 1 ≤ _; decide)
      exact this
    refine z_go ?_ rfl
    unfold f_period_of
    simp! [lc]
    have cm' : F_common_multiple [.lst [.int (P : Int)]] = _ := cm
    simp! [cm']
  have wc : F_whole_count [.lst [.tup [.int 1, .lst (fs.map fmU)]], .int (P : Int)] = .ok (.int x) := by
    have pd : pDiv (.int (P : Int)) (.int (P : Int)) = some (.int 1) := by
      rw [pDiv_int (by omega) (bd_bn (pb.mono (Nat.le_refl _)) (by decide)), Int.ediv_self (by omega)]
    have m1 : pMul (.int 1) (.int x) = some (.int x) := by
      rw [pMul_int (sm_bn (Bn.of (k := 10) (by decide) (by decide)) (by decide)) (sm_bn xb (by decide)), Int.one_mul]
    have m2 : pMul (.int x) (.int 1) = some (.int x) := by
      rw [pMul_int (sm_bn xb (by decide)) (sm_bn (Bn.of (k := 10) (by decide) (by decide)) (by decide)), Int.mul_one]
    have lc : eLc [2, 3] (iSeq (eV 0)) (gT (gsCons (gN 2) (gsCons (gN 3) gsNil))) tY (e2 pMul (e2 pMul (eV 2) (eCall 1 F_count_in_period (aCons (eV 3) aNil))) (e2 pDiv (eV 1) (eCall 1 F_common_period (aCons (eV 3) aNil)))) [some (.lst [.tup [.int 1, .lst (fs.map fmU)]]), some (.int (P : Int)), none, none] dSst = .ok (.lst [.int x]) dSst := by
      have := ev_lcI (vs := [2, 3]) (i := iSeq (eV 0)) (g := gT (gsCons (gN 2) (gsCons (gN 3) gsNil))) (a := e2 pMul (e2 pMul (eV 2) (eCall 1 F_count_in_period (aCons (eV 3) aNil))) (e2 pDiv (eV 1) (eCall 1 F_common_period (aCons (eV 3) aNil)))) (ρ := [some (.lst [.tup [.int 1, .lst (fs.map fmU)]]), some (.int (P : Int)), none, none]) (s := dSst) (s1 := dSst) (l := [()]) (fun _ => .tup [.int 1, .lst (fs.map fmU)]) (fun _ => U.int x) rfl (fun _ _ => ⟨_, rfl, by simp! [wipeR, ex, m1, pd, cp, m2]⟩) (by show 1 ≤ _; decide)
      exact this
    have sm : pSum [.lst [.int x]] = some (.int x) := by
      have := sum_ints [x]
      simpa using this
    refine z_go ?_ rfl
    unfold f_whole_count
    simp! [lc, sm]
  have fr := fraction_ok (a := x.toNat) (b := P) pp (pb.mono (by decide))
  rw [Int.toNat_of_nonneg x0] at fr
  obtain ⟨u0, fr⟩ : ∃ u0, F_fraction [.int x, .int (P : Int)] = .ok u0 := ⟨_, fr⟩
  have sh : ∃ u, F_share_of_sum [.lst [.tup [.int 1, .lst (fs.map fmU)]]] = .ok u := by
    refine ⟨u0, z_go ?_ rfl⟩
    unfold f_share_of_sum
    simp! [po, wc, fr]
  obtain ⟨u, eu⟩ := sh
  refine ⟨u, z_go ?_ rfl⟩
  unfold f_common_share
  simp! [dk, eu]
end My

set_option linter.all false
set_option autoImplicit false
set_option maxRecDepth 100000
set_option maxHeartbeats 4000000
namespace My
open PySem PySem.Spec PyProof.Rows L2
local macro_rules | `(tactic| walk_at "bn") => `(tactic| repeat (first | (with_reducible assumption) | (with_reducible apply Bn.mul) | (with_reducible apply Bn.add) | (with_reducible apply Bn.sub) | (with_reducible apply Bn.div) | (with_reducible apply Bn.mod) | (with_reducible apply bn2) | (with_reducible apply bn1) | (with_reducible apply bn3) | (with_reducible apply bn0) | (with_reducible apply bn10) | exact Bn.lit rfl))
local macro_rules | `(tactic| walk_at "sm") => `(tactic| first | (with_reducible assumption) | ((with_reducible apply sm_bn); (focus walk_at "bn"); decide) | ((with_reducible apply bd_bn); (focus walk_at "bn"); decide) | omega)
local macro_rules | `(tactic| walk_at "pp") => `(tactic| first | (with_reducible apply pAdd_int) | (with_reducible apply pSub_int) | (with_reducible apply pLt_int) | (with_reducible apply pLe_int) | (with_reducible apply pGt_int) | (with_reducible apply pGe_int) | (with_reducible apply pNeg_int) | (with_reducible apply pAdd'_int) | (with_reducible apply pEq_int) | (with_reducible apply pNe_int) | ((with_reducible apply pMul_int) <;> walk_at "sm") | ((with_reducible apply pDiv_int) <;> walk_at "sm") | ((with_reducible apply pMod_int) <;> walk_at "sm") | exact rfl)
local macro_rules | `(tactic| walk_at "ev") => `(tactic| first | (with_reducible apply ev_c) | ((with_reducible apply ev_v); exact rfl) | (with_reducible apply av_nil) | (with_reducible apply tv_y) | ((with_reducible apply ev_2); (focus walk_at "ev"); (focus walk_at "ev"); (focus walk_at "pp")) | ((with_reducible apply ev_n); (focus walk_at "ev"); (focus walk_at "pp")) | ((with_reducible apply av_cons); (focus walk_at "ev"); (focus walk_at "ev")) | ((with_reducible apply ev_1); (focus walk_at "ev"); (focus walk_at "pp")) | ((with_reducible apply tv_v); (focus walk_at "ev")) | ((with_reducible apply ev_not); (focus walk_at "ev")) | ((with_reducible apply tv_n); (focus walk_at "ev")) | ((with_reducible apply iv_seq); (focus walk_at "ev"); exact rfl) | ((with_reducible apply iv_rng); (focus walk_at "ev"); exact rfl) | ((with_reducible apply iv_rev); (focus walk_at "ev")))
local macro_rules | `(tactic| walk_at "sv") => `(tactic| first | ((with_reducible apply sv_set); (focus walk_at "ev")) | ((with_reducible apply sv_asg); (focus walk_at "ev"); exact rfl) | ((with_reducible apply sv_par2); (focus walk_at "ev")) | ((with_reducible apply sv_par3); (focus walk_at "ev")) | ((with_reducible apply sv_ret); (focus walk_at "ev")) | ((with_reducible apply sv_drop); (focus walk_at "ev")) | (with_reducible apply sv_nil))
local macro_rules | `(tactic| walk_at "ls") => `(tactic| try simp only [startR, List.map_cons, List.map_nil, List.replicate, List.cons_append, List.nil_append, List.set_cons_zero, List.set_cons_succ])
local macro_rules | `(tactic| walk_at "go") => `(tactic| repeat ((with_reducible apply sv_seq); (focus walk_at "sv"); walk_at "ls"))
local macro_rules | `(tactic| simp! [$ts,*]) => `(tactic| simp only [z_callSV, z_callV, z_asv1, z_asv2, z_asv3, z_av1, z_av2, z_av3, z_noL, z_noLE, z_noL0, z_noL0E, z_idx1, z_idxK, z_while, z_try, z_tryN, z_tryR, z_apK, z_apK1, z_putK, z_putK1, z_putL, z_cnt1, z_cntK, List.getElem?_cons_zero, List.getElem?_cons_succ, z_iAnd, z_iOr, z_iAndB, z_iOrB, z_seqF, z_sqFN, z_sqFE, z_bind, z_bindE, z_opt, z_lift, z_liftE, z_c, z_v0, z_vS, z_1, z_2, z_n, z_nil, z_cons, z_call, z_callS, z_ap0, z_ap1, z_ap2, z_ap3, z_ap4, z_ap5, z_ap6, z_as0, z_as1, z_as2, z_as3, z_as4, z_as5, z_not, z_and, z_or, z_ife, z_chain, z_toB, z_tV, z_tT, z_tN, z_tA, z_tO, z_tY, z_trB, z_trI, z_trN, z_trL, z_trT, z_sl, z_oNo, z_oSo, z_toI, z_slL, z_slT, z_stm, z_stmE, z_skip, z_seq, z_sqN, z_sqR, z_sqE, z_sqB, z_sqC, z_gN, z_gT, z_gL, z_gsC, z_gsN, z_asg, z_asgS, z_par2, z_par3, z_drop, z_ret, z_retN, z_brk, z_cnt, z_if, z_raise, z_for, z_lp0, z_lpN, z_lpC, z_lpB, z_lpR, z_lpE, z_iseq, z_sqL, z_sqT, z_rng, z_finN, z_finR, z_finE, z_finSN, z_finSR, z_finSE, z_lenL, z_lenT, z_t0, z_l0, z_t1, z_l1, z_t2, z_l2, z_ln1, z_tup0, z_tup1, z_tup2, z_tup3, z_tup4, z_lst0, z_lst1, z_lst2, z_lst3, z_lst4, z_tupleL, z_tupleT, z_listL, z_listT, z_isN, z_nisN, z_nonI, z_nonN, z_nonT, z_nonL, z_nonE, z_nonS, z_nonB, z_start1, z_start0, z_start2, z_start3, z_start4, z_start5, z_start6, z_int, z_intB, pAdd_int, pAdd'_int, pSub_int, pLt_int, pLe_int, pGt_int, pGe_int, pEq_int, pNe_int, pNeg_int, List.set_cons_zero, List.set_cons_succ, List.replicate_succ, List.replicate_zero, Option.bind_some, Option.map_some, decide_eq_true_eq, Bool.not_eq_true', decide_eq_false_iff_not, if_true, if_false, ite_true, ite_false, Bool.false_eq_true, reduceIte, Bool.not_true, Bool.not_false, Bool.and_eq_true, Bool.or_eq_true, Bool.decide_eq_true, Bool.decide_and, Bool.decide_or, not_false_eq_true, decide_true, decide_false, Bool.and_true, Bool.and_false, Bool.true_and, Bool.false_and, Bool.or_true, Bool.or_false, Bool.true_or, Bool.false_or, List.length_cons, List.length_nil, Nat.reduceAdd, Nat.reduceLT, not_true_eq_false, true_and, and_true, false_and, and_false, or_true, true_or, or_false, false_or, and_self, or_self, $ts,*])
/-! ### the law of families: its words -/
abbrev wd (x : String) : U := .str (PySem.Str.ofString x)
structure Ex (c : String) (w : U) (b1 b2 b4 : Bool) (k : Int) : Prop where
  h1 : kls.contains c = true
  i1 : pInst kls [.exc c, .cls "InvalidFamilies"] = some (.bl b1)
  i2 : pInst kls [.exc c, .cls "InvalidNumber"] = some (.bl b2)
  i3 : pInst kls [.exc c, .cls "InvalidDeals"] = some (.bl false)
  i4 : pInst kls [.exc c, .cls "TooMany"] = some (.bl b4)
  ct : pCount (.lst [.bl b1, .bl b2, .bl false, .bl b4]) (.bl true) = some (.int 1)
  ix : pIndexU (.lst [.bl b1, .bl b2, .bl false, .bl b4]) (.bl true) = some (.int k)
  at' : pIdx (.lst [wd "families", wd "number", wd "deals", wd "many"]) (.int k) = some w
theorem exF : Ex "InvalidFamilies" (wd "families") true false false 0 := ⟨by decide +kernel, at_opt (by decide +kernel), at_opt (by decide +kernel), at_opt (by decide +kernel), at_opt (by decide +kernel), at_opt (by decide +kernel), at_opt (by decide +kernel), at_opt (by decide +kernel)⟩
theorem exN : Ex "InvalidNumber" (wd "number") false true false 1 := ⟨by decide +kernel, at_opt (by decide +kernel), at_opt (by decide +kernel), at_opt (by decide +kernel), at_opt (by decide +kernel), at_opt (by decide +kernel), at_opt (by decide +kernel), at_opt (by decide +kernel)⟩
theorem exM : Ex "TooMany" (wd "many") false false true 3 := ⟨by decide +kernel, at_opt (by decide +kernel), at_opt (by decide +kernel), at_opt (by decide +kernel), at_opt (by decide +kernel), at_opt (by decide +kernel), at_opt (by decide +kernel), at_opt (by decide +kernel)⟩
theorem lb4 : lineB (([.bl true, .bl true, .bl true] : List U).length + 1) = true := by decide +kernel
theorem word0e {v w : U} {c : String} {b1 b2 b4 : Bool} {k : Int} (E : Ex c w b1 b2 b4 k) (h : F_below [v, .non] = .err c) : F__law_word [.int 0, v] = .ok w := by
  refine z_go ?_ rfl
  unfold f__law_word
  have lb := lb4
  rw [List.length_cons, List.length_cons, List.length_cons, List.length_nil] at lb
  simp! [z_tryE E.h1 (show (decide (c = "MarkError") || decide ("MarkError" = "MarkError")) = true by simp), h, E.i1, E.i2, E.i3, E.i4, E.ct, E.ix, E.at', lb, eIdxOf, List.cons_append, List.nil_append, isLst]
theorem word1e {v w : U} {c : String} {b1 b2 b4 : Bool} {k : Int} (E : Ex c w b1 b2 b4 k) (h : F_nth [v, .int (-1)] = .err c) : F__law_word [.int 1, v] = .ok w := by
  refine z_go ?_ rfl
  unfold f__law_word
  have lb := lb4
  rw [List.length_cons, List.length_cons, List.length_cons, List.length_nil] at lb
  simp! [Int.reduceEq, z_tryE E.h1 (show (decide (c = "MarkError") || decide ("MarkError" = "MarkError")) = true by simp), h, E.i1, E.i2, E.i3, E.i4, E.ct, E.ix, E.at', lb, eIdxOf, List.cons_append, List.nil_append, isLst]
theorem word2e {v w : U} {c : String} {b1 b2 b4 : Bool} {k : Int} (E : Ex c w b1 b2 b4 k) (h : F_common_share [v] = .err c) : F__law_word [.int 2, v] = .ok w := by
  refine z_go ?_ rfl
  unfold f__law_word
  have lb := lb4
  rw [List.length_cons, List.length_cons, List.length_cons, List.length_nil] at lb
  simp! [Int.reduceEq, z_tryE E.h1 (show (decide (c = "MarkError") || decide ("MarkError" = "MarkError")) = true by simp), h, E.i1, E.i2, E.i3, E.i4, E.ct, E.ix, E.at', lb, eIdxOf, List.cons_append, List.nil_append, isLst]
theorem word2 {v u : U} (h : F_common_share [v] = .ok u) : F__law_word [.int 2, v] = .ok (wd "good") := by
  refine z_go ?_ rfl
  unfold f__law_word
  simp! [Int.reduceEq, z_tryN, h]
theorem words_ok {v w0 w1 w2 : U} {x1 x2 : Option U} {s : Sst} (h0 : F__law_word [.int 0, v] = .ok w0) (h1 : F__law_word [.int 1, v] = .ok w1) (h2 : F__law_word [.int 2, v] = .ok w2) : eLc [3] (iRng pRng1 (aCons (eC (.int 3)) aNil)) (gN 3) tY (eCall 2 F__law_word (aCons (eV 3) (aCons (eV 0) aNil))) [some v, x1, x2, none] s = .ok (.lst [w0, w1, w2]) s := by
  have := ev_lcM (vs := [3]) (i := iRng pRng1 (aCons (eC (.int 3)) aNil)) (g := gN 3) (a := eCall 2 F__law_word (aCons (eV 3) (aCons (eV 0) aNil))) (ρ := [some v, x1, x2, none]) (s := s) (s1 := s) (n := 3) (fun k : Nat => U.int (k : Int)) (fun k => [w0, w1, w2].getD k .non) (rng1_ok (n := 3) rfl (by omega)) (fun k hk => ⟨_, rfl, by
    match k, hk with
    | 0, _ => simp! [wipeR, h0, show ((0 : Nat) : Int) = 0 from rfl]; rfl
    | 1, _ => simp! [wipeR, h1, show ((1 : Nat) : Int) = 1 from rfl]; rfl
    | 2, _ => simp! [wipeR, h2, show ((2 : Nat) : Int) = 2 from rfl]; rfl⟩) (by omega)
  exact this
theorem nat_non : F_is_natural [.non] = .ok (.bl false) := at_ok (by decide +kernel)
theorem nat_neg : F_is_natural [.int (-1)] = .ok (.bl false) := at_ok (by decide +kernel)
theorem below_err {v : U} {c : String} (h : F_check_families [v, .int 64] = .err c) (b : U) : F_below [v, b] = .err c := by
  refine z_go ?_ rfl
  unfold f_below
  simp! [h]
theorem nth_err {v : U} {c : String} (h : F_check_families [v, .int 4] = .err c) (b : U) : F_nth [v, b] = .err c := by
  refine z_go ?_ rfl
  unfold f_nth
  simp! [h]
theorem share_err {v : U} {c : String} (h : F_check_families [v, .int 64] = .err c) : F_common_share [v] = .err c := by
  refine z_go ?_ rfl
  unfold f_common_share
  simp! [h]
theorem below_num {v b : U} (h : F_check_families [v, .int 64] = .ok .non) (n : F_is_natural [b] = .ok (.bl false)) : F_below [v, b] = .err "InvalidNumber" := by
  refine z_go ?_ rfl
  unfold f_below
  simp! [h, n, z_raise]
theorem nth_num {v b : U} (h : F_check_families [v, .int 4] = .ok .non) (n : F_is_natural [b] = .ok (.bl false)) : F_nth [v, b] = .err "InvalidNumber" := by
  refine z_go ?_ rfl
  unfold f_nth
  simp! [h, n, z_raise]
abbrev l3 (a b c : String) : U := .lst [wd a, wd b, wd c]
theorem eqF : pEq (l3 "families" "families" "families") (l3 "families" "families" "families") = some (.bl true) := pEq_closed (by decide +kernel)
theorem eqN : pEq (l3 "number" "number" "good") (l3 "number" "number" "good") = some (.bl true) := pEq_closed (by decide +kernel)
theorem eqNM : pEq (l3 "number" "many" "good") (l3 "number" "many" "good") = some (.bl true) := pEq_closed (by decide +kernel)
theorem eqM : pEq (l3 "many" "many" "many") (l3 "many" "many" "many") = some (.bl true) := pEq_closed (by decide +kernel)
theorem right_ok {v : U} (h : plV v = true) (hl : ∀ us, v = .lst us → us.length ≤ 1000) : F__law_right [v] = .ok (.bl true) := by
  have af := law_fams_any h hl
  have m1 : pMul (.lst [wd "families"]) (.int 3) = some (l3 "families" "families" "families") := rfl
  by_cases k : famsK v = true
  · rw [k] at af
    obtain ⟨fs, rfl, gs, l12⟩ := fams_of k
    have m2 : pMul (.lst [wd "many"]) (.int 3) = some (l3 "many" "many" "many") := rfl
    have p3 : ∀ a b c : U, pLst [a, b, c] = some (.lst [a, b, c]) := fun _ _ _ => rfl
    have pe : ∀ x1 : Option U, (e2 pMul (e2 pMul (eN pLen (aCons (e2 pIdx (e2 pIdx (eV 0) (eC (.int 0))) (eC (.int 1))) aNil)) (eN pLen (aCons (e2 pIdx (e2 pIdx (eV 0) (My.e1 pNeg (eC (.int 1)))) (eC (.int 1))) aNil))) (e2 pSub (eN pLen (aCons (eV 0) aNil)) (eC (.int 1)))) [some (.lst (fs.map fmU)), x1, none, none] dSst = .ok (.int (pairsN fs : Int)) dSst := fun x1 => by
      rcases l12 with hl1 | hl2
      · match fs, hl1, gs with
        | [a], _, gs =>
          have fa := (gs a (by simp)).few
          have mu : pMul (.int (a.2.length : Int)) (.int (a.2.length : Int)) = some (.int ((a.2.length : Int) * (a.2.length : Int))) := pMul_int (sm_bn (k := 30) (Bn.of (by omega) (by omega)) (by decide)) (sm_bn (k := 30) (Bn.of (by omega) (by omega)) (by decide))
          have i0 : pIdx (.lst [fmU a]) (.int 0) = some (fmU a) := rfl
          have i1 : pIdx (.lst [fmU a]) (.int (-1)) = some (fmU a) := rfl
          have c1 : ((1 : Nat) : Int) - 1 = 0 := by decide
          have mz : pMul (.int ((a.2.length : Int) * (a.2.length : Int))) (.int 0) = some (.int 0) := by
            rw [pMul_int (sm_bn (k := 60) ((Bn.of (k := 30) (x := (a.2.length : Int)) (by omega) (by omega)).mul (Bn.of (k := 30) (by omega) (by omega))) (by decide)) (by decide +kernel), Int.mul_zero]
          simp only [List.map_cons, List.map_nil]
          simp! [i0, i1, idx_f1, List.length_map, mu, c1, mz]
          rfl
      · match fs, hl2, gs with
        | [a, b], _, gs =>
          have fa := (gs a (by simp)).few
          have fb := (gs b (by simp)).few
          have mu : pMul (.int (a.2.length : Int)) (.int (b.2.length : Int)) = some (.int ((a.2.length : Int) * (b.2.length : Int))) := pMul_int (sm_bn (k := 30) (Bn.of (by omega) (by omega)) (by decide)) (sm_bn (k := 30) (Bn.of (by omega) (by omega)) (by decide))
          have i0 : pIdx (.lst [fmU a, fmU b]) (.int 0) = some (fmU a) := rfl
          have i1 : pIdx (.lst [fmU a, fmU b]) (.int (-1)) = some (fmU b) := rfl
          have c1 : ((2 : Nat) : Int) - 1 = 1 := by decide
          have mz : pMul (.int ((a.2.length : Int) * (b.2.length : Int))) (.int 1) = some (.int ((a.2.length * b.2.length : Nat) : Int)) := by
            rw [pMul_int (sm_bn (k := 60) ((Bn.of (k := 30) (x := (a.2.length : Int)) (by omega) (by omega)).mul (Bn.of (k := 30) (by omega) (by omega))) (by decide)) (by decide +kernel), Int.mul_one, Int.natCast_mul]
          simp only [List.map_cons, List.map_nil]
          simp! [i0, i1, idx_f1, List.length_map, mu, c1, mz]
          rfl
    by_cases c64 : 64 < pairsN fs
    · have w0 := word0e exM (below_err (door_many gs l12 (.inr rfl) (by omega)) .non)
      have w1 := word1e exM (nth_err (door_many gs l12 (.inl rfl) (by omega)) (.int (-1)))
      have w2 := word2e exM (share_err (door_many gs l12 (.inr rfl) (by omega)))
      have c4 : (4 : Int) < (pairsN fs : Int) := by omega
      have c64' : (64 : Int) < (pairsN fs : Int) := by omega
      have ws := words_ok (x1 := some (l3 "many" "many" "many")) (x2 := some (.int (pairsN fs : Int))) (s := dSst) w0 w1 w2
      have pu : ∀ (ρ : Rho) (s : Sst), putJ [wd "number", wd "number", wd "good"] 1 (wd "many") (.int 1) ρ s = .nx (ρ.set 1 (some (l3 "number" "many" "good"))) s := fun ρ s => z_putN (m := 1) (by decide)
      refine z_go ?_ rfl
      unfold f__law_right
      generalize (e2 pMul (e2 pMul (eN pLen (aCons (e2 pIdx (e2 pIdx (eV 0) (eC (.int 0))) (eC (.int 1))) aNil)) (eN pLen (aCons (e2 pIdx (e2 pIdx (eV 0) (My.e1 pNeg (eC (.int 1)))) (eC (.int 1))) aNil))) (e2 pSub (eN pLen (aCons (eV 0) aNil)) (eC (.int 1)))) = E at pe ⊢
      simp! [m1, af, pe, p3, c4, pu, c64', m2, ws, eqM]
    · have d64 := door_ok gs l12 (most := 64) (by omega)
      have w0 := word0e exN (below_num d64 nat_non)
      obtain ⟨u, eu⟩ := share_ends gs l12 (by omega)
      have w2 := word2 eu
      have c64' : ¬ (64 : Int) < (pairsN fs : Int) := by omega
      by_cases c : 4 < pairsN fs
      · have w1 := word1e exM (nth_err (door_many gs l12 (.inl rfl) (by omega)) (.int (-1)))
        have c4 : (4 : Int) < (pairsN fs : Int) := by omega
        have ws := words_ok (x1 := some (l3 "number" "many" "good")) (x2 := some (.int (pairsN fs : Int))) (s := dSst) w0 w1 w2
        have pu : ∀ (ρ : Rho) (s : Sst), putJ [wd "number", wd "number", wd "good"] 1 (wd "many") (.int 1) ρ s = .nx (ρ.set 1 (some (l3 "number" "many" "good"))) s := fun ρ s => z_putN (m := 1) (by decide)
        refine z_go ?_ rfl
        unfold f__law_right
        generalize (e2 pMul (e2 pMul (eN pLen (aCons (e2 pIdx (e2 pIdx (eV 0) (eC (.int 0))) (eC (.int 1))) aNil)) (eN pLen (aCons (e2 pIdx (e2 pIdx (eV 0) (My.e1 pNeg (eC (.int 1)))) (eC (.int 1))) aNil))) (e2 pSub (eN pLen (aCons (eV 0) aNil)) (eC (.int 1)))) = E at pe ⊢
        simp! [m1, af, pe, p3, c4, pu, c64', ws, eqNM]
      · have w1 := word1e exN (nth_num (door_ok gs l12 (most := 4) (by omega)) nat_neg)
        have c4 : ¬ (4 : Int) < (pairsN fs : Int) := by omega
        have ws := words_ok (x1 := some (l3 "number" "number" "good")) (x2 := some (.int (pairsN fs : Int))) (s := dSst) w0 w1 w2
        refine z_go ?_ rfl
        unfold f__law_right
        generalize (e2 pMul (e2 pMul (eN pLen (aCons (e2 pIdx (e2 pIdx (eV 0) (eC (.int 0))) (eC (.int 1))) aNil)) (eN pLen (aCons (e2 pIdx (e2 pIdx (eV 0) (My.e1 pNeg (eC (.int 1)))) (eC (.int 1))) aNil))) (e2 pSub (eN pLen (aCons (eV 0) aNil)) (eC (.int 1)))) = E at pe ⊢
        simp! [m1, af, pe, p3, c4, c64', ws, eqN]
  · have k := Bool.eq_false_iff.mpr k
    rw [k] at af
    have d64 := door_bad h hl k 64
    have d4 := door_bad h hl k 4
    have w0 := word0e exF (below_err d64 .non)
    have w1 := word1e exF (nth_err d4 (.int (-1)))
    have w2 := word2e exF (share_err d64)
    have ws := words_ok (x1 := some (l3 "families" "families" "families")) (x2 := none) (s := dSst) w0 w1 w2
    refine z_go ?_ rfl
    unfold f__law_right
    simp! [m1, af, ws, eqF]
end My

set_option linter.all false
set_option autoImplicit false
set_option maxRecDepth 100000
set_option maxHeartbeats 4000000
namespace My
open PySem PySem.Spec PyProof.Rows L2
local macro_rules | `(tactic| walk_at "bn") => `(tactic| repeat (first | (with_reducible assumption) | (with_reducible apply Bn.mul) | (with_reducible apply Bn.add) | (with_reducible apply Bn.sub) | (with_reducible apply Bn.div) | (with_reducible apply Bn.mod) | (with_reducible apply bn2) | (with_reducible apply bn1) | (with_reducible apply bn3) | (with_reducible apply bn0) | (with_reducible apply bn10) | exact Bn.lit rfl))
local macro_rules | `(tactic| walk_at "sm") => `(tactic| first | (with_reducible assumption) | ((with_reducible apply sm_bn); (focus walk_at "bn"); decide) | ((with_reducible apply bd_bn); (focus walk_at "bn"); decide) | omega)
local macro_rules | `(tactic| walk_at "pp") => `(tactic| first | (with_reducible apply pAdd_int) | (with_reducible apply pSub_int) | (with_reducible apply pLt_int) | (with_reducible apply pLe_int) | (with_reducible apply pGt_int) | (with_reducible apply pGe_int) | (with_reducible apply pNeg_int) | (with_reducible apply pAdd'_int) | (with_reducible apply pEq_int) | (with_reducible apply pNe_int) | ((with_reducible apply pMul_int) <;> walk_at "sm") | ((with_reducible apply pDiv_int) <;> walk_at "sm") | ((with_reducible apply pMod_int) <;> walk_at "sm") | exact rfl)
local macro_rules | `(tactic| walk_at "ev") => `(tactic| first | (with_reducible apply ev_c) | ((with_reducible apply ev_v); exact rfl) | (with_reducible apply av_nil) | (with_reducible apply tv_y) | ((with_reducible apply ev_2); (focus walk_at "ev"); (focus walk_at "ev"); (focus walk_at "pp")) | ((with_reducible apply ev_n); (focus walk_at "ev"); (focus walk_at "pp")) | ((with_reducible apply av_cons); (focus walk_at "ev"); (focus walk_at "ev")) | ((with_reducible apply ev_1); (focus walk_at "ev"); (focus walk_at "pp")) | ((with_reducible apply tv_v); (focus walk_at "ev")) | ((with_reducible apply ev_not); (focus walk_at "ev")) | ((with_reducible apply tv_n); (focus walk_at "ev")) | ((with_reducible apply iv_seq); (focus walk_at "ev"); exact rfl) | ((with_reducible apply iv_rng); (focus walk_at "ev"); exact rfl) | ((with_reducible apply iv_rev); (focus walk_at "ev")))
local macro_rules | `(tactic| walk_at "sv") => `(tactic| first | ((with_reducible apply sv_set); (focus walk_at "ev")) | ((with_reducible apply sv_asg); (focus walk_at "ev"); exact rfl) | ((with_reducible apply sv_par2); (focus walk_at "ev")) | ((with_reducible apply sv_par3); (focus walk_at "ev")) | ((with_reducible apply sv_ret); (focus walk_at "ev")) | ((with_reducible apply sv_drop); (focus walk_at "ev")) | (with_reducible apply sv_nil))
local macro_rules | `(tactic| walk_at "ls") => `(tactic| try simp only [startR, List.map_cons, List.map_nil, List.replicate, List.cons_append, List.nil_append, List.set_cons_zero, List.set_cons_succ])
local macro_rules | `(tactic| walk_at "go") => `(tactic| repeat ((with_reducible apply sv_seq); (focus walk_at "sv"); walk_at "ls"))
local macro_rules | `(tactic| simp! [$ts,*]) => `(tactic| simp only [z_callSV, z_callV, z_asv1, z_asv2, z_asv3, z_av1, z_av2, z_av3, z_noL, z_noLE, z_noL0, z_noL0E, z_idx1, z_idxK, z_while, z_try, z_tryN, z_tryR, z_apK, z_apK1, z_putK, z_putK1, z_putL, z_cnt1, z_cntK, List.getElem?_cons_zero, List.getElem?_cons_succ, z_iAnd, z_iOr, z_iAndB, z_iOrB, z_seqF, z_sqFN, z_sqFE, z_bind, z_bindE, z_opt, z_lift, z_liftE, z_c, z_v0, z_vS, z_1, z_2, z_n, z_nil, z_cons, z_call, z_callS, z_ap0, z_ap1, z_ap2, z_ap3, z_ap4, z_ap5, z_ap6, z_as0, z_as1, z_as2, z_as3, z_as4, z_as5, z_not, z_and, z_or, z_ife, z_chain, z_toB, z_tV, z_tT, z_tN, z_tA, z_tO, z_tY, z_trB, z_trI, z_trN, z_trL, z_trT, z_sl, z_oNo, z_oSo, z_toI, z_slL, z_slT, z_stm, z_stmE, z_skip, z_seq, z_sqN, z_sqR, z_sqE, z_sqB, z_sqC, z_gN, z_gT, z_gL, z_gsC, z_gsN, z_asg, z_asgS, z_par2, z_par3, z_drop, z_ret, z_retN, z_brk, z_cnt, z_if, z_raise, z_for, z_lp0, z_lpN, z_lpC, z_lpB, z_lpR, z_lpE, z_iseq, z_sqL, z_sqT, z_rng, z_finN, z_finR, z_finE, z_finSN, z_finSR, z_finSE, z_lenL, z_lenT, z_t0, z_l0, z_t1, z_l1, z_t2, z_l2, z_ln1, z_tup0, z_tup1, z_tup2, z_tup3, z_tup4, z_lst0, z_lst1, z_lst2, z_lst3, z_lst4, z_tupleL, z_tupleT, z_listL, z_listT, z_isN, z_nisN, z_nonI, z_nonN, z_nonT, z_nonL, z_nonE, z_nonS, z_nonB, z_start1, z_start0, z_start2, z_start3, z_start4, z_start5, z_start6, z_int, z_intB, pAdd_int, pAdd'_int, pSub_int, pLt_int, pLe_int, pGt_int, pGe_int, pEq_int, pNe_int, pNeg_int, List.set_cons_zero, List.set_cons_succ, List.replicate_succ, List.replicate_zero, Option.bind_some, Option.map_some, decide_eq_true_eq, Bool.not_eq_true', decide_eq_false_iff_not, if_true, if_false, ite_true, ite_false, Bool.false_eq_true, reduceIte, Bool.not_true, Bool.not_false, Bool.and_eq_true, Bool.or_eq_true, Bool.decide_eq_true, Bool.decide_and, Bool.decide_or, not_false_eq_true, decide_true, decide_false, Bool.and_true, Bool.and_false, Bool.true_and, Bool.false_and, Bool.or_true, Bool.or_false, Bool.true_or, Bool.false_or, List.length_cons, List.length_nil, Nat.reduceAdd, Nat.reduceLT, not_true_eq_false, true_and, and_true, false_and, and_false, or_true, true_or, or_false, false_or, and_self, or_self, $ts,*])
/-! ### a drawn family -/
theorem setsort6 {gs : List Int} (h : gs.length < 60) : pSetSort [.lst (gs.map U.int)] = some (.lst ((setI gs).map .int)) := by
  have h2 := setI_len gs
  show ((allInt (gs.map U.int)).bind fun ns => if (gs.map U.int).length < 4000 ∧ (setI ns).length < 60 then some (U.lst ((setI ns).map .int)) else none) = _
  rw [allInt_ints, Option.bind_some, if_pos ⟨by rw [List.length_map]; omega, by omega⟩]
def isTen (k : Nat) : R0 → Bool
  | .ok (.int i) => decide (i = ((10 ^ k : Nat) : Int))
  | _ => false
theorem isTen_ok {k : Nat} {r : R0} (h : isTen k r = true) : r = .ok (.int ((10 ^ k : Nat) : Int)) := by
  unfold isTen at h
  split at h
  · rw [decide_eq_true_eq] at h
    rw [h]
  · cases h
theorem ten_all : ∀ k : Nat, k < 61 → isTen k (F__law_ten [.int (k : Int)]) = true := by decide +kernel
theorem ten_ok {k : Nat} (h : k < 61) : F__law_ten [.int (k : Int)] = .ok (.int ((10 ^ k : Nat) : Int)) := isTen_ok (ten_all k h)
abbrev grB : SF := (sAsg (gN 2) (e2 pAdd (e2 pMul (eV 2) (e2 pPow (eC (.int 10)) (eC (.int 9)))) (eCallS 1 F__law_draw (aCons (e2 pPow (eC (.int 10)) (eC (.int 9))) aNil))))
theorem great_ok {t n : Int} {s : Sst} (h : Wf t s) (h0 : 0 < n) (ht : t < 1152921504606840000) : ∃ (r : Int) (s' : Sst), F__law_great s [.int n] = .ok (.int r) s' ∧ 0 ≤ r ∧ r < n ∧ Wf (t + 7) s' := by
  obtain ⟨ρ', s1, e1, w1, x, P, rfl, h2, h3⟩ := loop_inv (us := rngU 0 7 1) (g := gN 3) (A := grB) (ρ := [none, some (.int n), some (.int 0), none]) (s := s)
    (fun i ρ s => Wf (t + i) s ∧ ∃ (x : Int) (P : Option U), ρ = [none, some (.int n), some (.int x), P] ∧ 0 ≤ x ∧ Bn (32 * i + 1) x) (by
      rintro i u ρ s hu ⟨hw, x, P, rfl, h0, h1⟩
      have hi : i < 7 := (List.getElem?_eq_some_iff.mp hu).1
      obtain ⟨d, s', e, d0, d1, w⟩ := draw_ok (n := 1000000000) hw (by decide) (Bn.of (by decide) (by decide)) (by omega)
      refine ⟨_, _, s', rfl, sv_set (ev_2 (ev_2 (y := .int 1000000000) (s1 := s) (s2 := s) rfl rfl (z := .int (x * 1000000000)) (pMul_int (sm_bn h1 (by omega)) (by decide +kernel))) (ev_callS (us := [.int 1000000000]) (s1 := s) rfl rfl e) pAdd_int), ?_, _, _, rfl, by omega, ?_⟩
      · exact w.mono (by omega)
      · have h2 : x < 2 ^ (32 * i + 1) := by
          unfold Bn at h1
          have h3 : ((x.natAbs : Nat) : Int) = x := by omega
          have h4 : ((2 ^ (32 * i + 1) : Nat) : Int) = (2 : Int) ^ (32 * i + 1) := by simp
          omega
        refine Bn.of (by omega) ?_
        rw [show 32 * (i + 1) + 1 = (32 * i + 1) + 32 by omega, Int.pow_add]
        have : (2 : Int) ^ 32 = 4294967296 := by decide
        rw [this]
        omega) ⟨h.mono (by omega), 0, none, rfl, by decide, by unfold Bn; decide⟩
  refine ⟨x % n, s1, ?_, Int.emod_nonneg _ (by omega), Int.emod_lt_of_pos _ h0, w1.mono (by show t + ((rngU 0 7 1).length : Int) ≤ _; rw [show (rngU 0 7 1).length = 7 from rfl]; omega)⟩
  have run : f__law_great [none, some (.int n), none, none] s = .rt (.int (x % n)) s1 :=
    sv_seq (ρ1 := [none, some (.int n), some (.int 0), none]) (s1 := s) rfl (sv_seq (sv_for (us := rngU 0 7 1) (s1 := s) rfl e1) (sv_ret (ev_2 (x := .int x) (y := .int n) (s1 := s1) (s2 := s1) rfl rfl (pMod_int h0))))
  exact fS_ret rfl run
/-! pairs of ascending edges -/
def prs : List Int → List (Int × Int)
  | a :: b :: r => (a, b) :: prs r
  | _ => []
theorem prs_eq : ∀ es : List Int, prs es = (List.range (es.length / 2)).map fun k => (es.getD (2 * k) 0, es.getD (2 * k + 1) 0)
  | [] => rfl
  | [_] => by simp [prs]
  | a :: b :: r => by
    have e : (a :: b :: r).length / 2 = r.length / 2 + 1 := by
      simp only [List.length_cons]
      omega
    rw [prs, prs_eq r, e, List.range_succ_eq_map, List.map_cons, List.map_map]
    rfl
theorem prs_len : ∀ es : List Int, (prs es).length ≤ es.length / 2 := fun es => by
  rw [prs_eq, List.length_map, List.length_range]
  exact Nat.le_refl _
theorem prs_chain {m : Int} : ∀ (es : List Int) (b : Int), es.Pairwise (· < ·) → (∀ e ∈ es, b < e ∧ e ≤ m) → b ≤ m → chainB b (prs es) = true ∧ lastE b (prs es) ≤ m
  | [], b, _, _, h => ⟨rfl, h⟩
  | [_], b, _, _, h => ⟨rfl, h⟩
  | x :: y :: r, b, hp, he, h => by
    have h1 := List.pairwise_cons.mp hp
    have h2 := List.pairwise_cons.mp h1.2
    have hx := he x (by simp)
    have hy := he y (by simp)
    have xy := h1.1 y (by simp)
    obtain ⟨i1, i2⟩ := prs_chain r y h2.2 (fun e m => ⟨h2.1 e m, (he e (by simp [m])).2⟩) hy.2
    refine ⟨?_, i2⟩
    show ((decide (b < x) && decide (x < y)) && chainB y (prs r)) = true
    rw [i1, decide_eq_true hx.1, decide_eq_true xy]
    rfl
theorem getD_ix {es : List Int} {k : Nat} (h : k < es.length) : pIdx (.lst (es.map U.int)) (.int (k : Int)) = some (.int (es.getD k 0)) := by
  refine z_ixL ?_
  rw [List.getElem?_map, List.getElem?_eq_getElem h, Option.map_some, List.getD_eq_getElem?_getD, List.getElem?_eq_getElem h, Option.getD_some]
theorem runs_ok {es : List Int} (h : es.length ≤ 60) {r1 r2 r3 x5 : Option U} {s : Sst} : eLc [6] (iRng pRng1 (aCons (e2 pDiv (eN pLen (aCons (eV 4) aNil)) (eC (.int 2))) aNil)) (gN 6) tY (eN pTup (aCons (e2 pIdx (eV 4) (e2 pMul (eC (.int 2)) (eV 6))) (aCons (e2 pIdx (eV 4) (e2 pAdd (e2 pMul (eC (.int 2)) (eV 6)) (eC (.int 1)))) aNil))) [none, r1, r2, r3, some (.lst (es.map U.int)), x5, none] s = .ok (.lst ((prs es).map pcU)) s := by
  have pd : pDiv (.int (es.length : Int)) (.int 2) = some (.int ((es.length / 2 : Nat) : Int)) := by
    rw [Int.natCast_ediv]
    rfl
  rw [prs_eq, List.map_map]
  refine ev_lcM (fun k : Nat => U.int (k : Int)) (fun k => pcU (es.getD (2 * k) 0, es.getD (2 * k + 1) 0)) (rng1_ok (by simp! [List.length_map, pd]) (by omega)) (fun k hk => ⟨_, rfl, ?_⟩) (by omega)
  have i0 := getD_ix (es := es) (k := 2 * k) (by omega)
  have i1 := getD_ix (es := es) (k := 2 * k + 1) (by omega)
  have pm : pMul (.int 2) (.int (k : Int)) = some (.int ((2 * k : Nat) : Int)) := by
    rw [pMul_int (by decide +kernel) (sm_bn (k := 30) (Bn.of (by omega) (by omega)) (by decide))]
    push_cast
    rfl
  have pa : ((2 * k : Nat) : Int) + 1 = ((2 * k + 1 : Nat) : Int) := by push_cast; rfl
  simp! [wipeR, pm, i0, pa, i1]
  rfl
theorem edges_ok {p t : Int} {s : Sst} (h : Wf t s) (p0 : 1 ≤ p) (ht : t < 1152921504606830000) {r1 r3 x4 x5 : Option U} : ∃ (es : List Int) (s' : Sst), My.e1 (fun x => pSetSort [x]) (eLc [6] (iRng pRng1 (aCons (e2 pMul (eC (.int 2)) (eCallS 1 F__law_draw (aCons (eC (.int 4)) aNil))) aNil)) (gN 6) tY (eCallS 1 F__law_great (aCons (e2 pAdd (eV 2) (eC (.int 1))) aNil))) [none, r1, some (.int p), r3, x4, x5, none] s = .ok (.lst (es.map U.int)) s' ∧ es.length ≤ 6 ∧ es.Pairwise (· < ·) ∧ (∀ e ∈ es, -1 < e ∧ e ≤ p) ∧ Wf (t + 60) s' := by
  obtain ⟨d, s1, e1, d0, d1, w1⟩ := draw_ok (n := 4) h (by decide) (Bn.of (by decide) (by decide)) (by omega)
  obtain ⟨d, rfl⟩ := Int.eq_ofNat_of_zero_le d0
  have pm : pMul (.int 2) (.int (d : Int)) = some (.int ((2 * d : Nat) : Int)) := by
    rw [pMul_int (by decide +kernel) (sm_bn (k := 30) (Bn.of (by omega) (by omega)) (by decide))]
    push_cast
    rfl
  obtain ⟨ys, s2, e2', yl, yq, w2⟩ := ev_lcS (vs := [6]) (i := iRng pRng1 (aCons (e2 pMul (eC (.int 2)) (eCallS 1 F__law_draw (aCons (eC (.int 4)) aNil))) aNil)) (g := gN 6) (a := eCallS 1 F__law_great (aCons (e2 pAdd (eV 2) (eC (.int 1))) aNil)) (ρ := [none, r1, some (.int p), r3, x4, x5, none]) (s := s) (s1 := s1) (us := (List.range (2 * d)).map fun k : Nat => U.int (k : Int)) (fun y => ∃ g, y = .int g ∧ (0 ≤ g ∧ g ≤ p)) (fun i s => Wf (t + 1 + 7 * i) s) (rng1_ok (n := 2 * d) (by simp! [e1, pm]) (by omega)) (fun i u s hu hi => by
      obtain ⟨hi', rfl⟩ := rng_get hu
      obtain ⟨r, s', e, r0, r1, w⟩ := great_ok (n := p + 1) hi (by omega) (by omega)
      refine ⟨_, .int r, s', rfl, ?_, ⟨r, rfl, r0, by omega⟩, w.mono (by push_cast; omega)⟩
      simp! [wipeR, e]) (by rw [List.length_map, List.length_range]; omega) (w1.mono (by push_cast; omega))
  obtain ⟨gs, rfl, hg⟩ := ints_of ys yq
  have gl : gs.length = 2 * d := by
    rw [List.length_map, List.length_map, List.length_range] at yl
    exact yl
  have sl := setI_len gs
  refine ⟨setI gs, s2, ?_, by omega, setI_srt gs, fun e m => by
    have := hg e ((setI_mem e gs).mp m)
    omega, w2.mono (by rw [List.length_map, List.length_range]; push_cast; omega)⟩
  rw [z_1, e2', z_bind, setsort6 (by omega), z_opt]
def joints : List U := [.int 1, .int 2, .int 6, .int 12, .int 360, .int 1099511627776, .int 1000000007, .int 1000000000000000, .int 3486784401]
theorem joint_of {u : U} (h : u ∈ joints) : ∃ j : Int, u = .int j ∧ 1 ≤ j ∧ j ≤ 1000000000000000 := by
  simp only [joints, List.mem_cons, List.not_mem_nil, or_false] at h
  rcases h with rfl | rfl | rfl | rfl | rfl | rfl | rfl | rfl | rfl <;> exact ⟨_, rfl, by decide, by decide⟩
abbrev perA : SF := (sSeq (sAsg (gN 3) (eCallS 1 F__law_pick (aCons (eN pLst (aCons (eC (.int 1)) (aCons (eC (.int 2)) (aCons (eC (.int 6)) (aCons (eC (.int 12)) (aCons (eC (.int 360)) (aCons (e2 pPow (eC (.int 2)) (eC (.int 40))) (aCons (e2 pAdd (e2 pPow (eC (.int 10)) (eC (.int 9))) (eC (.int 7))) (aCons (e2 pPow (eC (.int 10)) (eC (.int 15))) (aCons (e2 pPow (eC (.int 3)) (eC (.int 20))) aNil)))))))))) aNil))) (sAsg (gN 2) (e2 pMul (eV 3) (e2 pAdd (eC (.int 1)) (eCallS 1 F__law_great (aCons (eN pMin2 (aCons (e2 pDiv (eV 1) (eV 3)) (aCons (eCall 1 F__law_ten (aCons (e2 pAdd (eC (.int 1)) (eCallS 1 F__law_draw (aCons (eC (.int 60)) aNil))) aNil)) aNil))) aNil))))))
theorem min2f' (i j : Int) : pMin2 [.int i, .int j] = some (.int (min i j)) := min2f i j
theorem period_ok {most t : Int} {s : Sst} (h : Wf t s) (hm : most = 20 ∨ most = T60) (ht : t < 1152921504606830000) {x3 x4 x5 x6 : Option U} : ∃ (p : Int) (y3 : Option U) (s' : Sst), sSeq (sAsg (gN 2) (e2 pAdd (eC (.int 1)) (eCallS 1 F__law_draw (aCons (eV 1) aNil)))) (sIf (tV (e2 pGt (eV 1) (eC (.int 1000)))) perA sNil) [none, some (.int most), none, x3, x4, x5, x6] s = .nx [none, some (.int most), some (.int p), y3, x4, x5, x6] s' ∧ 1 ≤ p ∧ p ≤ most ∧ Wf (t + 10) s' := by
  have bm : 1 ≤ most ∧ Bn 200 most := by
    rcases hm with rfl | rfl
    · exact ⟨by decide, Bn.of (by decide) (by decide)⟩
    · exact ⟨by decide, bn60 (by decide) (Int.le_refl _)⟩
  obtain ⟨d, s1, e1, d0, d1, w1⟩ := draw_ok (n := most) h (by omega) (bm.2.mono (by decide)) (by omega)
  rcases hm with rfl | rfl
  · have c : ¬ (20 : Int) > 1000 := by decide
    refine ⟨1 + d, x3, s1, ?_, by omega, by omega, w1.mono (by omega)⟩
    simp! [e1, c]
  · have c : T60 > 1000 := by decide
    obtain ⟨u, hu, s2, e2', w2⟩ := pick_ok (us := joints) (n := 9) w1 rfl (by decide) (by decide) (by omega)
    obtain ⟨j, rfl, j0, j1⟩ := joint_of hu
    obtain ⟨k, s3, e3, k0, k1, w3⟩ := draw_ok (n := 60) w2 (by decide) (Bn.of (by decide) (by decide)) (by omega)
    obtain ⟨k, rfl⟩ := Int.eq_ofNat_of_zero_le k0
    have t1 := ten_ok (k := 1 + k) (by omega)
    have ek : (1 : Int) + ((k : Nat) : Int) = ((1 + k : Nat) : Int) := by push_cast; rfl
    have bj : Bn 60 j := Bn.of (by omega) (by have : (2 : Int) ^ 60 = 1152921504606846976 := by decide
                                              omega)
    have pd : pDiv (.int T60) (.int j) = some (.int (T60 / j)) := by
      show (if (decide (0 < j) && bdB j) = true then some (U.int (T60 / j)) else none) = _
      rw [if_pos (by rw [decide_eq_true (show 0 < j by omega), bd_bn bj (by decide)]; rfl)]
    have td : 1 ≤ T60 / j := (Int.le_ediv_iff_mul_le (by omega)).mpr (by
      have : (1000000000000000 : Int) ≤ T60 := by decide
      omega)
    have tp : (1 : Int) ≤ ((10 ^ (1 + k) : Nat) : Int) := by
      have : 0 < 10 ^ (1 + k) := Nat.pow_pos (by decide)
      omega
    obtain ⟨g, s4, e4, g0, g1, w4⟩ := great_ok (n := min (T60 / j) ((10 ^ (1 + k) : Nat) : Int)) w3 (by omega) (by omega)
    have lt : 1 + g ≤ T60 / j := by omega
    have pj : j * (1 + g) ≤ T60 := by
      have := (Int.le_ediv_iff_mul_le (show 0 < j by omega)).mp lt
      rw [Int.mul_comm]
      exact this
    have p1 : 1 ≤ j * (1 + g) := by
      have := Int.mul_le_mul j0 (show (1 : Int) ≤ 1 + g by omega) (by decide) (by omega)
      omega
    have bg : Bn 200 (1 + g) := bn60 (by omega) (by
      have : T60 / j ≤ T60 := Int.ediv_le_self _ (by decide)
      omega)
    have pm : pMul (.int j) (.int (1 + g)) = some (.int (j * (1 + g))) := pMul_int (sm_bn bj (by decide)) (sm_bn bg (by decide))
    refine ⟨j * (1 + g), some (.int j), s4, ?_, p1, pj, w4.mono (by omega)⟩
    have pl : pLst [.int 1, .int 2, .int 6, .int 12, .int 360, .int 1099511627776, .int 1000000007, .int 1000000000000000, .int 3486784401] = some (.lst joints) := rfl
    have q1 : pPow (.int 2) (.int 40) = some (.int 1099511627776) := rfl
    have q2 : pPow (.int 10) (.int 9) = some (.int 1000000000) := rfl
    have q3 : pPow (.int 10) (.int 15) = some (.int 1000000000000000) := rfl
    have q4 : pPow (.int 3) (.int 20) = some (.int 3486784401) := rfl
    have q5 : (1000000000 : Int) + 7 = 1000000007 := rfl
    simp! [e1, c, perA, q1, q2, q3, q4, q5, pl, e2', pd, e3, ek, t1, min2f, e4, pm]
theorem sv_seq12 {A B C : SF} {ρ ρ1 : Rho} {s s1 : Sst} {r : RS} (h : sSeq A B ρ s = .nx ρ1 s1) (e : C ρ1 s1 = r) : sSeq A (sSeq B C) ρ s = r := by
  unfold sSeq at h ⊢
  cases hA : A ρ s <;> rw [hA] at h <;> first | cases h | (simp only at h ⊢; rw [h]; exact e)
theorem fam_draw {most t : Int} {s : Sst} (h : Wf t s) (hm : most = 20 ∨ most = T60) (ht : t < 1152921504606820000) : ∃ (f : Fm) (s' : Sst), F__law_family s [.int most] = .ok (fmU f) s' ∧ GF f ∧ f.2.length ≤ 3 ∧ Wf (t + 70) s' := by
  obtain ⟨p, y3, s1, e1, p0, p1, w1⟩ := period_ok h hm (by omega) (x3 := none) (x4 := none) (x5 := none) (x6 := none)
  obtain ⟨es, s2, e2', el, ea, eb, w2⟩ := edges_ok w1 p0 (by omega) (r1 := some (.int most)) (r3 := y3) (x4 := none) (x5 := none)
  have rn := runs_ok (es := es) (by omega) (r1 := some (.int most)) (r2 := some (.int p)) (r3 := y3) (x5 := none) (s := s2)
  obtain ⟨ch, la⟩ := prs_chain (m := p) es (-1) ea eb (by omega)
  have pl := prs_len es
  have pT : p ≤ T60 := by
    rcases hm with rfl | rfl
    · exact Int.le_trans p1 (by decide)
    · exact p1
  refine ⟨(p, prs es), s2, ?_, ⟨p0, pT, by show (prs es).length ≤ 64; omega, ch, la⟩, by show (prs es).length ≤ 3; omega, w2.mono (by omega)⟩
  have run : f__law_family [none, some (.int most), none, none, none, none, none] s = .rt (fmU (p, prs es)) s2 := sv_seq12 e1 (sv_seq (ρ1 := [none, some (.int most), some (.int p), y3, some (.lst (es.map U.int)), none, none]) (s1 := s2) (sv_set e2') (by
    simp! [rn]
    rfl))
  exact fS_ret rfl run
end My

set_option linter.all false
set_option autoImplicit false
set_option maxRecDepth 100000
set_option maxHeartbeats 4000000
namespace My
open PySem PySem.Spec PyProof.Rows L2
local macro_rules | `(tactic| walk_at "bn") => `(tactic| repeat (first | (with_reducible assumption) | (with_reducible apply Bn.mul) | (with_reducible apply Bn.add) | (with_reducible apply Bn.sub) | (with_reducible apply Bn.div) | (with_reducible apply Bn.mod) | (with_reducible apply bn2) | (with_reducible apply bn1) | (with_reducible apply bn3) | (with_reducible apply bn0) | (with_reducible apply bn10) | exact Bn.lit rfl))
local macro_rules | `(tactic| walk_at "sm") => `(tactic| first | (with_reducible assumption) | ((with_reducible apply sm_bn); (focus walk_at "bn"); decide) | ((with_reducible apply bd_bn); (focus walk_at "bn"); decide) | omega)
local macro_rules | `(tactic| walk_at "pp") => `(tactic| first | (with_reducible apply pAdd_int) | (with_reducible apply pSub_int) | (with_reducible apply pLt_int) | (with_reducible apply pLe_int) | (with_reducible apply pGt_int) | (with_reducible apply pGe_int) | (with_reducible apply pNeg_int) | (with_reducible apply pAdd'_int) | (with_reducible apply pEq_int) | (with_reducible apply pNe_int) | ((with_reducible apply pMul_int) <;> walk_at "sm") | ((with_reducible apply pDiv_int) <;> walk_at "sm") | ((with_reducible apply pMod_int) <;> walk_at "sm") | exact rfl)
local macro_rules | `(tactic| walk_at "ev") => `(tactic| first | (with_reducible apply ev_c) | ((with_reducible apply ev_v); exact rfl) | (with_reducible apply av_nil) | (with_reducible apply tv_y) | ((with_reducible apply ev_2); (focus walk_at "ev"); (focus walk_at "ev"); (focus walk_at "pp")) | ((with_reducible apply ev_n); (focus walk_at "ev"); (focus walk_at "pp")) | ((with_reducible apply av_cons); (focus walk_at "ev"); (focus walk_at "ev")) | ((with_reducible apply ev_1); (focus walk_at "ev"); (focus walk_at "pp")) | ((with_reducible apply tv_v); (focus walk_at "ev")) | ((with_reducible apply ev_not); (focus walk_at "ev")) | ((with_reducible apply tv_n); (focus walk_at "ev")) | ((with_reducible apply iv_seq); (focus walk_at "ev"); exact rfl) | ((with_reducible apply iv_rng); (focus walk_at "ev"); exact rfl) | ((with_reducible apply iv_rev); (focus walk_at "ev")))
local macro_rules | `(tactic| walk_at "sv") => `(tactic| first | ((with_reducible apply sv_set); (focus walk_at "ev")) | ((with_reducible apply sv_asg); (focus walk_at "ev"); exact rfl) | ((with_reducible apply sv_par2); (focus walk_at "ev")) | ((with_reducible apply sv_par3); (focus walk_at "ev")) | ((with_reducible apply sv_ret); (focus walk_at "ev")) | ((with_reducible apply sv_drop); (focus walk_at "ev")) | (with_reducible apply sv_nil))
local macro_rules | `(tactic| walk_at "ls") => `(tactic| try simp only [startR, List.map_cons, List.map_nil, List.replicate, List.cons_append, List.nil_append, List.set_cons_zero, List.set_cons_succ])
local macro_rules | `(tactic| walk_at "go") => `(tactic| repeat ((with_reducible apply sv_seq); (focus walk_at "sv"); walk_at "ls"))
local macro_rules | `(tactic| simp! [$ts,*]) => `(tactic| simp only [z_callSV, z_callV, z_asv1, z_asv2, z_asv3, z_av1, z_av2, z_av3, z_noL, z_noLE, z_noL0, z_noL0E, z_idx1, z_idxK, z_while, z_try, z_tryN, z_tryR, z_apK, z_apK1, z_putK, z_putK1, z_putL, z_cnt1, z_cntK, List.getElem?_cons_zero, List.getElem?_cons_succ, z_iAnd, z_iOr, z_iAndB, z_iOrB, z_seqF, z_sqFN, z_sqFE, z_bind, z_bindE, z_opt, z_lift, z_liftE, z_c, z_v0, z_vS, z_1, z_2, z_n, z_nil, z_cons, z_call, z_callS, z_ap0, z_ap1, z_ap2, z_ap3, z_ap4, z_ap5, z_ap6, z_as0, z_as1, z_as2, z_as3, z_as4, z_as5, z_not, z_and, z_or, z_ife, z_chain, z_toB, z_tV, z_tT, z_tN, z_tA, z_tO, z_tY, z_trB, z_trI, z_trN, z_trL, z_trT, z_sl, z_oNo, z_oSo, z_toI, z_slL, z_slT, z_stm, z_stmE, z_skip, z_seq, z_sqN, z_sqR, z_sqE, z_sqB, z_sqC, z_gN, z_gT, z_gL, z_gsC, z_gsN, z_asg, z_asgS, z_par2, z_par3, z_drop, z_ret, z_retN, z_brk, z_cnt, z_if, z_raise, z_for, z_lp0, z_lpN, z_lpC, z_lpB, z_lpR, z_lpE, z_iseq, z_sqL, z_sqT, z_rng, z_finN, z_finR, z_finE, z_finSN, z_finSR, z_finSE, z_lenL, z_lenT, z_t0, z_l0, z_t1, z_l1, z_t2, z_l2, z_ln1, z_tup0, z_tup1, z_tup2, z_tup3, z_tup4, z_lst0, z_lst1, z_lst2, z_lst3, z_lst4, z_tupleL, z_tupleT, z_listL, z_listT, z_isN, z_nisN, z_nonI, z_nonN, z_nonT, z_nonL, z_nonE, z_nonS, z_nonB, z_start1, z_start0, z_start2, z_start3, z_start4, z_start5, z_start6, z_int, z_intB, pAdd_int, pAdd'_int, pSub_int, pLt_int, pLe_int, pGt_int, pGe_int, pEq_int, pNe_int, pNeg_int, List.set_cons_zero, List.set_cons_succ, List.replicate_succ, List.replicate_zero, Option.bind_some, Option.map_some, decide_eq_true_eq, Bool.not_eq_true', decide_eq_false_iff_not, if_true, if_false, ite_true, ite_false, Bool.false_eq_true, reduceIte, Bool.not_true, Bool.not_false, Bool.and_eq_true, Bool.or_eq_true, Bool.decide_eq_true, Bool.decide_and, Bool.decide_or, not_false_eq_true, decide_true, decide_false, Bool.and_true, Bool.and_false, Bool.true_and, Bool.false_and, Bool.or_true, Bool.or_false, Bool.true_or, Bool.false_or, List.length_cons, List.length_nil, Nat.reduceAdd, Nat.reduceLT, not_true_eq_false, true_and, and_true, false_and, and_false, or_true, true_or, or_false, false_or, and_self, or_self, $ts,*])
/-! ### a bent list of families -/
theorem plVs_app {a b : List U} (ha : plVs a = true) (hb : plVs b = true) : plVs (a ++ b) = true := plVs_of fun u hu => by
  rcases List.mem_append.mp hu with hu | hu
  · exact plVs_mem ha u hu
  · exact plVs_mem hb u hu
theorem plVs_cut {us : List U} (h : plVs us = true) (l r : Option Int) : plVs (cutU us l r) = true := plVs_of fun u hu => plVs_mem h u (List.mem_of_mem_drop (List.mem_of_mem_take hu))
theorem cut_len (us : List U) (l r : Option Int) : (cutU us l r).length ≤ us.length := by
  unfold cutU
  rw [List.length_take, List.length_drop]
  omega
theorem plV_pcs (ps : List (Int × Int)) : plVs (ps.map pcU) = true := plVs_of fun u hu => by
  obtain ⟨p, _, rfl⟩ := List.mem_map.mp hu
  rfl
theorem plV_fm (f : Fm) : plV (fmU f) = true := plVs_mem (fams_plV [f]) _ (by simp)
theorem addT {a b : List U} (h : a.length + b.length ≤ 1000) : pAdd (.tup a) (.tup b) = some (.tup (a ++ b)) := by
  show (if lineB (a.length + b.length) = true then some (U.tup (a ++ b)) else none) = _
  rw [if_pos (show lineB (a.length + b.length) = true from decide_eq_true (by omega))]
theorem addL {a b : List U} (h : a.length + b.length ≤ 1000) : pAdd (.lst a) (.lst b) = some (.lst (a ++ b)) := z_addL (by omega)
theorem catL {a b : List U} (h : a.length + b.length ≤ 1000) : pCat (.lst a) (.lst b) = some (.lst (a ++ b)) := by
  show (if lineB (a.length + b.length) = true then some (U.lst (a ++ b)) else none) = _
  rw [if_pos (show lineB (a.length + b.length) = true from decide_eq_true (by omega))]
theorem pNe_pcsE (ps : List (Int × Int)) : pNe (.tup (ps.map pcU)) (.tup []) = some (.bl (!decide (ps = []))) := by
  have d : deepB (.tup (ps.map pcU)) (.tup []) = true := by
    unfold deepB
    rw [show U.flat 40 (.tup []) = true from rfl, Bool.and_true]
    show U.flatAll 39 (ps.map pcU) = true
    exact flat_pcs 37 ps
  show (if deepB (.tup (ps.map pcU)) (.tup []) = true then some (U.bl (!(ueq (.tup (ps.map pcU)) (.tup [])))) else none) = _
  rw [if_pos d]
  cases ps <;> simp [ueq, ueqAll]
abbrev odd14 (p : Int) : List U := [.non, .bl true, .str (PySem.Str.ofString "1"), .int (-1), .int 0, .int p, .int (p + 1), .int T60, .int (T60 + 1), .lst [], .tup [], .dct [], .tup [.int 0, .int 1], .tup [.tup [.int 0, .int 1]]]
theorem odd_plV (p : Int) : plVs (odd14 p) = true := rfl
abbrev some11 (p : Int) (rs : List U) (o : U) : List U := [o, .lst [.int p, .tup rs], .tup [.int p], .tup [.int p, .tup rs, .int 0], .tup [o, .tup rs], .tup [.int p, o], .tup [.int p, .lst rs], .tup [.int p, .tup (rs ++ [.tup [.int p, .int (p + 1)]])], .tup [.int p, .tup (rs ++ rs)], .tup [.int p, .tup [.tup [.int 0, .int p]]], .tup [.int p, .tup [.tup [.int 0, .int p], .tup [.int p, .int p]]]]
theorem some_plV {p : Int} {rs : List U} {o : U} (ho : plV o = true) (hr : plVs rs = true) : plVs (some11 p rs o) = true := by
  have h2 := plVs_app hr hr
  have h3 := plVs_app (b := [.tup [.int p, .int (p + 1)]]) hr rfl
  simp [plVs, plV, ho, hr, h2, h3]
theorem pick_plV {t : Int} {s : Sst} {us : List U} (h : Wf t s) (hp : plVs us = true) (h0 : 0 < us.length) (h1 : us.length ≤ 1000) (ht : t < 1152921504606840000) : ∃ (u : U) (s' : Sst), F__law_pick s [.lst us] = .ok u s' ∧ plV u = true ∧ u ∈ us ∧ Wf (t + 1) s' := by
  obtain ⟨u, hu, s', e, w⟩ := pick_ok (n := us.length) h rfl h0 h1 ht
  exact ⟨u, s', e, plVs_mem hp u hu, hu, w⟩
abbrev bentL : SF := (sSeq (sAsg (gT (gsCons (gN 7) (gsCons (gN 8) gsNil))) (e2 pIdx (eV 4) (My.e1 pNeg (eC (.int 1))))) (sSeq (sFor (iSeq (eN pLst (aCons (eV 5) (aCons (eN pTup (aCons (eV 5) (aCons (eV 8) aNil))) (aCons (eN pTup (aCons (eV 7) (aCons (eV 5) aNil))) (aCons (eN pLst (aCons (eV 7) (aCons (eV 8) aNil))) (aCons (eN pTup (aCons (eV 7) aNil)) (aCons (eN pTup (aCons (eV 7) (aCons (eV 8) (aCons (eC (.int 0)) aNil)))) (aCons (eN pTup (aCons (eV 8) (aCons (eV 7) aNil))) aNil))))))))) (gN 9) (sApp 6 (eN pTup (aCons (eV 3) (aCons (e2 pAdd (eSl (eV 4) oNo (oSo (My.e1 pNeg (eC (.int 1))))) (eN pTup (aCons (eV 9) aNil))) aNil))))) (sSeq (sAsg (gN 6) (e2 pCat (eV 6) (eN pLst (aCons (eN pTup (aCons (eV 3) (aCons (e2 pAdd (eV 4) (eN pTup (aCons (eN pTup (aCons (eV 8) (aCons (e2 pAdd (eV 8) (eC (.int 1))) aNil))) aNil))) aNil))) (aCons (eN pTup (aCons (eV 3) (aCons (e2 pAdd (eV 4) (eN pTup (aCons (eN pTup (aCons (e2 pAdd (eV 8) (eC (.int 1))) (aCons (e2 pAdd (eV 8) (eC (.int 2))) aNil))) aNil))) aNil))) (aCons (eN pTup (aCons (e2 pSub (eV 8) (eC (.int 1))) (aCons (eV 4) aNil))) aNil)))))) (sAsg (gN 6) (e2 pCat (eV 6) (eN pLst (aCons (eN pTup (aCons (eV 3) (aCons (e2 pAdd (eN pTup (aCons (eN pTup (aCons (e2 pSub (eV 8) (eC (.int 1))) (aCons (eV 8) aNil))) aNil)) (eV 4)) aNil))) (aCons (eN pTup (aCons (eV 8) (aCons (eV 4) aNil))) (aCons (eN pTup (aCons (eV 3) (aCons (My.e1 pBack (eV 4)) aNil))) aNil)))))))))
abbrev bentA : SF := (sApp 6 (eN pTup (aCons (eV 3) (aCons (e2 pAdd (eSl (eV 4) oNo (oSo (My.e1 pNeg (eC (.int 1))))) (eN pTup (aCons (eV 9) aNil))) aNil))))
theorem stretch_go {w0 w1 w2 w5 w7 w8 : Option U} {p : Int} {rs : List U} (hr : plVs rs = true) (hl : rs.length ≤ 64) {s : Sst} : ∀ (us : List U) (zs : List U) (x9 : Option U), plVs us = true → plVs zs = true → zs.length + us.length ≤ 500 → ∃ zs' y9, loopF (gN 9) bentA us [w0, w1, w2, some (.int p), some (.tup rs), w5, some (.lst zs), w7, w8, x9] s = .nx [w0, w1, w2, some (.int p), some (.tup rs), w5, some (.lst zs'), w7, w8, y9] s ∧ plVs zs' = true ∧ zs'.length = zs.length + us.length
  | [], zs, x9, _, hz, _ => ⟨zs, x9, rfl, hz, rfl⟩
  | u :: us, zs, x9, hu, hz, hn => by
    rw [List.length_cons] at hn
    simp only [plVs, Bool.and_eq_true] at hu
    have cl := cut_len rs none (some (-1))
    have cp := plVs_cut hr none (some (-1))
    have ad := addT (a := cutU rs none (some (-1))) (b := [u]) (by rw [List.length_singleton]; omega)
    have hn' : ¬ False := id
    obtain ⟨zs', y9, e, h1, h2⟩ := stretch_go (w0 := w0) (w1 := w1) (w2 := w2) (w5 := w5) (w7 := w7) (w8 := w8) (p := p) hr hl (s := s) us (zs ++ [.tup [.int p, .tup (cutU rs none (some (-1)) ++ [u])]]) (some u) hu.2 (plVs_app hz (by simp [plVs, plV, plVs_app cp (show plVs [u] = true by simp [plVs, hu.1])])) (by rw [List.length_append, List.length_singleton]; omega)
    refine ⟨zs', y9, ?_, h1, by rw [h2, List.length_append]; simp only [List.length_cons, List.length_nil]; omega⟩
    have lb : lineB (zs.length + 1) = true := decide_eq_true (by omega)
    rw [z_lp, ← e]
    simp! [z_gN, bentA, ad, lb]
theorem plVs3 {a b c : U} (ha : plV a = true) (hb : plV b = true) (hc : plV c = true) : plVs [a, b, c] = true := by simp [plVs, ha, hb, hc]
theorem plV_pr {p : Int} {us : List U} (h : plVs us = true) : plV (.tup [.int p, .tup us]) = true := by simp [plV, plVs, h]
theorem plVs_rev {us : List U} (h : plVs us = true) : plVs us.reverse = true := plVs_of fun u hu => plVs_mem h u (List.mem_reverse.mp hu)
theorem bent_more {w0 w1 w2 : Option U} {p : Int} {ps : List (Int × Int)} {o : U} (ho : plV o = true) (hl : ps.length ≤ 3) (hne : ps ≠ []) {s : Sst} {zs : List U} (hz : plVs zs = true) (hn : zs.length ≤ 20) {x7 x8 x9 : Option U} : ∃ zs' y7 y8 y9, bentL [w0, w1, w2, some (.int p), some (.tup (ps.map pcU)), some o, some (.lst zs), x7, x8, x9] s = .nx [w0, w1, w2, some (.int p), some (.tup (ps.map pcU)), some o, some (.lst zs'), y7, y8, y9] s ∧ plVs zs' = true ∧ zs'.length = zs.length + 13 := by
  obtain ⟨qs, q, rfl⟩ : ∃ qs q, ps = qs ++ [q] := ⟨ps.dropLast, ps.getLast hne, (List.dropLast_concat_getLast hne).symm⟩
  have ix : pIdx (.tup ((qs ++ [q]).map pcU)) (.int (-1)) = some (pcU q) := by
    have := z_ln1 (us := qs.map pcU) (u := pcU q)
    rw [List.map_append]
    exact this
  have hr := plV_pcs (qs ++ [q])
  have ll : ((qs ++ [q]).map pcU).length ≤ 3 := by rw [List.length_map]; exact hl
  generalize (qs ++ [q]).map pcU = rs at ix hr ll ⊢
  have p7 : ∀ a b c d e f g : U, pLst [a, b, c, d, e, f, g] = some (.lst [a, b, c, d, e, f, g]) := fun _ _ _ _ _ _ _ => rfl
  have sev : plVs [o, .tup [o, .int q.2], .tup [.int q.1, o], .lst [.int q.1, .int q.2], .tup [.int q.1], .tup [.int q.1, .int q.2, .int 0], .tup [.int q.2, .int q.1]] = true := by simp [plVs, plV, ho]
  obtain ⟨zs', y9, e, h1, h2⟩ := stretch_go (w0 := w0) (w1 := w1) (w2 := w2) (w5 := some o) (w7 := some (.int q.1)) (w8 := some (.int q.2)) (p := p) hr (by omega) (s := s) _ zs x9 sev hz (by simp only [List.length_cons, List.length_nil]; omega)
  simp only [List.length_cons, List.length_nil] at h2
  have a1 : ∀ u : U, pAdd (.tup rs) (.tup [u]) = some (.tup (rs ++ [u])) := fun u => addT (by rw [List.length_singleton]; omega)
  have a2 : ∀ u : U, pAdd (.tup [u]) (.tup rs) = some (.tup ([u] ++ rs)) := fun u => addT (by rw [List.length_singleton]; omega)
  have c1 : ∀ a b c : U, pCat (.lst zs') (.lst [a, b, c]) = some (.lst (zs' ++ [a, b, c])) := fun a b c => catL (by simp only [List.length_cons, List.length_nil]; omega)
  have c2 : ∀ a b c d e f : U, pCat (.lst (zs' ++ [a, b, c])) (.lst [d, e, f]) = some (.lst (zs' ++ [a, b, c] ++ [d, e, f])) := fun a b c d e f => catL (by simp only [List.length_append, List.length_cons, List.length_nil]; omega)
  have bk : pBack (.tup rs) = some (.tup rs.reverse) := rfl
  refine ⟨zs' ++ [.tup [.int p, .tup (rs ++ [.tup [.int q.2, .int (q.2 + 1)]])], .tup [.int p, .tup (rs ++ [.tup [.int (q.2 + 1), .int (q.2 + 2)]])], .tup [.int (q.2 - 1), .tup rs]] ++ [.tup [.int p, .tup ([.tup [.int (q.2 - 1), .int q.2]] ++ rs)], .tup [.int q.2, .tup rs], .tup [.int p, .tup rs.reverse]], some (.int q.1), some (.int q.2), y9, ?_, ?_, ?_⟩
  · simp! [bentL, ix, pcU, p7, e, a1, a2, c1, c2, bk]
  · exact plVs_app (plVs_app h1 (plVs3 (plV_pr (plVs_app hr rfl)) (plV_pr (plVs_app hr rfl)) (plV_pr hr))) (plVs3 (plV_pr (plVs_app rfl hr)) (plV_pr hr) (plV_pr (plVs_rev hr)))
  · simp only [List.length_append, List.length_cons, List.length_nil]
    omega
theorem bent_if {w0 w1 w2 : Option U} {p : Int} {ps : List (Int × Int)} {o : U} (ho : plV o = true) (hl : ps.length ≤ 3) {s : Sst} {zs : List U} (hz : plVs zs = true) (h0 : 0 < zs.length) (hn : zs.length ≤ 20) {x7 x8 x9 : Option U} : ∃ zs' y7 y8 y9, sIf (tV (e2 pNe (eV 4) (eN pTup aNil))) bentL sNil [w0, w1, w2, some (.int p), some (.tup (ps.map pcU)), some o, some (.lst zs), x7, x8, x9] s = .nx [w0, w1, w2, some (.int p), some (.tup (ps.map pcU)), some o, some (.lst zs'), y7, y8, y9] s ∧ plVs zs' = true ∧ 0 < zs'.length ∧ zs'.length ≤ 40 := by
  have ne := pNe_pcsE ps
  by_cases c : ps = []
  · rw [decide_eq_true c] at ne
    refine ⟨zs, x7, x8, x9, ?_, hz, h0, by omega⟩
    generalize bentL = Z
    simp! [ne]
  · rw [decide_eq_false c] at ne
    obtain ⟨zs', y7, y8, y9, e, h1, h2⟩ := bent_more (w0 := w0) (w1 := w1) (w2 := w2) (p := p) ho hl c (s := s) hz hn (x7 := x7) (x8 := x8) (x9 := x9)
    refine ⟨zs', y7, y8, y9, ?_, h1, by omega, by omega⟩
    generalize bentL = Z at e ⊢
    simp! [ne, e]
theorem bent_ok {fs : List Fm} (l12 : fs.length = 1 ∨ fs.length = 2) (few : ∀ f ∈ fs, f.2.length ≤ 3) {t : Int} {s : Sst} (h : Wf t s) (ht : t < 1152921504606830000) : ∃ (v : U) (s' : Sst), F__law_bent s [.lst (fs.map fmU)] = .ok v s' ∧ plV v = true ∧ (∀ us, v = .lst us → us.length ≤ 1000) ∧ Wf (t + 5) s' := by
  obtain ⟨d, s1, e1, d0, d1, w1⟩ := draw_ok (n := (fs.length : Int)) h (by omega) (Bn.of (by omega) (by omega)) (by omega)
  obtain ⟨d, rfl⟩ := Int.eq_ofNat_of_zero_le d0
  obtain ⟨f, hf, ix⟩ : ∃ f ∈ fs, pIdx (.lst (fs.map fmU)) (.int (d : Int)) = some (fmU f) := by
    have hd : d < fs.length := by omega
    exact ⟨fs[d], List.getElem_mem hd, z_ixL (by rw [List.getElem?_map, List.getElem?_eq_getElem hd]; rfl)⟩
  obtain ⟨o, s2, e2', ho, _, w2⟩ := pick_plV (us := odd14 f.1) w1 (odd_plV f.1) (show 0 < (14 : Nat) by decide) (by show (14 : Nat) ≤ 1000; decide) (by omega)
  have hr := plV_pcs f.2
  have fl := few f hf
  have sp := some_plV (p := f.1) ho hr
  obtain ⟨zs, y7, y8, y9, e3, h1, h2, h3⟩ := bent_if (w0 := none) (w1 := some (.lst (fs.map fmU))) (w2 := some (.int (d : Int))) (p := f.1) ho fl (s := s2) sp (by show 0 < (11 : Nat); decide) (by show (11 : Nat) ≤ 20; decide) (x7 := none) (x8 := none) (x9 := none)
  obtain ⟨g, s3, e4, g0, g1, w3⟩ := draw_ok (n := 6) w2 (by decide) (Bn.of (by decide) (by decide)) (by omega)
  have fp := fams_plV fs
  obtain ⟨k0, hk0, i0⟩ : ∃ k0 ∈ fs, pIdx (.lst (fs.map fmU)) (.int 0) = some (fmU k0) := by
    match fs, l12 with
    | a :: r, _ => exact ⟨a, by simp, z_l0⟩
    | [], l12 => simp at l12
  have m3 : pMul (.lst (fs.map fmU)) (.int 3) = some (.lst (List.replicate 3 (fs.map fmU)).flatten) := by
    show (if decide (0 ≤ (3 : Int) ∧ (3 : Int) ≤ 1000 ∧ (fs.map fmU).length ≤ 1000) = true then some (U.lst (List.replicate 3 (fs.map fmU)).flatten) else none) = _
    rw [if_pos (decide_eq_true ⟨by decide, by decide, by rw [List.length_map]; omega⟩)]
  have r3 : (List.replicate 3 (fs.map fmU)).flatten = fs.map fmU ++ (fs.map fmU ++ fs.map fmU) := by
    simp [List.replicate]
  rw [r3] at m3
  have q60 : pPow (.int 10) (.int 60) = some (.int T60) := rfl
  have p14 : pLst (odd14 f.1) = some (.lst (odd14 f.1)) := rfl
  have p7 : ∀ a b c d e f g : U, pLst [a, b, c, d, e, f, g] = some (.lst [a, b, c, d, e, f, g]) := fun _ _ _ _ _ _ _ => rfl
  have p9 : ∀ a b c d e f g h i : U, pLst [a, b, c, d, e, f, g, h, i] = some (.lst [a, b, c, d, e, f, g, h, i]) := fun _ _ _ _ _ _ _ _ _ => rfl
  have cat : ∀ a b c d e f g h i j : U, pCat (.lst [a, b, c, d, e, f, g]) (.lst [h, i, j]) = some (.lst [a, b, c, d, e, f, g, h, i, j]) := fun _ _ _ _ _ _ _ _ _ _ => rfl
  have lr : (f.2.map pcU).length ≤ 3 := by rw [List.length_map]; exact fl
  have a1 : ∀ u : U, pAdd (.tup (f.2.map pcU)) (.tup [u]) = some (.tup (f.2.map pcU ++ [u])) := fun u => addT (by rw [List.length_singleton]; omega)
  have a2 : pAdd (.tup (f.2.map pcU)) (.tup (f.2.map pcU)) = some (.tup (f.2.map pcU ++ f.2.map pcU)) := addT (by omega)
  have lb : lineB (([U.non, .non, .non, .non, .non, .non, .non, .non, .non, .non] : List U).length + 1) = true := by decide +kernel
  rw [List.length_cons, List.length_cons, List.length_cons, List.length_cons, List.length_cons, List.length_cons, List.length_cons, List.length_cons, List.length_cons, List.length_cons, List.length_nil] at lb
  have ev : fmU f = .tup [.int f.1, .tup (f.2.map pcU)] := rfl
  rw [ev] at ix
  by_cases c : g = 0
  · obtain ⟨v, s4, e5, hv, hm, w4⟩ := pick_plV (us := [.non, .tup [], .tup (fs.map fmU), .lst (fs.map fmU ++ (fs.map fmU ++ fs.map fmU)), .lst [], .dct [], fmU k0, .str (PySem.Str.ofString "families"), .int 0]) w3 (by
      have := plV_fm k0
      have := plVs_app fp (plVs_app fp fp)
      simp [plVs, plV, *]) (by simp) (by simp) (by omega)
    refine ⟨v, s4, ?_, hv, ?_, w4.mono (by omega)⟩
    · refine z_goS ?_ rfl
      unfold f__law_bent
      generalize (sIf (tV (e2 pNe (eV 4) (eN pTup aNil))) _ sNil) = Z at e3 ⊢
      have cg := pEq_t c
      simp! [e1, ix, q60, p14, e2', p7, cat, a1, a2, lb, List.cons_append, List.nil_append, e3, e4, cg, p9, m3, i0, e5, List.length_map]
    · intro us hus
      subst hus
      have l3 : (fs.map fmU).length ≤ 2 := by rw [List.length_map]; omega
      simp only [List.mem_cons, List.not_mem_nil, or_false, fmU, reduceCtorEq, false_or, U.lst.injEq] at hm
      rcases hm with rfl | rfl
      · rw [List.length_append, List.length_append]; omega
      · decide
  · obtain ⟨u, s4, e5, hu, _, w4⟩ := pick_plV (us := zs) w3 h1 h2 (by omega) (by omega)
    have cg := pEq_f c
    have l3 : (fs.map fmU).length ≤ 2 := by rw [List.length_map]; omega
    have k1 := cut_len (fs.map fmU) none (some (d : Int))
    have k2 := cut_len (fs.map fmU) (some ((d : Int) + 1)) none
    have b1 := addL (a := cutU (fs.map fmU) none (some (d : Int))) (b := [u]) (by rw [List.length_singleton]; omega)
    have b2 := addL (a := cutU (fs.map fmU) none (some (d : Int)) ++ [u]) (b := cutU (fs.map fmU) (some ((d : Int) + 1)) none) (by rw [List.length_append, List.length_singleton]; omega)
    refine ⟨.lst (cutU (fs.map fmU) none (some (d : Int)) ++ [u] ++ cutU (fs.map fmU) (some ((d : Int) + 1)) none), s4, ?_, ?_, ?_, w4.mono (by omega)⟩
    · refine z_goS ?_ rfl
      unfold f__law_bent
      generalize (sIf (tV (e2 pNe (eV 4) (eN pTup aNil))) _ sNil) = Z at e3 ⊢
      simp! [e1, ix, q60, p14, e2', p7, cat, a1, a2, lb, List.cons_append, List.nil_append, e3, e4, cg, e5, b1, b2, List.length_map]
    · exact plVs_app (plVs_app (plVs_cut fp _ _) (by simp [plVs, hu])) (plVs_cut fp _ _)
    · intro us hus
      cases hus
      rw [List.length_append, List.length_append, List.length_singleton]
      omega
end My

set_option linter.all false
set_option autoImplicit false
set_option maxRecDepth 100000
set_option maxHeartbeats 4000000
namespace My
open PySem PySem.Spec PyProof.Rows L2
local macro_rules | `(tactic| walk_at "bn") => `(tactic| repeat (first | (with_reducible assumption) | (with_reducible apply Bn.mul) | (with_reducible apply Bn.add) | (with_reducible apply Bn.sub) | (with_reducible apply Bn.div) | (with_reducible apply Bn.mod) | (with_reducible apply bn2) | (with_reducible apply bn1) | (with_reducible apply bn3) | (with_reducible apply bn0) | (with_reducible apply bn10) | exact Bn.lit rfl))
local macro_rules | `(tactic| walk_at "sm") => `(tactic| first | (with_reducible assumption) | ((with_reducible apply sm_bn); (focus walk_at "bn"); decide) | ((with_reducible apply bd_bn); (focus walk_at "bn"); decide) | omega)
local macro_rules | `(tactic| walk_at "pp") => `(tactic| first | (with_reducible apply pAdd_int) | (with_reducible apply pSub_int) | (with_reducible apply pLt_int) | (with_reducible apply pLe_int) | (with_reducible apply pGt_int) | (with_reducible apply pGe_int) | (with_reducible apply pNeg_int) | (with_reducible apply pAdd'_int) | (with_reducible apply pEq_int) | (with_reducible apply pNe_int) | ((with_reducible apply pMul_int) <;> walk_at "sm") | ((with_reducible apply pDiv_int) <;> walk_at "sm") | ((with_reducible apply pMod_int) <;> walk_at "sm") | exact rfl)
local macro_rules | `(tactic| walk_at "ev") => `(tactic| first | (with_reducible apply ev_c) | ((with_reducible apply ev_v); exact rfl) | (with_reducible apply av_nil) | (with_reducible apply tv_y) | ((with_reducible apply ev_2); (focus walk_at "ev"); (focus walk_at "ev"); (focus walk_at "pp")) | ((with_reducible apply ev_n); (focus walk_at "ev"); (focus walk_at "pp")) | ((with_reducible apply av_cons); (focus walk_at "ev"); (focus walk_at "ev")) | ((with_reducible apply ev_1); (focus walk_at "ev"); (focus walk_at "pp")) | ((with_reducible apply tv_v); (focus walk_at "ev")) | ((with_reducible apply ev_not); (focus walk_at "ev")) | ((with_reducible apply tv_n); (focus walk_at "ev")) | ((with_reducible apply iv_seq); (focus walk_at "ev"); exact rfl) | ((with_reducible apply iv_rng); (focus walk_at "ev"); exact rfl) | ((with_reducible apply iv_rev); (focus walk_at "ev")))
local macro_rules | `(tactic| walk_at "sv") => `(tactic| first | ((with_reducible apply sv_set); (focus walk_at "ev")) | ((with_reducible apply sv_asg); (focus walk_at "ev"); exact rfl) | ((with_reducible apply sv_par2); (focus walk_at "ev")) | ((with_reducible apply sv_par3); (focus walk_at "ev")) | ((with_reducible apply sv_ret); (focus walk_at "ev")) | ((with_reducible apply sv_drop); (focus walk_at "ev")) | (with_reducible apply sv_nil))
local macro_rules | `(tactic| walk_at "ls") => `(tactic| try simp only [startR, List.map_cons, List.map_nil, List.replicate, List.cons_append, List.nil_append, List.set_cons_zero, List.set_cons_succ])
local macro_rules | `(tactic| walk_at "go") => `(tactic| repeat ((with_reducible apply sv_seq); (focus walk_at "sv"); walk_at "ls"))
local macro_rules | `(tactic| simp! [$ts,*]) => `(tactic| simp only [z_callSV, z_callV, z_asv1, z_asv2, z_asv3, z_av1, z_av2, z_av3, z_noL, z_noLE, z_noL0, z_noL0E, z_idx1, z_idxK, z_while, z_try, z_tryN, z_tryR, z_apK, z_apK1, z_putK, z_putK1, z_putL, z_cnt1, z_cntK, List.getElem?_cons_zero, List.getElem?_cons_succ, z_iAnd, z_iOr, z_iAndB, z_iOrB, z_seqF, z_sqFN, z_sqFE, z_bind, z_bindE, z_opt, z_lift, z_liftE, z_c, z_v0, z_vS, z_1, z_2, z_n, z_nil, z_cons, z_call, z_callS, z_ap0, z_ap1, z_ap2, z_ap3, z_ap4, z_ap5, z_ap6, z_as0, z_as1, z_as2, z_as3, z_as4, z_as5, z_not, z_and, z_or, z_ife, z_chain, z_toB, z_tV, z_tT, z_tN, z_tA, z_tO, z_tY, z_trB, z_trI, z_trN, z_trL, z_trT, z_sl, z_oNo, z_oSo, z_toI, z_slL, z_slT, z_stm, z_stmE, z_skip, z_seq, z_sqN, z_sqR, z_sqE, z_sqB, z_sqC, z_gN, z_gT, z_gL, z_gsC, z_gsN, z_asg, z_asgS, z_par2, z_par3, z_drop, z_ret, z_retN, z_brk, z_cnt, z_if, z_raise, z_for, z_lp0, z_lpN, z_lpC, z_lpB, z_lpR, z_lpE, z_iseq, z_sqL, z_sqT, z_rng, z_finN, z_finR, z_finE, z_finSN, z_finSR, z_finSE, z_lenL, z_lenT, z_t0, z_l0, z_t1, z_l1, z_t2, z_l2, z_ln1, z_tup0, z_tup1, z_tup2, z_tup3, z_tup4, z_lst0, z_lst1, z_lst2, z_lst3, z_lst4, z_tupleL, z_tupleT, z_listL, z_listT, z_isN, z_nisN, z_nonI, z_nonN, z_nonT, z_nonL, z_nonE, z_nonS, z_nonB, z_start1, z_start0, z_start2, z_start3, z_start4, z_start5, z_start6, z_int, z_intB, pAdd_int, pAdd'_int, pSub_int, pLt_int, pLe_int, pGt_int, pGe_int, pEq_int, pNe_int, pNeg_int, List.set_cons_zero, List.set_cons_succ, List.replicate_succ, List.replicate_zero, Option.bind_some, Option.map_some, decide_eq_true_eq, Bool.not_eq_true', decide_eq_false_iff_not, if_true, if_false, ite_true, ite_false, Bool.false_eq_true, reduceIte, Bool.not_true, Bool.not_false, Bool.and_eq_true, Bool.or_eq_true, Bool.decide_eq_true, Bool.decide_and, Bool.decide_or, not_false_eq_true, decide_true, decide_false, Bool.and_true, Bool.and_false, Bool.true_and, Bool.false_and, Bool.or_true, Bool.or_false, Bool.true_or, Bool.false_or, List.length_cons, List.length_nil, Nat.reduceAdd, Nat.reduceLT, not_true_eq_false, true_and, and_true, false_and, and_false, or_true, true_or, or_false, false_or, and_self, or_self, $ts,*])
/-! ### the law of families -/
theorem rt_ok {us : List U} (h : plVs us = true) (hl : us.length ≤ 1000) : F__law_right [.lst us] = .ok (.bl true) := right_ok (v := .lst us) h fun us' e => by cases e; exact hl
def rowU (k : Nat) : U := .tup [.int (3 * (k : Int)), .int (3 * (k : Int) + 2)]
def rowsU (n : Nat) : List U := (List.range n).map rowU
theorem rowsU_plV (n : Nat) : plVs (rowsU n) = true := plVs_of fun u hu => by
  obtain ⟨k, _, rfl⟩ := List.mem_map.mp hu
  rfl
theorem rowsU_len (n : Nat) : (rowsU n).length = n := by rw [rowsU, List.length_map, List.length_range]
theorem rows_lc {n : Nat} (hn : n ≤ 65) {i : AF} {s : Sst} {x2 x3 x4 x5 x6 x7 x8 x9 x10 x11 : Option U} (hi : i [none, none, x2, x3, x4, x5, x6, x7, x8, x9, x10, x11, none] s = .ok ((List.range n).map fun k : Nat => U.int (k : Int)) s) : eLc [12] i (gN 12) tY (eN pTup (aCons (e2 pMul (eC (.int 3)) (eV 12)) (aCons (e2 pAdd (e2 pMul (eC (.int 3)) (eV 12)) (eC (.int 2))) aNil))) [none, none, x2, x3, x4, x5, x6, x7, x8, x9, x10, x11, none] s = .ok (.lst (rowsU n)) s := by
  refine ev_lcM (fun k : Nat => U.int (k : Int)) rowU hi (fun k hk => ⟨_, rfl, ?_⟩) (by omega)
  have pm : pMul (.int 3) (.int (k : Int)) = some (.int (3 * (k : Int))) := pMul_int (by decide +kernel) (sm_bn (k := 30) (Bn.of (by omega) (by omega)) (by decide))
  simp! [wipeR, pm]
  rfl
abbrev law1 : SF := (sSeq (sAsg (gN 3) (eN pTup (aCons (eC (.int 200)) (aCons (eN pTuple (aCons (eLc [12] (iRng pRng1 (aCons (eV 2) aNil)) (gN 12) tY (eN pTup (aCons (e2 pMul (eC (.int 3)) (eV 12)) (aCons (e2 pAdd (e2 pMul (eC (.int 3)) (eV 12)) (eC (.int 2))) aNil)))) aNil)) aNil)))) (sSeq (sIf (tO (tN (tT (eCall 1 F__law_right (aCons (eN pLst (aCons (eV 3) aNil)) aNil)))) (tN (tT (eCall 1 F__law_right (aCons (eN pLst (aCons (eN pTup (aCons (eC (.int 7)) (aCons (eN pTup (aCons (eN pTup (aCons (eC (.int 0)) (aCons (eC (.int 3)) aNil))) aNil)) aNil))) (aCons (eV 3) aNil))) aNil))))) (sRet (eC (.bl false))) sNil) (sIf (tO (tN (tT (eCall 1 F__law_right (aCons (eN pLst (aCons (eN pTup (aCons (eC (.int 7)) (aCons (eN pTup (aCons (eN pTup (aCons (eC (.int 0)) (aCons (eC (.int 3)) aNil))) (aCons (eN pTup (aCons (eC (.int 5)) (aCons (eC (.int 6)) aNil))) aNil))) aNil))) (aCons (eV 3) aNil))) aNil)))) (tN (tT (eCall 1 F__law_right (aCons (eN pLst (aCons (eV 3) (aCons (eN pTup (aCons (eC (.int 7)) (aCons (eN pTup aNil) aNil))) aNil))) aNil))))) (sRet (eC (.bl false))) sNil)))
abbrev law2 : SF := (sIf (tO (tN (tT (eCall 1 F__law_right (aCons (eN pLst (aCons (eV 5) (aCons (eV 6) aNil))) aNil)))) (tO (tN (tT (eCall 1 F__law_right (aCons (eN pLst (aCons (eV 6) (aCons (eV 5) aNil))) aNil)))) (tN (tT (eCall 1 F__law_right (aCons (eN pLst (aCons (eV 5) aNil)) aNil)))))) (sRet (eC (.bl false))) sNil)
abbrev law3 : SF := (sSeq (sAsg (gN 8) (eLc [12] (iRng pRng1 (aCons (e2 pAdd (eC (.int 1)) (eCallS 1 F__law_draw (aCons (eC (.int 2)) aNil))) aNil)) (gN 12) tY (eCallS 1 F__law_family (aCons (e2 pIdx (eN pLst (aCons (eC (.int 20)) (aCons (e2 pPow (eC (.int 10)) (eC (.int 60))) aNil))) (e2 pMod (eV 7) (eC (.int 2)))) aNil)))) (sSeq (sIf (tO (tN (tT (eCall 1 F__law_are_families (aCons (eV 8) aNil)))) (tO (tN (tT (eCall 1 F__law_right (aCons (eV 8) aNil)))) (tN (tT (eCall 1 F__law_right (aCons (eCallS 1 F__law_bent (aCons (eV 8) aNil)) aNil)))))) (sRet (eC (.bl false))) sNil) (sFor (iSeq (eN pLst (aCons (eC (.bl true)) (aCons (eC (.bl false)) (aCons (eC (.str (PySem.Str.ofString "1"))) (aCons (eN pLst aNil) (aCons (eN pTup (aCons (eC (.int 1)) aNil)) (aCons (e2 pSub (My.e1 pNeg (eC (.int 1))) (eV 7)) aNil)))))))) (gN 9) (sSeq (sAsg (gN 10) (eC .non)) (sSeq (sTry kls "InvalidNumber" 11 10 (sDrop (eCall 2 F_below (aCons (eV 8) (aCons (eV 9) aNil))))) (sIf (tV (e2 pIs (eV 10) (eC .non))) (sRet (eC (.bl false))) sNil))))))
theorem step1 {m : Nat} (hm : m ≤ 65) {s : Sst} {x3 : Option U} : ∃ y3, law1 [none, none, some (.int (m : Int)), x3, none, none, none, none, none, none, none, none, none] s = .nx [none, none, some (.int (m : Int)), some y3, none, none, none, none, none, none, none, none, none] s := by
  have lc := rows_lc (n := m) hm (i := iRng pRng1 (aCons (eV 2) aNil)) (s := s) (x2 := some (.int (m : Int))) (x3 := x3) (x4 := none) (x5 := none) (x6 := none) (x7 := none) (x8 := none) (x9 := none) (x10 := none) (x11 := none) (rng1_ok rfl (by omega))
  have hp := rowsU_plV m
  have f1 : plV (.tup [.int 200, .tup (rowsU m)]) = true := plV_pr hp
  refine ⟨.tup [.int 200, .tup (rowsU m)], sv_seq (ρ1 := [none, none, some (.int (m : Int)), some (.tup [.int 200, .tup (rowsU m)]), none, none, none, none, none, none, none, none, none]) (s1 := s) ?_ ?_⟩
  · refine sv_set (ev_n (us := [.int 200, .tup (rowsU m)]) (s1 := s) (av_cons (s1 := s) rfl (av_cons (s1 := s) (ev_n (us := [.lst (rowsU m)]) (s1 := s) (av_cons lc av_nil) rfl) av_nil)) rfl)
  · have r1 := rt_ok (us := [.tup [.int 200, .tup (rowsU m)]]) (by simp [plVs, f1]) (by simp)
    have r2 := rt_ok (us := [.tup [.int 7, .tup [.tup [.int 0, .int 3]]], .tup [.int 200, .tup (rowsU m)]]) (by simp [plVs, plV, hp]) (by simp)
    have r3 := rt_ok (us := [.tup [.int 7, .tup [.tup [.int 0, .int 3], .tup [.int 5, .int 6]]], .tup [.int 200, .tup (rowsU m)]]) (by simp [plVs, plV, hp]) (by simp)
    have r4 := rt_ok (us := [.tup [.int 200, .tup (rowsU m)], .tup [.int 7, .tup []]]) (by simp [plVs, plV, hp]) (by simp)
    simp! [r1, r2, r3, r4]
theorem step2 {a b : U} (ha : plV a = true) (hb : plV b = true) {s : Sst} {x2 x3 x4 : Option U} : law2 [none, none, x2, x3, x4, some a, some b, none, none, none, none, none, none] s = .nx [none, none, x2, x3, x4, some a, some b, none, none, none, none, none, none] s := by
  have r1 := rt_ok (us := [a, b]) (by simp [plVs, ha, hb]) (by simp)
  have r2 := rt_ok (us := [b, a]) (by simp [plVs, ha, hb]) (by simp)
  have r3 := rt_ok (us := [a]) (by simp [plVs, ha]) (by simp)
  simp! [law2, r1, r2, r3]
abbrev law3b : SF := (sSeq (sAsg (gN 10) (eC .non)) (sSeq (sTry kls "InvalidNumber" 11 10 (sDrop (eCall 2 F_below (aCons (eV 8) (aCons (eV 9) aNil))))) (sIf (tV (e2 pIs (eV 10) (eC .non))) (sRet (eC (.bl false))) sNil)))
theorem kcN : kls.contains "InvalidNumber" = true := by decide +kernel
theorem bad_go {fs : List Fm} (gs : ∀ f ∈ fs, GF f) (l12 : fs.length = 1 ∨ fs.length = 2) (hp : (pairsN fs : Int) ≤ 64) {s : Sst} {x2 x3 x4 x5 x6 x7 x12 : Option U} : ∀ (us : List U) (x9 x10 : Option U), (∀ u ∈ us, F_is_natural [u] = .ok (.bl false)) → ∃ y9 y10, loopF (gN 9) law3b us [none, none, x2, x3, x4, x5, x6, x7, some (.lst (fs.map fmU)), x9, x10, none, x12] s = .nx [none, none, x2, x3, x4, x5, x6, x7, some (.lst (fs.map fmU)), y9, y10, none, x12] s
  | [], x9, x10, _ => ⟨x9, x10, rfl⟩
  | u :: us, x9, x10, hu => by
    have b := below_num (b := u) (door_ok gs l12 hp) (hu u (by simp))
    obtain ⟨y9, y10, ih⟩ := bad_go gs l12 hp (s := s) (x2 := x2) (x3 := x3) (x4 := x4) (x5 := x5) (x6 := x6) (x7 := x7) (x12 := x12) us (some u) (some (.exc "InvalidNumber")) fun z hz => hu z (by simp [hz])
    refine ⟨y9, y10, ?_⟩
    rw [z_lp, ← ih]
    simp! [z_gN, law3b, z_tryE kcN (show (decide ("InvalidNumber" = "InvalidNumber") || decide ("InvalidNumber" = "MarkError")) = true by decide), b, z_stmE]
theorem fams_ofQ : ∀ ys : List U, (∀ y ∈ ys, ∃ f : Fm, y = fmU f ∧ (GF f ∧ f.2.length ≤ 3)) → ∃ fs : List Fm, ys = fs.map fmU ∧ ∀ f ∈ fs, GF f ∧ f.2.length ≤ 3
  | [], _ => ⟨[], rfl, by simp⟩
  | y :: ys, h => by
    obtain ⟨f, rfl, hf⟩ := h y (by simp)
    obtain ⟨fs, rfl, hfs⟩ := fams_ofQ ys fun z hz => h z (List.mem_cons_of_mem _ hz)
    refine ⟨f :: fs, rfl, fun z hz => ?_⟩
    rcases List.mem_cons.mp hz with rfl | hz
    · exact hf
    · exact hfs z hz
theorem pairs_few {fs : List Fm} (few : ∀ f ∈ fs, f.2.length ≤ 3) : (pairsN fs : Int) ≤ 64 := by
  unfold pairsN
  split
  · rename_i a b
    have ha := few a (by simp)
    have hb := few b (by simp)
    have := Nat.mul_le_mul ha hb
    omega
  · decide
theorem famsK_ok {fs : List Fm} (gs : ∀ f ∈ fs, GF f) (l12 : fs.length = 1 ∨ fs.length = 2) : famsK (.lst (fs.map fmU)) = true := by
  have a : (fs.map fmU).all famK = true := by
    rw [List.all_map, List.all_eq_true]
    intro f hf
    exact famK_fm (gs f hf)
  show ((decide (1 ≤ (fs.map fmU).length) && decide ((fs.map fmU).length ≤ 2)) && (fs.map fmU).all famK) = true
  rw [a, List.length_map, decide_eq_true (show 1 ≤ fs.length by omega), decide_eq_true (show fs.length ≤ 2 by omega)]
  rfl
abbrev bads43 (i : Int) : List U := [.bl true, .bl false, .str (PySem.Str.ofString "1"), .lst [], .tup [.int 1], .int (-1 - i)]
theorem bads_ok : ∀ i : Nat, i < 30 → ∀ u ∈ bads43 (i : Int), F_is_natural [u] = .ok (.bl false) := by
  intro i hi u hu
  simp only [List.mem_cons, List.not_mem_nil, or_false] at hu
  rcases hu with rfl | rfl | rfl | rfl | rfl | rfl
  · exact at_ok (by decide +kernel)
  · exact at_ok (by decide +kernel)
  · exact at_ok (by decide +kernel)
  · exact at_ok (by decide +kernel)
  · exact at_ok (by decide +kernel)
  · have n := isi_int (u := .int (-1 - (i : Int))) rfl
    have c : ¬ (0 : Int) ≤ -1 - (i : Int) := by omega
    refine z_go ?_ rfl
    unfold f_is_natural
    simp! [n, c, intU, Option.isSome]
theorem turn43_ok (i : Nat) (u : U) (ρ : Rho) (s : Sst) (h : (rngU 0 30 1)[i]? = some u) (hi : Wf (200 * i) s ∧ ∃ x2 x3 x4 x5 x6 x7 x8 x9 x10, ρ = [none, none, x2, x3, x4, x5, x6, x7, x8, x9, x10, none, none]) : ∃ ρ1 ρ2 s2, gN 7 u ρ = some ρ1 ∧ law3 ρ1 s = .nx ρ2 s2 ∧ Wf (200 * ((i + 1 : Nat) : Int)) s2 ∧ ∃ x2 x3 x4 x5 x6 x7 x8 x9 x10, ρ2 = [none, none, x2, x3, x4, x5, x6, x7, x8, x9, x10, none, none] := by
  obtain ⟨hw, x2, x3, x4, x5, x6, x7, x8, x9, x10, rfl⟩ := hi
  have hu : i < 30 ∧ u = .int (i : Int) := by
    have e : rngU 0 30 1 = (List.range 30).map fun k : Nat => U.int (k : Int) := by
      unfold rngU
      simp
    rw [e] at h
    exact rng_get h
  obtain ⟨hi, rfl⟩ := hu
  have pw : pPow (.int 10) (.int 60) = some (.int T60) := rfl
  have pm := pMod_int (i := (i : Int)) (show (0 : Int) < 2 by decide)
  obtain ⟨most, ix, mo⟩ : ∃ most : Int, pIdx (.lst [.int 20, .int T60]) (.int ((i : Int) % 2)) = some (.int most) ∧ (most = 20 ∨ most = T60) := by
    rcases Int.emod_two_eq (i : Int) with e | e
    · rw [e]; exact ⟨20, rfl, .inl rfl⟩
    · rw [e]; exact ⟨T60, rfl, .inr rfl⟩
  obtain ⟨k, s1, e1, k0, k1, w1⟩ := draw_ok (n := 2) hw (by decide) (Bn.of (by decide) (by decide)) (by omega)
  obtain ⟨k, rfl⟩ := Int.eq_ofNat_of_zero_le k0
  have ek : (1 : Int) + ((k : Nat) : Int) = ((1 + k : Nat) : Int) := by push_cast; rfl
  obtain ⟨ys, s2, e2', yl, yq, w2⟩ := ev_lcS (vs := [12]) (i := iRng pRng1 (aCons (e2 pAdd (eC (.int 1)) (eCallS 1 F__law_draw (aCons (eC (.int 2)) aNil))) aNil)) (g := gN 12) (a := eCallS 1 F__law_family (aCons (e2 pIdx (eN pLst (aCons (eC (.int 20)) (aCons (e2 pPow (eC (.int 10)) (eC (.int 60))) aNil))) (e2 pMod (eV 7) (eC (.int 2)))) aNil)) (ρ := [none, none, x2, x3, x4, x5, x6, some (.int (i : Int)), x8, x9, x10, none, none]) (s := s) (s1 := s1) (us := (List.range (1 + k)).map fun k : Nat => U.int (k : Int)) (fun y => ∃ f : Fm, y = fmU f ∧ (GF f ∧ f.2.length ≤ 3)) (fun j s => Wf (200 * i + 1 + 70 * j) s) (rng1_ok (n := 1 + k) (by simp! [e1, ek]) (by omega)) (fun j u s hu hj => by
      obtain ⟨hj', rfl⟩ := rng_get hu
      obtain ⟨f, s', e, g, l, w⟩ := fam_draw (most := most) hj mo (by omega)
      refine ⟨_, fmU f, s', rfl, ?_, ⟨f, rfl, g, l⟩, w.mono (by push_cast; omega)⟩
      simp! [wipeR, pw, pm, ix, e]) (by rw [List.length_map, List.length_range]; omega) (w1.mono (by push_cast; omega))
  obtain ⟨fs, rfl, hf⟩ := fams_ofQ ys yq
  have fl : fs.length = 1 + k := by
    rw [List.length_map, List.length_map, List.length_range] at yl
    exact yl
  have gs : ∀ f ∈ fs, GF f := fun f m => (hf f m).1
  have few : ∀ f ∈ fs, f.2.length ≤ 3 := fun f m => (hf f m).2
  have l12 : fs.length = 1 ∨ fs.length = 2 := by omega
  have w2' : Wf (200 * i + 150) s2 := w2.mono (by rw [List.length_map, List.length_range]; push_cast; omega)
  have af := law_fams_any (v := .lst (fs.map fmU)) (fams_plV fs) fun us e => by cases e; rw [List.length_map]; omega
  rw [famsK_ok gs l12] at af
  have r1 := rt_ok (us := fs.map fmU) (fams_plV fs) (by rw [List.length_map]; omega)
  obtain ⟨v, s3, e3, pv, lv, w3⟩ := bent_ok l12 few w2' (by omega)
  have r2 := right_ok pv lv
  obtain ⟨y9, y10, e4⟩ := bad_go gs l12 (pairs_few few) (s := s3) (x2 := x2) (x3 := x3) (x4 := x4) (x5 := x5) (x6 := x6) (x7 := some (.int (i : Int))) (x12 := none) (bads43 (i : Int)) x9 x10 (bads_ok i hi)
  refine ⟨_, [none, none, x2, x3, x4, x5, x6, some (.int (i : Int)), some (.lst (fs.map fmU)), y9, y10, none, none], s3, rfl, sv_seq (ρ1 := [none, none, x2, x3, x4, x5, x6, some (.int (i : Int)), some (.lst (fs.map fmU)), x9, x10, none, none]) (s1 := s2) (sv_set e2') ?_, w3.mono (by push_cast; omega), _, _, _, _, _, _, _, _, _, rfl⟩
  have p6 : pLst [.bl true, .bl false, .str (PySem.Str.ofString "1"), .lst [], .tup [.int 1], .int (-1 - (i : Int))] = some (.lst (bads43 (i : Int))) := rfl
  simp! [af, r1, e3, r2, p6, e4]
theorem law_true : ∀ s, NewS s → ∃ s', f_law (List.replicate 13 none) s = .rt (.bl true) s' := by
  intro s hs
  obtain ⟨y1, e1⟩ := step1 (m := 63) (by decide) (s := s) (x3 := none)
  obtain ⟨y2, e2'⟩ := step1 (m := 64) (by decide) (s := s) (x3 := some y1)
  obtain ⟨y3, e3⟩ := step1 (m := 65) (by decide) (s := s) (x3 := some y2)
  have lp1 : loopF (gN 2) law1 [.int 63, .int 64, .int 65] [none, none, none, none, none, none, none, none, none, none, none, none, none] s = .nx [none, none, some (.int 65), some y3, none, none, none, none, none, none, none, none, none] s := by
    generalize law1 = Z at e1 e2' e3 ⊢
    have e1 : Z [none, none, some (.int 63), none, none, none, none, none, none, none, none, none, none] s = _ := e1
    have e2' : Z [none, none, some (.int 64), some y1, none, none, none, none, none, none, none, none, none] s = _ := e2'
    have e3 : Z [none, none, some (.int 65), some y2, none, none, none, none, none, none, none, none, none] s = _ := e3
    simp! [z_lp, z_gN, e1, e2', e3]
    rfl
  have lc := rows_lc (n := 13) (by decide) (i := iRng pRng1 (aCons (eC (.int 13)) aNil)) (s := s) (x2 := some (.int 65)) (x3 := some y3) (x4 := none) (x5 := none) (x6 := none) (x7 := none) (x8 := none) (x9 := none) (x10 := none) (x11 := none) (rng1_ok rfl (by decide))
  have hp := rowsU_plV 13
  have c5 := plVs_cut hp none (some 5)
  have c2 := plVs_cut hp none (some 2)
  have c1 := plVs_cut hp none (some 1)
  have st : ∀ (a b : U), plV a = true → plV b = true → ∀ (x5 x6 : Option U), law2 [none, none, some (.int 65), some y3, some (.tup (rowsU 13)), some a, some b, none, none, none, none, none, none] s = .nx [none, none, some (.int 65), some y3, some (.tup (rowsU 13)), some a, some b, none, none, none, none, none, none] s := fun a b ha hb _ _ => step2 ha hb
  have p1 := st (.tup [.int 50, .tup (rowsU 13)]) (.tup [.int 17, .tup (cutU (rowsU 13) none (some 5))]) (plV_pr hp) (plV_pr c5) none none
  have p2 := st (.tup [.int 50, .tup (cutU (rowsU 13) none (some 5))]) (.tup [.int 3, .tup (cutU (rowsU 13) none (some 1))]) (plV_pr c5) (plV_pr c1) none none
  have p3 := st (.tup [.int 50, .tup (cutU (rowsU 13) none (some 2))]) (.tup [.int 9, .tup (cutU (rowsU 13) none (some 2))]) (plV_pr c2) (plV_pr c2) none none
  obtain ⟨ρ1, s1, e5, w1, z2, z3, z4, z5, z6, z7, z8, z9, z10, rfl⟩ := loop_inv (us := rngU 0 30 1) (g := gN 7) (A := law3) (ρ := [none, none, some (.int 65), some y3, some (.tup (rowsU 13)), some (.tup [.int 50, .tup (cutU (rowsU 13) none (some 2))]), some (.tup [.int 9, .tup (cutU (rowsU 13) none (some 2))]), none, none, none, none, none, none]) (s := s) (fun i ρ s => Wf (200 * i) s ∧ ∃ x2 x3 x4 x5 x6 x7 x8 x9 x10, ρ = [none, none, x2, x3, x4, x5, x6, x7, x8, x9, x10, none, none]) (fun i u ρ s h hi => turn43_ok i u ρ s h hi) ⟨hs.wf.mono (by decide), _, _, _, _, _, _, _, _, _, rfl⟩
  have lp2 : loopF (gT (gsCons (gN 5) (gsCons (gN 6) gsNil))) law2 [.tup [.tup [.int 50, .tup (rowsU 13)], .tup [.int 17, .tup (cutU (rowsU 13) none (some 5))]], .tup [.tup [.int 50, .tup (cutU (rowsU 13) none (some 5))], .tup [.int 3, .tup (cutU (rowsU 13) none (some 1))]], .tup [.tup [.int 50, .tup (cutU (rowsU 13) none (some 2))], .tup [.int 9, .tup (cutU (rowsU 13) none (some 2))]]] [none, none, some (.int 65), some y3, some (.tup (rowsU 13)), none, none, none, none, none, none, none, none] s = .nx [none, none, some (.int 65), some y3, some (.tup (rowsU 13)), some (.tup [.int 50, .tup (cutU (rowsU 13) none (some 2))]), some (.tup [.int 9, .tup (cutU (rowsU 13) none (some 2))]), none, none, none, none, none, none] s := by
    generalize law2 = A2 at p1 p2 p3 ⊢
    simp! [z_lp, z_gN, p1, p2, p3]
  refine ⟨s1, ?_⟩
  have r30 : pRng1 [.int 30] = some (rngU 0 30 1) := rfl
  unfold f_law
  refine sv_seq (ρ1 := [none, none, some (.int 65), some y3, none, none, none, none, none, none, none, none, none]) (s1 := s) (sv_for (us := [.int 63, .int 64, .int 65]) (s1 := s) rfl lp1) ?_
  refine sv_seq (ρ1 := [none, none, some (.int 65), some y3, some (.tup (rowsU 13)), none, none, none, none, none, none, none, none]) (s1 := s) (sv_set (ev_n (us := [.lst (rowsU 13)]) (s1 := s) (av_cons lc av_nil) rfl)) ?_
  refine sv_seq (s1 := s) (sv_for (s1 := s) rfl lp2) ?_
  refine sv_seq (s1 := s1) (sv_for (us := rngU 0 30 1) (s1 := s) rfl e5) ?_
  rfl
end My

set_option Elab.async false
set_option linter.all false
set_option maxRecDepth 100000
set_option maxHeartbeats 4000000
namespace My
open PySem PySem.Spec PyProof.Rows L2
open C8 (Cal pe_c pe_gc)
def topS (i : Nat) : Stmt := PySem.Challenge.pw_bymarks_k43_families.main.body.getD i (.Pass ⟨0, 0, 0, 0⟩)
abbrev s_is_integer : Stmt := topS 8
abbrev nm_is_integer : List Str := ["value"]
theorem sc_is_integer : FnScope nm_is_integer ["value"] (defScope s_is_integer) := ⟨rfl, rfl, rfl, by decide +kernel, rfl, by decide +kernel, by decide +kernel⟩
abbrev s_is_natural : Stmt := topS 9
abbrev nm_is_natural : List Str := ["value"]
theorem sc_is_natural : FnScope nm_is_natural ["value"] (defScope s_is_natural) := ⟨rfl, rfl, rfl, by decide +kernel, rfl, by decide +kernel, by decide +kernel⟩
abbrev s_common_multiple : Stmt := topS 10
abbrev nm_common_multiple : List Str := ["numbers", "found", "number"]
theorem sc_common_multiple : FnScope nm_common_multiple ["numbers"] (defScope s_common_multiple) := ⟨rfl, rfl, rfl, by decide +kernel, rfl, by decide +kernel, by decide +kernel⟩
abbrev s_fraction : Stmt := topS 12
abbrev nm_fraction : List Str := ["count", "whole", "shared"]
theorem sc_fraction : FnScope nm_fraction ["count", "whole"] (defScope s_fraction) := ⟨rfl, rfl, rfl, by decide +kernel, rfl, by decide +kernel, by decide +kernel⟩
abbrev s_within : Stmt := topS 17
abbrev nm_within : List Str := ["number", "low", "high"]
theorem sc_within : FnScope nm_within ["number", "low", "high"] (defScope s_within) := ⟨rfl, rfl, rfl, by decide +kernel, rfl, by decide +kernel, by decide +kernel⟩
abbrev s_below_in_run : Stmt := topS 18
abbrev nm_below_in_run : List Str := ["run", "period", "bound", "start", "end"]
theorem sc_below_in_run : FnScope nm_below_in_run ["run", "period", "bound"] (defScope s_below_in_run) := ⟨rfl, rfl, rfl, by decide +kernel, rfl, by decide +kernel, by decide +kernel⟩
abbrev s_window_of_one : Stmt := topS 19
abbrev nm_window_of_one : List Str := ["family", "low", "high", "period", "runs", "run"]
theorem sc_window_of_one : FnScope nm_window_of_one ["family", "low", "high"] (defScope s_window_of_one) := ⟨rfl, rfl, rfl, by decide +kernel, rfl, by decide +kernel, by decide +kernel⟩
abbrev s_window_of_two : Stmt := topS 24
abbrev nm_window_of_two : List Str := ["one", "other", "low", "high", "rows"]
theorem sc_window_of_two : FnScope nm_window_of_two ["one", "other", "low", "high"] (defScope s_window_of_two) := ⟨rfl, rfl, rfl, by decide +kernel, rfl, by decide +kernel, by decide +kernel⟩
abbrev s_count_in : Stmt := topS 25
abbrev nm_count_in : List Str := ["families", "low", "high"]
theorem sc_count_in : FnScope nm_count_in ["families", "low", "high"] (defScope s_count_in) := ⟨rfl, rfl, rfl, by decide +kernel, rfl, by decide +kernel, by decide +kernel⟩
abbrev s_common_in_circle : Stmt := topS 26
abbrev nm_common_in_circle : List Str := ["one", "other", "size", "turn"]
theorem sc_common_in_circle : FnScope nm_common_in_circle ["one", "other", "size"] (defScope s_common_in_circle) := ⟨rfl, rfl, rfl, by decide +kernel, rfl, by decide +kernel, by decide +kernel⟩
abbrev s_pairs_of_runs : Stmt := topS 27
abbrev nm_pairs_of_runs : List Str := ["one", "other", "divisor", "times", "rest", "more", "left", "both"]
theorem sc_pairs_of_runs : FnScope nm_pairs_of_runs ["one", "other", "divisor"] (defScope s_pairs_of_runs) := ⟨rfl, rfl, rfl, by decide +kernel, rfl, by decide +kernel, by decide +kernel⟩
abbrev s_common_period : Stmt := topS 28
abbrev nm_common_period : List Str := ["families", "period", "_"]
theorem sc_common_period : FnScope nm_common_period ["families"] (defScope s_common_period) := ⟨rfl, rfl, rfl, by decide +kernel, rfl, by decide +kernel, by decide +kernel⟩
abbrev s_count_in_period : Stmt := topS 29
abbrev nm_count_in_period : List Str := ["families", "one", "other", "divisor", "run", "inner"]
theorem sc_count_in_period : FnScope nm_count_in_period ["families"] (defScope s_count_in_period) := ⟨rfl, rfl, rfl, by decide +kernel, rfl, by decide +kernel, by decide +kernel⟩
abbrev s_period_of : Stmt := topS 31
abbrev nm_period_of : List Str := ["parts", "_", "families"]
theorem sc_period_of : FnScope nm_period_of ["parts"] (defScope s_period_of) := ⟨rfl, rfl, rfl, by decide +kernel, rfl, by decide +kernel, by decide +kernel⟩
abbrev s_whole_count : Stmt := topS 32
abbrev nm_whole_count : List Str := ["parts", "period", "factor", "families"]
theorem sc_whole_count : FnScope nm_whole_count ["parts", "period"] (defScope s_whole_count) := ⟨rfl, rfl, rfl, by decide +kernel, rfl, by decide +kernel, by decide +kernel⟩
abbrev s_share_of_sum : Stmt := topS 33
abbrev nm_share_of_sum : List Str := ["parts", "period"]
theorem sc_share_of_sum : FnScope nm_share_of_sum ["parts"] (defScope s_share_of_sum) := ⟨rfl, rfl, rfl, by decide +kernel, rfl, by decide +kernel, by decide +kernel⟩
abbrev s_below_of_sum : Stmt := topS 35
abbrev nm_below_of_sum : List Str := ["parts", "bound", "period", "turns", "rest"]
theorem sc_below_of_sum : FnScope nm_below_of_sum ["parts", "bound"] (defScope s_below_of_sum) := ⟨rfl, rfl, rfl, by decide +kernel, rfl, by decide +kernel, by decide +kernel⟩
abbrev s_nth_of_sum : Stmt := topS 36
abbrev nm_nth_of_sum : List Str := ["parts", "number", "period", "turns", "rest", "low", "digit", "count"]
theorem sc_nth_of_sum : FnScope nm_nth_of_sum ["parts", "number"] (defScope s_nth_of_sum) := ⟨rfl, rfl, rfl, by decide +kernel, rfl, by decide +kernel, by decide +kernel⟩
abbrev s_is_run : Stmt := topS 43
abbrev nm_is_run : List Str := ["value"]
theorem sc_is_run : FnScope nm_is_run ["value"] (defScope s_is_run) := ⟨rfl, rfl, rfl, by decide +kernel, rfl, by decide +kernel, by decide +kernel⟩
abbrev s_is_family : Stmt := topS 44
abbrev nm_is_family : List Str := ["value", "period", "runs", "ends", "_", "end", "ahead", "run"]
theorem sc_is_family : FnScope nm_is_family ["value"] (defScope s_is_family) := ⟨rfl, rfl, rfl, by decide +kernel, rfl, by decide +kernel, by decide +kernel⟩
abbrev s_check_families : Stmt := topS 45
abbrev nm_check_families : List Str := ["families", "most", "family"]
theorem sc_check_families : FnScope nm_check_families ["families", "most"] (defScope s_check_families) := ⟨rfl, rfl, rfl, by decide +kernel, rfl, by decide +kernel, by decide +kernel⟩
abbrev s_below : Stmt := topS 46
abbrev nm_below : List Str := ["families", "bound"]
theorem sc_below : FnScope nm_below ["families", "bound"] (defScope s_below) := ⟨rfl, rfl, rfl, by decide +kernel, rfl, by decide +kernel, by decide +kernel⟩
abbrev s_common_share : Stmt := topS 48
abbrev nm_common_share : List Str := ["families"]
theorem sc_common_share : FnScope nm_common_share ["families"] (defScope s_common_share) := ⟨rfl, rfl, rfl, by decide +kernel, rfl, by decide +kernel, by decide +kernel⟩
abbrev s_nth : Stmt := topS 47
abbrev nm_nth : List Str := ["families", "number"]
theorem sc_nth : FnScope nm_nth ["families", "number"] (defScope s_nth) := ⟨rfl, rfl, rfl, by decide +kernel, rfl, by decide +kernel, by decide +kernel⟩
abbrev s__law_source : Stmt := topS 50
abbrev nm__law_source : List Str := ["_law_script", "_law_cells", "_law_k"]
theorem sc__law_source : FnScope nm__law_source ["_law_script"] (defScope s__law_source) := ⟨rfl, rfl, rfl, by decide +kernel, rfl, by decide +kernel, by decide +kernel⟩
abbrev s__law_draw : Stmt := topS 51
abbrev nm__law_draw : List Str := ["_law_source_here", "_law_limit", "_law_cells", "_law_turn", "_law_place", "_law_cell", "_law_number"]
theorem sc__law_draw : FnScope nm__law_draw ["_law_source_here", "_law_limit"] (defScope s__law_draw) := ⟨rfl, rfl, rfl, by decide +kernel, rfl, by decide +kernel, by decide +kernel⟩
abbrev s__law_ten : Stmt := topS 52
abbrev nm__law_ten : List Str := ["_law_many", "_law_found", "_law_k"]
theorem sc__law_ten : FnScope nm__law_ten ["_law_many"] (defScope s__law_ten) := ⟨rfl, rfl, rfl, by decide +kernel, rfl, by decide +kernel, by decide +kernel⟩
abbrev s__law_pick : Stmt := topS 53
abbrev nm__law_pick : List Str := ["_law_source_here", "_law_values"]
theorem sc__law_pick : FnScope nm__law_pick ["_law_source_here", "_law_values"] (defScope s__law_pick) := ⟨rfl, rfl, rfl, by decide +kernel, rfl, by decide +kernel, by decide +kernel⟩
abbrev s__law_great : Stmt := topS 54
abbrev nm__law_great : List Str := ["_law_source_here", "_law_limit", "_law_value", "_law_k"]
theorem sc__law_great : FnScope nm__law_great ["_law_source_here", "_law_limit"] (defScope s__law_great) := ⟨rfl, rfl, rfl, by decide +kernel, rfl, by decide +kernel, by decide +kernel⟩
abbrev s__law_family : Stmt := topS 55
abbrev nm__law_family : List Str := ["_law_source_here", "_law_most", "_law_period", "_law_joint", "_law_edges", "_law_runs", "_law_k"]
theorem sc__law_family : FnScope nm__law_family ["_law_source_here", "_law_most"] (defScope s__law_family) := ⟨rfl, rfl, rfl, by decide +kernel, rfl, by decide +kernel, by decide +kernel⟩
abbrev s__law_whole : Stmt := topS 56
abbrev nm__law_whole : List Str := ["_law_value", "_law_least", "_law_end"]
theorem sc__law_whole : FnScope nm__law_whole ["_law_value", "_law_least", "_law_end"] (defScope s__law_whole) := ⟨rfl, rfl, rfl, by decide +kernel, rfl, by decide +kernel, by decide +kernel⟩
abbrev s__law_is_family : Stmt := topS 57
abbrev nm__law_is_family : List Str := ["_law_value", "_law_before", "_law_stretch"]
theorem sc__law_is_family : FnScope nm__law_is_family ["_law_value"] (defScope s__law_is_family) := ⟨rfl, rfl, rfl, by decide +kernel, rfl, by decide +kernel, by decide +kernel⟩
abbrev s__law_are_families : Stmt := topS 58
abbrev nm__law_are_families : List Str := ["_law_value", "_law_family_here"]
theorem sc__law_are_families : FnScope nm__law_are_families ["_law_value"] (defScope s__law_are_families) := ⟨rfl, rfl, rfl, by decide +kernel, rfl, by decide +kernel, by decide +kernel⟩
abbrev s__law_word : Stmt := topS 59
abbrev nm__law_word : List Str := ["_law_way", "_law_value", "_law_caught", "e", "_law_found"]
theorem sc__law_word : FnScope nm__law_word ["_law_way", "_law_value"] (defScope s__law_word) := ⟨rfl, rfl, rfl, by decide +kernel, rfl, by decide +kernel, by decide +kernel⟩
abbrev s__law_right : Stmt := topS 60
abbrev nm__law_right : List Str := ["_law_value", "_law_due", "_law_pairs", "_law_way"]
theorem sc__law_right : FnScope nm__law_right ["_law_value"] (defScope s__law_right) := ⟨rfl, rfl, rfl, by decide +kernel, rfl, by decide +kernel, by decide +kernel⟩
abbrev s__law_bent : Stmt := topS 61
abbrev nm__law_bent : List Str := ["_law_source_here", "_law_families", "_law_at", "_law_period", "_law_runs", "_law_odd", "_law_some", "_law_start", "_law_end", "_law_stretch"]
theorem sc__law_bent : FnScope nm__law_bent ["_law_source_here", "_law_families"] (defScope s__law_bent) := ⟨rfl, rfl, rfl, by decide +kernel, rfl, by decide +kernel, by decide +kernel⟩
abbrev s_law : Stmt := topS 62
abbrev nm_law : List Str := ["_law_script", "_law_source_here", "_law_many", "_law_family_here", "_law_rows", "_law_one", "_law_other", "_law_turn", "_law_families", "_law_bad", "_law_caught", "e", "_law_k"]
theorem sc_law : FnScope nm_law ["_law_script"] (defScope s_law) := ⟨rfl, rfl, rfl, by decide +kernel, rfl, by decide +kernel, by decide +kernel⟩
structure Txt (K : PySem.W.Frag) (mg : Str → Option Value) (D : String → Addr) : Prop where
  f_is_integer : My.Has K mg "is_integer" s_is_integer ["value"]
  f_is_natural : My.Has K mg "is_natural" s_is_natural ["value"]
  f_common_multiple : My.Has K mg "common_multiple" s_common_multiple ["numbers"]
  f_fraction : My.Has K mg "fraction" s_fraction ["count", "whole"]
  f_within : My.Has K mg "within" s_within ["number", "low", "high"]
  f_below_in_run : My.Has K mg "below_in_run" s_below_in_run ["run", "period", "bound"]
  f_window_of_one : My.Has K mg "window_of_one" s_window_of_one ["family", "low", "high"]
  f_window_of_two : My.Has K mg "window_of_two" s_window_of_two ["one", "other", "low", "high"]
  f_count_in : My.Has K mg "count_in" s_count_in ["families", "low", "high"]
  f_common_in_circle : My.Has K mg "common_in_circle" s_common_in_circle ["one", "other", "size"]
  f_pairs_of_runs : My.Has K mg "pairs_of_runs" s_pairs_of_runs ["one", "other", "divisor"]
  f_common_period : My.Has K mg "common_period" s_common_period ["families"]
  f_count_in_period : My.Has K mg "count_in_period" s_count_in_period ["families"]
  f_period_of : My.Has K mg "period_of" s_period_of ["parts"]
  f_whole_count : My.Has K mg "whole_count" s_whole_count ["parts", "period"]
  f_share_of_sum : My.Has K mg "share_of_sum" s_share_of_sum ["parts"]
  f_below_of_sum : My.Has K mg "below_of_sum" s_below_of_sum ["parts", "bound"]
  f_nth_of_sum : My.Has K mg "nth_of_sum" s_nth_of_sum ["parts", "number"]
  f_is_run : My.Has K mg "is_run" s_is_run ["value"]
  f_is_family : My.Has K mg "is_family" s_is_family ["value"]
  f_check_families : My.Has K mg "check_families" s_check_families ["families", "most"]
  f_below : My.Has K mg "below" s_below ["families", "bound"]
  f_common_share : My.Has K mg "common_share" s_common_share ["families"]
  f_nth : My.Has K mg "nth" s_nth ["families", "number"]
  f__law_source : My.Has K mg "_law_source" s__law_source ["_law_script"]
  f__law_draw : My.Has K mg "_law_draw" s__law_draw ["_law_source_here", "_law_limit"]
  f__law_ten : My.Has K mg "_law_ten" s__law_ten ["_law_many"]
  f__law_pick : My.Has K mg "_law_pick" s__law_pick ["_law_source_here", "_law_values"]
  f__law_great : My.Has K mg "_law_great" s__law_great ["_law_source_here", "_law_limit"]
  f__law_family : My.Has K mg "_law_family" s__law_family ["_law_source_here", "_law_most"]
  f__law_whole : My.Has K mg "_law_whole" s__law_whole ["_law_value", "_law_least", "_law_end"]
  f__law_is_family : My.Has K mg "_law_is_family" s__law_is_family ["_law_value"]
  f__law_are_families : My.Has K mg "_law_are_families" s__law_are_families ["_law_value"]
  f__law_word : My.Has K mg "_law_word" s__law_word ["_law_way", "_law_value"]
  f__law_right : My.Has K mg "_law_right" s__law_right ["_law_value"]
  f__law_bent : My.Has K mg "_law_bent" s__law_bent ["_law_source_here", "_law_families"]
  f_law : My.Has K mg "law" s_law ["_law_script"]
  b_abs : mg "abs" = none
  b_all : mg "all" = none
  b_bool : mg "bool" = none
  b_divmod : mg "divmod" = none
  b_int : mg "int" = none
  b_isinstance : mg "isinstance" = none
  b_len : mg "len" = none
  b_list : mg "list" = none
  b_max : mg "max" = none
  b_min : mg "min" = none
  b_range : mg "range" = none
  b_set : mg "set" = none
  b_sorted : mg "sorted" = none
  b_sum : mg "sum" = none
  b_tuple : mg "tuple" = none
  b_zip : mg "zip" = none
  v_GREATEST_PERIOD : ∃ u, mg "GREATEST_PERIOD" = some u ∧ RelV (.int 1000000000000000000000000000000000000000000000000000000000000) u
  v_MOST_FAMILIES : ∃ u, mg "MOST_FAMILIES" = some u ∧ RelV (.int 2) u
  v_MOST_PAIRS : ∃ u, mg "MOST_PAIRS" = some u ∧ RelV (.int 64) u
  v_MOST_PAIRS_OF_NTH : ∃ u, mg "MOST_PAIRS_OF_NTH" = some u ∧ RelV (.int 4) u
  v_MOST_RUNS : ∃ u, mg "MOST_RUNS" = some u ∧ RelV (.int 64) u
  v_gcd : mg "gcd" = some (.builtin "math.gcd")
  v_lcm : mg "lcm" = some (.builtin "math.lcm")
  v_InvalidDeals : mg "InvalidDeals" = some (.ref (D "InvalidDeals"))
  x_InvalidDeals : My.XC K (D "InvalidDeals")
  v_InvalidFamilies : mg "InvalidFamilies" = some (.ref (D "InvalidFamilies"))
  x_InvalidFamilies : My.XC K (D "InvalidFamilies")
  v_InvalidNumber : mg "InvalidNumber" = some (.ref (D "InvalidNumber"))
  x_InvalidNumber : My.XC K (D "InvalidNumber")
  v_MarkError : mg "MarkError" = some (.ref (D "MarkError"))
  x_MarkError : My.XC K (D "MarkError")
  v_TooMany : mg "TooMany" = some (.ref (D "TooMany"))
  x_TooMany : My.XC K (D "TooMany")
  kls : KlsOK K D kls
variable {P : Program} {w : World} {K : PySem.W.Frag} {mg : Str → Option Value} {base : Heap} {D : String → Addr}
local macro_rules | `(tactic| walk_at "s1") => `(tactic| first
  | with_reducible refine r_seq ?_ | with_reducible refine r_asg ?_ | with_reducible refine r_ret ?_ | with_reducible refine r_drop ?_ | with_reducible refine r_ifS ?_ | with_reducible refine r_par ?_
  | with_reducible refine r_nx ?_ | with_reducible refine r_rt ?_ | with_reducible refine r_bk ?_ | with_reducible refine r_ct ?_ | with_reducible refine r_next ?_
  | with_reducible refine r_op ?_ | with_reducible refine r_un ?_ | (focus ((with_reducible refine' r_var ?_ ?_); rotate_left; exact rfl)) | with_reducible refine r_c ?_
  | with_reducible refine r_test ?_ | with_reducible refine r_tB ?_ | with_reducible refine r_isbl ?_ | with_reducible refine r_and ?_ | with_reducible refine r_or ?_ | with_reducible refine r_not ?_
  | with_reducible refine r_I0 ?_ | with_reducible refine r_U ?_ | with_reducible refine r_eqI ?_ | with_reducible refine r_neI ?_
  | with_reducible refine r_nil ?_ | with_reducible refine r_cons ?_ | with_reducible refine r_tup ?_ | with_reducible refine r_lst ?_ | with_reducible refine r_call ?_ | with_reducible refine r_cb ?_
  | with_reducible refine r_andV ?_ | with_reducible refine r_orV ?_ | with_reducible refine r_notV ?_ | with_reducible refine r_chain ?_
  | with_reducible refine r_int ?_ | ((with_reducible refine r_name ?_); dsimp only [List.set]) | with_reducible refine r_sl ?_ | with_reducible refine r_sub ?_ | with_reducible refine r_gcons ?_ | with_reducible refine r_gnil ?_
  | ((with_reducible refine r_tuple2 ?_); dsimp only [List.set]) | with_reducible refine r_part ?_ | with_reducible refine r_nopart ?_ | with_reducible refine r_isint ?_ | with_reducible refine r_int2 ?_ | with_reducible refine r_for ?_ | with_reducible refine r_lc ?_ | with_reducible refine r_rng1 ?_ | with_reducible refine r_rng2 ?_ | with_reducible refine r_ilist ?_ | with_reducible refine r_itup ?_
  | with_reducible refine r_T ?_ | with_reducible refine r_F ?_ | with_reducible refine r_nT ?_ | with_reducible refine r_nF ?_ | with_reducible refine r_pow18 ?_ | with_reducible refine r_pow30 ?_ | with_reducible refine r_pow60 ?_ | with_reducible refine r_pow1200 ?_ | with_reducible refine r_mod (by omega) ?_ | with_reducible refine r_gcdN ?_ | with_reducible refine r_non ?_ | with_reducible refine r_neB ?_ | with_reducible refine r_eqB ?_ | with_reducible refine r_bm ?_ | with_reducible refine r_pow300 ?_ | with_reducible refine r_revL ?_ | dsimp only [cx_K])
local macro_rules | `(tactic| walk_at "st") => `(tactic| repeat walk_at "s1")
theorem cal__law_source (T : Txt K mg D)  : CalX P w K mg base 1 "_law_source" (spSource K) := by
  obtain ⟨f, fd, F, gF, b⟩ := T.f__law_source
  refine My.mkCalX F gF F.kp b sc__law_source (fun vs H Q E h => ?len) (fun cdv A outer s H vs Q E hr h tk => ?body)
  case len => (obtain ⟨_, _, rfl, _⟩ := h; rfl)
  case body =>
    refine ⟨_, (pss_cons (ps_set (i := 1) sc__law_source.nd rfl (Or.inl rfl) (pe_slice sl_list (pv 0) po_none (po_some pe_int)))
      (pss_cons (ps_for PassesOwn.leaving rfl (pi_range1 (by rfl) T.b_range (pa_cons (pe_callB call_len_seq (by rfl) T.b_len (by decide +kernel) (pa_cons (pv 1) pa_nil)) pa_nil)) (pg_name (i := 2) sc__law_source.nd rfl (Or.inl rfl))
      (pss_one (ps_if (pt_cmpR op_ge (pe_callB My.call_absI (by rfl) T.b_abs (by decide +kernel) (pa_cons (pe_ix ix_list (pv 1) (pv 2) (fun _ _ => rfl)) pa_nil)) (pe_op My.op_powW pe_int pe_int) (nomark _))
      (pss_one (ps_asg (pe_op op_mod (pe_callTy My.call_intI (by rfl) T.b_int (by decide +kernel) (pa_cons (pe_ix ix_list (pv 1) (pv 2) (fun _ _ => rfl)) pa_nil)) (pe_op My.op_powW (pe_op My.op_powW pe_int pe_int) pe_int)) (pg_sub (pv 1) (pv 2) set_list)))
      pss_nil)))
      (pss_cons (ps_if (pt_cmpR (op_eqD hr.units) (pv 1) (pe_lst pa_nil) (nomark _))
      (pss_one (ps_set (i := 1) sc__law_source.nd rfl (Or.inl rfl) (pe_lst (pa_cons pe_int pa_nil))))
      pss_nil)
      (pss_one (ps_ret (pe_lst (pa_cons (pv 1) (pa_cons pe_int pa_nil)))))))), ?_⟩
    obtain ⟨s0, ns, rfl, hS, hlen, q0⟩ := h
    have q : ∀ a c H', Same H H' → Src H' a c 0 → H a = none → H c = none → Q (.ref a) H' := fun a c H' sm sr _ _ => by
      obtain ⟨h1, ⟨ns, h2, h3, h4, h5⟩, h6, h7⟩ := sr
      exact q0 a c H' ⟨ns, 0⟩ sm (.inr ⟨a, c, rfl, h7.symm, h1, h2⟩) ⟨rfl, h3, h4, h5⟩
    refine My.r_start (σ := [some _, none, none]) rfl ?_; walk_at "st"
    refine r_slL hS fun c hc => ?_
    rw [cut63 (by simpa using hlen)]
    walk_at "st"
    refine r_lenL (.of upd_same) ?_
    walk_at "st"
    rw [List.length_map]
    refine r_rgL ns.length rfl (by omega) ?_
    refine loop_range (fun i σ' H' => ∃ (v : Option V) (ms : List Int), σ' = [some (.ref s0), some (.ref c), v] ∧ Same H H' ∧ H' c = some (.lst (ms.map V.int)) ∧ ms.length = ns.length ∧ ∀ j x, j < i → ms[j]? = some x → Bd x) ?_ ?_ ?_
    · exact ⟨none, ns, rfl, Same.new hc, upd_same, rfl, fun j x hj => absurd hj (Nat.not_lt_zero _)⟩
    · rintro i σ' H' hi ⟨v, ms, rfl, sm, hc', hl, hb⟩
      obtain ⟨x, hx⟩ := get_of (xs := ms) (j := i) (by omega)
      walk_at "st"
      refine r_ixL (.of hc') (atI_int hx) ?_
      walk_at "st"
      refine r_dec (fun g => ?_) (fun g => ?_)
      · walk_at "st"
        refine r_ixL (.of hc') (atI_int hx) ?_
        walk_at "st"
        refine r_mod e1200_pos ?_
        walk_at "st"
        refine r_setL hc' (ixN_nat (by rw [List.length_map]; omega)) ?_
        rw [map_set]
        refine ⟨_, _, rfl, fun b o e => ?_, upd_same, by rw [List.length_set]; exact hl, fun j y hj hy => ?_⟩
        · rw [upd_ne (ne_of_none e hc)]
          exact sm b o e
        · rw [List.getElem?_set] at hy
          by_cases hji : i = j
          · rw [if_pos hji, if_pos (by omega)] at hy
            have e := Option.some.inj hy
            rw [← e]
            exact bd_e1200 (Int.emod_nonneg _ (by have := e1200_pos; omega)) (Int.emod_lt_of_pos _ e1200_pos)
          · rw [if_neg hji] at hy
            exact hb j y (by omega) hy
      · walk_at "st"
        refine ⟨_, ms, rfl, sm, hc', hl, fun j y hj hy => ?_⟩
        by_cases hji : j = i
        · subst hji
          rw [hx] at hy
          have e := Option.some.inj hy
          subst e
          exact bd_small (by omega)
        · exact hb j y (by omega) hy
    · rintro σ' H' ⟨v, ms, rfl, sm, hc', hl, hb⟩
      walk_at "st"
      refine r_sz (by decide) fun p hp => ?_
      refine r_eqD (dp_ints ((Same.new hp).seq (.of hc'))) (dp_ints (ns := []) (.of upd_same)) shp_ints.ok shp_ints.ok ?_
      rw [eqv_list eqv_int]
      walk_at "st"
      refine r_dec (fun g => ?_) (fun g => ?_)
      · walk_at "st"
        refine r_sz (Nat.le_of_ble_eq_true rfl) fun c2 hc2 => ?_
        walk_at "st"
        refine r_sz (Nat.le_of_ble_eq_true rfl) fun a ha => ?_
        have hs0 : Same H (upd (upd H' p (.lst [])) c2 (.lst [.int 0])) := (sm.trans (Same.new hp)).trans (Same.new hc2)
        have hc20 : H c2 = none := (sm.trans (Same.new hp)).free hc2
        have ha0 : H a = none := hs0.free ha
        refine q a c2 _ (hs0.trans (Same.new ha)) ⟨upd_same, ⟨[0], ?_, by decide, by decide, fun n hn => ?_⟩, by decide, ne_of_none upd_same ha⟩ ha0 hc20
        · exact (Same.new ha) _ _ upd_same
        · rw [List.mem_singleton] at hn
          subst hn
          exact bd_small (by decide)
      · walk_at "st"
        refine r_sz (Nat.le_of_ble_eq_true rfl) fun a ha => ?_
        have hs0 : Same H (upd H' p (.lst [])) := sm.trans (Same.new hp)
        refine q a c _ (hs0.trans (Same.new ha)) ⟨upd_same, ⟨ms, ?_, ?_, by omega, fun n hn => ?_⟩, by decide, ne_of_none ((Same.new hp) _ _ hc') ha⟩ (hs0.free ha) hc
        · exact (Same.new ha) _ _ ((Same.new hp) _ _ hc')
        · exact List.length_pos_iff.mpr g
        · obtain ⟨j, hj⟩ := List.getElem?_of_mem hn
          have := (List.getElem?_eq_some_iff.mp hj).1
          exact hb j n (by omega) hj
theorem cal__law_draw (T : Txt K mg D)  : CalX P w K mg base 1 "_law_draw" (spS K D 1 F__law_draw) := by
  obtain ⟨f, fd, F, gF, b⟩ := T.f__law_draw
  refine My.mkCalX F gF F.kp b sc__law_draw (fun vs H Q E h => ?len) (fun cdv A outer s H vs Q E hr h tk => ?body)
  case len => exact spS_len h
  case body =>
    refine ⟨_, (pss_cons (ps_asg (pv 0) (pg_unl (by rfl) (pgs_cons (pg_name (i := 2) sc__law_draw.nd rfl (Or.inl rfl)) (pgs_cons (pg_name (i := 3) sc__law_draw.nd rfl (Or.inl rfl)) pgs_nil))))
      (pss_cons (ps_set (i := 4) sc__law_draw.nd rfl (Or.inl rfl) (pe_op op_mod (pe_callTy My.call_intI (by rfl) T.b_int (by decide +kernel) (pa_cons (pv 3) pa_nil)) (pe_callB call_len_seq (by rfl) T.b_len (by decide +kernel) (pa_cons (pv 2) pa_nil))))
      (pss_cons (ps_set (i := 5) sc__law_draw.nd rfl (Or.inl rfl) (pe_ix ix_list (pv 2) (pv 4) (fun _ _ => rfl)))
      (pss_cons (ps_asg (pe_op op_add (pv 3) pe_int) (pg_sub (pv 0) pe_int set_list))
      (pss_cons (ps_if (pt_cmpR op_ge (pv 5) (pe_op My.op_powW pe_int pe_int) (nomark _))
      (pss_cons (ps_asg (pe_op op_fdivW (pv 5) (pv 1)) (pg_sub (pv 2) (pv 4) set_list))
      (pss_one (ps_ret (pe_op op_mod (pe_callTy My.call_intI (by rfl) T.b_int (by decide +kernel) (pa_cons (pv 5) pa_nil)) (pv 1)))))
      pss_nil)
      (pss_cons (ps_set (i := 6) sc__law_draw.nd rfl (Or.inl rfl) (pe_op op_mod (pe_callTy My.call_intI (by rfl) T.b_int (by decide +kernel) (pa_cons (pe_op op_add (pe_op op_add (pe_op op_mulX (pe_op op_mod (pe_callTy My.call_intI (by rfl) T.b_int (by decide +kernel) (pa_cons (pv 5) pa_nil)) pe_int) pe_int) (pe_op op_mulX (pe_op op_mulX (pv 3) (pv 3)) pe_int)) pe_int) pa_nil)) pe_int))
      (pss_cons (ps_set (i := 6) sc__law_draw.nd rfl (Or.inl rfl) (pe_op op_mod (pe_callTy My.call_intI (by rfl) T.b_int (by decide +kernel) (pa_cons (pe_op op_mulX (pv 6) (pv 6)) pa_nil)) pe_int))
      (pss_cons (ps_set (i := 6) sc__law_draw.nd rfl (Or.inl rfl) (pe_op op_mod (pe_callTy My.call_intI (by rfl) T.b_int (by decide +kernel) (pa_cons (pe_op op_mulX (pv 6) (pv 6)) pa_nil)) pe_int))
      (pss_one (ps_ret (pe_op op_mod (pe_callTy My.call_intI (by rfl) T.b_int (by decide +kernel) (pa_cons (pv 6) pa_nil)) (pv 1)))))))))))), ?_⟩
    obtain ⟨a, c, ws, us, A, s0, rfl, hn0, ma, mc, hd, hsrc, r, q⟩ := h
    have hst : F__law_draw s0 us ≠ .stuck := fun z => by rw [z] at q; exact q
    obtain ⟨n, eus, hcnd⟩ := draw_ne hst
    subst eus
    have ews : ws = [.int n] := by
      cases r with
      | cons r1 r2 =>
        cases r1
        cases r2
        rfl
    subst ews
    obtain ⟨ns, t⟩ := s0
    obtain ⟨hn, hb, hpos, ht0, ht1⟩ := hcnd
    rcases hsrc with h0 | ⟨a', c', h0, hac, h1, h2⟩
    · cases h0
    cases h0
    have hac := hac.symm
    unfold F__law_draw at q
    simp only at q h1 h2 hpos ht0 ht1
    rw [if_pos (show drawC ⟨ns, t⟩ n from ⟨hn, hb, hpos, ht0, ht1⟩)] at q
    unfold drawF at q
    refine My.r_start (σ := [some _, some _, none, none, none, none, none]) rfl ?_; walk_at "st"
    refine r_gunl (.of h1) rfl ?_
    walk_at "st"
    refine r_lenL (.of h2) ?_
    walk_at "st"
    rw [List.length_map]
    walk_at "st"
    have hm0 : 0 ≤ t % (ns.length : Int) := Int.emod_nonneg _ (by omega)
    have hm1 : t % (ns.length : Int) < (ns.length : Int) := Int.emod_lt_of_pos _ (by omega)
    obtain ⟨j, hj⟩ : ∃ j : Nat, t % (ns.length : Int) = (j : Int) := ⟨(t % (ns.length : Int)).toNat, by omega⟩
    simp only [hj, Int.toNat_natCast] at q
    rw [hj] at hm1 ⊢
    obtain ⟨x, hx⟩ := get_of (xs := ns) (j := j) (by omega)
    simp only [hx] at q
    refine r_ixL (.of h2) (atI_int hx) ?_
    walk_at "st"
    refine r_setL h1 (j := 1) (by rfl) ?_
    walk_at "st"
    have k1 : Ext [a, c] H (upd H a (.lst ([V.ref c, .int t].set 1 (.int (t + 1))))) := ⟨fun b o hb1 e => by
      rw [upd_ne fun z => hb1 (by rw [z]; simp)]
      exact e, fun b e => upd_dom e⟩
    have e1 : upd H a (.lst ([V.ref c, .int t].set 1 (.int (t + 1)))) a = some (.lst [.ref c, .int (t + 1)]) := upd_same
    have e2 : upd H a (.lst ([V.ref c, .int t].set 1 (.int (t + 1)))) c = some (.lst (ns.map V.int)) := by
      rw [upd_ne hac]
      exact h2
    refine r_dec (fun g => ?_) (fun g => ?_)
    · rw [if_pos g] at q
      walk_at "st"
      refine r_div (div_bd hn hb) ?_
      walk_at "st"
      refine r_setL e2 (ixN_nat (by rw [List.length_map]; omega)) ?_
      walk_at "st"
      rw [map_set]
      refine q _ _ ⟨fun b o hb1 e => ?_, fun b e => upd_dom (upd_dom e)⟩ (.inr ⟨a, c, rfl, hac.symm, ?_, upd_same⟩) (.int _)
      · rw [upd_ne fun z => hb1 (by rw [z]; simp)]
        exact k1.1 b o hb1 e
      · rw [upd_ne hac.symm]
        exact e1
    · rw [if_neg g] at q
      have sm1 : ∀ (z : Int) (k : Int), 0 < k → k < 2147483648 → Sm (z % k) := fun z k hk hk2 => by
        have b1 := Int.emod_nonneg z (show k ≠ 0 by omega)
        have b2 := Int.emod_lt_of_pos z hk
        exact sm_small (by omega)
      have smt : Sm t := sm_small (by omega)
      have smtt : Sm (t * t) := by
        have ht2 : t.natAbs < 2 ^ 64 := by omega
        exact Nat.lt_trans (wide_lt ht2 ht2) (Nat.pow_lt_pow_right (by decide) (by decide))
      walk_at "st"
      refine r_mul (mul_sm (sm1 _ _ (by decide) (by decide)) (sm_small (by decide))) ?_
      walk_at "st"
      refine r_mul (mul_sm smt smt) ?_
      walk_at "st"
      refine r_mul (mul_sm smtt (sm_small (by decide))) ?_
      walk_at "st"
      refine r_mul (mul_sm (sm1 _ _ (by decide) (by decide)) (sm1 _ _ (by decide) (by decide))) ?_
      walk_at "st"
      refine r_mul (mul_sm (sm1 _ _ (by decide) (by decide)) (sm1 _ _ (by decide) (by decide))) ?_
      walk_at "st"
      exact q _ _ k1 (.inr ⟨a, c, rfl, hac.symm, e1, e2⟩) (.int _)

end My

set_option Elab.async false
set_option linter.all false
set_option maxRecDepth 100000
set_option maxHeartbeats 4000000
namespace My
open PySem PySem.Spec PyProof.Rows L2
open C8 (Cal pe_c pe_gc)
variable {P : Program} {w : World} {K : PySem.W.Frag} {mg : Str → Option Value} {base : Heap} {D : String → Addr}
theorem cal_is_integer (T : Txt K mg D)  : CalX P w K mg base 1 "is_integer" (spU K D 1 F_is_integer) :=
  calU T.f_is_integer sc_is_integer rfl rfl fun f cdv A outer s H E hr tk => ⟨_, [],
     (pss_one (ps_ret (pe_and (pe_callB (call_isiK (K := K)) (by rfl) T.b_isinstance (by decide +kernel) (pa_cons (pv 0) (pa_cons (pe_bltn (v := .ty "int") (by rfl) T.b_int (by decide +kernel) rfl) pa_nil))) (pe_one (pe_not (pe_callB (call_isiK (K := K)) (by rfl) T.b_isinstance (by decide +kernel) (pa_cons (pv 0) (pa_cons (pe_bltn (v := .ty "bool") (by rfl) T.b_bool (by decide +kernel) rfl) pa_nil)))))))),
     (sok_ret (eok_and (eok_sn (eok_cb ok_isi (aoks_cons (eok_sn (eok_var (by decide))) (aoks_cons (eok_sn (eok_c fun _ => .ty _)) aoks_nil)))) (eok_not (eok_sn (eok_cb ok_isi (aoks_cons (eok_sn (eok_var (by decide))) (aoks_cons (eok_sn (eok_c fun _ => .ty _)) aoks_nil)))))))⟩
theorem cal_is_natural (T : Txt K mg D) (c_is_integer : CalX P w K mg base 1 "is_integer" (spU K D 1 F_is_integer)) : CalX P w K mg base 2 "is_natural" (spU K D 1 F_is_natural) :=
  calU T.f_is_natural sc_is_natural rfl rfl fun f cdv A outer s H E hr tk => ⟨_, [],
     (pss_one (ps_ret (pe_and (My.pe_cx c_is_integer tk hr (by decide) (by rfl) (pa_cons (pv 0) pa_nil)) (pe_one (pe_cmpR op_ge (pv 0) pe_int (nomark _)))))),
     (sok_ret (eok_and (eok_sn (eok_call (aok_cons (eok_var (by decide)) aok_nil))) (eok_op ok_ge (eok_sn (eok_var (by decide))) (eok_sn (eok_c fun _ => .int _)))))⟩
theorem cal_common_multiple (T : Txt K mg D)  : CalX P w K mg base 1 "common_multiple" (spU K D 1 F_common_multiple) :=
  calU T.f_common_multiple sc_common_multiple rfl rfl fun f cdv A outer s H E hr tk => ⟨_, [],
     (pss_cons (ps_set (i := 1) sc_common_multiple.nd rfl (Or.inl rfl) pe_int)
      (pss_cons (ps_for PassesOwn.leaving rfl (pi_seqK (K := K) (pv 0)) (pg_name (i := 2) sc_common_multiple.nd rfl (Or.inl rfl))
      (pss_one (ps_set (i := 1) sc_common_multiple.nd rfl (Or.inl rfl) (pe_callBfun cr_lcm (by rfl) T.v_lcm (pa_cons (pv 1) (pa_cons (pv 2) pa_nil))))))
      (pss_one (ps_ret (pv 1))))),
     (sok_seq (sok_asg (eok_c fun _ => .int _) (tg_name ⟨by decide, by decide⟩))
      (sok_seq (sok_for (iok_seq (eok_var (by decide))) (tg_name ⟨by decide, by decide⟩) (sok_asg (eok_cb ok_lcm (aoks_cons (eok_sn (eok_var (by decide))) (aoks_cons (eok_sn (eok_var (by decide))) aoks_nil))) (tg_name ⟨by decide, by decide⟩)))
      (sok_ret (eok_var (by decide)))))⟩
theorem cal_fraction (T : Txt K mg D)  : CalX P w K mg base 1 "fraction" (spU K D 2 F_fraction) :=
  calU T.f_fraction sc_fraction rfl rfl fun f cdv A outer s H E hr tk => ⟨_, [],
     (pss_cons (ps_set (i := 2) sc_fraction.nd rfl (Or.inl rfl) (pe_callBfun cr_gcd (by rfl) T.v_gcd (pa_cons (pv 0) (pa_cons (pv 1) pa_nil))))
      (pss_one (ps_ret (pe_tup (pa_cons (pe_op op_fdivW (pv 0) (pv 2)) (pa_cons (pe_op op_fdivW (pv 1) (pv 2)) pa_nil)))))),
     (sok_seq (sok_asg (eok_cb ok_gcd (aoks_cons (eok_sn (eok_var (by decide))) (aoks_cons (eok_sn (eok_var (by decide))) aoks_nil))) (tg_name ⟨by decide, by decide⟩))
      (sok_ret (eok_tup (aok_cons (eok_op ok_div (eok_sn (eok_var (by decide))) (eok_sn (eok_var (by decide)))) (aok_cons (eok_op ok_div (eok_sn (eok_var (by decide))) (eok_sn (eok_var (by decide)))) aok_nil)))))⟩
theorem cal_within (T : Txt K mg D)  : CalX P w K mg base 1 "within" (spU K D 3 F_within) :=
  calU T.f_within sc_within rfl rfl fun f cdv A outer s H E hr tk => ⟨_, [],
     (pss_one (ps_ret (pe_callB (call_max2 rfl) (by rfl) T.b_max (by decide +kernel) (pa_cons (pv 1) (pa_cons (pe_callB (call_min2 rfl) (by rfl) T.b_min (by decide +kernel) (pa_cons (pv 0) (pa_cons (pv 2) pa_nil))) pa_nil))))),
     (sok_ret (eok_cb ok_max2 (aoks_cons (eok_sn (eok_var (by decide))) (aoks_cons (eok_sn (eok_cb ok_min2 (aoks_cons (eok_sn (eok_var (by decide))) (aoks_cons (eok_sn (eok_var (by decide))) aoks_nil)))) aoks_nil))))⟩
theorem cal_below_in_run (T : Txt K mg D) (c_within : CalX P w K mg base 1 "within" (spU K D 3 F_within)) : CalX P w K mg base 2 "below_in_run" (spU K D 3 F_below_in_run) :=
  calU T.f_below_in_run sc_below_in_run rfl rfl fun f cdv A outer s H E hr tk => ⟨_, [],
     (pss_cons (ps_asg (pv 0) (pg_tupK (K := K) (pg_tup (by rfl) (pgs_cons (pg_name (i := 3) sc_below_in_run.nd rfl (Or.inl rfl)) (pgs_cons (pg_name (i := 4) sc_below_in_run.nd rfl (Or.inl rfl)) pgs_nil)))))
      (pss_one (ps_ret (pe_op op_sub (pe_op (op_addAnyK (K := K)) (pe_op (op_mulAnyK (K := K)) (pe_op op_fdivW (pv 2) (pv 1)) (pe_op op_sub (pv 4) (pv 3))) (My.pe_cx c_within tk hr (by decide) (by rfl) (pa_cons (pe_op op_mod (pv 2) (pv 1)) (pa_cons (pv 3) (pa_cons (pv 4) pa_nil))))) (pv 3))))),
     (sok_seq (sok_asg (eok_var (by decide)) (tg_tup (gs_len_cons (gs_len_cons gs_len_nil)) (tgs_cons (tg_name ⟨by decide, by decide⟩) (tgs_cons (tg_name ⟨by decide, by decide⟩) tgs_nil))))
      (sok_ret (eok_op ok_sub (eok_sn (eok_op ok_add (eok_sn (eok_op ok_mul (eok_sn (eok_op ok_div (eok_sn (eok_var (by decide))) (eok_sn (eok_var (by decide))))) (eok_sn (eok_op ok_sub (eok_sn (eok_var (by decide))) (eok_sn (eok_var (by decide))))))) (eok_sn (eok_call (aok_cons (eok_op ok_mod (eok_sn (eok_var (by decide))) (eok_sn (eok_var (by decide)))) (aok_cons (eok_var (by decide)) (aok_cons (eok_var (by decide)) aok_nil))))))) (eok_sn (eok_var (by decide))))))⟩
theorem cal_window_of_one (T : Txt K mg D) (c_below_in_run : CalX P w K mg base 2 "below_in_run" (spU K D 3 F_below_in_run)) : CalX P w K mg base 3 "window_of_one" (spU K D 3 F_window_of_one) :=
  calU T.f_window_of_one sc_window_of_one rfl rfl fun f cdv A outer s H E hr tk => ⟨_, [],
     (pss_cons (ps_asg (pv 0) (pg_tupK (K := K) (pg_tup (by rfl) (pgs_cons (pg_name (i := 3) sc_window_of_one.nd rfl (by first | exact Or.inr rfl | exact Or.inl rfl)) (pgs_cons (pg_name (i := 4) sc_window_of_one.nd rfl (Or.inl rfl)) pgs_nil)))))
      (pss_one (ps_ret (pe_callB (cr_sumK (K := K) rfl) (by rfl) T.b_sum (by decide +kernel) (pa_cons (pe_lc (own := [("run", 5)]) (by rfl) sc_window_of_one.nd (pi_seqK (K := K) (pv 4)) (blkOk_by (own := [("run", 5)]) (N := nm_window_of_one) (sc := defScope s_window_of_one) (by decide +kernel)) (fun _ _ _ _ _ => (pg_name (i := 5) sc_window_of_one.nd rfl (Or.inl rfl))) (fun _ _ _ _ _ => pts_nil) (fun _ _ _ _ _ => (pe_op op_sub (My.pe_cx c_below_in_run takes0 hr (by decide) (by rfl) (pa_cons (pv 5) (pa_cons (pv 3) (pa_cons (pv 2) pa_nil)))) (My.pe_cx c_below_in_run takes0 hr (by decide) (by rfl) (pa_cons (pv 5) (pa_cons (pv 3) (pa_cons (pv 1) pa_nil))))))) pa_nil))))),
     (sok_seq (sok_asg (eok_var (by decide)) (tg_tup (gs_len_cons (gs_len_cons gs_len_nil)) (tgs_cons (tg_name ⟨by decide, by decide⟩) (tgs_cons (tg_name ⟨by decide, by decide⟩) tgs_nil))))
      (sok_ret (eok_cb ok_sum (aoks_cons (eok_sn (eok_of (fok_lc (vs := [5]) (by decide) (iok_seq (eok_var (by decide))) (tg_name ⟨by decide, by decide, by decide⟩) tok_yes (eok_op ok_sub (eok_sn (eok_call (aok_cons (eok_var (by decide)) (aok_cons (eok_var (by decide)) (aok_cons (eok_var (by decide)) aok_nil))))) (eok_sn (eok_call (aok_cons (eok_var (by decide)) (aok_cons (eok_var (by decide)) (aok_cons (eok_var (by decide)) aok_nil))))))))) aoks_nil))))⟩
theorem cal_window_of_two (T : Txt K mg D)  : CalX P w K mg base 1 "window_of_two" (spU K D 4 F_window_of_two) :=
  calU T.f_window_of_two sc_window_of_two rfl rfl fun f cdv A outer s H E hr tk => ⟨_, [],
     pss_stk,
     sok_stk⟩
theorem cal_count_in (T : Txt K mg D) (c_window_of_two : CalX P w K mg base 1 "window_of_two" (spU K D 4 F_window_of_two)) (c_window_of_one : CalX P w K mg base 3 "window_of_one" (spU K D 3 F_window_of_one)) : CalX P w K mg base 4 "count_in" (spU K D 3 F_count_in) :=
  calU T.f_count_in sc_count_in rfl rfl fun f cdv A outer s H E hr tk => ⟨_, [],
     (pss_cons (ps_if (pt_cmpR (op_eqDK (K := K) hr.units) (pe_callB (call_lenK (K := K)) (by rfl) T.b_len (by decide +kernel) (pa_cons (pv 0) pa_nil)) pe_int (nomark _))
      (pss_one (ps_ret (pe_op op_sub (pv 2) (pv 1))))
      pss_nil)
      (pss_cons (ps_if (pt_cmpR (op_eqDK (K := K) hr.units) (pe_callB (call_lenK (K := K)) (by rfl) T.b_len (by decide +kernel) (pa_cons (pv 0) pa_nil)) pe_int (nomark _))
      (pss_one (ps_ret (My.pe_cx c_window_of_one tk hr (by decide) (by rfl) (pa_cons (pe_ix (ix_anyK (K := K)) (pv 0) pe_int (fun _ _ => rfl)) (pa_cons (pv 1) (pa_cons (pv 2) pa_nil))))))
      pss_nil)
      (pss_one (ps_ret (My.pe_cx c_window_of_two tk hr (by decide) (by rfl) (pa_cons (pe_ix (ix_anyK (K := K)) (pv 0) pe_int (fun _ _ => rfl)) (pa_cons (pe_ix (ix_anyK (K := K)) (pv 0) pe_int (fun _ _ => rfl)) (pa_cons (pv 1) (pa_cons (pv 2) pa_nil))))))))),
     (sok_seq (sok_if (tok_valT (eok_sn (eok_op ok_eq (eok_sn (eok_cb ok_len (aoks_cons (eok_sn (eok_var (by decide))) aoks_nil))) (eok_sn (eok_c fun _ => .int _))))) (sok_ret (eok_op ok_sub (eok_sn (eok_var (by decide))) (eok_sn (eok_var (by decide))))) sok_nil)
      (sok_seq (sok_if (tok_valT (eok_sn (eok_op ok_eq (eok_sn (eok_cb ok_len (aoks_cons (eok_sn (eok_var (by decide))) aoks_nil))) (eok_sn (eok_c fun _ => .int _))))) (sok_ret (eok_call (aok_cons (eok_op ok_ix (eok_sn (eok_var (by decide))) (eok_sn (eok_c fun _ => .int _))) (aok_cons (eok_var (by decide)) (aok_cons (eok_var (by decide)) aok_nil))))) sok_nil)
      (sok_ret (eok_call (aok_cons (eok_op ok_ix (eok_sn (eok_var (by decide))) (eok_sn (eok_c fun _ => .int _))) (aok_cons (eok_op ok_ix (eok_sn (eok_var (by decide))) (eok_sn (eok_c fun _ => .int _))) (aok_cons (eok_var (by decide)) (aok_cons (eok_var (by decide)) aok_nil))))))))⟩
theorem cal_common_in_circle (T : Txt K mg D)  : CalX P w K mg base 1 "common_in_circle" (spU K D 3 F_common_in_circle) :=
  calU T.f_common_in_circle sc_common_in_circle rfl rfl fun f cdv A outer s H E hr tk => ⟨_, [],
     (pss_one (ps_ret (pe_callB (cr_sumK (K := K) rfl) (by rfl) T.b_sum (by decide +kernel) (pa_cons (pe_lc (own := [("turn", 3)]) (by rfl) sc_common_in_circle.nd (pi_seqK (K := K) (pe_tup (pa_cons (pe_un un_neg (pv 2)) (pa_cons pe_int (pa_cons (pv 2) pa_nil))))) (blkOk_by (own := [("turn", 3)]) (N := nm_common_in_circle) (sc := defScope s_common_in_circle) (by decide +kernel)) (fun _ _ _ _ _ => (pg_name (i := 3) sc_common_in_circle.nd rfl (Or.inl rfl))) (fun _ _ _ _ _ => pts_nil) (fun _ _ _ _ _ => (pe_callB (call_max2 rfl) (by rfl) T.b_max (by decide +kernel) (pa_cons pe_int (pa_cons (pe_op op_sub (pe_callB (call_min2 rfl) (by rfl) T.b_min (by decide +kernel) (pa_cons (pe_op (op_addAnyK (K := K)) (pe_ix (ix_anyK (K := K)) (pv 0) pe_int (fun _ _ => rfl)) (pe_ix (ix_anyK (K := K)) (pv 0) pe_int (fun _ _ => rfl))) (pa_cons (pe_op (op_addAnyK (K := K)) (pe_op (op_addAnyK (K := K)) (pe_ix (ix_anyK (K := K)) (pv 1) pe_int (fun _ _ => rfl)) (pe_ix (ix_anyK (K := K)) (pv 1) pe_int (fun _ _ => rfl))) (pv 3)) pa_nil))) (pe_callB (call_max2 rfl) (by rfl) T.b_max (by decide +kernel) (pa_cons (pe_ix (ix_anyK (K := K)) (pv 0) pe_int (fun _ _ => rfl)) (pa_cons (pe_op (op_addAnyK (K := K)) (pe_ix (ix_anyK (K := K)) (pv 1) pe_int (fun _ _ => rfl)) (pv 3)) pa_nil)))) pa_nil))))) pa_nil)))),
     (sok_ret (eok_cb ok_sum (aoks_cons (eok_sn (eok_of (fok_lc (vs := [3]) (by decide) (iok_seq (eok_tup (aok_cons (eok_un ok_neg (eok_sn (eok_var (by decide)))) (aok_cons (eok_c fun _ => .int _) (aok_cons (eok_var (by decide)) aok_nil))))) (tg_name ⟨by decide, by decide, by decide⟩) tok_yes (eok_cb ok_max2 (aoks_cons (eok_sn (eok_c fun _ => .int _)) (aoks_cons (eok_sn (eok_op ok_sub (eok_sn (eok_cb ok_min2 (aoks_cons (eok_sn (eok_op ok_add (eok_sn (eok_op ok_ix (eok_sn (eok_var (by decide))) (eok_sn (eok_c fun _ => .int _)))) (eok_sn (eok_op ok_ix (eok_sn (eok_var (by decide))) (eok_sn (eok_c fun _ => .int _)))))) (aoks_cons (eok_sn (eok_op ok_add (eok_sn (eok_op ok_add (eok_sn (eok_op ok_ix (eok_sn (eok_var (by decide))) (eok_sn (eok_c fun _ => .int _)))) (eok_sn (eok_op ok_ix (eok_sn (eok_var (by decide))) (eok_sn (eok_c fun _ => .int _)))))) (eok_sn (eok_var (by decide))))) aoks_nil)))) (eok_sn (eok_cb ok_max2 (aoks_cons (eok_sn (eok_op ok_ix (eok_sn (eok_var (by decide))) (eok_sn (eok_c fun _ => .int _)))) (aoks_cons (eok_sn (eok_op ok_add (eok_sn (eok_op ok_ix (eok_sn (eok_var (by decide))) (eok_sn (eok_c fun _ => .int _)))) (eok_sn (eok_var (by decide))))) aoks_nil)))))) aoks_nil)))))) aoks_nil)))⟩
theorem cal_pairs_of_runs (T : Txt K mg D) (c_common_in_circle : CalX P w K mg base 1 "common_in_circle" (spU K D 3 F_common_in_circle)) : CalX P w K mg base 2 "pairs_of_runs" (spU K D 3 F_pairs_of_runs) :=
  calU T.f_pairs_of_runs sc_pairs_of_runs rfl rfl fun f cdv A outer s H E hr tk => ⟨_, [],
     (pss_cons (ps_asg (pe_callB My.call_divmodB (by rfl) T.b_divmod (by decide +kernel) (pa_cons (pe_op op_sub (pe_ix (ix_anyK (K := K)) (pv 0) pe_int (fun _ _ => rfl)) (pe_ix (ix_anyK (K := K)) (pv 0) pe_int (fun _ _ => rfl))) (pa_cons (pv 2) pa_nil))) (pg_tupK (K := K) (pg_tup (by rfl) (pgs_cons (pg_name (i := 3) sc_pairs_of_runs.nd rfl (Or.inl rfl)) (pgs_cons (pg_name (i := 4) sc_pairs_of_runs.nd rfl (Or.inl rfl)) pgs_nil)))))
      (pss_cons (ps_asg (pe_callB My.call_divmodB (by rfl) T.b_divmod (by decide +kernel) (pa_cons (pe_op op_sub (pe_ix (ix_anyK (K := K)) (pv 1) pe_int (fun _ _ => rfl)) (pe_ix (ix_anyK (K := K)) (pv 1) pe_int (fun _ _ => rfl))) (pa_cons (pv 2) pa_nil))) (pg_tupK (K := K) (pg_tup (by rfl) (pgs_cons (pg_name (i := 5) sc_pairs_of_runs.nd rfl (Or.inl rfl)) (pgs_cons (pg_name (i := 6) sc_pairs_of_runs.nd rfl (Or.inl rfl)) pgs_nil)))))
      (pss_cons (ps_set (i := 7) sc_pairs_of_runs.nd rfl (Or.inl rfl) (My.pe_cx c_common_in_circle tk hr (by decide) (by rfl) (pa_cons (pe_tup (pa_cons (pe_op op_mod (pe_ix (ix_anyK (K := K)) (pv 0) pe_int (fun _ _ => rfl)) (pv 2)) (pa_cons (pv 4) pa_nil))) (pa_cons (pe_tup (pa_cons (pe_op op_mod (pe_ix (ix_anyK (K := K)) (pv 1) pe_int (fun _ _ => rfl)) (pv 2)) (pa_cons (pv 6) pa_nil))) (pa_cons (pv 2) pa_nil)))))
      (pss_one (ps_ret (pe_op (op_addAnyK (K := K)) (pe_op (op_addAnyK (K := K)) (pe_op (op_addAnyK (K := K)) (pe_op (op_mulAnyK (K := K)) (pe_op (op_mulAnyK (K := K)) (pv 3) (pv 5)) (pv 2)) (pe_op (op_mulAnyK (K := K)) (pv 3) (pv 6))) (pe_op (op_mulAnyK (K := K)) (pv 5) (pv 4))) (pv 7))))))),
     (sok_seq (sok_asg (eok_cb ok_divmod (aoks_cons (eok_sn (eok_op ok_sub (eok_sn (eok_op ok_ix (eok_sn (eok_var (by decide))) (eok_sn (eok_c fun _ => .int _)))) (eok_sn (eok_op ok_ix (eok_sn (eok_var (by decide))) (eok_sn (eok_c fun _ => .int _)))))) (aoks_cons (eok_sn (eok_var (by decide))) aoks_nil))) (tg_tup (gs_len_cons (gs_len_cons gs_len_nil)) (tgs_cons (tg_name ⟨by decide, by decide⟩) (tgs_cons (tg_name ⟨by decide, by decide⟩) tgs_nil))))
      (sok_seq (sok_asg (eok_cb ok_divmod (aoks_cons (eok_sn (eok_op ok_sub (eok_sn (eok_op ok_ix (eok_sn (eok_var (by decide))) (eok_sn (eok_c fun _ => .int _)))) (eok_sn (eok_op ok_ix (eok_sn (eok_var (by decide))) (eok_sn (eok_c fun _ => .int _)))))) (aoks_cons (eok_sn (eok_var (by decide))) aoks_nil))) (tg_tup (gs_len_cons (gs_len_cons gs_len_nil)) (tgs_cons (tg_name ⟨by decide, by decide⟩) (tgs_cons (tg_name ⟨by decide, by decide⟩) tgs_nil))))
      (sok_seq (sok_asg (eok_call (aok_cons (eok_tup (aok_cons (eok_op ok_mod (eok_sn (eok_op ok_ix (eok_sn (eok_var (by decide))) (eok_sn (eok_c fun _ => .int _)))) (eok_sn (eok_var (by decide)))) (aok_cons (eok_var (by decide)) aok_nil))) (aok_cons (eok_tup (aok_cons (eok_op ok_mod (eok_sn (eok_op ok_ix (eok_sn (eok_var (by decide))) (eok_sn (eok_c fun _ => .int _)))) (eok_sn (eok_var (by decide)))) (aok_cons (eok_var (by decide)) aok_nil))) (aok_cons (eok_var (by decide)) aok_nil)))) (tg_name ⟨by decide, by decide⟩))
      (sok_ret (eok_op ok_add (eok_sn (eok_op ok_add (eok_sn (eok_op ok_add (eok_sn (eok_op ok_mul (eok_sn (eok_op ok_mul (eok_sn (eok_var (by decide))) (eok_sn (eok_var (by decide))))) (eok_sn (eok_var (by decide))))) (eok_sn (eok_op ok_mul (eok_sn (eok_var (by decide))) (eok_sn (eok_var (by decide))))))) (eok_sn (eok_op ok_mul (eok_sn (eok_var (by decide))) (eok_sn (eok_var (by decide))))))) (eok_sn (eok_var (by decide))))))))⟩
theorem cal_common_period (T : Txt K mg D) (c_common_multiple : CalX P w K mg base 1 "common_multiple" (spU K D 1 F_common_multiple)) : CalX P w K mg base 2 "common_period" (spU K D 1 F_common_period) :=
  calU T.f_common_period sc_common_period rfl rfl fun f cdv A outer s H E hr tk => ⟨_, [],
     (pss_one (ps_ret (My.pe_cx c_common_multiple tk hr (by decide) (by rfl) (pa_cons (pe_lc (own := [("period", 1), ("_", 2)]) (by rfl) sc_common_period.nd (pi_seqK (K := K) (pv 0)) (blkOk_by (own := [("period", 1), ("_", 2)]) (N := nm_common_period) (sc := defScope s_common_period) (by decide +kernel)) (fun _ _ _ _ _ => (pg_tupK (K := K) (pg_tup (by rfl) (pgs_cons (pg_name (i := 1) sc_common_period.nd rfl (Or.inl rfl)) (pgs_cons (pg_name (i := 2) sc_common_period.nd rfl (Or.inl rfl)) pgs_nil))))) (fun _ _ _ _ _ => pts_nil) (fun _ _ _ _ _ => (pv 1))) pa_nil)))),
     (sok_ret (eok_call (aok_cons (eok_of (fok_lc (vs := [1, 2]) (by decide) (iok_seq (eok_var (by decide))) (tg_tup (gs_len_cons (gs_len_cons gs_len_nil)) (tgs_cons (tg_name ⟨by decide, by decide, by decide⟩) (tgs_cons (tg_name ⟨by decide, by decide, by decide⟩) tgs_nil))) tok_yes (eok_var (by decide)))) aok_nil)))⟩
theorem cal_count_in_period (T : Txt K mg D) (c_count_in : CalX P w K mg base 4 "count_in" (spU K D 3 F_count_in)) (c_common_period : CalX P w K mg base 2 "common_period" (spU K D 1 F_common_period)) (c_pairs_of_runs : CalX P w K mg base 2 "pairs_of_runs" (spU K D 3 F_pairs_of_runs)) : CalX P w K mg base 5 "count_in_period" (spU K D 1 F_count_in_period) :=
  calU T.f_count_in_period sc_count_in_period rfl rfl fun f cdv A outer s H E hr tk => ⟨_, [],
     (pss_cons (ps_if (pt_cmpR op_lt (pe_callB (call_lenK (K := K)) (by rfl) T.b_len (by decide +kernel) (pa_cons (pv 0) pa_nil)) pe_int (nomark _))
      (pss_one (ps_ret (My.pe_cx c_count_in tk hr (by decide) (by rfl) (pa_cons (pv 0) (pa_cons pe_int (pa_cons (My.pe_cx c_common_period tk hr (by decide) (by rfl) (pa_cons (pv 0) pa_nil)) pa_nil))))))
      pss_nil)
      (pss_cons (ps_asg (pv 0) (pg_unlK (K := K) (pg_unl (by rfl) (pgs_cons (pg_name (i := 1) sc_count_in_period.nd rfl (Or.inl rfl)) (pgs_cons (pg_name (i := 2) sc_count_in_period.nd rfl (by first | exact Or.inr rfl | exact Or.inl rfl)) pgs_nil)))))
      (pss_cons (ps_set (i := 3) sc_count_in_period.nd rfl (by first | exact Or.inr rfl | exact Or.inl rfl) (pe_callBfun cr_gcd (by rfl) T.v_gcd (pa_cons (pe_ix (ix_anyK (K := K)) (pv 1) pe_int (fun _ _ => rfl)) (pa_cons (pe_ix (ix_anyK (K := K)) (pv 2) pe_int (fun _ _ => rfl)) pa_nil))))
      (pss_one (ps_ret (pe_callB (cr_sumK (K := K) rfl) (by rfl) T.b_sum (by decide +kernel) (pa_cons (pe_lc2 (own := [("run", 4), ("inner", 5)]) (vs1 := [5]) (by rfl) sc_count_in_period.nd (pi_seqK (K := K) (pe_ix (ix_anyK (K := K)) (pv 1) pe_int (fun _ _ => rfl))) (blkOk_by (own := [("run", 4), ("inner", 5)]) (N := nm_count_in_period) (sc := defScope s_count_in_period) (by decide +kernel)) (by decide) (fun _ _ _ _ _ => (pg_name (i := 4) sc_count_in_period.nd rfl (Or.inl rfl))) (fun _ _ _ _ _ => pts_nil) (fun _ _ _ _ _ => (pi_seqK (K := K) (pe_ix (ix_anyK (K := K)) (pv 2) pe_int (fun _ _ => rfl)))) (fun _ _ _ _ _ => (pg_name (i := 5) sc_count_in_period.nd rfl (Or.inl rfl))) (fun _ _ _ _ _ => pts_nil) (fun _ _ _ _ _ => (My.pe_cx c_pairs_of_runs takes0 hr (by decide) (by rfl) (pa_cons (pv 4) (pa_cons (pv 5) (pa_cons (pv 3) pa_nil)))))) pa_nil))))))),
     (sok_seq (sok_if (tok_valT (eok_sn (eok_op ok_lt (eok_sn (eok_cb ok_len (aoks_cons (eok_sn (eok_var (by decide))) aoks_nil))) (eok_sn (eok_c fun _ => .int _))))) (sok_ret (eok_call (aok_cons (eok_var (by decide)) (aok_cons (eok_c fun _ => .int _) (aok_cons (eok_call (aok_cons (eok_var (by decide)) aok_nil)) aok_nil))))) sok_nil)
      (sok_seq (sok_asg (eok_var (by decide)) (tg_unl (gs_len_cons (gs_len_cons gs_len_nil)) (tgs_cons (tg_name ⟨by decide, by decide⟩) (tgs_cons (tg_name ⟨by decide, by decide⟩) tgs_nil))))
      (sok_seq (sok_asg (eok_cb ok_gcd (aoks_cons (eok_sn (eok_op ok_ix (eok_sn (eok_var (by decide))) (eok_sn (eok_c fun _ => .int _)))) (aoks_cons (eok_sn (eok_op ok_ix (eok_sn (eok_var (by decide))) (eok_sn (eok_c fun _ => .int _)))) aoks_nil))) (tg_name ⟨by decide, by decide⟩))
      (sok_ret (eok_cb ok_sum (aoks_cons (eok_sn (eok_of (fok_lc2 (vs := [4, 5]) (vs1 := [5]) (by decide) (by decide) (iok_seq (eok_op ok_ix (eok_sn (eok_var (by decide))) (eok_sn (eok_c fun _ => .int _)))) (tg_name ⟨by decide, by decide, by decide⟩) tok_yes (iok_seq (eok_op ok_ix (eok_sn (eok_var (by decide))) (eok_sn (eok_c fun _ => .int _)))) (tg_name ⟨by decide, by decide, by decide⟩) tok_yes (eok_call (aok_cons (eok_var (by decide)) (aok_cons (eok_var (by decide)) (aok_cons (eok_var (by decide)) aok_nil))))))) aoks_nil))))))⟩
theorem cal_period_of (T : Txt K mg D) (c_common_multiple : CalX P w K mg base 1 "common_multiple" (spU K D 1 F_common_multiple)) (c_common_period : CalX P w K mg base 2 "common_period" (spU K D 1 F_common_period)) : CalX P w K mg base 3 "period_of" (spU K D 1 F_period_of) :=
  calU T.f_period_of sc_period_of rfl rfl fun f cdv A outer s H E hr tk => ⟨_, [],
     (pss_one (ps_ret (My.pe_cx c_common_multiple tk hr (by decide) (by rfl) (pa_cons (pe_lc (own := [("_", 1), ("families", 2)]) (by rfl) sc_period_of.nd (pi_seqK (K := K) (pv 0)) (blkOk_by (own := [("_", 1), ("families", 2)]) (N := nm_period_of) (sc := defScope s_period_of) (by decide +kernel)) (fun _ _ _ _ _ => (pg_tupK (K := K) (pg_tup (by rfl) (pgs_cons (pg_name (i := 1) sc_period_of.nd rfl (Or.inl rfl)) (pgs_cons (pg_name (i := 2) sc_period_of.nd rfl (Or.inl rfl)) pgs_nil))))) (fun _ _ _ _ _ => pts_nil) (fun _ _ _ _ _ => (My.pe_cx c_common_period takes0 hr (by decide) (by rfl) (pa_cons (pv 2) pa_nil)))) pa_nil)))),
     (sok_ret (eok_call (aok_cons (eok_of (fok_lc (vs := [1, 2]) (by decide) (iok_seq (eok_var (by decide))) (tg_tup (gs_len_cons (gs_len_cons gs_len_nil)) (tgs_cons (tg_name ⟨by decide, by decide, by decide⟩) (tgs_cons (tg_name ⟨by decide, by decide, by decide⟩) tgs_nil))) tok_yes (eok_call (aok_cons (eok_var (by decide)) aok_nil)))) aok_nil)))⟩
theorem cal_whole_count (T : Txt K mg D) (c_count_in_period : CalX P w K mg base 5 "count_in_period" (spU K D 1 F_count_in_period)) (c_common_period : CalX P w K mg base 2 "common_period" (spU K D 1 F_common_period)) : CalX P w K mg base 6 "whole_count" (spU K D 2 F_whole_count) :=
  calU T.f_whole_count sc_whole_count rfl rfl fun f cdv A outer s H E hr tk => ⟨_, [],
     (pss_one (ps_ret (pe_callB (cr_sumK (K := K) rfl) (by rfl) T.b_sum (by decide +kernel) (pa_cons (pe_lc (own := [("factor", 2), ("families", 3)]) (by rfl) sc_whole_count.nd (pi_seqK (K := K) (pv 0)) (blkOk_by (own := [("factor", 2), ("families", 3)]) (N := nm_whole_count) (sc := defScope s_whole_count) (by decide +kernel)) (fun _ _ _ _ _ => (pg_tupK (K := K) (pg_tup (by rfl) (pgs_cons (pg_name (i := 2) sc_whole_count.nd rfl (Or.inl rfl)) (pgs_cons (pg_name (i := 3) sc_whole_count.nd rfl (Or.inl rfl)) pgs_nil))))) (fun _ _ _ _ _ => pts_nil) (fun _ _ _ _ _ => (pe_op (op_mulAnyK (K := K)) (pe_op (op_mulAnyK (K := K)) (pv 2) (My.pe_cx c_count_in_period takes0 hr (by decide) (by rfl) (pa_cons (pv 3) pa_nil))) (pe_op op_fdivW (pv 1) (My.pe_cx c_common_period takes0 hr (by decide) (by rfl) (pa_cons (pv 3) pa_nil)))))) pa_nil)))),
     (sok_ret (eok_cb ok_sum (aoks_cons (eok_sn (eok_of (fok_lc (vs := [2, 3]) (by decide) (iok_seq (eok_var (by decide))) (tg_tup (gs_len_cons (gs_len_cons gs_len_nil)) (tgs_cons (tg_name ⟨by decide, by decide, by decide⟩) (tgs_cons (tg_name ⟨by decide, by decide, by decide⟩) tgs_nil))) tok_yes (eok_op ok_mul (eok_sn (eok_op ok_mul (eok_sn (eok_var (by decide))) (eok_sn (eok_call (aok_cons (eok_var (by decide)) aok_nil))))) (eok_sn (eok_op ok_div (eok_sn (eok_var (by decide))) (eok_sn (eok_call (aok_cons (eok_var (by decide)) aok_nil))))))))) aoks_nil)))⟩
theorem cal_share_of_sum (T : Txt K mg D) (c_period_of : CalX P w K mg base 3 "period_of" (spU K D 1 F_period_of)) (c_fraction : CalX P w K mg base 1 "fraction" (spU K D 2 F_fraction)) (c_whole_count : CalX P w K mg base 6 "whole_count" (spU K D 2 F_whole_count)) : CalX P w K mg base 7 "share_of_sum" (spU K D 1 F_share_of_sum) :=
  calU T.f_share_of_sum sc_share_of_sum rfl rfl fun f cdv A outer s H E hr tk => ⟨_, [],
     (pss_cons (ps_set (i := 1) sc_share_of_sum.nd rfl (Or.inl rfl) (My.pe_cx c_period_of tk hr (by decide) (by rfl) (pa_cons (pv 0) pa_nil)))
      (pss_one (ps_ret (My.pe_cx c_fraction tk hr (by decide) (by rfl) (pa_cons (My.pe_cx c_whole_count tk hr (by decide) (by rfl) (pa_cons (pv 0) (pa_cons (pv 1) pa_nil))) (pa_cons (pv 1) pa_nil)))))),
     (sok_seq (sok_asg (eok_call (aok_cons (eok_var (by decide)) aok_nil)) (tg_name ⟨by decide, by decide⟩))
      (sok_ret (eok_call (aok_cons (eok_call (aok_cons (eok_var (by decide)) (aok_cons (eok_var (by decide)) aok_nil))) (aok_cons (eok_var (by decide)) aok_nil)))))⟩
theorem cal_below_of_sum (T : Txt K mg D)  : CalX P w K mg base 1 "below_of_sum" (spU K D 2 F_below_of_sum) :=
  calU T.f_below_of_sum sc_below_of_sum rfl rfl fun f cdv A outer s H E hr tk => ⟨_, [],
     pss_stk,
     sok_stk⟩
theorem cal_nth_of_sum (T : Txt K mg D)  : CalX P w K mg base 1 "nth_of_sum" (spU K D 2 F_nth_of_sum) :=
  calU T.f_nth_of_sum sc_nth_of_sum rfl rfl fun f cdv A outer s H E hr tk => ⟨_, [],
     pss_stk,
     sok_stk⟩
theorem cal_is_run (T : Txt K mg D) (c_is_integer : CalX P w K mg base 1 "is_integer" (spU K D 1 F_is_integer)) : CalX P w K mg base 2 "is_run" (spU K D 1 F_is_run) :=
  calU T.f_is_run sc_is_run rfl rfl fun f cdv A outer s H E hr tk => ⟨_, [],
     (pss_one (ps_ret (pe_and (pe_callB (call_isiK (K := K)) (by rfl) T.b_isinstance (by decide +kernel) (pa_cons (pv 0) (pa_cons (pe_bltn (v := .ty "tuple") (by rfl) T.b_tuple (by decide +kernel) rfl) pa_nil))) (pe_and (pe_cmpR (op_eqDK (K := K) hr.units) (pe_callB (call_lenK (K := K)) (by rfl) T.b_len (by decide +kernel) (pa_cons (pv 0) pa_nil)) pe_int (nomark _)) (pe_and (My.pe_cx c_is_integer tk hr (by decide) (by rfl) (pa_cons (pe_ix (ix_anyK (K := K)) (pv 0) pe_int (fun _ _ => rfl)) pa_nil)) (pe_one (My.pe_cx c_is_integer tk hr (by decide) (by rfl) (pa_cons (pe_ix (ix_anyK (K := K)) (pv 0) pe_int (fun _ _ => rfl)) pa_nil)))))))),
     (sok_ret (eok_and (eok_sn (eok_cb ok_isi (aoks_cons (eok_sn (eok_var (by decide))) (aoks_cons (eok_sn (eok_c fun _ => .ty _)) aoks_nil)))) (eok_and (eok_sn (eok_op ok_eq (eok_sn (eok_cb ok_len (aoks_cons (eok_sn (eok_var (by decide))) aoks_nil))) (eok_sn (eok_c fun _ => .int _)))) (eok_and (eok_sn (eok_call (aok_cons (eok_op ok_ix (eok_sn (eok_var (by decide))) (eok_sn (eok_c fun _ => .int _))) aok_nil))) (eok_call (aok_cons (eok_op ok_ix (eok_sn (eok_var (by decide))) (eok_sn (eok_c fun _ => .int _))) aok_nil))))))⟩
theorem cal_is_family (T : Txt K mg D) (c_is_integer : CalX P w K mg base 1 "is_integer" (spU K D 1 F_is_integer)) (c_is_run : CalX P w K mg base 2 "is_run" (spU K D 1 F_is_run)) : CalX P w K mg base 3 "is_family" (spU K D 1 F_is_family) :=
  calU T.f_is_family sc_is_family rfl rfl fun f cdv A outer s H E hr tk => ⟨_, [],
     (pss_cons (ps_if (PW.pt (pw_or (pt_not (pt_truthK (K := K) (pe_callB (call_isiK (K := K)) (by rfl) T.b_isinstance (by decide +kernel) (pa_cons (pv 0) (pa_cons (pe_bltn (v := .ty "tuple") (by rfl) T.b_tuple (by decide +kernel) rfl) pa_nil))) (fun _ => rfl))) (pw_or1 (pt_cmpR (op_neDK (K := K) hr.units) (pe_callB (call_lenK (K := K)) (by rfl) T.b_len (by decide +kernel) (pa_cons (pv 0) pa_nil)) pe_int (nomark _)))))
      (pss_one (ps_ret pe_bl))
      pss_nil)
      (pss_cons (ps_asg (pv 0) (pg_tupK (K := K) (pg_tup (by rfl) (pgs_cons (pg_name (i := 1) sc_is_family.nd rfl (Or.inl rfl)) (pgs_cons (pg_name (i := 2) sc_is_family.nd rfl (Or.inl rfl)) pgs_nil)))))
      (pss_cons (ps_if (PW.pt (pw_or (pt_not (pt_truthK (K := K) (My.pe_cx c_is_integer tk hr (by decide) (by rfl) (pa_cons (pv 1) pa_nil)) (fun _ => rfl))) (pw_or1 (pt_not (pt_chain op_le op_le pe_int (pv 1) (pe_gc (v := .int 1000000000000000000000000000000000000000000000000000000000000) (by rfl) T.v_GREATEST_PERIOD))))))
      (pss_one (ps_ret pe_bl))
      pss_nil)
      (pss_cons (ps_if (PW.pt (pw_or (pt_not (pt_truthK (K := K) (pe_callB (call_isiK (K := K)) (by rfl) T.b_isinstance (by decide +kernel) (pa_cons (pv 2) (pa_cons (pe_bltn (v := .ty "tuple") (by rfl) T.b_tuple (by decide +kernel) rfl) pa_nil))) (fun _ => rfl))) (pw_or (pt_cmpR op_gt (pe_callB (call_lenK (K := K)) (by rfl) T.b_len (by decide +kernel) (pa_cons (pv 2) pa_nil)) (pe_gc (v := .int 64) (by rfl) T.v_MOST_RUNS) (nomark _)) (pw_or1 (pt_not (pt_truthK (K := K) (pe_callB (cr_allK (K := K) rfl) (by rfl) T.b_all (by decide +kernel) (pa_cons (pe_lc (own := [("run", 7)]) (by rfl) sc_is_family.nd (pi_seqK (K := K) (pv 2)) (blkOk_by (own := [("run", 7)]) (N := nm_is_family) (sc := defScope s_is_family) (by decide +kernel)) (fun _ _ _ _ _ => (pg_name (i := 7) sc_is_family.nd rfl (Or.inl rfl))) (fun _ _ _ _ _ => pts_nil) (fun _ _ _ _ _ => (My.pe_cx c_is_run takes0 hr (by decide) (by rfl) (pa_cons (pv 7) pa_nil)))) pa_nil)) (fun _ => rfl)))))))
      (pss_one (ps_ret pe_bl))
      pss_nil)
      (pss_cons (ps_set (i := 3) sc_is_family.nd rfl (Or.inl rfl) (pe_op (op_addAnyK (K := K)) (pe_lst (pa_cons (pe_un un_neg pe_int) pa_nil)) (pe_lc (own := [("_", 4), ("end", 5)]) (by rfl) sc_is_family.nd (pi_seqK (K := K) (pv 2)) (blkOk_by (own := [("_", 4), ("end", 5)]) (N := nm_is_family) (sc := defScope s_is_family) (by decide +kernel)) (fun _ _ _ _ _ => (pg_tupK (K := K) (pg_tup (by rfl) (pgs_cons (pg_name (i := 4) sc_is_family.nd rfl (Or.inl rfl)) (pgs_cons (pg_name (i := 5) sc_is_family.nd rfl (Or.inl rfl)) pgs_nil))))) (fun _ _ _ _ _ => pts_nil) (fun _ _ _ _ _ => (pv 5)))))
      (pss_one (ps_ret (pe_and (pe_cmpR op_le (pe_ix (ix_anyK (K := K)) (pv 3) (pe_un un_neg pe_int) (fun _ _ => rfl)) (pv 1) (nomark _)) (pe_one (pe_callB (cr_allK (K := K) rfl) (by rfl) T.b_all (by decide +kernel) (pa_cons (pe_lc (own := [("ahead", 6), ("run", 7)]) (by rfl) sc_is_family.nd (pi_zipK (K := K) (by rfl) T.b_zip (pa_cons (pv 3) (pa_cons (pv 2) pa_nil))) (blkOk_by (own := [("ahead", 6), ("run", 7)]) (N := nm_is_family) (sc := defScope s_is_family) (by decide +kernel)) (fun _ _ _ _ _ => (pg_tupK (K := K) (pg_tup (by rfl) (pgs_cons (pg_name (i := 6) sc_is_family.nd rfl (Or.inl rfl)) (pgs_cons (pg_name (i := 7) sc_is_family.nd rfl (Or.inl rfl)) pgs_nil))))) (fun _ _ _ _ _ => pts_nil) (fun _ _ _ _ _ => (pe_chain op_lt op_lt (pv 6) (pe_ix (ix_anyK (K := K)) (pv 7) pe_int (fun _ _ => rfl)) (pe_ix (ix_anyK (K := K)) (pv 7) pe_int (fun _ _ => rfl))))) pa_nil))))))))))),
     (sok_seq (sok_if (tok_or (tok_not (tok_tru (eok_sn (eok_cb ok_isi (aoks_cons (eok_sn (eok_var (by decide))) (aoks_cons (eok_sn (eok_c fun _ => .ty _)) aoks_nil)))))) (tok_valT (eok_sn (eok_op ok_ne (eok_sn (eok_cb ok_len (aoks_cons (eok_sn (eok_var (by decide))) aoks_nil))) (eok_sn (eok_c fun _ => .int _)))))) (sok_ret (eok_c fun _ => .bl _)) sok_nil)
      (sok_seq (sok_asg (eok_var (by decide)) (tg_tup (gs_len_cons (gs_len_cons gs_len_nil)) (tgs_cons (tg_name ⟨by decide, by decide⟩) (tgs_cons (tg_name ⟨by decide, by decide⟩) tgs_nil))))
      (sok_seq (sok_if (tok_or (tok_not (tok_tru (eok_sn (eok_call (aok_cons (eok_var (by decide)) aok_nil))))) (tok_not (tok_valT (eok_sn (eok_chain ok_le ok_le (eok_sn (eok_c fun _ => .int _)) (eok_sn (eok_var (by decide))) (eok_sn (eok_c fun _ => .int _))))))) (sok_ret (eok_c fun _ => .bl _)) sok_nil)
      (sok_seq (sok_if (tok_or (tok_not (tok_tru (eok_sn (eok_cb ok_isi (aoks_cons (eok_sn (eok_var (by decide))) (aoks_cons (eok_sn (eok_c fun _ => .ty _)) aoks_nil)))))) (tok_or (tok_valT (eok_sn (eok_op ok_gt (eok_sn (eok_cb ok_len (aoks_cons (eok_sn (eok_var (by decide))) aoks_nil))) (eok_sn (eok_c fun _ => .int _))))) (tok_not (tok_tru (eok_sn (eok_cb ok_all (aoks_cons (eok_sn (eok_of (fok_lc (vs := [7]) (by decide) (iok_seq (eok_var (by decide))) (tg_name ⟨by decide, by decide, by decide⟩) tok_yes (eok_call (aok_cons (eok_var (by decide)) aok_nil))))) aoks_nil))))))) (sok_ret (eok_c fun _ => .bl _)) sok_nil)
      (sok_seq (sok_asg (eok_op ok_add (eok_sn (eok_of (fok_lst (aok_cons (eok_un ok_neg (eok_sn (eok_c fun _ => .int _))) aok_nil)))) (eok_sn (eok_of (fok_lc (vs := [4, 5]) (by decide) (iok_seq (eok_var (by decide))) (tg_tup (gs_len_cons (gs_len_cons gs_len_nil)) (tgs_cons (tg_name ⟨by decide, by decide, by decide⟩) (tgs_cons (tg_name ⟨by decide, by decide, by decide⟩) tgs_nil))) tok_yes (eok_var (by decide)))))) (tg_name ⟨by decide, by decide⟩))
      (sok_ret (eok_and (eok_sn (eok_op ok_le (eok_sn (eok_op ok_ix (eok_sn (eok_var (by decide))) (eok_sn (eok_un ok_neg (eok_sn (eok_c fun _ => .int _)))))) (eok_sn (eok_var (by decide))))) (eok_cb ok_all (aoks_cons (eok_sn (eok_of (fok_lc (vs := [6, 7]) (by decide) (iok_zip (eok_var (by decide)) (eok_var (by decide))) (tg_tup (gs_len_cons (gs_len_cons gs_len_nil)) (tgs_cons (tg_name ⟨by decide, by decide, by decide⟩) (tgs_cons (tg_name ⟨by decide, by decide, by decide⟩) tgs_nil))) tok_yes (eok_chain ok_lt ok_lt (eok_sn (eok_var (by decide))) (eok_sn (eok_op ok_ix (eok_sn (eok_var (by decide))) (eok_sn (eok_c fun _ => .int _)))) (eok_sn (eok_op ok_ix (eok_sn (eok_var (by decide))) (eok_sn (eok_c fun _ => .int _)))))))) aoks_nil)))))))))⟩
theorem cal_check_families (T : Txt K mg D) (c_is_family : CalX P w K mg base 3 "is_family" (spU K D 1 F_is_family)) : CalX P w K mg base 4 "check_families" (spU K D 2 F_check_families) :=
  calU T.f_check_families sc_check_families rfl rfl fun f cdv A outer s H E hr tk => ⟨_, [],
     (pss_cons (ps_if (PW.pt (pw_or (pt_not (pt_truthK (K := K) (pe_callB (call_isiK (K := K)) (by rfl) T.b_isinstance (by decide +kernel) (pa_cons (pv 0) (pa_cons (pe_bltn (v := .ty "list") (by rfl) T.b_list (by decide +kernel) rfl) pa_nil))) (fun _ => rfl))) (pw_or1 (pt_not (pt_chain op_le op_le pe_int (pe_callB (call_lenK (K := K)) (by rfl) T.b_len (by decide +kernel) (pa_cons (pv 0) pa_nil)) (pe_gc (v := .int 2) (by rfl) T.v_MOST_FAMILIES))))))
      (pss_one (ps_raise rfl tk (SkE.pmk_own1 PySem.F.excBase_ValueError T.x_InvalidFamilies.exc T.v_InvalidFamilies T.x_InvalidFamilies.keep T.x_InvalidFamilies.raises (by rfl) pe_str)))
      pss_nil)
      (pss_cons (ps_if (pt_not (pt_truthK (K := K) (pe_callB (cr_allK (K := K) rfl) (by rfl) T.b_all (by decide +kernel) (pa_cons (pe_lc (own := [("family", 2)]) (by rfl) sc_check_families.nd (pi_seqK (K := K) (pv 0)) (blkOk_by (own := [("family", 2)]) (N := nm_check_families) (sc := defScope s_check_families) (by decide +kernel)) (fun _ _ _ _ _ => (pg_name (i := 2) sc_check_families.nd rfl (Or.inl rfl))) (fun _ _ _ _ _ => pts_nil) (fun _ _ _ _ _ => (My.pe_cx c_is_family takes0 hr (by decide) (by rfl) (pa_cons (pv 2) pa_nil)))) pa_nil)) (fun _ => rfl)))
      (pss_one (ps_raise rfl tk (SkE.pmk_own1 PySem.F.excBase_ValueError T.x_InvalidFamilies.exc T.v_InvalidFamilies T.x_InvalidFamilies.keep T.x_InvalidFamilies.raises (by rfl) pe_str)))
      pss_nil)
      (pss_one (ps_if (PW.pt (pw_and (pt_cmpR (op_eqDK (K := K) hr.units) (pe_callB (call_lenK (K := K)) (by rfl) T.b_len (by decide +kernel) (pa_cons (pv 0) pa_nil)) pe_int (nomark _)) (pw_and1 (pt_cmpR op_gt (pe_op (op_mulAnyK (K := K)) (pe_callB (call_lenK (K := K)) (by rfl) T.b_len (by decide +kernel) (pa_cons (pe_ix (ix_anyK (K := K)) (pe_ix (ix_anyK (K := K)) (pv 0) pe_int (fun _ _ => rfl)) pe_int (fun _ _ => rfl)) pa_nil)) (pe_callB (call_lenK (K := K)) (by rfl) T.b_len (by decide +kernel) (pa_cons (pe_ix (ix_anyK (K := K)) (pe_ix (ix_anyK (K := K)) (pv 0) pe_int (fun _ _ => rfl)) pe_int (fun _ _ => rfl)) pa_nil))) (pv 1) (nomark _)))))
      (pss_one (ps_raise rfl tk (SkE.pmk_own1 PySem.F.excBase_ValueError T.x_TooMany.exc T.v_TooMany T.x_TooMany.keep T.x_TooMany.raises (by rfl) (pe_joined (PJ.cons pe_str (PJ.cons (pe_fmt (pv 1)) PJ.nil))))))
      pss_nil)))),
     (sok_seq (sok_if (tok_or (tok_not (tok_tru (eok_sn (eok_cb ok_isi (aoks_cons (eok_sn (eok_var (by decide))) (aoks_cons (eok_sn (eok_c fun _ => .ty _)) aoks_nil)))))) (tok_not (tok_valT (eok_sn (eok_chain ok_le ok_le (eok_sn (eok_c fun _ => .int _)) (eok_sn (eok_cb ok_len (aoks_cons (eok_sn (eok_var (by decide))) aoks_nil))) (eok_sn (eok_c fun _ => .int _))))))) (sok_raise (eok_c fun _ => .str _)) sok_nil)
      (sok_seq (sok_if (tok_not (tok_tru (eok_sn (eok_cb ok_all (aoks_cons (eok_sn (eok_of (fok_lc (vs := [2]) (by decide) (iok_seq (eok_var (by decide))) (tg_name ⟨by decide, by decide, by decide⟩) tok_yes (eok_call (aok_cons (eok_var (by decide)) aok_nil))))) aoks_nil))))) (sok_raise (eok_c fun _ => .str _)) sok_nil)
      (sok_if (tok_and (tok_valT (eok_sn (eok_op ok_eq (eok_sn (eok_cb ok_len (aoks_cons (eok_sn (eok_var (by decide))) aoks_nil))) (eok_sn (eok_c fun _ => .int _))))) (tok_valT (eok_sn (eok_op ok_gt (eok_sn (eok_op ok_mul (eok_sn (eok_cb ok_len (aoks_cons (eok_sn (eok_op ok_ix (eok_sn (eok_op ok_ix (eok_sn (eok_var (by decide))) (eok_sn (eok_c fun _ => .int _)))) (eok_sn (eok_c fun _ => .int _)))) aoks_nil))) (eok_sn (eok_cb ok_len (aoks_cons (eok_sn (eok_op ok_ix (eok_sn (eok_op ok_ix (eok_sn (eok_var (by decide))) (eok_sn (eok_c fun _ => .int _)))) (eok_sn (eok_c fun _ => .int _)))) aoks_nil))))) (eok_sn (eok_var (by decide))))))) (sok_raise (eok_join (rj_cons (eok_sn (eok_c fun _ => .str _)) (rj_cons (eok_sn (eok_fmt (eok_sn (eok_var (by decide))))) rj_nil)))) sok_nil)))⟩
theorem cal_below (T : Txt K mg D) (c_check_families : CalX P w K mg base 4 "check_families" (spU K D 2 F_check_families)) (c_below_of_sum : CalX P w K mg base 1 "below_of_sum" (spU K D 2 F_below_of_sum)) (c_is_natural : CalX P w K mg base 2 "is_natural" (spU K D 1 F_is_natural)) : CalX P w K mg base 5 "below" (spU K D 2 F_below) :=
  calU T.f_below sc_below rfl rfl fun f cdv A outer s H E hr tk => ⟨_, [],
     (pss_cons (ps_expr (My.pe_cx c_check_families tk hr (by decide) (by rfl) (pa_cons (pv 0) (pa_cons (pe_gc (v := .int 64) (by rfl) T.v_MOST_PAIRS) pa_nil))))
      (pss_cons (ps_if (pt_not (pt_truthK (K := K) (My.pe_cx c_is_natural tk hr (by decide) (by rfl) (pa_cons (pv 1) pa_nil)) (fun _ => rfl)))
      (pss_one (ps_raise rfl tk (SkE.pmk_own1 PySem.F.excBase_ValueError T.x_InvalidNumber.exc T.v_InvalidNumber T.x_InvalidNumber.keep T.x_InvalidNumber.raises (by rfl) pe_str)))
      pss_nil)
      (pss_one (ps_ret (My.pe_cx c_below_of_sum tk hr (by decide) (by rfl) (pa_cons (pe_lst (pa_cons (pe_tup (pa_cons pe_int (pa_cons (pv 0) pa_nil))) pa_nil)) (pa_cons (pv 1) pa_nil))))))),
     (sok_seq (sok_drop1 (eok_call (aok_cons (eok_var (by decide)) (aok_cons (eok_c fun _ => .int _) aok_nil))))
      (sok_seq (sok_if (tok_not (tok_tru (eok_sn (eok_call (aok_cons (eok_var (by decide)) aok_nil))))) (sok_raise (eok_c fun _ => .str _)) sok_nil)
      (sok_ret (eok_call (aok_cons (eok_of (fok_lst (aok_cons (eok_tup (aok_cons (eok_c fun _ => .int _) (aok_cons (eok_var (by decide)) aok_nil))) aok_nil))) (aok_cons (eok_var (by decide)) aok_nil))))))⟩
theorem cal_common_share (T : Txt K mg D) (c_check_families : CalX P w K mg base 4 "check_families" (spU K D 2 F_check_families)) (c_share_of_sum : CalX P w K mg base 7 "share_of_sum" (spU K D 1 F_share_of_sum)) : CalX P w K mg base 8 "common_share" (spU K D 1 F_common_share) :=
  calU T.f_common_share sc_common_share rfl rfl fun f cdv A outer s H E hr tk => ⟨_, [],
     (pss_cons (ps_expr (My.pe_cx c_check_families tk hr (by decide) (by rfl) (pa_cons (pv 0) (pa_cons (pe_gc (v := .int 64) (by rfl) T.v_MOST_PAIRS) pa_nil))))
      (pss_one (ps_ret (My.pe_cx c_share_of_sum tk hr (by decide) (by rfl) (pa_cons (pe_lst (pa_cons (pe_tup (pa_cons pe_int (pa_cons (pv 0) pa_nil))) pa_nil)) pa_nil))))),
     (sok_seq (sok_drop1 (eok_call (aok_cons (eok_var (by decide)) (aok_cons (eok_c fun _ => .int _) aok_nil))))
      (sok_ret (eok_call (aok_cons (eok_of (fok_lst (aok_cons (eok_tup (aok_cons (eok_c fun _ => .int _) (aok_cons (eok_var (by decide)) aok_nil))) aok_nil))) aok_nil))))⟩
theorem cal_nth (T : Txt K mg D) (c_check_families : CalX P w K mg base 4 "check_families" (spU K D 2 F_check_families)) (c_nth_of_sum : CalX P w K mg base 1 "nth_of_sum" (spU K D 2 F_nth_of_sum)) (c_is_natural : CalX P w K mg base 2 "is_natural" (spU K D 1 F_is_natural)) (c_common_share : CalX P w K mg base 8 "common_share" (spU K D 1 F_common_share)) : CalX P w K mg base 9 "nth" (spU K D 2 F_nth) :=
  calU T.f_nth sc_nth rfl rfl fun f cdv A outer s H E hr tk => ⟨_, [],
     (pss_cons (ps_expr (My.pe_cx c_check_families tk hr (by decide) (by rfl) (pa_cons (pv 0) (pa_cons (pe_gc (v := .int 4) (by rfl) T.v_MOST_PAIRS_OF_NTH) pa_nil))))
      (pss_cons (ps_if (pt_not (pt_truthK (K := K) (My.pe_cx c_is_natural tk hr (by decide) (by rfl) (pa_cons (pv 1) pa_nil)) (fun _ => rfl)))
      (pss_one (ps_raise rfl tk (SkE.pmk_own1 PySem.F.excBase_ValueError T.x_InvalidNumber.exc T.v_InvalidNumber T.x_InvalidNumber.keep T.x_InvalidNumber.raises (by rfl) pe_str)))
      pss_nil)
      (pss_cons (ps_if (pt_cmpR (op_eqDK (K := K) hr.units) (pe_ix (ix_anyK (K := K)) (My.pe_cx c_common_share tk hr (by decide) (by rfl) (pa_cons (pv 0) pa_nil)) pe_int (fun _ _ => rfl)) pe_int (nomark _))
      (pss_one (ps_raise rfl tk (SkE.pmk_own1 PySem.F.excBase_ValueError T.x_InvalidNumber.exc T.v_InvalidNumber T.x_InvalidNumber.keep T.x_InvalidNumber.raises (by rfl) pe_str)))
      pss_nil)
      (pss_one (ps_ret (My.pe_cx c_nth_of_sum tk hr (by decide) (by rfl) (pa_cons (pe_lst (pa_cons (pe_tup (pa_cons pe_int (pa_cons (pv 0) pa_nil))) pa_nil)) (pa_cons (pv 1) pa_nil)))))))),
     (sok_seq (sok_drop1 (eok_call (aok_cons (eok_var (by decide)) (aok_cons (eok_c fun _ => .int _) aok_nil))))
      (sok_seq (sok_if (tok_not (tok_tru (eok_sn (eok_call (aok_cons (eok_var (by decide)) aok_nil))))) (sok_raise (eok_c fun _ => .str _)) sok_nil)
      (sok_seq (sok_if (tok_valT (eok_sn (eok_op ok_eq (eok_sn (eok_op ok_ix (eok_sn (eok_call (aok_cons (eok_var (by decide)) aok_nil))) (eok_sn (eok_c fun _ => .int _)))) (eok_sn (eok_c fun _ => .int _))))) (sok_raise (eok_c fun _ => .str _)) sok_nil)
      (sok_ret (eok_call (aok_cons (eok_of (fok_lst (aok_cons (eok_tup (aok_cons (eok_c fun _ => .int _) (aok_cons (eok_var (by decide)) aok_nil))) aok_nil))) (aok_cons (eok_var (by decide)) aok_nil)))))))⟩
theorem cal__law_ten (T : Txt K mg D)  : CalX P w K mg base 1 "_law_ten" (spU K D 1 F__law_ten) :=
  calU T.f__law_ten sc__law_ten rfl rfl fun f cdv A outer s H E hr tk => ⟨_, [],
     (pss_cons (ps_set (i := 1) sc__law_ten.nd rfl (Or.inl rfl) pe_int)
      (pss_cons (ps_for PassesOwn.leaving rfl (pi_range1 (by rfl) T.b_range (pa_cons (pv 0) pa_nil)) (pg_name (i := 2) sc__law_ten.nd rfl (Or.inl rfl))
      (pss_one (ps_set (i := 1) sc__law_ten.nd rfl (Or.inl rfl) (pe_op (op_mulAnyK (K := K)) (pv 1) pe_int))))
      (pss_one (ps_ret (pv 1))))),
     (sok_seq (sok_asg (eok_c fun _ => .int _) (tg_name ⟨by decide, by decide⟩))
      (sok_seq (sok_for (iok_rng1 (aoks_cons (eok_sn (eok_var (by decide))) aoks_nil)) (tg_name ⟨by decide, by decide⟩) (sok_asg (eok_op ok_mul (eok_sn (eok_var (by decide))) (eok_sn (eok_c fun _ => .int _))) (tg_name ⟨by decide, by decide⟩)))
      (sok_ret (eok_var (by decide)))))⟩
theorem cal__law_pick (T : Txt K mg D) (c__law_draw : CalX P w K mg base 1 "_law_draw" (spS K D 1 F__law_draw)) : CalX P w K mg base 2 "_law_pick" (spS K D 1 F__law_pick) :=
  calS T.f__law_pick sc__law_pick rfl rfl fun f cdv A outer s H E hr tk => ⟨_, [],
     (pss_one (ps_ret (pe_ix (ix_anyK (K := K)) (pv 1) (My.pe_cx c__law_draw tk hr (by decide) (by rfl) (pa_cons (pv 0) (pa_cons (pe_callB (call_lenK (K := K)) (by rfl) T.b_len (by decide +kernel) (pa_cons (pv 1) pa_nil)) pa_nil))) (fun _ _ => rfl)))),
     (sok_ret (eok_op ok_ix (eok_sn (eok_var (by decide))) (eok_sn (eok_callS (aok_cons (eok_cb ok_len (aoks_cons (eok_sn (eok_var (by decide))) aoks_nil)) aok_nil)))))⟩
theorem cal__law_great (T : Txt K mg D) (c__law_draw : CalX P w K mg base 1 "_law_draw" (spS K D 1 F__law_draw)) : CalX P w K mg base 2 "_law_great" (spS K D 1 F__law_great) :=
  calS T.f__law_great sc__law_great rfl rfl fun f cdv A outer s H E hr tk => ⟨_, [],
     (pss_cons (ps_set (i := 2) sc__law_great.nd rfl (Or.inl rfl) pe_int)
      (pss_cons (ps_for PassesOwn.leaving rfl (pi_range1 (by rfl) T.b_range (pa_cons pe_int pa_nil)) (pg_name (i := 3) sc__law_great.nd rfl (Or.inl rfl))
      (pss_one (ps_set (i := 2) sc__law_great.nd rfl (Or.inl rfl) (pe_op (op_addAnyK (K := K)) (pe_op (op_mulAnyK (K := K)) (pv 2) (pe_op My.op_powW pe_int pe_int)) (My.pe_cx c__law_draw tk hr (by decide) (by rfl) (pa_cons (pv 0) (pa_cons (pe_op My.op_powW pe_int pe_int) pa_nil)))))))
      (pss_one (ps_ret (pe_op op_mod (pe_callTy call_intAny (by rfl) T.b_int (by decide +kernel) (pa_cons (pv 2) pa_nil)) (pv 1)))))),
     (sok_seq (sok_asg (eok_c fun _ => .int _) (tg_name ⟨by decide, by decide⟩))
      (sok_seq (sok_for (iok_rng1 (aoks_cons (eok_sn (eok_c fun _ => .int _)) aoks_nil)) (tg_name ⟨by decide, by decide⟩) (sok_asg (eok_op ok_add (eok_sn (eok_op ok_mul (eok_sn (eok_var (by decide))) (eok_sn (eok_op ok_pow (eok_sn (eok_c fun _ => .int _)) (eok_sn (eok_c fun _ => .int _)))))) (eok_sn (eok_callS (aok_cons (eok_op ok_pow (eok_sn (eok_c fun _ => .int _)) (eok_sn (eok_c fun _ => .int _))) aok_nil)))) (tg_name ⟨by decide, by decide⟩)))
      (sok_ret (eok_op ok_mod (eok_sn (eok_cb ok_int (aoks_cons (eok_sn (eok_var (by decide))) aoks_nil))) (eok_sn (eok_var (by decide)))))))⟩
theorem cal__law_family (T : Txt K mg D) (c__law_draw : CalX P w K mg base 1 "_law_draw" (spS K D 1 F__law_draw)) (c__law_pick : CalX P w K mg base 2 "_law_pick" (spS K D 1 F__law_pick)) (c__law_great : CalX P w K mg base 2 "_law_great" (spS K D 1 F__law_great)) (c__law_ten : CalX P w K mg base 1 "_law_ten" (spU K D 1 F__law_ten)) : CalX P w K mg base 3 "_law_family" (spS K D 1 F__law_family) :=
  calS T.f__law_family sc__law_family rfl rfl fun f cdv A outer s H E hr tk => ⟨_, [],
     (pss_cons (ps_set (i := 2) sc__law_family.nd rfl (by first | exact Or.inr rfl | exact Or.inl rfl) (pe_op (op_addAnyK (K := K)) pe_int (My.pe_cx c__law_draw tk hr (by decide) (by rfl) (pa_cons (pv 0) (pa_cons (pv 1) pa_nil)))))
      (pss_cons (ps_if (pt_cmpR op_gt (pv 1) pe_int (nomark _))
      (pss_cons (ps_set (i := 3) sc__law_family.nd rfl (Or.inl rfl) (My.pe_cx c__law_pick tk hr (by decide) (by rfl) (pa_cons (pv 0) (pa_cons (pe_lst (pa_cons pe_int (pa_cons pe_int (pa_cons pe_int (pa_cons pe_int (pa_cons pe_int (pa_cons (pe_op My.op_powW pe_int pe_int) (pa_cons (pe_op (op_addAnyK (K := K)) (pe_op My.op_powW pe_int pe_int) pe_int) (pa_cons (pe_op My.op_powW pe_int pe_int) (pa_cons (pe_op My.op_powW pe_int pe_int) pa_nil)))))))))) pa_nil))))
      (pss_one (ps_set (i := 2) sc__law_family.nd rfl (by first | exact Or.inr rfl | exact Or.inl rfl) (pe_op (op_mulAnyK (K := K)) (pv 3) (pe_op (op_addAnyK (K := K)) pe_int (My.pe_cx c__law_great tk hr (by decide) (by rfl) (pa_cons (pv 0) (pa_cons (pe_callB (call_min2 rfl) (by rfl) T.b_min (by decide +kernel) (pa_cons (pe_op op_fdivW (pv 1) (pv 3)) (pa_cons (My.pe_cx c__law_ten tk hr (by decide) (by rfl) (pa_cons (pe_op (op_addAnyK (K := K)) pe_int (My.pe_cx c__law_draw tk hr (by decide) (by rfl) (pa_cons (pv 0) (pa_cons pe_int pa_nil)))) pa_nil)) pa_nil))) pa_nil))))))))
      pss_nil)
      (pss_cons (ps_set (i := 4) sc__law_family.nd rfl (by first | exact Or.inr rfl | exact Or.inl rfl) (pe_setSortK (K := K) (by rfl) T.b_sorted (by rfl) T.b_set (pe_lc (own := [("_law_k", 6)]) (by rfl) sc__law_family.nd (pi_range1 (by rfl) T.b_range (pa_cons (pe_op (op_mulAnyK (K := K)) pe_int (My.pe_cx c__law_draw tk hr (by decide) (by rfl) (pa_cons (pv 0) (pa_cons pe_int pa_nil)))) pa_nil)) (blkOk_by (own := [("_law_k", 6)]) (N := nm__law_family) (sc := defScope s__law_family) (by decide +kernel)) (fun _ _ _ _ _ => (pg_name (i := 6) sc__law_family.nd rfl (Or.inl rfl))) (fun _ _ _ _ _ => pts_nil) (fun _ _ _ _ _ => (My.pe_cx c__law_great takes0 hr (by decide) (by rfl) (pa_cons (pv 0) (pa_cons (pe_op (op_addAnyK (K := K)) (pv 2) pe_int) pa_nil)))))))
      (pss_cons (ps_setLc (i := 5) (own := [("_law_k", 6)]) (by rfl) sc__law_family.nd rfl rfl (sw_true rfl rfl rfl (by decide +kernel)) (pi_range1 (by rfl) T.b_range (pa_cons (pe_op op_fdivW (pe_callB (call_lenK (K := K)) (by rfl) T.b_len (by decide +kernel) (pa_cons (pv 4) pa_nil)) pe_int) pa_nil)) (blkOk_by (own := [("_law_k", 6)]) (N := nm__law_family) (sc := defScope s__law_family) (by decide +kernel)) (fun _ _ _ _ _ => (pg_name (i := 6) sc__law_family.nd rfl (Or.inl rfl))) (fun _ _ _ _ _ => pts_nil) (fun _ _ _ _ _ => (pe_tup (pa_cons (pe_ix (ix_anyK (K := K)) (pv 4) (pe_op (op_mulAnyK (K := K)) pe_int (pv 6)) (fun _ _ => rfl)) (pa_cons (pe_ix (ix_anyK (K := K)) (pv 4) (pe_op (op_addAnyK (K := K)) (pe_op (op_mulAnyK (K := K)) pe_int (pv 6)) pe_int) (fun _ _ => rfl)) pa_nil)))))
      (pss_one (ps_ret (pe_tup (pa_cons (pv 2) (pa_cons (pe_callTy (call_tupleK (K := K)) (by rfl) T.b_tuple (by decide +kernel) (pa_cons (pv 5) pa_nil)) pa_nil))))))))),
     (sok_seq (sok_asg (eok_op ok_add (eok_sn (eok_c fun _ => .int _)) (eok_sn (eok_callS (aok_cons (eok_var (by decide)) aok_nil)))) (tg_name ⟨by decide, by decide⟩))
      (sok_seq (sok_if (tok_valT (eok_sn (eok_op ok_gt (eok_sn (eok_var (by decide))) (eok_sn (eok_c fun _ => .int _))))) (sok_seq (sok_asg (eok_callS (aok_cons (eok_of (fok_lst (aok_cons (eok_c fun _ => .int _) (aok_cons (eok_c fun _ => .int _) (aok_cons (eok_c fun _ => .int _) (aok_cons (eok_c fun _ => .int _) (aok_cons (eok_c fun _ => .int _) (aok_cons (eok_op ok_pow (eok_sn (eok_c fun _ => .int _)) (eok_sn (eok_c fun _ => .int _))) (aok_cons (eok_op ok_add (eok_sn (eok_op ok_pow (eok_sn (eok_c fun _ => .int _)) (eok_sn (eok_c fun _ => .int _)))) (eok_sn (eok_c fun _ => .int _))) (aok_cons (eok_op ok_pow (eok_sn (eok_c fun _ => .int _)) (eok_sn (eok_c fun _ => .int _))) (aok_cons (eok_op ok_pow (eok_sn (eok_c fun _ => .int _)) (eok_sn (eok_c fun _ => .int _))) aok_nil))))))))))) aok_nil)) (tg_name ⟨by decide, by decide⟩))
      (sok_asg (eok_op ok_mul (eok_sn (eok_var (by decide))) (eok_sn (eok_op ok_add (eok_sn (eok_c fun _ => .int _)) (eok_sn (eok_callS (aok_cons (eok_cb ok_min2 (aoks_cons (eok_sn (eok_op ok_div (eok_sn (eok_var (by decide))) (eok_sn (eok_var (by decide))))) (aoks_cons (eok_sn (eok_call (aok_cons (eok_op ok_add (eok_sn (eok_c fun _ => .int _)) (eok_sn (eok_callS (aok_cons (eok_c fun _ => .int _) aok_nil)))) aok_nil))) aoks_nil))) aok_nil)))))) (tg_name ⟨by decide, by decide⟩))) sok_nil)
      (sok_seq (sok_asg (eok_setSort (eok_of (fok_lc (vs := [6]) (by decide) (iok_rng1 (aoks_cons (eok_sn (eok_op ok_mul (eok_sn (eok_c fun _ => .int _)) (eok_sn (eok_callS (aok_cons (eok_c fun _ => .int _) aok_nil))))) aoks_nil)) (tg_name ⟨by decide, by decide, by decide⟩) tok_yes (eok_callS (aok_cons (eok_op ok_add (eok_sn (eok_var (by decide))) (eok_sn (eok_c fun _ => .int _))) aok_nil))))) (tg_name ⟨by decide, by decide⟩))
      (sok_seq (sok_asg (eok_of (fok_lc (vs := [6]) (by decide) (iok_rng1 (aoks_cons (eok_sn (eok_op ok_div (eok_sn (eok_cb ok_len (aoks_cons (eok_sn (eok_var (by decide))) aoks_nil))) (eok_sn (eok_c fun _ => .int _)))) aoks_nil)) (tg_name ⟨by decide, by decide, by decide⟩) tok_yes (eok_tup (aok_cons (eok_op ok_ix (eok_sn (eok_var (by decide))) (eok_sn (eok_op ok_mul (eok_sn (eok_c fun _ => .int _)) (eok_sn (eok_var (by decide)))))) (aok_cons (eok_op ok_ix (eok_sn (eok_var (by decide))) (eok_sn (eok_op ok_add (eok_sn (eok_op ok_mul (eok_sn (eok_c fun _ => .int _)) (eok_sn (eok_var (by decide))))) (eok_sn (eok_c fun _ => .int _))))) aok_nil))))) (tg_name ⟨by decide, by decide⟩))
      (sok_ret (eok_tup (aok_cons (eok_var (by decide)) (aok_cons (eok_cb ok_tuple (aoks_cons (eok_sn (eok_var (by decide))) aoks_nil)) aok_nil))))))))⟩
theorem cal__law_whole (T : Txt K mg D)  : CalX P w K mg base 1 "_law_whole" (spU K D 3 F__law_whole) :=
  calU T.f__law_whole sc__law_whole rfl rfl fun f cdv A outer s H E hr tk => ⟨_, [],
     (pss_one (ps_ret (pe_and (pe_callB (call_isiK (K := K)) (by rfl) T.b_isinstance (by decide +kernel) (pa_cons (pv 0) (pa_cons (pe_bltn (v := .ty "int") (by rfl) T.b_int (by decide +kernel) rfl) pa_nil))) (pe_and (pe_not (pe_callB (call_isiK (K := K)) (by rfl) T.b_isinstance (by decide +kernel) (pa_cons (pv 0) (pa_cons (pe_bltn (v := .ty "bool") (by rfl) T.b_bool (by decide +kernel) rfl) pa_nil)))) (pe_and (pe_cmpR op_le (pv 1) (pv 0) (nomark _)) (pe_one (pe_cmpR op_lt (pv 0) (pv 2) (nomark _)))))))),
     (sok_ret (eok_and (eok_sn (eok_cb ok_isi (aoks_cons (eok_sn (eok_var (by decide))) (aoks_cons (eok_sn (eok_c fun _ => .ty _)) aoks_nil)))) (eok_and (eok_sn (eok_not (eok_sn (eok_cb ok_isi (aoks_cons (eok_sn (eok_var (by decide))) (aoks_cons (eok_sn (eok_c fun _ => .ty _)) aoks_nil)))))) (eok_and (eok_sn (eok_op ok_le (eok_sn (eok_var (by decide))) (eok_sn (eok_var (by decide))))) (eok_op ok_lt (eok_sn (eok_var (by decide))) (eok_sn (eok_var (by decide))))))))⟩
theorem cal__law_is_family (T : Txt K mg D) (c__law_whole : CalX P w K mg base 1 "_law_whole" (spU K D 3 F__law_whole)) : CalX P w K mg base 2 "_law_is_family" (spU K D 1 F__law_is_family) :=
  calU T.f__law_is_family sc__law_is_family rfl rfl fun f cdv A outer s H E hr tk => ⟨_, [],
     (pss_cons (ps_if (PW.pt (pw_or (pt_not (pt_truthK (K := K) (pe_callB (call_isiK (K := K)) (by rfl) T.b_isinstance (by decide +kernel) (pa_cons (pv 0) (pa_cons (pe_bltn (v := .ty "tuple") (by rfl) T.b_tuple (by decide +kernel) rfl) pa_nil))) (fun _ => rfl))) (pw_or (pt_cmpR (op_neDK (K := K) hr.units) (pe_callB (call_lenK (K := K)) (by rfl) T.b_len (by decide +kernel) (pa_cons (pv 0) pa_nil)) pe_int (nomark _)) (pw_or1 (pt_not (pt_truthK (K := K) (My.pe_cx c__law_whole tk hr (by decide) (by rfl) (pa_cons (pe_ix (ix_anyK (K := K)) (pv 0) pe_int (fun _ _ => rfl)) (pa_cons pe_int (pa_cons (pe_op (op_addAnyK (K := K)) (pe_op My.op_powW pe_int pe_int) pe_int) pa_nil)))) (fun _ => rfl)))))))
      (pss_one (ps_ret pe_bl))
      pss_nil)
      (pss_cons (ps_if (PW.pt (pw_or (pt_not (pt_truthK (K := K) (pe_callB (call_isiK (K := K)) (by rfl) T.b_isinstance (by decide +kernel) (pa_cons (pe_ix (ix_anyK (K := K)) (pv 0) pe_int (fun _ _ => rfl)) (pa_cons (pe_bltn (v := .ty "tuple") (by rfl) T.b_tuple (by decide +kernel) rfl) pa_nil))) (fun _ => rfl))) (pw_or1 (pt_cmpR op_gt (pe_callB (call_lenK (K := K)) (by rfl) T.b_len (by decide +kernel) (pa_cons (pe_ix (ix_anyK (K := K)) (pv 0) pe_int (fun _ _ => rfl)) pa_nil)) pe_int (nomark _)))))
      (pss_one (ps_ret pe_bl))
      pss_nil)
      (pss_cons (ps_set (i := 1) sc__law_is_family.nd rfl (Or.inl rfl) (pe_un un_neg pe_int))
      (pss_cons (ps_for PassesOwn.leaving rfl (pi_seqK (K := K) (pe_ix (ix_anyK (K := K)) (pv 0) pe_int (fun _ _ => rfl))) (pg_name (i := 2) sc__law_is_family.nd rfl (Or.inl rfl))
      (pss_cons (ps_if (PW.pt (pw_or (pt_not (pt_truthK (K := K) (pe_callB (call_isiK (K := K)) (by rfl) T.b_isinstance (by decide +kernel) (pa_cons (pv 2) (pa_cons (pe_bltn (v := .ty "tuple") (by rfl) T.b_tuple (by decide +kernel) rfl) pa_nil))) (fun _ => rfl))) (pw_or (pt_cmpR (op_neDK (K := K) hr.units) (pe_callB (call_lenK (K := K)) (by rfl) T.b_len (by decide +kernel) (pa_cons (pv 2) pa_nil)) pe_int (nomark _)) (pw_or1 (pt_not (pt_truthK (K := K) (My.pe_cx c__law_whole tk hr (by decide) (by rfl) (pa_cons (pe_ix (ix_anyK (K := K)) (pv 2) pe_int (fun _ _ => rfl)) (pa_cons (pe_op (op_addAnyK (K := K)) (pv 1) pe_int) (pa_cons (pe_ix (ix_anyK (K := K)) (pv 0) pe_int (fun _ _ => rfl)) pa_nil)))) (fun _ => rfl)))))))
      (pss_one (ps_ret pe_bl))
      pss_nil)
      (pss_cons (ps_if (pt_not (pt_truthK (K := K) (My.pe_cx c__law_whole tk hr (by decide) (by rfl) (pa_cons (pe_ix (ix_anyK (K := K)) (pv 2) pe_int (fun _ _ => rfl)) (pa_cons (pe_op (op_addAnyK (K := K)) (pe_ix (ix_anyK (K := K)) (pv 2) pe_int (fun _ _ => rfl)) pe_int) (pa_cons (pe_op (op_addAnyK (K := K)) (pe_ix (ix_anyK (K := K)) (pv 0) pe_int (fun _ _ => rfl)) pe_int) pa_nil)))) (fun _ => rfl)))
      (pss_one (ps_ret pe_bl))
      pss_nil)
      (pss_one (ps_set (i := 1) sc__law_is_family.nd rfl (Or.inl rfl) (pe_ix (ix_anyK (K := K)) (pv 2) pe_int (fun _ _ => rfl)))))))
      (pss_one (ps_ret pe_bl)))))),
     (sok_seq (sok_if (tok_or (tok_not (tok_tru (eok_sn (eok_cb ok_isi (aoks_cons (eok_sn (eok_var (by decide))) (aoks_cons (eok_sn (eok_c fun _ => .ty _)) aoks_nil)))))) (tok_or (tok_valT (eok_sn (eok_op ok_ne (eok_sn (eok_cb ok_len (aoks_cons (eok_sn (eok_var (by decide))) aoks_nil))) (eok_sn (eok_c fun _ => .int _))))) (tok_not (tok_tru (eok_sn (eok_call (aok_cons (eok_op ok_ix (eok_sn (eok_var (by decide))) (eok_sn (eok_c fun _ => .int _))) (aok_cons (eok_c fun _ => .int _) (aok_cons (eok_op ok_add (eok_sn (eok_op ok_pow (eok_sn (eok_c fun _ => .int _)) (eok_sn (eok_c fun _ => .int _)))) (eok_sn (eok_c fun _ => .int _))) aok_nil))))))))) (sok_ret (eok_c fun _ => .bl _)) sok_nil)
      (sok_seq (sok_if (tok_or (tok_not (tok_tru (eok_sn (eok_cb ok_isi (aoks_cons (eok_sn (eok_op ok_ix (eok_sn (eok_var (by decide))) (eok_sn (eok_c fun _ => .int _)))) (aoks_cons (eok_sn (eok_c fun _ => .ty _)) aoks_nil)))))) (tok_valT (eok_sn (eok_op ok_gt (eok_sn (eok_cb ok_len (aoks_cons (eok_sn (eok_op ok_ix (eok_sn (eok_var (by decide))) (eok_sn (eok_c fun _ => .int _)))) aoks_nil))) (eok_sn (eok_c fun _ => .int _)))))) (sok_ret (eok_c fun _ => .bl _)) sok_nil)
      (sok_seq (sok_asg (eok_un ok_neg (eok_sn (eok_c fun _ => .int _))) (tg_name ⟨by decide, by decide⟩))
      (sok_seq (sok_for (iok_seq (eok_op ok_ix (eok_sn (eok_var (by decide))) (eok_sn (eok_c fun _ => .int _)))) (tg_name ⟨by decide, by decide⟩) (sok_seq (sok_if (tok_or (tok_not (tok_tru (eok_sn (eok_cb ok_isi (aoks_cons (eok_sn (eok_var (by decide))) (aoks_cons (eok_sn (eok_c fun _ => .ty _)) aoks_nil)))))) (tok_or (tok_valT (eok_sn (eok_op ok_ne (eok_sn (eok_cb ok_len (aoks_cons (eok_sn (eok_var (by decide))) aoks_nil))) (eok_sn (eok_c fun _ => .int _))))) (tok_not (tok_tru (eok_sn (eok_call (aok_cons (eok_op ok_ix (eok_sn (eok_var (by decide))) (eok_sn (eok_c fun _ => .int _))) (aok_cons (eok_op ok_add (eok_sn (eok_var (by decide))) (eok_sn (eok_c fun _ => .int _))) (aok_cons (eok_op ok_ix (eok_sn (eok_var (by decide))) (eok_sn (eok_c fun _ => .int _))) aok_nil))))))))) (sok_ret (eok_c fun _ => .bl _)) sok_nil)
      (sok_seq (sok_if (tok_not (tok_tru (eok_sn (eok_call (aok_cons (eok_op ok_ix (eok_sn (eok_var (by decide))) (eok_sn (eok_c fun _ => .int _))) (aok_cons (eok_op ok_add (eok_sn (eok_op ok_ix (eok_sn (eok_var (by decide))) (eok_sn (eok_c fun _ => .int _)))) (eok_sn (eok_c fun _ => .int _))) (aok_cons (eok_op ok_add (eok_sn (eok_op ok_ix (eok_sn (eok_var (by decide))) (eok_sn (eok_c fun _ => .int _)))) (eok_sn (eok_c fun _ => .int _))) aok_nil))))))) (sok_ret (eok_c fun _ => .bl _)) sok_nil)
      (sok_asg (eok_op ok_ix (eok_sn (eok_var (by decide))) (eok_sn (eok_c fun _ => .int _))) (tg_name ⟨by decide, by decide⟩)))))
      (sok_ret (eok_c fun _ => .bl _))))))⟩
theorem cal__law_are_families (T : Txt K mg D) (c__law_is_family : CalX P w K mg base 2 "_law_is_family" (spU K D 1 F__law_is_family)) : CalX P w K mg base 3 "_law_are_families" (spU K D 1 F__law_are_families) :=
  calU T.f__law_are_families sc__law_are_families rfl rfl fun f cdv A outer s H E hr tk => ⟨_, [],
     (pss_cons (ps_if (PW.pt (pw_or (pt_not (pt_truthK (K := K) (pe_callB (call_isiK (K := K)) (by rfl) T.b_isinstance (by decide +kernel) (pa_cons (pv 0) (pa_cons (pe_bltn (v := .ty "list") (by rfl) T.b_list (by decide +kernel) rfl) pa_nil))) (fun _ => rfl))) (pw_or (pt_cmpR op_lt (pe_callB (call_lenK (K := K)) (by rfl) T.b_len (by decide +kernel) (pa_cons (pv 0) pa_nil)) pe_int (nomark _)) (pw_or1 (pt_cmpR op_gt (pe_callB (call_lenK (K := K)) (by rfl) T.b_len (by decide +kernel) (pa_cons (pv 0) pa_nil)) pe_int (nomark _))))))
      (pss_one (ps_ret pe_bl))
      pss_nil)
      (pss_one (ps_ret (pe_cmpR (op_eqLK (K := K) hr.units) (pe_lc (own := [("_law_family_here", 1)]) (by rfl) sc__law_are_families.nd (pi_seqK (K := K) (pv 0)) (blkOk_by (own := [("_law_family_here", 1)]) (N := nm__law_are_families) (sc := defScope s__law_are_families) (by decide +kernel)) (fun _ _ _ _ _ => (pg_name (i := 1) sc__law_are_families.nd rfl (Or.inl rfl))) (fun _ _ _ _ _ => (pts_one (pt_not (pt_truthK (K := K) (My.pe_cx c__law_is_family takes0 hr (by decide) (by rfl) (pa_cons (pv 1) pa_nil)) (fun _ => rfl))))) (fun _ _ _ _ _ => (pv 1))) (pe_lst pa_nil) (nomark _))))),
     (sok_seq (sok_if (tok_or (tok_not (tok_tru (eok_sn (eok_cb ok_isi (aoks_cons (eok_sn (eok_var (by decide))) (aoks_cons (eok_sn (eok_c fun _ => .ty _)) aoks_nil)))))) (tok_or (tok_valT (eok_sn (eok_op ok_lt (eok_sn (eok_cb ok_len (aoks_cons (eok_sn (eok_var (by decide))) aoks_nil))) (eok_sn (eok_c fun _ => .int _))))) (tok_valT (eok_sn (eok_op ok_gt (eok_sn (eok_cb ok_len (aoks_cons (eok_sn (eok_var (by decide))) aoks_nil))) (eok_sn (eok_c fun _ => .int _))))))) (sok_ret (eok_c fun _ => .bl _)) sok_nil)
      (sok_ret (eok_op ok_eqL (eok_sn (eok_of (fok_lc (vs := [1]) (by decide) (iok_seq (eok_var (by decide))) (tg_name ⟨by decide, by decide, by decide⟩) (tok_not (tok_tru (eok_sn (eok_call (aok_cons (eok_var (by decide)) aok_nil))))) (eok_var (by decide))))) (eok_sn (eok_of (fok_lst aok_nil))))))⟩
theorem cal__law_word (T : Txt K mg D) (c_below : CalX P w K mg base 5 "below" (spU K D 2 F_below)) (c_nth : CalX P w K mg base 9 "nth" (spU K D 2 F_nth)) (c_common_share : CalX P w K mg base 8 "common_share" (spU K D 1 F_common_share)) : CalX P w K mg base 10 "_law_word" (spU K D 2 F__law_word) :=
  calU T.f__law_word sc__law_word rfl rfl fun f cdv A outer s H E hr tk => ⟨_, [],
     (pss_cons (ps_set (i := 2) sc__law_word.nd rfl (Or.inl rfl) pe_non)
      (pss_cons (My.ps_try_keep (i := 3) rfl rfl rfl sc__law_word.nd rfl rfl (Or.inl rfl) (Or.inl rfl) ⟨by rfl, by decide, Or.inl T.v_MarkError⟩ tk (fun _ _ _ tk1 po1 => (pss_one (ps_if (pt_cmpR (op_eqDK (K := K) hr.units) (pv 0) pe_int (nomark _))
      (pss_one (ps_expr (My.pe_cx c_below tk1 hr (by decide) (by rfl) (pa_cons (pv 1) (pa_cons pe_non pa_nil)))))
      (pss_one (ps_if (pt_cmpR (op_eqDK (K := K) hr.units) (pv 0) pe_int (nomark _))
      (pss_one (ps_expr (My.pe_cx c_nth tk1 hr (by decide) (by rfl) (pa_cons (pv 1) (pa_cons (pe_un un_neg pe_int) pa_nil)))))
      (pss_one (ps_expr (My.pe_cx c_common_share tk1 hr (by decide) (by rfl) (pa_cons (pv 1) pa_nil)))))))))
      (fun _ _ _ => (pss_one (ps_set (i := 2) sc__law_word.nd rfl (Or.inl rfl) (pv 3)))))
      (pss_cons (ps_if (pt_cmpR op_isN (pv 2) pe_non (nomark _))
      (pss_one (ps_ret pe_str))
      pss_nil)
      (pss_cons (ps_set (i := 4) sc__law_word.nd rfl (Or.inl rfl) (pe_lst (pa_cons (pe_callB (call_instK (K := K)) (by rfl) T.b_isinstance (by decide +kernel) (pa_cons (pv 2) (pa_cons (pe_gc (v := .ref (D "InvalidFamilies")) (by rfl) ⟨_, T.v_InvalidFamilies, rfl⟩) pa_nil))) (pa_cons (pe_callB (call_instK (K := K)) (by rfl) T.b_isinstance (by decide +kernel) (pa_cons (pv 2) (pa_cons (pe_gc (v := .ref (D "InvalidNumber")) (by rfl) ⟨_, T.v_InvalidNumber, rfl⟩) pa_nil))) (pa_cons (pe_callB (call_instK (K := K)) (by rfl) T.b_isinstance (by decide +kernel) (pa_cons (pv 2) (pa_cons (pe_gc (v := .ref (D "InvalidDeals")) (by rfl) ⟨_, T.v_InvalidDeals, rfl⟩) pa_nil))) pa_nil)))))
      (pss_cons (ps_expr (pe_bm PySem.F.plainAttrs_list PySem.F.slot_list_append PySem.F.type_list_append mt_append (pv 4) (pa_cons (pe_callB (call_instK (K := K)) (by rfl) T.b_isinstance (by decide +kernel) (pa_cons (pv 2) (pa_cons (pe_gc (v := .ref (D "TooMany")) (by rfl) ⟨_, T.v_TooMany, rfl⟩) pa_nil))) pa_nil)))
      (pss_cons (ps_if (pt_cmpR (op_neDK (K := K) hr.units) (pe_bm PySem.F.plainAttrs_list PySem.F.slot_list_count PySem.F.type_list_count (mt_countDK (K := K) (hu65 hr)) (pv 4) (pa_cons pe_bl pa_nil)) pe_int (nomark _))
      (pss_one (ps_ret pe_str))
      pss_nil)
      (pss_one (ps_ret (pe_ix (ix_anyK (K := K)) (pe_lst (pa_cons pe_str (pa_cons pe_str (pa_cons pe_str (pa_cons pe_str pa_nil))))) (pe_bm PySem.F.plainAttrs_list PySem.F.slot_list_index PySem.F.type_list_index (mt_indexDK (K := K) (hu65 hr)) (pv 4) (pa_cons pe_bl pa_nil)) (fun _ _ => rfl)))))))))),
     (sok_seq (sok_asg (eok_c fun _ => .non) (tg_name ⟨by decide, by decide⟩))
      (sok_seq (sok_try ⟨by decide, by decide⟩ ⟨by decide, by decide⟩ rfl T.kls (by decide) (fun _ => (sok_if (tok_valT (eok_sn (eok_op ok_eq (eok_sn (eok_var (by decide))) (eok_sn (eok_c fun _ => .int _))))) (sok_drop1 (eok_call (aok_cons (eok_var (by decide)) (aok_cons (eok_c fun _ => .non) aok_nil)))) (sok_if (tok_valT (eok_sn (eok_op ok_eq (eok_sn (eok_var (by decide))) (eok_sn (eok_c fun _ => .int _))))) (sok_drop1 (eok_call (aok_cons (eok_var (by decide)) (aok_cons (eok_un ok_neg (eok_sn (eok_c fun _ => .int _))) aok_nil)))) (sok_drop1 (eok_call (aok_cons (eok_var (by decide)) aok_nil)))))))
      (sok_seq (sok_if (tok_valT (eok_sn (eok_op ok_is (eok_sn (eok_var (by decide))) (eok_sn (eok_c fun _ => .non))))) (sok_ret (eok_c fun _ => .str _)) sok_nil)
      (sok_seq (sok_post (O' := [4]) (fun _ => true) (sok_own (by decide) (by decide) (fok_lst (aok_cons (eok_cb (ok_inst T.kls) (aoks_cons (eok_sn (eok_var (by decide))) (aoks_cons (eok_sn (eok_c fun _ => .cls _)) aoks_nil))) (aok_cons (eok_cb (ok_inst T.kls) (aoks_cons (eok_sn (eok_var (by decide))) (aoks_cons (eok_sn (eok_c fun _ => .cls _)) aoks_nil))) (aok_cons (eok_cb (ok_inst T.kls) (aoks_cons (eok_sn (eok_var (by decide))) (aoks_cons (eok_sn (eok_c fun _ => .cls _)) aoks_nil))) aok_nil))))) (by intro i; simp only [List.filter_cons, List.filter_nil, List.mem_cons, List.not_mem_nil, or_false, decide_true, if_true, decide_eq_true_eq] <;> first | omega | (simp <;> omega) | simp))
      (sok_seq (sok_app (by decide) (eok_cb (ok_inst T.kls) (aoks_cons (eok_sn (eok_var (by decide))) (aoks_cons (eok_sn (eok_c fun _ => .cls _)) aoks_nil))))
      (sok_seq (sok_if (tok_valT (eok_sn (eok_op ok_ne (eok_sn (eok_count eok_varS (eok_sn (eok_c fun _ => .bl _)))) (eok_sn (eok_c fun _ => .int _))))) (sok_ret (eok_c fun _ => .str _)) sok_nil)
      (sok_ret (eok_op ok_ix (eok_sn (eok_of (fok_lst (aok_cons (eok_c fun _ => .str _) (aok_cons (eok_c fun _ => .str _) (aok_cons (eok_c fun _ => .str _) (aok_cons (eok_c fun _ => .str _) aok_nil))))))) (eok_sn (eok_index eok_varS (eok_sn (eok_c fun _ => .bl _))))))))))))⟩
theorem cal__law_right (T : Txt K mg D) (c__law_are_families : CalX P w K mg base 3 "_law_are_families" (spU K D 1 F__law_are_families)) (c__law_word : CalX P w K mg base 10 "_law_word" (spU K D 2 F__law_word)) : CalX P w K mg base 11 "_law_right" (spU K D 1 F__law_right) :=
  calU T.f__law_right sc__law_right rfl rfl fun f cdv A outer s H E hr tk => ⟨_, [],
     (pss_cons (ps_set (i := 1) sc__law_right.nd rfl (Or.inl rfl) (pe_op (op_mulAnyK (K := K)) (pe_lst (pa_cons pe_str pa_nil)) pe_int))
      (pss_cons (ps_if (pt_truthK (K := K) (My.pe_cx c__law_are_families tk hr (by decide) (by rfl) (pa_cons (pv 0) pa_nil)) (fun _ => rfl))
      (pss_cons (ps_set (i := 2) sc__law_right.nd rfl (Or.inl rfl) (pe_op (op_mulAnyK (K := K)) (pe_op (op_mulAnyK (K := K)) (pe_callB (call_lenK (K := K)) (by rfl) T.b_len (by decide +kernel) (pa_cons (pe_ix (ix_anyK (K := K)) (pe_ix (ix_anyK (K := K)) (pv 0) pe_int (fun _ _ => rfl)) pe_int (fun _ _ => rfl)) pa_nil)) (pe_callB (call_lenK (K := K)) (by rfl) T.b_len (by decide +kernel) (pa_cons (pe_ix (ix_anyK (K := K)) (pe_ix (ix_anyK (K := K)) (pv 0) (pe_un un_neg pe_int) (fun _ _ => rfl)) pe_int (fun _ _ => rfl)) pa_nil))) (pe_op op_sub (pe_callB (call_lenK (K := K)) (by rfl) T.b_len (by decide +kernel) (pa_cons (pv 0) pa_nil)) pe_int)))
      (pss_cons (ps_set (i := 1) sc__law_right.nd rfl (Or.inl rfl) (pe_lst (pa_cons pe_str (pa_cons pe_str (pa_cons pe_str pa_nil)))))
      (pss_cons (ps_if (pt_cmpR op_gt (pv 2) pe_int (nomark _))
      (pss_one (ps_asg pe_str (pg_sub (pv 1) pe_int set_list)))
      pss_nil)
      (pss_one (ps_if (pt_cmpR op_gt (pv 2) pe_int (nomark _))
      (pss_one (ps_set (i := 1) sc__law_right.nd rfl (Or.inl rfl) (pe_op (op_mulAnyK (K := K)) (pe_lst (pa_cons pe_str pa_nil)) pe_int)))
      pss_nil)))))
      pss_nil)
      (pss_one (ps_ret (pe_cmpR (op_eqDK (K := K) hr.units) (pe_lc (own := [("_law_way", 3)]) (by rfl) sc__law_right.nd (pi_range1 (by rfl) T.b_range (pa_cons pe_int pa_nil)) (blkOk_by (own := [("_law_way", 3)]) (N := nm__law_right) (sc := defScope s__law_right) (by decide +kernel)) (fun _ _ _ _ _ => (pg_name (i := 3) sc__law_right.nd rfl (Or.inl rfl))) (fun _ _ _ _ _ => pts_nil) (fun _ _ _ _ _ => (My.pe_cx c__law_word takes0 hr (by decide) (by rfl) (pa_cons (pv 3) (pa_cons (pv 0) pa_nil))))) (pv 1) (nomark _)))))),
     (sok_seq (sok_asg (eok_op ok_mul (eok_sn (eok_of (fok_lst (aok_cons (eok_c fun _ => .str _) aok_nil)))) (eok_sn (eok_c fun _ => .int _))) (tg_name ⟨by decide, by decide⟩))
      (sok_seq (sok_if (tok_tru (eok_sn (eok_call (aok_cons (eok_var (by decide)) aok_nil)))) (sok_seq (sok_asg (eok_op ok_mul (eok_sn (eok_op ok_mul (eok_sn (eok_cb ok_len (aoks_cons (eok_sn (eok_op ok_ix (eok_sn (eok_op ok_ix (eok_sn (eok_var (by decide))) (eok_sn (eok_c fun _ => .int _)))) (eok_sn (eok_c fun _ => .int _)))) aoks_nil))) (eok_sn (eok_cb ok_len (aoks_cons (eok_sn (eok_op ok_ix (eok_sn (eok_op ok_ix (eok_sn (eok_var (by decide))) (eok_sn (eok_un ok_neg (eok_sn (eok_c fun _ => .int _)))))) (eok_sn (eok_c fun _ => .int _)))) aoks_nil))))) (eok_sn (eok_op ok_sub (eok_sn (eok_cb ok_len (aoks_cons (eok_sn (eok_var (by decide))) aoks_nil))) (eok_sn (eok_c fun _ => .int _))))) (tg_name ⟨by decide, by decide⟩))
      (sok_seq (sok_post (O' := [1]) (fun _ => true) (sok_own (by decide) (by decide) (fok_lst (aok_cons (eok_c fun _ => .str _) (aok_cons (eok_c fun _ => .str _) (aok_cons (eok_c fun _ => .str _) aok_nil))))) (by intro i; simp only [List.filter_cons, List.filter_nil, List.mem_cons, List.not_mem_nil, or_false, decide_true, if_true, decide_eq_true_eq] <;> first | omega | (simp <;> omega) | simp))
      (sok_seq (sok_if (tok_valT (eok_sn (eok_op ok_gt (eok_sn (eok_var (by decide))) (eok_sn (eok_c fun _ => .int _))))) (sok_put (by decide) (eok_c fun _ => .str _) (eok_sn (eok_c fun _ => .int _))) sok_nil)
      (sok_if (tok_valT (eok_sn (eok_op ok_gt (eok_sn (eok_var (by decide))) (eok_sn (eok_c fun _ => .int _))))) (sok_drop (fun j => decide (j ∈ ([] : List Nat))) (sok_asg (eok_op ok_mul (eok_sn (eok_of (fok_lst (aok_cons (eok_c fun _ => .str _) aok_nil)))) (eok_sn (eok_c fun _ => .int _))) (tg_name ⟨by decide, by decide⟩))) (sok_post (O' := []) (fun j => decide (j ∈ ([] : List Nat))) sok_nil (by intro i; simp only [List.filter_cons, List.filter_nil, List.mem_cons, List.not_mem_nil, or_false, decide_true, if_true, decide_eq_true_eq] <;> first | omega | (simp <;> omega) | simp)))))) sok_nil)
      (sok_ret (eok_op ok_eq (eok_sn (eok_of (fok_lc (vs := [3]) (by decide) (iok_rng1 (aoks_cons (eok_sn (eok_c fun _ => .int _)) aoks_nil)) (tg_name ⟨by decide, by decide, by decide⟩) tok_yes (eok_call (aok_cons (eok_var (by decide)) (aok_cons (eok_var (by decide)) aok_nil)))))) (eok_sn (eok_var (by decide)))))))⟩
theorem cal__law_bent (T : Txt K mg D) (c__law_draw : CalX P w K mg base 1 "_law_draw" (spS K D 1 F__law_draw)) (c__law_pick : CalX P w K mg base 2 "_law_pick" (spS K D 1 F__law_pick)) : CalX P w K mg base 3 "_law_bent" (spS K D 1 F__law_bent) :=
  calS T.f__law_bent sc__law_bent rfl rfl fun f cdv A outer s H E hr tk => ⟨_, [],
     (pss_cons (ps_set (i := 2) sc__law_bent.nd rfl (Or.inl rfl) (My.pe_cx c__law_draw tk hr (by decide) (by rfl) (pa_cons (pv 0) (pa_cons (pe_callB (call_lenK (K := K)) (by rfl) T.b_len (by decide +kernel) (pa_cons (pv 1) pa_nil)) pa_nil))))
      (pss_cons (ps_asg (pe_ix (ix_anyK (K := K)) (pv 1) (pv 2) (fun _ _ => rfl)) (pg_tupK (K := K) (pg_tup (by rfl) (pgs_cons (pg_name (i := 3) sc__law_bent.nd rfl (Or.inl rfl)) (pgs_cons (pg_name (i := 4) sc__law_bent.nd rfl (Or.inl rfl)) pgs_nil)))))
      (pss_cons (ps_set (i := 5) sc__law_bent.nd rfl (Or.inl rfl) (pe_lst (pa_cons pe_non (pa_cons pe_bl (pa_cons pe_str (pa_cons (pe_un un_neg pe_int) (pa_cons pe_int (pa_cons (pv 3) (pa_cons (pe_op (op_addAnyK (K := K)) (pv 3) pe_int) (pa_cons (pe_op My.op_powW pe_int pe_int) (pa_cons (pe_op (op_addAnyK (K := K)) (pe_op My.op_powW pe_int pe_int) pe_int) (pa_cons (pe_lst pa_nil) (pa_cons (pe_tup pa_nil) (pa_cons pe_dnewK (pa_cons (pe_tup (pa_cons pe_int (pa_cons pe_int pa_nil))) (pa_cons (pe_tup (pa_cons (pe_tup (pa_cons pe_int (pa_cons pe_int pa_nil))) pa_nil)) pa_nil))))))))))))))))
      (pss_cons (ps_set (i := 5) sc__law_bent.nd rfl (Or.inl rfl) (My.pe_cx c__law_pick tk hr (by decide) (by rfl) (pa_cons (pv 0) (pa_cons (pv 5) pa_nil))))
      (pss_cons (ps_set (i := 6) sc__law_bent.nd rfl (Or.inl rfl) (pe_lst (pa_cons (pv 5) (pa_cons (pe_lst (pa_cons (pv 3) (pa_cons (pv 4) pa_nil))) (pa_cons (pe_tup (pa_cons (pv 3) pa_nil)) (pa_cons (pe_tup (pa_cons (pv 3) (pa_cons (pv 4) (pa_cons pe_int pa_nil)))) (pa_cons (pe_tup (pa_cons (pv 5) (pa_cons (pv 4) pa_nil))) (pa_cons (pe_tup (pa_cons (pv 3) (pa_cons (pv 5) pa_nil))) (pa_cons (pe_tup (pa_cons (pv 3) (pa_cons (pe_callTy (call_listK (K := K)) (by rfl) T.b_list (by decide +kernel) (pa_cons (pv 4) pa_nil)) pa_nil))) pa_nil)))))))))
      (pss_cons (ps_set (i := 6) sc__law_bent.nd rfl (Or.inl rfl) (pe_op op_cat (pv 6) (pe_lst (pa_cons (pe_tup (pa_cons (pv 3) (pa_cons (pe_op (op_addAnyK (K := K)) (pv 4) (pe_tup (pa_cons (pe_tup (pa_cons (pv 3) (pa_cons (pe_op (op_addAnyK (K := K)) (pv 3) pe_int) pa_nil))) pa_nil))) pa_nil))) (pa_cons (pe_tup (pa_cons (pv 3) (pa_cons (pe_op (op_addAnyK (K := K)) (pv 4) (pv 4)) pa_nil))) (pa_cons (pe_tup (pa_cons (pv 3) (pa_cons (pe_tup (pa_cons (pe_tup (pa_cons pe_int (pa_cons (pv 3) pa_nil))) pa_nil)) pa_nil))) pa_nil))))))
      (pss_cons (ps_expr (pe_bm PySem.F.plainAttrs_list PySem.F.slot_list_append PySem.F.type_list_append mt_append (pv 6) (pa_cons (pe_tup (pa_cons (pv 3) (pa_cons (pe_tup (pa_cons (pe_tup (pa_cons pe_int (pa_cons (pv 3) pa_nil))) (pa_cons (pe_tup (pa_cons (pv 3) (pa_cons (pv 3) pa_nil))) pa_nil))) pa_nil))) pa_nil)))
      (pss_cons (ps_if (pt_cmpR (op_neDK (K := K) hr.units) (pv 4) (pe_tup pa_nil) (nomark _))
      (pss_cons (ps_asg (pe_ix (ix_anyK (K := K)) (pv 4) (pe_un un_neg pe_int) (fun _ _ => rfl)) (pg_tupK (K := K) (pg_tup (by rfl) (pgs_cons (pg_name (i := 7) sc__law_bent.nd rfl (Or.inl rfl)) (pgs_cons (pg_name (i := 8) sc__law_bent.nd rfl (Or.inl rfl)) pgs_nil)))))
      (pss_cons (ps_for PassesOwn.leaving rfl (pi_seqK (K := K) (pe_lst (pa_cons (pv 5) (pa_cons (pe_tup (pa_cons (pv 5) (pa_cons (pv 8) pa_nil))) (pa_cons (pe_tup (pa_cons (pv 7) (pa_cons (pv 5) pa_nil))) (pa_cons (pe_lst (pa_cons (pv 7) (pa_cons (pv 8) pa_nil))) (pa_cons (pe_tup (pa_cons (pv 7) pa_nil)) (pa_cons (pe_tup (pa_cons (pv 7) (pa_cons (pv 8) (pa_cons pe_int pa_nil)))) (pa_cons (pe_tup (pa_cons (pv 8) (pa_cons (pv 7) pa_nil))) pa_nil))))))))) (pg_name (i := 9) sc__law_bent.nd rfl (Or.inl rfl))
      (pss_one (ps_expr (pe_bm PySem.F.plainAttrs_list PySem.F.slot_list_append PySem.F.type_list_append mt_append (pv 6) (pa_cons (pe_tup (pa_cons (pv 3) (pa_cons (pe_op (op_addAnyK (K := K)) (pe_slice (sl_anyK (K := K)) (pv 4) po_none (po_some (pe_un un_neg pe_int))) (pe_tup (pa_cons (pv 9) pa_nil))) pa_nil))) pa_nil)))))
      (pss_cons (ps_set (i := 6) sc__law_bent.nd rfl (Or.inl rfl) (pe_op op_cat (pv 6) (pe_lst (pa_cons (pe_tup (pa_cons (pv 3) (pa_cons (pe_op (op_addAnyK (K := K)) (pv 4) (pe_tup (pa_cons (pe_tup (pa_cons (pv 8) (pa_cons (pe_op (op_addAnyK (K := K)) (pv 8) pe_int) pa_nil))) pa_nil))) pa_nil))) (pa_cons (pe_tup (pa_cons (pv 3) (pa_cons (pe_op (op_addAnyK (K := K)) (pv 4) (pe_tup (pa_cons (pe_tup (pa_cons (pe_op (op_addAnyK (K := K)) (pv 8) pe_int) (pa_cons (pe_op (op_addAnyK (K := K)) (pv 8) pe_int) pa_nil))) pa_nil))) pa_nil))) (pa_cons (pe_tup (pa_cons (pe_op op_sub (pv 8) pe_int) (pa_cons (pv 4) pa_nil))) pa_nil))))))
      (pss_one (ps_set (i := 6) sc__law_bent.nd rfl (Or.inl rfl) (pe_op op_cat (pv 6) (pe_lst (pa_cons (pe_tup (pa_cons (pv 3) (pa_cons (pe_op (op_addAnyK (K := K)) (pe_tup (pa_cons (pe_tup (pa_cons (pe_op op_sub (pv 8) pe_int) (pa_cons (pv 8) pa_nil))) pa_nil)) (pv 4)) pa_nil))) (pa_cons (pe_tup (pa_cons (pv 8) (pa_cons (pv 4) pa_nil))) (pa_cons (pe_tup (pa_cons (pv 3) (pa_cons (pe_backK (K := K) (pv 4)) pa_nil))) pa_nil))))))))))
      pss_nil)
      (pss_cons (ps_if (pt_cmpR (op_eqDK (K := K) hr.units) (My.pe_cx c__law_draw tk hr (by decide) (by rfl) (pa_cons (pv 0) (pa_cons pe_int pa_nil))) pe_int (nomark _))
      (pss_one (ps_ret (My.pe_cx c__law_pick tk hr (by decide) (by rfl) (pa_cons (pv 0) (pa_cons (pe_lst (pa_cons pe_non (pa_cons (pe_tup pa_nil) (pa_cons (pe_callTy (call_tupleK (K := K)) (by rfl) T.b_tuple (by decide +kernel) (pa_cons (pv 1) pa_nil)) (pa_cons (pe_op (op_mulAnyK (K := K)) (pv 1) pe_int) (pa_cons (pe_lst pa_nil) (pa_cons pe_dnewK (pa_cons (pe_ix (ix_anyK (K := K)) (pv 1) pe_int (fun _ _ => rfl)) (pa_cons pe_str (pa_cons pe_int pa_nil)))))))))) pa_nil)))))
      pss_nil)
      (pss_one (ps_ret (pe_op (op_addAnyK (K := K)) (pe_op (op_addAnyK (K := K)) (pe_slice (sl_anyK (K := K)) (pv 1) po_none (po_some (pv 2))) (pe_lst (pa_cons (My.pe_cx c__law_pick tk hr (by decide) (by rfl) (pa_cons (pv 0) (pa_cons (pv 6) pa_nil))) pa_nil))) (pe_slice (sl_anyK (K := K)) (pv 1) (po_some (pe_op (op_addAnyK (K := K)) (pv 2) pe_int)) po_none))))))))))))),
     (sok_seq (sok_asg (eok_callS (aok_cons (eok_cb ok_len (aoks_cons (eok_sn (eok_var (by decide))) aoks_nil)) aok_nil)) (tg_name ⟨by decide, by decide⟩))
      (sok_seq (sok_asg (eok_op ok_ix (eok_sn (eok_var (by decide))) (eok_sn (eok_var (by decide)))) (tg_tup (gs_len_cons (gs_len_cons gs_len_nil)) (tgs_cons (tg_name ⟨by decide, by decide⟩) (tgs_cons (tg_name ⟨by decide, by decide⟩) tgs_nil))))
      (sok_seq (sok_asg (eok_of (fok_lst (aok_cons (eok_c fun _ => .non) (aok_cons (eok_c fun _ => .bl _) (aok_cons (eok_c fun _ => .str _) (aok_cons (eok_un ok_neg (eok_sn (eok_c fun _ => .int _))) (aok_cons (eok_c fun _ => .int _) (aok_cons (eok_var (by decide)) (aok_cons (eok_op ok_add (eok_sn (eok_var (by decide))) (eok_sn (eok_c fun _ => .int _))) (aok_cons (eok_op ok_pow (eok_sn (eok_c fun _ => .int _)) (eok_sn (eok_c fun _ => .int _))) (aok_cons (eok_op ok_add (eok_sn (eok_op ok_pow (eok_sn (eok_c fun _ => .int _)) (eok_sn (eok_c fun _ => .int _)))) (eok_sn (eok_c fun _ => .int _))) (aok_cons (eok_of (fok_lst aok_nil)) (aok_cons (eok_tup aok_nil) (aok_cons (eok_of fok_dict) (aok_cons (eok_tup (aok_cons (eok_c fun _ => .int _) (aok_cons (eok_c fun _ => .int _) aok_nil))) (aok_cons (eok_tup (aok_cons (eok_tup (aok_cons (eok_c fun _ => .int _) (aok_cons (eok_c fun _ => .int _) aok_nil))) aok_nil)) aok_nil)))))))))))))))) (tg_name ⟨by decide, by decide⟩))
      (sok_seq (sok_asg (eok_callS (aok_cons (eok_var (by decide)) aok_nil)) (tg_name ⟨by decide, by decide⟩))
      (sok_seq (sok_post (O' := [6]) (fun _ => true) (sok_own (by decide) (by decide) (fok_lst (aok_cons (eok_var (by decide)) (aok_cons (eok_of (fok_lst (aok_cons (eok_var (by decide)) (aok_cons (eok_var (by decide)) aok_nil)))) (aok_cons (eok_tup (aok_cons (eok_var (by decide)) aok_nil)) (aok_cons (eok_tup (aok_cons (eok_var (by decide)) (aok_cons (eok_var (by decide)) (aok_cons (eok_c fun _ => .int _) aok_nil)))) (aok_cons (eok_tup (aok_cons (eok_var (by decide)) (aok_cons (eok_var (by decide)) aok_nil))) (aok_cons (eok_tup (aok_cons (eok_var (by decide)) (aok_cons (eok_var (by decide)) aok_nil))) (aok_cons (eok_tup (aok_cons (eok_var (by decide)) (aok_cons (eok_cb ok_list (aoks_cons (eok_sn (eok_var (by decide))) aoks_nil)) aok_nil))) aok_nil))))))))) (by intro i; simp only [List.filter_cons, List.filter_nil, List.mem_cons, List.not_mem_nil, or_false, decide_true, if_true, decide_eq_true_eq] <;> first | omega | (simp <;> omega) | simp))
      (sok_seq (sok_drop (fun j => decide (j ∈ ([] : List Nat))) (sok_post (O' := [6]) (fun _ => true) (sok_own (by decide) (by decide) (fok_cat (eok_sn (eok_var (by decide))) (eok_sn (eok_of (fok_lst (aok_cons (eok_tup (aok_cons (eok_var (by decide)) (aok_cons (eok_op ok_add (eok_sn (eok_var (by decide))) (eok_sn (eok_tup (aok_cons (eok_tup (aok_cons (eok_var (by decide)) (aok_cons (eok_op ok_add (eok_sn (eok_var (by decide))) (eok_sn (eok_c fun _ => .int _))) aok_nil))) aok_nil)))) aok_nil))) (aok_cons (eok_tup (aok_cons (eok_var (by decide)) (aok_cons (eok_op ok_add (eok_sn (eok_var (by decide))) (eok_sn (eok_var (by decide)))) aok_nil))) (aok_cons (eok_tup (aok_cons (eok_var (by decide)) (aok_cons (eok_tup (aok_cons (eok_tup (aok_cons (eok_c fun _ => .int _) (aok_cons (eok_var (by decide)) aok_nil))) aok_nil)) aok_nil))) aok_nil)))))))) (by intro i; simp only [List.filter_cons, List.filter_nil, List.mem_cons, List.not_mem_nil, or_false, decide_true, if_true, decide_eq_true_eq] <;> first | omega | (simp <;> omega) | simp)))
      (sok_seq (sok_app (by decide) (eok_tup (aok_cons (eok_var (by decide)) (aok_cons (eok_tup (aok_cons (eok_tup (aok_cons (eok_c fun _ => .int _) (aok_cons (eok_var (by decide)) aok_nil))) (aok_cons (eok_tup (aok_cons (eok_var (by decide)) (aok_cons (eok_var (by decide)) aok_nil))) aok_nil))) aok_nil))))
      (sok_seq (sok_if (tok_valT (eok_sn (eok_op ok_ne (eok_sn (eok_var (by decide))) (eok_sn (eok_tup aok_nil))))) (sok_seq (sok_asg (eok_op ok_ix (eok_sn (eok_var (by decide))) (eok_sn (eok_un ok_neg (eok_sn (eok_c fun _ => .int _))))) (tg_tup (gs_len_cons (gs_len_cons gs_len_nil)) (tgs_cons (tg_name ⟨by decide, by decide⟩) (tgs_cons (tg_name ⟨by decide, by decide⟩) tgs_nil))))
      (sok_seq (sok_for (iok_seq (eok_of (fok_lst (aok_cons (eok_var (by decide)) (aok_cons (eok_tup (aok_cons (eok_var (by decide)) (aok_cons (eok_var (by decide)) aok_nil))) (aok_cons (eok_tup (aok_cons (eok_var (by decide)) (aok_cons (eok_var (by decide)) aok_nil))) (aok_cons (eok_of (fok_lst (aok_cons (eok_var (by decide)) (aok_cons (eok_var (by decide)) aok_nil)))) (aok_cons (eok_tup (aok_cons (eok_var (by decide)) aok_nil)) (aok_cons (eok_tup (aok_cons (eok_var (by decide)) (aok_cons (eok_var (by decide)) (aok_cons (eok_c fun _ => .int _) aok_nil)))) (aok_cons (eok_tup (aok_cons (eok_var (by decide)) (aok_cons (eok_var (by decide)) aok_nil))) aok_nil)))))))))) (tg_name ⟨by decide, by decide⟩) (sok_app (by decide) (eok_tup (aok_cons (eok_var (by decide)) (aok_cons (eok_op ok_add (eok_sn (eok_slice (eok_sn (eok_var (by decide))) of_no (of_so (eok_sn (eok_un ok_neg (eok_sn (eok_c fun _ => .int _))))))) (eok_sn (eok_tup (aok_cons (eok_var (by decide)) aok_nil)))) aok_nil)))))
      (sok_seq (sok_drop (fun j => decide (j ∈ ([] : List Nat))) (sok_post (O' := [6]) (fun _ => true) (sok_own (by decide) (by decide) (fok_cat (eok_sn (eok_var (by decide))) (eok_sn (eok_of (fok_lst (aok_cons (eok_tup (aok_cons (eok_var (by decide)) (aok_cons (eok_op ok_add (eok_sn (eok_var (by decide))) (eok_sn (eok_tup (aok_cons (eok_tup (aok_cons (eok_var (by decide)) (aok_cons (eok_op ok_add (eok_sn (eok_var (by decide))) (eok_sn (eok_c fun _ => .int _))) aok_nil))) aok_nil)))) aok_nil))) (aok_cons (eok_tup (aok_cons (eok_var (by decide)) (aok_cons (eok_op ok_add (eok_sn (eok_var (by decide))) (eok_sn (eok_tup (aok_cons (eok_tup (aok_cons (eok_op ok_add (eok_sn (eok_var (by decide))) (eok_sn (eok_c fun _ => .int _))) (aok_cons (eok_op ok_add (eok_sn (eok_var (by decide))) (eok_sn (eok_c fun _ => .int _))) aok_nil))) aok_nil)))) aok_nil))) (aok_cons (eok_tup (aok_cons (eok_op ok_sub (eok_sn (eok_var (by decide))) (eok_sn (eok_c fun _ => .int _))) (aok_cons (eok_var (by decide)) aok_nil))) aok_nil)))))))) (by intro i; simp only [List.filter_cons, List.filter_nil, List.mem_cons, List.not_mem_nil, or_false, decide_true, if_true, decide_eq_true_eq] <;> first | omega | (simp <;> omega) | simp)))
      (sok_drop (fun j => decide (j ∈ ([] : List Nat))) (sok_post (O' := [6]) (fun _ => true) (sok_own (by decide) (by decide) (fok_cat (eok_sn (eok_var (by decide))) (eok_sn (eok_of (fok_lst (aok_cons (eok_tup (aok_cons (eok_var (by decide)) (aok_cons (eok_op ok_add (eok_sn (eok_tup (aok_cons (eok_tup (aok_cons (eok_op ok_sub (eok_sn (eok_var (by decide))) (eok_sn (eok_c fun _ => .int _))) (aok_cons (eok_var (by decide)) aok_nil))) aok_nil))) (eok_sn (eok_var (by decide)))) aok_nil))) (aok_cons (eok_tup (aok_cons (eok_var (by decide)) (aok_cons (eok_var (by decide)) aok_nil))) (aok_cons (eok_tup (aok_cons (eok_var (by decide)) (aok_cons (eok_un ok_back (eok_sn (eok_var (by decide)))) aok_nil))) aok_nil)))))))) (by intro i; simp only [List.filter_cons, List.filter_nil, List.mem_cons, List.not_mem_nil, or_false, decide_true, if_true, decide_eq_true_eq] <;> first | omega | (simp <;> omega) | simp)))))) sok_nil)
      (sok_seq (sok_if (tok_valT (eok_sn (eok_op ok_eq (eok_sn (eok_callS (aok_cons (eok_c fun _ => .int _) aok_nil))) (eok_sn (eok_c fun _ => .int _))))) (sok_ret (eok_callS (aok_cons (eok_of (fok_lst (aok_cons (eok_c fun _ => .non) (aok_cons (eok_tup aok_nil) (aok_cons (eok_cb ok_tuple (aoks_cons (eok_sn (eok_var (by decide))) aoks_nil)) (aok_cons (eok_op ok_mul (eok_sn (eok_var (by decide))) (eok_sn (eok_c fun _ => .int _))) (aok_cons (eok_of (fok_lst aok_nil)) (aok_cons (eok_of fok_dict) (aok_cons (eok_op ok_ix (eok_sn (eok_var (by decide))) (eok_sn (eok_c fun _ => .int _))) (aok_cons (eok_c fun _ => .str _) (aok_cons (eok_c fun _ => .int _) aok_nil))))))))))) aok_nil))) sok_nil)
      (sok_drop (fun j => decide (j ∈ ([] : List Nat))) (sok_ret (eok_op ok_add (eok_sn (eok_op ok_add (eok_sn (eok_slice (eok_sn (eok_var (by decide))) of_no (of_so (eok_sn (eok_var (by decide)))))) (eok_sn (eok_of (fok_lst (aok_cons (eok_callS (aok_cons (eok_var (by decide)) aok_nil)) aok_nil)))))) (eok_sn (eok_slice (eok_sn (eok_var (by decide))) (of_so (eok_sn (eok_op ok_add (eok_sn (eok_var (by decide))) (eok_sn (eok_c fun _ => .int _))))) of_no))))))))))))))⟩
end My

set_option Elab.async false
set_option linter.all false
set_option maxRecDepth 100000
set_option maxHeartbeats 4000000
namespace My
open PySem PySem.Spec PyProof.Rows L2
open C8 (Cal pe_c pe_gc)
variable {P : Program} {w : World} {K : PySem.W.Frag} {mg : Str → Option Value} {base : Heap} {D : String → Addr}
theorem ok_law (T : Txt K mg D) {f : Addr} {fd : FuncData} (F : Fun K "law" "law" s_law f fd) (c__law_source : CalX P w K mg base 1 "_law_source" (spSource K)) (c__law_family : CalX P w K mg base 3 "_law_family" (spS K D 1 F__law_family)) (c__law_right : CalX P w K mg base 11 "_law_right" (spU K D 1 F__law_right)) (c__law_are_families : CalX P w K mg base 3 "_law_are_families" (spU K D 1 F__law_are_families)) (c_below : CalX P w K mg base 5 "below" (spU K D 2 F_below)) (c__law_bent : CalX P w K mg base 3 "_law_bent" (spS K D 1 F__law_bent)) (c__law_draw : CalX P w K mg base 1 "_law_draw" (spS K D 1 F__law_draw)) : FnOk P w K mg base L2.CX0 12 f fd ["_law_script"] (sp_law K) := by
  refine F.ok sc_law (fun vs H Q E h => ?len) (fun cdv A outer s H vs Q E hr h => ?body)
  case len => obtain ⟨_, _, rfl, _⟩ := h; rfl
  case body =>
    have tk : Takes (cxOf CX0 P w K mg base nm_law "law" (defScope s_law) f cdv A outer s H E).nox (fun _ _ _ _ => False) := takes0
    exact ⟨_, pss_cons (ps_set (i := 1) sc_law.nd rfl (by first | exact Or.inr rfl | exact Or.inl rfl) (My.pe_cx c__law_source tk hr (by decide) (by rfl) (pa_cons (pv 0) pa_nil)))
     (pss_cons (ps_for PassesOwn.never rfl (pi_seqK (K := K) (pe_lst (pa_cons pe_int (pa_cons pe_int (pa_cons pe_int pa_nil))))) (pg_name (i := 2) sc_law.nd rfl (Or.inl rfl))
      (pss_cons (ps_set (i := 3) sc_law.nd rfl (Or.inl rfl) (pe_tup (pa_cons pe_int (pa_cons (pe_callTy (call_tupleK (K := K)) (by rfl) T.b_tuple (by decide +kernel) (pa_cons (pe_lc (own := [("_law_k", 12)]) (by rfl) sc_law.nd (pi_range1 (by rfl) T.b_range (pa_cons (pv 2) pa_nil)) (blkOk_by (own := [("_law_k", 12)]) (N := nm_law) (sc := defScope s_law) (by decide +kernel)) (fun _ _ _ _ _ => (pg_name (i := 12) sc_law.nd rfl (Or.inl rfl))) (fun _ _ _ _ _ => pts_nil) (fun _ _ _ _ _ => (pe_tup (pa_cons (pe_op (op_mulAnyK (K := K)) pe_int (pv 12)) (pa_cons (pe_op (op_addAnyK (K := K)) (pe_op (op_mulAnyK (K := K)) pe_int (pv 12)) pe_int) pa_nil))))) pa_nil)) pa_nil))))
      (pss_cons (ps_if (PW.pt (pw_or (pt_not (pt_truthK (K := K) (My.pe_cx c__law_right tk hr (by decide) (by rfl) (pa_cons (pe_lst (pa_cons (pv 3) pa_nil)) pa_nil)) (fun _ => rfl))) (pw_or1 (pt_not (pt_truthK (K := K) (My.pe_cx c__law_right tk hr (by decide) (by rfl) (pa_cons (pe_lst (pa_cons (pe_tup (pa_cons pe_int (pa_cons (pe_tup (pa_cons (pe_tup (pa_cons pe_int (pa_cons pe_int pa_nil))) pa_nil)) pa_nil))) (pa_cons (pv 3) pa_nil))) pa_nil)) (fun _ => rfl))))))
      (pss_one (ps_ret pe_bl))
      pss_nil)
      (pss_one (ps_if (PW.pt (pw_or (pt_not (pt_truthK (K := K) (My.pe_cx c__law_right tk hr (by decide) (by rfl) (pa_cons (pe_lst (pa_cons (pe_tup (pa_cons pe_int (pa_cons (pe_tup (pa_cons (pe_tup (pa_cons pe_int (pa_cons pe_int pa_nil))) (pa_cons (pe_tup (pa_cons pe_int (pa_cons pe_int pa_nil))) pa_nil))) pa_nil))) (pa_cons (pv 3) pa_nil))) pa_nil)) (fun _ => rfl))) (pw_or1 (pt_not (pt_truthK (K := K) (My.pe_cx c__law_right tk hr (by decide) (by rfl) (pa_cons (pe_lst (pa_cons (pv 3) (pa_cons (pe_tup (pa_cons pe_int (pa_cons (pe_tup pa_nil) pa_nil))) pa_nil))) pa_nil)) (fun _ => rfl))))))
      (pss_one (ps_ret pe_bl))
      pss_nil)))))
      (pss_cons (ps_set (i := 4) sc_law.nd rfl (Or.inl rfl) (pe_callTy (call_tupleK (K := K)) (by rfl) T.b_tuple (by decide +kernel) (pa_cons (pe_lc (own := [("_law_k", 12)]) (by rfl) sc_law.nd (pi_range1 (by rfl) T.b_range (pa_cons pe_int pa_nil)) (blkOk_by (own := [("_law_k", 12)]) (N := nm_law) (sc := defScope s_law) (by decide +kernel)) (fun _ _ _ _ _ => (pg_name (i := 12) sc_law.nd rfl (Or.inl rfl))) (fun _ _ _ _ _ => pts_nil) (fun _ _ _ _ _ => (pe_tup (pa_cons (pe_op (op_mulAnyK (K := K)) pe_int (pv 12)) (pa_cons (pe_op (op_addAnyK (K := K)) (pe_op (op_mulAnyK (K := K)) pe_int (pv 12)) pe_int) pa_nil))))) pa_nil)))
      (pss_cons (ps_for PassesOwn.never rfl (pi_seqK (K := K) (pe_lst (pa_cons (pe_tup (pa_cons (pe_tup (pa_cons pe_int (pa_cons (pv 4) pa_nil))) (pa_cons (pe_tup (pa_cons pe_int (pa_cons (pe_slice (sl_anyK (K := K)) (pv 4) po_none (po_some pe_int)) pa_nil))) pa_nil))) (pa_cons (pe_tup (pa_cons (pe_tup (pa_cons pe_int (pa_cons (pe_slice (sl_anyK (K := K)) (pv 4) po_none (po_some pe_int)) pa_nil))) (pa_cons (pe_tup (pa_cons pe_int (pa_cons (pe_slice (sl_anyK (K := K)) (pv 4) po_none (po_some pe_int)) pa_nil))) pa_nil))) (pa_cons (pe_tup (pa_cons (pe_tup (pa_cons pe_int (pa_cons (pe_slice (sl_anyK (K := K)) (pv 4) po_none (po_some pe_int)) pa_nil))) (pa_cons (pe_tup (pa_cons pe_int (pa_cons (pe_slice (sl_anyK (K := K)) (pv 4) po_none (po_some pe_int)) pa_nil))) pa_nil))) pa_nil))))) (pg_tupK (K := K) (pg_tup (by rfl) (pgs_cons (pg_name (i := 5) sc_law.nd rfl (Or.inl rfl)) (pgs_cons (pg_name (i := 6) sc_law.nd rfl (Or.inl rfl)) pgs_nil))))
      (pss_one (ps_if (PW.pt (pw_or (pt_not (pt_truthK (K := K) (My.pe_cx c__law_right tk hr (by decide) (by rfl) (pa_cons (pe_lst (pa_cons (pv 5) (pa_cons (pv 6) pa_nil))) pa_nil)) (fun _ => rfl))) (pw_or (pt_not (pt_truthK (K := K) (My.pe_cx c__law_right tk hr (by decide) (by rfl) (pa_cons (pe_lst (pa_cons (pv 6) (pa_cons (pv 5) pa_nil))) pa_nil)) (fun _ => rfl))) (pw_or1 (pt_not (pt_truthK (K := K) (My.pe_cx c__law_right tk hr (by decide) (by rfl) (pa_cons (pe_lst (pa_cons (pv 5) pa_nil)) pa_nil)) (fun _ => rfl)))))))
      (pss_one (ps_ret pe_bl))
      pss_nil)))
      (pss_cons (ps_for PassesOwn.never rfl (pi_range1 (by rfl) T.b_range (pa_cons pe_int pa_nil)) (pg_name (i := 7) sc_law.nd rfl (by first | exact Or.inr rfl | exact Or.inl rfl))
      (pss_cons (ps_setLc (i := 8) (own := [("_law_k", 12)]) (by rfl) sc_law.nd rfl rfl (sw_true rfl rfl rfl (by decide +kernel)) (pi_range1 (by rfl) T.b_range (pa_cons (pe_op (op_addAnyK (K := K)) pe_int (My.pe_cx c__law_draw tk hr (by decide) (by rfl) (pa_cons (pv 1) (pa_cons pe_int pa_nil)))) pa_nil)) (blkOk_by (own := [("_law_k", 12)]) (N := nm_law) (sc := defScope s_law) (by decide +kernel)) (fun _ _ _ _ _ => (pg_name (i := 12) sc_law.nd rfl (Or.inl rfl))) (fun _ _ _ _ _ => pts_nil) (fun _ _ _ _ _ => (My.pe_cx c__law_family takes0 hr (by decide) (by rfl) (pa_cons (pv 1) (pa_cons (pe_ix (ix_anyK (K := K)) (pe_lst (pa_cons pe_int (pa_cons (pe_op My.op_powW pe_int pe_int) pa_nil))) (pe_op op_mod (pv 7) pe_int) (fun _ _ => rfl)) pa_nil)))))
      (pss_cons (ps_if (PW.pt (pw_or (pt_not (pt_truthK (K := K) (My.pe_cx c__law_are_families tk hr (by decide) (by rfl) (pa_cons (pv 8) pa_nil)) (fun _ => rfl))) (pw_or (pt_not (pt_truthK (K := K) (My.pe_cx c__law_right tk hr (by decide) (by rfl) (pa_cons (pv 8) pa_nil)) (fun _ => rfl))) (pw_or1 (pt_not (pt_truthK (K := K) (My.pe_cx c__law_right tk hr (by decide) (by rfl) (pa_cons (My.pe_cx c__law_bent tk hr (by decide) (by rfl) (pa_cons (pv 1) (pa_cons (pv 8) pa_nil))) pa_nil)) (fun _ => rfl)))))))
      (pss_one (ps_ret pe_bl))
      pss_nil)
      (pss_one (ps_for PassesOwn.never rfl (pi_seqK (K := K) (pe_lst (pa_cons pe_bl (pa_cons pe_bl (pa_cons pe_str (pa_cons (pe_lst pa_nil) (pa_cons (pe_tup (pa_cons pe_int pa_nil)) (pa_cons (pe_op op_sub (pe_un un_neg pe_int) (pv 7)) pa_nil)))))))) (pg_name (i := 9) sc_law.nd rfl (Or.inl rfl))
      (pss_cons (ps_set (i := 10) sc_law.nd rfl (Or.inl rfl) pe_non)
      (pss_cons (My.ps_try_keep (i := 11) rfl rfl rfl sc_law.nd rfl rfl (Or.inl rfl) (Or.inl rfl) ⟨by rfl, by decide, Or.inl T.v_InvalidNumber⟩ tk (fun _ _ _ tk1 po1 => (pss_one (ps_expr (My.pe_cx c_below tk1 hr (by decide) (by rfl) (pa_cons (pv 8) (pa_cons (pv 9) pa_nil))))))
      (fun _ _ _ => (pss_one (ps_set (i := 10) sc_law.nd rfl (Or.inl rfl) (pv 11)))))
      (pss_one (ps_if (pt_cmpR op_isN (pv 10) pe_non (nomark _))
      (pss_one (ps_ret pe_bl))
      pss_nil)))))))))
      (pss_one (ps_ret pe_bl)))))), law_run (O' := []) (m := 12) rfl
     (sok_seq (sok_for (iok_seq (eok_of (fok_lst (aok_cons (eok_c fun _ => .int _) (aok_cons (eok_c fun _ => .int _) (aok_cons (eok_c fun _ => .int _) aok_nil)))))) (tg_name ⟨by decide, by decide⟩) (sok_seq (sok_asg (eok_tup (aok_cons (eok_c fun _ => .int _) (aok_cons (eok_cb ok_tuple (aoks_cons (eok_sn (eok_of (fok_lc (vs := [12]) (by decide) (iok_rng1 (aoks_cons (eok_sn (eok_var (by decide))) aoks_nil)) (tg_name ⟨by decide, by decide, by decide⟩) tok_yes (eok_tup (aok_cons (eok_op ok_mul (eok_sn (eok_c fun _ => .int _)) (eok_sn (eok_var (by decide)))) (aok_cons (eok_op ok_add (eok_sn (eok_op ok_mul (eok_sn (eok_c fun _ => .int _)) (eok_sn (eok_var (by decide))))) (eok_sn (eok_c fun _ => .int _))) aok_nil)))))) aoks_nil)) aok_nil))) (tg_name ⟨by decide, by decide⟩))
      (sok_seq (sok_if (tok_or (tok_not (tok_tru (eok_sn (eok_call (aok_cons (eok_of (fok_lst (aok_cons (eok_var (by decide)) aok_nil))) aok_nil))))) (tok_not (tok_tru (eok_sn (eok_call (aok_cons (eok_of (fok_lst (aok_cons (eok_tup (aok_cons (eok_c fun _ => .int _) (aok_cons (eok_tup (aok_cons (eok_tup (aok_cons (eok_c fun _ => .int _) (aok_cons (eok_c fun _ => .int _) aok_nil))) aok_nil)) aok_nil))) (aok_cons (eok_var (by decide)) aok_nil)))) aok_nil)))))) (sok_ret (eok_c fun _ => .bl _)) sok_nil)
      (sok_if (tok_or (tok_not (tok_tru (eok_sn (eok_call (aok_cons (eok_of (fok_lst (aok_cons (eok_tup (aok_cons (eok_c fun _ => .int _) (aok_cons (eok_tup (aok_cons (eok_tup (aok_cons (eok_c fun _ => .int _) (aok_cons (eok_c fun _ => .int _) aok_nil))) (aok_cons (eok_tup (aok_cons (eok_c fun _ => .int _) (aok_cons (eok_c fun _ => .int _) aok_nil))) aok_nil))) aok_nil))) (aok_cons (eok_var (by decide)) aok_nil)))) aok_nil))))) (tok_not (tok_tru (eok_sn (eok_call (aok_cons (eok_of (fok_lst (aok_cons (eok_var (by decide)) (aok_cons (eok_tup (aok_cons (eok_c fun _ => .int _) (aok_cons (eok_tup aok_nil) aok_nil))) aok_nil)))) aok_nil)))))) (sok_ret (eok_c fun _ => .bl _)) sok_nil))))
      (sok_seq (sok_asg (eok_cb ok_tuple (aoks_cons (eok_sn (eok_of (fok_lc (vs := [12]) (by decide) (iok_rng1 (aoks_cons (eok_sn (eok_c fun _ => .int _)) aoks_nil)) (tg_name ⟨by decide, by decide, by decide⟩) tok_yes (eok_tup (aok_cons (eok_op ok_mul (eok_sn (eok_c fun _ => .int _)) (eok_sn (eok_var (by decide)))) (aok_cons (eok_op ok_add (eok_sn (eok_op ok_mul (eok_sn (eok_c fun _ => .int _)) (eok_sn (eok_var (by decide))))) (eok_sn (eok_c fun _ => .int _))) aok_nil)))))) aoks_nil)) (tg_name ⟨by decide, by decide⟩))
      (sok_seq (sok_for (iok_seq (eok_of (fok_lst (aok_cons (eok_tup (aok_cons (eok_tup (aok_cons (eok_c fun _ => .int _) (aok_cons (eok_var (by decide)) aok_nil))) (aok_cons (eok_tup (aok_cons (eok_c fun _ => .int _) (aok_cons (eok_slice (eok_sn (eok_var (by decide))) of_no (of_so (eok_sn (eok_c fun _ => .int _)))) aok_nil))) aok_nil))) (aok_cons (eok_tup (aok_cons (eok_tup (aok_cons (eok_c fun _ => .int _) (aok_cons (eok_slice (eok_sn (eok_var (by decide))) of_no (of_so (eok_sn (eok_c fun _ => .int _)))) aok_nil))) (aok_cons (eok_tup (aok_cons (eok_c fun _ => .int _) (aok_cons (eok_slice (eok_sn (eok_var (by decide))) of_no (of_so (eok_sn (eok_c fun _ => .int _)))) aok_nil))) aok_nil))) (aok_cons (eok_tup (aok_cons (eok_tup (aok_cons (eok_c fun _ => .int _) (aok_cons (eok_slice (eok_sn (eok_var (by decide))) of_no (of_so (eok_sn (eok_c fun _ => .int _)))) aok_nil))) (aok_cons (eok_tup (aok_cons (eok_c fun _ => .int _) (aok_cons (eok_slice (eok_sn (eok_var (by decide))) of_no (of_so (eok_sn (eok_c fun _ => .int _)))) aok_nil))) aok_nil))) aok_nil)))))) (tg_tup (gs_len_cons (gs_len_cons gs_len_nil)) (tgs_cons (tg_name ⟨by decide, by decide⟩) (tgs_cons (tg_name ⟨by decide, by decide⟩) tgs_nil))) (sok_if (tok_or (tok_not (tok_tru (eok_sn (eok_call (aok_cons (eok_of (fok_lst (aok_cons (eok_var (by decide)) (aok_cons (eok_var (by decide)) aok_nil)))) aok_nil))))) (tok_or (tok_not (tok_tru (eok_sn (eok_call (aok_cons (eok_of (fok_lst (aok_cons (eok_var (by decide)) (aok_cons (eok_var (by decide)) aok_nil)))) aok_nil))))) (tok_not (tok_tru (eok_sn (eok_call (aok_cons (eok_of (fok_lst (aok_cons (eok_var (by decide)) aok_nil))) aok_nil))))))) (sok_ret (eok_c fun _ => .bl _)) sok_nil))
      (sok_seq (sok_for (iok_rng1 (aoks_cons (eok_sn (eok_c fun _ => .int _)) aoks_nil)) (tg_name ⟨by decide, by decide⟩) (sok_seq (sok_asg (eok_of (fok_lc (vs := [12]) (by decide) (iok_rng1 (aoks_cons (eok_sn (eok_op ok_add (eok_sn (eok_c fun _ => .int _)) (eok_sn (eok_callS (aok_cons (eok_c fun _ => .int _) aok_nil))))) aoks_nil)) (tg_name ⟨by decide, by decide, by decide⟩) tok_yes (eok_callS (aok_cons (eok_op ok_ix (eok_sn (eok_of (fok_lst (aok_cons (eok_c fun _ => .int _) (aok_cons (eok_op ok_pow (eok_sn (eok_c fun _ => .int _)) (eok_sn (eok_c fun _ => .int _))) aok_nil))))) (eok_sn (eok_op ok_mod (eok_sn (eok_var (by decide))) (eok_sn (eok_c fun _ => .int _))))) aok_nil)))) (tg_name ⟨by decide, by decide⟩))
      (sok_seq (sok_if (tok_or (tok_not (tok_tru (eok_sn (eok_call (aok_cons (eok_var (by decide)) aok_nil))))) (tok_or (tok_not (tok_tru (eok_sn (eok_call (aok_cons (eok_var (by decide)) aok_nil))))) (tok_not (tok_tru (eok_sn (eok_call (aok_cons (eok_callS (aok_cons (eok_var (by decide)) aok_nil)) aok_nil))))))) (sok_ret (eok_c fun _ => .bl _)) sok_nil)
      (sok_for (iok_seq (eok_of (fok_lst (aok_cons (eok_c fun _ => .bl _) (aok_cons (eok_c fun _ => .bl _) (aok_cons (eok_c fun _ => .str _) (aok_cons (eok_of (fok_lst aok_nil)) (aok_cons (eok_tup (aok_cons (eok_c fun _ => .int _) aok_nil)) (aok_cons (eok_op ok_sub (eok_sn (eok_un ok_neg (eok_sn (eok_c fun _ => .int _)))) (eok_sn (eok_var (by decide)))) aok_nil))))))))) (tg_name ⟨by decide, by decide⟩) (sok_seq (sok_asg (eok_c fun _ => .non) (tg_name ⟨by decide, by decide⟩))
      (sok_seq (sok_try ⟨by decide, by decide⟩ ⟨by decide, by decide⟩ rfl T.kls (by decide) (fun _ => (sok_drop1 (eok_call (aok_cons (eok_var (by decide)) (aok_cons (eok_var (by decide)) aok_nil))))))
      (sok_if (tok_valT (eok_sn (eok_op ok_is (eok_sn (eok_var (by decide))) (eok_sn (eok_c fun _ => .non))))) (sok_ret (eok_c fun _ => .bl _)) sok_nil)))))))
      (sok_ret (eok_c fun _ => .bl _)))))) law_true h (by decide)⟩
end My

set_option Elab.async false
set_option linter.all false
set_option maxRecDepth 100000
set_option maxHeartbeats 4000000
namespace My
open PySem PySem.Spec PyProof.Rows L2
open C8 (Cal pe_c pe_gc)
variable {P : Program} {w : World} {K : PySem.W.Frag} {mg : Str → Option Value} {base : Heap} {D : String → Addr}
theorem all_mk {P : Program} {w : World} {K : PySem.W.Frag} {h : Heap} {mg : Str → Option Value} {fa : Addr} (X : K.In h) (G : h.Ns mainGlobals mg) (hfa : mg "law" = some (.ref fa))
    {f0 f1 f2 f3 f4 f5 f6 f7 f8 f9 f10 f11 f12 f13 f14 f15 f16 f17 f18 f19 f20 f21 f22 f23 f24 f25 f26 f27 f28 f29 f30 f31 f32 f33 f34 f35 f36 : Addr} {od0 an0 od1 an1 od2 an2 od3 an3 od4 an4 od5 an5 od6 an6 od7 an7 od8 an8 od9 an9 od10 an10 od11 an11 od12 an12 od13 an13 od14 an14 od15 an15 od16 an16 od17 an17 od18 an18 od19 an19 od20 an20 od21 an21 od22 an22 od23 an23 od24 an24 od25 an25 od26 an26 od27 an27 od28 an28 od29 an29 od30 an30 od31 an31 od32 an32 od33 an33 od34 an34 od35 an35 od36 an36 : Option Addr} {sl0 sl1 sl2 sl3 sl4 sl5 sl6 sl7 sl8 sl9 sl10 sl11 sl12 sl13 sl14 sl15 sl16 sl17 sl18 sl19 sl20 sl21 sl22 sl23 sl24 sl25 sl26 sl27 sl28 sl29 sl30 sl31 sl32 sl33 sl34 sl35 sl36 : Array (Option Value)} {oc0 kV0 dc0 pm0 cd0 ct0 oc1 kV1 dc1 pm1 cd1 ct1 oc2 kV2 dc2 pm2 cd2 ct2 oc3 kV3 dc3 pm3 cd3 ct3 oc4 kV4 dc4 pm4 cd4 ct4 oc5 kV5 dc5 pm5 cd5 ct5 oc6 kV6 dc6 pm6 cd6 ct6 oc7 kV7 dc7 pm7 cd7 ct7 oc8 kV8 dc8 pm8 cd8 ct8 oc9 kV9 dc9 pm9 cd9 ct9 oc10 kV10 dc10 pm10 cd10 ct10 oc11 kV11 dc11 pm11 cd11 ct11 oc12 kV12 dc12 pm12 cd12 ct12 oc13 kV13 dc13 pm13 cd13 ct13 oc14 kV14 dc14 pm14 cd14 ct14 oc15 kV15 dc15 pm15 cd15 ct15 oc16 kV16 dc16 pm16 cd16 ct16 oc17 kV17 dc17 pm17 cd17 ct17 oc18 kV18 dc18 pm18 cd18 ct18 oc19 kV19 dc19 pm19 cd19 ct19 oc20 kV20 dc20 pm20 cd20 ct20 oc21 kV21 dc21 pm21 cd21 ct21 oc22 kV22 dc22 pm22 cd22 ct22 oc23 kV23 dc23 pm23 cd23 ct23 oc24 kV24 dc24 pm24 cd24 ct24 oc25 kV25 dc25 pm25 cd25 ct25 oc26 kV26 dc26 pm26 cd26 ct26 oc27 kV27 dc27 pm27 cd27 ct27 oc28 kV28 dc28 pm28 cd28 ct28 oc29 kV29 dc29 pm29 cd29 ct29 oc30 kV30 dc30 pm30 cd30 ct30 oc31 kV31 dc31 pm31 cd31 ct31 oc32 kV32 dc32 pm32 cd32 ct32 oc33 kV33 dc33 pm33 cd33 ct33 oc34 kV34 dc34 pm34 cd34 ct34 oc35 kV35 dc35 pm35 cd35 ct35 oc36 kV36 dc36 pm36 cd36 ct36 : Value}
    (a0 : PySem.W.nsIn K mainGlobals "is_integer" = some (some (.ref f0))) (l0 : K.lookup f0 = some ⟨oc0, od0, .func (PySem.W.fnOf "is_integer" "is_integer" (defArgs s_is_integer) (defBody s_is_integer) (defScope s_is_integer) .none kV0 dc0 pm0 an0 cd0 ct0), sl0⟩) (c0 : PySem.W.codeIn K cd0 "is_integer" = true) (k0 : PySem.W.keepIn K (.ref f0) = true)
    (a1 : PySem.W.nsIn K mainGlobals "is_natural" = some (some (.ref f1))) (l1 : K.lookup f1 = some ⟨oc1, od1, .func (PySem.W.fnOf "is_natural" "is_natural" (defArgs s_is_natural) (defBody s_is_natural) (defScope s_is_natural) .none kV1 dc1 pm1 an1 cd1 ct1), sl1⟩) (c1 : PySem.W.codeIn K cd1 "is_natural" = true) (k1 : PySem.W.keepIn K (.ref f1) = true)
    (a2 : PySem.W.nsIn K mainGlobals "common_multiple" = some (some (.ref f2))) (l2 : K.lookup f2 = some ⟨oc2, od2, .func (PySem.W.fnOf "common_multiple" "common_multiple" (defArgs s_common_multiple) (defBody s_common_multiple) (defScope s_common_multiple) .none kV2 dc2 pm2 an2 cd2 ct2), sl2⟩) (c2 : PySem.W.codeIn K cd2 "common_multiple" = true) (k2 : PySem.W.keepIn K (.ref f2) = true)
    (a3 : PySem.W.nsIn K mainGlobals "fraction" = some (some (.ref f3))) (l3 : K.lookup f3 = some ⟨oc3, od3, .func (PySem.W.fnOf "fraction" "fraction" (defArgs s_fraction) (defBody s_fraction) (defScope s_fraction) .none kV3 dc3 pm3 an3 cd3 ct3), sl3⟩) (c3 : PySem.W.codeIn K cd3 "fraction" = true) (k3 : PySem.W.keepIn K (.ref f3) = true)
    (a4 : PySem.W.nsIn K mainGlobals "within" = some (some (.ref f4))) (l4 : K.lookup f4 = some ⟨oc4, od4, .func (PySem.W.fnOf "within" "within" (defArgs s_within) (defBody s_within) (defScope s_within) .none kV4 dc4 pm4 an4 cd4 ct4), sl4⟩) (c4 : PySem.W.codeIn K cd4 "within" = true) (k4 : PySem.W.keepIn K (.ref f4) = true)
    (a5 : PySem.W.nsIn K mainGlobals "below_in_run" = some (some (.ref f5))) (l5 : K.lookup f5 = some ⟨oc5, od5, .func (PySem.W.fnOf "below_in_run" "below_in_run" (defArgs s_below_in_run) (defBody s_below_in_run) (defScope s_below_in_run) .none kV5 dc5 pm5 an5 cd5 ct5), sl5⟩) (c5 : PySem.W.codeIn K cd5 "below_in_run" = true) (k5 : PySem.W.keepIn K (.ref f5) = true)
    (a6 : PySem.W.nsIn K mainGlobals "window_of_one" = some (some (.ref f6))) (l6 : K.lookup f6 = some ⟨oc6, od6, .func (PySem.W.fnOf "window_of_one" "window_of_one" (defArgs s_window_of_one) (defBody s_window_of_one) (defScope s_window_of_one) .none kV6 dc6 pm6 an6 cd6 ct6), sl6⟩) (c6 : PySem.W.codeIn K cd6 "window_of_one" = true) (k6 : PySem.W.keepIn K (.ref f6) = true)
    (a7 : PySem.W.nsIn K mainGlobals "window_of_two" = some (some (.ref f7))) (l7 : K.lookup f7 = some ⟨oc7, od7, .func (PySem.W.fnOf "window_of_two" "window_of_two" (defArgs s_window_of_two) (defBody s_window_of_two) (defScope s_window_of_two) .none kV7 dc7 pm7 an7 cd7 ct7), sl7⟩) (c7 : PySem.W.codeIn K cd7 "window_of_two" = true) (k7 : PySem.W.keepIn K (.ref f7) = true)
    (a8 : PySem.W.nsIn K mainGlobals "count_in" = some (some (.ref f8))) (l8 : K.lookup f8 = some ⟨oc8, od8, .func (PySem.W.fnOf "count_in" "count_in" (defArgs s_count_in) (defBody s_count_in) (defScope s_count_in) .none kV8 dc8 pm8 an8 cd8 ct8), sl8⟩) (c8 : PySem.W.codeIn K cd8 "count_in" = true) (k8 : PySem.W.keepIn K (.ref f8) = true)
    (a9 : PySem.W.nsIn K mainGlobals "common_in_circle" = some (some (.ref f9))) (l9 : K.lookup f9 = some ⟨oc9, od9, .func (PySem.W.fnOf "common_in_circle" "common_in_circle" (defArgs s_common_in_circle) (defBody s_common_in_circle) (defScope s_common_in_circle) .none kV9 dc9 pm9 an9 cd9 ct9), sl9⟩) (c9 : PySem.W.codeIn K cd9 "common_in_circle" = true) (k9 : PySem.W.keepIn K (.ref f9) = true)
    (a10 : PySem.W.nsIn K mainGlobals "pairs_of_runs" = some (some (.ref f10))) (l10 : K.lookup f10 = some ⟨oc10, od10, .func (PySem.W.fnOf "pairs_of_runs" "pairs_of_runs" (defArgs s_pairs_of_runs) (defBody s_pairs_of_runs) (defScope s_pairs_of_runs) .none kV10 dc10 pm10 an10 cd10 ct10), sl10⟩) (c10 : PySem.W.codeIn K cd10 "pairs_of_runs" = true) (k10 : PySem.W.keepIn K (.ref f10) = true)
    (a11 : PySem.W.nsIn K mainGlobals "common_period" = some (some (.ref f11))) (l11 : K.lookup f11 = some ⟨oc11, od11, .func (PySem.W.fnOf "common_period" "common_period" (defArgs s_common_period) (defBody s_common_period) (defScope s_common_period) .none kV11 dc11 pm11 an11 cd11 ct11), sl11⟩) (c11 : PySem.W.codeIn K cd11 "common_period" = true) (k11 : PySem.W.keepIn K (.ref f11) = true)
    (a12 : PySem.W.nsIn K mainGlobals "count_in_period" = some (some (.ref f12))) (l12 : K.lookup f12 = some ⟨oc12, od12, .func (PySem.W.fnOf "count_in_period" "count_in_period" (defArgs s_count_in_period) (defBody s_count_in_period) (defScope s_count_in_period) .none kV12 dc12 pm12 an12 cd12 ct12), sl12⟩) (c12 : PySem.W.codeIn K cd12 "count_in_period" = true) (k12 : PySem.W.keepIn K (.ref f12) = true)
    (a13 : PySem.W.nsIn K mainGlobals "period_of" = some (some (.ref f13))) (l13 : K.lookup f13 = some ⟨oc13, od13, .func (PySem.W.fnOf "period_of" "period_of" (defArgs s_period_of) (defBody s_period_of) (defScope s_period_of) .none kV13 dc13 pm13 an13 cd13 ct13), sl13⟩) (c13 : PySem.W.codeIn K cd13 "period_of" = true) (k13 : PySem.W.keepIn K (.ref f13) = true)
    (a14 : PySem.W.nsIn K mainGlobals "whole_count" = some (some (.ref f14))) (l14 : K.lookup f14 = some ⟨oc14, od14, .func (PySem.W.fnOf "whole_count" "whole_count" (defArgs s_whole_count) (defBody s_whole_count) (defScope s_whole_count) .none kV14 dc14 pm14 an14 cd14 ct14), sl14⟩) (c14 : PySem.W.codeIn K cd14 "whole_count" = true) (k14 : PySem.W.keepIn K (.ref f14) = true)
    (a15 : PySem.W.nsIn K mainGlobals "share_of_sum" = some (some (.ref f15))) (l15 : K.lookup f15 = some ⟨oc15, od15, .func (PySem.W.fnOf "share_of_sum" "share_of_sum" (defArgs s_share_of_sum) (defBody s_share_of_sum) (defScope s_share_of_sum) .none kV15 dc15 pm15 an15 cd15 ct15), sl15⟩) (c15 : PySem.W.codeIn K cd15 "share_of_sum" = true) (k15 : PySem.W.keepIn K (.ref f15) = true)
    (a16 : PySem.W.nsIn K mainGlobals "below_of_sum" = some (some (.ref f16))) (l16 : K.lookup f16 = some ⟨oc16, od16, .func (PySem.W.fnOf "below_of_sum" "below_of_sum" (defArgs s_below_of_sum) (defBody s_below_of_sum) (defScope s_below_of_sum) .none kV16 dc16 pm16 an16 cd16 ct16), sl16⟩) (c16 : PySem.W.codeIn K cd16 "below_of_sum" = true) (k16 : PySem.W.keepIn K (.ref f16) = true)
    (a17 : PySem.W.nsIn K mainGlobals "nth_of_sum" = some (some (.ref f17))) (l17 : K.lookup f17 = some ⟨oc17, od17, .func (PySem.W.fnOf "nth_of_sum" "nth_of_sum" (defArgs s_nth_of_sum) (defBody s_nth_of_sum) (defScope s_nth_of_sum) .none kV17 dc17 pm17 an17 cd17 ct17), sl17⟩) (c17 : PySem.W.codeIn K cd17 "nth_of_sum" = true) (k17 : PySem.W.keepIn K (.ref f17) = true)
    (a18 : PySem.W.nsIn K mainGlobals "is_run" = some (some (.ref f18))) (l18 : K.lookup f18 = some ⟨oc18, od18, .func (PySem.W.fnOf "is_run" "is_run" (defArgs s_is_run) (defBody s_is_run) (defScope s_is_run) .none kV18 dc18 pm18 an18 cd18 ct18), sl18⟩) (c18 : PySem.W.codeIn K cd18 "is_run" = true) (k18 : PySem.W.keepIn K (.ref f18) = true)
    (a19 : PySem.W.nsIn K mainGlobals "is_family" = some (some (.ref f19))) (l19 : K.lookup f19 = some ⟨oc19, od19, .func (PySem.W.fnOf "is_family" "is_family" (defArgs s_is_family) (defBody s_is_family) (defScope s_is_family) .none kV19 dc19 pm19 an19 cd19 ct19), sl19⟩) (c19 : PySem.W.codeIn K cd19 "is_family" = true) (k19 : PySem.W.keepIn K (.ref f19) = true)
    (a20 : PySem.W.nsIn K mainGlobals "check_families" = some (some (.ref f20))) (l20 : K.lookup f20 = some ⟨oc20, od20, .func (PySem.W.fnOf "check_families" "check_families" (defArgs s_check_families) (defBody s_check_families) (defScope s_check_families) .none kV20 dc20 pm20 an20 cd20 ct20), sl20⟩) (c20 : PySem.W.codeIn K cd20 "check_families" = true) (k20 : PySem.W.keepIn K (.ref f20) = true)
    (a21 : PySem.W.nsIn K mainGlobals "below" = some (some (.ref f21))) (l21 : K.lookup f21 = some ⟨oc21, od21, .func (PySem.W.fnOf "below" "below" (defArgs s_below) (defBody s_below) (defScope s_below) .none kV21 dc21 pm21 an21 cd21 ct21), sl21⟩) (c21 : PySem.W.codeIn K cd21 "below" = true) (k21 : PySem.W.keepIn K (.ref f21) = true)
    (a22 : PySem.W.nsIn K mainGlobals "common_share" = some (some (.ref f22))) (l22 : K.lookup f22 = some ⟨oc22, od22, .func (PySem.W.fnOf "common_share" "common_share" (defArgs s_common_share) (defBody s_common_share) (defScope s_common_share) .none kV22 dc22 pm22 an22 cd22 ct22), sl22⟩) (c22 : PySem.W.codeIn K cd22 "common_share" = true) (k22 : PySem.W.keepIn K (.ref f22) = true)
    (a23 : PySem.W.nsIn K mainGlobals "nth" = some (some (.ref f23))) (l23 : K.lookup f23 = some ⟨oc23, od23, .func (PySem.W.fnOf "nth" "nth" (defArgs s_nth) (defBody s_nth) (defScope s_nth) .none kV23 dc23 pm23 an23 cd23 ct23), sl23⟩) (c23 : PySem.W.codeIn K cd23 "nth" = true) (k23 : PySem.W.keepIn K (.ref f23) = true)
    (a24 : PySem.W.nsIn K mainGlobals "_law_source" = some (some (.ref f24))) (l24 : K.lookup f24 = some ⟨oc24, od24, .func (PySem.W.fnOf "_law_source" "_law_source" (defArgs s__law_source) (defBody s__law_source) (defScope s__law_source) .none kV24 dc24 pm24 an24 cd24 ct24), sl24⟩) (c24 : PySem.W.codeIn K cd24 "_law_source" = true) (k24 : PySem.W.keepIn K (.ref f24) = true)
    (a25 : PySem.W.nsIn K mainGlobals "_law_draw" = some (some (.ref f25))) (l25 : K.lookup f25 = some ⟨oc25, od25, .func (PySem.W.fnOf "_law_draw" "_law_draw" (defArgs s__law_draw) (defBody s__law_draw) (defScope s__law_draw) .none kV25 dc25 pm25 an25 cd25 ct25), sl25⟩) (c25 : PySem.W.codeIn K cd25 "_law_draw" = true) (k25 : PySem.W.keepIn K (.ref f25) = true)
    (a26 : PySem.W.nsIn K mainGlobals "_law_ten" = some (some (.ref f26))) (l26 : K.lookup f26 = some ⟨oc26, od26, .func (PySem.W.fnOf "_law_ten" "_law_ten" (defArgs s__law_ten) (defBody s__law_ten) (defScope s__law_ten) .none kV26 dc26 pm26 an26 cd26 ct26), sl26⟩) (c26 : PySem.W.codeIn K cd26 "_law_ten" = true) (k26 : PySem.W.keepIn K (.ref f26) = true)
    (a27 : PySem.W.nsIn K mainGlobals "_law_pick" = some (some (.ref f27))) (l27 : K.lookup f27 = some ⟨oc27, od27, .func (PySem.W.fnOf "_law_pick" "_law_pick" (defArgs s__law_pick) (defBody s__law_pick) (defScope s__law_pick) .none kV27 dc27 pm27 an27 cd27 ct27), sl27⟩) (c27 : PySem.W.codeIn K cd27 "_law_pick" = true) (k27 : PySem.W.keepIn K (.ref f27) = true)
    (a28 : PySem.W.nsIn K mainGlobals "_law_great" = some (some (.ref f28))) (l28 : K.lookup f28 = some ⟨oc28, od28, .func (PySem.W.fnOf "_law_great" "_law_great" (defArgs s__law_great) (defBody s__law_great) (defScope s__law_great) .none kV28 dc28 pm28 an28 cd28 ct28), sl28⟩) (c28 : PySem.W.codeIn K cd28 "_law_great" = true) (k28 : PySem.W.keepIn K (.ref f28) = true)
    (a29 : PySem.W.nsIn K mainGlobals "_law_family" = some (some (.ref f29))) (l29 : K.lookup f29 = some ⟨oc29, od29, .func (PySem.W.fnOf "_law_family" "_law_family" (defArgs s__law_family) (defBody s__law_family) (defScope s__law_family) .none kV29 dc29 pm29 an29 cd29 ct29), sl29⟩) (c29 : PySem.W.codeIn K cd29 "_law_family" = true) (k29 : PySem.W.keepIn K (.ref f29) = true)
    (a30 : PySem.W.nsIn K mainGlobals "_law_whole" = some (some (.ref f30))) (l30 : K.lookup f30 = some ⟨oc30, od30, .func (PySem.W.fnOf "_law_whole" "_law_whole" (defArgs s__law_whole) (defBody s__law_whole) (defScope s__law_whole) .none kV30 dc30 pm30 an30 cd30 ct30), sl30⟩) (c30 : PySem.W.codeIn K cd30 "_law_whole" = true) (k30 : PySem.W.keepIn K (.ref f30) = true)
    (a31 : PySem.W.nsIn K mainGlobals "_law_is_family" = some (some (.ref f31))) (l31 : K.lookup f31 = some ⟨oc31, od31, .func (PySem.W.fnOf "_law_is_family" "_law_is_family" (defArgs s__law_is_family) (defBody s__law_is_family) (defScope s__law_is_family) .none kV31 dc31 pm31 an31 cd31 ct31), sl31⟩) (c31 : PySem.W.codeIn K cd31 "_law_is_family" = true) (k31 : PySem.W.keepIn K (.ref f31) = true)
    (a32 : PySem.W.nsIn K mainGlobals "_law_are_families" = some (some (.ref f32))) (l32 : K.lookup f32 = some ⟨oc32, od32, .func (PySem.W.fnOf "_law_are_families" "_law_are_families" (defArgs s__law_are_families) (defBody s__law_are_families) (defScope s__law_are_families) .none kV32 dc32 pm32 an32 cd32 ct32), sl32⟩) (c32 : PySem.W.codeIn K cd32 "_law_are_families" = true) (k32 : PySem.W.keepIn K (.ref f32) = true)
    (a33 : PySem.W.nsIn K mainGlobals "_law_word" = some (some (.ref f33))) (l33 : K.lookup f33 = some ⟨oc33, od33, .func (PySem.W.fnOf "_law_word" "_law_word" (defArgs s__law_word) (defBody s__law_word) (defScope s__law_word) .none kV33 dc33 pm33 an33 cd33 ct33), sl33⟩) (c33 : PySem.W.codeIn K cd33 "_law_word" = true) (k33 : PySem.W.keepIn K (.ref f33) = true)
    (a34 : PySem.W.nsIn K mainGlobals "_law_right" = some (some (.ref f34))) (l34 : K.lookup f34 = some ⟨oc34, od34, .func (PySem.W.fnOf "_law_right" "_law_right" (defArgs s__law_right) (defBody s__law_right) (defScope s__law_right) .none kV34 dc34 pm34 an34 cd34 ct34), sl34⟩) (c34 : PySem.W.codeIn K cd34 "_law_right" = true) (k34 : PySem.W.keepIn K (.ref f34) = true)
    (a35 : PySem.W.nsIn K mainGlobals "_law_bent" = some (some (.ref f35))) (l35 : K.lookup f35 = some ⟨oc35, od35, .func (PySem.W.fnOf "_law_bent" "_law_bent" (defArgs s__law_bent) (defBody s__law_bent) (defScope s__law_bent) .none kV35 dc35 pm35 an35 cd35 ct35), sl35⟩) (c35 : PySem.W.codeIn K cd35 "_law_bent" = true) (k35 : PySem.W.keepIn K (.ref f35) = true)
    (a36 : PySem.W.nsIn K mainGlobals "law" = some (some (.ref f36))) (l36 : K.lookup f36 = some ⟨oc36, od36, .func (PySem.W.fnOf "law" "law" (defArgs s_law) (defBody s_law) (defScope s_law) .none kV36 dc36 pm36 an36 cd36 ct36), sl36⟩) (c36 : PySem.W.codeIn K cd36 "law" = true) (k36 : PySem.W.keepIn K (.ref f36) = true)
    (z_abs : PySem.W.nsIn K mainGlobals "abs" = some none)
    (z_all : PySem.W.nsIn K mainGlobals "all" = some none)
    (z_bool : PySem.W.nsIn K mainGlobals "bool" = some none)
    (z_divmod : PySem.W.nsIn K mainGlobals "divmod" = some none)
    (z_int : PySem.W.nsIn K mainGlobals "int" = some none)
    (z_isinstance : PySem.W.nsIn K mainGlobals "isinstance" = some none)
    (z_len : PySem.W.nsIn K mainGlobals "len" = some none)
    (z_list : PySem.W.nsIn K mainGlobals "list" = some none)
    (z_max : PySem.W.nsIn K mainGlobals "max" = some none)
    (z_min : PySem.W.nsIn K mainGlobals "min" = some none)
    (z_range : PySem.W.nsIn K mainGlobals "range" = some none)
    (z_set : PySem.W.nsIn K mainGlobals "set" = some none)
    (z_sorted : PySem.W.nsIn K mainGlobals "sorted" = some none)
    (z_sum : PySem.W.nsIn K mainGlobals "sum" = some none)
    (z_tuple : PySem.W.nsIn K mainGlobals "tuple" = some none)
    (z_zip : PySem.W.nsIn K mainGlobals "zip" = some none)
    {t_GREATEST_PERIOD : Tok} (z_GREATEST_PERIOD : PySem.W.nsIn K mainGlobals "GREATEST_PERIOD" = some (some (.int 1000000000000000000000000000000000000000000000000000000000000 t_GREATEST_PERIOD)))
    {t_MOST_FAMILIES : Tok} (z_MOST_FAMILIES : PySem.W.nsIn K mainGlobals "MOST_FAMILIES" = some (some (.int 2 t_MOST_FAMILIES)))
    {t_MOST_PAIRS : Tok} (z_MOST_PAIRS : PySem.W.nsIn K mainGlobals "MOST_PAIRS" = some (some (.int 64 t_MOST_PAIRS)))
    {t_MOST_PAIRS_OF_NTH : Tok} (z_MOST_PAIRS_OF_NTH : PySem.W.nsIn K mainGlobals "MOST_PAIRS_OF_NTH" = some (some (.int 4 t_MOST_PAIRS_OF_NTH)))
    {t_MOST_RUNS : Tok} (z_MOST_RUNS : PySem.W.nsIn K mainGlobals "MOST_RUNS" = some (some (.int 64 t_MOST_RUNS)))
    (z_gcd : PySem.W.nsIn K mainGlobals "gcd" = some (some (.builtin "math.gcd")))
    (z_lcm : PySem.W.nsIn K mainGlobals "lcm" = some (some (.builtin "math.lcm")))
    {C_InvalidDeals C_InvalidFamilies C_InvalidNumber C_MarkError C_TooMany : Addr}
    (y_InvalidDeals : PySem.W.nsIn K mainGlobals "InvalidDeals" = some (some (.ref C_InvalidDeals)))
    (y_InvalidFamilies : PySem.W.nsIn K mainGlobals "InvalidFamilies" = some (some (.ref C_InvalidFamilies)))
    (y_InvalidNumber : PySem.W.nsIn K mainGlobals "InvalidNumber" = some (some (.ref C_InvalidNumber)))
    (y_MarkError : PySem.W.nsIn K mainGlobals "MarkError" = some (some (.ref C_MarkError)))
    (y_TooMany : PySem.W.nsIn K mainGlobals "TooMany" = some (some (.ref C_TooMany)))
    (xe_InvalidDeals : PySem.W.excIn K C_InvalidDeals bmVE "ValueError.__new__" = true) (xk_InvalidDeals : PySem.W.keepIn K (.ref C_InvalidDeals) = true) (xt_InvalidDeals : PySem.W.typeIn K (.ref C_InvalidDeals) = some (.type "type"))
    (xhg_InvalidDeals : PySem.W.findIn K (.ref C_InvalidDeals) "__getattribute__" = some (some (.builtin "BaseException.__getattribute__")))
    (xhk_InvalidDeals : PySem.W.findIn K (.ref C_InvalidDeals) "__getattr__" = some none)
    (xhs_InvalidDeals : PySem.W.subIn K (.ref C_InvalidDeals) (.type "BaseException") = some true)
    (xhd_InvalidDeals : PySem.W.hasDictIn K C_InvalidDeals = true)
    (xha_InvalidDeals : PySem.W.findIn K (.ref C_InvalidDeals) "__class__" = some (some (.builtin "object.__class__")))
    (xhn_InvalidDeals : PySem.W.specialIn K (.builtin "object.__class__") "__get__" = some (some (.builtin "getset_descriptor.__get__")))
    (xht_InvalidDeals : PySem.W.takesIn K (.builtin "object.__class__") = some true)
    (xhm_InvalidDeals : PySem.W.mroIn K C_InvalidDeals (.type "object") = some true)
    (xv_InvalidDeals : PySem.W.subIn K (.ref C_InvalidDeals) (.type "ValueError") = some true)
    (xi_InvalidDeals_InvalidDeals : PySem.W.subIn K (.ref C_InvalidDeals) (.ref C_InvalidDeals) = some true)
    (xi_InvalidDeals_InvalidFamilies : PySem.W.subIn K (.ref C_InvalidDeals) (.ref C_InvalidFamilies) = some false)
    (xi_InvalidDeals_InvalidNumber : PySem.W.subIn K (.ref C_InvalidDeals) (.ref C_InvalidNumber) = some false)
    (xi_InvalidDeals_MarkError : PySem.W.subIn K (.ref C_InvalidDeals) (.ref C_MarkError) = some true)
    (xi_InvalidDeals_TooMany : PySem.W.subIn K (.ref C_InvalidDeals) (.ref C_TooMany) = some false)
    (xe_InvalidFamilies : PySem.W.excIn K C_InvalidFamilies bmVE "ValueError.__new__" = true) (xk_InvalidFamilies : PySem.W.keepIn K (.ref C_InvalidFamilies) = true) (xt_InvalidFamilies : PySem.W.typeIn K (.ref C_InvalidFamilies) = some (.type "type"))
    (xhg_InvalidFamilies : PySem.W.findIn K (.ref C_InvalidFamilies) "__getattribute__" = some (some (.builtin "BaseException.__getattribute__")))
    (xhk_InvalidFamilies : PySem.W.findIn K (.ref C_InvalidFamilies) "__getattr__" = some none)
    (xhs_InvalidFamilies : PySem.W.subIn K (.ref C_InvalidFamilies) (.type "BaseException") = some true)
    (xhd_InvalidFamilies : PySem.W.hasDictIn K C_InvalidFamilies = true)
    (xha_InvalidFamilies : PySem.W.findIn K (.ref C_InvalidFamilies) "__class__" = some (some (.builtin "object.__class__")))
    (xhn_InvalidFamilies : PySem.W.specialIn K (.builtin "object.__class__") "__get__" = some (some (.builtin "getset_descriptor.__get__")))
    (xht_InvalidFamilies : PySem.W.takesIn K (.builtin "object.__class__") = some true)
    (xhm_InvalidFamilies : PySem.W.mroIn K C_InvalidFamilies (.type "object") = some true)
    (xv_InvalidFamilies : PySem.W.subIn K (.ref C_InvalidFamilies) (.type "ValueError") = some true)
    (xi_InvalidFamilies_InvalidDeals : PySem.W.subIn K (.ref C_InvalidFamilies) (.ref C_InvalidDeals) = some false)
    (xi_InvalidFamilies_InvalidFamilies : PySem.W.subIn K (.ref C_InvalidFamilies) (.ref C_InvalidFamilies) = some true)
    (xi_InvalidFamilies_InvalidNumber : PySem.W.subIn K (.ref C_InvalidFamilies) (.ref C_InvalidNumber) = some false)
    (xi_InvalidFamilies_MarkError : PySem.W.subIn K (.ref C_InvalidFamilies) (.ref C_MarkError) = some true)
    (xi_InvalidFamilies_TooMany : PySem.W.subIn K (.ref C_InvalidFamilies) (.ref C_TooMany) = some false)
    (xe_InvalidNumber : PySem.W.excIn K C_InvalidNumber bmVE "ValueError.__new__" = true) (xk_InvalidNumber : PySem.W.keepIn K (.ref C_InvalidNumber) = true) (xt_InvalidNumber : PySem.W.typeIn K (.ref C_InvalidNumber) = some (.type "type"))
    (xhg_InvalidNumber : PySem.W.findIn K (.ref C_InvalidNumber) "__getattribute__" = some (some (.builtin "BaseException.__getattribute__")))
    (xhk_InvalidNumber : PySem.W.findIn K (.ref C_InvalidNumber) "__getattr__" = some none)
    (xhs_InvalidNumber : PySem.W.subIn K (.ref C_InvalidNumber) (.type "BaseException") = some true)
    (xhd_InvalidNumber : PySem.W.hasDictIn K C_InvalidNumber = true)
    (xha_InvalidNumber : PySem.W.findIn K (.ref C_InvalidNumber) "__class__" = some (some (.builtin "object.__class__")))
    (xhn_InvalidNumber : PySem.W.specialIn K (.builtin "object.__class__") "__get__" = some (some (.builtin "getset_descriptor.__get__")))
    (xht_InvalidNumber : PySem.W.takesIn K (.builtin "object.__class__") = some true)
    (xhm_InvalidNumber : PySem.W.mroIn K C_InvalidNumber (.type "object") = some true)
    (xv_InvalidNumber : PySem.W.subIn K (.ref C_InvalidNumber) (.type "ValueError") = some true)
    (xi_InvalidNumber_InvalidDeals : PySem.W.subIn K (.ref C_InvalidNumber) (.ref C_InvalidDeals) = some false)
    (xi_InvalidNumber_InvalidFamilies : PySem.W.subIn K (.ref C_InvalidNumber) (.ref C_InvalidFamilies) = some false)
    (xi_InvalidNumber_InvalidNumber : PySem.W.subIn K (.ref C_InvalidNumber) (.ref C_InvalidNumber) = some true)
    (xi_InvalidNumber_MarkError : PySem.W.subIn K (.ref C_InvalidNumber) (.ref C_MarkError) = some true)
    (xi_InvalidNumber_TooMany : PySem.W.subIn K (.ref C_InvalidNumber) (.ref C_TooMany) = some false)
    (xe_MarkError : PySem.W.excIn K C_MarkError bmVE "ValueError.__new__" = true) (xk_MarkError : PySem.W.keepIn K (.ref C_MarkError) = true) (xt_MarkError : PySem.W.typeIn K (.ref C_MarkError) = some (.type "type"))
    (xhg_MarkError : PySem.W.findIn K (.ref C_MarkError) "__getattribute__" = some (some (.builtin "BaseException.__getattribute__")))
    (xhk_MarkError : PySem.W.findIn K (.ref C_MarkError) "__getattr__" = some none)
    (xhs_MarkError : PySem.W.subIn K (.ref C_MarkError) (.type "BaseException") = some true)
    (xhd_MarkError : PySem.W.hasDictIn K C_MarkError = true)
    (xha_MarkError : PySem.W.findIn K (.ref C_MarkError) "__class__" = some (some (.builtin "object.__class__")))
    (xhn_MarkError : PySem.W.specialIn K (.builtin "object.__class__") "__get__" = some (some (.builtin "getset_descriptor.__get__")))
    (xht_MarkError : PySem.W.takesIn K (.builtin "object.__class__") = some true)
    (xhm_MarkError : PySem.W.mroIn K C_MarkError (.type "object") = some true)
    (xv_MarkError : PySem.W.subIn K (.ref C_MarkError) (.type "ValueError") = some true)
    (xi_MarkError_InvalidDeals : PySem.W.subIn K (.ref C_MarkError) (.ref C_InvalidDeals) = some false)
    (xi_MarkError_InvalidFamilies : PySem.W.subIn K (.ref C_MarkError) (.ref C_InvalidFamilies) = some false)
    (xi_MarkError_InvalidNumber : PySem.W.subIn K (.ref C_MarkError) (.ref C_InvalidNumber) = some false)
    (xi_MarkError_MarkError : PySem.W.subIn K (.ref C_MarkError) (.ref C_MarkError) = some true)
    (xi_MarkError_TooMany : PySem.W.subIn K (.ref C_MarkError) (.ref C_TooMany) = some false)
    (xe_TooMany : PySem.W.excIn K C_TooMany bmVE "ValueError.__new__" = true) (xk_TooMany : PySem.W.keepIn K (.ref C_TooMany) = true) (xt_TooMany : PySem.W.typeIn K (.ref C_TooMany) = some (.type "type"))
    (xhg_TooMany : PySem.W.findIn K (.ref C_TooMany) "__getattribute__" = some (some (.builtin "BaseException.__getattribute__")))
    (xhk_TooMany : PySem.W.findIn K (.ref C_TooMany) "__getattr__" = some none)
    (xhs_TooMany : PySem.W.subIn K (.ref C_TooMany) (.type "BaseException") = some true)
    (xhd_TooMany : PySem.W.hasDictIn K C_TooMany = true)
    (xha_TooMany : PySem.W.findIn K (.ref C_TooMany) "__class__" = some (some (.builtin "object.__class__")))
    (xhn_TooMany : PySem.W.specialIn K (.builtin "object.__class__") "__get__" = some (some (.builtin "getset_descriptor.__get__")))
    (xht_TooMany : PySem.W.takesIn K (.builtin "object.__class__") = some true)
    (xhm_TooMany : PySem.W.mroIn K C_TooMany (.type "object") = some true)
    (xv_TooMany : PySem.W.subIn K (.ref C_TooMany) (.type "ValueError") = some true)
    (xi_TooMany_InvalidDeals : PySem.W.subIn K (.ref C_TooMany) (.ref C_InvalidDeals) = some false)
    (xi_TooMany_InvalidFamilies : PySem.W.subIn K (.ref C_TooMany) (.ref C_InvalidFamilies) = some false)
    (xi_TooMany_InvalidNumber : PySem.W.subIn K (.ref C_TooMany) (.ref C_InvalidNumber) = some false)
    (xi_TooMany_MarkError : PySem.W.subIn K (.ref C_TooMany) (.ref C_MarkError) = some true)
    (xi_TooMany_TooMany : PySem.W.subIn K (.ref C_TooMany) (.ref C_TooMany) = some true)
    : ∃ fd : FuncData, (∀ (s : Shared) (v : Value), BindsTo s fd ⟨[v], []⟩ [("_law_script", v)]) ∧ ∀ base : Heap, K.In base → base.Ns mainGlobals mg → FnOk P w K mg base L2.CX0 12 fa fd ["_law_script"] (sp_law K) := by
  have hD : ∃ D : String → Addr, D "InvalidDeals" = C_InvalidDeals ∧ D "InvalidFamilies" = C_InvalidFamilies ∧ D "InvalidNumber" = C_InvalidNumber ∧ D "MarkError" = C_MarkError ∧ D "TooMany" = C_TooMany ∧ True := ⟨fun c => if c = "InvalidDeals" then C_InvalidDeals else if c = "InvalidFamilies" then C_InvalidFamilies else if c = "InvalidNumber" then C_InvalidNumber else if c = "MarkError" then C_MarkError else if c = "TooMany" then C_TooMany else 0, by simp, by simp, by simp, by simp, by simp, trivial⟩
  obtain ⟨D, rfl, rfl, rfl, rfl, rfl, _⟩ := hD
  have KL : KlsOK K D kls := by
    refine ⟨?_, ?_, ?_, ?_, ?_⟩
    · intro c hc
      simp only [My.kls, List.mem_cons, List.not_mem_nil, or_false] at hc
      rcases hc with rfl | rfl | rfl | rfl | rfl
      · exact ⟨xhg_InvalidDeals, xhk_InvalidDeals, xhs_InvalidDeals, xhd_InvalidDeals, xha_InvalidDeals, xhn_InvalidDeals, xht_InvalidDeals, xhm_InvalidDeals⟩
      · exact ⟨xhg_InvalidFamilies, xhk_InvalidFamilies, xhs_InvalidFamilies, xhd_InvalidFamilies, xha_InvalidFamilies, xhn_InvalidFamilies, xht_InvalidFamilies, xhm_InvalidFamilies⟩
      · exact ⟨xhg_InvalidNumber, xhk_InvalidNumber, xhs_InvalidNumber, xhd_InvalidNumber, xha_InvalidNumber, xhn_InvalidNumber, xht_InvalidNumber, xhm_InvalidNumber⟩
      · exact ⟨xhg_MarkError, xhk_MarkError, xhs_MarkError, xhd_MarkError, xha_MarkError, xhn_MarkError, xht_MarkError, xhm_MarkError⟩
      · exact ⟨xhg_TooMany, xhk_TooMany, xhs_TooMany, xhd_TooMany, xha_TooMany, xhn_TooMany, xht_TooMany, xhm_TooMany⟩
    · intro c hc d hd
      simp only [My.kls, List.mem_cons, List.not_mem_nil, or_false] at hc hd
      rcases hc with rfl | rfl | rfl | rfl | rfl
      · rcases hd with rfl | rfl | rfl | rfl | rfl
        · exact kit_own xi_InvalidDeals_InvalidDeals xi_InvalidDeals_InvalidDeals xhd_InvalidDeals xt_InvalidDeals
        · exact kit_own xi_InvalidDeals_InvalidDeals xi_InvalidDeals_InvalidFamilies xhd_InvalidFamilies xt_InvalidFamilies
        · exact kit_own xi_InvalidDeals_InvalidDeals xi_InvalidDeals_InvalidNumber xhd_InvalidNumber xt_InvalidNumber
        · exact kit_own xi_InvalidDeals_InvalidDeals xi_InvalidDeals_MarkError xhd_MarkError xt_MarkError
        · exact kit_own xi_InvalidDeals_InvalidDeals xi_InvalidDeals_TooMany xhd_TooMany xt_TooMany
      · rcases hd with rfl | rfl | rfl | rfl | rfl
        · exact kit_own xi_InvalidFamilies_InvalidFamilies xi_InvalidFamilies_InvalidDeals xhd_InvalidDeals xt_InvalidDeals
        · exact kit_own xi_InvalidFamilies_InvalidFamilies xi_InvalidFamilies_InvalidFamilies xhd_InvalidFamilies xt_InvalidFamilies
        · exact kit_own xi_InvalidFamilies_InvalidFamilies xi_InvalidFamilies_InvalidNumber xhd_InvalidNumber xt_InvalidNumber
        · exact kit_own xi_InvalidFamilies_InvalidFamilies xi_InvalidFamilies_MarkError xhd_MarkError xt_MarkError
        · exact kit_own xi_InvalidFamilies_InvalidFamilies xi_InvalidFamilies_TooMany xhd_TooMany xt_TooMany
      · rcases hd with rfl | rfl | rfl | rfl | rfl
        · exact kit_own xi_InvalidNumber_InvalidNumber xi_InvalidNumber_InvalidDeals xhd_InvalidDeals xt_InvalidDeals
        · exact kit_own xi_InvalidNumber_InvalidNumber xi_InvalidNumber_InvalidFamilies xhd_InvalidFamilies xt_InvalidFamilies
        · exact kit_own xi_InvalidNumber_InvalidNumber xi_InvalidNumber_InvalidNumber xhd_InvalidNumber xt_InvalidNumber
        · exact kit_own xi_InvalidNumber_InvalidNumber xi_InvalidNumber_MarkError xhd_MarkError xt_MarkError
        · exact kit_own xi_InvalidNumber_InvalidNumber xi_InvalidNumber_TooMany xhd_TooMany xt_TooMany
      · rcases hd with rfl | rfl | rfl | rfl | rfl
        · exact kit_own xi_MarkError_MarkError xi_MarkError_InvalidDeals xhd_InvalidDeals xt_InvalidDeals
        · exact kit_own xi_MarkError_MarkError xi_MarkError_InvalidFamilies xhd_InvalidFamilies xt_InvalidFamilies
        · exact kit_own xi_MarkError_MarkError xi_MarkError_InvalidNumber xhd_InvalidNumber xt_InvalidNumber
        · exact kit_own xi_MarkError_MarkError xi_MarkError_MarkError xhd_MarkError xt_MarkError
        · exact kit_own xi_MarkError_MarkError xi_MarkError_TooMany xhd_TooMany xt_TooMany
      · rcases hd with rfl | rfl | rfl | rfl | rfl
        · exact kit_own xi_TooMany_TooMany xi_TooMany_InvalidDeals xhd_InvalidDeals xt_InvalidDeals
        · exact kit_own xi_TooMany_TooMany xi_TooMany_InvalidFamilies xhd_InvalidFamilies xt_InvalidFamilies
        · exact kit_own xi_TooMany_TooMany xi_TooMany_InvalidNumber xhd_InvalidNumber xt_InvalidNumber
        · exact kit_own xi_TooMany_TooMany xi_TooMany_MarkError xhd_MarkError xt_MarkError
        · exact kit_own xi_TooMany_TooMany xi_TooMany_TooMany xhd_TooMany xt_TooMany
    · intro c hc
      simp only [My.kls, List.mem_cons, List.not_mem_nil, or_false] at hc
      rcases hc with rfl | rfl | rfl | rfl | rfl
      · exact kit_ve xv_InvalidDeals
      · exact kit_ve xv_InvalidFamilies
      · exact kit_ve xv_InvalidNumber
      · exact kit_ve xv_MarkError
      · exact kit_ve xv_TooMany
    · intro c hc
      simp only [My.kls, List.mem_cons, List.not_mem_nil, or_false] at hc
      rcases hc with rfl | rfl | rfl | rfl | rfl
      · exact kit_no xhd_InvalidDeals xt_InvalidDeals
      · exact kit_no xhd_InvalidFamilies xt_InvalidFamilies
      · exact kit_no xhd_InvalidNumber xt_InvalidNumber
      · exact kit_no xhd_MarkError xt_MarkError
      · exact kit_no xhd_TooMany xt_TooMany
    · intro c hc d hd
      simp only [My.kls, List.mem_cons, List.not_mem_nil, or_false] at hc hd
      rcases hc with rfl | rfl | rfl | rfl | rfl
      · rcases hd with rfl | rfl | rfl | rfl | rfl
        · exact PySem.W.exm_ref xhs_InvalidDeals xhd_InvalidDeals xt_InvalidDeals xi_InvalidDeals_InvalidDeals
        · exact PySem.W.exm_ref xhs_InvalidFamilies xhd_InvalidFamilies xt_InvalidFamilies xi_InvalidDeals_InvalidFamilies
        · exact PySem.W.exm_ref xhs_InvalidNumber xhd_InvalidNumber xt_InvalidNumber xi_InvalidDeals_InvalidNumber
        · exact PySem.W.exm_ref xhs_MarkError xhd_MarkError xt_MarkError xi_InvalidDeals_MarkError
        · exact PySem.W.exm_ref xhs_TooMany xhd_TooMany xt_TooMany xi_InvalidDeals_TooMany
      · rcases hd with rfl | rfl | rfl | rfl | rfl
        · exact PySem.W.exm_ref xhs_InvalidDeals xhd_InvalidDeals xt_InvalidDeals xi_InvalidFamilies_InvalidDeals
        · exact PySem.W.exm_ref xhs_InvalidFamilies xhd_InvalidFamilies xt_InvalidFamilies xi_InvalidFamilies_InvalidFamilies
        · exact PySem.W.exm_ref xhs_InvalidNumber xhd_InvalidNumber xt_InvalidNumber xi_InvalidFamilies_InvalidNumber
        · exact PySem.W.exm_ref xhs_MarkError xhd_MarkError xt_MarkError xi_InvalidFamilies_MarkError
        · exact PySem.W.exm_ref xhs_TooMany xhd_TooMany xt_TooMany xi_InvalidFamilies_TooMany
      · rcases hd with rfl | rfl | rfl | rfl | rfl
        · exact PySem.W.exm_ref xhs_InvalidDeals xhd_InvalidDeals xt_InvalidDeals xi_InvalidNumber_InvalidDeals
        · exact PySem.W.exm_ref xhs_InvalidFamilies xhd_InvalidFamilies xt_InvalidFamilies xi_InvalidNumber_InvalidFamilies
        · exact PySem.W.exm_ref xhs_InvalidNumber xhd_InvalidNumber xt_InvalidNumber xi_InvalidNumber_InvalidNumber
        · exact PySem.W.exm_ref xhs_MarkError xhd_MarkError xt_MarkError xi_InvalidNumber_MarkError
        · exact PySem.W.exm_ref xhs_TooMany xhd_TooMany xt_TooMany xi_InvalidNumber_TooMany
      · rcases hd with rfl | rfl | rfl | rfl | rfl
        · exact PySem.W.exm_ref xhs_InvalidDeals xhd_InvalidDeals xt_InvalidDeals xi_MarkError_InvalidDeals
        · exact PySem.W.exm_ref xhs_InvalidFamilies xhd_InvalidFamilies xt_InvalidFamilies xi_MarkError_InvalidFamilies
        · exact PySem.W.exm_ref xhs_InvalidNumber xhd_InvalidNumber xt_InvalidNumber xi_MarkError_InvalidNumber
        · exact PySem.W.exm_ref xhs_MarkError xhd_MarkError xt_MarkError xi_MarkError_MarkError
        · exact PySem.W.exm_ref xhs_TooMany xhd_TooMany xt_TooMany xi_MarkError_TooMany
      · rcases hd with rfl | rfl | rfl | rfl | rfl
        · exact PySem.W.exm_ref xhs_InvalidDeals xhd_InvalidDeals xt_InvalidDeals xi_TooMany_InvalidDeals
        · exact PySem.W.exm_ref xhs_InvalidFamilies xhd_InvalidFamilies xt_InvalidFamilies xi_TooMany_InvalidFamilies
        · exact PySem.W.exm_ref xhs_InvalidNumber xhd_InvalidNumber xt_InvalidNumber xi_TooMany_InvalidNumber
        · exact PySem.W.exm_ref xhs_MarkError xhd_MarkError xt_MarkError xi_TooMany_MarkError
        · exact PySem.W.exm_ref xhs_TooMany xhd_TooMany xt_TooMany xi_TooMany_TooMany
  have T : Txt K mg D := ⟨My.has_mk X G a0 l0 c0 k0 (by intro _ _ _ _ _ _ us hl; exact (match us, hl with | [_], _ => rfl)), My.has_mk X G a1 l1 c1 k1 (by intro _ _ _ _ _ _ us hl; exact (match us, hl with | [_], _ => rfl)), My.has_mk X G a2 l2 c2 k2 (by intro _ _ _ _ _ _ us hl; exact (match us, hl with | [_], _ => rfl)), My.has_mk X G a3 l3 c3 k3 (by intro _ _ _ _ _ _ us hl; exact (match us, hl with | [_, _], _ => rfl)), My.has_mk X G a4 l4 c4 k4 (by intro _ _ _ _ _ _ us hl; exact (match us, hl with | [_, _, _], _ => rfl)), My.has_mk X G a5 l5 c5 k5 (by intro _ _ _ _ _ _ us hl; exact (match us, hl with | [_, _, _], _ => rfl)), My.has_mk X G a6 l6 c6 k6 (by intro _ _ _ _ _ _ us hl; exact (match us, hl with | [_, _, _], _ => rfl)), My.has_mk X G a7 l7 c7 k7 (by intro _ _ _ _ _ _ us hl; exact (match us, hl with | [_, _, _, _], _ => rfl)), My.has_mk X G a8 l8 c8 k8 (by intro _ _ _ _ _ _ us hl; exact (match us, hl with | [_, _, _], _ => rfl)), My.has_mk X G a9 l9 c9 k9 (by intro _ _ _ _ _ _ us hl; exact (match us, hl with | [_, _, _], _ => rfl)), My.has_mk X G a10 l10 c10 k10 (by intro _ _ _ _ _ _ us hl; exact (match us, hl with | [_, _, _], _ => rfl)), My.has_mk X G a11 l11 c11 k11 (by intro _ _ _ _ _ _ us hl; exact (match us, hl with | [_], _ => rfl)), My.has_mk X G a12 l12 c12 k12 (by intro _ _ _ _ _ _ us hl; exact (match us, hl with | [_], _ => rfl)), My.has_mk X G a13 l13 c13 k13 (by intro _ _ _ _ _ _ us hl; exact (match us, hl with | [_], _ => rfl)), My.has_mk X G a14 l14 c14 k14 (by intro _ _ _ _ _ _ us hl; exact (match us, hl with | [_, _], _ => rfl)), My.has_mk X G a15 l15 c15 k15 (by intro _ _ _ _ _ _ us hl; exact (match us, hl with | [_], _ => rfl)), My.has_mk X G a16 l16 c16 k16 (by intro _ _ _ _ _ _ us hl; exact (match us, hl with | [_, _], _ => rfl)), My.has_mk X G a17 l17 c17 k17 (by intro _ _ _ _ _ _ us hl; exact (match us, hl with | [_, _], _ => rfl)), My.has_mk X G a18 l18 c18 k18 (by intro _ _ _ _ _ _ us hl; exact (match us, hl with | [_], _ => rfl)), My.has_mk X G a19 l19 c19 k19 (by intro _ _ _ _ _ _ us hl; exact (match us, hl with | [_], _ => rfl)), My.has_mk X G a20 l20 c20 k20 (by intro _ _ _ _ _ _ us hl; exact (match us, hl with | [_, _], _ => rfl)), My.has_mk X G a21 l21 c21 k21 (by intro _ _ _ _ _ _ us hl; exact (match us, hl with | [_, _], _ => rfl)), My.has_mk X G a22 l22 c22 k22 (by intro _ _ _ _ _ _ us hl; exact (match us, hl with | [_], _ => rfl)), My.has_mk X G a23 l23 c23 k23 (by intro _ _ _ _ _ _ us hl; exact (match us, hl with | [_, _], _ => rfl)), My.has_mk X G a24 l24 c24 k24 (by intro _ _ _ _ _ _ us hl; exact (match us, hl with | [_], _ => rfl)), My.has_mk X G a25 l25 c25 k25 (by intro _ _ _ _ _ _ us hl; exact (match us, hl with | [_, _], _ => rfl)), My.has_mk X G a26 l26 c26 k26 (by intro _ _ _ _ _ _ us hl; exact (match us, hl with | [_], _ => rfl)), My.has_mk X G a27 l27 c27 k27 (by intro _ _ _ _ _ _ us hl; exact (match us, hl with | [_, _], _ => rfl)), My.has_mk X G a28 l28 c28 k28 (by intro _ _ _ _ _ _ us hl; exact (match us, hl with | [_, _], _ => rfl)), My.has_mk X G a29 l29 c29 k29 (by intro _ _ _ _ _ _ us hl; exact (match us, hl with | [_, _], _ => rfl)), My.has_mk X G a30 l30 c30 k30 (by intro _ _ _ _ _ _ us hl; exact (match us, hl with | [_, _, _], _ => rfl)), My.has_mk X G a31 l31 c31 k31 (by intro _ _ _ _ _ _ us hl; exact (match us, hl with | [_], _ => rfl)), My.has_mk X G a32 l32 c32 k32 (by intro _ _ _ _ _ _ us hl; exact (match us, hl with | [_], _ => rfl)), My.has_mk X G a33 l33 c33 k33 (by intro _ _ _ _ _ _ us hl; exact (match us, hl with | [_, _], _ => rfl)), My.has_mk X G a34 l34 c34 k34 (by intro _ _ _ _ _ _ us hl; exact (match us, hl with | [_], _ => rfl)), My.has_mk X G a35 l35 c35 k35 (by intro _ _ _ _ _ _ us hl; exact (match us, hl with | [_, _], _ => rfl)), My.has_mk X G a36 l36 c36 k36 (by intro _ _ _ _ _ _ us hl; exact (match us, hl with | [_], _ => rfl)), PySem.W.mg_none_of X G z_abs, PySem.W.mg_none_of X G z_all, PySem.W.mg_none_of X G z_bool, PySem.W.mg_none_of X G z_divmod, PySem.W.mg_none_of X G z_int, PySem.W.mg_none_of X G z_isinstance, PySem.W.mg_none_of X G z_len, PySem.W.mg_none_of X G z_list, PySem.W.mg_none_of X G z_max, PySem.W.mg_none_of X G z_min, PySem.W.mg_none_of X G z_range, PySem.W.mg_none_of X G z_set, PySem.W.mg_none_of X G z_sorted, PySem.W.mg_none_of X G z_sum, PySem.W.mg_none_of X G z_tuple, PySem.W.mg_none_of X G z_zip, ⟨_, PySem.W.mg_of X G z_GREATEST_PERIOD, _, rfl⟩, ⟨_, PySem.W.mg_of X G z_MOST_FAMILIES, _, rfl⟩, ⟨_, PySem.W.mg_of X G z_MOST_PAIRS, _, rfl⟩, ⟨_, PySem.W.mg_of X G z_MOST_PAIRS_OF_NTH, _, rfl⟩, ⟨_, PySem.W.mg_of X G z_MOST_RUNS, _, rfl⟩, PySem.W.mg_of X G z_gcd, PySem.W.mg_of X G z_lcm, PySem.W.mg_of X G y_InvalidDeals, ⟨xe_InvalidDeals, xk_InvalidDeals, ⟨xhg_InvalidDeals, xhk_InvalidDeals, xhs_InvalidDeals, xhd_InvalidDeals, xha_InvalidDeals, xhn_InvalidDeals, xht_InvalidDeals, xhm_InvalidDeals⟩, xt_InvalidDeals⟩, PySem.W.mg_of X G y_InvalidFamilies, ⟨xe_InvalidFamilies, xk_InvalidFamilies, ⟨xhg_InvalidFamilies, xhk_InvalidFamilies, xhs_InvalidFamilies, xhd_InvalidFamilies, xha_InvalidFamilies, xhn_InvalidFamilies, xht_InvalidFamilies, xhm_InvalidFamilies⟩, xt_InvalidFamilies⟩, PySem.W.mg_of X G y_InvalidNumber, ⟨xe_InvalidNumber, xk_InvalidNumber, ⟨xhg_InvalidNumber, xhk_InvalidNumber, xhs_InvalidNumber, xhd_InvalidNumber, xha_InvalidNumber, xhn_InvalidNumber, xht_InvalidNumber, xhm_InvalidNumber⟩, xt_InvalidNumber⟩, PySem.W.mg_of X G y_MarkError, ⟨xe_MarkError, xk_MarkError, ⟨xhg_MarkError, xhk_MarkError, xhs_MarkError, xhd_MarkError, xha_MarkError, xhn_MarkError, xht_MarkError, xhm_MarkError⟩, xt_MarkError⟩, PySem.W.mg_of X G y_TooMany, ⟨xe_TooMany, xk_TooMany, ⟨xhg_TooMany, xhk_TooMany, xhs_TooMany, xhd_TooMany, xha_TooMany, xhn_TooMany, xht_TooMany, xhm_TooMany⟩, xt_TooMany⟩, KL⟩
  have e := hfa.symm.trans (PySem.W.mg_of X G a36)
  cases e
  refine ⟨PySem.W.fnOf "law" "law" (defArgs s_law) (defBody s_law) (defScope s_law) .none kV36 dc36 pm36 an36 cd36 ct36, fun s v => .of_eq rfl, fun base _ _ => ?_⟩
  have c_is_integer : CalX P w K mg base 1 "is_integer" (spU K D 1 F_is_integer) := cal_is_integer T 
  have c_is_natural : CalX P w K mg base 2 "is_natural" (spU K D 1 F_is_natural) := cal_is_natural T c_is_integer
  have c_common_multiple : CalX P w K mg base 1 "common_multiple" (spU K D 1 F_common_multiple) := cal_common_multiple T 
  have c_fraction : CalX P w K mg base 1 "fraction" (spU K D 2 F_fraction) := cal_fraction T 
  have c_within : CalX P w K mg base 1 "within" (spU K D 3 F_within) := cal_within T 
  have c_below_in_run : CalX P w K mg base 2 "below_in_run" (spU K D 3 F_below_in_run) := cal_below_in_run T c_within
  have c_window_of_one : CalX P w K mg base 3 "window_of_one" (spU K D 3 F_window_of_one) := cal_window_of_one T c_below_in_run
  have c_window_of_two : CalX P w K mg base 1 "window_of_two" (spU K D 4 F_window_of_two) := cal_window_of_two T 
  have c_count_in : CalX P w K mg base 4 "count_in" (spU K D 3 F_count_in) := cal_count_in T c_window_of_two c_window_of_one
  have c_common_in_circle : CalX P w K mg base 1 "common_in_circle" (spU K D 3 F_common_in_circle) := cal_common_in_circle T 
  have c_pairs_of_runs : CalX P w K mg base 2 "pairs_of_runs" (spU K D 3 F_pairs_of_runs) := cal_pairs_of_runs T c_common_in_circle
  have c_common_period : CalX P w K mg base 2 "common_period" (spU K D 1 F_common_period) := cal_common_period T c_common_multiple
  have c_count_in_period : CalX P w K mg base 5 "count_in_period" (spU K D 1 F_count_in_period) := cal_count_in_period T c_count_in c_common_period c_pairs_of_runs
  have c_period_of : CalX P w K mg base 3 "period_of" (spU K D 1 F_period_of) := cal_period_of T c_common_multiple c_common_period
  have c_whole_count : CalX P w K mg base 6 "whole_count" (spU K D 2 F_whole_count) := cal_whole_count T c_count_in_period c_common_period
  have c_share_of_sum : CalX P w K mg base 7 "share_of_sum" (spU K D 1 F_share_of_sum) := cal_share_of_sum T c_period_of c_fraction c_whole_count
  have c_below_of_sum : CalX P w K mg base 1 "below_of_sum" (spU K D 2 F_below_of_sum) := cal_below_of_sum T 
  have c_nth_of_sum : CalX P w K mg base 1 "nth_of_sum" (spU K D 2 F_nth_of_sum) := cal_nth_of_sum T 
  have c_is_run : CalX P w K mg base 2 "is_run" (spU K D 1 F_is_run) := cal_is_run T c_is_integer
  have c_is_family : CalX P w K mg base 3 "is_family" (spU K D 1 F_is_family) := cal_is_family T c_is_integer c_is_run
  have c_check_families : CalX P w K mg base 4 "check_families" (spU K D 2 F_check_families) := cal_check_families T c_is_family
  have c_below : CalX P w K mg base 5 "below" (spU K D 2 F_below) := cal_below T c_check_families c_below_of_sum c_is_natural
  have c_common_share : CalX P w K mg base 8 "common_share" (spU K D 1 F_common_share) := cal_common_share T c_check_families c_share_of_sum
  have c_nth : CalX P w K mg base 9 "nth" (spU K D 2 F_nth) := cal_nth T c_check_families c_nth_of_sum c_is_natural c_common_share
  have c__law_source : CalX P w K mg base 1 "_law_source" (spSource K) := cal__law_source T 
  have c__law_draw : CalX P w K mg base 1 "_law_draw" (spS K D 1 F__law_draw) := cal__law_draw T 
  have c__law_ten : CalX P w K mg base 1 "_law_ten" (spU K D 1 F__law_ten) := cal__law_ten T 
  have c__law_pick : CalX P w K mg base 2 "_law_pick" (spS K D 1 F__law_pick) := cal__law_pick T c__law_draw
  have c__law_great : CalX P w K mg base 2 "_law_great" (spS K D 1 F__law_great) := cal__law_great T c__law_draw
  have c__law_family : CalX P w K mg base 3 "_law_family" (spS K D 1 F__law_family) := cal__law_family T c__law_draw c__law_pick c__law_great c__law_ten
  have c__law_whole : CalX P w K mg base 1 "_law_whole" (spU K D 3 F__law_whole) := cal__law_whole T 
  have c__law_is_family : CalX P w K mg base 2 "_law_is_family" (spU K D 1 F__law_is_family) := cal__law_is_family T c__law_whole
  have c__law_are_families : CalX P w K mg base 3 "_law_are_families" (spU K D 1 F__law_are_families) := cal__law_are_families T c__law_is_family
  have c__law_word : CalX P w K mg base 10 "_law_word" (spU K D 2 F__law_word) := cal__law_word T c_below c_nth c_common_share
  have c__law_right : CalX P w K mg base 11 "_law_right" (spU K D 1 F__law_right) := cal__law_right T c__law_are_families c__law_word
  have c__law_bent : CalX P w K mg base 3 "_law_bent" (spS K D 1 F__law_bent) := cal__law_bent T c__law_draw c__law_pick
  exact ok_law T (fun_mk (st := s_law) l36 c36 k36) c__law_source c__law_family c__law_right c__law_are_families c_below c__law_bent c__law_draw
end My
open PySem PySem.W PyProof.Rows
set_option maxHeartbeats 0 in
theorem PySem.Challenge.cw_bymarks_k43_families_holds : PySem.Challenge.rw_bymarks_k43_families.Holds := by
  w_on; o_law; k_head; (case hw => w_witness2)
  k_fill
  refine L2.walk_of (l := PySem.Challenge.rw_bymarks_k43_families) (n := 63) (k := 12) (x := "_law_script") (CX := fun _ => L2.CX0) (sp := fun w => My.sp_law _) rfl (by decide) rfl ⟨rfl, by decide, by decide⟩ (fun w h Y => PySem.W.kIn_of Y) ?F (fun w H a ns hl hO hS => My.law_start hl hO hS) (fun _ _ _ _ _ h => h)
  case F =>
    intro w mg fa h KX G hmg
    refine' My.all_mk KX G hmg ?a0 ?l0 ?c0 ?k0 ?a1 ?l1 ?c1 ?k1 ?a2 ?l2 ?c2 ?k2 ?a3 ?l3 ?c3 ?k3 ?a4 ?l4 ?c4 ?k4 ?a5 ?l5 ?c5 ?k5 ?a6 ?l6 ?c6 ?k6 ?a7 ?l7 ?c7 ?k7 ?a8 ?l8 ?c8 ?k8 ?a9 ?l9 ?c9 ?k9 ?a10 ?l10 ?c10 ?k10 ?a11 ?l11 ?c11 ?k11 ?a12 ?l12 ?c12 ?k12 ?a13 ?l13 ?c13 ?k13 ?a14 ?l14 ?c14 ?k14 ?a15 ?l15 ?c15 ?k15 ?a16 ?l16 ?c16 ?k16 ?a17 ?l17 ?c17 ?k17 ?a18 ?l18 ?c18 ?k18 ?a19 ?l19 ?c19 ?k19 ?a20 ?l20 ?c20 ?k20 ?a21 ?l21 ?c21 ?k21 ?a22 ?l22 ?c22 ?k22 ?a23 ?l23 ?c23 ?k23 ?a24 ?l24 ?c24 ?k24 ?a25 ?l25 ?c25 ?k25 ?a26 ?l26 ?c26 ?k26 ?a27 ?l27 ?c27 ?k27 ?a28 ?l28 ?c28 ?k28 ?a29 ?l29 ?c29 ?k29 ?a30 ?l30 ?c30 ?k30 ?a31 ?l31 ?c31 ?k31 ?a32 ?l32 ?c32 ?k32 ?a33 ?l33 ?c33 ?k33 ?a34 ?l34 ?c34 ?k34 ?a35 ?l35 ?c35 ?k35 ?a36 ?l36 ?c36 ?k36 ?z_abs ?z_all ?z_bool ?z_divmod ?z_int ?z_isinstance ?z_len ?z_list ?z_max ?z_min ?z_range ?z_set ?z_sorted ?z_sum ?z_tuple ?z_zip ?z_GREATEST_PERIOD ?z_MOST_FAMILIES ?z_MOST_PAIRS ?z_MOST_PAIRS_OF_NTH ?z_MOST_RUNS ?z_gcd ?z_lcm ?y_InvalidDeals ?y_InvalidFamilies ?y_InvalidNumber ?y_MarkError ?y_TooMany ?xe_InvalidDeals ?xk_InvalidDeals ?xt_InvalidDeals ?xhg_InvalidDeals ?xhk_InvalidDeals ?xhs_InvalidDeals ?xhd_InvalidDeals ?xha_InvalidDeals ?xhn_InvalidDeals ?xht_InvalidDeals ?xhm_InvalidDeals ?xv_InvalidDeals ?xi_InvalidDeals_InvalidDeals ?xi_InvalidDeals_InvalidFamilies ?xi_InvalidDeals_InvalidNumber ?xi_InvalidDeals_MarkError ?xi_InvalidDeals_TooMany ?xe_InvalidFamilies ?xk_InvalidFamilies ?xt_InvalidFamilies ?xhg_InvalidFamilies ?xhk_InvalidFamilies ?xhs_InvalidFamilies ?xhd_InvalidFamilies ?xha_InvalidFamilies ?xhn_InvalidFamilies ?xht_InvalidFamilies ?xhm_InvalidFamilies ?xv_InvalidFamilies ?xi_InvalidFamilies_InvalidDeals ?xi_InvalidFamilies_InvalidFamilies ?xi_InvalidFamilies_InvalidNumber ?xi_InvalidFamilies_MarkError ?xi_InvalidFamilies_TooMany ?xe_InvalidNumber ?xk_InvalidNumber ?xt_InvalidNumber ?xhg_InvalidNumber ?xhk_InvalidNumber ?xhs_InvalidNumber ?xhd_InvalidNumber ?xha_InvalidNumber ?xhn_InvalidNumber ?xht_InvalidNumber ?xhm_InvalidNumber ?xv_InvalidNumber ?xi_InvalidNumber_InvalidDeals ?xi_InvalidNumber_InvalidFamilies ?xi_InvalidNumber_InvalidNumber ?xi_InvalidNumber_MarkError ?xi_InvalidNumber_TooMany ?xe_MarkError ?xk_MarkError ?xt_MarkError ?xhg_MarkError ?xhk_MarkError ?xhs_MarkError ?xhd_MarkError ?xha_MarkError ?xhn_MarkError ?xht_MarkError ?xhm_MarkError ?xv_MarkError ?xi_MarkError_InvalidDeals ?xi_MarkError_InvalidFamilies ?xi_MarkError_InvalidNumber ?xi_MarkError_MarkError ?xi_MarkError_TooMany ?xe_TooMany ?xk_TooMany ?xt_TooMany ?xhg_TooMany ?xhk_TooMany ?xhs_TooMany ?xhd_TooMany ?xha_TooMany ?xhn_TooMany ?xht_TooMany ?xhm_TooMany ?xv_TooMany ?xi_TooMany_InvalidDeals ?xi_TooMany_InvalidFamilies ?xi_TooMany_InvalidNumber ?xi_TooMany_MarkError ?xi_TooMany_TooMany
    (case a0 => k_is)
    (case l0 => k_is)
    (case c0 => k_is)
    (case k0 => k_is)
    (case a1 => k_is)
    (case l1 => k_is)
    (case c1 => k_is)
    (case k1 => k_is)
    (case a2 => k_is)
    (case l2 => k_is)
    (case c2 => k_is)
    (case k2 => k_is)
    (case a3 => k_is)
    (case l3 => k_is)
    (case c3 => k_is)
    (case k3 => k_is)
    (case a4 => k_is)
    (case l4 => k_is)
    (case c4 => k_is)
    (case k4 => k_is)
    (case a5 => k_is)
    (case l5 => k_is)
    (case c5 => k_is)
    (case k5 => k_is)
    (case a6 => k_is)
    (case l6 => k_is)
    (case c6 => k_is)
    (case k6 => k_is)
    (case a7 => k_is)
    (case l7 => k_is)
    (case c7 => k_is)
    (case k7 => k_is)
    (case a8 => k_is)
    (case l8 => k_is)
    (case c8 => k_is)
    (case k8 => k_is)
    (case a9 => k_is)
    (case l9 => k_is)
    (case c9 => k_is)
    (case k9 => k_is)
    (case a10 => k_is)
    (case l10 => k_is)
    (case c10 => k_is)
    (case k10 => k_is)
    (case a11 => k_is)
    (case l11 => k_is)
    (case c11 => k_is)
    (case k11 => k_is)
    (case a12 => k_is)
    (case l12 => k_is)
    (case c12 => k_is)
    (case k12 => k_is)
    (case a13 => k_is)
    (case l13 => k_is)
    (case c13 => k_is)
    (case k13 => k_is)
    (case a14 => k_is)
    (case l14 => k_is)
    (case c14 => k_is)
    (case k14 => k_is)
    (case a15 => k_is)
    (case l15 => k_is)
    (case c15 => k_is)
    (case k15 => k_is)
    (case a16 => k_is)
    (case l16 => k_is)
    (case c16 => k_is)
    (case k16 => k_is)
    (case a17 => k_is)
    (case l17 => k_is)
    (case c17 => k_is)
    (case k17 => k_is)
    (case a18 => k_is)
    (case l18 => k_is)
    (case c18 => k_is)
    (case k18 => k_is)
    (case a19 => k_is)
    (case l19 => k_is)
    (case c19 => k_is)
    (case k19 => k_is)
    (case a20 => k_is)
    (case l20 => k_is)
    (case c20 => k_is)
    (case k20 => k_is)
    (case a21 => k_is)
    (case l21 => k_is)
    (case c21 => k_is)
    (case k21 => k_is)
    (case a22 => k_is)
    (case l22 => k_is)
    (case c22 => k_is)
    (case k22 => k_is)
    (case a23 => k_is)
    (case l23 => k_is)
    (case c23 => k_is)
    (case k23 => k_is)
    (case a24 => k_is)
    (case l24 => k_is)
    (case c24 => k_is)
    (case k24 => k_is)
    (case a25 => k_is)
    (case l25 => k_is)
    (case c25 => k_is)
    (case k25 => k_is)
    (case a26 => k_is)
    (case l26 => k_is)
    (case c26 => k_is)
    (case k26 => k_is)
    (case a27 => k_is)
    (case l27 => k_is)
    (case c27 => k_is)
    (case k27 => k_is)
    (case a28 => k_is)
    (case l28 => k_is)
    (case c28 => k_is)
    (case k28 => k_is)
    (case a29 => k_is)
    (case l29 => k_is)
    (case c29 => k_is)
    (case k29 => k_is)
    (case a30 => k_is)
    (case l30 => k_is)
    (case c30 => k_is)
    (case k30 => k_is)
    (case a31 => k_is)
    (case l31 => k_is)
    (case c31 => k_is)
    (case k31 => k_is)
    (case a32 => k_is)
    (case l32 => k_is)
    (case c32 => k_is)
    (case k32 => k_is)
    (case a33 => k_is)
    (case l33 => k_is)
    (case c33 => k_is)
    (case k33 => k_is)
    (case a34 => k_is)
    (case l34 => k_is)
    (case c34 => k_is)
    (case k34 => k_is)
    (case a35 => k_is)
    (case l35 => k_is)
    (case c35 => k_is)
    (case k35 => k_is)
    (case a36 => k_is)
    (case l36 => k_is)
    (case c36 => k_is)
    (case k36 => k_is)
    (case z_abs => k_is)
    (case z_all => k_is)
    (case z_bool => k_is)
    (case z_divmod => k_is)
    (case z_int => k_is)
    (case z_isinstance => k_is)
    (case z_len => k_is)
    (case z_list => k_is)
    (case z_max => k_is)
    (case z_min => k_is)
    (case z_range => k_is)
    (case z_set => k_is)
    (case z_sorted => k_is)
    (case z_sum => k_is)
    (case z_tuple => k_is)
    (case z_zip => k_is)
    (case z_GREATEST_PERIOD => k_is)
    (case z_MOST_FAMILIES => k_is)
    (case z_MOST_PAIRS => k_is)
    (case z_MOST_PAIRS_OF_NTH => k_is)
    (case z_MOST_RUNS => k_is)
    (case z_gcd => k_is)
    (case z_lcm => k_is)
    (case y_InvalidDeals => k_is)
    (case y_InvalidFamilies => k_is)
    (case y_InvalidNumber => k_is)
    (case y_MarkError => k_is)
    (case y_TooMany => k_is)
    (case xe_InvalidDeals => k_exc)
    (case xk_InvalidDeals => k_is)
    (case xt_InvalidDeals => k_is)
    (case xhg_InvalidDeals => k_is)
    (case xhk_InvalidDeals => k_is)
    (case xhs_InvalidDeals => k_is)
    (case xhd_InvalidDeals => k_is)
    (case xha_InvalidDeals => k_is)
    (case xhn_InvalidDeals => k_is)
    (case xht_InvalidDeals => k_is)
    (case xhm_InvalidDeals => k_is)
    (case xv_InvalidDeals => k_is)
    (case xi_InvalidDeals_InvalidDeals => k_is)
    (case xi_InvalidDeals_InvalidFamilies => k_is)
    (case xi_InvalidDeals_InvalidNumber => k_is)
    (case xi_InvalidDeals_MarkError => k_is)
    (case xi_InvalidDeals_TooMany => k_is)
    (case xe_InvalidFamilies => k_exc)
    (case xk_InvalidFamilies => k_is)
    (case xt_InvalidFamilies => k_is)
    (case xhg_InvalidFamilies => k_is)
    (case xhk_InvalidFamilies => k_is)
    (case xhs_InvalidFamilies => k_is)
    (case xhd_InvalidFamilies => k_is)
    (case xha_InvalidFamilies => k_is)
    (case xhn_InvalidFamilies => k_is)
    (case xht_InvalidFamilies => k_is)
    (case xhm_InvalidFamilies => k_is)
    (case xv_InvalidFamilies => k_is)
    (case xi_InvalidFamilies_InvalidDeals => k_is)
    (case xi_InvalidFamilies_InvalidFamilies => k_is)
    (case xi_InvalidFamilies_InvalidNumber => k_is)
    (case xi_InvalidFamilies_MarkError => k_is)
    (case xi_InvalidFamilies_TooMany => k_is)
    (case xe_InvalidNumber => k_exc)
    (case xk_InvalidNumber => k_is)
    (case xt_InvalidNumber => k_is)
    (case xhg_InvalidNumber => k_is)
    (case xhk_InvalidNumber => k_is)
    (case xhs_InvalidNumber => k_is)
    (case xhd_InvalidNumber => k_is)
    (case xha_InvalidNumber => k_is)
    (case xhn_InvalidNumber => k_is)
    (case xht_InvalidNumber => k_is)
    (case xhm_InvalidNumber => k_is)
    (case xv_InvalidNumber => k_is)
    (case xi_InvalidNumber_InvalidDeals => k_is)
    (case xi_InvalidNumber_InvalidFamilies => k_is)
    (case xi_InvalidNumber_InvalidNumber => k_is)
    (case xi_InvalidNumber_MarkError => k_is)
    (case xi_InvalidNumber_TooMany => k_is)
    (case xe_MarkError => k_exc)
    (case xk_MarkError => k_is)
    (case xt_MarkError => k_is)
    (case xhg_MarkError => k_is)
    (case xhk_MarkError => k_is)
    (case xhs_MarkError => k_is)
    (case xhd_MarkError => k_is)
    (case xha_MarkError => k_is)
    (case xhn_MarkError => k_is)
    (case xht_MarkError => k_is)
    (case xhm_MarkError => k_is)
    (case xv_MarkError => k_is)
    (case xi_MarkError_InvalidDeals => k_is)
    (case xi_MarkError_InvalidFamilies => k_is)
    (case xi_MarkError_InvalidNumber => k_is)
    (case xi_MarkError_MarkError => k_is)
    (case xi_MarkError_TooMany => k_is)
    (case xe_TooMany => k_exc)
    (case xk_TooMany => k_is)
    (case xt_TooMany => k_is)
    (case xhg_TooMany => k_is)
    (case xhk_TooMany => k_is)
    (case xhs_TooMany => k_is)
    (case xhd_TooMany => k_is)
    (case xha_TooMany => k_is)
    (case xhn_TooMany => k_is)
    (case xht_TooMany => k_is)
    (case xhm_TooMany => k_is)
    (case xv_TooMany => k_is)
    (case xi_TooMany_InvalidDeals => k_is)
    (case xi_TooMany_InvalidFamilies => k_is)
    (case xi_TooMany_InvalidNumber => k_is)
    (case xi_TooMany_MarkError => k_is)
    (case xi_TooMany_TooMany => k_is)

