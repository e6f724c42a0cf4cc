import PyProof.Rows.All
import Wide.All
import OpenK.AllK
import Wide.FinOn
import HandS.Deep
import HandS.Sort
import HandS.SortRule
import HandS.Defaults
import HandS.Gcd
import HandS.ExcIs
import PySem.Challenge.RW_slitstairs_k52_boxes_and_what_rests
import HandS.ForMost
import HandS.ForExc
import HandS.EndBits
import HandS.Wide
import HandS.Walk
import HandS.IsInst
import HandS.ExcInit
import HandS.ExcField
import HandS.OwnEq
import HandS.IterVal
import PyProof.FactsAll.str_ascii_iterator_1
import PyProof.FactsAll.tuple_iterator_1
import HandS.Style
import HandS.RaiseMore
import HandS.Property
import HandS.TryMany
import HandS.TryOnly
import HandS.ClsMeth
import HandS.MakeKwOnly
import HandS.FStr
import HandS.DictTup
import HandS.StrSplit
import HandS.Star
import HandS.MethStar
import HandS.TupLe
import KE.GoesMore
set_option Elab.async false
set_option linter.all false
set_option maxRecDepth 100000
set_option maxHeartbeats 4000000
namespace Sl
open PySem PySem.Spec PyProof.Rows L2 ItX
/-- the def st stands at f as the name x of the module -/
structure DefAt (K : PySem.W.Frag) (mg : Str → Option Value) (x : Str) (st : Stmt) (ps : List Str) (f : Addr) (fd : FuncData) : Prop where
  F : Fun K x x st f fd
  b : Binds K fd ps []
  g : mg x = some (.ref f)
theorem callD {X : Cx} {x : Str} {st : Stmt} {ps : List Str} {f : Addr} {fd : FuncData} {sp : Sp} {k j : Nat} {e : Expr} {es : List Expr} {p pos : Pos} {t : TA} (D : DefAt X.K X.mg x st ps f fd) (G : FnOk X.prog X.w X.K X.mg X.base CX0 k f fd ps sp) (hr : Room j X.A) (ha : PA X (e :: es) t)
    (hk : k ≤ j := by decide) (hg : Gl X x := by rfl) (hdb : (x == ("__debug__" : Str)) = false := by decide)
    (he : starEach (e :: es) X.env = (false, eval e X.env) :: starEach es X.env := by rfl) (hpl : (backTo pos (starEach es X.env)).any (·.1) = false := by rfl) :
    PE X (.Call (.Name x p) (e :: es) [] pos) (tCall sp [] E0 t) := pe_call G (hr.mono hk) hg D.g D.F.kp D.b .nil pass0 ha hdb he hpl
theorem cmul_l {i j : Int} (h : -18446744073709551616 < i ∧ i < 18446744073709551616) : CMul i j := .inl h
theorem cmul_r {i j : Int} (h : -18446744073709551616 < j ∧ j < 18446744073709551616) : CMul i j := .inr h
theorem cdiv {i j : Int} (h : 0 < j) (h2 : j < 1073741824) : CDiv i j := ⟨h, h2⟩
theorem same_but {a : Addr} {H H1 H2 : Hp} (s : Same H H1) (n : H a = none) (b : ∀ b o, b ≠ a → H1 b = some o → H2 b = some o) : Same H H2 := fun c o h => b c o (ne_of_none h n) (s c o h)
theorem same_new {H H1 : Hp} {a : Addr} {o : HO} (s : Same H H1) (n : H1 a = none) : Same H (upd H1 a o) := fun b u e => by
  rw [upd_ne (ne_of_none (s b u e) n)]
  exact s b u e
theorem same_free {H H' : Hp} {a : Addr} (s : Same H H') (n : H' a = none) : H a = none := s.free n
theorem cpow {i j : Int} (h1 : 0 ≤ j) (h2 : j ≤ 1000000) (h3 : i.natAbs < 2 ^ 64) : CPow i j := ⟨h1, h2, h3⟩
theorem szl {n : Nat} (h : n ≤ 1000) : n ≤ sizeLine := Nat.le_of_lt (small1000 h)
/-- the law's hand stands at a -/
def HandOk (H : Hp) (a : Addr) : Prop := ∃ (l : Addr) (cells : List Int) (pos pend tot : Int), H a = some (.lst [.ref l, .int pos, .int pend, .int tot]) ∧ H l = some (.lst (cells.map V.int)) ∧
  (0 ≤ pos ∧ pos ≤ 63) ∧ cells.length ≤ 63 ∧ (∀ c ∈ cells, 0 ≤ c) ∧ 0 ≤ pend ∧ (0 ≤ tot ∧ tot < 2147483629)
/-- all but a is as it was -/
def But (a : Addr) (H H' : Hp) : Prop := ∀ b o, b ≠ a → H b = some o → H' b = some o
theorem HandOk.mk {H H' : Hp} {a l : Addr} {cells : List Int} {pos pend tot : Int} (hal : a ≠ l) (el : H l = some (.lst (cells.map V.int))) (b : But a H H') (ea : H' a = some (.lst [.ref l, .int pos, .int pend, .int tot])) (hp : 0 ≤ pos ∧ pos ≤ 63) (hl : cells.length ≤ 63) (hc : ∀ c ∈ cells, 0 ≤ c) (hpe : 0 ≤ pend) (ht : 0 ≤ tot ∧ tot < 2147483629) : HandOk H' a :=
  ⟨l, cells, pos, pend, tot, ea, b l _ (Ne.symm hal) el, hp, hl, hc, hpe, ht⟩
theorem But.refl (a : Addr) (H : Hp) : But a H H := fun _ _ _ h => h
theorem But.trans {a : Addr} {H H1 H2 : Hp} (x : But a H H1) (y : But a H1 H2) : But a H H2 := fun b o n h => y b o n (x b o n h)
theorem But.upd {a : Addr} {H H1 : Hp} {o : HO} (x : But a H H1) : But a H (upd H1 a o) := fun b u n h => by
  rw [upd_ne n]
  exact x b u n h
/-! texts by their codes -/
def sOf (l : List Nat) : Str := ⟨l.toArray⟩
theorem sOf_tl (x : Str) : sOf x.cps.toList = x := rfl
theorem sOf_inj {a b : List Nat} : sOf a = sOf b ↔ a = b := ⟨fun h => by
  have h2 := congrArg (fun s : Str => s.cps.toList) h
  simpa [sOf] using h2, fun h => by rw [h]⟩
theorem sOf_len (l : List Nat) : (sOf l).length = l.length := by simp [sOf, Str.length]
theorem sOf_app (a b : List Nat) : sOf a ++ sOf b = sOf (a ++ b) := TL.ext_tl (by rw [TL.tl_append]; simp [sOf, TL.tl])
theorem sOf_count (l : List Nat) (c : Nat) : Txt.count (sOf l) (sOf [c]) = (l.count c : Int) := by
  show Txt.count (sOf l) ⟨#[c]⟩ = _
  rw [PyProof.Rows.count_cnt]
  show PyProof.Rows.cnt c l = _
  induction l with
  | nil => rfl
  | cons x r ih =>
    rw [PyProof.Rows.cnt_cons, ih, List.count_cons]
    by_cases h : x = c
    · subst h; simp; omega
    · simp [h]
theorem sOf_take (l : List Nat) (k : Nat) (h : k ≤ l.length) : cutS (sOf l) none (some (k : Int)) = sOf (l.take k) := by
  unfold cutS
  rw [sOf_len, HT.sIx_nat, HT.sIx_none, Nat.min_eq_left h]
  simp [sOf]
theorem sOf_drop (l : List Nat) (k : Nat) (h : k ≤ l.length) : cutS (sOf l) (some (k : Int)) none = sOf (l.drop k) := by
  unfold cutS
  rw [sOf_len, HT.sIx_nat, HT.sIx_none, Nat.min_eq_left h]
  have e : (l.drop k).take (l.length - k) = l.drop k := List.take_of_length_le (by rw [List.length_drop]; exact Nat.le_refl _)
  simp [sOf, e]
theorem str_d : ("d" : Str) = sOf [100] := by decide +kernel
theorem str_o : ("o" : Str) = sOf [111] := by decide +kernel
theorem str_e : ("" : Str) = sOf [] := by decide +kernel
/-! rules of texts, by their codes -/
theorem pe_s {X : Cx} (l : List Nat) {x : Str} {j : Nat} {pos : Pos} (h : x = sOf l) : PE X (.Constant (.str x) j pos) (tC (.str (sOf l))) := by
  subst h
  exact pe_str
def rAddS : R2 := fun x y H Q => ∃ a b : List Nat, x = .str (sOf a) ∧ y = .str (sOf b) ∧ a.length + b.length ≤ 1000 ∧ Q (.str (sOf (a ++ b))) H
theorem op_addS {X : Cx} : OpR X (binaryOp .Add) rAddS := fun pins s σ H x y v u Q I rx ry ⟨a, b, ex, ey, hl, q⟩ =>
  op_add_str pins s σ H x y v u Q I rx ry ⟨_, _, ex, ey, by rw [sOf_len, sOf_len]; exact szl hl, by rw [sOf_app]; exact q⟩
def rLenS1 : List V → Hp → VK → Prop := fun xs H Q => ∃ l : List Nat, xs = [.str (sOf l)] ∧ l.length ≤ 1000 ∧ Q (.int l.length) H
theorem call_lenS {X : Cx} : CallR X (.builtin "len") rLenS1 := fun pins s σ H xs us Q I r ⟨l, e, hl, q⟩ =>
  call_len_str pins s σ H xs us Q I r ⟨_, e, by rw [sOf_len]; exact szl hl, by rw [sOf_len]; exact q⟩
def rCountS : V → List V → Hp → VK → Prop := fun x xs H Q => ∃ (l : List Nat) (c : Nat), x = .str (sOf l) ∧ xs = [.str (sOf [c])] ∧ Q (.int (l.count c : Nat)) H
theorem mt_countS {X : Cx} : MtR X "str.count" rCountS := fun pins s σ H x xs v us Q I rx rs ⟨l, c, ex, es, q⟩ =>
  mt_count pins s σ H x xs v us Q I rx rs ⟨_, _, ex, es, by rw [sOf_count]; exact q⟩
/-- a list's slice -/
def cutN (l : List Nat) (lo hi : Option Int) : List Nat := (l.drop (HT.sIx l.length 0 lo)).take (HT.sIx l.length l.length hi - HT.sIx l.length 0 lo)
theorem cutS_cutN (l : List Nat) (lo hi : Option Int) : cutS (sOf l) lo hi = sOf (cutN l lo hi) := by
  unfold cutS cutN
  rw [sOf_len]
  rfl
theorem cutN_take (l : List Nat) {i : Int} (h0 : 0 ≤ i) : cutN l none (some i) = l.take i.toNat := by
  obtain ⟨k, rfl⟩ := Int.eq_ofNat_of_zero_le h0
  unfold cutN
  rw [show (some ((k : Nat) : Int)) = some (k : Int) from rfl, HT.sIx_nat, HT.sIx_none, Nat.sub_zero, List.drop_zero, Int.toNat_natCast]
  by_cases h : k ≤ l.length
  · rw [Nat.min_eq_left h]
  · rw [Nat.min_eq_right (by omega), List.take_length, List.take_of_length_le (by omega)]
theorem cutN_drop (l : List Nat) {i : Int} (h0 : 0 ≤ i) : cutN l (some i) none = l.drop i.toNat := by
  obtain ⟨k, rfl⟩ := Int.eq_ofNat_of_zero_le h0
  unfold cutN
  rw [show (some ((k : Nat) : Int)) = some (k : Int) from rfl, HT.sIx_nat, HT.sIx_none, Int.toNat_natCast]
  by_cases h : k ≤ l.length
  · rw [Nat.min_eq_left h]
    exact List.take_of_length_le (by rw [List.length_drop]; exact Nat.le_refl _)
  · rw [Nat.min_eq_right (by omega), List.drop_length, List.drop_eq_nil_of_le (by omega), List.take_nil]
def rSlS2 : V → Option Int → Option Int → Hp → VK → Prop := fun x lo hi H Q => ∃ l : List Nat, x = .str (sOf l) ∧ l.length ≤ 1000 ∧ Q (.str (sOf (cutN l lo hi))) H
theorem sl_S {X : Cx} : SlR X rSlS2 := fun pins s σ H x v vl vu lo hi sl Q I rx hs pl pu ⟨l, ex, hl, q⟩ =>
  sl_str pins s σ H x v vl vu lo hi sl Q I rx hs pl pu ⟨_, ex, by rw [sOf_len]; exact szl hl, by rw [cutS_cutN]; exact q⟩
def rIxS2 : R2 := fun x y H Q => ∃ (l : List Nat) (i : Int) (c : Nat), x = .str (sOf l) ∧ y = .int i ∧ l.length ≤ 1000 ∧ atI l i = some c ∧ Q (.str (sOf [c])) H
theorem ix_S {X : Cx} : IxR X rIxS2 := fun value slice pins s σ H x y v u Q I rx ry ⟨l, i, c, ex, ey, hl, ha, q⟩ hs =>
  ix_str value slice pins s σ H x y v u Q I rx ry ⟨_, i, c, ex, ey, by rw [sOf_len]; exact szl hl, ha, q⟩ hs
theorem walk_S {l : List Nat} : Walk (Its (sOf l)) l.length (fun _ => True) (fun i H v H' => H' = H ∧ ∃ c, l[i]? = some c ∧ v = .str (sOf [c])) := by
  refine ⟨fun i H hi _ => ?_, fun H _ => ?_, fun i H x H' _ _ y => ?_⟩
  · show i < (sOf l).cps.size
    simpa [sOf] using hi
  · show (sOf l).cps.size ≤ l.length
    simp [sOf]
  · obtain ⟨h1, c, h2, h3⟩ := y
    refine ⟨h1, c, ?_, h3⟩
    simpa [sOf] using h2
theorem str_eq {a b : List Nat} : (V.str (sOf a) = V.str (sOf b)) ↔ a = b := ⟨fun h => sOf_inj.mp (V.str.inj h), fun h => by rw [h]⟩
/-! ### words -/
/-- a word of size n: as many d (100) as o (111), never more o than d ahead -/
structure Good (l : List Nat) (n : Nat) : Prop where
  len : l.length = 2 * n
  cnt : l.count 100 = n
  ltr : ∀ c ∈ l, c = 100 ∨ c = 111
  ahead : ∀ k, k ≤ l.length → (l.take k).count 111 ≤ (l.take k).count 100
theorem ltr_count : ∀ {l : List Nat}, (∀ c ∈ l, c = 100 ∨ c = 111) → l.count 100 + l.count 111 = l.length
  | [], _ => rfl
  | x :: r, h => by
    have ih := ltr_count (l := r) fun c hc => h c (List.mem_cons_of_mem _ hc)
    rw [List.count_cons, List.count_cons, List.length_cons]
    rcases h x List.mem_cons_self with e | e <;> subst e <;> simp <;> omega
/-- what a row of steps has of a word while it is made -/
structure Part (l : List Nat) (n : Nat) : Prop where
  cnt : l.count 100 ≤ n
  ltr : ∀ c ∈ l, c = 100 ∨ c = 111
  ahead : ∀ k, k ≤ l.length → (l.take k).count 111 ≤ (l.take k).count 100
theorem Part.le {l : List Nat} {n : Nat} (p : Part l n) : l.count 111 ≤ l.count 100 := by
  have h := p.ahead l.length (Nat.le_refl _)
  rwa [List.take_length] at h
theorem Part.nil (n : Nat) : Part [] n := ⟨Nat.zero_le _, fun _ h => by simp at h, fun k _ => by simp⟩
theorem Part.snoc {l : List Nat} {n c : Nat} (p : Part l n) (h : (c = 100 ∧ l.count 100 < n) ∨ (c = 111 ∧ l.count 111 < l.count 100)) : Part (l ++ [c]) n := by
  refine ⟨?_, ?_, fun k hk => ?_⟩
  · rcases h with ⟨e, h⟩ | ⟨e, h⟩ <;> subst e <;> simp [List.count_append] <;> have := p.cnt <;> omega
  · intro x hx
    rcases List.mem_append.mp hx with hx | hx
    · exact p.ltr x hx
    · rw [List.mem_singleton] at hx
      rcases h with ⟨e, h⟩ | ⟨e, h⟩
      · exact .inl (hx.trans e)
      · exact .inr (hx.trans e)
  · by_cases hk2 : k ≤ l.length
    · rw [List.take_append_of_le_length hk2]
      exact p.ahead k hk2
    · have e : (l ++ [c]).take k = l ++ [c] := List.take_of_length_le (by rw [List.length_append] at hk ⊢; simp at hk ⊢; omega)
      rw [e, List.count_append, List.count_append]
      have := p.le
      rcases h with ⟨e, h⟩ | ⟨e, h⟩ <;> subst e <;> simp <;> omega
theorem Part.good {l : List Nat} {n : Nat} (p : Part l n) (h : l.length = 2 * n) : Good l n := by
  have h1 := p.le
  have h2 := ltr_count p.ltr
  have h3 := p.cnt
  exact ⟨h, by omega, p.ltr, p.ahead⟩
theorem cdivw {m : Int} (h : 0 < m) (h2 : m < 1152921504606846976) : CDivW 0 m := wide_div (i := 0) (b := 60) h (by omega) (by decide) (by decide)
theorem count_sign (c x : Nat) : [c].count x = if c = x then 1 else 0 := by
  rw [List.count_cons, List.count_nil]
  by_cases h : c = x
  · simp [h]
  · simp [h]
theorem cnt_d (l : List Nat) : (((l ++ [100]).count 100 : Nat) : Int) - ((l ++ [100]).count 111 : Nat) = (l.count 100 : Int) - l.count 111 + 1 := by
  rw [List.count_append, List.count_append, count_sign, count_sign]
  simp
  omega
theorem cnt_o (l : List Nat) : (((l ++ [111]).count 100 : Nat) : Int) - ((l ++ [111]).count 111 : Nat) = (l.count 100 : Int) - l.count 111 - 1 := by
  rw [List.count_append, List.count_append, count_sign, count_sign]
  simp
  omega
/-! rules that name the written part by itself (within comprehensions) -/
section
variable {X : Cx} {K : PySem.W.Frag}
theorem op_inK (h : X.K = K) : OpR X (compareOp .In) (rIn K false) := h ▸ op_in_seq
theorem op_notInK (h : X.K = K) : OpR X (compareOp .NotIn) (rIn K true) := h ▸ op_notIn_seq
theorem ix_listK (h : X.K = K) : IxR X (rIxL K) := h ▸ ix_list
theorem ix_tupK (h : X.K = K) : IxR X (rIxT K) := h ▸ ix_tup
theorem call_isiTK (h : X.K = K) : CallR X (.builtin "isinstance") (rIsiT K) := h ▸ call_isiT
/-- a list's or a tuple's item -/
def rIxQ (K : PySem.W.Frag) : R2 := fun x y H Q => rIxL K x y H Q ∨ rIxT K x y H Q
theorem ix_Q (h : X.K = K) : IxR X (rIxQ K) := h ▸ fun value slice pins s σ H x y v u Q I rx ry q hs => q.elim (fun q => ix_list value slice pins s σ H x y v u Q I rx ry q hs) (fun q => ix_tup value slice pins s σ H x y v u Q I rx ry q hs)
theorem call_isiK' (h : X.K = K) : CallR X (.builtin "isinstance") (rIsi K) := h ▸ call_isi
def rLenQ (K : PySem.W.Frag) : List V → Hp → VK → Prop := fun xs H Q => ∃ p ys, xs = [.ref p] ∧ (SqL K H p ys ∨ SqT K H p ys) ∧ Q (.int ys.length) H
theorem call_lenQ (h : X.K = K) : CallR X (.builtin "len") (rLenQ K) := h ▸ call_len_seq
def rListQ (K : PySem.W.Frag) : List V → Hp → VK → Prop := fun xs H Q => ∃ p ys, xs = [.ref p] ∧ (SqL K H p ys ∨ SqT K H p ys) ∧ ∀ l, H l = none → Q (.ref l) (upd H l (.lst ys))
theorem call_listQ (h : X.K = K) : CallR X (.type "list") (rListQ K) := h ▸ call_list_of
end
theorem Same.toBut {a : Addr} {H H1 H2 : Hp} (s : Same H H1) (n : H a = none) (b : But a H1 H2) : Same H H2 := same_but s n b
theorem But.new {a p : Addr} {H H1 : Hp} {o : HO} (b : But a H H1) (n : H1 p = none) : But a H (L2.upd H1 p o) := fun c u nc h => by
  rw [upd_ne (ne_of_none (b c u nc h) n)]
  exact b c u nc h
theorem inV_do (c : Nat) : inV (.str (sOf [c])) [.str (sOf [100]), .str (sOf [111])] = (c == 100 || c == 111) := by
  have h : ∀ d : Nat, eqV (.str (sOf [d])) (.str (sOf [c])) = (c == d) := fun d => by
    show ((sOf [d] == sOf [c]) : Bool) = (c == d)
    by_cases e : c = d
    · subst e; simp
    · have e2 : ¬ sOf [d] = sOf [c] := fun z => e (by have := sOf_inj.mp z; simp at this; exact this.symm)
      rw [beq_eq_false_iff_ne.mpr e2, beq_eq_false_iff_ne.mpr e]
  unfold inV
  rw [List.any_cons, List.any_cons, List.any_nil, h, h, Bool.or_false]
/-! exceptions that leave a call in a try: a wish that does not look at the slots -/
theorem takes_len {X : Cx} {W : WX} (t : Takes X W) : Takes X (fun c d σ H => σ.length = X.N.length → W c d σ H) := fun u s' ⟨a, B, sI, pins, σ, H, cls, d, e, I, nb, up, sky, na, os, ag, q⟩ =>
  t u s' ⟨a, B, sI, pins, σ, H, cls, d, e, I, nb, up, sky, na, os, ag, q I.len⟩
/-- what is asked first, then the block -/
def tGiven (p : Prop) (t : TS) : TS := fun D σ H => p ∧ t D σ H
theorem pss_given {X : Cx} {b : List Stmt} {t : TS} {p : Prop} (h : p → PSs X b t) : PSs X b (tGiven p t) := ⟨fun pins s σ H D I q => (h q.1).run pins s σ H D I q.2⟩
/-- the wish W is granted wherever E holds (n slots) -/
def Wish (n : Nat) (E : XK) (W : WX) : Prop := ∀ cls d σ H, σ.length = n → E cls d H → W cls d σ H
theorem passW {X : Cx} {W : WX} {E : XK} (tk : Takes X W) (h : Wish X.N.length E W) : Passes (L2.CX X.prog X.w) X E := fun pins σ H s e s' I c =>
  passes_call (takes_len tk) (fun cls d σ H q l => h cls d σ H l q) pins σ H s e s' I c
/-- what an exception class with the one field holds in the written part -/
structure ExC (K : PySem.W.Frag) (mg : Str → Option Value) (x : Str) (C : Addr) (i : Addr) : Prop where
  g : mg x = some (.ref C)
  oex : OexC K C
  xf : XfC K C
  ini : PySem.W.findIn K (.ref C) "__init__" = some (some (.ref i))
  tI : PySem.W.typeIn K (.ref i) = some (.type "function")
  me : PySem.W.exmOne K (.ref C) (.ref C) = some true
/-- a method (or __init__) as it stands -/
structure MetAt (K : PySem.W.Frag) (x qual : Str) (st : Stmt) (ps : List Str) (f : Addr) (fd : FuncData) : Prop where
  F : Fun K x qual st f fd
  b : Binds K fd ps []
theorem upd_del_same {H1 H2 : Hp} {a d : Addr} {fs : List (Str × V)} (na : H1 a = none) (nd : H1 d = none) (k : ∀ b o, b ≠ a → H1 b = some o → H2 b = some o) : Same H1 (upd (del H2 a) d (.xd fs)) := fun b o e => by
  rw [upd_ne (ne_of_none e nd), del_ne (ne_of_none e na)]
  exact k b o (ne_of_none e na) e

/-! ### objects of own classes: len, ==, !=, str by their own methods -/
section
variable {X : Cx} {pins : List (Addr × Obj)} {σ : L2.St} {H : Hp} {s : Shared} {CX : CXT} {n : Nat} {f C : Addr} {fd : FuncData} {ps : List Str} {sp : Sp} {E : XK} {vs : List V} {us : List Value} {Q : VK} {A1 : Around}
theorem run_own (sb : Sub X n A1) (F : FnOk X.prog X.w X.K X.mg X.base CX n f fd ps sp) (hb : L2.Binds X.K fd ps []) (hx : Passes CX X E) (I : Inv X pins σ H s) (r : Vals vs us) (h : sp vs H Q E) :
    wpAny (model X.prog X.w) A1 (call (.ref f) us) (EP X pins σ Q) X.xe s := by
  have e := I.env0
  have e0 : Env0 X.prog X.w X.K X.mg X.base A1 X.stack s H := ⟨sb.fr.trans e.frames, e.mod, e.bs, e.bsz, e.funs, e.frf, e.hok, e.bare⟩
  have hl : us.length = ps.length := r.length.symm.trans (F.len _ _ _ _ h)
  have bd := hb s us I.kIn (by rw [List.append_nil]; exact hl)
  rw [List.append_nil] at bd
  refine wpAny_call (codeAny_mono (F.run A1 X.stack s H ⟨us, []⟩ us vs Q E sb.room e0 bd r h) fun res s' hq => ?_)
  cases res with
  | error er => exact hx pins σ H s er s' I hq
  | ok fl =>
    cases fl with
    | ret w => exact I.after hq
    | next => exact hq.elim
    | brk => exact hq.elim
    | cont => exact hq.elim
/-- the same of a def that raises nothing, whatever is wished of errors -/
theorem run_own0 {EE : Value → Shared → Prop} (sb : Sub X n A1) (F : FnOk X.prog X.w X.K X.mg X.base CX0 n f fd ps sp) (hb : L2.Binds X.K fd ps []) (I : Inv X pins σ H s) (r : Vals vs us) (h : sp vs H Q E0) :
    wpAny (model X.prog X.w) A1 (call (.ref f) us) (EP X pins σ Q) EE s := by
  have e := I.env0
  have e0 : Env0 X.prog X.w X.K X.mg X.base A1 X.stack s H := ⟨sb.fr.trans e.frames, e.mod, e.bs, e.bsz, e.funs, e.frf, e.hok, e.bare⟩
  have hl : us.length = ps.length := r.length.symm.trans (F.len _ _ _ _ h)
  have bd := hb s us I.kIn (by rw [List.append_nil]; exact hl)
  rw [List.append_nil] at bd
  refine wpAny_call (codeAny_mono (F.run A1 X.stack s H ⟨us, []⟩ us vs Q E0 sb.room e0 bd r h) fun res s' hq => ?_)
  cases res with
  | error er => exact hq.elim
  | ok fl =>
    cases fl with
    | ret w => exact I.after hq
    | next => exact hq.elim
    | brk => exact hq.elim
    | cont => exact hq.elim
theorem val_ref {a : Addr} : L2.RelV (V.ref a) (Value.ref a) := rfl
/-- a method that the class has as a def -/
structure OwnM (K : PySem.W.Frag) (C : Addr) (m : Str) (f : Addr) : Prop where
  at_ : PySem.W.findIn K (.ref C) m = some (some (.ref f))
  fn : PySem.W.isFn K (.ref f) = true
def rLenOwn (C : Addr) (sp : Sp) (E : XK) : List V → Hp → VK → Prop := fun xs H Q => ∃ a dx fs, xs = [.ref a] ∧ H a = some (.ins C dx fs) ∧ sp [.ref a] H (fun v H' => ∃ k : Nat, v = .int k ∧ k < 1000000 ∧ Q (.int k) H') E
theorem call_lenOwn (M : OwnM X.K C "__len__" f) (F : FnOk X.prog X.w X.K X.mg X.base CX n f fd ps sp) (hb : L2.Binds X.K fd ps []) (hx : Passes CX X E) (hr : Room (n + 1) X.A) : CallR X (.builtin "len") (rLenOwn C sp E) := by
  intro pins s σ H xs us Q I r h
  obtain ⟨a, dx, fs, rfl, ha, h⟩ := h
  obtain ⟨u, rfl, ru⟩ := r.one
  cases ru
  obtain ⟨mA, J, _⟩ := ins_get I.hok ha
  obtain ⟨od, J, _⟩ := J.look
  obtain ⟨m, hF⟩ := I.fr
  refine PySem.W.len_K hF I.ok.mod.kin J M.at_ M.fn (wpAny_mono (run_own (Sub.in1 ⟨hr, rfl⟩) F hb hx I (.cons val_ref .nil) h) (fun v s' q => ?_) fun _ _ z => z)
  obtain ⟨w, H', I', rw', k, rfl, hk, q⟩ := q
  obtain ⟨t, rfl⟩ := rw'
  exact ⟨⟨by omega, by omega⟩, .int k, H', I'.tok _, ⟨_, rfl⟩, q⟩
def rStrOwn (C : Addr) (sp : Sp) (E : XK) : List V → Hp → VK → Prop := fun xs H Q => ∃ a dx fs, xs = [.ref a] ∧ H a = some (.ins C dx fs) ∧ sp [.ref a] H (fun v H' => ∃ z : Str, v = .str z ∧ Q (.str z) H') E
theorem call_strOwn (M : OwnM X.K C "__str__" f) (F : FnOk X.prog X.w X.K X.mg X.base CX n f fd ps sp) (hb : L2.Binds X.K fd ps []) (hx : Passes CX X E) (hr : Room (n + 2) X.A) : CallR X (.type "str") (rStrOwn C sp E) := by
  intro pins s σ H xs us Q I r h
  obtain ⟨a, dx, fs, rfl, ha, h⟩ := h
  obtain ⟨u, rfl, ru⟩ := r.one
  cases ru
  obtain ⟨mA, J, _⟩ := ins_get I.hok ha
  obtain ⟨od, J, _⟩ := J.look
  have sb : Sub X n X.A.in1.in1 := Sub.in1 (Sub.in1 (⟨hr, rfl⟩ : Sub X (n + 2) X.A))
  refine PySem.W.kso_call sb.room.units0 I.kIn J M.at_ M.fn (wpAny_mono (run_own sb F hb hx I (.cons val_ref .nil) h) (fun v s' q => ?_) fun _ _ z => z)
  obtain ⟨w, H', I', rw', z, rfl, q⟩ := q
  obtain ⟨t, rfl⟩ := rw'
  exact ⟨.str z, H', I', ⟨_, rfl⟩, q⟩
/-- what may stand at the right of an own ==: a text, an instance of the same class -/
inductive Oth (C : Addr) (H : Hp) : V → Prop where
  | str (z : Str) : Oth C H (.str z)
  | ins {b dx : Addr} {fs : List (Str × V)} (h : H b = some (.ins C dx fs)) : Oth C H (.ref b)
def rEqOwn (neg : Bool) (C : Addr) (sp : Sp) (E : XK) : R2 := fun x y H Q => ∃ a dx fs, x = .ref a ∧ H a = some (.ins C dx fs) ∧ Oth C H y ∧ sp [.ref a, y] H (fun v H' => ∃ b : Bool, v = .bl b ∧ Q (.bl (if neg then !b else b)) H') E
theorem op_eqOwn (M : OwnM X.K C "__eq__" f) (hs : PySem.W.subIn X.K (.type "str") (.ref C) = some false) (F : FnOk X.prog X.w X.K X.mg X.base CX n f fd ps sp) (hb : L2.Binds X.K fd ps []) (hx : Passes CX X E) (hr : Room n X.A) :
    OpR X (compareOp .Eq) (rEqOwn false C sp E) := by
  intro pins s σ H x y v u Q I rx ry h
  obtain ⟨a, dx, fs, rfl, ha, oth, h⟩ := h
  cases rx
  obtain ⟨mA, J, _⟩ := ins_get I.hok ha
  obtain ⟨od, J, _⟩ := J.look
  obtain ⟨m, hF⟩ := I.fr
  have back : wpAny (model X.prog X.w) X.A (call (.ref f) [.ref a, u]) (PySem.W.CmpBack (EP X pins σ Q)) X.xe s := by
    refine wpAny_mono (run_own (⟨hr, rfl⟩ : Sub X n X.A) F hb hx I (.cons val_ref (.cons ry .nil)) h) (fun w s' q => ?_) fun _ _ z => z
    obtain ⟨z, H', I', rz, b, rfl, q⟩ := q
    cases rz
    exact ⟨.bl b, H', I', rfl, q⟩
  show wpAny (model X.prog X.w) X.A (richCompare .Eq (.ref a) u) (EP X pins σ Q) X.xe s
  cases oth with
  | str z =>
    obtain ⟨t, rfl⟩ := ry
    exact PySem.W.cmp_K (op := .Eq) (tb := .type "str") hr.units0 hF I.ok.mod.kin J (.of_pure rfl) (by simp [PySem.W.notFirst, hs]) M.at_ M.fn back
  | ins hb2 =>
    cases ry
    obtain ⟨mB, J', _⟩ := ins_get I.hok hb2
    obtain ⟨od', J', _⟩ := J'.look
    exact PySem.W.cmp_K (op := .Eq) (tb := .ref C) hr.units0 hF I.ok.mod.kin J J'.type (by simp [PySem.W.notFirst]) M.at_ M.fn back
/-- != where the class has an own == alone -/
structure NeC (K : PySem.W.Frag) (C : Addr) : Prop where
  at_ : PySem.W.findIn K (.ref C) "__ne__" = some (some (.builtin "object.__ne__"))
  up : PySem.W.mroIn K C (.type "object") = some true
theorem ne_here {M : Model} {A : Around} {E : Value → Shared → Prop} {s : Shared} {K : PySem.W.Frag} {x : Addr} {ox : Obj} {od : Option Obj} {args : List Value} {Q : Option Value → Shared → Prop} (N : NeC K C) (hK : K.In s.heap) (J : PySem.W.InstAt s.heap x ox C od)
    (h : wpAny M A (call (.builtin "object.__ne__") (.ref x :: args)) (fun v => Q (some v)) E s) : wpAny M A (callSpecialIfBound? (.ref x) "__ne__" args) Q E s := by
  simp only [callSpecialIfBound?, bindSpecialIfBound?]
  refine wpAny_holding (wpAny_bind (wpAny_bind (wpAny_bind (J.type.here ((PySem.W.looks_findIn hK N.at_).here ?_)))))
  refine wpAny_bind (wpAny_askSetting (wpAny_ite ?_))
  have fin : wpAny M A (call (.builtin "object.__ne__") ([.ref x] ++ args) >>= fun v => pure (some v)) Q E s := wpAny_bind (wpAny_mono h (fun v s' z => wpAny_pure z) fun _ _ z => z)
  have bd : bindSpecial (.builtin "object.__ne__") (.ref x) = pure (.builtin "object.__ne__", [.ref x]) := PySem.F.slot_object_ne.bind _
  split
  · exact wpAny_bind (wpAny_of_eq bd (wpAny_pure (by exact fin)))
  · exact wpAny_tryCatch (wpAny_bind (wpAny_of_eq bd (wpAny_pure (by exact fin))))
theorem op_neOwn (M : OwnM X.K C "__eq__" f) (N : NeC X.K C) (hs : PySem.W.subIn X.K (.type "str") (.ref C) = some false) (F : FnOk X.prog X.w X.K X.mg X.base CX n f fd ps sp) (hb : L2.Binds X.K fd ps []) (hx : Passes CX X E) (hr : Room (n + 1) X.A) :
    OpR X (compareOp .NotEq) (rEqOwn true C sp E) := by
  intro pins s σ H x y v u Q I rx ry h
  obtain ⟨a, dx, fs, rfl, ha, oth, h⟩ := h
  cases rx
  obtain ⟨mA, J, _⟩ := ins_get I.hok ha
  obtain ⟨od, J, _⟩ := J.look
  obtain ⟨m, hF⟩ := I.fr
  have sb : Sub X n X.A.in1 := Sub.in1 ⟨hr, rfl⟩
  have back : wpAny (model X.prog X.w) X.A.in1 (call (.ref f) [.ref a, u]) (fun v s' => ∃ b, v = .bool b ∧ EP X pins σ Q (.bool (!b)) s') X.xe s := by
    refine wpAny_mono (run_own sb F hb hx I (.cons val_ref (.cons ry .nil)) h) (fun w s' q => ?_) fun _ _ z => z
    obtain ⟨z, H', I', rz, b, rfl, q⟩ := q
    cases rz
    exact ⟨b, rfl, .bl (!b), H', I', rfl, q⟩
  have one : wpAny (model X.prog X.w) X.A (tryCompare (.ref a) "__ne__" u) (fun r s' => ∃ v, r = some v ∧ EP X pins σ Q v s') X.xe s := by
    unfold tryCompare
    refine wpAny_bind (ne_here N I.kIn J (wpAny_call (codeAny_call_builtin PySem.F.slot_object_ne.plain PySem.F.cmpEntry_ne (PySem.W.check_slot PySem.F.cmpKind_ne PySem.F.cmpSplit_ne (J.type.andThen (PySem.W.looks_mroIn I.kIn N.up)) (PySem.F.cmpArgs_ne _ _) ?_))))
    unfold Builtin.«object.__ne__»
    refine wpAny_bind (m := slotArgs "__ne__" 1 _) (wpAny_pure ?_)
    refine wpAny_bind (wpAny_cRoomFor sb.room.units0 ?_)
    refine wpAny_bind (m := callSpecialIfBound? (.ref a) (Str.ofString "__eq__") [u]) (PySem.W.ifBound_K I.kIn J M.at_ M.fn (wpAny_mono back (fun r s' q => ?_) fun _ _ z => z))
    obtain ⟨b, rfl, q⟩ := q
    exact wpAny_bind (wpAny_truthy_bool (wpAny_pure (wpAny_pure ⟨_, rfl, q⟩)))
  obtain ⟨tb, hT, hn⟩ : ∃ tb, PySem.W.Looks (model X.prog X.w) s.heap (typeOf u) tb ∧ (tb = .ref C ∨ tb = .type "str") := by
    cases oth with
    | str z =>
      obtain ⟨t, rfl⟩ := ry
      exact ⟨_, .of_pure rfl, .inr rfl⟩
    | ins hb2 =>
      cases ry
      obtain ⟨mB, J', _⟩ := ins_get I.hok hb2
      obtain ⟨od', J', _⟩ := J'.look
      exact ⟨_, J'.type, .inl rfl⟩
  show wpAny (model X.prog X.w) X.A (richCompare .NotEq (.ref a) u) (EP X pins σ Q) X.xe s
  unfold richCompare
  simp only [oneThing_ref]
  refine wpAny_holding (wpAny_bind (wpAny_cRoomFor (hr.mono (Nat.le_succ n)).units0 ?_))
  refine wpAny_bind (J.type.here (wpAny_bind (hT.here ?_)))
  rcases hn with rfl | rfl
  · rw [if_neg (by simp)]
    refine wpAny_bind (wpAny_pure ?_)
    simp only [Bool.false_eq_true, if_false]
    refine wpAny_bind (wpAny_mono one (fun r s' ⟨v, e, q⟩ => ?_) fun _ _ z => z)
    subst e
    exact wpAny_pure q
  · rw [if_pos (by rfl)]
    refine wpAny_bind ((PySem.W.looks_subIn I.kIn hs).here ?_)
    simp only [Bool.false_eq_true, if_false]
    refine wpAny_bind (wpAny_mono one (fun r s' ⟨v, e, q⟩ => ?_) fun _ _ z => z)
    subst e
    exact wpAny_pure q
end

/-! ### the iteration over an object of an own class whose __iter__ gives the iterator of a field -/
/-- the same heap, with n empty places behind it -/
def pad (h : Heap) (n : Nat) : Heap := { h with objs := h.objs ++ Array.replicate n ⟨.none, none, .freed, #[]⟩ }
theorem pad_size (h : Heap) (n : Nat) : (pad h n).objs.size = h.objs.size + n := by simp [pad]
theorem pad_get (h : Heap) (n : Nat) (b : Addr) : (pad h n).get? b = h.get? b := by
  unfold Heap.get? pad
  by_cases hb : b < h.objs.size
  · rw [Array.getElem?_append_left hb]
  · rw [Array.getElem?_append_right (Nat.le_of_not_lt hb), Array.getElem?_eq_none (Nat.le_of_not_lt hb), Array.getElem?_replicate]
    by_cases h2 : b - h.objs.size < n
    · rw [if_pos h2]
    · rw [if_neg h2]
theorem pad_mod {K : PySem.W.Frag} {mg : Str → Option Value} {h : Heap} (n : Nat) (m : Mod K mg h) : Mod K mg (pad h n) := by
  have k : ∀ b o, h.get? b = some o → (pad h n).get? b = some o := fun b o e => (pad_get h n b).trans e
  obtain ⟨mb, h1, h2⟩ := m.blt
  exact ⟨m.kin.keeps k, m.glob.keeps k, ⟨mb, h1.keeps k, h2⟩, m.nolimit.keeps k⟩
theorem pad_funs {h base : Heap} (n : Nat) : ∀ {l : List Env}, h.FunFrames base l → h.FunFrames (pad base n) l
  | [], _ => trivial
  | _ :: _, ⟨hk, ⟨L, o, hf, hn, ho, hd⟩, hr⟩ => ⟨hk, ⟨L, o, hf, (pad_get base n L).trans hn, ho, hd⟩, pad_funs n hr⟩
/-- iterators as they are tracked -/
def ItSO (it : Addr) (x : Str) : HO := .ext fun h => ∃ ty t, (ty = "str_ascii_iterator" ∨ ty = "str_iterator") ∧ h.IsStrIter it ty x t 0
def ItTO (it l : Addr) : HO := .ext fun h => h.IsTupleIter it l 0
theorem itSO_ok {P : Program} {w : World} {H : Hp} {h : Heap} {it : Addr} {x : Str} (e : ∃ ty t, (ty = "str_ascii_iterator" ∨ ty = "str_iterator") ∧ h.IsStrIter it ty x t 0) : ObjOk P w H h it (ItSO it x) := by
  refine ⟨e, ?_, ?_⟩
  · obtain ⟨ty, t, _, o, ho, _⟩ := e
    exact ⟨o, ho⟩
  · rintro h1 h2 ⟨ty, t, hy, o, ho, r⟩ k
    exact ⟨ty, t, hy, o, k o ho, r⟩
theorem itTO_ok {P : Program} {w : World} {H : Hp} {h : Heap} {it l : Addr} (e : h.IsTupleIter it l 0) : ObjOk P w H h it (ItTO it l) := by
  refine ⟨e, ?_, ?_⟩
  · obtain ⟨o, ho, _⟩ := e
    exact ⟨o, ho⟩
  · rintro h1 h2 ⟨o, ho, r⟩ k
    exact ⟨o, k o ho, r⟩
section
variable {X : Cx}
def rIterS (n : Nat) : List V → Hp → VK → Prop := fun xs H Q => ∃ x : Str, xs = [.str x] ∧ ∀ it, H it = none → n ≤ it → Q (.ref it) (upd H it (ItSO it x))
def rIterT (K : PySem.W.Frag) (n : Nat) : List V → Hp → VK → Prop := fun xs H Q => ∃ (l : Addr) (zs : List V), xs = [.ref l] ∧ SqT K H l zs ∧ ∀ it, H it = none → n ≤ it → Q (.ref it) (upd H it (ItTO it l))
theorem iter_call {M : Model} {prog : Program} {w : World} {A : Around} {E : Value → Shared → Prop} {s : Shared} {v : Value} {Q : Value → Shared → Prop} (h : wpAny (model prog w) A.in1 (pyIter v) Q E s) : wpAny (model prog w) A (call (.builtin "iter") [v]) Q E s := by
  refine Calls.call_function_entry (by decide +kernel) (by decide +kernel) PySem.W.kdk_entry_iter (PySem.W.kdk_args_iter _) ?_
  unfold Builtin.«iter»
  refine wpAny_bind (m := someArgs "iter" 1 2 _) (wpAny_of_eq (a := [v]) (by first | rfl | kernel_rfl!) ?_)
  show wpAny _ _ (pyIter v >>= _) _ _ _
  exact wpAny_bind (wpAny_mono h (fun r s' q => wpAny_pure ⟨_, rfl, q⟩) fun _ _ z => z)
theorem call_iterS : CallR X (.builtin "iter") (rIterS X.base.objs.size) := by
  intro pins s σ H xs us Q I r h
  obtain ⟨x, rfl, q⟩ := h
  obtain ⟨u, rfl, ru⟩ := r.one
  obtain ⟨t, rfl⟩ := ru
  have nb : X.base.objs.size ≤ s.heap.objs.size := Nat.le_trans I.ok.bsz I.sz
  refine iter_call (M := model X.prog X.w) ?_
  cases ha : x.cps.all (· < 128)
  · exact wpAny_pyIter_wide ha ⟨.ref s.heap.objs.size, _, I.laid (t' := s.toks) (fun b o e => Heap.get?_push_of_some _ e) (Nat.le_refl _) (itSO_ok ⟨_, t, .inr rfl, _, Heap.get?_push_size _ rfl, rfl, rfl⟩), rfl, q _ (I.hok.fresh (Nat.le_refl _)) nb⟩
  · exact wpAny_pyIter_ascii ha ⟨.ref s.heap.objs.size, _, I.laid (t' := s.toks) (fun b o e => Heap.get?_push_of_some _ e) (Nat.le_refl _) (itSO_ok ⟨_, t, .inl rfl, _, Heap.get?_push_size _ rfl, rfl, rfl⟩), rfl, q _ (I.hok.fresh (Nat.le_refl _)) nb⟩
theorem call_iterT : CallR X (.builtin "iter") (rIterT X.K X.base.objs.size) := by
  intro pins s σ H xs us Q I r h
  obtain ⟨l, zs, rfl, hq, q⟩ := h
  obtain ⟨u, rfl, ru⟩ := r.one
  cases ru
  have nb : X.base.objs.size ≤ s.heap.objs.size := Nat.le_trans I.ok.bsz I.sz
  obtain ⟨its, rv, pl, hz⟩ := I.tuple hq
  refine iter_call (M := model X.prog X.w) ?_
  exact wpAny_pyIter_tuple (show s.heap.IsTuple l its.toArray from pl) ⟨.ref s.heap.objs.size, _, I.laid (t' := s.toks) (fun b o e => Heap.get?_push_of_some _ e) (Nat.le_refl _) (itTO_ok ⟨_, Heap.get?_push_size _ rfl, rfl, rfl⟩), rfl, q _ (I.hok.fresh (Nat.le_refl _)) nb⟩
end
section
variable {X : Cx} {pins : List (Addr × Obj)} {σ : L2.St} {H : Hp} {s : Shared} {CX : CXT} {n : Nat} {f C : Addr} {fd : FuncData} {ps : List Str} {sp : Nat → Sp} {E : XK} {vs : List V} {us : List Value} {Q : VK} {A1 : Around}
/-- run_own at a base as large as the heap that stands -/
theorem run_pad (sb : Sub X n A1) (F : ∀ base : Heap, FnOk X.prog X.w X.K X.mg base CX n f fd ps (sp base.objs.size)) (hb : L2.Binds X.K fd ps []) (hx : Passes CX X E) (I : Inv X pins σ H s) (r : Vals vs us) (h : sp s.heap.objs.size vs H Q E) :
    wpAny (model X.prog X.w) A1 (call (.ref f) us) (EP X pins σ Q) X.xe s := by
  have e := I.env0
  have hz : X.base.objs.size ≤ s.heap.objs.size := e.bsz
  have F' := F (pad X.base (s.heap.objs.size - X.base.objs.size))
  rw [pad_size, Nat.add_sub_cancel' hz] at F'
  have e0 : Env0 X.prog X.w X.K X.mg (pad X.base (s.heap.objs.size - X.base.objs.size)) A1 X.stack s H :=
    ⟨sb.fr.trans e.frames, pad_mod _ e.mod, fun b o q => e.bs b o ((pad_get _ _ b).symm.trans q), by rw [pad_size, Nat.add_sub_cancel' hz]; exact Nat.le_refl _, pad_funs _ e.funs, e.frf, e.hok, e.bare⟩
  have hl : us.length = ps.length := r.length.symm.trans (F'.len _ _ _ _ h)
  have bd := hb s us I.kIn (by rw [List.append_nil]; exact hl)
  rw [List.append_nil] at bd
  refine wpAny_call (codeAny_mono (F'.run A1 X.stack s H ⟨us, []⟩ us vs Q E sb.room e0 bd r h) fun res s' hq => ?_)
  cases res with
  | error er => exact hx pins σ H s er s' I hq
  | ok fl =>
    cases fl with
    | ret w => exact I.after hq
    | next => exact hq.elim
    | brk => exact hq.elim
    | cont => exact hq.elim
/-- the promise of such an __iter__, over a text | a tuple in the field fld -/
def spItS (C : Addr) (fld : Str) (n : Nat) : Sp := fun vs H Q _ => ∃ (a dx : Addr) (fs : List (Str × V)) (x : Str), vs = [.ref a] ∧ H a = some (.ins C dx fs) ∧ fs.lookup fld = some (.str x) ∧ ∀ it, H it = none → n ≤ it → Q (.ref it) (upd H it (ItSO it x))
def spItT (K : PySem.W.Frag) (C : Addr) (fld : Str) (n : Nat) : Sp := fun vs H Q _ => ∃ (a dx l : Addr) (fs : List (Str × V)) (zs : List V), vs = [.ref a] ∧ H a = some (.ins C dx fs) ∧ fs.lookup fld = some (.ref l) ∧ SqT K H l zs ∧ ∀ it, H it = none → n ≤ it → Q (.ref it) (upd H it (ItTO it l))
theorem drop_upd {H : Hp} {a : Addr} {o : HO} (h : H a = none) : dropH (upd H a o) a = H := by
  funext b
  by_cases hb : b = a
  · rw [hb, dropH_same, h]
  · rw [dropH_ne hb, upd_ne hb]
/-- the walk's start, over a text -/
theorem pit_S {tg : Expr} {R : It → Hp → Prop} {a dx : Addr} {fs : List (Str × V)} {fld : Str} {x : Str} (M : OwnM X.K C "__iter__" f) (hr : Room n X.A) (F : ∀ base : Heap, FnOk X.prog X.w X.K X.mg base CX n f fd ps (spItS C fld base.objs.size)) (hb : L2.Binds X.K fd ps []) (hx : Passes CX X E)
    (I : Inv X pins σ H s) (ha : H a = some (.ins C dx fs)) (hl : fs.lookup fld = some (.str x)) (hR : R (Its x) H) : wpAny (model X.prog X.w) X.A (pyIter (.ref a)) (PIE X pins σ tg R) X.xe s := by
  obtain ⟨mA, J, _⟩ := ins_get I.hok ha
  obtain ⟨od, J, _⟩ := J.look
  obtain ⟨m, hF⟩ := I.fr
  refine PySem.W.owit_iter hF I.ok.mod.kin J M.at_ M.fn (wpAny_mono (run_pad (⟨hr, rfl⟩ : Sub X n X.A) F hb hx I (.cons val_ref .nil) (Q := fun v H' => ∃ it, v = .ref it ∧ H it = none ∧ s.heap.objs.size ≤ it ∧ H' = upd H it (ItSO it x)) ⟨a, dx, fs, x, rfl, ha, hl, fun it n1 n2 => ⟨it, rfl, n1, n2, rfl⟩⟩) (fun v s' q => ?_) fun _ _ z => z)
  obtain ⟨w, H', I', rw', it, rfl, hn, hz, rfl⟩ := q
  cases rw'
  have he : upd H it (ItSO it x) it = some (ItSO it x) := upd_same
  have he' := he
  unfold ItSO at he'
  obtain ⟨⟨ty, t, hy, st⟩, _⟩ : (∃ ty t, (ty = "str_ascii_iterator" ∨ ty = "str_iterator") ∧ s'.heap.IsStrIter it ty x t 0) ∧ _ := (show ObjOk X.prog X.w _ s'.heap it (ItSO it x) from I'.hok it _ he)
  have hT : s'.TypeIs (.ref it) ty := let ⟨o, ho, hc, _⟩ := st; ⟨o, ho, hc⟩
  have D := inv_drop I' he'
  rw [drop_upd hn] at D
  have fin : PIE X pins σ tg R (.ref it) s' := by
    refine ⟨it, [it], _, _, H, rfl, D, turn_str it x t ty hy, st, fun b hb2 => ?_, hR⟩
    have e1 : b = it := by simpa using hb2
    subst e1
    have q := inv_fp I' he (Nat.le_trans I.sz hz)
    rwa [drop_upd hn] at q
  unfold PySem.W.OwitIt
  rcases hy with rfl | rfl
  · exact wpAny_specialOf hT PySem.F.slot_str_ascii_iterator_next.lookup fin
  · exact wpAny_specialOf hT PySem.F.slot_str_iterator_next.lookup fin
/-- for x in e, [.. for x in e]: e an object whose text fld is walked -/
def iOwnS (C : Addr) (fld : Str) (te : TE) : TI := fun σ H R => te σ H fun v H1 => ∃ a dx fs x, v = .ref a ∧ H1 a = some (.ins C dx fs) ∧ fs.lookup fld = some (.str x) ∧ R (Its x) H1
theorem pi_ownS {tg e : Expr} {te : TE} {fld : Str} (M : OwnM X.K C "__iter__" f) (hr : Room n X.A) (F : ∀ base : Heap, FnOk X.prog X.w X.K X.mg base CX n f fd ps (spItS C fld base.objs.size)) (hb : L2.Binds X.K fd ps []) (hx : Passes CX X E) (he : PE X e te) : PI X tg e (iOwnS C fld te) := by
  refine ⟨fun pins s σ H R I h => ?_⟩
  refine thn (he.run pins s σ H _ I h) fun v s1 ⟨y, H1, I1, r1, a, dx, fs, x, ey, ha, hl, q⟩ => ?_
  subst ey
  cases r1
  exact pit_S M hr F hb hx I1 ha hl q
/-- the walk's start, over a tuple -/
theorem pit_T {tg : Expr} {R : It → Hp → Prop} {a dx : Addr} {fs : List (Str × V)} {fld : Str} {l : Addr} {zs : List V} (M : OwnM X.K C "__iter__" f) (hr : Room n X.A) (F : ∀ base : Heap, FnOk X.prog X.w X.K X.mg base CX n f fd ps (spItT X.K C fld base.objs.size)) (hb : L2.Binds X.K fd ps []) (hx : Passes CX X E)
    (I : Inv X pins σ H s) (ha : H a = some (.ins C dx fs)) (hl : fs.lookup fld = some (.ref l)) (hq : SqT X.K H l zs) (hR : R (Itt X.K l) H) : wpAny (model X.prog X.w) X.A (pyIter (.ref a)) (PIE X pins σ tg R) X.xe s := by
  obtain ⟨mA, J, _⟩ := ins_get I.hok ha
  obtain ⟨od, J, _⟩ := J.look
  obtain ⟨m, hF⟩ := I.fr
  refine PySem.W.owit_iter hF I.ok.mod.kin J M.at_ M.fn (wpAny_mono (run_pad (⟨hr, rfl⟩ : Sub X n X.A) F hb hx I (.cons val_ref .nil) (Q := fun v H' => ∃ it, v = .ref it ∧ H it = none ∧ s.heap.objs.size ≤ it ∧ H' = upd H it (ItTO it l)) ⟨a, dx, l, fs, zs, rfl, ha, hl, hq, fun it n1 n2 => ⟨it, rfl, n1, n2, rfl⟩⟩) (fun v s' q => ?_) fun _ _ z => z)
  obtain ⟨w, H', I', rw', it, rfl, hn, hz, rfl⟩ := q
  cases rw'
  have he : upd H it (ItTO it l) it = some (ItTO it l) := upd_same
  have he' := he
  unfold ItTO at he'
  obtain ⟨st, _⟩ : s'.heap.IsTupleIter it l 0 ∧ _ := (show ObjOk X.prog X.w _ s'.heap it (ItTO it l) from I'.hok it _ he)
  have hT : s'.TypeIs (.ref it) "tuple_iterator" := let ⟨o, ho, hc, _⟩ := st; ⟨o, ho, hc⟩
  have D := inv_drop I' he'
  rw [drop_upd hn] at D
  have fin : PIE X pins σ tg R (.ref it) s' := by
    refine ⟨it, [it], _, _, H, rfl, D, turn_tuple l it, st, fun b hb2 => ?_, hR⟩
    have e1 : b = it := by simpa using hb2
    subst e1
    have q := inv_fp I' he (Nat.le_trans I.sz hz)
    rwa [drop_upd hn] at q
  unfold PySem.W.OwitIt
  exact wpAny_specialOf hT PySem.F.slot_tuple_iterator_next.lookup fin
/-- the same, its tuple fld is walked -/
def iOwnT (K : PySem.W.Frag) (C : Addr) (fld : Str) (te : TE) : TI := fun σ H R => te σ H fun v H1 => ∃ a dx l fs zs, v = .ref a ∧ H1 a = some (.ins C dx fs) ∧ fs.lookup fld = some (.ref l) ∧ SqT K H1 l zs ∧ R (Itt K l) H1
theorem pi_ownT {tg e : Expr} {te : TE} {fld : Str} (M : OwnM X.K C "__iter__" f) (hr : Room n X.A) (F : ∀ base : Heap, FnOk X.prog X.w X.K X.mg base CX n f fd ps (spItT X.K C fld base.objs.size)) (hb : L2.Binds X.K fd ps []) (hx : Passes CX X E) (he : PE X e te) : PI X tg e (iOwnT X.K C fld te) := by
  refine ⟨fun pins s σ H R I h => ?_⟩
  refine thn (he.run pins s σ H _ I h) fun v s1 ⟨y, H1, I1, r1, a, dx, l, fs, zs, ey, ha, hl, hq, q⟩ => ?_
  subst ey
  cases r1
  exact pit_T M hr F hb hx I1 ha hl hq q
end

/-! ### list(text), list(o) of an object whose text is walked -/
def signs (x : Str) : List V := x.cps.toList.map fun c => V.str ⟨#[c]⟩
theorem signs_vals {x : Str} {acc : Array Value} (h : ItemsOf (SignAt x) acc x.cps.size) : Vals (signs x) acc.toList := by
  obtain ⟨hz, hp⟩ := h
  have gen : ∀ (cs : List Nat) (vs : List Value), cs.length = vs.length → (∀ (j : Nat) (v : Value), vs[j]? = some v → ∃ (c : Nat) (u : Tok), cs[j]? = some c ∧ v = Value.str ⟨#[c]⟩ u) → Vals (cs.map fun c => V.str ⟨#[c]⟩) vs := by
    intro cs
    induction cs with
    | nil =>
      intro vs hl _
      cases vs with
      | nil => exact .nil
      | cons v r => simp at hl
    | cons c r ih =>
      intro vs hl hv
      cases vs with
      | nil => simp at hl
      | cons v r2 =>
        obtain ⟨c', u, e1, e2⟩ := hv 0 v rfl
        have e3 : c = c' := by simpa using e1
        subst e3
        exact .cons ⟨u, e2⟩ (ih r2 (by simpa using hl) fun j w hj => by simpa using hv (j + 1) w (by simpa using hj))
  refine gen x.cps.toList acc.toList (by simpa using hz.symm) fun j v hj => ?_
  obtain ⟨c, u, e1, e2⟩ := hp j v (by simpa using hj)
  exact ⟨c, u, by simpa using e1, e2⟩
def rListStr : List V → Hp → VK → Prop := fun xs H Q => ∃ x : Str, xs = [.str x] ∧ x.length ≤ 1000 ∧ ∀ q, H q = none → Q (.ref q) (upd H q (.lst (signs x)))
theorem signs_len (x : Str) : (signs x).length = x.length := by simp [signs, Str.length]
section
variable {X : Cx}
theorem call_listStr (hc : X.calm = true) : CallR X (.type "list") rListStr := by
  intro pins s σ H xs us Q I r h
  obtain ⟨x, rfl, hx, q⟩ := h
  obtain ⟨u, rfl, ru⟩ := r.one
  obtain ⟨t, rfl⟩ := ru
  refine call_list_str (I.ok.hd hc) x t (fun h' tk acc c k e hi => ?_) (szl hx)
  refine ⟨.ref s.heap.objs.size, _, I.laid (t' := tk) (o := .lst (signs x)) k (Nat.le_refl _) ⟨by rw [signs_len]; exact szl hx, acc.toList, c, signs_vals hi, by simpa using e⟩, rfl, q _ (I.hok.fresh (Nat.le_refl _))⟩
end
section
variable {X : Cx} {pins : List (Addr × Obj)} {σ : L2.St} {H : Hp} {s : Shared} {CX CX' : CXT} {n n' : Nat} {f f' C : Addr} {fd fd' : FuncData} {ps ps' : List Str} {E E' : XK} {Q : VK} {A1 : Around} {fld : Str} {x : Str} {a dx : Addr} {fs : List (Str × V)}
/-- what an own __len__ says of an object with the field fld: its text's length -/
def spLenS (C : Addr) (fld : Str) : Sp := fun vs H Q _ => ∃ (a dx : Addr) (fs : List (Str × V)) (x : Str), vs = [.ref a] ∧ H a = some (.ins C dx fs) ∧ fs.lookup fld = some (.str x) ∧ x.length ≤ 1000 ∧ Q (.int x.length) H
theorem own_hint {EE : Value → Shared → Prop} (M : OwnM X.K C "__len__" f') (sb : Sub X (n' + 1) A1) (F : FnOk X.prog X.w X.K X.mg X.base CX0 n' f' fd' ps' (spLenS C fld)) (hb : L2.Binds X.K fd' ps' [])
    (I : Inv X pins σ H s) (ha : H a = some (.ins C dx fs)) (hl : fs.lookup fld = some (.str x)) (hz : x.length ≤ 1000) {R : Bool → Shared → Prop} (h : ∀ b s', Inv X pins σ H s' → R b s') : wpAny (model X.prog X.w) A1 (Builtin.List.listLengthHint (.ref a)) R EE s := by
  obtain ⟨mA, J, _⟩ := ins_get I.hok ha
  obtain ⟨od, J, _⟩ := J.look
  obtain ⟨m, hF⟩ := I.fr
  unfold Builtin.List.listLengthHint
  refine wpAny_bind (wpAny_bind (J.type.here ((PySem.W.looks_findIn I.kIn M.at_).here ?_)))
  refine PySem.W.KFB.if_not rfl ?_
  refine PySem.W.KFB.if_so rfl ?_
  refine wpAny_bind (wpAny_rule ?_)
  refine wpAny_bind (wpAny_attempt ?_)
  refine PySem.W.len_K hF I.ok.mod.kin J M.at_ M.fn (wpAny_mono (run_own0 sb.in1 F hb I (.cons val_ref .nil) (Q := fun v H' => v = .int x.length ∧ H' = H) ⟨a, dx, fs, x, rfl, ha, hl, hz, rfl, rfl⟩) (fun v s' q => ?_) fun _ _ z => z)
  obtain ⟨w, H', I', rw', rfl, rfl⟩ := q
  obtain ⟨t, rfl⟩ := rw'
  refine ⟨⟨by omega, by omega⟩, ?_⟩
  refine wpAny_bind (wpAny_pure ?_)
  refine PySem.W.KFB.if_not (by rw [Int.toNat_natCast]; exact notLongL (szl hz)) ?_
  exact wpAny_pure (h _ _ (I'.tok _))
/-- the items of the iterator at it go into the empty list at q -/
theorem own_fill {it q : Addr} {t : Tok} {ty : String} {Rs : Result → Shared → Prop} (hcalm : X.A.handled = none) (I : Inv X pins σ H s) (hq : H q = some (.lst [])) (fp : FpOk X pins H it) (hy : ty = "str_ascii_iterator" ∨ ty = "str_iterator") (st : s.heap.IsStrIter it ty x t 0) (hx : x.length ≤ 1000)
    (hA : A1.handled = none) (h : ∀ s', Inv X pins σ (upd H q (.lst (signs x))) s' → Rs (.ok (.ret .none)) s') : codeAny (model X.prog X.w) A1 (.builtin "list.extend.loop" ⟨[.ref q, .ref it, .none], []⟩) Rs s := by
  have hqi : q ≠ it := fun z => by
    have := fp.1
    rw [← z, hq] at this
    cases this
  obtain ⟨z, its, k, r, hl, e⟩ := I.lstM hq
  cases r
  have W : WalksS X.prog X.w A1.in1 it [it] [it] (fun a b => b = a) x.cps.size (SignAt x) (fun i s => s.heap.IsStrIter it ty x t i) := by
    rcases hy with rfl | rfl
    · exact (Walks.strAscii (A := A1.in1) hA it x t).toS
    · exact (Walks.strWide (A := A1.in1) hA it x t).toS
  have hn : x.cps.size ≤ sizeLine := szl hx
  refine codeAny_extend_loopS W hn q (fun z => hqi (List.mem_singleton.mp z)) .none x.cps.size 0 s #[] k rfl (Nat.zero_le _) st e (ItemsOf.nil _) fun s' acc c hm hS hacc => h s' ?_
  have es := Moved.eq_with hm
  obtain ⟨f0, f1, f2, f3, f4, f5⟩ := fp
  have o2 : ∀ b, b ≠ q → (s'.heap.update q fun _ => ({ cls := .type "list", data := .seq #[] k } : Obj)).get? b = s'.heap.get? b := fun b hb => Heap.get?_update_other s'.heap _ (Ne.symm hb)
  have oq : (s'.heap.update q fun _ => ({ cls := .type "list", data := .seq #[] k } : Obj)).get? q = some { cls := .type "list", data := .seq #[] k } := Heap.get?_update_self _ hS rfl
  have I2 : Inv X pins σ H { s with heap := s'.heap.update q fun _ => ({ cls := .type "list", data := .seq #[] k } : Obj), toks := s'.toks } := I.turned (it := it) (fun b o hb eb => by
    by_cases hbq : b = q
    · subst hbq
      rw [oq, ← eb]
      exact e.symm
    · rw [o2 b hbq]
      exact hm.heap b o (fun z => by
        rcases List.mem_cons.mp z with z | z
        · exact hbq z
        · exact hb (List.mem_singleton.mp z)) eb) f0 f1 f3 f4 f5
  have I3 := I2.write (x := q) (e := q) (h' := s'.heap) (o := .lst (signs x)) (t' := s'.toks) (by rw [hq]; exact trivial) (.inl rfl) (fun b u hb eb => (o2 b hb).symm.trans eb) ⟨_, hS⟩ ⟨by rw [signs_len]; exact szl hx, acc.toList, c, signs_vals hacc, by simpa using hS⟩
  rw [es]
  exact I3
/-- an empty list grown by one and cut again -/
theorem touch {EE : Value → Shared → Prop} {q : Addr} {R : Unit → Shared → Prop} (I : Inv X pins σ H s) (hq : H q = some (.lst [])) (h : ∀ s', Inv X pins σ H s' → R () s') : wpAny (model X.prog X.w) A1 (Builtin.List.listTouch (.ref q)) R EE s := by
  obtain ⟨z, its, k, r, hl, e⟩ := I.lstM hq
  cases r
  show wpAny _ _ (updateSeq q (·.push .none) >>= fun _ => updateSeq q (·.pop)) _ _ _
  refine wpAny_bind (wpAny_updateSeq e rfl ?_)
  have I2 := I.lset (f := (·.push Value.none)) (its' := [Value.none]) (ys := [.non]) (t' := s.toks) hq e (by simp) (.cons rfl .nil) (szl (by decide))
  obtain ⟨z4, its4, k4, r4, hl4, e4⟩ := I2.lstM upd_same
  obtain ⟨u4, rfl, ru4⟩ := r4.one
  refine wpAny_updateSeq e4 rfl ?_ (by show 1 ≤ sizeLine; exact szl (by decide)) (by show 0 ≤ sizeLine + 1; exact Nat.zero_le _)
  have I3 := I2.lset (f := (·.pop)) (its := [u4]) (its' := []) (ys := []) (t' := s.toks) upd_same e4 (by rfl) .nil (Nat.zero_le _)
  rw [upd_upd] at I3
  have hH : upd H q (.lst []) = H := by
    funext b
    by_cases hb : b = q
    · rw [hb, upd_same, hq]
    · rw [upd_ne hb]
  rw [hH] at I3
  exact h _ I3
def rListOwn (C : Addr) (fld : Str) : List V → Hp → VK → Prop := fun xs H Q => ∃ (a dx : Addr) (fs : List (Str × V)) (x : Str), xs = [.ref a] ∧ H a = some (.ins C dx fs) ∧ fs.lookup fld = some (.str x) ∧ x.length ≤ 1000 ∧ ∀ q, H q = none → Q (.ref q) (upd H q (.lst (signs x)))
theorem call_listOwnS (hcalm : X.calm = true) (MI : OwnM X.K C "__iter__" f) (ML : OwnM X.K C "__len__" f') (hr : Room (n + 3) X.A) (FI : ∀ base : Heap, FnOk X.prog X.w X.K X.mg base CX n f fd ps (spItS C fld base.objs.size)) (bI : L2.Binds X.K fd ps []) (xI : Passes CX X E)
    (FL : FnOk X.prog X.w X.K X.mg X.base CX0 n f' fd' ps' (spLenS C fld)) (bL : L2.Binds X.K fd' ps' []) : CallR X (.type "list") (rListOwn C fld) := by
  intro pins s σ H xs us Q I r h
  obtain ⟨a, dx, fs, x, rfl, ha, hl, hz, q0⟩ := h
  obtain ⟨u, rfl, ru⟩ := r.one
  cases ru
  have sb : Sub X (n + 1) X.A.in1.in1 := Sub.in1 (Sub.in1 (⟨hr, rfl⟩ : Sub X (n + 3) X.A))
  refine callType_codes (Q₁ := fun obj s₁ => obj = .ref s.heap.objs.size ∧ s₁ = { s with heap := s.heap.push { cls := .type "list", data := .seq #[] } }) PySem.F.called_list (PySem.F.typeCall_list_1 _) PySem.F.entry_list_init
    (code_list_new _ ⟨rfl, rfl⟩) fun obj s₁ h₁ => ?_
  obtain ⟨rfl, rfl⟩ := h₁
  have hS : (s.heap.push { cls := .type "list", data := .seq #[] }).get? s.heap.objs.size = some { cls := .type "list", data := .seq #[] } := Heap.get?_push_size _ rfl
  have fr : H s.heap.objs.size = none := I.hok.fresh (Nat.le_refl _)
  have q1 := q0 _ fr
  refine ⟨⟨_, hS, rfl⟩, PySem.F.args_list_init_2 _ _, ?_⟩
  have I1 : Inv X pins σ (upd H s.heap.objs.size (.lst [])) { s with heap := s.heap.push { cls := .type "list", data := .seq #[] } } := I.lnew (its := []) (t' := s.toks) .nil (Nat.zero_le _)
  have I2 := I1.lset (f := fun _ => #[]) (its := []) (its' := []) (ys := []) (t' := s.toks) upd_same hS rfl .nil (Nat.zero_le _)
  rw [upd_upd] at I2
  have ha2 : upd H s.heap.objs.size (.lst []) a = some (.ins C dx fs) := (upd_ne (ne_of_none ha fr)).trans ha
  show wpAny _ _ (Builtin.List.listItems (.ref s.heap.objs.size) >>= fun old => Builtin.List.listUpdate (.ref s.heap.objs.size) (fun _ => #[]) >>= fun _ => letGo old.toList.reverse >>= fun _ => Builtin.List.listExtendWith (.ref s.heap.objs.size) (.ref a) .none) _ _ _
  refine wpAny_bind ?_
  unfold Builtin.List.listItems
  refine wpAny_bind (wpAny_seqItems hS rfl (wpAny_pure (wpAny_bind ?_)))
  show wpAny _ _ (updateSeq s.heap.objs.size (fun _ => #[])) _ _ _
  refine wpAny_updateSeq hS rfl (wpAny_bind (wpAny_letGo ?_))
  clear hS I1
  revert I2
  generalize hs2 : ({ s with heap := (s.heap.push { cls := .type "list", data := .seq #[] }).update s.heap.objs.size (Obj.mapSeq fun _ => #[]) } : Shared) = s2
  intro I2
  generalize s.heap.objs.size = q at *
  clear hs2
  have hqa : q ≠ a := ne_of upd_same ha2 (fun z => nomatch z)
  obtain ⟨mA, J, _⟩ := ins_get I2.hok ha2
  obtain ⟨od, J, _⟩ := J.look
  obtain ⟨m, hF⟩ := I2.fr
  unfold Builtin.List.listExtendWith
  refine wpAny_bind (J.type.here ?_)
  have z1 : Builtin.List.listSameRef (.ref q) (.ref a) = false := by simp [Builtin.List.listSameRef, hqa]
  simp only [z1, show (Value.ref C == Value.type "list") = false from rfl, show (Value.ref C == Value.type "tuple") = false from rfl, Bool.or_false, Bool.false_eq_true, if_false]
  refine wpAny_bind (PySem.W.owit_iter hF I2.ok.mod.kin J MI.at_ MI.fn (wpAny_mono (run_pad (sb.mono (Nat.le_succ n)) FI bI xI I2 (.cons val_ref .nil) (Q := fun v H' => ∃ it, v = .ref it ∧ upd H q (.lst []) it = none ∧ s2.heap.objs.size ≤ it ∧ H' = upd (upd H q (.lst [])) it (ItSO it x)) ⟨a, dx, fs, x, rfl, ha2, hl, fun it n1 n2 => ⟨it, rfl, n1, n2, rfl⟩⟩) (fun v s' q' => ?_) fun _ _ z => z))
  obtain ⟨w, H', I3, rw', it, rfl, hn, hsz, rfl⟩ := q'
  cases rw'
  have ha3 : upd (upd H q (.lst [])) it (ItSO it x) a = some (.ins C dx fs) := (upd_ne (ne_of_none ha2 hn)).trans ha2
  -- behind the iterator's making: its length is asked, then the items go in
  have last : ∀ s4, Inv X pins σ (upd (upd H q (.lst [])) it (ItSO it x)) s4 → codeAny (model X.prog X.w) X.A.in1 (.builtin "list.extend.loop" ⟨[.ref q, .ref it, .none], []⟩) (wants (fun r s₂ => r = Value.none ∧ EP X pins σ Q (Value.ref q) s₂) X.xe) s4 := fun s4 I4 => by
    have he : upd (upd H q (.lst [])) it (ItSO it x) it = some (ItSO it x) := upd_same
    have he' := he
    unfold ItSO at he'
    obtain ⟨⟨ty, t, hy, st⟩, _⟩ : (∃ ty t, (ty = "str_ascii_iterator" ∨ ty = "str_iterator") ∧ s4.heap.IsStrIter it ty x t 0) ∧ _ := (show ObjOk X.prog X.w _ s4.heap it (ItSO it x) from I4.hok it _ he)
    have D := inv_drop I4 he'
    rw [drop_upd hn] at D
    have fp := inv_fp I4 he (Nat.le_trans I2.sz hsz)
    rw [drop_upd hn] at fp
    refine own_fill (I.ok.hd hcalm) D upd_same fp hy st hz (I.ok.hd hcalm) fun s5 I5 => ⟨rfl, .ref q, _, I5, rfl, ?_⟩
    rw [upd_upd]
    exact q1
  have hT : ∃ ty : String, s'.TypeIs (.ref it) ty ∧ (ty = "str_ascii_iterator" ∨ ty = "str_iterator") := by
    obtain ⟨⟨ty, t, hy, o, ho, hc, _⟩, _⟩ : (∃ ty t, (ty = "str_ascii_iterator" ∨ ty = "str_iterator") ∧ s'.heap.IsStrIter it ty x t 0) ∧ _ := (show ObjOk X.prog X.w _ s'.heap it (ItSO it x) from I3.hok it _ upd_same)
    exact ⟨ty, ⟨o, ho, hc⟩, hy⟩
  have quiet : ∀ args, (Code.builtin "list.extend.loop" args).quiet = true := fun args => plainId_quiet PySem.F.plain_extend_loop _
  unfold PySem.W.OwitIt
  obtain ⟨ty, hT, hy⟩ := hT
  have qit : q ≠ it := fun z => by
    rw [← z, upd_same] at hn
    cases hn
  have eq0 : upd (upd H q (.lst [])) it (ItSO it x) q = some (.lst []) := (upd_ne qit).trans upd_same
  rcases hy with rfl | rfl
  · refine wpAny_specialOf hT PySem.F.slot_str_ascii_iterator_next.lookup ?_
    show wpAny _ _ (holding [Value.ref it] (Builtin.List.listLengthHint (.ref a)) >>= _) _ _ _
    refine wpAny_bind (wpAny_holding (own_hint ML sb FL bL I3 ha3 hl hz fun b s4 I4 => ?_))
    refine wpAny_ite_split (fun _ => ?_) (fun _ => wpAny_pure ⟨quiet _, last s4 I4⟩)
    exact wpAny_bind (wpAny_rule (wpAny_bind (touch I4 eq0 fun s5 I5 => wpAny_pure ⟨quiet _, last s5 I5⟩)))
  · refine wpAny_specialOf hT PySem.F.slot_str_iterator_next.lookup ?_
    show wpAny _ _ (holding [Value.ref it] (Builtin.List.listLengthHint (.ref a)) >>= _) _ _ _
    refine wpAny_bind (wpAny_holding (own_hint ML sb FL bL I3 ha3 hl hz fun b s4 I4 => ?_))
    refine wpAny_ite_split (fun _ => ?_) (fun _ => wpAny_pure ⟨quiet _, last s4 I4⟩)
    exact wpAny_bind (wpAny_rule (wpAny_bind (touch I4 eq0 fun s5 I5 => wpAny_pure ⟨quiet _, last s5 I5⟩)))
end

/-! ### text[::-1] -/
theorem ssi_rev (n : Nat) : PySem.Builtin.Str.strSliceIndices none none (-1) n = (List.range n).reverse := by
  show sliceRange ((n : Int) - 1) (-1) (-1) = _
  rw [PySem.W.krv_sliceRange, PySem.W.krv_range]
theorem sOf_rev (l : List Nat) : (⟨((List.range (sOf l).length).reverse.filterMap ((sOf l).cps[·]?)).toArray⟩ : Str) = sOf l.reverse := by
  rw [List.filterMap_reverse]
  show (⟨(List.filterMap ((sOf l).cps[·]?) (List.range (sOf l).cps.size)).reverse.toArray⟩ : Str) = _
  rw [PySem.W.krv_all]
  simp [sOf]
def tRevS (te : TE) : TE := fun σ H Q => te σ H fun x H1 => ∃ l : List Nat, x = .str (sOf l) ∧ l.length ≤ 1000 ∧ Q (.str (sOf l.reverse)) H1
theorem pe_revS {X : Cx} {e : Expr} {te : TE} {k : Nat} {p1 p2 p3 pos : Pos} (he : PE X e te) : PE X (.Subscript e (.Slice none none (some (.UnaryOp .USub (.Constant (.int 1) k p1) p2)) p3) pos) (tRevS te) := by
  refine ⟨fun pins s σ H Q I h => ?_⟩
  refine Subscript_ (thn (he.run pins s σ H _ I h) fun v s1 ⟨x, H1, I1, r1, q1⟩ => ?_)
  obtain ⟨l, ex, hz, q⟩ := q1
  subst ex
  obtain ⟨t, rfl⟩ := r1
  have hst : PO X (some (.UnaryOp .USub (.Constant (.int 1) k p1) p2)) (tPart (tUn (rU fun i => .int (-i)) (tC (.int 1)))) := po_some (pe_un un_neg pe_int)
  refine wpAny_Slice (thn (po_none.run pins s1 σ H1 (fun o H2 => o = none ∧ H2 = H1) I1 ⟨rfl, rfl⟩) fun vl s2 ⟨lo, H2, I2, pl, el, e2⟩ => ?_)
  subst el e2
  refine thn (po_none.run pins s2 σ H2 (fun o H3 => o = none ∧ H3 = H2) I2 ⟨rfl, rfl⟩) fun vu s3 ⟨u, H3, I3, pu, eu, e3⟩ => ?_
  subst eu e3
  refine thn (hst.run pins s3 σ H3 (fun o H4 => o = some (-1) ∧ H4 = H3) I3 ⟨1, rfl, -1, rfl, rfl, rfl⟩) fun vs s4 ⟨o, H4, I4, ps, eo, e4⟩ => ?_
  subst eo e4
  have I5 : Inv X pins σ H4 { s4 with heap := s4.heap.push { cls := .type "slice", data := .fields #[vl, vu, vs] } } := I4.kept (t' := s4.toks) fun b ob q => Heap.get?_push_of_some _ q
  show wpAny (model X.prog X.w) X.A (subscriptTail e (.Slice none none (some (.UnaryOp .USub (.Constant (.int 1) k p1) p2)) p3) (.str (sOf l) t) (.ref s4.heap.objs.size)) (EP X pins σ Q) X.xe { s4 with heap := s4.heap.push { cls := .type "slice", data := .fields #[vl, vu, vs] } }
  obtain ⟨a1, rfl, f1⟩ := IsPart.raw pl
  obtain ⟨a2, rfl, f2⟩ := IsPart.raw pu
  obtain ⟨a3, rfl, f3⟩ := IsPart.raw ps
  refine tail_any (T := "str") (ops := [.ref s4.heap.objs.size, .str (sOf l) t]) (typeIs_str _ _ _) (F.slot_str_getitem.lookup) ?_ (by with_unfolding_all rfl)
  refine wpAny_getItem_str_slice (l := a1) (u := a2) (st := a3) ⟨_, Heap.get?_push_size _ rfl, rfl, rfl⟩ (by rw [f3]; rfl) ?_
  have hp : slicePicked (sOf l) a1 a2 a3 = (List.range (sOf l).length).reverse := by
    unfold slicePicked
    rw [f1, f2, f3]
    exact ssi_rev _
  unfold sliceMade
  rw [f3, hp, if_neg (by simp), sOf_rev]
  exact ⟨by rw [sOf_len, List.length_reverse]; exact szl hz, .str _, H4, I5.tok _, ⟨_, rfl⟩, q⟩

/-! ### the making of an object within a try: the wish looks at the slots -/
section
variable {X : Cx} {CX : CXT} {n : Nat} {f C : Addr} {fd : FuncData} {ps : List Str} {sp : Sp} {E : L2.St → XK} {x : Str} {p pos : Pos} {e : Expr} {es : List Expr} {t : TA}
theorem makeS_run {E : XK} {Q : VK} {us : List Value} {vs : List V} {pins : List (Addr × Obj)} {σ : L2.St} {H : Hp} {s : Shared} (M : Mk X.K C f) (F : FnOk X.prog X.w X.K X.mg X.base CX n f fd ps sp) (room : Room (n + 1) X.A) (hb : L2.Binds X.K fd ps [])
    (esc : PassesAt CX X σ E) (J : L2.Inv X pins σ H s) (rs : Vals vs us) (h : ∀ y dy, H y = none → H dy = none → dy ≠ y → sp (.ref y :: vs) (L2.upd (L2.upd H dy (.own y)) y (.ins C dy [])) (fun v H2 => v = .non ∧ Q (.ref y) H2) E) :
    wpAny (model X.prog X.w) X.A (call (.ref C) us) (EP X pins σ Q) X.xe s := by
  generalize hn : s.heap.objs.size = k
  have wish := h (k + 1) k (J.hok.fresh (hn ▸ Nat.le_succ _)) (J.hok.fresh (hn ▸ Nat.le_refl _)) (Nat.ne_of_lt (Nat.lt_succ_self k))
  subst hn
  have J2 := L2.Inv.made (C := C) J
  have rs2 : Vals (V.ref (s.heap.objs.size + 1) :: vs) (Value.ref (s.heap.objs.size + 1) :: us) := .cons val_ref rs
  have many : (Value.ref (s.heap.objs.size + 1) :: us ++ []).length = ps.length := by
    rw [List.append_nil, ← F.len _ _ _ _ wish]
    exact rs2.length.symm
  have bd := hb _ (Value.ref (s.heap.objs.size + 1) :: us) J2.kIn many
  rw [List.append_nil] at bd
  refine wpAny_call (make_map (f := f) J.kIn M.makes M.init (beq_iff_eq.mp M.fn) (codeAny_mono (F.run _ X.stack _ _ ⟨_ :: us, []⟩ _ _ _ E (room.make C us []) (J2.env0.make C us []) bd rs2 wish) fun res s' post => ?_))
  cases res with
  | error er => exact esc pins _ _ er s' J2 post
  | ok fl =>
    cases fl with
    | ret u =>
      obtain ⟨v, H', J3, rv, ev, w⟩ := J2.after post
      subst ev
      exact ⟨rv, ⟨V.ref (s.heap.objs.size + 1), H', J3, val_ref, w⟩⟩
    | next => exact post.elim
    | brk => exact post.elim
    | cont => exact post.elim
def tMakeS (C : Addr) (sp : Sp) (E : L2.St → XK) (t : TA) : TE := fun σ H Q => t σ H fun vs H1 => ∀ y dy, H1 y = none → H1 dy = none → dy ≠ y → sp (.ref y :: vs) (L2.upd (L2.upd H1 dy (.own y)) y (.ins C dy [])) (fun v H2 => v = .non ∧ Q (.ref y) H2) (E σ)
theorem pe_makeS (M : Mk X.K C f) (F : FnOk X.prog X.w X.K X.mg X.base CX n f fd ps sp) (room : Room (n + 1) X.A) (hg : Gl X x) (hm : X.mg x = some (.ref C)) (hb : L2.Binds X.K fd ps []) (esc : ∀ σ, PassesAt CX X σ (E σ)) (ha : PA X (e :: es) t)
    (hdb : (x == ("__debug__" : Str)) = false := by decide) (he : starEach (e :: es) X.env = (false, eval e X.env) :: starEach es X.env := by rfl) (hpl : (backTo pos (starEach es X.env)).any (·.1) = false := by rfl) : PE X (.Call (.Name x p) (e :: es) [] pos) (tMakeS C sp E t) := by
  refine ⟨fun pins s σ H Q J h => wpAny_Call_Name_kw (ld_glob J hg hm ?_ hdb)⟩
  exact PySem.W.callWith_K (h₀ := X.base) J.ok.mod.kin M.kp (thn (ha.run pos pins s σ H _ J h) fun us s1 ⟨vs, H1, J1, r, q⟩ => ⟨J1.kIn, makeS_run M F room hb (esc σ) J1 r q⟩) he hpl
end
theorem pe_fldK {X : Cx} {K : PySem.W.Frag} {e : Expr} {fld : Str} {pos : Pos} {ta : TE} (hK : X.K = K) (he : PE X e ta) (hb : attributeBase e fld X.env (eval e X.env) = eval e X.env) : PE X (.Attribute e fld pos) (tFld K ta fld) := hK ▸ pe_fld he hb
/-! the call of a method whose exceptions meet a wish that looks at the slots -/
def tMethW (C : Addr) (m : Str) (sp : Sp) (E : L2.St → XK) (ta : TE) (t : TA) : TE := fun σ H Q => ta σ H fun y H1 => ∃ b dy gs, y = .ref b ∧ H1 b = some (.ins C dy gs) ∧ gs.lookup m = none ∧ t σ H1 fun ws H2 => sp (y :: ws) H2 Q (E σ)
section
variable {X : Cx} {CX : CXT} {n : Nat} {f C : Addr} {fd : FuncData} {ps : List Str} {sp : Sp} {E : L2.St → XK} {m : Str} {apos pos : Pos} {o e : Expr} {es : List Expr} {ta : TE} {t : TA}
theorem pe_methW {pl : Sem Bool} (obj : PE X o ta) (c : Cls X.K C) (M : Meth X.K C m f) (F : FnOk X.prog X.w X.K X.mg X.base CX n f fd ps sp) (room : Room n X.A) (hb : L2.Binds X.K fd ps []) (esc : ∀ σ, PassesAt CX X σ (E σ)) (ha : PA X (e :: es) t)
    (hst : starEach (e :: es) X.env = (false, eval e X.env) :: starEach es X.env := by rfl) (hpl : (backTo pos (starEach es X.env)).any (·.1) = false := by rfl)
    (ht : eval (.Call (.Attribute o m apos) (e :: es) [] pos) X.env = (do let y ← eval o X.env; standAt apos.atName; let (g, first) ← holding [y] (getMethod y m pl); callWith pos g first (backTo pos (starEach (e :: es) X.env)) (backToKw pos (keywordEach [] X.env))) := by rfl) :
    PE X (.Call (.Attribute o m apos) (e :: es) [] pos) (tMethW C m sp E ta t) := by
  refine ⟨fun pins s σ H Q J h => PySem.W.methodCall_KW (pl := pl) (thn (obj.run pins s σ H _ J h) fun u s1 ⟨y, H1, J1, ru, b, dy, gs, ey, eb, lk, q⟩ => ?_) ht⟩
  subst ey
  cases ru
  refine getmeth_ok J1 eb c M lk (PySem.W.callWith_K (first := [.ref b]) (h₀ := X.base) J.ok.mod.kin M.kp (thn (ha.run pos pins s1 σ H1 _ J1 q) fun us s2 ⟨ws, H2, J2, r, q2⟩ => ⟨J2.kIn, ?_⟩) hst hpl)
  exact run_fnS (us := .ref b :: us) (vs := .ref b :: ws) F room hb (esc σ) J2 (.cons val_ref r) q2
/-- within a def that may raise: what a callee lets out is let out -/
theorem passUp {X : Cx} {E : XK} (tk : Takes X (fun cls d _ H => E cls d H)) : Passes (L2.CX X.prog X.w) X E := passW tk (fun _ _ _ _ _ h => h)
end

/-! ### deep comparisons of texts -/
theorem strOk_of {l : List Nat} (h : ∀ c ∈ l, c < 1114112) : PyData.strOk (sOf l) = true := by
  unfold PyData.strOk sOf
  simpa using h
def signD (l : List Nat) : List PyData := l.map fun c => PyData.str (sOf [c])
theorem signs_sOf (l : List Nat) : signs (sOf l) = l.map fun c => V.str (sOf [c]) := by
  simp [signs, sOf]
theorem dp_strs {K : PySem.W.Frag} {H : Hp} : ∀ l : List Str, DpAll K H (l.map V.str) (l.map PyData.str)
  | [] => .nil
  | x :: r => .cons (.str x) (dp_strs r)
theorem dp_signs {K : PySem.W.Frag} {H : Hp} (l : List Nat) : DpAll K H (signs (sOf l)) (signD l) := by
  have h := dp_strs (K := K) (H := H) (l.map fun c => sOf [c])
  rw [List.map_map, List.map_map] at h
  rw [signs_sOf]
  exact h
theorem lay_strs : ∀ l : List Str, PyData.canLayAll0 (l.map PyData.str) = l.all PyData.strOk
  | [] => rfl
  | x :: r => by simp [PyData.canLayAll0, PyData.canLay0, lay_strs r]
theorem deep_strs : ∀ l : List Str, PyData.depthAll (l.map PyData.str) = 0
  | [] => rfl
  | x :: r => by simp [PyData.depthAll, PyData.depth, deep_strs r]
theorem eqv_strs : ∀ a b : List Str, PyData.eqvAll (a.map PyData.str) (b.map PyData.str) = decide (a = b)
  | [], [] => by simp [PyData.eqvAll]
  | [], _ :: _ => by simp [PyData.eqvAll]
  | _ :: _, [] => by simp [PyData.eqvAll]
  | x :: r, y :: t => by
    simp only [List.map_cons, PyData.eqvAll, PyData.eqv, eqv_strs r t]
    by_cases h : x = y <;> by_cases h' : r = t <;> simp [h, h']
theorem shaped_signs {l : List Nat} (h : ∀ c ∈ l, c < 1114112) : SeqAt.shaped (.list (signD l)) = true := by
  have e : signD l = (l.map fun c => sOf [c]).map PyData.str := by rw [List.map_map]; rfl
  have k : (l.map fun c => sOf [c]).all PyData.strOk = true := by
    rw [List.all_map, List.all_eq_true]
    intro c hc
    exact strOk_of fun d hd => by rw [List.mem_singleton] at hd; rw [hd]; exact h c hc
  rw [e]
  unfold SeqAt.shaped
  rw [PyData.canLay0, lay_strs, k, PyData.depth, deep_strs]
  rfl
theorem eqv_signs (a b : List Nat) : PyData.eqv (.list (signD a)) (.list (signD b)) = decide (a = b) := by
  have e : ∀ l : List Nat, signD l = (l.map fun c => sOf [c]).map PyData.str := fun l => by rw [List.map_map]; rfl
  rw [e, e, PyData.eqv, eqv_strs]
  refine decide_eq_decide.mpr ⟨fun h => ?_, fun h => by rw [h]⟩
  have := congrArg (List.map fun s : Str => s.cps.toList.headD 0) h
  rw [List.map_map, List.map_map] at this
  have hid : ((fun s : Str => s.cps.toList.headD 0) ∘ fun c => sOf [c]) = id := rfl
  rwa [hid, List.map_id, List.map_id] at this
theorem good_codes {l : List Nat} {n : Nat} (g : Good l n) : ∀ c ∈ l, c < 1114112 := fun c hc => by
  rcases g.ltr c hc with e | e <;> omega
/-- a pair of texts -/
theorem shaped_pair {a b : List Nat} (ha : ∀ c ∈ a, c < 1114112) (hb : ∀ c ∈ b, c < 1114112) : SeqAt.shaped (.tuple [.str (sOf a), .str (sOf b)]) = true := by
  simp [SeqAt.shaped, PyData.canLay0, PyData.canLayAll0, PyData.depth, PyData.depthAll, strOk_of ha, strOk_of hb]
theorem eqv_pair (a b c d : List Nat) : PyData.eqv (.tuple [.str (sOf a), .str (sOf b)]) (.tuple [.str (sOf c), .str (sOf d)]) = (decide (a = c) && decide (b = d)) := by
  rw [PyData.eqv, PyData.eqvAll, PyData.eqvAll, PyData.eqvAll, PyData.eqv, PyData.eqv, Bool.and_true]
  have h : ∀ x y : List Nat, (sOf x == sOf y) = decide (x = y) := fun x y => by
    by_cases e : x = y
    · simp [e]
    · rw [beq_eq_false_iff_ne.mpr fun z => e (sOf_inj.mp z), decide_eq_false e]
  rw [h, h]

/-! ### facts of classes -/
theorem cls_in {K : PySem.W.Frag} {C : Addr} {t : Value} {b : Bool} (h2 : PySem.W.isClsIn K C = true) (h3 : PySem.W.typeIn K (.ref C) = some (.type "type")) (h4 : PySem.W.subIn K t (.ref C) = some b) : PySem.W.kitCls K t (.ref C) = some b := by
  have e : (PySem.W.clsIn K C).isSome = true := h2
  unfold PySem.W.kitCls
  simp only []
  rw [e, h3, h4]
  rfl
theorem exm_of {K : PySem.W.Frag} {S B : Addr} (h1 : PySem.W.subIn K (.ref B) (.type "BaseException") = some true) (h2 : PySem.W.isClsIn K B = true) (h3 : PySem.W.typeIn K (.ref B) = some (.type "type")) (h4 : PySem.W.subIn K (.ref S) (.ref B) = some true) : PySem.W.exmOne K (.ref S) (.ref B) = some true := by
  unfold PySem.W.exmOne
  rw [h1, cls_in h2 h3 h4]
  rfl
theorem kit_self {K : PySem.W.Frag} {t : Value} : PySem.W.kitOne K t t = some true := by
  unfold PySem.W.kitOne
  rw [if_pos (by simp)]
theorem kit_own {K : PySem.W.Frag} {C : Addr} {T : String} {b : Bool} (h2 : PySem.W.isClsIn K C = true) (h3 : PySem.W.typeIn K (.ref C) = some (.type "type")) (h4 : PySem.W.subIn K (.type T) (.ref C) = some b) : PySem.W.kitOne K (.type T) (.ref C) = some b := by
  unfold PySem.W.kitOne
  rw [if_neg (by simp), cls_in h2 h3 h4]
theorem kit_kind {K : PySem.W.Frag} {C : Addr} {T : String} {b : Bool} (hm : PySem.W.kitMeta T = true) (h4 : PySem.W.subIn K (.ref C) (.type T) = some b) : PySem.W.kitOne K (.ref C) (.type T) = some b := by
  unfold PySem.W.kitOne
  rw [if_neg (by simp)]
  unfold PySem.W.kitCls
  simp only []
  rw [if_pos hm, h4]
theorem any_hd {K : PySem.W.Frag} {t c : Value} {r : List Value} (h : PySem.W.kitOne K t c = some true) : PySem.W.kitAny K t (c :: r) = some true := by
  unfold PySem.W.kitAny
  rw [h]
theorem any_tl {K : PySem.W.Frag} {t c : Value} {r : List Value} {b : Bool} (h : PySem.W.kitOne K t c = some false) (k : PySem.W.kitAny K t r = some b) : PySem.W.kitAny K t (c :: r) = some b := by
  unfold PySem.W.kitAny
  rw [h]
  exact k
theorem any_nil {K : PySem.W.Frag} {t : Value} : PySem.W.kitAny K t [] = some false := rfl

/-! ### word_fault -/
def wWord : List Nat := [119, 111, 114, 100]
def wCount : List Nat := [99, 111, 117, 110, 116]
def wBelow : List Nat := [98, 101, 108, 111, 119]
def ltrs (l : List Nat) : Bool := l.all fun c => c == 100 || c == 111
def lowAt (l : List Nat) (k : Nat) : Bool := decide ((l.take k).count 100 < (l.take k).count 111)
def wfault (l : List Nat) : Option (List Nat) :=
  if 2 ≤ l.length ∧ l.length ≤ 12 then if ltrs l = true then if l.count 100 = l.count 111 then if (List.range l.length).any (lowAt l) = true then some wBelow else none else some wCount else some wWord else some wWord
def optV : Option (List Nat) → V
  | none => .non
  | some l => .str (sOf l)

/-! ### the law's own judge of words -/
def ht (l : List Nat) (k : Nat) : Int := ((l.take k).count 100 : Int) - (l.take k).count 111
theorem ht_zero (l : List Nat) : ht l 0 = 0 := by simp [ht]
theorem cnt_zero (l : List Nat) (c : Nat) : (((l.take 0).count c : Nat) : Int) = 0 := by simp
theorem ht_succ {l : List Nat} {i c : Nat} (h : l[i]? = some c) : ht l (i + 1) = ht l i + (if c = 100 then 1 else 0) - (if c = 111 then 1 else 0) := by
  unfold ht
  rw [List.take_add_one, h]
  show (((l.take i ++ [c]).count 100 : Nat) : Int) - ((l.take i ++ [c]).count 111 : Nat) = _
  rw [List.count_append, List.count_append, count_sign, count_sign]
  split <;> split <;> omega
/-- low is the least height so far, at most 0 -/
structure LowIs (l : List Nat) (i : Nat) (low : Int) : Prop where
  nonpos : low ≤ 0
  least : ∀ k, k ≤ i → low ≤ ht l k
  some_ : low = 0 ∨ ∃ k, k ≤ i ∧ low = ht l k
theorem LowIs.next {l : List Nat} {i : Nat} {low z : Int} (h : LowIs l i low) (hz : z = ht l (i + 1)) : LowIs l (i + 1) (if z < low then z else low) := by
  subst hz
  have n := h.nonpos
  refine ⟨by split <;> omega, fun k hk => ?_, ?_⟩
  · by_cases hk2 : k ≤ i
    · have := h.least k hk2
      split <;> omega
    · obtain rfl : k = i + 1 := by omega
      split <;> omega
  · split
    · exact .inr ⟨i + 1, Nat.le_refl _, rfl⟩
    · rcases h.some_ with e | ⟨k, hk, e⟩
      · exact .inl e
      · exact .inr ⟨k, by omega, e⟩
theorem LowIs.fault {l : List Nat} {low : Int} (h : LowIs l l.length low) (h0 : ht l l.length = 0) : (List.range l.length).any (lowAt l) = true ↔ low < 0 := by
  rw [List.any_eq_true]
  constructor
  · rintro ⟨k, hk, e⟩
    have := h.least k (Nat.le_of_lt (List.mem_range.mp hk))
    have e2 := of_decide_eq_true e
    unfold ht at this
    omega
  · intro hl
    rcases h.some_ with e | ⟨k, hk, e⟩
    · omega
    · by_cases hk2 : k < l.length
      · exact ⟨k, List.mem_range.mpr hk2, decide_eq_true (by unfold ht at e; omega)⟩
      · obtain rfl : k = l.length := by omega
        omega

theorem good_fault {l : List Nat} {n : Nat} (g : Good l n) (h1 : 1 ≤ n) (h6 : n ≤ 6) : wfault l = none := by
  have hl := g.len
  have hc := g.cnt
  have ht := ltr_count g.ltr
  unfold wfault
  rw [if_pos ⟨by omega, by omega⟩, if_pos, if_pos (by omega), if_neg]
  · rw [List.any_eq_true]
    rintro ⟨k, hk, e⟩
    have := g.ahead k (Nat.le_of_lt (List.mem_range.mp hk))
    have := of_decide_eq_true e
    omega
  · unfold ltrs
    rw [List.all_eq_true]
    intro c hc2
    rcases g.ltr c hc2 with e | e <;> subst e <;> rfl

/-! ### heights -/
def htsI (l : List Nat) (i : Nat) : List Int := (List.range (i + 1)).map (ht l)
theorem htsI_succ (l : List Nat) (i : Nat) : htsI l (i + 1) = htsI l i ++ [ht l (i + 1)] := by
  unfold htsI
  rw [List.range_succ, List.map_append]
  rfl
theorem htsI_len (l : List Nat) (i : Nat) : (htsI l i).length = i + 1 := by simp [htsI]
theorem htsI_last (l : List Nat) (i : Nat) : ∃ r, htsI l i = r ++ [ht l i] := by
  unfold htsI
  rw [List.range_succ, List.map_append]
  exact ⟨_, rfl⟩
theorem atI_last {α : Type} (r : List α) (x : α) : atI (r ++ [x]) (-1) = some x := by
  unfold atI ixN
  rw [if_neg (by decide)]
  have h1 : (r ++ [x]).length = r.length + 1 := by simp
  rw [h1, if_pos (by omega)]
  have h2 : ((-1 : Int) + ((r.length + 1 : Nat) : Int)).toNat = r.length := by omega
  rw [h2]
  simp
def vI (xs : List Int) : List V := xs.map V.int
theorem vI_app (a b : List Int) : vI (a ++ b) = vI a ++ vI b := List.map_append
theorem vI_last (l : List Nat) (i : Nat) : atI (vI (htsI l i)) (-1) = some (.int (ht l i)) := by
  obtain ⟨r, e⟩ := htsI_last l i
  rw [e, vI_app]
  exact atI_last _ _
theorem ht_step {l : List Nat} {i c : Nat} (h : l[i]? = some c) (hc : c = 100 ∨ c = 111) : ht l i + (if c = 100 then 1 else -1) = ht l (i + 1) := by
  rw [ht_succ h]
  rcases hc with e | e <;> subst e <;> simp <;> omega
theorem join_signsS : ∀ l : List Nat, Str.join (sOf []) (l.map fun c => sOf [c]) = sOf l
  | [] => rfl
  | [c] => rfl
  | c :: d :: r => by
    have ih := join_signsS (d :: r)
    rw [List.map_cons] at ih
    rw [List.map_cons, List.map_cons, Str.join, ih, sOf_app, sOf_app]
    · rfl
    · exact fun z => nomatch z
theorem join_signs (l : List Nat) : Txt.join (sOf []) (l.map fun c => sOf [c]) = sOf l := (TL.join_eq _ _).trans (join_signsS l)
theorem sum_signs (l : List Nat) : ((l.map fun c => sOf [c]).map (·.length)).sum = l.length := by
  induction l with
  | nil => rfl
  | cons c r ih =>
    rw [List.map_cons, List.map_cons, List.sum_cons, ih, sOf_len, List.length_cons, List.length_cons]
    show 1 + _ = _
    omega
theorem cutN_len (l : List Nat) (lo hi : Option Int) : (cutN l lo hi).length ≤ l.length := by
  unfold cutN
  rw [List.length_take, List.length_drop]
  omega

/-! ### C.m(..), m a static method of the class C -/
structure SMet (K : PySem.W.Frag) (C : Addr) (mc : Value) (m : Str) (p g : Addr) : Prop where
  found : PySem.W.findCls K (.ref C) mc m = some (.get (.builtin "staticmethod.__get__") (.ref p) .none (.ref C))
  held : ∃ rest, PySem.W.recIn K p "staticmethod" = some (.ref g :: rest)
  kept : PySem.W.keepIn K (.ref g) = true
section
variable {X : Cx} {pins : List (Addr × Obj)} {σ : L2.St} {H : Hp} {s : Shared} {C p g : Addr} {mc : Value} {m : Str} {A : Around} {E : Value → Shared → Prop} {pl : Sem Bool}
theorem getstat_ok {Q : Value × List Value → Shared → Prop} (J : L2.Inv X pins σ H s) (r : ClX.CRead X.K C mc) (M : SMet X.K C mc m p g) (h : ∀ s', L2.Inv X pins σ H s' → Q (.ref g, []) s') : wpAny (model X.prog X.w) A (getMethod (.ref C) m pl) Q E s := by
  obtain ⟨rest, hp⟩ := M.held
  exact PySem.W.method_cls J.kIn r.ga (PySem.W.cls_bind J.kIn r.rd M.found (wpAny_call (PySem.W.sm_get (s := { s with toks := s.toks + 1 }) J.kIn hp (PySem.W.handed_on rfl (h _ (J.tok _))))))
end
def tStat (C : Addr) (sp : Sp) (E : XK) (ta : TE) (t : TA) : TE := fun σ H Q => ta σ H fun x H1 => x = .ref C ∧ t σ H1 fun vs H2 => sp vs H2 Q E
section
variable {X : Cx} {CX : CXT} {n : Nat} {C p g : Addr} {mc : Value} {fd : FuncData} {ps : List Str} {sp : Sp} {E : XK} {m : Str} {apos pos : Pos} {o e : Expr} {es : List Expr} {ta : TE} {t : TA}
theorem pe_stat {pl : Sem Bool} (cls : PE X o ta) (r : ClX.CRead X.K C mc) (M : SMet X.K C mc m p g) (F : FnOk X.prog X.w X.K X.mg X.base CX n g fd ps sp) (room : Room n X.A) (hb : L2.Binds X.K fd ps []) (esc : Passes CX X E) (ha : PA X (e :: es) t)
    (hst : starEach (e :: es) X.env = (false, eval e X.env) :: starEach es X.env := by rfl) (hpl : (backTo pos (starEach es X.env)).any (·.1) = false := by rfl)
    (ht : eval (.Call (.Attribute o m apos) (e :: es) [] pos) X.env = (do let y ← eval o X.env; standAt apos.atName; let (g, first) ← holding [y] (getMethod y m pl); callWith pos g first (backTo pos (starEach (e :: es) X.env)) (backToKw pos (keywordEach [] X.env))) := by rfl) :
    PE X (.Call (.Attribute o m apos) (e :: es) [] pos) (tStat C sp E ta t) := by
  refine ⟨fun pins s σ H Q J h => PySem.W.methodCall_KW (pl := pl) (thn (cls.run pins s σ H _ J h) fun u s1 ⟨y, H1, J1, ru, ey, q⟩ => ?_) ht⟩
  subst ey
  cases ru
  refine getstat_ok J1 r M fun s2 J2 => PySem.W.callWith_K (first := []) (h₀ := X.base) J.ok.mod.kin M.kept (thn (ha.run pos pins s2 σ H1 _ J2 q) fun us s3 ⟨ws, H2, J3, rw', q2⟩ => ⟨J3.kIn, ?_⟩) hst hpl
  exact run_fn (us := us) (vs := ws) (dvs := []) (ds := []) F room hb .nil esc J3 rw' (by rw [List.append_nil]; exact q2)
end

/-! ### enumerate(tuple) -/
set_option maxHeartbeats 1000000 in
theorem enum_newT (l : Addr) (items : Array Value) (n : Nat) (dct : Option Addr) (sl : Array (Option Value)) :
    Meets (PySem.Builtin.«enumerate.__new__» ⟨[.type "enumerate", .ref l], []⟩) (fun _ R s => s.heap.get? l = some { cls := .type "tuple", dict := dct, data := .seq items n, slots := sl } ∧
      R (.ok (.ret (.ref (s.heap.push { cls := .type "tuple_iterator", data := .fields #[.ref l, .int 0 0] }).objs.size))) { s with heap := (s.heap.push { cls := .type "tuple_iterator", data := .fields #[.ref l, .int 0 0] }).push { cls := .type "enumerate", data := .fields #[.none, .bool false, .ref s.heap.objs.size, rawInt 0, .none, .none] } }) :=
  .of_wp fun prog w A R s h => by
    obtain ⟨hp, g, dr, tk, os⟩ := s
    obtain ⟨there, post⟩ := h
    have hsub := sub_enumerate
    have hT : Heap.IsTuple (Shared.heap ⟨hp, g, dr, tk, os⟩) l items := ⟨_, there, rfl, n, rfl⟩
    wp_walk using AutoSeq1.wpAny_loadPart' there
    refine wpAny_stack_any fun st => wpAny_pure ?_
    split
    · rename_i c _ _ _ _ _
      cases (c == Value.type "enumerate")
      · wp_walk using AutoSeq1.wpAny_loadPart' there, wpAny_pyIter_tuple hT
        exact ⟨_, rfl, post⟩
      · wp_walk using AutoSeq1.wpAny_loadPart' there, wpAny_pyIter_tuple hT
        exact ⟨_, rfl, post⟩
    · wp_walk using AutoSeq1.wpAny_loadPart' there, wpAny_pyIter_tuple hT
      exact ⟨_, rfl, post⟩
theorem call_enumT {prog : Program} {w : World} {A : Around} {E : Value → Shared → Prop} {s : Shared} {l : Addr} {items : Array Value} {Q : Value → Shared → Prop} (hT : s.heap.IsTuple l items)
    (h : ∀ h', IsEnum h' (s.heap.objs.size + 1) s.heap.objs.size 0 .none → h'.IsTupleIter s.heap.objs.size l 0 → (∀ b o, s.heap.get? b = some o → h'.get? b = some o) → Q (.ref (s.heap.objs.size + 1)) { s with heap := h' }) :
    wpAny (model prog w) A (call (.type "enumerate") [.ref l]) Q E s := by
  obtain ⟨⟨c, dct, dt, sl⟩, there, hc, n, hd⟩ := hT
  cases (show c = .type "tuple" from hc)
  cases (show dt = .seq items n from hd)
  refine callType_new F.called_enumerate (by decide) (F.typeCall_enumerate_1 _) (F.newCall_enumerate_1 _) (fun obj => F.args_object_init_2 obj _) F.entry_enumerate_new (enum_newT l items n dct sl) ⟨there, ?_⟩
  have z1 : (s.heap.push { cls := .type "tuple_iterator", data := .fields #[.ref l, .int 0 0] }).objs.size = s.heap.objs.size + 1 := Heap.size_push ..
  show _ ∧ _
  rw [z1]
  have at2 := Heap.get?_push_size (s.heap.push { cls := .type "tuple_iterator", data := .fields #[.ref l, .int 0 0] }) (o := { cls := .type "enumerate", data := .fields #[.none, .bool false, .ref s.heap.objs.size, rawInt 0, .none, .none] }) rfl
  rw [z1] at at2
  exact ⟨⟨_, at2, rfl⟩, h _ at2 ⟨_, Heap.get?_push_of_some _ (Heap.get?_push_size _ rfl), rfl, rfl⟩ fun b o x => Heap.get?_push_of_some _ (Heap.get?_push_of_some _ x)⟩
/-- the tuple at a as it stands at each turn, each item in a new pair -/
def IteT (K : PySem.W.Frag) (a : Addr) : It :=
  ⟨fun i H => ∃ (xs : List V) (x : V), SqT K H a xs ∧ xs[i]? = some x, fun i H v H' => ∃ T x, v = .ref T ∧ H T = none ∧ H' = L2.upd H T (.tup [.int (i : Nat), x]) ∧ (∀ ys, SqT K H a ys → ys[i]? = some x), fun i H => ∃ xs : List V, SqT K H a xs ∧ xs.length ≤ i⟩
theorem tup_ne {h : Heap} {l it : Addr} {xs : Array Value} {n : Nat} (p : h.IsTuple l xs) (q : h.IsTupleIter it l n) : l ≠ it := fun z => by
  obtain ⟨o, e, c, _⟩ := p
  obtain ⟨o2, e2, c2, _⟩ := q
  rw [z, e2] at e
  cases e
  exact absurd (Value.type.inj (c2.symm.trans c)) (by decide)
theorem tup_ne2 {h : Heap} {l en it : Addr} {xs : Array Value} {i : Int} {old : Value} (p : h.IsTuple l xs) (q : IsEnum h en it i old) : en ≠ l := fun z => by
  obtain ⟨o, e, c, _⟩ := p
  have q' : h.get? en = some _ := q
  rw [z, e] at q'
  cases q'
  exact absurd (Value.type.inj c) (by decide)
theorem turn_enumT {P : Program} {w : World} {K : PySem.W.Frag} {elts : List Expr} {kk : Nat} {tpos : Pos} (a e it : Addr) :
    Turn P w K (.Tuple elts kk tpos) (IteT K a) [e, it] e (fun i h => (∃ old, IsEnum h e it ((i : Nat) : Int) old) ∧ h.IsTupleIter it a i ∧ e ≠ it) where
  mem := by simp
  obj := fun i h ⟨⟨old, he⟩, ⟨o, ho, hc, hd⟩, _⟩ b hb => by
    rcases (show b = e ∨ b = it by simpa using hb) with z | z
    · rw [z]
      exact ⟨_, he, fun v q => nomatch q⟩
    · rw [z]
      exact ⟨o, ho, fun v q => by rw [hd] at q; cases q⟩
  keep := fun i h h' ⟨⟨old, he⟩, hi, ne⟩ k => ⟨⟨old, k e (by simp) _ he⟩, hi.at fun o q => k it (by simp) o q, ne⟩
  item := by
    intro X hP hw hK calm i pins s σ H E I hf ⟨⟨old, he⟩, hit, ne⟩ ⟨xs, x, hq, hx⟩
    subst hP hw hK
    obtain ⟨its, rv, p, hz⟩ := I.tuple hq
    have pt : s.heap.IsTuple a its.toArray := p
    obtain ⟨u, hu, ru⟩ := rv.get hx
    have hlt : i < its.toArray.size := by
      have := List.getElem?_eq_some_iff.mp hu
      obtain ⟨h1, _⟩ := this
      simpa using h1
    have el := Heap.lt_size he
    have il : it < s.heap.objs.size := by obtain ⟨_, q, _⟩ := hit; exact Heap.lt_size q
    have D := PySem.Draws.tuple (prog := X.prog) (w := X.w) (A := X.A.in1) (I.ok.hd calm) it a (tup_ne pt hit) its.toArray
    refine wpAny_pyNext_enum_itemD D he ⟨hit, pt⟩ hlt ne (by simp [ne, tup_ne2 pt he]) fun v h' tk hv ho ⟨hit', pt'⟩ hT hsz hk => ?_
    obtain rfl : u = v := by
      rw [List.getElem?_toArray, hu] at hv
      exact Option.some.inj hv
    refine ⟨_, rfl, wpAny_letOwnedTupleGo_enum (s := { s with heap := h', toks := tk + 1 }) ho fun h2 he2 sb => ?_⟩
    have hT2 : h2.get? s.heap.objs.size = some { cls := .type "tuple", data := .seq #[.int i tk, u] } := (sb.2 _ (Nat.ne_of_gt el)).trans hT
    have new : ObjOk X.prog X.w (L2.upd H s.heap.objs.size (.tup [.int (i : Nat), x])) h2 s.heap.objs.size (.tup [.int (i : Nat), x]) :=
      ⟨by show 2 ≤ sizeLine; decide, [.int i tk, u], .cons ⟨_, rfl⟩ (.cons ru .nil), ⟨_, hT2, rfl, _, rfl⟩⟩
    have I1 : L2.Inv X pins σ (L2.upd H s.heap.objs.size (.tup [.int (i : Nat), x])) { s with heap := h2, toks := tk + 1 } :=
      I.turnedNew (ch := [e, it]) (fun b ob hb q => (sb.2 b (fun z => hb (by simp [z]))).trans (hk b ob (fun z => hb (by simp [z])) (fun z => hb (by simp [z])) q)) hf (Nat.le_refl _) new
    refine ⟨.ref s.heap.objs.size, _, I1, rfl, ⟨_, x, rfl, I.hok.fresh (Nat.le_refl _), rfl, fun ys hy => by rw [I.tuple_inj hy hq]; exact hx⟩, ⟨⟨u, ?_⟩, hit'.at fun o q => (sb.2 it (Ne.symm ne)).trans q, ne⟩, fun b hb => ?_⟩
    · rw [show ((i + 1 : Nat) : Int) = (i : Int) + 1 by omega]
      exact he2
    · have lt : b < s.heap.objs.size := by
        rcases (show b = e ∨ b = it by simpa using hb) with z | z
        · exact z ▸ el
        · exact z ▸ il
      exact (upd_ne (Nat.ne_of_lt lt)).trans (hf b hb).1
  done := by
    intro X hP hw hK calm i pins s σ H E I hf ⟨⟨old, he⟩, hit, ne⟩ ⟨xs, hq, hx⟩
    subst hP hw hK
    obtain ⟨its, rv, p, hz⟩ := I.tuple hq
    have pt : s.heap.IsTuple a its.toArray := p
    obtain ⟨f0, f1, f2, f3, f4, f5⟩ := hf it (by simp)
    have many := rv.length
    have eT : s.TypeIs (.ref e) "enumerate" := ⟨_, he, rfl⟩
    unfold pyNext
    refine wpAny_bind (wpAny_attempt (wpAny_callSpecial?_slot (name := Str.ofString "__next__") eT F.slot_enumerate_next (wpAny_call_entry F.slot_enumerate_next eT F.entry_enumerate_next ?_ (F.args_enumerate_next_1 _))))
    show wpAny _ _ (field (.ref e) 2 >>= _) _ _ _
    refine wpAny_bind (wpAny_field he rfl (x := .ref it) rfl (wpAny_bind (PySem.wpAny_nextOf_tuple_end (I.ok.hd calm) hit pt (by simp; omega) fun h' er eb ⟨o, ho, hc⟩ => ?_)))
    exact wpAny_bind (wpAny_isInstance (T := "StopIteration") (b := true) ⟨o, ho, hc⟩ isSubtype_stop (wpAny_pure ⟨rfl, I.turned (t' := s.toks) (fun b o hb q => eb b o hb q) f0 f1 f3 f4 f5⟩))
  self := fun A i s Q E ⟨⟨_, he⟩, _⟩ h => wpAny_pyIter_enum he h
/-- enumerate(e), e a list or a tuple -/
def iEnumQ (K : PySem.W.Frag) (ta : TA) : TI := fun σ H R => ta σ H fun vs H1 => ∃ a xs, vs = [.ref a] ∧ ((SqL K H1 a xs ∧ R (Ite K a) H1) ∨ (SqT K H1 a xs ∧ R (IteT K a) H1))
theorem pi_enumQ {X : Cx} {K : PySem.W.Frag} {e : Expr} {ta : TA} {p pos tpos : Pos} {elts : List Expr} {kk : Nat} (hK : X.K = K) (hg : Gl X "enumerate") (hm : X.mg "enumerate" = none) (ha : PA X [e] ta) (hs : starEach [e] X.env = [(false, eval e X.env)] := by rfl) :
    PI X (.Tuple elts kk tpos) (.Call (.Name "enumerate" p) [e] [] pos) (iEnumQ K ta) := by
  subst hK
  refine ⟨fun pins s σ H R I h => Call_ (ld_blt I hg hm boot_enumerate (PyProof.Rows.callWith_type1 (thn (ha.run pos pins s σ H _ I h) fun us s1 ⟨vs, H1, I1, r1, a, xs, ex, q⟩ => ?_) hs rfl))⟩
  subst ex
  obtain ⟨u, rfl, ru⟩ := r1.one
  cases ru
  have foot : ∀ b, b ∈ [s1.heap.objs.size + 1, s1.heap.objs.size] → FpOk X pins H1 b := fun b hb => by
    have le : s1.heap.objs.size ≤ b := by
      rcases (show b = s1.heap.objs.size + 1 ∨ b = s1.heap.objs.size by simpa using hb) with z | z
      · exact z ▸ Nat.le_succ _
      · exact z ▸ Nat.le_refl _
    exact I1.fpOk le (I1.hok.fresh le)
  rcases q with ⟨hq, q⟩ | ⟨hq, q⟩
  · obtain ⟨its, rv, p', hz⟩ := I1.list hq
    exact call_enumerate_list p'.isList fun h' he hit hsz hk => wpAny_pyIter_enum he ⟨_, _, _, _, H1, rfl, I1.kept (t' := s1.toks) hk, turn_enum a (s1.heap.objs.size + 1) s1.heap.objs.size, ⟨⟨.none, he⟩, hit, Nat.succ_ne_self _⟩, foot, q⟩
  · obtain ⟨its, rv, p', hz⟩ := I1.tuple hq
    exact call_enumT (show s1.heap.IsTuple a its.toArray from p') fun h' he hit hk => wpAny_pyIter_enum he ⟨_, _, _, _, H1, rfl, I1.kept (t' := s1.toks) hk, turn_enumT a (s1.heap.objs.size + 1) s1.heap.objs.size, ⟨⟨.none, he⟩, hit, Nat.succ_ne_self _⟩, foot, q⟩
theorem walk_enumT {K : PySem.W.Frag} {a : Addr} {xs : List V} : Walk (IteT K a) xs.length (fun H => SqT K H a xs) (YPair (fun i => some (.int (i : Nat))) (fun i => xs[i]?)) := by
  refine ⟨fun i _ hi q => ⟨xs, xs[i], q, by simp [hi]⟩, fun _ q => ⟨xs, q, Nat.le_refl _⟩, fun i H v H' _ q y => ?_⟩
  obtain ⟨T, x, e1, e2, e3, e4⟩ := y
  exact ⟨T, .int (i : Nat), x, e1, e2, e3, rfl, e4 xs q⟩
/-- for x in e, e a list or a tuple -/
def iSeqQ (K : PySem.W.Frag) (te : TE) : TI := fun σ H R => te σ H fun v H1 => ∃ a xs, v = .ref a ∧ ((SqL K H1 a xs ∧ R (Itl K a) H1) ∨ (SqT K H1 a xs ∧ R (Itt K a) H1))
theorem pi_seqQ {X : Cx} {K : PySem.W.Frag} {tg e : Expr} {te : TE} (hK : X.K = K) (he : PE X e te) : PI X tg e (iSeqQ K te) := by
  subst hK
  refine ⟨fun pins s σ H R I h => thn (he.run pins s σ H _ I h) fun u s1 ⟨y, H1, I1, ru, a, xs, ey, q⟩ => ?_⟩
  subst ey
  cases ru
  have foot : ∀ b, b ∈ [s1.heap.objs.size] → FpOk X pins H1 b := fun b hb => by
    have z : b = s1.heap.objs.size := by simpa using hb
    rw [z]
    exact I1.fpOk (Nat.le_refl _) (I1.hok.fresh (Nat.le_refl _))
  rcases q with ⟨hq, q⟩ | ⟨hq, q⟩
  · obtain ⟨its, rv, p, hz⟩ := I1.list hq
    exact wpAny_pyIter_list p.isList ⟨_, _, _, _, H1, rfl, I1.kept (t' := s1.toks) fun b o k => Heap.get?_push_of_some _ k, turn_list a _, ⟨_, Heap.get?_push_size _ rfl, rfl, rfl⟩, foot, q⟩
  · obtain ⟨its, rv, p, hz⟩ := I1.tuple hq
    exact wpAny_pyIter_tuple (show s1.heap.IsTuple a its.toArray from p) ⟨_, _, _, _, H1, rfl, I1.kept (t' := s1.toks) fun b o k => Heap.get?_push_of_some _ k, turn_tuple a _, ⟨_, Heap.get?_push_size _ rfl, rfl, rfl⟩, foot, q⟩

/-! ### the making of exceptions with one, two fields -/
section
variable {K : PySem.W.Frag}
/-- the making of an exception with one field -/
def spE1 (K : PySem.W.Frag) (f : Str) : Sp := fun vs H Q _ => ∃ (a C : Addr) (v : V), vs = [.ref a, v] ∧ OexC K C ∧ PySem.W.findIn K (.ref C) f = some none ∧ H a = some (exo a C none) ∧
  ∀ dx, H dx = none → dx ≠ a → Q .non (upd (upd H dx (exd dx [(f, v)])) a (exo a C (some dx)))
/-- what raise C(v) asks, by its wish -/
theorem made1 {C : Addr} {f : Str} {v : V} {H : Hp} {Q : XK} (T : OexC K C) (hn : PySem.W.findIn K (.ref C) f = some none) (q : ∀ d H', Same H H' → H d = none → H' d = some (.xd [(f, v)]) → Q (.ref C) (some d) H') :
    [v].length ≤ 1000 ∧ ∀ a, H a = none → spE1 K f (.ref a :: ([v] ++ [])) (upd H a (exo a C none)) (fun v H2 => v = .non ∧ ∃ (d : Addr) (fs : List (Str × V)), H2 a = some (exo a C (some d)) ∧ H2 d = some (exd d fs) ∧ H d = none ∧ Q (.ref C) (some d) (upd (del H2 a) d (.xd fs))) (fun _ _ _ => False) := by
  refine ⟨(by show 1 ≤ 1000; decide), fun a na => ⟨a, C, v, rfl, T, hn, upd_same, fun dx n ne => ⟨rfl, dx, [(f, v)], upd_same, ?_, ?_, ?_⟩⟩⟩
  · rw [upd_ne ne, upd_same]
  · rw [upd_ne ne] at n
    exact n
  · rw [upd_ne ne] at n
    refine q dx _ (upd_del_same na n fun b o hb e => ?_) n upd_same
    rw [upd_ne hb, upd_ne (ne_of_none e n), upd_ne hb]
    exact e
/-- the making of an exception with two fields, f stored ahead of g -/
def spE2 (K : PySem.W.Frag) (f g : Str) : Sp := fun vs H Q _ => ∃ (a C : Addr) (v u : V), vs = [.ref a, v, u] ∧ OexC K C ∧ PySem.W.findIn K (.ref C) f = some none ∧ PySem.W.findIn K (.ref C) g = some none ∧ H a = some (exo a C none) ∧
  ∀ dx, H dx = none → dx ≠ a → Q .non (upd (upd (upd H dx (exd dx [(f, v)])) a (exo a C (some dx))) dx (exd dx [(g, u), (f, v)]))
theorem made2 {C : Addr} {f g : Str} {v u : V} {H : Hp} {Q : XK} (T : OexC K C) (hf : PySem.W.findIn K (.ref C) f = some none) (hg : PySem.W.findIn K (.ref C) g = some none) (q : ∀ d H', Same H H' → H d = none → H' d = some (.xd [(g, u), (f, v)]) → Q (.ref C) (some d) H') :
    [v, u].length ≤ 1000 ∧ ∀ a, H a = none → spE2 K f g (.ref a :: ([v, u] ++ [])) (upd H a (exo a C none)) (fun v H2 => v = .non ∧ ∃ (d : Addr) (fs : List (Str × V)), H2 a = some (exo a C (some d)) ∧ H2 d = some (exd d fs) ∧ H d = none ∧ Q (.ref C) (some d) (upd (del H2 a) d (.xd fs))) (fun _ _ _ => False) := by
  refine ⟨(by show 2 ≤ 1000; decide), fun a na => ⟨a, C, v, u, rfl, T, hf, hg, upd_same, fun dx n ne => ?_⟩⟩
  have n' : H dx = none := by
    rw [upd_ne ne] at n
    exact n
  refine ⟨rfl, dx, [(g, u), (f, v)], ?_, upd_same, n', q dx _ (upd_del_same na n' fun b o hb e => ?_) n' upd_same⟩
  · rw [upd_ne (Ne.symm ne), upd_same]
  · rw [upd_ne (ne_of_none e n'), upd_ne hb, upd_ne (ne_of_none e n'), upd_ne hb]
    exact e
end

/-! ### lists of new tuples, as data -/
theorem sqt_mono {K : PySem.W.Frag} {H H' : Hp} {a : Addr} {xs : List V} (e : Same H H') (h : SqT K H a xs) : SqT K H' a xs := by
  rcases h with (h | ⟨o, h⟩) | h
  · exact .inl (.inl (e _ _ h))
  · exact .inl (.inr ⟨o, e _ _ h⟩)
  · exact .inr h
mutual
theorem dp_mono {K : PySem.W.Frag} {H H' : Hp} (s : Same H H') : ∀ (d : PyData) (v : V), Dp K H v d → Dp K H' v d
  | .none, _, h => by cases h; exact .non
  | .bool b, _, h => by cases h; exact .bl b
  | .int i, _, h => by cases h; exact .int i
  | .str x, _, h => by cases h; exact .str x
  | .list ds, _, h => by
    cases h with
    | lst hs ha => exact .lst (s.seq hs) (dpa_mono s ds _ ha)
  | .tuple ds, _, h => by
    cases h with
    | tup hs ha => exact .tup (sqt_mono s hs) (dpa_mono s ds _ ha)
  | .dict _, _, h => by cases h
theorem dpa_mono {K : PySem.W.Frag} {H H' : Hp} (s : Same H H') : ∀ (ds : List PyData) (vs : List V), DpAll K H vs ds → DpAll K H' vs ds
  | [], _, h => by cases h; exact .nil
  | d :: ds, _, h => by
    cases h with
    | cons h1 h2 => exact .cons (dp_mono s d _ h1) (dpa_mono s ds _ h2)
end
theorem dpa_snoc {K : PySem.W.Frag} {H : Hp} {v : V} {d : PyData} : ∀ {ds : List PyData} {vs : List V}, DpAll K H vs ds → Dp K H v d → DpAll K H (vs ++ [v]) (ds ++ [d])
  | [], _, h, k => by cases h; exact .cons k .nil
  | e :: ds, _, h, k => by
    cases h with
    | cons h1 h2 => exact .cons h1 (dpa_snoc h2 k)
/-- the list at D (new since H) holds xs, data ds that stand without it -/
structure Gh (K : PySem.W.Frag) (H : Hp) (D : Addr) (H' : Hp) (xs : List V) (ds : List PyData) : Prop where
  ex : ∃ G : Hp, Same H G ∧ G D = none ∧ Same G H' ∧ DpAll K G xs ds
  here : H' D = some (.lst xs)
theorem Gh.start {K : PySem.W.Frag} {H : Hp} {D : Addr} (n : H D = none) : Gh K H D (upd H D (.lst [])) [] [] := ⟨⟨H, Same.refl H, n, same_new (Same.refl H) n, .nil⟩, upd_same⟩
theorem Gh.same {K : PySem.W.Frag} {H H' : Hp} {D : Addr} {xs : List V} {ds : List PyData} (g : Gh K H D H' xs ds) : Same H H' := let ⟨_, a, _, b, _⟩ := g.ex; a.trans b
theorem Gh.data {K : PySem.W.Frag} {H H' : Hp} {D : Addr} {xs : List V} {ds : List PyData} (g : Gh K H D H' xs ds) : Dp K H' (.ref D) (.list ds) := let ⟨_, _, _, b, c⟩ := g.ex; .lst (SqL.of g.here) (dpa_mono b _ _ c)
theorem Gh.grow {K : PySem.W.Frag} {H H' H2 : Hp} {D : Addr} {xs : List V} {ds : List PyData} (g : Gh K H D H' xs ds) (s : Same H' H2) : Gh K H D H2 xs ds := let ⟨G, a, n, b, c⟩ := g.ex; ⟨⟨G, a, n, b.trans s, c⟩, s _ _ g.here⟩
theorem Gh.add {K : PySem.W.Frag} {H H' : Hp} {D : Addr} {xs : List V} {ds : List PyData} {v : V} {d : PyData} (g : Gh K H D H' xs ds) (k : ∀ G : Hp, Dp K G v d) : Gh K H D (upd H' D (.lst (xs ++ [v]))) (xs ++ [v]) (ds ++ [d]) := by
  obtain ⟨G, a, n, b, c⟩ := g.ex
  refine ⟨⟨G, a, n, fun z o e => ?_, dpa_snoc c (k G)⟩, upd_same⟩
  rw [upd_ne (ne_of_none e n)]
  exact b z o e
theorem Gh.pair {K : PySem.W.Frag} {H H' : Hp} {D T : Addr} {xs vs : List V} {ds es : List PyData} (g : Gh K H D H' xs ds) (nT : H' T = none) (k : ∀ G : Hp, DpAll K G vs es) :
    Gh K H D (upd (upd H' T (.tup vs)) D (.lst (xs ++ [.ref T]))) (xs ++ [.ref T]) (ds ++ [.tuple es]) := by
  obtain ⟨G, a, n, b, c⟩ := g.ex
  have gT : G T = none := b.free nT
  have ne : T ≠ D := fun z => by rw [z, g.here] at nT; cases nT
  have s1 : Same G (upd G T (.tup vs)) := same_new (Same.refl G) gT
  refine ⟨⟨upd G T (.tup vs), a.trans s1, (upd_ne (Ne.symm ne)).trans n, fun z o e => ?_, dpa_snoc (dpa_mono s1 _ _ c) (.tup (SqT.of upd_same) (k _))⟩, upd_same⟩
  by_cases hz : z = T
  · subst hz
    rw [upd_same] at e
    rw [upd_ne ne, upd_same]
    exact e
  · rw [upd_ne hz] at e
    rw [upd_ne (ne_of_none e n), upd_ne hz]
    exact b z o e

/-! ### data of lists, item by item -/
theorem dpa_len {K : PySem.W.Frag} {H : Hp} : ∀ {ds : List PyData} {vs : List V}, DpAll K H vs ds → vs.length = ds.length
  | [], _, h => by cases h; rfl
  | d :: ds, _, h => by
    cases h with
    | cons h1 h2 => rw [List.length_cons, List.length_cons, dpa_len h2]
theorem dpa_at {K : PySem.W.Frag} {H : Hp} : ∀ {ds : List PyData} {vs : List V} {i : Nat} {v : V}, DpAll K H vs ds → vs[i]? = some v → ∃ d, ds[i]? = some d ∧ Dp K H v d
  | [], _, _, _, h, e => by cases h; simp at e
  | d :: ds, _, i, v, h, e => by
    cases h with
    | cons h1 h2 =>
      cases i with
      | zero => exact ⟨d, rfl, by simp at e; rw [← e]; exact h1⟩
      | succ i =>
        obtain ⟨d2, e2, k⟩ := dpa_at h2 (i := i) (by simpa using e)
        exact ⟨d2, by simpa using e2, k⟩
theorem dpa_get {K : PySem.W.Frag} {H : Hp} : ∀ {ds : List PyData} {vs : List V} {i : Nat} {d : PyData}, DpAll K H vs ds → ds[i]? = some d → ∃ v, vs[i]? = some v ∧ Dp K H v d
  | [], _, _, _, h, e => by simp at e
  | d :: ds, _, i, v, h, e => by
    cases h with
    | cons h1 h2 =>
      cases i with
      | zero => exact ⟨_, rfl, by simp at e; rw [← e]; exact h1⟩
      | succ i =>
        obtain ⟨v, e2, k⟩ := dpa_get h2 (i := i) (by simpa using e)
        exact ⟨v, by simpa using e2, k⟩
theorem dp_tup {K : PySem.W.Frag} {H : Hp} {v : V} {ds : List PyData} (h : Dp K H v (.tuple ds)) : ∃ T vs, v = .ref T ∧ SqT K H T vs ∧ DpAll K H vs ds := by
  cases h with
  | tup hs ha => exact ⟨_, _, rfl, hs, ha⟩
theorem dp_lst {K : PySem.W.Frag} {H : Hp} {v : V} {ds : List PyData} (h : Dp K H v (.list ds)) : ∃ T vs, v = .ref T ∧ SqL K H T vs ∧ DpAll K H vs ds := by
  cases h with
  | lst hs ha => exact ⟨_, _, rfl, hs, ha⟩
theorem dp_int {K : PySem.W.Frag} {H : Hp} {v : V} {i : Int} (h : Dp K H v (.int i)) : v = .int i := by cases h; rfl
theorem dp_str {K : PySem.W.Frag} {H : Hp} {v : V} {x : Str} (h : Dp K H v (.str x)) : v = .str x := by cases h; rfl
theorem dpa_ints {K : PySem.W.Frag} {H : Hp} : ∀ (zs : List Int), DpAll K H (vI zs) (zs.map .int)
  | [] => .nil
  | z :: zs => .cons (.int z) (dpa_ints zs)
/-! ### a pair as the target of a comprehension -/
theorem pg_tupK {X : Cx} {K : PySem.W.Frag} {pos : Pos} {es : List Expr} {k : Nat} {t : TGs} {n : Nat} (hK : X.K = K) (hc : X.calm = true) (h : PGs X es t) (h1 : (assignEach es X.env).length = n := by rfl)
    (h2 : List.findIdx? (fun x => x.fst) (assignEach es X.env) = none := by rfl) : PG X (Expr.Tuple es k pos) (gTup K n t) := hK ▸ pg_tup hc h h1 h2
theorem Gh.all {K : PySem.W.Frag} {H H' : Hp} {D : Addr} {xs : List V} {ds : List PyData} (g : Gh K H D H' xs ds) : DpAll K H' xs ds := let ⟨_, _, _, b, c⟩ := g.ex; dpa_mono b _ _ c
/-- a new tuple whose data are known -/
theorem Gh.tup {K : PySem.W.Frag} {H H' : Hp} {D p : Addr} {xs : List V} {ds : List PyData} (g : Gh K H D H' xs ds) (n : H' p = none) : DpAll K (upd H' p (.tup xs)) xs ds := let ⟨_, _, _, b, c⟩ := g.ex; dpa_mono (b.trans (same_new (Same.refl _) n)) _ _ c
/-- a static method as it stands in its class -/
theorem smet_of {K : PySem.W.Frag} {C p g : Addr} {m : Str} {r : List Value} (h0 : PySem.W.findIn K (.type "type") m = some none) (h1 : PySem.W.findIn K (.ref C) m = some (some (.ref p))) (h2 : PySem.W.typeIn K (.ref p) = some (.type "staticmethod"))
    (h3 : PySem.W.specialIn K (.ref p) "__get__" = some (some (.builtin "staticmethod.__get__"))) (h4 : PySem.W.recIn K p "staticmethod" = some (.ref g :: r)) (h5 : PySem.W.keepIn K (.ref g) = true) : SMet K C (.type "type") m p g := by
  refine ⟨?_, ⟨r, h4⟩, h5⟩
  unfold PySem.W.findCls
  rw [h0]
  simp only [Option.bind_some]
  rw [h1]
  simp only [Option.bind_some]
  rw [if_neg (by intro h; cases h), h2]
  simp only [Option.bind_some]
  rw [if_neg (by decide +kernel), h3]
  rfl
/-- the call of a static method whose exceptions meet a wish that looks at the slots -/
def tStatS (C : Addr) (sp : Sp) (E : L2.St → XK) (ta : TE) (t : TA) : TE := fun σ H Q => ta σ H fun x H1 => x = .ref C ∧ t σ H1 fun vs H2 => sp vs H2 Q (E σ)
section
variable {X : Cx} {CX : CXT} {n : Nat} {C p g : Addr} {mc : Value} {fd : FuncData} {ps : List Str} {sp : Sp} {E : L2.St → XK} {m : Str} {apos pos : Pos} {o e : Expr} {es : List Expr} {ta : TE} {t : TA}
theorem pe_statS {pl : Sem Bool} (cls : PE X o ta) (r : ClX.CRead X.K C mc) (M : SMet X.K C mc m p g) (F : FnOk X.prog X.w X.K X.mg X.base CX n g fd ps sp) (room : Room n X.A) (hb : L2.Binds X.K fd ps []) (esc : ∀ σ, PassesAt CX X σ (E σ)) (ha : PA X (e :: es) t)
    (hst : starEach (e :: es) X.env = (false, eval e X.env) :: starEach es X.env := by rfl) (hpl : (backTo pos (starEach es X.env)).any (·.1) = false := by rfl)
    (ht : eval (.Call (.Attribute o m apos) (e :: es) [] pos) X.env = (do let y ← eval o X.env; standAt apos.atName; let (g, first) ← holding [y] (getMethod y m pl); callWith pos g first (backTo pos (starEach (e :: es) X.env)) (backToKw pos (keywordEach [] X.env))) := by rfl) :
    PE X (.Call (.Attribute o m apos) (e :: es) [] pos) (tStatS C sp E ta t) := by
  refine ⟨fun pins s σ H Q J h => PySem.W.methodCall_KW (pl := pl) (thn (cls.run pins s σ H _ J h) fun u s1 ⟨y, H1, J1, ru, ey, q⟩ => ?_) ht⟩
  subst ey
  cases ru
  refine getstat_ok J1 r M fun s2 J2 => PySem.W.callWith_K (first := []) (h₀ := X.base) J.ok.mod.kin M.kept (thn (ha.run pos pins s2 σ H1 _ J2 q) fun us s3 ⟨ws, H2, J3, rw', q2⟩ => ⟨J3.kIn, ?_⟩) hst hpl
  exact run_fnS (us := us) (vs := ws) F room hb (esc σ) J3 rw' q2
end

/-! ### data that may be compared: no dict, low codes, not deep -/
def okD : Nat → PyData → Bool
  | _, .none => true
  | _, .bool _ => true
  | _, .int _ => true
  | _, .str s => PyData.strOk s
  | n + 1, .list ds => ds.all (okD n)
  | n + 1, .tuple ds => ds.all (okD n)
  | _, _ => false
theorem okA_all {n : Nat} : ∀ ds : List PyData, (∀ d ∈ ds, d.canLay0 = true ∧ d.depth ≤ n ∧ d.eqv d = true) → PyData.canLayAll0 ds = true ∧ PyData.depthAll ds ≤ n ∧ PyData.eqvAll ds ds = true
  | [], _ => ⟨rfl, Nat.zero_le _, rfl⟩
  | d :: ds, h => by
    obtain ⟨a, b, c⟩ := okA_all ds fun e he => h e (List.mem_cons_of_mem _ he)
    obtain ⟨a1, b1, c1⟩ := h d List.mem_cons_self
    refine ⟨?_, ?_, ?_⟩
    · rw [PyData.canLayAll0, a1, a]; rfl
    · rw [PyData.depthAll]; omega
    · rw [PyData.eqvAll, c1, c]; rfl
theorem okD_all : ∀ (n : Nat) (d : PyData), okD n d = true → d.canLay0 = true ∧ d.depth ≤ n ∧ d.eqv d = true := by
  intro n
  induction n with
  | zero =>
    intro d h
    cases d with
    | none => exact ⟨rfl, Nat.le_refl _, rfl⟩
    | bool b => exact ⟨rfl, Nat.le_refl _, by rw [PyData.eqv]; simp⟩
    | int i => exact ⟨rfl, Nat.le_refl _, by rw [PyData.eqv]; simp⟩
    | str s => exact ⟨by rw [PyData.canLay0]; exact h, Nat.le_refl _, by rw [PyData.eqv]; simp⟩
    | list ds => exact absurd h (by simp [okD])
    | tuple ds => exact absurd h (by simp [okD])
    | dict ds => exact absurd h (by simp [okD])
  | succ n ih =>
    intro d h
    cases d with
    | none => exact ⟨rfl, Nat.zero_le _, rfl⟩
    | bool b => exact ⟨rfl, Nat.zero_le _, by rw [PyData.eqv]; simp⟩
    | int i => exact ⟨rfl, Nat.zero_le _, by rw [PyData.eqv]; simp⟩
    | str s => exact ⟨by rw [PyData.canLay0]; exact h, Nat.zero_le _, by rw [PyData.eqv]; simp⟩
    | list ds =>
      obtain ⟨a, b, c⟩ := okA_all (n := n) ds fun d hd => ih d (List.all_eq_true.mp h d hd)
      exact ⟨by rw [PyData.canLay0]; exact a, by rw [PyData.depth]; omega, by rw [PyData.eqv]; exact c⟩
    | tuple ds =>
      obtain ⟨a, b, c⟩ := okA_all (n := n) ds fun d hd => ih d (List.all_eq_true.mp h d hd)
      exact ⟨by rw [PyData.canLay0]; exact a, by rw [PyData.depth]; omega, by rw [PyData.eqv]; exact c⟩
    | dict ds => exact absurd h (by simp [okD])
theorem ok_shaped {d : PyData} (h : okD 4 d = true) : SeqAt.shaped d = true := by
  obtain ⟨a, b, _⟩ := okD_all 4 d h
  unfold SeqAt.shaped
  rw [a, decide_eq_true (by omega)]
  rfl
theorem ok_eqv {d : PyData} (h : okD 4 d = true) : d.eqv d = true := (okD_all 4 d h).2.2
/-- the same data: nothing is unlike -/
theorem neD_same {K : PySem.W.Frag} {H : Hp} {x y : V} {Q : VK} {d : PyData} (a : Dp K H x d) (b : Dp K H y d) (h : okD 4 d = true) (q : Q (.bl false) H) : rNeD K x y H Q :=
  ⟨d, d, a, b, ok_shaped h, ok_shaped h, by rw [ok_eqv h]; exact q⟩
theorem eqD_same {K : PySem.W.Frag} {H : Hp} {x y : V} {Q : VK} {d : PyData} (a : Dp K H x d) (b : Dp K H y d) (h : okD 4 d = true) (q : Q (.bl true) H) : rEqD K x y H Q :=
  ⟨d, d, a, b, ok_shaped h, ok_shaped h, by rw [ok_eqv h]; exact q⟩
theorem ok_map {α : Type} {n : Nat} {f : α → PyData} (h : ∀ z, okD n (f z) = true) (zs : List α) : okD (n + 1) (.list (zs.map f)) = true ∧ okD (n + 1) (.tuple (zs.map f)) = true := by
  have : (zs.map f).all (okD n) = true := by
    rw [List.all_map, List.all_eq_true]
    exact fun z _ => h z
  exact ⟨this, this⟩
theorem ok_mem {α : Type} {n : Nat} {f : α → PyData} (zs : List α) (h : ∀ z ∈ zs, okD n (f z) = true) : okD (n + 1) (.list (zs.map f)) = true ∧ okD (n + 1) (.tuple (zs.map f)) = true := by
  have : (zs.map f).all (okD n) = true := by
    rw [List.all_map, List.all_eq_true]
    exact fun z hz => h z hz
  exact ⟨this, this⟩
theorem ok_ints (zs : List Int) : okD 4 (.list (zs.map .int)) = true ∧ okD 4 (.tuple (zs.map .int)) = true := ok_map (fun _ => rfl) zs

/-! ### all words of a size, as a list -/
/-- all ways of m steps from height h to height 0 -/
def ways : Nat → Nat → List (List Nat)
  | 0, 0 => [[]]
  | 0, _ + 1 => []
  | m + 1, h => (if h + 1 ≤ m then (ways m (h + 1)).map (List.cons 100) else []) ++ (match h with
    | 0 => []
    | k + 1 => (ways m k).map (List.cons 111))
theorem ways_len : ∀ {m h : Nat}, m < h → ways m h = []
  | 0, 0, e => absurd e (by omega)
  | 0, h + 1, _ => rfl
  | m + 1, h, e => by
    unfold ways
    rw [if_neg (by omega)]
    cases h with
    | zero => omega
    | succ k => simp [ways_len (m := m) (h := k) (by omega)]
theorem in_ways : ∀ (l : List Nat) (h : Nat), (∀ c ∈ l, c = 100 ∨ c = 111) → (∀ k, k ≤ l.length → (l.take k).count 111 ≤ h + (l.take k).count 100) → h + l.count 100 = l.count 111 → l ∈ ways l.length h
  | [], h, _, _, e => by
    have : h = 0 := by simpa using e
    subst this
    exact List.mem_singleton.mpr rfl
  | x :: r, h, al, ah, e => by
    have ar : ∀ c ∈ r, c = 100 ∨ c = 111 := fun c hc => al c (List.mem_cons_of_mem _ hc)
    have tot : r.count 100 + r.count 111 = r.length := by
      clear e ah al
      induction r with
      | nil => rfl
      | cons y s ih =>
        have := ih fun c hc => ar c (List.mem_cons_of_mem _ hc)
        rw [List.count_cons, List.count_cons, List.length_cons]
        rcases ar y List.mem_cons_self with z | z <;> subst z <;> simp <;> omega
    rw [List.length_cons]
    unfold ways
    rw [List.count_cons, List.count_cons] at e
    rcases al x List.mem_cons_self with z | z
    · subst z
      simp at e
      refine List.mem_append.mpr (.inl ?_)
      rw [if_pos (by omega)]
      refine List.mem_map.mpr ⟨r, in_ways r (h + 1) ar (fun k hk => ?_) (by omega), rfl⟩
      have a := ah (k + 1) (by rw [List.length_cons]; omega)
      rw [List.take_succ_cons, List.count_cons, List.count_cons] at a
      simp at a
      omega
    · subst z
      simp at e
      have a1 := ah 1 (by rw [List.length_cons]; omega)
      simp at a1
      obtain ⟨k, rfl⟩ : ∃ k, h = k + 1 := ⟨h - 1, by omega⟩
      refine List.mem_append.mpr (.inr ?_)
      refine List.mem_map.mpr ⟨r, in_ways r k ar (fun j hj => ?_) (by omega), rfl⟩
      have a := ah (j + 1) (by rw [List.length_cons]; omega)
      rw [List.take_succ_cons, List.count_cons, List.count_cons] at a
      simp at a
      omega
/-- all words of the sizes 1 to 6 -/
def allWords : List (List Nat) := ways 2 0 ++ (ways 4 0 ++ (ways 6 0 ++ (ways 8 0 ++ (ways 10 0 ++ ways 12 0))))
theorem Good.all {l : List Nat} {n : Nat} (g : Good l n) (h1 : 1 ≤ n) (h6 : n ≤ 6) : l ∈ allWords := by
  have m : l ∈ ways l.length 0 := in_ways l 0 g.ltr (fun k hk => by have := g.ahead k hk; omega) (by have := ltr_count g.ltr; have := g.len; have := g.cnt; omega)
  rw [g.len] at m
  unfold allWords
  have : n = 1 ∨ n = 2 ∨ n = 3 ∨ n = 4 ∨ n = 5 ∨ n = 6 := by omega
  rcases this with e | e | e | e | e | e <;> subst e <;> simp only [List.mem_append] <;> simp [m]
/-- what a kernel run says of all words -/
theorem Good.by {l : List Nat} {n : Nat} (g : Good l n) (h1 : 1 ≤ n) (h6 : n ≤ 6) (f : List Nat → Bool) (e : allWords.all f = true) : f l = true := List.all_eq_true.mp e l (g.all h1 h6)
/-! ### runs, as the loop of the program finds them, and as the law does -/
def rsStep (l : List Nat) (z : List (List Nat × Nat × Nat) × Nat) (b : Nat) : List (List Nat × Nat × Nat) × Nat :=
  if b = l.length ∨ l[b]? ≠ l[z.2]? then (z.1 ++ [((l[z.2]?).toList, z.2, b - z.2)], b) else z
def rsI (l : List Nat) : Nat → List (List Nat × Nat × Nat) × Nat
  | 0 => ([], 0)
  | i + 1 => rsStep l (rsI l i) (i + 1)
theorem rsI_at (l : List Nat) (i : Nat) : (rsI l i).2 ≤ i := by
  induction i with
  | zero => exact Nat.le_refl _
  | succ i ih =>
    unfold rsI rsStep
    split
    · exact Nat.le_refl _
    · omega
theorem rsI_len (l : List Nat) (i : Nat) : (rsI l i).1.length ≤ i := by
  induction i with
  | zero => exact Nat.le_refl _
  | succ i ih =>
    unfold rsI rsStep
    split
    · rw [List.length_append]
      exact Nat.succ_le_succ ih
    · omega

/-! ### enumerate(text) -/
theorem pyIter_text {prog : Program} {w : World} {A : Around} {E : Value → Shared → Prop} {s : Shared} {x : Str} {t : Tok} {Q : Value → Shared → Prop}
    (h : Q (Value.ref s.heap.objs.size) { s with heap := s.heap.push { cls := Value.type (strIterType x), data := Data.fields #[Value.str x t, Value.int 0 0] } }) : wpAny (model prog w) A (pyIter (Value.str x t)) Q E s := by
  unfold strIterType at h
  cases ha : x.cps.all (· < 128)
  · rw [ha] at h
    exact wpAny_pyIter_wide ha h
  · rw [ha] at h
    exact wpAny_pyIter_ascii ha h
set_option maxHeartbeats 1000000 in
theorem enum_newS (x : Str) (t : Tok) : Meets (PySem.Builtin.«enumerate.__new__» ⟨[.type "enumerate", .str x t], []⟩) (fun _ R s => R (.ok (.ret (.ref (s.heap.push { cls := .type (strIterType x), data := .fields #[.str x t, .int 0 0] }).objs.size))) { s with heap := (s.heap.push { cls := .type (strIterType x), data := .fields #[.str x t, .int 0 0] }).push { cls := .type "enumerate", data := .fields #[.none, .bool false, .ref s.heap.objs.size, rawInt 0, .none, .none] } }) :=
  .of_wp fun prog w A R s post => by
    have hsub := sub_enumerate
    wp_walk using pyIter_text
    refine wpAny_stack_any fun st => wpAny_pure ?_
    split
    · rename_i c _ _ _ _ _
      cases (c == Value.type "enumerate")
      · wp_walk using pyIter_text
        exact ⟨_, rfl, post⟩
      · wp_walk using pyIter_text
        exact ⟨_, rfl, post⟩
    · wp_walk using pyIter_text
      exact ⟨_, rfl, post⟩
theorem call_enumS {prog : Program} {w : World} {A : Around} {E : Value → Shared → Prop} {s : Shared} {x : Str} {t : Tok} {Q : Value → Shared → Prop}
    (h : ∀ h', IsEnum h' (s.heap.objs.size + 1) s.heap.objs.size 0 .none → h'.IsStrIter s.heap.objs.size (strIterType x) x t 0 → (∀ b o, s.heap.get? b = some o → h'.get? b = some o) → Q (.ref (s.heap.objs.size + 1)) { s with heap := h' }) :
    wpAny (model prog w) A (call (.type "enumerate") [.str x t]) Q E s := by
  refine callType_new F.called_enumerate (by decide) (F.typeCall_enumerate_1 _) (F.newCall_enumerate_1 _) (fun obj => F.args_object_init_2 obj _) F.entry_enumerate_new (enum_newS x t) ?_
  have z1 : (s.heap.push { cls := .type (strIterType x), data := .fields #[.str x t, .int 0 0] }).objs.size = s.heap.objs.size + 1 := Heap.size_push ..
  show _ ∧ _
  rw [z1]
  have at2 := Heap.get?_push_size (s.heap.push { cls := .type (strIterType x), data := .fields #[.str x t, .int 0 0] }) (o := { cls := .type "enumerate", data := .fields #[.none, .bool false, .ref s.heap.objs.size, rawInt 0, .none, .none] }) rfl
  rw [z1] at at2
  exact ⟨⟨_, at2, rfl⟩, h _ at2 ⟨_, Heap.get?_push_of_some _ (Heap.get?_push_size _ rfl), rfl, rfl⟩ fun b o y => Heap.get?_push_of_some _ (Heap.get?_push_of_some _ y)⟩
/-- the text's letters, each in a new pair with its place -/
def IteS (x : Str) : It :=
  ⟨fun i _ => i < x.cps.size, fun i H v H' => ∃ T c, v = .ref T ∧ H T = none ∧ x.cps[i]? = some c ∧ H' = L2.upd H T (.tup [.int (i : Nat), .str ⟨#[c]⟩]), fun i _ => i = x.cps.size⟩
theorem turn_enumS {P : Program} {w : World} {K : PySem.W.Frag} {elts : List Expr} {kk : Nat} {tpos : Pos} (x : Str) (t : Tok) (e it : Addr) :
    Turn P w K (.Tuple elts kk tpos) (IteS x) [e, it] e (fun i h => (∃ old, IsEnum h e it ((i : Nat) : Int) old) ∧ h.IsStrIter it (strIterType x) x t i ∧ e ≠ it) where
  mem := by simp
  obj := fun i h ⟨⟨old, he⟩, ⟨o, ho, hc, hd⟩, _⟩ b hb => by
    rcases (show b = e ∨ b = it by simpa using hb) with z | z
    · rw [z]
      exact ⟨_, he, fun v q => nomatch q⟩
    · rw [z]
      exact ⟨o, ho, fun v q => by rw [hd] at q; cases q⟩
  keep := fun i h h' ⟨⟨old, he⟩, ⟨o, ho, r⟩, ne⟩ k => ⟨⟨old, k e (by simp) _ he⟩, ⟨o, k it (by simp) _ ho, r⟩, ne⟩
  item := by
    intro X hP hw hK calm i pins s σ H E I hf ⟨⟨old, he⟩, hit, ne⟩ hi
    subst hP hw hK
    have el := Heap.lt_size he
    have il : it < s.heap.objs.size := by obtain ⟨_, q, _⟩ := hit; exact Heap.lt_size q
    have D := PySem.Draws.text (prog := X.prog) (w := X.w) (A := X.A.in1) (I.ok.hd calm) it x t
    refine wpAny_pyNext_enum_itemD D he hit hi ne (by simp [ne]) fun v h' tk hv ho hit' hT hsz hk => ?_
    obtain ⟨c, u, hc, rfl⟩ := hv
    refine ⟨_, rfl, wpAny_letOwnedTupleGo_enum (s := { s with heap := h', toks := tk + 1 }) ho fun h2 he2 sb => ?_⟩
    have hT2 : h2.get? s.heap.objs.size = some { cls := .type "tuple", data := .seq #[.int i tk, .str ⟨#[c]⟩ u] } := (sb.2 _ (Nat.ne_of_gt el)).trans hT
    have new : ObjOk X.prog X.w (L2.upd H s.heap.objs.size (.tup [.int (i : Nat), .str ⟨#[c]⟩])) h2 s.heap.objs.size (.tup [.int (i : Nat), .str ⟨#[c]⟩]) :=
      ⟨by show 2 ≤ sizeLine; decide, [.int i tk, .str ⟨#[c]⟩ u], .cons ⟨_, rfl⟩ (.cons ⟨_, rfl⟩ .nil), ⟨_, hT2, rfl, _, rfl⟩⟩
    have I1 : L2.Inv X pins σ (L2.upd H s.heap.objs.size (.tup [.int (i : Nat), .str ⟨#[c]⟩])) { s with heap := h2, toks := tk + 1 } :=
      I.turnedNew (ch := [e, it]) (fun b ob hb q => (sb.2 b (fun z => hb (by simp [z]))).trans (hk b ob (fun z => hb (by simp [z])) (fun z => hb (by simp [z])) q)) hf (Nat.le_refl _) new
    refine ⟨.ref s.heap.objs.size, _, I1, rfl, ⟨_, c, rfl, I.hok.fresh (Nat.le_refl _), hc, rfl⟩, ⟨⟨.str ⟨#[c]⟩ u, ?_⟩, ?_, ne⟩, fun b hb => ?_⟩
    · rw [show ((i + 1 : Nat) : Int) = (i : Int) + 1 by omega]
      exact he2
    · obtain ⟨o, q, r⟩ := hit'
      exact ⟨o, (sb.2 it (Ne.symm ne)).trans q, r⟩
    · have lt : b < s.heap.objs.size := by
        rcases (show b = e ∨ b = it by simpa using hb) with z | z
        · exact z ▸ el
        · exact z ▸ il
      exact (upd_ne (Nat.ne_of_lt lt)).trans (hf b hb).1
  done := by
    intro X hP hw hK calm i pins s σ H E I hf ⟨⟨old, he⟩, hit, ne⟩ hx
    subst hP hw hK
    obtain ⟨f0, f1, f2, f3, f4, f5⟩ := hf it (by simp)
    have eT : s.TypeIs (.ref e) "enumerate" := ⟨_, he, rfl⟩
    obtain rfl : i = x.cps.size := hx
    unfold pyNext
    refine wpAny_bind (wpAny_attempt (wpAny_callSpecial?_slot (name := Str.ofString "__next__") eT F.slot_enumerate_next (wpAny_call_entry F.slot_enumerate_next eT F.entry_enumerate_next ?_ (F.args_enumerate_next_1 _))))
    show wpAny _ _ (field (.ref e) 2 >>= _) _ _ _
    refine wpAny_bind (wpAny_field he rfl (x := .ref it) rfl (wpAny_bind ((PySem.Draws.text (prog := X.prog) (w := X.w) (A := X.A.in1) (I.ok.hd calm) it x t).done _ _ _ hit fun h' er eb ⟨o, ho, hc⟩ => ?_)))
    exact wpAny_bind (wpAny_isInstance (T := "StopIteration") (b := true) ⟨o, ho, hc⟩ isSubtype_stop (wpAny_pure ⟨rfl, I.turned (t' := s.toks) (fun b o hb q => eb b o hb q) f0 f1 f3 f4 f5⟩))
  self := fun A i s Q E ⟨⟨_, he⟩, _⟩ h => wpAny_pyIter_enum he h
/-- enumerate(e), e a text -/
def iEnumS (ta : TA) : TI := fun σ H R => ta σ H fun vs H1 => ∃ x : Str, vs = [.str x] ∧ R (IteS x) H1
theorem pi_enumS {X : Cx} {e : Expr} {ta : TA} {p pos tpos : Pos} {elts : List Expr} {kk : Nat} (hg : Gl X "enumerate") (hm : X.mg "enumerate" = none) (ha : PA X [e] ta) (hs : starEach [e] X.env = [(false, eval e X.env)] := by rfl) :
    PI X (.Tuple elts kk tpos) (.Call (.Name "enumerate" p) [e] [] pos) (iEnumS ta) := by
  refine ⟨fun pins s σ H R I h => Call_ (ld_blt I hg hm boot_enumerate (PyProof.Rows.callWith_type1 (thn (ha.run pos pins s σ H _ I h) fun us s1 ⟨vs, H1, I1, r1, x, ex, q⟩ => ?_) hs rfl))⟩
  subst ex
  obtain ⟨u, rfl, ru⟩ := r1.one
  obtain ⟨t, rfl⟩ := ru
  have foot : ∀ b, b ∈ [s1.heap.objs.size + 1, s1.heap.objs.size] → FpOk X pins H1 b := fun b hb => by
    have le : s1.heap.objs.size ≤ b := by
      rcases (show b = s1.heap.objs.size + 1 ∨ b = s1.heap.objs.size by simpa using hb) with z | z
      · exact z ▸ Nat.le_succ _
      · exact z ▸ Nat.le_refl _
    exact I1.fpOk le (I1.hok.fresh le)
  exact call_enumS fun h' he hit hk => wpAny_pyIter_enum he ⟨_, _, _, _, H1, rfl, I1.kept (t' := s1.toks) hk, turn_enumS x t (s1.heap.objs.size + 1) s1.heap.objs.size, ⟨⟨.none, he⟩, hit, Nat.succ_ne_self _⟩, foot, q⟩
theorem walk_enumS {l : List Nat} : Walk (IteS (sOf l)) l.length (fun _ => True) (YPair (fun i => some (.int (i : Nat))) (fun i => (l[i]?).map fun c => V.str (sOf [c]))) := by
  refine ⟨fun i H hi _ => ?_, fun H _ => ?_, fun i H v H' _ _ y => ?_⟩
  · show i < (sOf l).cps.size
    simpa [sOf] using hi
  · show l.length = (sOf l).cps.size
    simp [sOf]
  · obtain ⟨T, c, e1, e2, e3, e4⟩ := y
    have e5 : l[i]? = some c := by simpa [sOf] using e3
    exact ⟨T, .int (i : Nat), .str (sOf [c]), e1, e2, e4, rfl, by
      show Option.map _ l[i]? = _
      rw [e5]
      rfl⟩

/-! ### lists of pairs of whole numbers -/
theorem Room.units65 {k : Nat} {A : Around} (h : Room k A) : A.units + 65 < cLine := by
  have := h.un
  omega
def mD (m : Nat × Nat) : PyData := .tuple [.int (m.1 : Nat), .int (m.2 : Nat)]
def mT (m : Nat × Nat) : HO := .tup [.int (m.1 : Nat), .int (m.2 : Nat)]
/-- xs are tuples that hold the pairs M -/
inductive Prs (H : Hp) : List V → List (Nat × Nat) → Prop where
  | nil : Prs H [] []
  | cons {T : Addr} {m : Nat × Nat} {xs : List V} {M : List (Nat × Nat)} (h : H T = some (mT m)) (r : Prs H xs M) : Prs H (.ref T :: xs) (m :: M)
theorem Prs.mono {H H' : Hp} (s : Same H H') : ∀ {xs M}, Prs H xs M → Prs H' xs M
  | _, _, .nil => .nil
  | _, _, .cons h r => .cons (s _ _ h) (r.mono s)
theorem Prs.len {H : Hp} : ∀ {xs M}, Prs H xs M → xs.length = M.length
  | _, _, .nil => rfl
  | _, _, .cons _ r => congrArg Nat.succ r.len
theorem Prs.snoc {H : Hp} {T : Addr} {m : Nat × Nat} (h : H T = some (mT m)) : ∀ {xs M}, Prs H xs M → Prs H (xs ++ [.ref T]) (M ++ [m])
  | _, _, .nil => .cons h .nil
  | _, _, .cons h2 r => .cons h2 (r.snoc h)
theorem Prs.at {H : Hp} : ∀ {xs M} {i : Nat} {x : V}, Prs H xs M → xs[i]? = some x → ∃ T m, x = .ref T ∧ M[i]? = some m ∧ H T = some (mT m)
  | _, _, _, _, .nil, e => by simp at e
  | _, _, 0, _, .cons (T := T) (m := m) h _, e => ⟨T, m, by simpa using e.symm, rfl, h⟩
  | _, _, i + 1, _, .cons _ r, e => by
    obtain ⟨T, m, a, b, c⟩ := r.at (i := i) (by simpa using e)
    exact ⟨T, m, a, by simpa using b, c⟩
theorem Prs.data {K : PySem.W.Frag} {H : Hp} : ∀ {xs M}, Prs H xs M → DpAll K H xs (M.map mD)
  | _, _, .nil => .nil
  | _, _, .cons h r => .cons (.tup (SqT.of h) (.cons (.int _) (.cons (.int _) .nil))) r.data
theorem Prs.mem {H : Hp} : ∀ {xs M} {x : V}, Prs H xs M → x ∈ xs → ∃ T m, x = .ref T ∧ m ∈ M ∧ H T = some (mT m)
  | _, _, _, .nil, h => by simp at h
  | _, _, x, .cons (T := T) (m := m) h r, hx => by
    rcases List.mem_cons.mp hx with e | e
    · exact ⟨T, m, e, List.mem_cons_self, h⟩
    · obtain ⟨T2, m2, a, b, c⟩ := r.mem e
      exact ⟨T2, m2, a, List.mem_cons_of_mem _ b, c⟩
theorem Prs.keep {H H' : Hp} {D : Addr} {o : HO} (hD : ∀ m, H D ≠ some (mT m)) (b : ∀ c o, c ≠ D → H c = some o → H' c = some o) : ∀ {xs M}, Prs H xs M → Prs H' xs M
  | _, _, .nil => .nil
  | _, _, .cons (T := T) (m := m) h r => .cons (b _ _ (fun z => hD m (by rw [← z]; exact h)) h) (r.keep (o := o) hD b)
theorem Prs.perm {H : Hp} {xs ys : List V} (p : ys.Perm xs) : ∀ {M}, Prs H xs M → ∃ N, Prs H ys N ∧ N.Perm M := by
  induction p with
  | nil =>
    intro M h
    cases h
    exact ⟨[], .nil, .nil⟩
  | cons x p ih =>
    intro M h
    cases h with
    | cons h r =>
      obtain ⟨N, a, b⟩ := ih r
      exact ⟨_ :: N, .cons h a, b.cons _⟩
  | swap x y l =>
    intro M h
    cases h with
    | cons h r =>
      cases r with
      | cons h2 r => exact ⟨_ :: _ :: _, .cons h2 (.cons h r), .swap _ _ _⟩
  | trans p q ih1 ih2 =>
    intro M h
    obtain ⟨N, a, b⟩ := ih2 h
    obtain ⟨N2, a2, b2⟩ := ih1 a
    exact ⟨N2, a2, b2.trans b⟩
/-! `in` by data -/
def rInDT (K : PySem.W.Frag) : R2 := fun x y H Q => ∃ d ds, Dp K H x d ∧ Dp K H y (.tuple ds) ∧ SeqAt.shaped d = true ∧ SeqAt.shaped (.tuple ds) = true ∧ Q (.bl (ds.any fun z => PyData.eqv z d)) H
def rNotInDT (K : PySem.W.Frag) : R2 := fun x y H Q => ∃ d ds, Dp K H x d ∧ Dp K H y (.tuple ds) ∧ SeqAt.shaped d = true ∧ SeqAt.shaped (.tuple ds) = true ∧ Q (.bl (!ds.any fun z => PyData.eqv z d)) H
theorem op_inDT {X : Cx} {K : PySem.W.Frag} (hK : X.K = K) (hu : X.A.units + 65 < cLine) : OpR X (compareOp .In) (rInDT K) := by
  subst hK
  rintro pins s σ H x y v u Q I rx ry ⟨d, ds, hd, he, sd, se, q⟩
  obtain ⟨as, r1⟩ := Dp.reads I d x v hd rx
  obtain ⟨bs, r2⟩ := Dp.reads I (.tuple ds) y u he ry
  exact SeqAt.in_tuple_reads r2 r1 (SeqAt.canLay_of_shaped se) (SeqAt.canLay_of_shaped sd) (PyProof.Rows.room_in_shaped sd hu) ⟨.bl _, H, I, rfl, q⟩
theorem op_notInDT {X : Cx} {K : PySem.W.Frag} (hK : X.K = K) (hu : X.A.units + 65 < cLine) : OpR X (compareOp .NotIn) (rNotInDT K) := by
  subst hK
  rintro pins s σ H x y v u Q I rx ry ⟨d, ds, hd, he, sd, se, q⟩
  obtain ⟨as, r1⟩ := Dp.reads I d x v hd rx
  obtain ⟨bs, r2⟩ := Dp.reads I (.tuple ds) y u he ry
  exact SeqAt.notIn_tuple_reads r2 r1 (SeqAt.canLay_of_shaped se) (SeqAt.canLay_of_shaped sd) (PyProof.Rows.room_in_shaped sd hu) ⟨.bl _, H, I, rfl, q⟩
theorem op_inDK {X : Cx} {K : PySem.W.Frag} (hK : X.K = K) (hu : X.A.units + 65 < cLine) : OpR X (compareOp .In) (rInD K) := by
  subst hK
  exact op_inD hu
theorem op_notInDK {X : Cx} {K : PySem.W.Frag} (hK : X.K = K) (hu : X.A.units + 65 < cLine) : OpR X (compareOp .NotIn) (rNotInD K) := by
  subst hK
  exact op_notInD hu
theorem mD_eqv (a b : Nat × Nat) : PyData.eqv (mD a) (mD b) = decide (a = b) := by
  obtain ⟨a1, a2⟩ := a
  obtain ⟨b1, b2⟩ := b
  unfold mD
  rw [PyData.eqv, PyData.eqvAll, PyData.eqvAll, PyData.eqvAll, PyData.eqv, PyData.eqv]
  by_cases h1 : a1 = b1 <;> by_cases h2 : a2 = b2 <;> simp [h1, h2]
  all_goals omega
theorem any_mD (M : List (Nat × Nat)) (m : Nat × Nat) : ((M.map mD).any fun z => PyData.eqv z (mD m)) = decide (m ∈ M) := by
  rw [List.any_map]
  by_cases h : m ∈ M
  · rw [decide_eq_true h, List.any_eq_true]
    exact ⟨m, h, by show PyData.eqv _ _ = true; rw [mD_eqv]; simp⟩
  · rw [decide_eq_false h, List.any_eq_false]
    intro x hx z
    have z2 : PyData.eqv (mD x) (mD m) = true := z
    rw [mD_eqv] at z2
    exact h (by rw [← of_decide_eq_true z2]; exact hx)
theorem ok_mD (n : Nat) (m : Nat × Nat) : okD (n + 1) (mD m) = true := by
  unfold mD
  cases n <;> rfl
theorem ok_mDs (M : List (Nat × Nat)) : okD 4 (.list (M.map mD)) = true ∧ okD 4 (.tuple (M.map mD)) = true := ok_map (fun z => ok_mD 2 z) M
theorem shaped_mD (m : Nat × Nat) : SeqAt.shaped (mD m) = true := ok_shaped (ok_mD 3 m)
/-- a pair among the pairs -/
theorem inP {K : PySem.W.Frag} {H : Hp} {x : V} {p : Addr} {xs : List V} {M : List (Nat × Nat)} {m : Nat × Nat} {Q : VK} (hx : Dp K H x (mD m)) (hp : H p = some (.tup xs)) (hM : Prs H xs M) (q : Q (.bl (decide (m ∈ M))) H) : rInDT K x (.ref p) H Q :=
  ⟨_, _, hx, .tup (SqT.of hp) hM.data, shaped_mD m, ok_shaped (ok_mDs M).2, by rw [any_mD]; exact q⟩
theorem notInP {K : PySem.W.Frag} {H : Hp} {x : V} {p : Addr} {xs : List V} {M : List (Nat × Nat)} {m : Nat × Nat} {Q : VK} (hx : Dp K H x (mD m)) (hp : H p = some (.tup xs)) (hM : Prs H xs M) (q : Q (.bl (!decide (m ∈ M))) H) : rNotInDT K x (.ref p) H Q :=
  ⟨_, _, hx, .tup (SqT.of hp) hM.data, shaped_mD m, ok_shaped (ok_mDs M).2, by rw [any_mD]; exact q⟩
theorem inL {K : PySem.W.Frag} {H : Hp} {x : V} {p : Addr} {xs : List V} {M : List (Nat × Nat)} {m : Nat × Nat} {Q : VK} (hx : Dp K H x (mD m)) (hp : H p = some (.lst xs)) (hM : Prs H xs M) (q : Q (.bl (decide (m ∈ M))) H) : rInD K x (.ref p) H Q :=
  ⟨_, _, hx, .lst (SqL.of hp) hM.data, shaped_mD m, ok_shaped (ok_mDs M).1, by rw [any_mD]; exact q⟩
theorem notInL {K : PySem.W.Frag} {H : Hp} {x : V} {p : Addr} {xs : List V} {M : List (Nat × Nat)} {m : Nat × Nat} {Q : VK} (hx : Dp K H x (mD m)) (hp : H p = some (.lst xs)) (hM : Prs H xs M) (q : Q (.bl (!decide (m ∈ M))) H) : rNotInD K x (.ref p) H Q :=
  ⟨_, _, hx, .lst (SqL.of hp) hM.data, shaped_mD m, ok_shaped (ok_mDs M).1, by rw [any_mD]; exact q⟩

/-! ### isinstance of a caught error that has a dict -/
theorem chk_ga {prog : Program} {w : World} {A : Around} {E : Value → Shared → Prop} {s : Shared} {x : Addr} {nm : Str} {t : Tok} {Q : Unit → Shared → Prop} (sub : PySem.W.Looks (model prog w) s.heap (isInstance (Value.ref x) (Value.type "BaseException")) true) (h : Q () s) :
    wpAny (model prog w) A (checkBuiltinCall "BaseException.__getattribute__" { pos := [Value.ref x, Value.str nm t] }) Q E s :=
  @PySem.W.check_slot (model prog w) A E s "BaseException.__getattribute__" "BaseException" "__getattribute__" (Value.ref x) [Value.str nm t] [] Q PySem.W.kin_classE._proof_2 PySem.W.kin_classE._proof_3 sub (F.args_bexc_ga (Value.ref x) (Value.str nm t)) h
set_option maxHeartbeats 400000 in
theorem kin_classX {prog : Program} {w : World} {A : Around} {E : Value → Shared → Prop} {s : Shared} {K : PySem.W.Frag} {x D : Addr} {ox o : Obj} {Q : Option Value → Shared → Prop} (C : ExcC K D) (X : K.In s.heap) (I : PySem.W.InstAt s.heap x ox D (some o))
    (h : Q (some (Value.ref D)) { s with toks := s.toks + 1 }) : wpAny (model prog w) A (getAttr? (Value.ref x) (Str.ofString "__class__")) Q E s := by
  have hf := PySem.W.findObj_data (K := K) (C := D) (od := o) (name := Str.ofString "__class__") (by obtain ⟨cd, hc, _⟩ := PySem.W.any_some C.hd; rw [hc]; rfl) C.ha C.hn C.ht
  obtain ⟨hp, g, d, t, os⟩ := s
  have L0 := PySem.W.InstAt.type (M := model prog w) I
  have L1 := PySem.W.looks_findIn (M := model prog w) X C.hg
  have L2 := PySem.W.looks_findIn (M := model prog w) X C.hk
  have L3 := PySem.W.looks_find (M := model prog w) X I hf
  have sub : PySem.W.Looks (model prog w) hp (isInstance (Value.ref x) (Value.type "BaseException")) true := PySem.W.Looks.andThen L0 (PySem.W.looks_subIn X C.hs)
  unfold getAttr?
  refine wpAny_bind (wpAny_mkText ?_)
  unfold getAttrBy?
  refine wpAny_bind (wpAny_attempt (wpAny_holding ?_))
  refine wpAny_bind (PySem.W.Looks.at L0 (wpAny_bind (PySem.W.Looks.at L1 ?_)))
  have hx2 : (Value.builtin "BaseException.__getattribute__" == Value.builtin "object.__getattribute__") = false := by decide
  have hx1 : (onTheHeap (Value.ref D) && (Value.builtin "BaseException.__getattribute__" == Value.builtin "object.__getattribute__")) = false := by rw [hx2]; rfl
  dsimp only
  rw [hx1, if_neg Bool.false_ne_true]
  unfold getAttrByItsOwn
  refine wpAny_bind ?_
  unfold hookBefore
  rw [if_pos (show onTheHeap (Value.ref D) = true from rfl)]
  refine PySem.W.Looks.at L2 (wpAny_bind (wpAny_attempt (wpAny_holding ?_)))
  unfold callGetattribute
  rw [if_neg (show ¬ (false && onTheHeap (Value.builtin "BaseException.__getattribute__")) = true from Bool.false_ne_true)]
  unfold boundAndCalled
  rw [F.excAttr_ValueError.ga.bind (Value.ref x)]
  refine wpAny_bind (wpAny_pure ?_)
  show wpAny (model prog w) A (call (Value.builtin "BaseException.__getattribute__") [Value.ref x, Value.str (Str.ofString "__class__") t]) _ _ _
  refine wpAny_call (codeAny_call_builtin F.excAttr_ValueError.ga.plain F.entry_bexc_ga ?_)
  refine chk_ga sub ?_
  unfold Builtin.«object.__getattribute__»
  refine wpAny_bind (m := slotArgs "__getattribute__" 1 { pos := [Value.ref x, Value.str (Str.ofString "__class__") t] }) (wpAny_of_eq (a := (Value.ref x, [Value.str (Str.ofString "__class__") t])) (by kernel_rfl!) ?_)
  dsimp only
  refine wpAny_bind (m := Builtin.ObjectAttr.attrName (Value.str (Str.ofString "__class__") t)) (wpAny_of_eq (a := Str.ofString "__class__") (by rfl) ?_)
  refine wpAny_bind (PySem.W.Looks.at L0 (wpAny_bind (PySem.W.Looks.at L3 ?_)))
  dsimp only
  unfold Builtin.ObjectAttr.bindTo
  refine wpAny_bind ?_
  refine wpAny_holding (wpAny_call (PySem.W.class_get X I C.hm ?_))
  refine wpAny_pure ?_
  show wpAny (model prog w) A (handedOut (Value.ref D)) _ _ _
  rw [PySem.W.handedOut_of (v := Value.ref D) rfl]
  exact wpAny_pure (wpAny_pure h)
theorem cls_lookup {K : PySem.W.Frag} {D : Addr} (hd : PySem.W.hasDictIn K D = true) : ∃ cls dict cd slots, K.lookup D = some ⟨cls, dict, .cls cd, slots⟩ := by
  obtain ⟨cd, hc, _⟩ := PySem.W.any_some hd
  unfold PySem.W.clsIn at hc
  split at hc
  · rename_i c d cd2 sl he
    exact ⟨c, d, cd2, sl, he⟩
  · cases hc
theorem kitx_excX {K : PySem.W.Frag} {x D : Addr} {ox o : Obj} (C : ExcC K D) : PySem.W.KitX K (Value.ref x) (Value.ref D) (fun h => PySem.W.InstAt h x ox D (some o)) := by
  obtain ⟨cls, dict, cd, slots, he⟩ := cls_lookup C.hd
  refine ⟨fun M h X I => PySem.W.InstAt.type I, fun M h X I => ?_, fun h tp dd its n sl X htp => ?_, fun X I q => kin_classX C X I q⟩
  · intro A' Q' E' s' k q
    show wpAny M A' (loadPart _ _ >>= _) _ _ _
    exact wpAny_bind (wpAny_loadPart (k D _ (X D _ he)) (wpAny_pure q))
  · refine Bool.eq_false_iff.mpr fun q => ?_
    have e := Value.ref.inj (beq_iff_eq.mp q)
    subst e
    have z := (X D _ he).symm.trans htp
    cases z
/-- isinstance(e, C), e caught, its attributes in a dict -/
def rIsX (K : PySem.W.Frag) (a : Addr) (cls : Value) (d : Option Addr) : List V → Hp → VK → Prop := fun xs H Q => ∃ (c : V) (u : Value) (D dd : Addr) (fs : List (Str × V)) (b : Bool), xs = [.ref a, c] ∧ ClsV c u ∧ cls = .ref D ∧ ExcC K D ∧ d = some dd ∧ H dd = some (.xd fs) ∧
  PySem.W.kitOne K (.ref D) u = some b ∧ Q (.bl b) H
theorem xd_some {P : Program} {w : World} {H : Hp} {h : Heap} {d : Addr} {fs : List (Str × V)} (z : ObjOk P w H h d (.xd fs)) : ∃ o, h.get? d = some o := by
  unfold ObjOk at z
  obtain ⟨mA, hn, _⟩ := z
  obtain ⟨o, _, _, ho, _⟩ := hn
  exact ⟨o, ho⟩
theorem call_isX {X : Cx} {K : PySem.W.Frag} {a : Addr} {cls : Value} {d : Option Addr} {oe : Obj} {pn : List (Addr × Obj)} (hK : X.K = K) (hz : Zc cls d oe) (hf : ∃ vs, oe.data = Data.fields vs) :
    CallR (X.suite a ((a, oe) :: pn)) (.builtin "isinstance") (rIsX K a cls d) := by
  subst hK
  intro pins s σ H xs us Q I r h
  obtain ⟨c, u, D, dd, fs, b, rfl, cv, rfl, C, rfl, ed, kb, q⟩ := h
  cases r with
  | cons rx rr =>
    cases rr with
    | cons rt r2 =>
      cases r2
      cases rx
      rename_i cu
      obtain rfl : cu = u := by
        cases cv with
        | ty n => first | exact rt | exact rt.symm
        | own c => first | exact rt | exact rt.symm
      obtain ⟨hget, _⟩ := I.pin (a, oe) (List.mem_append.mpr (.inl List.mem_cons_self))
      obtain ⟨o, ho⟩ := xd_some (I.hok dd _ ed)
      obtain ⟨vs, hv⟩ := hf
      have J : PySem.W.InstAt s.heap a oe D (some o) := by
        obtain ⟨oc, od, oda, osl⟩ := oe
        obtain ⟨h1, h2⟩ := hz
        cases h1
        cases h2
        cases hv
        exact ⟨hget, rfl, rfl, ho⟩
      exact PySem.W.kia_one (kitx_excX C) I.kIn J kb (fun z => nomatch z) fun tk => ⟨.bl b, H, I.kept (t' := tk) fun _ _ z => z, rfl, q⟩

/-! ### a def (or method) with defaults -/
structure FunV (K : PySem.W.Frag) (x qual : Str) (st : Stmt) (f : Addr) (fd : FuncData) : Prop where
  ex : ∃ (oc : Value) (od : Option Addr) (dV kV doc pm : Value) (an : Option Addr) (cdv ct : Value) (osl : Array (Option Value)),
    fd = PySem.W.fnOf x qual (defArgs st) (defBody st) (defScope st) dV kV doc pm an cdv ct ∧ K.lookup f = some ⟨oc, od, .func fd, osl⟩ ∧ PySem.W.codeIn K cdv qual = true
  kp : PySem.W.keepIn K (.ref f) = true
section
variable {P : Program} {w : World} {K : PySem.W.Frag} {mg : Str → Option Value} {base : Heap}
theorem FunV.ok {x qual : Str} {st : Stmt} {f : Addr} {fd : FuncData} {N ps : List Str} {k : Nat} {sp : Sp} (F : FunV K x qual st f fd) (S : FnScope N ps (defScope st)) (len : ∀ vs H Q E, sp vs H Q E → vs.length = ps.length)
    (hbody : ∀ (cdv : Value) (A : Around) (outer : List Env) (s : Shared) (H : Hp) (vs : List V) (Q : VK) (E : XK), Room k (A.deeper (envOfC qual (defScope st) s.heap.objs.size f cdv)) → sp vs H Q E →
      ∃ t, PSs (cxOf CX0 P w K mg base N qual (defScope st) f cdv A outer s H E).nox (defBody st) t ∧ t { nx := fun _ H' => Q .non H', rt := Q } (start N vs) H) : FnOk P w K mg base CX0 (k + 1) f fd ps sp := by
  obtain ⟨oc, od, dV, kV, doc, pm, an, cdv, ct, osl, rfl, lk, hcd⟩ := F.ex
  refine fn_of lk hcd S len fun A outer s H vs Q E hr hsp => ?_
  obtain ⟨t, h, q⟩ := hbody cdv A outer s H vs Q E hr hsp
  exact ⟨t, h.nox, q⟩
theorem FunV.okX {x qual : Str} {st : Stmt} {f : Addr} {fd : FuncData} {N ps : List Str} {k : Nat} {sp : Sp} (F : FunV K x qual st f fd) (S : FnScope N ps (defScope st)) (len : ∀ vs H Q E, sp vs H Q E → vs.length = ps.length)
    (hbody : ∀ (cdv : Value) (A : Around) (outer : List Env) (s : Shared) (H : Hp) (vs : List V) (Q : VK) (E : XK), Room k (A.deeper (envOfC qual (defScope st) s.heap.objs.size f cdv)) → sp vs H Q E →
      ∃ t, PSs (cxOf (L2.CX P w) P w K mg base N qual (defScope st) f cdv A outer s H E) (defBody st) t ∧ t { nx := fun _ H' => Q .non H', rt := Q } (start N vs) H) : FnOk P w K mg base (L2.CX P w) (k + 1) f fd ps sp := by
  obtain ⟨oc, od, dV, kV, doc, pm, an, cdv, ct, osl, rfl, lk, hcd⟩ := F.ex
  exact fn_of lk hcd S len fun A outer s H vs Q E hr hsp => hbody cdv A outer s H vs Q E hr hsp
theorem funV_mk {x qual : Str} {st : Stmt} {f : Addr} {oc : Value} {od an : Option Addr} {osl : Array (Option Value)} {dV kV doc pm cdv ct : Value} (l : K.lookup f = some ⟨oc, od, .func (PySem.W.fnOf x qual (defArgs st) (defBody st) (defScope st) dV kV doc pm an cdv ct), osl⟩)
    (c : PySem.W.codeIn K cdv qual = true) (k : PySem.W.keepIn K (.ref f) = true) : FunV K x qual st f (PySem.W.fnOf x qual (defArgs st) (defBody st) (defScope st) dV kV doc pm an cdv ct) := ⟨⟨oc, od, dV, kV, doc, pm, an, cdv, ct, osl, rfl, l, c⟩, k⟩
/-- every parameter is given; the defaults are the items of a tuple that is not needed -/
theorem bindsD {fd : FuncData} {ps : List Str} {T : Addr} {o : Obj} {its : Array Value} {n : Nat} (lT : K.lookup T = some o) (oT : o.data = .seq its n)
    (h : ∀ us : List Value, us.length = ps.length → ∃ k, bindArgs fd ⟨us, []⟩ = seqItems? (.ref T) >>= k ∧ k (some its) = pure (ps.zip us)) : Binds K fd ps [] := fun s us X hl => by
  rw [List.append_nil] at hl ⊢
  obtain ⟨k, e1, e2⟩ := h us hl
  refine BindsTo.of_looks fun M => ?_
  rw [e1]
  exact looks_items X lT oT (.of_pure e2)
end
/-- a method with defaults as it stands -/
structure MetAtD (K : PySem.W.Frag) (x qual : Str) (st : Stmt) (ps : List Str) (f : Addr) (fd : FuncData) : Prop where
  F : FunV K x qual st f fd
  b : Binds K fd ps []
/-- a method with keyword-only defaults as it stands -/
structure MetAtK (K : PySem.W.Frag) (x qual : Str) (st : Stmt) (kws : List (Str × V)) (f : Addr) (fd : FuncData) : Prop where
  F : L2.FunD K x qual (defArgs st) (defBody st) (defScope st) [] kws f fd
theorem funK_mk {K : PySem.W.Frag} {x qual : Str} {st : Stmt} {kws : List (Str × V)} {f D : Addr} {oc : Value} {od an : Option Addr} {osl : Array (Option Value)} {doc pm cdv ct : Value} (l : K.lookup f = some ⟨oc, od, .func (PySem.W.fnOf x qual (defArgs st) (defBody st) (defScope st) .none (.ref D) doc pm an cdv ct), osl⟩)
    (c : PySem.W.codeIn K cdv qual = true) (k : PySem.W.keepIn K (.ref f) = true) (h : ∀ q ∈ kws, ∃ u, PySem.W.nsIn K D q.1 = some (some u) ∧ RelV q.2 u) : MetAtK K x qual st kws f (PySem.W.fnOf x qual (defArgs st) (defBody st) (defScope st) .none (.ref D) doc pm an cdv ct) :=
  ⟨⟨⟨oc, od, .none, .ref D, doc, pm, an, cdv, ct, osl, rfl, l, c, .inl ⟨rfl, rfl⟩, .inr ⟨D, rfl, h⟩⟩, k⟩⟩
theorem kw_nil {K : PySem.W.Frag} {D : Addr} : ∀ q ∈ ([] : List (Str × V)), ∃ u, PySem.W.nsIn K D q.1 = some (some u) ∧ RelV q.2 u := fun _ h => nomatch h
theorem kw_cons {K : PySem.W.Frag} {D : Addr} {x : Str} {i : Int} {t : Tok} {r : List (Str × V)} (h : PySem.W.nsIn K D x = some (some (.int i t))) (hr : ∀ q ∈ r, ∃ u, PySem.W.nsIn K D q.1 = some (some u) ∧ RelV q.2 u) :
    ∀ q ∈ (x, V.int i) :: r, ∃ u, PySem.W.nsIn K D q.1 = some (some u) ∧ RelV q.2 u := fun q hq => by
  rcases List.mem_cons.mp hq with e | hq
  · subst e
    exact ⟨_, h, ⟨t, rfl⟩⟩
  · exact hr q hq

local macro_rules | `(tactic| walk_at "num") => `(tactic| first
  | omega
  | (with_reducible exact True.intro)
  | (show (0 : Int) < _; omega)
  | (refine cmul_r ?_; omega)
  | (refine cmul_l ?_; omega)
  | (refine cdiv ?_ ?_ <;> omega)
  | (refine cpow ?_ ?_ ?_ <;> decide)
  | (simp only [List.length_cons, List.length_nil, List.length_append, List.length_take, List.length_drop, List.length_map]; omega))
local macro_rules | `(tactic| walk_at "look") => `(tactic| first
  | assumption
  | exact upd_same
  | (rw [upd_ne (by assumption)]; assumption)
  | (rw [upd_ne (by first | assumption | (apply Ne.symm; assumption))]; first | assumption | exact upd_same))
local macro_rules | `(tactic| walk_at "go") => `(tactic| repeat (first
  | (refine ⟨_, rfl, ?_⟩)
  | (refine ⟨_, _, rfl, rfl, ?_⟩)
  | (refine ⟨_, _, _, _, rfl, rfl, SqL.of (by walk_at "look"), rfl, ?_⟩)
  | (refine ⟨_, _, _, _, rfl, rfl, by walk_at "look", rfl, ?_⟩)
  | (refine ⟨_, _, rfl, .inl (SqL.of (by walk_at "look")), ?_⟩)
  | (refine ⟨rfl, _, rfl, ?_⟩)
  | (refine ⟨_, _, _, _, _, rfl, by walk_at "look", by assumption, by assumption, rfl, ?_⟩)
  | (refine And.intro (Or.inl ⟨rfl, _, SqL.of (by walk_at "look")⟩) ?_)
  | (refine And.intro ⟨_, rfl⟩ ?_)
  | (refine Or.inl ⟨_, rfl, ?_⟩)
  | (refine And.intro (by walk_at "num") ?_)))
def topS (i : Nat) : Stmt := PySem.Challenge.pw_slitstairs_k52_boxes_and_what_rests.main.body.getD i (.Pass ⟨0, 0, 0, 0⟩)
abbrev s_rest_table : Stmt := topS 1
abbrev N_rest_table : List Str := ["boxes", "index", "box", "on"]
abbrev P_rest_table : List Str := ["boxes"]
theorem sc_rest_table : FnScope N_rest_table P_rest_table (defScope s_rest_table) := ⟨rfl, rfl, rfl, by decide +kernel, rfl, by decide +kernel, by decide +kernel⟩
abbrev s_l_mix : Stmt := topS 5
abbrev N_l_mix : List Str := ["_law_number", "_law_turn", "_law_once", "_law_twice"]
abbrev P_l_mix : List Str := ["_law_number", "_law_turn"]
theorem sc_l_mix : FnScope N_l_mix P_l_mix (defScope s_l_mix) := ⟨rfl, rfl, rfl, by decide +kernel, rfl, by decide +kernel, by decide +kernel⟩
abbrev s_l_hand : Stmt := topS 6
abbrev N_l_hand : List Str := ["_law_script", "_law_total", "_law_k", "_law_cell"]
abbrev P_l_hand : List Str := ["_law_script"]
theorem sc_l_hand : FnScope N_l_hand P_l_hand (defScope s_l_hand) := ⟨rfl, rfl, rfl, by decide +kernel, rfl, by decide +kernel, by decide +kernel⟩
abbrev s_l_draw : Stmt := topS 7
abbrev N_l_draw : List Str := ["_law_hand_here", "_law_many", "_law_cell", "_law_rest"]
abbrev P_l_draw : List Str := ["_law_hand_here", "_law_many"]
theorem sc_l_draw : FnScope N_l_draw P_l_draw (defScope s_l_draw) := ⟨rfl, rfl, rfl, by decide +kernel, rfl, by decide +kernel, by decide +kernel⟩
abbrev s_l_squares : Stmt := topS 8
abbrev N_l_squares : List Str := ["_law_box_here", "_law_told", "_law_c", "_law_u", "_law_v"]
abbrev P_l_squares : List Str := ["_law_box_here"]
theorem sc_l_squares : FnScope N_l_squares P_l_squares (defScope s_l_squares) := ⟨rfl, rfl, rfl, by decide +kernel, rfl, by decide +kernel, by decide +kernel⟩
abbrev s_l_meets : Stmt := topS 9
abbrev N_l_meets : List Str := ["_law_one", "_law_other", "_law_held", "_law_square"]
abbrev P_l_meets : List Str := ["_law_one", "_law_other"]
theorem sc_l_meets : FnScope N_l_meets P_l_meets (defScope s_l_meets) := ⟨rfl, rfl, rfl, by decide +kernel, rfl, by decide +kernel, by decide +kernel⟩
abbrev s_l_rests : Stmt := topS 10
abbrev N_l_rests : List Str := ["_law_one", "_law_other", "_law_held", "_law_square", "_law_c", "_law_u", "_law_v"]
abbrev P_l_rests : List Str := ["_law_one", "_law_other"]
theorem sc_l_rests : FnScope N_l_rests P_l_rests (defScope s_l_rests) := ⟨rfl, rfl, rfl, by decide +kernel, rfl, by decide +kernel, by decide +kernel⟩
abbrev s_l_boxed : Stmt := topS 11
abbrev N_l_boxed : List Str := ["_law_box_here"]
abbrev P_l_boxed : List Str := ["_law_box_here"]
theorem sc_l_boxed : FnScope N_l_boxed P_l_boxed (defScope s_l_boxed) := ⟨rfl, rfl, rfl, by decide +kernel, rfl, by decide +kernel, by decide +kernel⟩
abbrev s_l_box : Stmt := topS 12
abbrev N_l_box : List Str := ["_law_hand_here", "_law_boxes", "_law_first", "_law_wide", "_law_high", "_law_box_here", "_law_other", "_law_way"]
abbrev P_l_box : List Str := ["_law_hand_here", "_law_boxes"]
theorem sc_l_box : FnScope N_l_box P_l_box (defScope s_l_box) := ⟨rfl, rfl, rfl, by decide +kernel, rfl, by decide +kernel, by decide +kernel⟩
abbrev s_l_kept : Stmt := topS 13
abbrev N_l_kept : List Str := ["_law_row"]
abbrev P_l_kept : List Str := ["_law_row"]
theorem sc_l_kept : FnScope N_l_kept P_l_kept (defScope s_l_kept) := ⟨rfl, rfl, rfl, by decide +kernel, rfl, by decide +kernel, by decide +kernel⟩
abbrev s_l_alone : Stmt := topS 14
abbrev N_l_alone : List Str := ["_law_hand_here", "_law_row", "_law_box_here", "_law_due", "_law_k", "_law_square", "_law_near", "_law_other", "_law_place"]
abbrev P_l_alone : List Str := ["_law_hand_here", "_law_row"]
theorem sc_l_alone : FnScope N_l_alone P_l_alone (defScope s_l_alone) := ⟨rfl, rfl, rfl, by decide +kernel, rfl, by decide +kernel, by decide +kernel⟩
abbrev s_law : Stmt := topS 15
abbrev N_law : List Str := ["_law_script", "_law_hand_here", "_law_many", "_law_rows", "_law_k", "_law_row", "_law_boxes", "_law_due", "_law_found", "_law_on", "_law_box_here"]
abbrev P_law : List Str := ["_law_script"]
theorem sc_law : FnScope N_law P_law (defScope s_law) := ⟨rfl, rfl, rfl, by decide +kernel, rfl, by decide +kernel, by decide +kernel⟩
abbrev s_Box___init__ : Stmt := inClass (topS 3) 0
abbrev N_Box___init__ : List Str := ["self", "first", "last", "x", "y", "outs", "downs"]
abbrev P_Box___init__ : List Str := ["self", "first", "last", "x", "y", "outs", "downs"]
theorem sc_Box___init__ : FnScope N_Box___init__ P_Box___init__ (defScope s_Box___init__) := ⟨rfl, rfl, rfl, by decide +kernel, rfl, by decide +kernel, by decide +kernel⟩
abbrev s_Box_squares : Stmt := inClass (topS 3) 1
abbrev N_Box_squares : List Str := ["self", "c", "x", "y"]
abbrev P_Box_squares : List Str := ["self"]
theorem sc_Box_squares : FnScope N_Box_squares P_Box_squares (defScope s_Box_squares) := ⟨rfl, rfl, rfl, by decide +kernel, rfl, by decide +kernel, by decide +kernel⟩
abbrev s_Box_meets : Stmt := inClass (topS 3) 2
abbrev N_Box_meets : List Str := ["self", "other"]
abbrev P_Box_meets : List Str := ["self", "other"]
theorem sc_Box_meets : FnScope N_Box_meets P_Box_meets (defScope s_Box_meets) := ⟨rfl, rfl, rfl, by decide +kernel, rfl, by decide +kernel, by decide +kernel⟩
abbrev s_Box_rests_on : Stmt := inClass (topS 3) 3
abbrev N_Box_rests_on : List Str := ["self", "other", "inward", "downward"]
abbrev P_Box_rests_on : List Str := ["self", "other"]
theorem sc_Box_rests_on : FnScope N_Box_rests_on P_Box_rests_on (defScope s_Box_rests_on) := ⟨rfl, rfl, rfl, by decide +kernel, rfl, by decide +kernel, by decide +kernel⟩
abbrev s_Box___contains__ : Stmt := inClass (topS 3) 4
abbrev N_Box___contains__ : List Str := ["self", "square", "c", "x", "y"]
abbrev P_Box___contains__ : List Str := ["self", "square"]
theorem sc_Box___contains__ : FnScope N_Box___contains__ P_Box___contains__ (defScope s_Box___contains__) := ⟨rfl, rfl, rfl, by decide +kernel, rfl, by decide +kernel, by decide +kernel⟩
abbrev s_Box___len__ : Stmt := inClass (topS 3) 5
abbrev N_Box___len__ : List Str := ["self"]
abbrev P_Box___len__ : List Str := ["self"]
theorem sc_Box___len__ : FnScope N_Box___len__ P_Box___len__ (defScope s_Box___len__) := ⟨rfl, rfl, rfl, by decide +kernel, rfl, by decide +kernel, by decide +kernel⟩
abbrev s_Box___eq__ : Stmt := inClass (topS 3) 6
abbrev N_Box___eq__ : List Str := ["self", "other"]
abbrev P_Box___eq__ : List Str := ["self", "other"]
theorem sc_Box___eq__ : FnScope N_Box___eq__ P_Box___eq__ (defScope s_Box___eq__) := ⟨rfl, rfl, rfl, by decide +kernel, rfl, by decide +kernel, by decide +kernel⟩
structure Ads where
  f_rest_table : Addr
  d_rest_table : FuncData
  f_l_mix : Addr
  d_l_mix : FuncData
  f_l_hand : Addr
  d_l_hand : FuncData
  f_l_draw : Addr
  d_l_draw : FuncData
  f_l_squares : Addr
  d_l_squares : FuncData
  f_l_meets : Addr
  d_l_meets : FuncData
  f_l_rests : Addr
  d_l_rests : FuncData
  f_l_boxed : Addr
  d_l_boxed : FuncData
  f_l_box : Addr
  d_l_box : FuncData
  f_l_kept : Addr
  d_l_kept : FuncData
  f_l_alone : Addr
  d_l_alone : FuncData
  f_law : Addr
  d_law : FuncData
  f_Box___init__ : Addr
  d_Box___init__ : FuncData
  f_Box_squares : Addr
  d_Box_squares : FuncData
  f_Box_meets : Addr
  d_Box_meets : FuncData
  f_Box_rests_on : Addr
  d_Box_rests_on : FuncData
  f_Box___contains__ : Addr
  d_Box___contains__ : FuncData
  f_Box___len__ : Addr
  d_Box___len__ : FuncData
  f_Box___eq__ : Addr
  d_Box___eq__ : FuncData
  C_Box : Addr
  p_Box_squares : Addr
structure Top (K : PySem.W.Frag) (mg : Str → Option Value) (A : Ads) : Prop where
  D_rest_table : DefAt K mg "rest_table" s_rest_table P_rest_table A.f_rest_table A.d_rest_table
  D_l_mix : DefAt K mg "_law_mix" s_l_mix P_l_mix A.f_l_mix A.d_l_mix
  D_l_hand : DefAt K mg "_law_hand" s_l_hand P_l_hand A.f_l_hand A.d_l_hand
  D_l_draw : DefAt K mg "_law_draw" s_l_draw P_l_draw A.f_l_draw A.d_l_draw
  D_l_squares : DefAt K mg "_law_squares" s_l_squares P_l_squares A.f_l_squares A.d_l_squares
  D_l_meets : DefAt K mg "_law_meets" s_l_meets P_l_meets A.f_l_meets A.d_l_meets
  D_l_rests : DefAt K mg "_law_rests" s_l_rests P_l_rests A.f_l_rests A.d_l_rests
  D_l_boxed : DefAt K mg "_law_boxed" s_l_boxed P_l_boxed A.f_l_boxed A.d_l_boxed
  D_l_box : DefAt K mg "_law_box" s_l_box P_l_box A.f_l_box A.d_l_box
  D_l_kept : DefAt K mg "_law_kept" s_l_kept P_l_kept A.f_l_kept A.d_l_kept
  D_l_alone : DefAt K mg "_law_alone" s_l_alone P_l_alone A.f_l_alone A.d_l_alone
  D_law : DefAt K mg "law" s_law P_law A.f_law A.d_law
  D_Box___init__ : MetAt K "__init__" "Box.__init__" s_Box___init__ P_Box___init__ A.f_Box___init__ A.d_Box___init__
  D_Box_squares : MetAt K "squares" "Box.squares" s_Box_squares P_Box_squares A.f_Box_squares A.d_Box_squares
  D_Box_meets : MetAt K "meets" "Box.meets" s_Box_meets P_Box_meets A.f_Box_meets A.d_Box_meets
  D_Box_rests_on : MetAt K "rests_on" "Box.rests_on" s_Box_rests_on P_Box_rests_on A.f_Box_rests_on A.d_Box_rests_on
  D_Box___contains__ : MetAt K "__contains__" "Box.__contains__" s_Box___contains__ P_Box___contains__ A.f_Box___contains__ A.d_Box___contains__
  D_Box___len__ : MetAt K "__len__" "Box.__len__" s_Box___len__ P_Box___len__ A.f_Box___len__ A.d_Box___len__
  D_Box___eq__ : MetAt K "__eq__" "Box.__eq__" s_Box___eq__ P_Box___eq__ A.f_Box___eq__ A.d_Box___eq__
  g_Box : mg "Box" = some (.ref A.C_Box)
  cl_Box : Cls K A.C_Box
  i1_Box : PySem.W.findIn K (.ref A.C_Box) "__class__" = some (some (.builtin "object.__class__"))
  i4_Box : PySem.W.mroIn K A.C_Box (.type "object") = some true
  ii_Box : PySem.W.kitOne K (.ref A.C_Box) (.ref A.C_Box) = some true
  it_str_Box : PySem.W.kitOne K (.type "str") (.ref A.C_Box) = some false
  it_int_Box : PySem.W.kitOne K (.type "int") (.ref A.C_Box) = some false
  it_bool_Box : PySem.W.kitOne K (.type "bool") (.ref A.C_Box) = some false
  it_NoneType_Box : PySem.W.kitOne K (.type "NoneType") (.ref A.C_Box) = some false
  it_list_Box : PySem.W.kitOne K (.type "list") (.ref A.C_Box) = some false
  it_tuple_Box : PySem.W.kitOne K (.type "tuple") (.ref A.C_Box) = some false
  it_dict_Box : PySem.W.kitOne K (.type "dict") (.ref A.C_Box) = some false
  ti_Box_int : PySem.W.kitOne K (.ref A.C_Box) (.type "int") = some false
  ti_Box_list : PySem.W.kitOne K (.ref A.C_Box) (.type "list") = some false
  ti_Box_tuple : PySem.W.kitOne K (.ref A.C_Box) (.type "tuple") = some false
  subt_Box : PySem.W.subIn K (.type "tuple") (.ref A.C_Box) = some false
  subl_Box : PySem.W.subIn K (.type "list") (.ref A.C_Box) = some false
  sub_Box : PySem.W.subIn K (.type "str") (.ref A.C_Box) = some false
  ne_Box : NeC K A.C_Box
  mk_Box : Mk K A.C_Box A.f_Box___init__
  n_Box_first : NoAttr K A.C_Box "first"
  n_Box_last : NoAttr K A.C_Box "last"
  n_Box_x : NoAttr K A.C_Box "x"
  n_Box_y : NoAttr K A.C_Box "y"
  n_Box_outs : NoAttr K A.C_Box "outs"
  n_Box_downs : NoAttr K A.C_Box "downs"
  p_Box_squares : PropOf K A.C_Box "squares" A.p_Box_squares A.f_Box_squares
  o_Box_meets : OwnM K A.C_Box "meets" A.f_Box_meets
  m_Box_meets : Meth K A.C_Box "meets" A.f_Box_meets
  o_Box_rests_on : OwnM K A.C_Box "rests_on" A.f_Box_rests_on
  m_Box_rests_on : Meth K A.C_Box "rests_on" A.f_Box_rests_on
  o_Box___contains__ : OwnM K A.C_Box "__contains__" A.f_Box___contains__
  m_Box___contains__ : Meth K A.C_Box "__contains__" A.f_Box___contains__
  o_Box___len__ : OwnM K A.C_Box "__len__" A.f_Box___len__
  m_Box___len__ : Meth K A.C_Box "__len__" A.f_Box___len__
  o_Box___eq__ : OwnM K A.C_Box "__eq__" A.f_Box___eq__
  m_Box___eq__ : Meth K A.C_Box "__eq__" A.f_Box___eq__
  i2 : PySem.W.specialIn K (.builtin "object.__class__") "__get__" = some (some (.builtin "getset_descriptor.__get__"))
  i3 : PySem.W.takesIn K (.builtin "object.__class__") = some true
  b_abs : mg "abs" = none
  b_enumerate : mg "enumerate" = none
  b_int : mg "int" = none
  b_isinstance : mg "isinstance" = none
  b_len : mg "len" = none
  b_list : mg "list" = none
  b_max : mg "max" = none
  b_property : mg "property" = none
  b_range : mg "range" = none
  b_tuple : mg "tuple" = none


section
variable {P : Program} {w : World} {K : PySem.W.Frag} {mg : Str → Option Value} {base : Heap} {AD : Ads}
def spMix : Sp := fun vs H Q _ => ∃ n t : Int, vs = [.int n, .int t] ∧ (0 ≤ n ∧ n < 2147483648) ∧ (0 ≤ t ∧ t < 1000) ∧ ∀ r : Int, 0 ≤ r → Q (.int r) H
theorem ok_l_mix (T : Top K mg AD) : FnOk P w K mg base CX0 1 AD.f_l_mix AD.d_l_mix P_l_mix spMix := by
  refine T.D_l_mix.F.ok sc_l_mix (fun vs H Q E h => ?_) (fun cdv A outer s H vs Q E hr h => ?_)
  · obtain ⟨n, t, rfl, _⟩ := h
    rfl
  · obtain ⟨n, t, rfl, hn, ht, q⟩ := h
    refine ⟨_, (pss_cons (ps_set (i := 2) sc_l_mix.nd rfl (Or.inl rfl) (pe_op op_mod (pe_callTy call_int1 (by rfl) T.b_int (by decide +kernel) (pa_cons (pe_op op_add (pe_op op_add (pe_op op_mul (pv 0) pe_int) (pe_op op_mul (pv 1) pe_int)) pe_int) pa_nil)) pe_int))
    (pss_cons (ps_set (i := 3) sc_l_mix.nd rfl (Or.inl rfl) (pe_op op_mod (pe_callTy call_int1 (by rfl) T.b_int (by decide +kernel) (pa_cons (pe_op op_add (pe_op op_add (pe_op op_mul (pv 2) (pv 2)) (pe_op op_mul (pe_op op_fdiv (pv 2) pe_int) pe_int)) (pe_op op_mul (pv 1) pe_int)) pa_nil)) pe_int))
    (pss_one (ps_ret (pe_op op_fdiv (pe_op op_mod (pe_callTy call_int1 (by rfl) T.b_int (by decide +kernel) (pa_cons (pe_op op_add (pe_op op_fdiv (pe_op op_mul (pv 3) (pv 3)) pe_int) (pv 2)) pa_nil)) pe_int) pe_int))))), ?_⟩
    walk_at "go"
    exact q _ (by omega)
/-- the cells' list stands where it stood -/
def Hl (H : Hp) (a l : Addr) : Prop := ∃ rest, H a = some (.lst (.ref l :: rest))
structure ButH (a : Addr) (H H' : Hp) : Prop where
  but : But a H H'
  hl : ∀ l, Hl H a l → Hl H' a l
theorem ButH.of {a l : Addr} {H H' : Hp} {r0 r1 : List V} (ea : H a = some (.lst (.ref l :: r0))) (b : But a H H') (e' : H' a = some (.lst (.ref l :: r1))) : ButH a H H' := ⟨b, fun l' ⟨r, e⟩ => by
  rw [ea] at e
  cases e
  exact ⟨_, e'⟩⟩
theorem ButH.refl (a : Addr) (H : Hp) : ButH a H H := ⟨But.refl _ _, fun _ h => h⟩
theorem ButH.trans {a : Addr} {H H1 H2 : Hp} (x : ButH a H H1) (y : ButH a H1 H2) : ButH a H H2 := ⟨x.but.trans y.but, fun l h => y.hl l (x.hl l h)⟩
theorem ButH.sm {a : Addr} {H H1 H2 : Hp} (x : ButH a H H1) (s : Same H1 H2) : ButH a H H2 := ⟨fun b o n h => s b o (x.but b o n h), fun l h => let ⟨r, e⟩ := x.hl l h; ⟨r, s _ _ e⟩⟩
def spDraw : Sp := fun vs H Q _ => ∃ (a : Addr) (m : Int), vs = [.ref a, .int m] ∧ HandOk H a ∧ CDivW 0 m ∧ ∀ (d : Int) H', 0 ≤ d → d < m → ButH a H H' → HandOk H' a → Q (.int d) H'
/-! the rest of a draw: from the pending number on -/
set_option hygiene false in
local macro_rules | `(tactic| walk_at "tail") => `(tactic| (
    walk_at "go"
    refine ite2 (fun e => ?_) (fun e => ?_)
    · have e0 := of_decide_eq_true e
      walk_at "go"
      refine And.intro hm ?_
      walk_at "go"
      refine And.intro hm.1 ?_
      refine q _ _ (Int.emod_nonneg _ (by have := hm.1; omega)) (Int.emod_lt_of_pos _ hm.1) (ButH.of ea (But.upd hb) upd_same) (HandOk.mk hal el (But.upd hb) upd_same hp hl hc (Int.ediv_nonneg (by omega) (by have := hm.1; omega)) ht)
    · walk_at "go"
      refine ⟨_, _, rfl, ⟨by omega, by omega⟩, ⟨by omega, by omega⟩, fun r hr0 => ?_⟩
      walk_at "go"
      refine And.intro hm.1 ?_
      refine q _ _ (Int.emod_nonneg _ (by have := hm.1; omega)) (Int.emod_lt_of_pos _ hm.1) (ButH.of ea (But.upd hb) upd_same) (HandOk.mk hal el (But.upd hb) upd_same hp hl hc (by omega) (by omega))))

theorem ok_l_draw (T : Top K mg AD) : FnOk P w K mg base CX0 2 AD.f_l_draw AD.d_l_draw P_l_draw spDraw := by
  refine T.D_l_draw.F.ok sc_l_draw (fun vs H Q E h => ?_) (fun cdv A outer s H vs Q E hr h => ?_)
  · obtain ⟨n, t, rfl, _⟩ := h
    rfl
  · obtain ⟨a, m, rfl, hh, hm, q⟩ := h
    refine ⟨_, (pss_cons (ps_if (PW.pt (pw_and (pt_cmpR op_eq (pe_ix (ix_listK (K := K) rfl) (pv 0) pe_int (fun _ _ => rfl)) pe_int (nomark _)) (pw_and1 (pt_cmpR op_lt (pe_ix (ix_listK (K := K) rfl) (pv 0) pe_int (fun _ _ => rfl)) (pe_callB (call_lenQ (K := K) rfl) (by rfl) T.b_len (by decide +kernel) (pa_cons (pe_ix (ix_listK (K := K) rfl) (pv 0) pe_int (fun _ _ => rfl)) pa_nil)) (nomark _)))))
    (pss_cons (ps_set (i := 2) sc_l_draw.nd rfl (Or.inl rfl) (pe_ix (ix_listK (K := K) rfl) (pe_ix (ix_listK (K := K) rfl) (pv 0) pe_int (fun _ _ => rfl)) (pe_ix (ix_listK (K := K) rfl) (pv 0) pe_int (fun _ _ => rfl)) (fun _ _ => rfl)))
    (pss_cons (ps_asg (pe_op op_add (pe_ix (ix_listK (K := K) rfl) (pv 0) pe_int (fun _ _ => rfl)) pe_int) (pg_sub (pv 0) pe_int set_list))
    (pss_cons (ps_if (pt_cmpR op_lt (pv 2) (pe_op op_pow pe_int pe_int) (nomark _))
    (pss_one (ps_ret (pe_op op_mod (pe_callTy call_int1 (by rfl) T.b_int (by decide +kernel) (pa_cons (callD T.D_l_mix (ok_l_mix T) hr (pa_cons (pe_op op_mod (pe_callTy call_int1 (by rfl) T.b_int (by decide +kernel) (pa_cons (pv 2) pa_nil)) pe_int) (pa_cons (pe_ix (ix_listK (K := K) rfl) (pv 0) pe_int (fun _ _ => rfl)) pa_nil))) pa_nil)) (pv 1))))
    pss_nil)
    (pss_one (ps_asg (pv 2) (pg_sub (pv 0) pe_int set_list))))))
    pss_nil)
    (pss_cons (ps_if (pt_cmpR op_gt (pe_ix (ix_listK (K := K) rfl) (pv 0) pe_int (fun _ _ => rfl)) pe_int (nomark _))
    (pss_cons (ps_set (i := 3) sc_l_draw.nd rfl (Or.inl rfl) (pe_ix (ix_listK (K := K) rfl) (pv 0) pe_int (fun _ _ => rfl)))
    (pss_cons (ps_asg (pe_op op_fdivW (pv 3) (pv 1)) (pg_sub (pv 0) pe_int set_list))
    (pss_one (ps_ret (pe_op op_mod (pe_callTy call_int1 (by rfl) T.b_int (by decide +kernel) (pa_cons (pv 3) pa_nil)) (pv 1))))))
    pss_nil)
    (pss_cons (ps_asg (pe_op op_mod (pe_callTy call_int1 (by rfl) T.b_int (by decide +kernel) (pa_cons (pe_op op_add (pe_ix (ix_listK (K := K) rfl) (pv 0) pe_int (fun _ _ => rfl)) pe_int) pa_nil)) pe_int) (pg_sub (pv 0) pe_int set_list))
    (pss_one (ps_ret (pe_op op_mod (pe_callTy call_int1 (by rfl) T.b_int (by decide +kernel) (pa_cons (callD T.D_l_mix (ok_l_mix T) hr (pa_cons (pe_ix (ix_listK (K := K) rfl) (pv 0) pe_int (fun _ _ => rfl)) (pa_cons (pe_ix (ix_listK (K := K) rfl) (pv 0) pe_int (fun _ _ => rfl)) pa_nil))) pa_nil)) (pv 1))))))), ?_⟩
    obtain ⟨l, cells, pos, pend, tot, ea, el, hp, hl, hc, hpe, ht⟩ := id hh
    have hal : a ≠ l := by
      intro e
      subst e
      rw [ea] at el
      cases cells with
      | nil => cases el
      | cons c r => cases el
    obtain ⟨cn, hcn⟩ : ∃ cn : Nat, pos = (cn : Int) := ⟨pos.toNat, by omega⟩
    subst hcn
    walk_at "go"
    refine ite2 (fun e => ?_) (fun e => ?_)
    · have e0 : pend = 0 := V.int.inj (of_decide_eq_true e)
      subst e0
      walk_at "go"
      refine ite2 (fun e2 => ?_) (fun e2 => ?_)
      · have e3 := of_decide_eq_true e2
        rw [List.length_map] at e3
        have e4 : cn < cells.length := by omega
        have hce : 0 ≤ cells[cn] := hc _ (List.getElem_mem e4)
        walk_at "go"
        refine ⟨_, _, _, _, rfl, rfl, SqL.of el, atI_nat (j := cn) (v := .int cells[cn]) (by simp [e4]), ?_⟩
        walk_at "go"
        refine ite2 (fun e5 => ?_) (fun e5 => ?_)
        · walk_at "go"
          refine ⟨_, _, rfl, ⟨by omega, by omega⟩, ⟨by omega, by omega⟩, fun r hr0 => ?_⟩
          walk_at "go"
          refine And.intro hm.1 ?_
          exact q _ _ (Int.emod_nonneg _ (by have := hm.1; omega)) (Int.emod_lt_of_pos _ hm.1) (ButH.of ea (But.upd (But.refl a H)) upd_same) (HandOk.mk hal el (But.upd (But.refl a H)) upd_same ⟨by omega, by omega⟩ hl hc (by omega) ht)
        · walk_at "go"
          have hb : But a H (upd (upd H a (.lst [.ref l, .int (cn + 1), .int 0, .int tot])) a (.lst [.ref l, .int (cn + 1), .int cells[cn], .int tot])) := But.upd (But.upd (But.refl a H))
          have hp' : 0 ≤ (cn : Int) + 1 ∧ (cn : Int) + 1 ≤ 63 := ⟨by omega, by omega⟩
          clear hp
          have hp := hp'
          walk_at "tail"
      · have hb := But.refl a H
        walk_at "go"
        refine ⟨_, _, rfl, ⟨by omega, by omega⟩, ⟨by omega, by omega⟩, fun r hr0 => ?_⟩
        walk_at "go"
        refine And.intro hm.1 ?_
        refine q _ _ (Int.emod_nonneg _ (by have := hm.1; omega)) (Int.emod_lt_of_pos _ hm.1) (ButH.of ea (But.upd hb) upd_same) (HandOk.mk hal el (But.upd hb) upd_same hp hl hc (by omega) (by omega))
    · have hb := But.refl a H
      walk_at "tail"

def spHand (K : PySem.W.Frag) : Sp := fun vs H Q _ => ∃ (a : Addr) (ns : List Int), vs = [.ref a] ∧ SqL K H a (ns.map V.int) ∧ ns.length ≤ 63 ∧ ∀ p H', Same H H' → H p = none → HandOk H' p → Q (.ref p) H'
theorem ok_l_hand (T : Top K mg AD) : FnOk P w K mg base CX0 1 AD.f_l_hand AD.d_l_hand P_l_hand (spHand K) := by
  refine T.D_l_hand.F.ok sc_l_hand (fun vs H Q E h => ?_) (fun cdv A outer s H vs Q E hr h => ?_)
  · obtain ⟨n, t, rfl, _⟩ := h
    rfl
  · obtain ⟨a, ns, rfl, hS, hlen, q⟩ := h
    refine ⟨_, (pss_cons (ps_set (i := 1) sc_l_hand.nd rfl (Or.inl rfl) pe_int)
    (pss_cons (ps_for PassesOwn.never rfl (pi_enum (by rfl) T.b_enumerate (pa_cons (pv 0) pa_nil)) (pg_tup (by rfl) (pgs_cons (pg_name (i := 2) sc_l_hand.nd rfl (Or.inl rfl)) (pgs_cons (pg_name (i := 3) sc_l_hand.nd rfl (Or.inl rfl)) pgs_nil)))
    (pss_one (ps_set (i := 1) sc_l_hand.nd rfl (Or.inl rfl) (pe_op op_mod (pe_callTy call_int1 (by rfl) T.b_int (by decide +kernel) (pa_cons (pe_op op_add (pe_op op_mul (pv 1) pe_int) (pe_op op_mul (pe_callTy call_int1 (by rfl) T.b_int (by decide +kernel) (pa_cons (pv 3) pa_nil)) (pe_op op_add (pv 2) pe_int))) pa_nil)) pe_int))))
    (pss_one (ps_ret (pe_lst (pa_cons (pe_lc (own := [("_law_cell", 3)]) (g := (gName 3)) (tt := tYes) rfl sc_l_hand.nd (pi_list (pv 0)) (blkOk_by (N := N_l_hand) (sc := defScope s_l_hand) (by decide +kernel)) (fun _ _ _ _ _ => (pg_name (i := 3) sc_l_hand.nd rfl (by first | exact Or.inl rfl | exact Or.inr rfl))) (fun _ _ _ _ _ => pts_nil) (fun _ _ _ _ _ => (pe_callB call_abs (by rfl) T.b_abs (by decide +kernel) (pa_cons (pe_callTy call_int1 (by rfl) T.b_int (by decide +kernel) (pa_cons (pv 3) pa_nil)) pa_nil)))) (pa_cons pe_int (pa_cons pe_int (pa_cons (pv 1) pa_nil))))))))), ?_⟩
    walk_at "go"
    refine ⟨_, _, rfl, hS, ?_⟩
    refine for_it walk_enum (fun i σ H' => ∃ tot o2 o3, σ = [some (.ref a), some (.int tot), o2, o3] ∧ (0 ≤ tot ∧ tot < 2147483629) ∧ Same H H') ⟨0, none, none, rfl, by omega, Same.refl H⟩ (fun i σ H' hi ⟨_, _, _, _, _, s2⟩ => s2.seq hS) ?_ ?_
    · rintro i x σ H1 H2 hi ⟨tot, o2, o3, rfl, ht, s1⟩ ⟨T', x1, x2, rfl, hT, rfl, e1, e2⟩
      rw [List.length_map] at hi
      obtain rfl := Option.some.inj e1
      obtain rfl : V.int ns[i] = x2 := by simpa [hi] using e2
      refine ⟨T', [.int i, .int ns[i]], rfl, .inl (.inl upd_same), rfl, .int i, [.int ns[i]], rfl, .int ns[i], [], rfl, rfl, ?_⟩
      walk_at "go"
      exact ⟨_, _, _, rfl, ⟨by omega, by omega⟩, same_new s1 hT⟩
    · rintro σ H1 ⟨tot, o2, o3, rfl, ht, s1⟩
      walk_at "go"
      refine ⟨⟨_, s1.seq hS⟩, ?_⟩
      intro Dl hD
      refine lc_it (walk_list (xs := ns.map V.int)) (fun i H' => But Dl H1 H' ∧ H' Dl = some (.lst ((ns.take i).map fun z => V.int (if z < 0 then -z else z)))) ⟨But.upd (But.refl _ _), upd_same⟩ (fun i H' hi h => (s1.trans (same_but (Same.refl _) hD h.1)).seq hS) ?_ ?_
      · rintro i x H2 H3 hi ⟨b2, e2⟩ ⟨rfl, ex⟩
        rw [List.length_map] at hi
        obtain rfl : V.int ns[i] = x := by simpa [hi] using ex
        refine ⟨rfl, ?_⟩
        walk_at "go"
        refine ⟨_, e2, ?_, But.upd b2, ?_⟩
        · rw [List.length_map]
          exact small1000 (by have := List.length_take_le i ns; omega)
        · rw [upd_same, List.take_add_one, List.getElem?_eq_getElem hi, List.map_append]
          rfl
      · rintro H2 ⟨b2, e2⟩
        rw [List.length_map, List.take_length] at e2
        have s2 : Same H H2 := s1.trans (same_but (Same.refl _) hD b2)
        walk_at "go"
        refine ⟨(by show 4 ≤ sizeLine; decide), fun p hp => ?_⟩
        have hpd : Dl ≠ p := ne_of_none e2 hp
        refine q p _ (same_new s2 hp) (same_free s2 hp) ⟨Dl, ns.map fun z => if z < 0 then -z else z, 0, 0, tot, upd_same, ?_, by omega, by rw [List.length_map]; exact hlen, ?_, by omega, ht⟩
        · rw [upd_ne hpd, e2, List.map_map]
          rfl
        · intro c hc
          obtain ⟨z, _, rfl⟩ := List.mem_map.mp hc
          split <;> omega

end

/-! ### the hand -/
theorem HandOk.some {H : Hp} {a : Addr} (h : HandOk H a) : ∃ o, H a = some o := let ⟨_, _, _, _, _, e, _⟩ := h; ⟨_, e⟩
theorem HandOk.same {H H' : Hp} {a : Addr} (h : HandOk H a) (s : Same H H') : HandOk H' a := let ⟨l, cs, p, q, r, e, e2, z⟩ := h; ⟨l, cs, p, q, r, s _ _ e, s _ _ e2, z⟩
theorem HandOk.ne {H : Hp} {a b : Addr} (h : HandOk H a) (n : H b = none) : b ≠ a := fun z => by
  obtain ⟨o, e⟩ := h.some
  rw [← z, n] at e
  cases e
theorem HandOk.apart {H : Hp} {a r : Addr} (h : HandOk H a) (n : H r = none) : ∃ l, Hl H a l ∧ r ≠ l := by
  obtain ⟨l, cells, pos, pend, tot, e, e2, z⟩ := h
  exact ⟨l, ⟨_, e⟩, fun x => by rw [x, e2] at n; cases n⟩
theorem Hl.same {H H' : Hp} {a l : Addr} (h : Hl H a l) (s : Same H H') : Hl H' a l := let ⟨r, e⟩ := h; ⟨r, s _ _ e⟩
theorem HandOk.poke {H : Hp} {a l r : Addr} {o : HO} (h : HandOk H a) (hl : Hl H a l) (rl : r ≠ l) (ra : r ≠ a) : HandOk (upd H r o) a := by
  obtain ⟨l', cells, pos, pend, tot, e, e2, z⟩ := h
  obtain ⟨rest, e'⟩ := hl
  rw [e] at e'
  cases e'
  exact ⟨_, cells, pos, pend, tot, (upd_ne (Ne.symm ra)).trans e, (upd_ne (Ne.symm rl)).trans e2, z⟩

/-! ### comprehensions of three clauses, clause by clause -/
section
variable {prog : Program} {w : World} {A : Around} {R : Result → Shared → Prop} {env : Env} {it acc : Value}
abbrev nev : Value → Shared → Prop := fun _ _ => False
/-- one turn of a clause: what is wanted where nothing is left, and behind a turn (body: what a passed turn does) -/
def TurnC (prog : Program) (w : World) (A : Around) (env : Env) (t : Expr) (fs : List Expr) (it : Value) (body : (Shared → Prop) → Shared → Prop) (stop : Shared → Prop) (nxt : Shared → Prop) (s : Shared) : Prop :=
  wpAny (model prog w) A (pyNext it) (fun r s1 => match r with
    | none => stop s1
    | some v => wpAny (model prog w) A (letOwnedTupleGo t it v) (fun _ s2 => wpAny (model prog w) A (assign t env v) (fun _ s3 =>
        wpAny (model prog w) A (forIn fs true fun c r => if r = true then do let ok ← isTrue c env (eval c env); pure (ForInStep.yield ok) else pure (ForInStep.yield r)) (fun b s4 => if b = true then body nxt s4 else nxt s4) nev s3) nev s2) nev s1) nev s
/-- the loop at the depth k of the comprehension e goes by such turns -/
def LoopC (prog : Program) (w : World) (A : Around) (env : Env) (e : Expr) (k : Nat) (t : Expr) (fs : List Expr) (it acc : Value) (body : (Shared → Prop) → Shared → Prop) : Prop :=
  ∀ (R : Result → Shared → Prop) (J : Nat → Shared → Prop), (∀ n s, J n s → TurnC prog w A env t fs it body (fun s1 => R (.ok .next) s1) (fun s' => ∃ m, m < n ∧ J m s') s) → ∀ n s, J n s → codeAny (model prog w) A (.compLoop e k it acc env) R s
/-- a passed turn of a clause that is not the last -/
def bodyOut (prog : Program) (w : World) (A : Around) (env : Env) (e : Expr) (k : Nat) (i' : Expr) (acc : Value) : (Shared → Prop) → Shared → Prop := fun nxt s =>
  wpAny (model prog w) A (eval i' env) (fun x s1 => wpAny (model prog w) A (pyIter x) (fun it' s2 => codeAny (model prog w) A (.compStart e (k + 1) it' acc env) (fun r s' => match r with
    | .ok _ => nxt s'
    | .error _ => False) s2) nev s1) nev s
/-- .. of the last one -/
def bodyIn (prog : Program) (w : World) (A : Around) (env : Env) (elt : Expr) (acc : Value) : (Shared → Prop) → Shared → Prop := fun nxt s =>
  wpAny (model prog w) A (eval elt env) (fun x s1 => wpAny (model prog w) A (call (.builtin "list.append") [acc, x]) (fun _ s2 => nxt s2) nev s1) nev s
abbrev LC3 (elt t0 i0 t1 i1 t2 i2 : Expr) (f0 f1 f2 : List Expr) (scope : Scope) (pos : Pos) : Expr := .ListComp elt [⟨t0, i0, f0, 0⟩, ⟨t1, i1, f1, 0⟩, ⟨t2, i2, f2, 0⟩] scope pos
def goOut (e : Expr) (k : Nat) (t i i' : Expr) (fs : List Expr) (it acc : Value) (env : Env) : Sem Fin := do
  standAt i.pos
  match ← pyNext it with
  | none => pure (.done .next)
  | some u =>
    letOwnedTupleGo t it u
    assign t env u
    let mut fine := true
    for c in fs do
      if fine then fine ← isTrue c env (eval c env)
    if fine then
      let y ← eval i' env
      standAt i'.pos
      let y ← foldedSetIterable i' env y
      let _ ← runOwn (.compStart e (k + 1) (← holding [y] (pyIter y)) acc env) env
    again (.compLoop e k it acc env)
def goIn (e : Expr) (k : Nat) (t i elt : Expr) (fs : List Expr) (it acc : Value) (env : Env) : Sem Fin := do
  standAt i.pos
  match ← pyNext it with
  | none => pure (.done .next)
  | some u =>
    letOwnedTupleGo t it u
    assign t env u
    let mut fine := true
    for c in fs do
      if fine then fine ← isTrue c env (eval c env)
    if fine then
      (do let _ ← call (.builtin "list.append") [acc, ← eval elt env])
    again (.compLoop e k it acc env)
theorem go0_eq (elt t0 i0 t1 i1 t2 i2 : Expr) (f0 f1 f2 : List Expr) (scope : Scope) (pos : Pos) (it acc : Value) (env : Env) : compTurn (LC3 elt t0 i0 t1 i1 t2 i2 f0 f1 f2 scope pos) 0 it acc env = goOut (LC3 elt t0 i0 t1 i1 t2 i2 f0 f1 f2 scope pos) 0 t0 i0 i1 f0 it acc env := by rfl
theorem go1_eq (elt t0 i0 t1 i1 t2 i2 : Expr) (f0 f1 f2 : List Expr) (scope : Scope) (pos : Pos) (it acc : Value) (env : Env) : compTurn (LC3 elt t0 i0 t1 i1 t2 i2 f0 f1 f2 scope pos) 1 it acc env = goOut (LC3 elt t0 i0 t1 i1 t2 i2 f0 f1 f2 scope pos) 1 t1 i1 i2 f1 it acc env := by rfl
theorem go2_eq (elt t0 i0 t1 i1 t2 i2 : Expr) (f0 f1 f2 : List Expr) (scope : Scope) (pos : Pos) (it acc : Value) (env : Env) : compTurn (LC3 elt t0 i0 t1 i1 t2 i2 f0 f1 f2 scope pos) 2 it acc env = goIn (LC3 elt t0 i0 t1 i1 t2 i2 f0 f1 f2 scope pos) 2 t2 i2 elt f2 it acc env := by rfl
theorem mono0 {α : Type} {M : Model} {m : Sem α} {Q Q' : α → Shared → Prop} {E : Value → Shared → Prop} {s : Shared} (h : wpAny M A m Q nev s) (k : ∀ a s, Q a s → Q' a s) : wpAny M A m Q' E s := wpAny_mono h k fun _ _ z => z.elim
theorem loop_out {elt : Expr} {gs : List Comprehension} {scope : Scope} {pos : Pos} {k : Nat} {t i i' : Expr} {fs : List Expr} (eq : compTurn (.ListComp elt gs scope pos) k it acc env = goOut (.ListComp elt gs scope pos) k t i i' fs it acc env) (hs : ∀ y, foldedSetIterable i' env y = pure y) :
    LoopC prog w A env (.ListComp elt gs scope pos) k t fs it acc (bodyOut prog w A env (.ListComp elt gs scope pos) k i' acc) := by
  intro R J turn n s h
  refine codeAny_loop rfl J (fun m s1 h1 => ?_) n h
  show wpAny _ A ((compTurn (.ListComp elt gs scope pos) k it acc env).onRaise (fun y => do noteFrame y env; theTreesLotGoes y)) _ _ s1
  refine wpAny_noted ?_
  rw [eq]
  unfold goOut
  refine wpAny_bind (wpAny_standAt (wpAny_bind (mono0 (turn m s1 h1) fun r s2 h2 => ?_)))
  cases r with
  | none => exact wpAny_pure h2
  | some u =>
    refine wpAny_bind (mono0 h2 fun _ s3 h3 => wpAny_bind (mono0 h3 fun _ s4 h4 => wpAny_bind (mono0 h4 fun b s5 h5 => ?_)))
    cases b with
    | false => exact wpAny_pure ⟨rfl, h5⟩
    | true =>
      refine wpAny_bind (mono0 h5 fun y s6 h6 => wpAny_bind (wpAny_standAt (wpAny_bind (wpAny_of_eq (hs y) (wpAny_bind (wpAny_holding (mono0 h6 fun it' s7 h7 => ?_)))))))
      refine wpAny_bind (wpAny_runOwn ?_)
      rw [Around.mark_none]
      refine codeAny_mono h7 fun r s' z => ?_
      cases r with
      | error er => exact z.elim
      | ok f => first
        | exact wpAny_bind (wpAny_pure (wpAny_pure ⟨rfl, z⟩))
        | exact wpAny_pure ⟨rfl, z⟩
theorem loop_in {elt : Expr} {gs : List Comprehension} {scope : Scope} {pos : Pos} {k : Nat} {t i : Expr} {fs : List Expr} (eq : compTurn (.ListComp elt gs scope pos) k it acc env = goIn (.ListComp elt gs scope pos) k t i elt fs it acc env) :
    LoopC prog w A env (.ListComp elt gs scope pos) k t fs it acc (bodyIn prog w A env elt acc) := by
  intro R J turn n s h
  refine codeAny_loop rfl J (fun m s1 h1 => ?_) n h
  show wpAny _ A ((compTurn (.ListComp elt gs scope pos) k it acc env).onRaise (fun y => do noteFrame y env; theTreesLotGoes y)) _ _ s1
  refine wpAny_noted ?_
  rw [eq]
  unfold goIn
  refine wpAny_bind (wpAny_standAt (wpAny_bind (mono0 (turn m s1 h1) fun r s2 h2 => ?_)))
  cases r with
  | none => exact wpAny_pure h2
  | some u =>
    refine wpAny_bind (mono0 h2 fun _ s3 h3 => wpAny_bind (mono0 h3 fun _ s4 h4 => wpAny_bind (mono0 h4 fun b s5 h5 => ?_)))
    cases b with
    | false => exact wpAny_pure ⟨rfl, h5⟩
    | true => exact wpAny_bind (wpAny_bind (mono0 h5 fun y s6 h6 => wpAny_bind (mono0 h6 fun _ s7 h7 => wpAny_pure (wpAny_pure ⟨rfl, h7⟩))))
/-- the start of a clause behind the first -/
theorem start_ok {elt t0 i0 t1 i1 t2 i2 : Expr} {f0 f1 f2 : List Expr} {scope : Scope} {pos : Pos} {s : Shared} {k : Nat} (hk : k = 1 ∨ k = 2) (h0 : codeAny (model prog w) A (.compLoop (LC3 elt t0 i0 t1 i1 t2 i2 f0 f1 f2 scope pos) k it acc env) R s)
    (h : wpAny (model prog w) A (pyIter it) (fun it' s' => codeAny (model prog w) A (.compLoop (LC3 elt t0 i0 t1 i1 t2 i2 f0 f1 f2 scope pos) k it' acc env) R s') nev s) :
    codeAny (model prog w) A (.compStart (LC3 elt t0 i0 t1 i1 t2 i2 f0 f1 f2 scope pos) k it acc env) R s := by
  refine codeAny_of_tree ?_
  rcases hk with rfl | rfl
  all_goals
    refine wpAny_notedAt (pos := theWindowsPlace) ?_
    unfold compStart
    show wpAny _ _ (ask >>= _) _ _ s
    refine wpAny_bind (wpAny_askSetting (wpAny_ite ?_))
    split
    · first
        | exact wpAny_pure (And.intro rfl h0)
        | exact wpAny_bind (wpAny_pure (wpAny_pure (And.intro rfl h0)))
    · refine wpAny_bind (wpAny_rule ?_)
      first
        | exact wpAny_bind (wpAny_standAt (wpAny_bind (mono0 h fun it' s' h' => wpAny_pure (And.intro rfl h'))))
        | (show wpAny _ _ (standAt _ >>= _) _ _ s; exact wpAny_bind (wpAny_standAt (wpAny_bind (mono0 h fun it' s' h' => wpAny_pure (And.intro rfl h')))))
end

/-! ### the clauses one within another -/
section
variable {Y : Cx}
theorem monoX {α : Type} {M : Model} {A : Around} {m : Sem α} {Q Q' : α → Shared → Prop} {E : Value → Shared → Prop} {s : Shared} (hx : Y.xe = nev) (h : wpAny M A m Q Y.xe s) (k : ∀ a s, Q a s → Q' a s) : wpAny M A m Q' E s := mono0 (by rw [hx] at h; exact h) k
/-- a passed turn, by its reading; vs: what the deeper clauses forget -/
def BodyR (Y : Cx) (body : L2.St → Hp → (Hp → Prop) → Prop) (run : (Shared → Prop) → Shared → Prop) (vs : List Nat) : Prop :=
  ∀ (pins : List (Addr × Obj)) (s : Shared) (σ : L2.St) (H : Hp) (Nx : Hp → Prop) (P : Shared → Prop), Inv Y pins σ H s → body σ H Nx → (∀ s' H', Inv Y pins (wipe σ vs) H' s' → Nx H' → P s') → run P s
def tLast (te : TE) (D : Addr) : L2.St → Hp → (Hp → Prop) → Prop := fun σ H Nx => te σ H fun y H' => ∃ acc, H' D = some (.lst acc) ∧ acc.length < sizeLine ∧ Nx (upd H' D (.lst (acc ++ [y])))
theorem body_last {elt : Expr} {te : TE} {D : Addr} (hx : Y.xe = nev) (he : PE Y elt te) : BodyR Y (tLast te D) (bodyIn Y.prog Y.w Y.A Y.env elt (.ref D)) [] := by
  intro pins s σ H Nx P I q k
  exact monoX hx (he.run pins s σ H _ I q) fun u s1 ⟨y, H1, I1, r1, acc, e, hz, nx⟩ => app_ok (X := Y) I1 e hz r1 fun s2 I2 => k s2 _ I2 nx
def tClause (wi : TI) (g : TG) (tt : TT) (vs : List Nat) (body : L2.St → Hp → (Hp → Prop) → Prop) : L2.St → Hp → (Hp → Prop) → Prop := fun σ H Nx => wi σ H fun J H1 => ∃ W : Nat → Nat → Hp → Prop, (∃ m, W 0 m H1) ∧ ∀ j m H, W j m H →
  (J.stop j H ∧ Nx H) ∨ (J.go j H ∧ ∃ N1 : Hp → Prop, (∀ H', N1 H' → ∃ m', m' < m ∧ W (j + 1) m' H') ∧ ∀ x H', J.yld j H x H' → g x (wipe σ vs) H' fun σ3 H3 => wipe σ3 vs = wipe σ vs ∧ tt σ3 H3 fun b H4 => if b = true then body σ3 H4 N1 else N1 H4)
theorem body_clause {e i' t : Expr} {fs : List Expr} {k : Nat} {D : Addr} {wi : TI} {g : TG} {tt : TT} {vs vs0 : List Nat} {body : L2.St → Hp → (Hp → Prop) → Prop} {run : (Shared → Prop) → Shared → Prop} (hx : Y.xe = nev) (hc : Y.calm = true) (hsub : ∀ i ∈ vs0, i ∈ vs)
    (hi : PI Y t i' wi) (hg : PG Y t g) (ht : PTs Y fs tt) (hb : BodyR Y body run vs0) (hl : ∀ it, LoopC Y.prog Y.w Y.A Y.env e (k + 1) t fs it (.ref D) run)
    (hst : ∀ it R s, codeAny (model Y.prog Y.w) Y.A (.compLoop e (k + 1) it (.ref D) Y.env) R s → wpAny (model Y.prog Y.w) Y.A (pyIter it) (fun it' s' => codeAny (model Y.prog Y.w) Y.A (.compLoop e (k + 1) it' (.ref D) Y.env) R s') nev s → codeAny (model Y.prog Y.w) Y.A (.compStart e (k + 1) it (.ref D) Y.env) R s) :
    BodyR Y (tClause wi g tt vs body) (bodyOut Y.prog Y.w Y.A Y.env e k i' (.ref D)) vs := by
  intro pins s σ H Nx P I q fin
  refine monoX hx (hi.run pins s σ H _ I q) fun xv s1 h1 => monoX hx h1 fun itv s2 h2 => ?_
  obtain ⟨it, fp, tn, J, H2, rfl, I2, T, st2, f2, W, ⟨m0, w0⟩, turn⟩ := h2
  have stat : ∀ {H' : Hp}, (∀ b ∈ fp, H' b = none) → ∀ b ∈ fp, FpOk Y pins H' b := fun no b hb => ⟨no b hb, (f2 b hb).2⟩
  have loop : codeAny (model Y.prog Y.w) Y.A (.compLoop e (k + 1) (.ref it) (.ref D) Y.env) (fun r s' => match r with
      | .ok _ => P s'
      | .error _ => False) s2 := by
    refine hl (.ref it) _ (fun m s' => ∃ j H', Inv Y pins (wipe σ vs) H' s' ∧ tn j s'.heap ∧ (∀ b ∈ fp, H' b = none) ∧ W j m H') ?_ m0 s2 ⟨0, H2, I2.weak (wipe_length _ _) (fun j v z => (wipe_some z).1), st2, fun b hb => (f2 b hb).1, w0⟩
    rintro m s3 ⟨j, H3, I3, st3, no3, w3⟩
    unfold TurnC
    rcases turn j m H3 w3 with ⟨stop, nx⟩ | ⟨go, N1, hN, step⟩
    · refine mono0 (T.done Y rfl rfl rfl hc j _ s3 (wipe σ vs) H3 nev I3 (stat no3) st3 stop) fun r s4 ⟨er, I4⟩ => ?_
      subst er
      exact fin s4 H3 I4 nx
    · refine mono0 (T.item Y rfl rfl rfl hc j _ s3 (wipe σ vs) H3 nev I3 (stat no3) st3 go) fun r s4 ⟨u, er, h4⟩ => ?_
      subst er
      refine mono0 h4 fun _ s5 ⟨x, H5, I5, r5, y5, st5, no5⟩ => ?_
      have pinned := I5.pinned (stat no5) (T.obj _ _ st5)
      refine monoX hx (hg.run _ s5 (wipe σ vs) H5 x u _ pinned r5 (step x H5 y5)) fun _ s6 ⟨σ6, H6, I6, wip, q6⟩ => ?_
      refine monoX hx (ht.run _ s6 σ6 H6 _ I6 q6) fun b s7 ⟨H7, I7, q7⟩ => ?_
      have back : ∀ {σ' : L2.St} {s' : Shared} {H' : Hp}, Inv Y (pins ++ pinsAt fp s5.heap) σ' H' s' → (wipe σ vs).length = σ'.length → (∀ (i : Nat) v, (wipe σ vs)[i]? = some (some v) → σ'[i]? = some (some v)) → N1 H' →
          ∃ m', m' < m ∧ ∃ j H', Inv Y pins (wipe σ vs) H' s' ∧ tn j s'.heap ∧ (∀ b ∈ fp, H' b = none) ∧ W j m' H' := fun {σ' s' H'} I' len known nx => by
        obtain ⟨m', lt, w'⟩ := hN H' nx
        have held : ∀ b ∈ fp, ∀ o, s5.heap.get? b = some o → s'.heap.get? b = some o ∧ H' b = none := fun b hb o z =>
          have p := I'.pin (b, o) (List.mem_append_right _ (List.mem_append_right _ (mem_pinsAt hb z)))
          ⟨p.1, p.2.1⟩
        refine ⟨m', lt, j + 1, H', I'.unpinned.weak len known, T.keep _ _ _ st5 fun b hb o z => (held b hb o z).1, fun b hb => ?_, w'⟩
        obtain ⟨o, z, _⟩ := T.obj _ _ st5 b hb
        exact (held b hb o z).2
      cases b with
      | false =>
        simp only [Bool.false_eq_true, if_false] at q7 ⊢
        exact back I7 (by rw [← wip, wipe_length]) (fun i v z => by rw [← wip] at z; exact (wipe_some z).1) q7
      | true =>
        simp only [if_true] at q7 ⊢
        refine hb _ s7 σ6 H7 N1 _ I7 q7 fun s8 H8 I8 nx => back I8 ?_ (fun i v z => ?_) nx
        · rw [← wip, wipe_length, wipe_length]
        · rw [← wip] at z
          obtain ⟨z1, z2⟩ := wipe_some z
          rw [wipe_out fun y => z2 (hsub i y)]
          exact z1
  exact hst _ _ _ loop (T.self Y.A 0 _ _ _ st2 loop)
end

/-! ### a list of three clauses -/
section
variable {X : Cx}
def tLc3 (wi : TI) (g : TG) (tt : TT) (vs : List Nat) (body : Addr → L2.St → Hp → (Hp → Prop) → Prop) : TE := fun σ H Q => wi σ H fun J H1 => ∀ D, H1 D = none → ∃ W : Nat → Nat → Hp → Prop, (∃ m, W 0 m (upd H1 D (.lst []))) ∧ ∀ j m H, W j m H →
  (J.stop j H ∧ Q (.ref D) H) ∨ (J.go j H ∧ ∃ N1 : Hp → Prop, (∀ H', N1 H' → ∃ m', m' < m ∧ W (j + 1) m' H') ∧ ∀ x H', J.yld j H x H' → g x (wipe σ vs) H' fun σ3 H3 => wipe σ3 vs = wipe σ vs ∧ tt σ3 H3 fun b H4 => if b = true then body D σ3 H4 N1 else N1 H4)
abbrev Blk (X : Cx) (scope : Scope) (p : Shared → Hp → Addr → List (Str × Addr) → List Addr → Prop) : Prop := ∀ (s : Shared) (H : Hp) (C : Addr) (cl : List (Str × Addr)) (fp : List Addr), p s H C cl fp
theorem lc3_run {pins : List (Addr × Obj)} {s : Shared} {σ : L2.St} {H : Hp} {Q : VK} {elt t0 i0 t1 i1 t2 i2 : Expr} {f0 f1 f2 : List Expr} {scope : Scope} {own : List (Str × Nat)} {pos pos' : Pos} {wi : TI} {g : TG} {tt : TT} {vs1 : List Nat} {body : Addr → L2.St → Hp → (Hp → Prop) → Prop}
    {use : Option (Value → Sem Unit)} {Qf : Value → Shared → Prop} (hc : X.calm = true) (hN : X.N.Nodup) (I : L2.Inv X pins σ H s) (hi : PI X t0 i0 wi) (ok : BlkOk X.N X.env.scope scope own) (hsub : ∀ i ∈ vs1, i ∈ own.map (·.2))
    (hg : Blk X scope fun s H C cl fp => PG (X.blk s H scope (compEnvC scope cl C X.env) fp) t0 g) (ht : Blk X scope fun s H C cl fp => PTs (X.blk s H scope (compEnvC scope cl C X.env) fp) f0 tt)
    (hb : ∀ D : Addr, Blk X scope fun s H C cl fp => BodyR (X.blk s H scope (compEnvC scope cl C X.env) fp) (body D) (bodyOut X.prog X.w X.A (compEnvC scope cl C X.env) (LC3 elt t0 i0 t1 i1 t2 i2 f0 f1 f2 scope pos) 0 i1 (.ref D)) vs1)
    (hs : ∀ y, foldedSetIterable i0 X.env y = pure y) (hs1 : ∀ env y, foldedSetIterable i1 env y = pure y)
    (h : tLc3 wi g tt (own.map (·.2)) body σ H Q)
    (hend : ∀ D C s' m H', L2.Inv X pins σ H' s' → Q (.ref D) H' → s'.heap.Ns C m → FpOk X pins H' C → compPost (model X.prog X.w) X.A X.xe use Qf (.ref D) C (.ok .next) s') :
    wpAny (model X.prog X.w) X.A (comprehension (LC3 elt t0 i0 t1 i1 t2 i2 f0 f1 f2 scope pos) scope X.env pos' (newList []) false (eval i0 X.env) use) Qf X.xe s := by
  have frees : ∀ z ∈ scope.names, z.2 = .free → ∃ c, X.env.cells.lookup z.1 = some c := fun z hz ez => (ok.free z hz ez).elim (fun k => I.ok.has _ (.inl k)) fun k => I.ok.has _ (.inr k)
  refine wpAny_comprehension_free (use := use) rfl hs (closure_ok frees) ok.kind (fun z hz ez => by rw [ok.uniq z hz, ez]) (thn (hi.run pins s σ H _ I h) fun _ sa ha => thn ha fun _ sb hb2 => ?_)
  obtain ⟨it, fp, tn, J, Hb, rfl, Ib, T, stb, fb, q⟩ := hb2
  refine wpAny_newObj_type (newEnv_comp ?_) (show 0 ≤ sizeLine by decide)
  generalize eD : sb.heap.objs.size = D
  obtain ⟨W, ⟨m0, w0⟩, turn⟩ := q D (Ib.hok.fresh (Nat.le_of_eq eD))
  generalize ec : ({ sb with heap := sb.heap.push { cls := .type "list", data := .seq ([] : List Value).toArray } } : Shared) = sc
  have Ic : L2.Inv X pins σ (upd Hb D (.lst [])) sc := by
    rw [← ec]
    refine Ib.laid (t' := sb.toks) (fun _ _ z => Heap.get?_push_of_some _ z) (Nat.le_of_eq eD) ⟨Nat.zero_le _, [], 0, .nil, ?_⟩
    rw [← eD]
    exact Heap.get?_push_size _ rfl
  have hc3 : sc.heap = sb.heap.push { cls := .type "list", data := .seq ([] : List Value).toArray } := by rw [← ec]
  have low : ∀ b ∈ fp, b < sb.heap.objs.size := fun b hb3 => by
    obtain ⟨o, z, _⟩ := T.obj _ _ stb b hb3
    exact Heap.lt_size z
  have fc : ∀ b ∈ fp, FpOk X pins (upd Hb D (.lst [])) b ∧ b < sc.heap.objs.size := fun b hb3 => by
    have lt := low b hb3
    refine ⟨⟨?_, (fb b hb3).2⟩, by rw [hc3, Heap.size_push]; exact Nat.lt_succ_of_lt lt⟩
    rw [upd_ne (by rw [← eD]; exact Nat.ne_of_lt lt)]
    exact (fb b hb3).1
  have stc : tn 0 sc.heap := T.keep _ _ _ stb fun b _ o z => by rw [hc3]; exact Heap.get?_push_of_some _ z
  have Id := block_start Ic ok hN fc
  have pg := hg sc (upd Hb D (.lst [])) sc.heap.objs.size (cellsFrom (sc.heap.objs.size + 1) scope.names (cloFrom X.env.cells scope.names [])) fp
  have pt := ht sc (upd Hb D (.lst [])) sc.heap.objs.size (cellsFrom (sc.heap.objs.size + 1) scope.names (cloFrom X.env.cells scope.names [])) fp
  have pb := hb D sc (upd Hb D (.lst [])) sc.heap.objs.size (cellsFrom (sc.heap.objs.size + 1) scope.names (cloFrom X.env.cells scope.names [])) fp
  dsimp only at pg pt pb
  show codeAny _ _ (.compStart (LC3 elt t0 i0 t1 i1 t2 i2 f0 f1 f2 scope pos) 0 (.ref it) (.ref D) (compEnvC scope (cellsFrom (sc.heap.objs.size + 1) scope.names (cloFrom X.env.cells scope.names [])) sc.heap.objs.size X.env)) (compPost (model X.prog X.w) X.A X.xe use Qf (.ref D) sc.heap.objs.size) { sc with heap := pushCells (sc.heap.push { cls := .type "dict", data := .dict #[] }) scope.names }
  have nfp : ∀ b ∈ fp, (upd Hb D (.lst [])) b = none := fun b hb3 => (fc b hb3).1.1
  generalize ece : compEnvC scope (cellsFrom (sc.heap.objs.size + 1) scope.names (cloFrom X.env.cells scope.names [])) sc.heap.objs.size X.env = ce at Id pg pt pb ⊢
  have cL : ce.locals = sc.heap.objs.size := by subst ece; rfl
  generalize eHc : upd Hb D (.lst []) = Hc at Ic Id pg pt pb w0 nfp fc
  generalize ed : ({ sc with heap := pushCells (sc.heap.push { cls := .type "dict", data := .dict #[] }) scope.names } : Shared) = sd at Id ⊢
  have std : tn 0 sd.heap := T.keep _ _ _ stc fun b _ o z => by rw [← ed]; exact pushCells_keeps _ _ _ _ (Heap.get?_push_of_some _ z)
  have stat : ∀ {σ' : L2.St} {H' : Hp} {s' : Shared}, L2.Inv (X.blk sc Hc scope ce fp) [] σ' H' s' → (∀ b ∈ fp, H' b = none) → ∀ b ∈ fp, FpOk (X.blk sc Hc scope ce fp) [] H' b := fun {σ' H' s'} I' no b hb3 =>
    ⟨no b hb3, (I'.ok.exf b hb3).1, I'.ok.exfs b hb3, .inl hb3, fun x c z => (I'.ok.exf b hb3).2 x c z, fun p hp => absurd (show p ∈ ([] : List (Addr × Obj)) ++ [] from hp) (by simp)⟩
  have loop : codeAny (model X.prog X.w) X.A (.compLoop (LC3 elt t0 i0 t1 i1 t2 i2 f0 f1 f2 scope pos) 0 (.ref it) (.ref D) ce) (compPost (model X.prog X.w) X.A X.xe use Qf (.ref D) sc.heap.objs.size) sd := by
    refine loop_out (go0_eq _ _ _ _ _ _ _ _ _ _ _ _ _ _ _) (hs1 ce) _ (fun m s' => ∃ j H', L2.Inv (X.blk sc Hc scope ce fp) [] (wipe σ (own.map (·.2))) H' s' ∧ tn j s'.heap ∧ (∀ b ∈ fp, H' b = none) ∧ W j m H') ?_ m0 sd ⟨0, Hc, Id, std, nfp, w0⟩
    rintro m s3 ⟨j, H3, I3, st3, no3, w3⟩
    unfold TurnC
    rcases turn j m H3 w3 with ⟨stop, qq⟩ | ⟨go, N1, hN1, step⟩
    · refine mono0 (T.done (X.blk sc Hc scope ce fp) rfl rfl rfl hc j [] s3 _ H3 nev I3 (stat I3 no3) st3 stop) fun r s4 ⟨er, I4⟩ => ?_
      subst er
      have I5 : L2.Inv X pins σ H3 s4 := Ic.call' (ch := fp) I4.os I4.base I4.hok I4.bare fun b hb3 => ⟨(fc b hb3).1.2.2.2.1, (fc b hb3).1.2.1, (fc b hb3).1.2.2.2.2.1, (fc b hb3).1.2.2.2.2.2⟩
      have nC : H3 ce.locals = none := I4.free
      obtain ⟨mm, hn, _⟩ := I4.loc
      have hn : s4.heap.Ns ce.locals mm := hn
      rw [cL] at nC hn
      exact hend D sc.heap.objs.size s4 mm H3 I5 qq hn (Ic.fpOk (Nat.le_refl _) nC)
    · refine mono0 (T.item (X.blk sc Hc scope ce fp) rfl rfl rfl hc j [] s3 _ H3 nev I3 (stat I3 no3) st3 go) fun r s4 ⟨u, er, h4⟩ => ?_
      subst er
      refine mono0 h4 fun _ s5 ⟨x, H5, I5, r5, y5, st5, no5⟩ => ?_
      have pinned := I5.pinned (stat I5 no5) (T.obj _ _ st5)
      refine mono0 (pg.run _ s5 _ H5 x u _ pinned r5 (step x H5 y5)) fun _ s6 ⟨σ6, H6, I6, wip, q6⟩ => ?_
      refine mono0 (pt.run _ s6 σ6 H6 _ I6 q6) fun b s7 ⟨H7, I7, q7⟩ => ?_
      have back : ∀ {σ' : L2.St} {s' : Shared} {H' : Hp}, L2.Inv (X.blk sc Hc scope ce fp) ([] ++ pinsAt fp s5.heap) σ' H' s' → (wipe σ (own.map (·.2))).length = σ'.length → (∀ (i : Nat) v, (wipe σ (own.map (·.2)))[i]? = some (some v) → σ'[i]? = some (some v)) → N1 H' →
          ∃ m', m' < m ∧ ∃ j H', L2.Inv (X.blk sc Hc scope ce fp) [] (wipe σ (own.map (·.2))) H' s' ∧ tn j s'.heap ∧ (∀ b ∈ fp, H' b = none) ∧ W j m' H' := fun {σ' s' H'} I' len known nx => by
        obtain ⟨m', lt, w'⟩ := hN1 H' nx
        have held : ∀ b ∈ fp, ∀ o, s5.heap.get? b = some o → s'.heap.get? b = some o ∧ H' b = none := fun b hb3 o z =>
          have p := I'.pin (b, o) (List.mem_append_right _ (List.mem_append_right _ (mem_pinsAt hb3 z)))
          ⟨p.1, p.2.1⟩
        refine ⟨m', lt, j + 1, H', (I'.unpinned (pins := [])).weak len known, T.keep _ _ _ st5 fun b hb3 o z => (held b hb3 o z).1, fun b hb3 => ?_, w'⟩
        obtain ⟨o, z, _⟩ := T.obj _ _ st5 b hb3
        exact (held b hb3 o z).2
      cases b with
      | false =>
        simp only [Bool.false_eq_true, if_false] at q7 ⊢
        exact back I7 (by rw [← wip, wipe_length]) (fun i v z => by rw [← wip] at z; exact (wipe_some z).1) q7
      | true =>
        simp only [if_true] at q7 ⊢
        refine pb _ s7 σ6 H7 N1 _ I7 q7 fun s8 H8 I8 nx => back I8 ?_ (fun i v z => ?_) nx
        · rw [← wip, wipe_length, wipe_length]
        · rw [← wip] at z
          obtain ⟨z1, z2⟩ := wipe_some z
          rw [wipe_out fun y => z2 (hsub i y)]
          exact z1
  exact codeAny_compStart_list loop (T.self X.A 0 _ _ _ std loop)
theorem pe_lc3 {elt t0 i0 t1 i1 t2 i2 : Expr} {f0 f1 f2 : List Expr} {scope : Scope} {own : List (Str × Nat)} {pos : Pos} {wi wi1 wi2 : TI} {g g1 g2 : TG} {tt tt1 tt2 : TT} {te : TE} (vs1 vs2 : List Nat) (hc : X.calm = true) (hN : X.N.Nodup) (hi : PI X t0 i0 wi) (ok : BlkOk X.N X.env.scope scope own)
    (hsub : ∀ i ∈ vs1, i ∈ own.map (·.2)) (hsub2 : ∀ i ∈ vs2, i ∈ vs1)
    (hg : Blk X scope fun s H C cl fp => PG (X.blk s H scope (compEnvC scope cl C X.env) fp) t0 g) (ht : Blk X scope fun s H C cl fp => PTs (X.blk s H scope (compEnvC scope cl C X.env) fp) f0 tt)
    (hi1 : Blk X scope fun s H C cl fp => PI (X.blk s H scope (compEnvC scope cl C X.env) fp) t1 i1 wi1) (hg1 : Blk X scope fun s H C cl fp => PG (X.blk s H scope (compEnvC scope cl C X.env) fp) t1 g1) (ht1 : Blk X scope fun s H C cl fp => PTs (X.blk s H scope (compEnvC scope cl C X.env) fp) f1 tt1)
    (hi2 : Blk X scope fun s H C cl fp => PI (X.blk s H scope (compEnvC scope cl C X.env) fp) t2 i2 wi2) (hg2 : Blk X scope fun s H C cl fp => PG (X.blk s H scope (compEnvC scope cl C X.env) fp) t2 g2) (ht2 : Blk X scope fun s H C cl fp => PTs (X.blk s H scope (compEnvC scope cl C X.env) fp) f2 tt2)
    (he : Blk X scope fun s H C cl fp => PE (X.blk s H scope (compEnvC scope cl C X.env) fp) elt te)
    (hs : ∀ y, foldedSetIterable i0 X.env y = pure y := by intro _; rfl) (hs1 : ∀ env y, foldedSetIterable i1 env y = pure y := by intro _ _; rfl) (hs2 : ∀ env y, foldedSetIterable i2 env y = pure y := by intro _ _; rfl) :
    PE X (.ListComp elt [⟨t0, i0, f0, 0⟩, ⟨t1, i1, f1, 0⟩, ⟨t2, i2, f2, 0⟩] scope pos) (tLc3 wi g tt (own.map (·.2)) fun D => tClause wi1 g1 tt1 vs1 (tClause wi2 g2 tt2 vs2 (tLast te D))) := by
  refine ⟨fun pins s σ H Q I h => ?_⟩
  rw [eval_ListComp]
  refine lc3_run hc hN I hi ok hsub hg ht (fun D sb Hb C cl fp => ?_) hs hs1 h fun D C s' m H' I' q hn f => ⟨m, hn, fun h'' sb => ?_⟩
  · have a1 : BodyR (X.blk sb Hb scope (compEnvC scope cl C X.env) fp) (tClause wi2 g2 tt2 vs2 (tLast te D)) _ vs2 := body_clause (e := LC3 elt t0 i0 t1 i1 t2 i2 f0 f1 f2 scope pos) (k := 1) rfl hc (by simp) (hi2 sb Hb C cl fp) (hg2 sb Hb C cl fp) (ht2 sb Hb C cl fp) (body_last (D := D) rfl (he sb Hb C cl fp))
      (fun it => loop_in (go2_eq _ _ _ _ _ _ _ _ _ _ _ _ _ _ _)) (fun it R s a b => start_ok (.inr rfl) a b)
    exact body_clause (k := 0) rfl hc hsub2 (hi1 sb Hb C cl fp) (hg1 sb Hb C cl fp) (ht1 sb Hb C cl fp) a1 (fun it => loop_out (go1_eq _ _ _ _ _ _ _ _ _ _ _ _ _ _ _) (hs2 _)) (fun it R s a b => start_ok (.inl rfl) a b)
  · obtain ⟨f0, f1, f2, f3, f4, f5⟩ := f
    exact ⟨.ref D, H', I'.turned (t' := s'.toks) (fun b o nb z => (sb.2 b nb).trans z) f0 f1 f3 f4 f5, rfl, q⟩
end

/-! ### own `in` -/
section
variable {X : Cx} {CX : CXT} {n : Nat} {f C : Addr} {fd : FuncData} {ps : List Str} {sp : Sp} {E : XK}
def rInOwn (neg : Bool) (C : Addr) (sp : Sp) (E : XK) : R2 := fun y x H Q => ∃ a dx fs, x = .ref a ∧ H a = some (.ins C dx fs) ∧ sp [.ref a, y] H (fun v H' => ∃ b : Bool, v = .bl b ∧ Q (.bl (if neg then !b else b)) H') E
theorem op_inOwn (M : OwnM X.K C "__contains__" f) (F : FnOk X.prog X.w X.K X.mg X.base CX n f fd ps sp) (hb : L2.Binds X.K fd ps []) (hx : Passes CX X E) (hr : Room n X.A) : OpR X (compareOp .In) (rInOwn false C sp E) := by
  intro pins s σ H y x v u Q I ry rx h
  obtain ⟨a, dx, fs, rfl, ha, h⟩ := h
  cases rx
  obtain ⟨mA, J, _⟩ := ins_get I.hok ha
  obtain ⟨od, J, _⟩ := J.look
  obtain ⟨m, hF⟩ := I.fr
  refine PySem.W.in_K hF I.ok.mod.kin J M.at_ M.fn (wpAny_mono (run_own (⟨hr, rfl⟩ : Sub X n X.A) F hb hx I (.cons val_ref (.cons ry .nil)) h) (fun w s' q => ?_) fun _ _ z => z)
  obtain ⟨z, H', I', rz, b, rfl, q⟩ := q
  cases rz
  exact wpAny_truthy_bool ⟨.bl b, H', I', rfl, q⟩
theorem op_notInOwn (M : OwnM X.K C "__contains__" f) (F : FnOk X.prog X.w X.K X.mg X.base CX n f fd ps sp) (hb : L2.Binds X.K fd ps []) (hx : Passes CX X E) (hr : Room n X.A) : OpR X (compareOp .NotIn) (rInOwn true C sp E) := by
  intro pins s σ H y x v u Q I ry rx h
  obtain ⟨a, dx, fs, rfl, ha, h⟩ := h
  cases rx
  obtain ⟨mA, J, _⟩ := ins_get I.hok ha
  obtain ⟨od, J, _⟩ := J.look
  obtain ⟨m, hF⟩ := I.fr
  refine PySem.W.notIn_K hF I.ok.mod.kin J M.at_ M.fn (wpAny_mono (run_own (⟨hr, rfl⟩ : Sub X n X.A) F hb hx I (.cons val_ref (.cons ry .nil)) h) (fun w s' q => ?_) fun _ _ z => z)
  obtain ⟨z, H', I', rz, b, rfl, q⟩ := q
  cases rz
  exact wpAny_truthy_bool ⟨.bl (!b), H', I', rfl, q⟩
end
/-! ### boxes -/
structure Bx where
  f : Int
  l : Int
  u : Int
  v : Int
  o : Int
  d : Int
def meetB (b c : Bx) : Bool := decide (b.f ≤ c.l ∧ c.f ≤ b.l ∧ b.u < c.u + c.o ∧ c.u < b.u + b.o ∧ b.v < c.v + c.d ∧ c.v < b.v + b.d)
def restB (b c : Bx) : Bool := !meetB b c && (meetB { b with u := b.u - 1 } c || meetB { b with v := b.v - 1 } c)
def inB (b : Bx) (q : Int × Int × Int) : Bool := decide (b.f ≤ q.1 ∧ q.1 ≤ b.l ∧ b.u ≤ q.2.1 ∧ q.2.1 < b.u + b.o ∧ b.v ≤ q.2.2 ∧ q.2.2 < b.v + b.d)
theorem and_if {p q : Prop} [Decidable p] [Decidable q] {R : Bool → Prop} (h : R (decide (p ∧ q))) : (p → R (decide q)) ∧ (¬ p → R false) :=
  ⟨fun hp => by rwa [show decide (p ∧ q) = decide q by simp [hp]] at h, fun hp => by rwa [show decide (p ∧ q) = false by simp [hp]] at h⟩
section
variable {P : Program} {w : World} {K : PySem.W.Frag} {mg : Str → Option Value} {base : Heap} {AD : Ads}
def BoxAt (C : Addr) (H : Hp) (x : Addr) (b : Bx) : Prop := ∃ dx, H x = some (.ins C dx [("first", .int b.f), ("last", .int b.l), ("x", .int b.u), ("y", .int b.v), ("outs", .int b.o), ("downs", .int b.d)])
def spBoxI (AD : Ads) : Sp := fun vs H Q _ => ∃ (x dx : Addr) (b : Bx), vs = [.ref x, .int b.f, .int b.l, .int b.u, .int b.v, .int b.o, .int b.d] ∧ H x = some (.ins AD.C_Box dx []) ∧ ∀ H', But x H H' → BoxAt AD.C_Box H' x b → Q .non H'
theorem ok_Box___init__ (T : Top K mg AD) : FnOk P w K mg base CX0 1 AD.f_Box___init__ AD.d_Box___init__ P_Box___init__ (spBoxI AD) := by
  refine T.D_Box___init__.F.ok sc_Box___init__ (fun vs H Q E h => ?_) (fun cdv A outer s H vs Q E hr h => ?_)
  · obtain ⟨x, dx, b, rfl, _⟩ := h
    rfl
  · obtain ⟨x, dx, b, rfl, ex, q⟩ := h
    refine ⟨_, (pss_cons (ps_fld (pv 0) (pv 1) rfl)
    (pss_cons (ps_fld (pv 0) (pv 2) rfl)
    (pss_cons (ps_fld (pv 0) (pv 3) rfl)
    (pss_cons (ps_fld (pv 0) (pv 4) rfl)
    (pss_cons (ps_fld (pv 0) (pv 5) rfl)
    (pss_one (ps_fld (pv 0) (pv 6) rfl))))))), ?_⟩
    walk_at "go"
    refine ⟨x, _, dx, _, rfl, ex, T.cl_Box, T.n_Box_first, by show 0 < 1000; decide, ?_⟩
    walk_at "go"
    refine ⟨x, _, dx, _, rfl, upd_same, T.cl_Box, T.n_Box_last, by show 1 < 1000; decide, ?_⟩
    walk_at "go"
    refine ⟨x, _, dx, _, rfl, upd_same, T.cl_Box, T.n_Box_x, by show 2 < 1000; decide, ?_⟩
    walk_at "go"
    refine ⟨x, _, dx, _, rfl, upd_same, T.cl_Box, T.n_Box_y, by show 3 < 1000; decide, ?_⟩
    walk_at "go"
    refine ⟨x, _, dx, _, rfl, upd_same, T.cl_Box, T.n_Box_outs, by show 4 < 1000; decide, ?_⟩
    walk_at "go"
    refine ⟨x, _, dx, _, rfl, upd_same, T.cl_Box, T.n_Box_downs, by show 5 < 1000; decide, ?_⟩
    refine q _ (fun c o nc e => ?_) ⟨dx, upd_same⟩
    rw [upd_ne nc, upd_ne nc, upd_ne nc, upd_ne nc, upd_ne nc, upd_ne nc]
    exact e
def spMeets (AD : Ads) : Sp := fun vs H Q _ => ∃ (x y : Addr) (b c : Bx), vs = [.ref x, .ref y] ∧ BoxAt AD.C_Box H x b ∧ BoxAt AD.C_Box H y c ∧ Q (.bl (meetB b c)) H
theorem ok_Box_meets (T : Top K mg AD) : FnOk P w K mg base CX0 1 AD.f_Box_meets AD.d_Box_meets P_Box_meets (spMeets AD) := by
  refine T.D_Box_meets.F.ok sc_Box_meets (fun vs H Q E h => ?_) (fun cdv A outer s H vs Q E hr h => ?_)
  · obtain ⟨x, y, b, c, rfl, _⟩ := h
    rfl
  · obtain ⟨x, y, b, c, rfl, ⟨dx, ex⟩, ⟨dy, ey⟩, q⟩ := h
    have cl := T.cl_Box
    have n1 := T.n_Box_first
    have n2 := T.n_Box_last
    have n3 := T.n_Box_x
    have n4 := T.n_Box_y
    have n5 := T.n_Box_outs
    have n6 := T.n_Box_downs
    refine ⟨_, (pss_one (ps_ret (pe_and (pe_cmpR op_le (pe_fld (pv 0) rfl) (pe_fld (pv 1) rfl) (nomark _)) (pe_and (pe_cmpR op_le (pe_fld (pv 1) rfl) (pe_fld (pv 0) rfl) (nomark _)) (pe_and (pe_cmpR op_lt (pe_fld (pv 0) rfl) (pe_op op_add (pe_fld (pv 1) rfl) (pe_fld (pv 1) rfl)) (nomark _)) (pe_and (pe_cmpR op_lt (pe_fld (pv 1) rfl) (pe_op op_add (pe_fld (pv 0) rfl) (pe_fld (pv 0) rfl)) (nomark _)) (pe_and (pe_cmpR op_lt (pe_fld (pv 0) rfl) (pe_op op_add (pe_fld (pv 1) rfl) (pe_fld (pv 1) rfl)) (nomark _)) (pe_one (pe_cmpR op_lt (pe_fld (pv 1) rfl) (pe_op op_add (pe_fld (pv 0) rfl) (pe_fld (pv 0) rfl)) (nomark _)))))))))), ?_⟩
    unfold meetB at q
    walk_at "go"
    obtain ⟨y1, z1⟩ := and_if (R := fun t => Q (.bl t) H) q
    refine ite2 (fun e => ?_) (fun e => z1 fun h => e (decide_eq_true h))
    have q := y1 (of_decide_eq_true e)
    walk_at "go"
    obtain ⟨y1, z1⟩ := and_if (R := fun t => Q (.bl t) H) q
    refine ite2 (fun e => ?_) (fun e => z1 fun h => e (decide_eq_true h))
    have q := y1 (of_decide_eq_true e)
    walk_at "go"
    obtain ⟨y1, z1⟩ := and_if (R := fun t => Q (.bl t) H) q
    refine ite2 (fun e => ?_) (fun e => z1 fun h => e (decide_eq_true h))
    have q := y1 (of_decide_eq_true e)
    walk_at "go"
    obtain ⟨y1, z1⟩ := and_if (R := fun t => Q (.bl t) H) q
    refine ite2 (fun e => ?_) (fun e => z1 fun h => e (decide_eq_true h))
    have q := y1 (of_decide_eq_true e)
    walk_at "go"
    obtain ⟨y1, z1⟩ := and_if (R := fun t => Q (.bl t) H) q
    refine ite2 (fun e => ?_) (fun e => z1 fun h => e (decide_eq_true h))
    have q := y1 (of_decide_eq_true e)
    walk_at "go"
    exact q
theorem box_made {b : Bx} {H : Hp} {R : VK} {E : XK} {y dy : Addr} (q : ∀ H', Same H H' → BoxAt AD.C_Box H' y b → R .non H') (ny : H y = none) (ndy : H dy = none) (ne : dy ≠ y) :
    spBoxI AD [.ref y, .int b.f, .int b.l, .int b.u, .int b.v, .int b.o, .int b.d] (upd (upd H dy (.own y)) y (.ins AD.C_Box dy [])) R E := by
  have s0 : Same H (upd (upd H dy (.own y)) y (.ins AD.C_Box dy [])) := same_new (same_new (Same.refl H) ndy) ((upd_ne (Ne.symm ne)).trans ny)
  exact ⟨y, dy, b, rfl, upd_same, fun H' bt ba => q H' (fun c o hc => bt c o (ne_of_none hc ny) (s0 c o hc)) ba⟩
def spRests (AD : Ads) : Sp := fun vs H Q _ => ∃ (x y : Addr) (b c : Bx), vs = [.ref x, .ref y] ∧ BoxAt AD.C_Box H x b ∧ BoxAt AD.C_Box H y c ∧ ∀ H', Same H H' → Q (.bl (restB b c)) H'
theorem ok_Box_rests_on (T : Top K mg AD) : FnOk P w K mg base CX0 3 AD.f_Box_rests_on AD.d_Box_rests_on P_Box_rests_on (spRests AD) := by
  refine T.D_Box_rests_on.F.ok sc_Box_rests_on (fun vs H Q E h => ?_) (fun cdv A outer s H vs Q E hr h => ?_)
  · obtain ⟨x, y, b, c, rfl, _⟩ := h
    rfl
  · obtain ⟨x, y, b, c, rfl, bx, by', q⟩ := h
    have kx := bx
    have ky := by'
    obtain ⟨dx, ex⟩ := bx
    obtain ⟨dy, ey⟩ := by'
    have cl := T.cl_Box
    have n1 := T.n_Box_first
    have n2 := T.n_Box_last
    have n3 := T.n_Box_x
    have n4 := T.n_Box_y
    have n5 := T.n_Box_outs
    have n6 := T.n_Box_downs
    refine ⟨_, (pss_cons (ps_if (pt_val (pe_meth (pv 0) T.cl_Box T.m_Box_meets (ok_Box_meets T) (hr.mono (by decide)) T.D_Box_meets.b .nil pass0 (pa_cons (pv 1) pa_nil)))
    (pss_one (ps_ret pe_bl))
    pss_nil)
    (pss_cons (ps_set (i := 2) sc_Box_rests_on.nd rfl (Or.inl rfl) (pe_make T.mk_Box (ok_Box___init__ T) (hr.mono (by decide)) rfl T.g_Box T.D_Box___init__.b .nil pass0 (pa_cons (pe_fld (pv 0) rfl) (pa_cons (pe_fld (pv 0) rfl) (pa_cons (pe_op op_sub (pe_fld (pv 0) rfl) pe_int) (pa_cons (pe_fld (pv 0) rfl) (pa_cons (pe_fld (pv 0) rfl) (pa_cons (pe_fld (pv 0) rfl) pa_nil))))))))
    (pss_cons (ps_set (i := 3) sc_Box_rests_on.nd rfl (Or.inl rfl) (pe_make T.mk_Box (ok_Box___init__ T) (hr.mono (by decide)) rfl T.g_Box T.D_Box___init__.b .nil pass0 (pa_cons (pe_fld (pv 0) rfl) (pa_cons (pe_fld (pv 0) rfl) (pa_cons (pe_fld (pv 0) rfl) (pa_cons (pe_op op_sub (pe_fld (pv 0) rfl) pe_int) (pa_cons (pe_fld (pv 0) rfl) (pa_cons (pe_fld (pv 0) rfl) pa_nil))))))))
    (pss_one (ps_ret (pe_or (pe_meth (pv 2) T.cl_Box T.m_Box_meets (ok_Box_meets T) (hr.mono (by decide)) T.D_Box_meets.b .nil pass0 (pa_cons (pv 1) pa_nil)) (pe_one (pe_meth (pv 3) T.cl_Box T.m_Box_meets (ok_Box_meets T) (hr.mono (by decide)) T.D_Box_meets.b .nil pass0 (pa_cons (pv 1) pa_nil))))))))), ?_⟩
    walk_at "go"
    refine ⟨x, dx, _, rfl, ex, rfl, ?_⟩
    walk_at "go"
    refine ⟨x, y, b, c, rfl, kx, ky, ?_⟩
    cases hm : meetB b c with
    | true =>
      walk_at "go"
      have q1 := q H (Same.refl H)
      rwa [show restB b c = false by unfold restB; rw [hm]; rfl] at q1
    | false =>
    walk_at "go"
    refine fun x1 dx1 nx1 ndx1 ne1 => box_made (AD := AD) (b := { b with u := b.u - 1 }) (fun H1 s1 b1 => ⟨rfl, ?_⟩) nx1 ndx1 ne1
    have ex1 := s1 _ _ ex
    have ey1 := s1 _ _ ey
    walk_at "go"
    refine fun x2 dx2 nx2 ndx2 ne2 => box_made (AD := AD) (b := { b with v := b.v - 1 }) (fun H2 s2 b2 => ⟨rfl, ?_⟩) nx2 ndx2 ne2
    obtain ⟨d1, e1⟩ := b1
    obtain ⟨d2, e2⟩ := b2
    have e1' := s2 _ _ e1
    have ey2 := s2 _ _ ey1
    walk_at "go"
    refine ⟨x1, d1, _, rfl, e1', rfl, ?_⟩
    walk_at "go"
    refine ⟨x1, y, { b with u := b.u - 1 }, c, rfl, ⟨d1, e1'⟩, ⟨dy, ey2⟩, ?_⟩
    have q1 := q H2 (s1.trans s2)
    unfold restB at q1
    rw [hm] at q1
    cases h1 : meetB { b with u := b.u - 1 } c with
    | true =>
      rw [h1] at q1
      walk_at "go"
      exact q1
    | false =>
      rw [h1] at q1
      walk_at "go"
      refine ⟨x2, d2, _, rfl, e2, rfl, ?_⟩
      walk_at "go"
      exact ⟨x2, y, { b with v := b.v - 1 }, c, rfl, ⟨d2, e2⟩, ⟨dy, ey2⟩, q1⟩
def spIn (AD : Ads) : Sp := fun vs H Q _ => ∃ (x t : Addr) (b : Bx) (q : Int × Int × Int), vs = [.ref x, .ref t] ∧ BoxAt AD.C_Box H x b ∧ H t = some (.tup [.int q.1, .int q.2.1, .int q.2.2]) ∧ Q (.bl (inB b q)) H
theorem ok_Box___contains__ (T : Top K mg AD) : FnOk P w K mg base CX0 1 AD.f_Box___contains__ AD.d_Box___contains__ P_Box___contains__ (spIn AD) := by
  refine T.D_Box___contains__.F.ok sc_Box___contains__ (fun vs H Q E h => ?_) (fun cdv A outer s H vs Q E hr h => ?_)
  · obtain ⟨x, t, b, z, rfl, _⟩ := h
    rfl
  · obtain ⟨x, t, b, z, rfl, ⟨dx, ex⟩, et, q⟩ := h
    have cl := T.cl_Box
    have n1 := T.n_Box_first
    have n2 := T.n_Box_last
    have n3 := T.n_Box_x
    have n4 := T.n_Box_y
    have n5 := T.n_Box_outs
    have n6 := T.n_Box_downs
    refine ⟨_, (pss_cons (ps_asg (pv 1) (pg_tup (by rfl) (pgs_cons (pg_name (i := 2) sc_Box___contains__.nd rfl (Or.inl rfl)) (pgs_cons (pg_name (i := 3) sc_Box___contains__.nd rfl (Or.inl rfl)) (pgs_cons (pg_name (i := 4) sc_Box___contains__.nd rfl (Or.inl rfl)) pgs_nil)))))
    (pss_one (ps_ret (pe_and (pe_chain op_le op_le (pe_fld (pv 0) rfl) (pv 2) (pe_fld (pv 0) rfl)) (pe_and (pe_chain op_le op_lt (pe_fld (pv 0) rfl) (pv 3) (pe_op op_add (pe_fld (pv 0) rfl) (pe_fld (pv 0) rfl))) (pe_one (pe_chain op_le op_lt (pe_fld (pv 0) rfl) (pv 4) (pe_op op_add (pe_fld (pv 0) rfl) (pe_fld (pv 0) rfl))))))))), ?_⟩
    unfold inB at q
    walk_at "go"
    refine ⟨t, _, rfl, SqT.of et, rfl, .int z.1, _, rfl, .int z.2.1, _, rfl, .int z.2.2, [], rfl, rfl, ?_⟩
    walk_at "go"
    obtain ⟨y1, z1⟩ := and_if (R := fun t => Q (.bl t) H) q
    refine ite2 (fun e => ?_) (fun e => ?_)
    rotate_left
    · have z2 := z1 fun h => e (decide_eq_true h)
      walk_at "go"
      exact z2
    have q := y1 (of_decide_eq_true e)
    walk_at "go"
    obtain ⟨y1, z1⟩ := and_if (R := fun t => Q (.bl t) H) q
    refine ite2 (fun e => ?_) (fun e => ?_)
    rotate_left
    · have z2 := z1 fun h => e (decide_eq_true h)
      walk_at "go"
      exact z2
    have q := y1 (of_decide_eq_true e)
    walk_at "go"
    obtain ⟨y1, z1⟩ := and_if (R := fun t => Q (.bl t) H) q
    refine ite2 (fun e => ?_) (fun e => ?_)
    rotate_left
    · have z2 := z1 fun h => e (decide_eq_true h)
      walk_at "go"
      exact z2
    have q := y1 (of_decide_eq_true e)
    walk_at "go"
    obtain ⟨y1, z1⟩ := and_if (R := fun t => Q (.bl t) H) q
    refine ite2 (fun e => ?_) (fun e => ?_)
    rotate_left
    · have z2 := z1 fun h => e (decide_eq_true h)
      walk_at "go"
      exact z2
    have q := y1 (of_decide_eq_true e)
    walk_at "go"
    obtain ⟨y1, z1⟩ := and_if (R := fun t => Q (.bl t) H) q
    refine ite2 (fun e => ?_) (fun e => ?_)
    rotate_left
    · have z2 := z1 fun h => e (decide_eq_true h)
      walk_at "go"
      exact z2
    have q := y1 (of_decide_eq_true e)
    walk_at "go"
    exact q
def spBoxEq (K : PySem.W.Frag) (AD : Ads) : Sp := fun vs H Q _ => ∃ (a : Addr) (y : V) (b : Bx), vs = [.ref a, y] ∧ BoxAt AD.C_Box H a b ∧
  ((∃ (z : Addr) (c : Bx), y = .ref z ∧ BoxAt AD.C_Box H z c ∧ Q (.bl (decide (b.f = c.f ∧ b.l = c.l ∧ b.u = c.u ∧ b.v = c.v ∧ b.o = c.o ∧ b.d = c.d))) H) ∨ (∃ t, TyX K H y t ∧ PySem.W.kitOne K t (.ref AD.C_Box) = some false ∧ Q (.bl false) H))
theorem box_ty (T : Top K mg AD) {H : Hp} {x : Addr} {b : Bx} (h : BoxAt AD.C_Box H x b) : TyX K H (.ref x) (.ref AD.C_Box) := let ⟨_, e⟩ := h; .base (.ins e T.cl_Box T.i1_Box T.i2 T.i3 T.i4_Box)
theorem ok_Box___eq__ (T : Top K mg AD) : FnOk P w K mg base CX0 1 AD.f_Box___eq__ AD.d_Box___eq__ P_Box___eq__ (spBoxEq K AD) := by
  refine T.D_Box___eq__.F.ok sc_Box___eq__ (fun vs H Q E h => ?_) (fun cdv A outer s H vs Q E hr h => ?_)
  · obtain ⟨a, y, b, rfl, _⟩ := h
    rfl
  · obtain ⟨a, y, b, rfl, pa, q⟩ := h
    have k0 := pa
    obtain ⟨dx, ea⟩ := pa
    have cl := T.cl_Box
    have n1 := T.n_Box_first
    have n2 := T.n_Box_last
    have n3 := T.n_Box_x
    have n4 := T.n_Box_y
    have n5 := T.n_Box_outs
    have n6 := T.n_Box_downs
    refine ⟨_, (pss_one (ps_ret (pe_and (pe_callB (call_isiK' (K := K) rfl) (by rfl) T.b_isinstance (by decide +kernel) (pa_cons (pv 1) (pa_cons (pe_glob (v := .ref AD.C_Box) rfl T.g_Box rfl) pa_nil))) (pe_and (pe_cmpR op_eq (pe_fld (pv 0) rfl) (pe_fld (pv 1) rfl) (nomark _)) (pe_and (pe_cmpR op_eq (pe_fld (pv 0) rfl) (pe_fld (pv 1) rfl) (nomark _)) (pe_and (pe_cmpR op_eq (pe_fld (pv 0) rfl) (pe_fld (pv 1) rfl) (nomark _)) (pe_and (pe_cmpR op_eq (pe_fld (pv 0) rfl) (pe_fld (pv 1) rfl) (nomark _)) (pe_and (pe_cmpR op_eq (pe_fld (pv 0) rfl) (pe_fld (pv 1) rfl) (nomark _)) (pe_one (pe_cmpR op_eq (pe_fld (pv 0) rfl) (pe_fld (pv 1) rfl) (nomark _))))))))))), ?_⟩
    walk_at "go"
    rcases q with ⟨z, c, rfl, pc, q⟩ | ⟨t, ty, kt, q⟩
    · have kc := pc
      obtain ⟨dy, ec⟩ := pc
      refine ⟨_, _, _, _, true, rfl, .own _, box_ty T kc, T.ii_Box, ?_⟩
      walk_at "go"
      obtain ⟨y1, z1⟩ := and_if (R := fun t => Q (.bl t) H) q
      refine ite2 (fun e => ?_) (fun e => z1 fun h => e (decide_eq_true (congrArg V.int h)))
      have q := y1 (V.int.inj (of_decide_eq_true e))
      walk_at "go"
      obtain ⟨y1, z1⟩ := and_if (R := fun t => Q (.bl t) H) q
      refine ite2 (fun e => ?_) (fun e => z1 fun h => e (decide_eq_true (congrArg V.int h)))
      have q := y1 (V.int.inj (of_decide_eq_true e))
      walk_at "go"
      obtain ⟨y1, z1⟩ := and_if (R := fun t => Q (.bl t) H) q
      refine ite2 (fun e => ?_) (fun e => z1 fun h => e (decide_eq_true (congrArg V.int h)))
      have q := y1 (V.int.inj (of_decide_eq_true e))
      walk_at "go"
      obtain ⟨y1, z1⟩ := and_if (R := fun t => Q (.bl t) H) q
      refine ite2 (fun e => ?_) (fun e => z1 fun h => e (decide_eq_true (congrArg V.int h)))
      have q := y1 (V.int.inj (of_decide_eq_true e))
      walk_at "go"
      obtain ⟨y1, z1⟩ := and_if (R := fun t => Q (.bl t) H) q
      refine ite2 (fun e => ?_) (fun e => z1 fun h => e (decide_eq_true (congrArg V.int h)))
      have q := y1 (V.int.inj (of_decide_eq_true e))
      walk_at "go"
      have fin : decide (V.int b.d = V.int c.d) = decide (b.d = c.d) := by simp
      rw [← fin] at q
      exact ⟨rfl, q⟩
    · refine ⟨_, _, _, _, false, rfl, .own _, ty, kt, ?_⟩
      walk_at "go"
      exact q
end

local macro_rules | `(tactic| walk_at "gt") => `(tactic| (walk_at "go"; repeat (refine ⟨_, _, _, _, rfl, rfl, SqT.of (by walk_at "look"), rfl, ?_⟩; walk_at "go")))

/-! ### squares -/
inductive Tr (H : Hp) : List V → List (Int × Int × Int) → Prop where
  | nil : Tr H [] []
  | cons {t : Addr} {xs : List V} {a : Int × Int × Int} {r : List (Int × Int × Int)} (h : H t = some (.tup [.int a.1, .int a.2.1, .int a.2.2])) (hr : Tr H xs r) : Tr H (.ref t :: xs) (a :: r)
theorem Tr.keep {H H' : Hp} (k : ∀ t ys, H t = some (.tup ys) → H' t = some (.tup ys)) : ∀ {xs S}, Tr H xs S → Tr H' xs S
  | _, _, .nil => .nil
  | _, _, .cons h r => .cons (k _ _ h) (r.keep k)
theorem Tr.mono {H H' : Hp} (s : Same H H') {xs S} (h : Tr H xs S) : Tr H' xs S := h.keep fun _ _ e => s _ _ e
theorem Tr.but {H H' : Hp} {D : Addr} {zs : List V} (e : H D = some (.lst zs)) (b : But D H H') {xs S} (h : Tr H xs S) : Tr H' xs S := h.keep fun t ys z => b t _ (fun y => by rw [y, e] at z; cases z) z
theorem Tr.snoc {H : Hp} {t : Addr} {a : Int × Int × Int} (h : H t = some (.tup [.int a.1, .int a.2.1, .int a.2.2])) : ∀ {xs S}, Tr H xs S → Tr H (xs ++ [.ref t]) (S ++ [a])
  | _, _, .nil => .cons h .nil
  | _, _, .cons e r => .cons e (r.snoc h)
theorem Tr.len {H : Hp} : ∀ {xs S}, Tr H xs S → xs.length = S.length
  | _, _, .nil => rfl
  | _, _, .cons _ r => congrArg Nat.succ r.len
theorem Tr.at {H : Hp} : ∀ {xs S} {i : Nat} {a : Int × Int × Int}, Tr H xs S → S[i]? = some a → ∃ t, xs[i]? = some (.ref t) ∧ H t = some (.tup [.int a.1, .int a.2.1, .int a.2.2])
  | _, _, 0, _, .cons h _, e => by cases e; exact ⟨_, rfl, h⟩
  | _, _, i + 1, _, .cons _ r, e => r.at (i := i) e
theorem Tr.at2 {H : Hp} {xs S} {i : Nat} {v : V} (h : Tr H xs S) (e : xs[i]? = some v) : ∃ t a, v = .ref t ∧ S[i]? = some a ∧ H t = some (.tup [.int a.1, .int a.2.1, .int a.2.2]) := by
  have hi : i < S.length := by
    rw [← h.len]
    exact (List.getElem?_eq_some_iff.mp e).1
  obtain ⟨t, e1, e2⟩ := h.at (List.getElem?_eq_getElem hi)
  rw [e] at e1
  exact ⟨t, _, Option.some.inj e1, List.getElem?_eq_getElem hi, e2⟩
def row3 (c x v : Int) (k : Nat) : List (Int × Int × Int) := (List.range k).map fun y => (c, x, v + (y : Nat))
def row2 (c u v : Int) (d j : Nat) : List (Int × Int × Int) := (List.range j).flatMap fun x => row3 c (u + (x : Nat)) v d
def row1 (f u v : Int) (d o i : Nat) : List (Int × Int × Int) := (List.range i).flatMap fun c => row2 (f + (c : Nat)) u v d o
def sqs (b : Bx) : List (Int × Int × Int) := row1 b.f b.u b.v b.d.toNat b.o.toNat (b.l + 1 - b.f).toNat
theorem row3_snoc (c x v : Int) (k : Nat) : row3 c x v (k + 1) = row3 c x v k ++ [(c, x, v + (k : Nat))] := by unfold row3; rw [List.range_succ, List.map_append]; rfl
theorem row2_snoc (c u v : Int) (d j : Nat) : row2 c u v d (j + 1) = row2 c u v d j ++ row3 c (u + (j : Nat)) v d := by unfold row2; rw [List.range_succ, List.flatMap_append]; simp
theorem row1_snoc (f u v : Int) (d o i : Nat) : row1 f u v d o (i + 1) = row1 f u v d o i ++ row2 (f + (i : Nat)) u v d o := by unfold row1; rw [List.range_succ, List.flatMap_append]; simp
theorem row3_len (c x v : Int) (k : Nat) : (row3 c x v k).length = k := by simp [row3]
theorem row2_len (c u v : Int) (d : Nat) : ∀ j, (row2 c u v d j).length = j * d
  | 0 => by simp [row2]
  | j + 1 => by rw [row2_snoc, List.length_append, row2_len c u v d j, row3_len, Nat.succ_mul]
theorem row1_len (f u v : Int) (d o : Nat) : ∀ i, (row1 f u v d o i).length = i * (o * d)
  | 0 => by simp [row1]
  | i + 1 => by rw [row1_snoc, List.length_append, row1_len f u v d o i, row2_len, Nat.succ_mul]
theorem mem_sqs {b : Bx} (ho : 0 ≤ b.o) (hd : 0 ≤ b.d) {q : Int × Int × Int} : q ∈ sqs b ↔ inB b q = true := by
  obtain ⟨c, x, y⟩ := q
  unfold sqs row1 row2 row3 inB
  rw [decide_eq_true_iff]
  simp only [List.mem_flatMap, List.mem_map, List.mem_range, Prod.mk.injEq]
  constructor
  · rintro ⟨i, hi, j, hj, k, hk, rfl, rfl, rfl⟩
    omega
  · rintro ⟨h1, h2, h3, h4, h5, h6⟩
    exact ⟨(c - b.f).toNat, by omega, (x - b.u).toNat, by omega, (y - b.v).toNat, by omega, by omega, by omega, by omega⟩
/-- a box that is not too large -/
structure OkB (b : Bx) : Prop where
  w : b.l ≤ b.f + 11
  f0 : -1000 ≤ b.f
  f1 : b.f ≤ 1000
  l0 : -1000 ≤ b.l
  u0 : -1000 ≤ b.u
  u1 : b.u ≤ 1000
  v0 : -1000 ≤ b.v
  v1 : b.v ≤ 1000
  o0 : 0 ≤ b.o
  o4 : b.o ≤ 4
  d0 : 0 ≤ b.d
  d4 : b.d ≤ 4
theorem OkB.few {b : Bx} (k : OkB b) {i j z : Nat} (hi : i < (b.l + 1 - b.f).toNat) (hj : j < b.o.toNat) (hz : z < b.d.toNat) : (row1 b.f b.u b.v b.d.toNat b.o.toNat i ++ row2 (b.f + (i : Nat)) b.u b.v b.d.toNat j ++ row3 (b.f + (i : Nat)) (b.u + (j : Nat)) b.v z).length < 1000 := by
  rw [List.length_append, List.length_append, row1_len, row2_len, row3_len]
  have h1 := k.w
  have h2 := k.o4
  have h3 := k.d4
  have a1 : b.o.toNat * b.d.toNat ≤ 4 * 4 := Nat.mul_le_mul (by omega) (by omega)
  have a2 : i * (b.o.toNat * b.d.toNat) ≤ 12 * 16 := Nat.mul_le_mul (by omega) a1
  have a3 : j * b.d.toNat ≤ 4 * 4 := Nat.mul_le_mul (by omega) (by omega)
  omega
theorem OkB.len {b : Bx} (k : OkB b) : (sqs b).length ≤ 1000 := by
  unfold sqs
  rw [row1_len]
  have h1 := k.w
  have h2 := k.o4
  have h3 := k.d4
  have a1 : b.o.toNat * b.d.toNat ≤ 4 * 4 := Nat.mul_le_mul (by omega) (by omega)
  have a2 : (b.l + 1 - b.f).toNat * (b.o.toNat * b.d.toNat) ≤ 12 * 16 := Nat.mul_le_mul (by omega) a1
  omega
/-- a walk's turns, whatever a turn does -/
theorem it_any {J : It} {n : Nat} {G : Hp → Prop} {Z : Nat → Hp → V → Hp → Prop} (w : Walk J n G Z) {S : V → Hp → (Hp → Prop) → Prop} {A0 : Hp} {Qd : Hp → Prop} (Pv : Nat → Hp → Prop) (h0 : Pv 0 A0) (hG : ∀ i H, i ≤ n → Pv i H → G H)
    (hs : ∀ i x H H', i < n → Pv i H → Z i H x H' → S x H' (Pv (i + 1))) (hd : ∀ H, Pv n H → Qd H) :
    ∃ W : Nat → Nat → Hp → Prop, (∃ m, W 0 m A0) ∧ ∀ j m H, W j m H → (J.stop j H ∧ Qd H) ∨ (J.go j H ∧ ∃ N1 : Hp → Prop, (∀ H', N1 H' → ∃ m', m' < m ∧ W (j + 1) m' H') ∧ ∀ x H', J.yld j H x H' → S x H' N1) := by
  refine ⟨fun i m H => m = n - i ∧ i ≤ n ∧ Pv i H, ⟨n, by simp, Nat.zero_le _, h0⟩, ?_⟩
  rintro i m H ⟨rfl, hi, p⟩
  have g := hG i H hi p
  by_cases lt : i < n
  · exact .inr ⟨w.goes i H lt g, Pv (i + 1), fun H' p' => ⟨n - (i + 1), by omega, rfl, lt, p'⟩, fun x H' y => hs i x H H' lt p (w.yields i H x H' lt g y)⟩
  · obtain rfl : i = n := by omega
    exact .inl ⟨w.stops H g, hd H p⟩
section
variable {P : Program} {w : World} {K : PySem.W.Frag} {mg : Str → Option Value} {base : Heap} {AD : Ads}
def spSquares (AD : Ads) : Sp := fun vs H Q _ => ∃ (x : Addr) (b : Bx), vs = [.ref x] ∧ BoxAt AD.C_Box H x b ∧ OkB b ∧ ∀ p xs H', Same H H' → H p = none → H' p = some (.tup xs) → Tr H' xs (sqs b) → Q (.ref p) H'
theorem ok_Box_squares (T : Top K mg AD) : FnOk P w K mg base CX0 1 AD.f_Box_squares AD.d_Box_squares P_Box_squares (spSquares AD) := by
  refine T.D_Box_squares.F.ok sc_Box_squares (fun vs H Q E h => ?_) (fun cdv A outer s H vs Q E hr h => ?_)
  · obtain ⟨x, b, rfl, _⟩ := h
    rfl
  · obtain ⟨x, b, rfl, ⟨dx, ex⟩, kb, q⟩ := h
    have cl := T.cl_Box
    have n1 := T.n_Box_first
    have n2 := T.n_Box_last
    have n3 := T.n_Box_x
    have n4 := T.n_Box_y
    have n5 := T.n_Box_outs
    have n6 := T.n_Box_downs
    refine ⟨_, (pss_one (ps_ret (pe_callTy call_tuple_of (by rfl) T.b_tuple (by decide +kernel) (pa_cons (pe_lc3 (own := [("c", 1), ("x", 2), ("y", 3)]) [2, 3] [3] rfl sc_Box_squares.nd (pi_range2 (by rfl) T.b_range (pa_cons (pe_fld (pv 0) rfl) (pa_cons (pe_op op_add (pe_fld (pv 0) rfl) pe_int) pa_nil))) (blkOk_by (N := N_Box_squares) (sc := defScope s_Box_squares) (by decide +kernel)) (by decide) (by decide) (fun _ _ _ _ _ => (pg_name (i := 1) sc_Box_squares.nd rfl (by first | exact Or.inl rfl | exact Or.inr rfl))) (fun _ _ _ _ _ => pts_nil) (fun _ _ _ _ _ => (pi_range2 (by rfl) T.b_range (pa_cons (pe_fldK (K := K) (by rfl) (pv 0) rfl) (pa_cons (pe_op op_add (pe_fldK (K := K) (by rfl) (pv 0) rfl) (pe_fldK (K := K) (by rfl) (pv 0) rfl)) pa_nil)))) (fun _ _ _ _ _ => (pg_name (i := 2) sc_Box_squares.nd rfl (by first | exact Or.inl rfl | exact Or.inr rfl))) (fun _ _ _ _ _ => pts_nil) (fun _ _ _ _ _ => (pi_range2 (by rfl) T.b_range (pa_cons (pe_fldK (K := K) (by rfl) (pv 0) rfl) (pa_cons (pe_op op_add (pe_fldK (K := K) (by rfl) (pv 0) rfl) (pe_fldK (K := K) (by rfl) (pv 0) rfl)) pa_nil)))) (fun _ _ _ _ _ => (pg_name (i := 3) sc_Box_squares.nd rfl (by first | exact Or.inl rfl | exact Or.inr rfl))) (fun _ _ _ _ _ => pts_nil) (fun _ _ _ _ _ => (pe_tup (pa_cons (pv 1) (pa_cons (pv 2) (pa_cons (pv 3) pa_nil)))))) pa_nil)))), ?_⟩
    walk_at "go"
    have h1 := kb.w
    have h2 := kb.f0
    have h3 := kb.f1
    have h4 := kb.l0
    have h5 := kb.u0
    have h6 := kb.u1
    have h7 := kb.v0
    have h8 := kb.v1
    have h9 := kb.o0
    have h10 := kb.o4
    have h11 := kb.d0
    have h12 := kb.d4
    refine ⟨_, _, rfl, ⟨by omega, by omega, by omega, by omega⟩, ?_⟩
    intro D hD
    refine it_any (walk_range (lo := b.f) (n := (b.l + 1 - b.f).toNat)) (fun i H' => But D H H' ∧ ∃ xs, H' D = some (.lst xs) ∧ Tr H' xs (row1 b.f b.u b.v b.d.toNat b.o.toNat i)) ⟨But.upd (But.refl _ _), [], upd_same, .nil⟩ (fun _ _ _ _ => trivial) ?_ ?_
    · rintro i z Ha Hb hi ⟨bt, xs, e, tr⟩ ⟨rfl, rfl⟩
      have exa := (same_but (Same.refl _) hD bt) _ _ ex
      walk_at "go"
      refine ⟨_, _, rfl, ⟨by omega, by omega, by omega, by omega⟩, ?_⟩
      refine it_any (walk_range (lo := b.u) (n := (b.u + b.o - b.u).toNat)) (fun j H' => But D H H' ∧ ∃ xs, H' D = some (.lst xs) ∧ Tr H' xs (row1 b.f b.u b.v b.d.toNat b.o.toNat i ++ row2 (b.f + (i : Nat)) b.u b.v b.d.toNat j)) ⟨bt, xs, e, by rw [show row2 (b.f + (i : Nat)) b.u b.v b.d.toNat 0 = [] from rfl, List.append_nil]; exact tr⟩ (fun _ _ _ _ => trivial) ?_ ?_
      · rintro j z Hc Hd hj ⟨bt2, xs2, e2, tr2⟩ ⟨rfl, rfl⟩
        have exb := (same_but (Same.refl _) hD bt2) _ _ ex
        walk_at "go"
        refine ⟨_, _, rfl, ⟨by omega, by omega, by omega, by omega⟩, ?_⟩
        refine it_any (walk_range (lo := b.v) (n := (b.v + b.d - b.v).toNat)) (fun k H' => But D H H' ∧ ∃ xs, H' D = some (.lst xs) ∧ Tr H' xs (row1 b.f b.u b.v b.d.toNat b.o.toNat i ++ row2 (b.f + (i : Nat)) b.u b.v b.d.toNat j ++ row3 (b.f + (i : Nat)) (b.u + (j : Nat)) b.v k)) ⟨bt2, xs2, e2, by rw [show row3 (b.f + (i : Nat)) (b.u + (j : Nat)) b.v 0 = [] from rfl, List.append_nil]; exact tr2⟩ (fun _ _ _ _ => trivial) ?_ ?_
        · rintro k z He Hf hk ⟨bt3, xs3, e3, tr3⟩ ⟨rfl, rfl⟩
          have few := kb.few (i := i) (j := j) (z := k) (by omega) (by omega) (by omega)
          have len := tr3.len
          walk_at "go"
          refine ⟨szl (by show 3 ≤ 1000; decide), fun t nt => ?_⟩
          have dt : D ≠ t := ne_of_none e3 nt
          have s1 := same_new (o := .tup [.int (b.f + (i : Nat)), .int (b.u + (j : Nat)), .int (b.v + (k : Nat))]) (Same.refl _) nt
          have e4 := s1 _ _ e3
          refine ⟨xs3, e4, small1000 (by omega), But.upd (bt3.new nt), xs3 ++ [.ref t], upd_same, ?_⟩
          rw [row3_snoc, ← List.append_assoc]
          exact ((tr3.mono s1).but e4 (But.upd (But.refl D _))).snoc (a := (b.f + (i : Nat), b.u + (j : Nat), b.v + (k : Nat))) ((upd_ne (Ne.symm dt)).trans upd_same)
        · rintro He ⟨bt3, xs3, e3, tr3⟩
          refine ⟨bt3, xs3, e3, ?_⟩
          rw [row2_snoc, ← List.append_assoc]
          rwa [show (b.v + b.d - b.v).toNat = b.d.toNat by omega] at tr3
      · rintro Hc ⟨bt2, xs2, e2, tr2⟩
        refine ⟨bt2, xs2, e2, ?_⟩
        rw [row1_snoc]
        rwa [show (b.u + b.o - b.u).toNat = b.o.toNat by omega] at tr2
    · rintro Ha ⟨bt, xs, e, tr⟩
      have sa := same_but (Same.refl _) hD bt
      walk_at "go"
      refine ⟨D, _, rfl, .inl ⟨SqL.of e, fun l nl => ?_⟩⟩
      have sl := same_new (o := .tup xs) (Same.refl Ha) nl
      exact q l xs _ (sa.trans sl) (sa.free nl) upd_same (tr.mono sl)
def spBoxLen (AD : Ads) : Sp := fun vs H Q _ => ∃ (x : Addr) (b : Bx), vs = [.ref x] ∧ BoxAt AD.C_Box H x b ∧ OkB b ∧ ∀ H', Same H H' → Q (.int (sqs b).length) H'
theorem ok_Box___len__ (T : Top K mg AD) : FnOk P w K mg base CX0 3 AD.f_Box___len__ AD.d_Box___len__ P_Box___len__ (spBoxLen AD) := by
  refine T.D_Box___len__.F.ok sc_Box___len__ (fun vs H Q E h => ?_) (fun cdv A outer s H vs Q E hr h => ?_)
  · obtain ⟨x, b, rfl, _⟩ := h
    rfl
  · obtain ⟨x, b, rfl, kx, kb, q⟩ := h
    have k0 := kx
    obtain ⟨dx, ex⟩ := kx
    refine ⟨_, (pss_one (ps_ret (pe_callB (call_lenQ (K := K) rfl) (by rfl) T.b_len (by decide +kernel) (pa_cons (pe_prop (pv 0) T.cl_Box T.p_Box_squares (ok_Box_squares T) (hr.mono (by decide)) T.D_Box_squares.b .nil pass0 (by rfl)) pa_nil)))), ?_⟩
    walk_at "go"
    refine ⟨x, dx, _, rfl, ex, x, b, rfl, k0, kb, fun p xs H1 s1 np ep tr => ?_⟩
    walk_at "go"
    refine ⟨p, xs, rfl, .inr (SqT.of ep), ?_⟩
    rw [tr.len]
    exact q H1 s1
def Row6 (H : Hp) (t : Addr) (b : Bx) : Prop := H t = some (.tup [.int b.f, .int b.l, .int b.u, .int b.v, .int b.o, .int b.d])
def spLSq : Sp := fun vs H Q _ => ∃ (t : Addr) (b : Bx), vs = [.ref t] ∧ Row6 H t b ∧ OkB b ∧ ∀ p xs H', Same H H' → H p = none → H' p = some (.lst xs) → Tr H' xs (sqs b) → Q (.ref p) H'
theorem ok_l_squares (T : Top K mg AD) : FnOk P w K mg base CX0 1 AD.f_l_squares AD.d_l_squares P_l_squares spLSq := by
  refine T.D_l_squares.F.ok sc_l_squares (fun vs H Q E h => ?_) (fun cdv A outer s H vs Q E hr h => ?_)
  · obtain ⟨t, b, rfl, _⟩ := h
    rfl
  · obtain ⟨t, b, rfl, et, kb, q⟩ := h
    have h1 := kb.w
    have h2 := kb.f0
    have h3 := kb.f1
    have h4 := kb.l0
    have h5 := kb.u0
    have h6 := kb.u1
    have h7 := kb.v0
    have h8 := kb.v1
    have h9 := kb.o0
    have h10 := kb.o4
    have h11 := kb.d0
    have h12 := kb.d4
    refine ⟨_, (pss_cons (ps_set (i := 1) sc_l_squares.nd rfl (Or.inl rfl) (pe_lst pa_nil))
    (pss_cons (ps_for PassesOwn.never rfl (pi_range2 (by rfl) T.b_range (pa_cons (pe_ix (ix_tupK (K := K) rfl) (pv 0) pe_int (fun _ _ => rfl)) (pa_cons (pe_op op_add (pe_ix (ix_tupK (K := K) rfl) (pv 0) pe_int (fun _ _ => rfl)) pe_int) pa_nil))) (pg_name (i := 2) sc_l_squares.nd rfl (Or.inl rfl))
    (pss_one (ps_for PassesOwn.never rfl (pi_range2 (by rfl) T.b_range (pa_cons (pe_ix (ix_tupK (K := K) rfl) (pv 0) pe_int (fun _ _ => rfl)) (pa_cons (pe_op op_add (pe_ix (ix_tupK (K := K) rfl) (pv 0) pe_int (fun _ _ => rfl)) (pe_ix (ix_tupK (K := K) rfl) (pv 0) pe_int (fun _ _ => rfl))) pa_nil))) (pg_name (i := 3) sc_l_squares.nd rfl (Or.inl rfl))
    (pss_one (ps_for PassesOwn.never rfl (pi_range2 (by rfl) T.b_range (pa_cons (pe_ix (ix_tupK (K := K) rfl) (pv 0) pe_int (fun _ _ => rfl)) (pa_cons (pe_op op_add (pe_ix (ix_tupK (K := K) rfl) (pv 0) pe_int (fun _ _ => rfl)) (pe_ix (ix_tupK (K := K) rfl) (pv 0) pe_int (fun _ _ => rfl))) pa_nil))) (pg_name (i := 4) sc_l_squares.nd rfl (Or.inl rfl))
    (pss_one (ps_expr (pe_bm PySem.F.plainAttrs_list PySem.F.slot_list_append PySem.F.type_list_append mt_append (pv 1) (pa_cons (pe_tup (pa_cons (pv 2) (pa_cons (pv 3) (pa_cons (pv 4) pa_nil)))) pa_nil)))))))))
    (pss_one (ps_ret (pv 1))))), ?_⟩
    walk_at "go"
    intro p np
    have tp : t ≠ p := ne_of_none et np
    walk_at "go"
    have et0 : upd H p (.lst []) t = some (.tup [.int b.f, .int b.l, .int b.u, .int b.v, .int b.o, .int b.d]) := (upd_ne tp).trans et
    walk_at "gt"
    refine ⟨_, _, rfl, ⟨by omega, by omega, by omega, by omega⟩, ?_⟩
    refine for_it (walk_range (lo := b.f) (n := (b.l + 1 - b.f).toNat)) (fun i σ H' => ∃ o2 o3 o4, σ = [some (.ref t), some (.ref p), o2, o3, o4] ∧ But p H H' ∧ ∃ xs, H' p = some (.lst xs) ∧ Tr H' xs (row1 b.f b.u b.v b.d.toNat b.o.toNat i))
      ⟨none, none, none, rfl, But.upd (But.refl _ _), [], upd_same, .nil⟩ (fun _ _ _ _ _ => trivial) ?_ ?_
    rotate_left
    · rintro σ Ha ⟨o2, o3, o4, rfl, bt, xs, e, tr⟩
      walk_at "go"
      exact q p xs Ha (same_but (Same.refl _) np bt) np e tr
    rintro i z σ Ha Hb hi ⟨o2, o3, o4, rfl, bt, xs, e, tr⟩ ⟨rfl, rfl⟩
    have eta : _ = some (HO.tup [.int b.f, .int b.l, .int b.u, .int b.v, .int b.o, .int b.d]) := bt _ _ tp et
    walk_at "gt"
    refine ⟨_, _, rfl, ⟨by omega, by omega, by omega, by omega⟩, ?_⟩
    refine for_it (walk_range (lo := b.u) (n := (b.u + b.o - b.u).toNat)) (fun j σ H' => ∃ o3 o4, σ = [some (.ref t), some (.ref p), some (.int (b.f + (i : Nat))), o3, o4] ∧ But p H H' ∧ ∃ xs, H' p = some (.lst xs) ∧ Tr H' xs (row1 b.f b.u b.v b.d.toNat b.o.toNat i ++ row2 (b.f + (i : Nat)) b.u b.v b.d.toNat j))
      ⟨o3, o4, rfl, bt, xs, e, by rw [show row2 (b.f + (i : Nat)) b.u b.v b.d.toNat 0 = [] from rfl, List.append_nil]; exact tr⟩ (fun _ _ _ _ _ => trivial) ?_ ?_
    rotate_left
    · rintro σ Hc ⟨o3, o4, rfl, bt2, xs2, e2, tr2⟩
      refine ⟨_, _, _, rfl, bt2, xs2, e2, ?_⟩
      rw [row1_snoc]
      rwa [show (b.u + b.o - b.u).toNat = b.o.toNat by omega] at tr2
    clear eta e tr bt et0
    rintro j z σ Hc Hd hj ⟨o3, o4, rfl, bt2, xs2, e2, tr2⟩ ⟨rfl, rfl⟩
    have eta : _ = some (HO.tup [.int b.f, .int b.l, .int b.u, .int b.v, .int b.o, .int b.d]) := bt2 _ _ tp et
    walk_at "gt"
    refine ⟨_, _, rfl, ⟨by omega, by omega, by omega, by omega⟩, ?_⟩
    refine for_it (walk_range (lo := b.v) (n := (b.v + b.d - b.v).toNat)) (fun k σ H' => ∃ o4, σ = [some (.ref t), some (.ref p), some (.int (b.f + (i : Nat))), some (.int (b.u + (j : Nat))), o4] ∧ But p H H' ∧ ∃ xs, H' p = some (.lst xs) ∧ Tr H' xs (row1 b.f b.u b.v b.d.toNat b.o.toNat i ++ row2 (b.f + (i : Nat)) b.u b.v b.d.toNat j ++ row3 (b.f + (i : Nat)) (b.u + (j : Nat)) b.v k))
      ⟨o4, rfl, bt2, xs2, e2, by rw [show row3 (b.f + (i : Nat)) (b.u + (j : Nat)) b.v 0 = [] from rfl, List.append_nil]; exact tr2⟩ (fun _ _ _ _ _ => trivial) ?_ ?_
    rotate_left
    · rintro σ He ⟨o4, rfl, bt3, xs3, e3, tr3⟩
      refine ⟨_, _, rfl, bt3, xs3, e3, ?_⟩
      rw [row2_snoc, ← List.append_assoc]
      rwa [show (b.v + b.d - b.v).toNat = b.d.toNat by omega] at tr3
    rintro k z σ He Hf hk ⟨o4, rfl, bt3, xs3, e3, tr3⟩ ⟨rfl, rfl⟩
    have few := kb.few (i := i) (j := j) (z := k) (by omega) (by omega) (by omega)
    have len := tr3.len
    walk_at "go"
    refine ⟨szl (by show 3 ≤ 1000; decide), fun y ny => ?_⟩
    have py : p ≠ y := ne_of_none e3 ny
    have s1 := same_new (o := .tup [.int (b.f + (i : Nat)), .int (b.u + (j : Nat)), .int (b.v + (k : Nat))]) (Same.refl _) ny
    have e4 := s1 _ _ e3
    walk_at "go"
    refine ⟨p, _, _, rfl, rfl, e4, small1000 (by omega), ?_⟩
    refine ⟨_, rfl, But.upd (bt3.new ny), xs3 ++ [.ref y], upd_same, ?_⟩
    rw [row3_snoc, ← List.append_assoc]
    exact ((tr3.mono s1).but e4 (But.upd (But.refl p _))).snoc (a := (b.f + (i : Nat), b.u + (j : Nat), b.v + (k : Nat))) ((upd_ne (Ne.symm py)).trans upd_same)
end

/-! ### the law's own meeting and resting -/
theorem both (a b : Int) : ∃ m, a ≤ m ∧ b ≤ m ∧ (m = a ∨ m = b) := by
  by_cases h : a ≤ b
  · exact ⟨b, h, Int.le_refl _, .inr rfl⟩
  · exact ⟨a, Int.le_refl _, by omega, .inl rfl⟩
structure GoodB (b : Bx) : Prop extends OkB b where
  fl : b.f ≤ b.l
  o1 : 1 ≤ b.o
  d1 : 1 ≤ b.d
theorem meet_iff {b c : Bx} (gb : GoodB b) (gc : GoodB c) : (∃ q ∈ sqs b, q ∈ sqs c) ↔ meetB b c = true := by
  have h1 := gb.fl
  have h2 := gb.o1
  have h3 := gb.d1
  have h4 := gc.fl
  have h5 := gc.o1
  have h6 := gc.d1
  unfold meetB
  rw [decide_eq_true_iff]
  constructor
  · rintro ⟨⟨x, y, z⟩, m1, m2⟩
    rw [mem_sqs gb.o0 gb.d0] at m1
    rw [mem_sqs gc.o0 gc.d0] at m2
    have m1 := of_decide_eq_true m1
    have m2 := of_decide_eq_true m2
    dsimp only at m1 m2
    omega
  · rintro ⟨k1, k2, k3, k4, k5, k6⟩
    obtain ⟨x, x1, x2, x3⟩ := both b.f c.f
    obtain ⟨y, y1, y2, y3⟩ := both b.u c.u
    obtain ⟨z, z1, z2, z3⟩ := both b.v c.v
    refine ⟨(x, y, z), (mem_sqs gb.o0 gb.d0).mpr (decide_eq_true ?_), (mem_sqs gc.o0 gc.d0).mpr (decide_eq_true ?_)⟩ <;> dsimp only <;> omega
theorem rest_iff {b c : Bx} (gb : GoodB b) (gc : GoodB c) : (∃ q ∈ sqs b, (q.1, q.2.1 - 1, q.2.2) ∈ sqs c ∨ (q.1, q.2.1, q.2.2 - 1) ∈ sqs c) ↔ (meetB { b with u := b.u - 1 } c || meetB { b with v := b.v - 1 } c) = true := by
  have h1 := gb.fl
  have h2 := gb.o1
  have h3 := gb.d1
  have h4 := gc.fl
  have h5 := gc.o1
  have h6 := gc.d1
  unfold meetB
  rw [Bool.or_eq_true, decide_eq_true_iff, decide_eq_true_iff]
  dsimp only
  constructor
  · rintro ⟨⟨x, y, z⟩, m1, m2⟩
    rw [mem_sqs gb.o0 gb.d0] at m1
    rw [mem_sqs gc.o0 gc.d0, mem_sqs gc.o0 gc.d0] at m2
    have m1 := of_decide_eq_true m1
    dsimp only at m1 m2
    rcases m2 with m2 | m2
    · have m2 := of_decide_eq_true m2
      dsimp only at m2
      left
      omega
    · have m2 := of_decide_eq_true m2
      dsimp only at m2
      right
      omega
  · rintro (⟨k1, k2, k3, k4, k5, k6⟩ | ⟨k1, k2, k3, k4, k5, k6⟩)
    · obtain ⟨x, x1, x2, x3⟩ := both b.f c.f
      obtain ⟨y, y1, y2, y3⟩ := both b.u (c.u + 1)
      obtain ⟨z, z1, z2, z3⟩ := both b.v c.v
      refine ⟨(x, y, z), (mem_sqs gb.o0 gb.d0).mpr (decide_eq_true ?_), .inl ((mem_sqs gc.o0 gc.d0).mpr (decide_eq_true ?_))⟩ <;> dsimp only <;> omega
    · obtain ⟨x, x1, x2, x3⟩ := both b.f c.f
      obtain ⟨y, y1, y2, y3⟩ := both b.u c.u
      obtain ⟨z, z1, z2, z3⟩ := both b.v (c.v + 1)
      refine ⟨(x, y, z), (mem_sqs gb.o0 gb.d0).mpr (decide_eq_true ?_), .inr ((mem_sqs gc.o0 gc.d0).mpr (decide_eq_true ?_))⟩ <;> dsimp only <;> omega
def trD (q : Int × Int × Int) : PyData := .tuple [.int q.1, .int q.2.1, .int q.2.2]
theorem Tr.dp {K : PySem.W.Frag} {H : Hp} : ∀ {xs S}, Tr H xs S → DpAll K H xs (S.map trD)
  | _, _, .nil => .nil
  | _, _, .cons h r => .cons (.tup (SqT.of h) (.cons (.int _) (.cons (.int _) (.cons (.int _) .nil)))) r.dp
theorem eqv_nil {α : Type} (f : α → PyData) (S : List α) : PyData.eqv (.list (S.map f)) (.list []) = S.isEmpty := by
  cases S with
  | nil => simp [PyData.eqv, PyData.eqvAll]
  | cons a r => simp [PyData.eqv, PyData.eqvAll]
def kq (q : Int × Int × Int) : List L2.Key := [.inl q.1, .inl q.2.1, .inl q.2.2]
theorem but_of {d : Addr} {H H1 H2 : Hp} (s : Same H H1) (b : But d H1 H2) : ∀ c o, c ≠ d → H c = some o → H2 c = some o := fun c o n e => b c o n (s c o e)
theorem kq_inj {a b : Int × Int × Int} : kq a = kq b ↔ a = b := by
  obtain ⟨a1, a2, a3⟩ := a
  obtain ⟨b1, b2, b3⟩ := b
  simp [kq]
/-- the dict at d holds just the squares S -/
def Held (H : Hp) (d : Addr) (S : List (Int × Int × Int)) : Prop := ∃ kvs : List (List L2.Key × V), H d = some (.dT kvs) ∧ kvs.length ≤ S.length ∧ ∀ q, (valV kvs (kq q)).isSome = decide (q ∈ S)
theorem Held.get {H : Hp} {d t : Addr} {S : List (Int × Int × Int)} (h : Held H d S) (q : Int × Int × Int) (et : H t = some (.tup [.int q.1, .int q.2.1, .int q.2.2])) : ∃ o, DGet H d (.ref t) o ∧ o.isSome = decide (q ∈ S) := by
  obtain ⟨kvs, e, _, k⟩ := h
  exact ⟨_, DGet.t (k := kq q) e et, k q⟩
theorem Held.put {H : Hp} {d t : Addr} {S : List (Int × Int × Int)} {q : Int × Int × Int} (h : Held H d S) (et : H t = some (.tup [.int q.1, .int q.2.1, .int q.2.2])) (few : S.length < 1000) : ∃ H', DPut H d (.ref t) (.bl true) H' ∧ But d H H' ∧ Held H' d (S ++ [q]) := by
  obtain ⟨kvs, e, l, k⟩ := h
  refine ⟨_, DPut.t (k := kq q) e et (small1000 (by omega)), But.upd (But.refl _ _), _, upd_same, ?_, fun z => ?_⟩
  · have := length_putK kvs (kq q) (.bl true)
    rw [List.length_append, List.length_cons, List.length_nil]
    omega
  · rw [valV_put]
    by_cases y : z = q
    · subst y
      rw [if_pos rfl]
      simp
    · rw [if_neg (fun w => y (kq_inj.mp w)), k]
      simp [y]
theorem Held.mono {H H' : Hp} {d : Addr} {S} (h : Held H d S) (k : ∀ o, H d = some o → H' d = some o) : Held H' d S := let ⟨kvs, e, r⟩ := h; ⟨kvs, k _ e, r⟩
section
variable {P : Program} {w : World} {K : PySem.W.Frag} {mg : Str → Option Value} {base : Heap} {AD : Ads}
def spLMeets : Sp := fun vs H Q _ => ∃ (s t : Addr) (b c : Bx), vs = [.ref s, .ref t] ∧ Row6 H s b ∧ Row6 H t c ∧ GoodB b ∧ GoodB c ∧ ∀ H', Same H H' → Q (.bl (meetB b c)) H'
theorem ok_l_meets (T : Top K mg AD) : FnOk P w K mg base CX0 3 AD.f_l_meets AD.d_l_meets P_l_meets spLMeets := by
  refine T.D_l_meets.F.ok sc_l_meets (fun vs H Q E h => ?_) (fun cdv A outer s H vs Q E hr h => ?_)
  · obtain ⟨s, t, b, c, rfl, _⟩ := h
    rfl
  · obtain ⟨y, t, b, c, rfl, ey, et, gb, gc, q⟩ := h
    refine ⟨_, (pss_cons (ps_set (i := 2) sc_l_meets.nd rfl (Or.inr rfl) pe_dnewT)
    (pss_cons (ps_for PassesOwn.never rfl (pi_list (callD T.D_l_squares (ok_l_squares T) hr (pa_cons (pv 1) pa_nil))) (pg_name (i := 3) sc_l_meets.nd rfl (Or.inl rfl))
    (pss_one (ps_dput (hu_of hr) (pv 2) (pv 3) pe_bl rfl)))
    (pss_one (ps_ret (pe_cmpR (op_neD hr.units) (pe_lc (own := [("_law_square", 3)]) (g := (gName 3)) rfl sc_l_meets.nd (pi_list (callD T.D_l_squares (ok_l_squares T) hr (pa_cons (pv 0) pa_nil))) (blkOk_by (N := N_l_meets) (sc := defScope s_l_meets) (by decide +kernel)) (fun _ _ _ _ _ => (pg_name (i := 3) sc_l_meets.nd rfl (by first | exact Or.inl rfl | exact Or.inr rfl))) (fun _ _ _ _ _ => (pts_one (pt_cmp (pc_din (hu_of hr) (pv 3) (pv 2))))) (fun _ _ _ _ _ => (pv 3))) (pe_lst pa_nil) (nomark _)))))), ?_⟩
    walk_at "go"
    intro d nd
    have sd := same_new (o := .dT []) (Same.refl H) nd
    have ed : Held (upd H d (.dT [])) d [] := ⟨[], upd_same, Nat.le_refl _, fun q => by simp [valV_nil]⟩
    have ey1 : upd H d (.dT []) y = some _ := sd _ _ ey
    have et1 : upd H d (.dT []) t = some _ := sd _ _ et
    generalize upd H d (.dT []) = H1 at sd ed ey1 et1 ⊢
    walk_at "go"
    refine ⟨t, c, rfl, et1, gc.toOkB, fun p xs H2 s2 np ep tr => ?_⟩
    replace ed := ed.mono fun o e => s2 _ _ e
    replace ey1 := s2 _ _ ey1
    replace sd := sd.trans s2
    have dp : p ≠ d := fun z => by
      obtain ⟨kvs, e, _⟩ := ed
      rw [← z, ep] at e
      cases e
    clear s2 np et1
    have few := tr.len
    have most := gc.toOkB.len
    walk_at "go"
    refine ⟨⟨_, SqL.of ep⟩, ?_⟩
    refine for_it (walk_list (xs := xs)) (fun i σ H' => ∃ o3, σ = [some (.ref y), some (.ref t), some (.ref d), o3] ∧ But d H2 H' ∧ Held H' d ((sqs c).take i)) ⟨none, rfl, But.refl _ _, ed⟩ (fun i σ H' _ ⟨_, _, bt, _⟩ => SqL.of (bt _ _ dp ep)) ?_ ?_
    · rintro i z σ Ha Hb hi ⟨o3, rfl, bt, hd⟩ ⟨rfl, ez⟩
      obtain ⟨tz, a, rfl, ea, etz⟩ := tr.at2 ez
      have etz1 := bt _ _ (fun z => by obtain ⟨kvs, e, _⟩ := ed; rw [← z, etz] at e; cases e) etz
      have tl : ((sqs c).take i).length < 1000 := by rw [List.length_take]; omega
      obtain ⟨Hc, put, b2, hd2⟩ := hd.put etz1 tl
      walk_at "go"
      refine ⟨d, Hc, rfl, put, _, rfl, bt.trans b2, ?_⟩
      rw [List.take_add_one, ea]
      exact hd2
    rintro σ Ha ⟨o3, rfl, bt, hd⟩
    rw [few, List.take_length] at hd
    have sa := same_but (Same.refl _) nd (but_of sd bt)
    have ey3 := sa _ _ ey
    clear ed ey1 sd tr few ep dp bt
    walk_at "go"
    refine ⟨y, b, rfl, ey3, gb.toOkB, fun p2 xs2 H4 s4 np2 ep2 tr2 => ?_⟩
    have few := tr2.len
    have most := gb.toOkB.len
    replace hd := hd.mono fun o e => s4 _ _ e
    replace sa := sa.trans s4
    clear s4 np2 ey3
    walk_at "go"
    refine ⟨⟨_, SqL.of ep2⟩, ?_⟩
    intro D hD
    refine lc_it (walk_list (xs := xs2)) (fun i H' => But D H4 H' ∧ ∃ ws, H' D = some (.lst ws) ∧ Tr H' ws (((sqs b).take i).filter fun q => decide (q ∈ sqs c))) ⟨But.upd (But.refl _ _), [], upd_same, .nil⟩ (fun i H' _ h => SqL.of (same_but (Same.refl _) hD h.1 _ _ ep2)) ?_ ?_
    · rintro i z Hb Hc hi ⟨b2, ws, e2, trw⟩ ⟨rfl, ez⟩
      obtain ⟨tz, a, rfl, ea, etz⟩ := tr2.at2 ez
      have sb := same_but (Same.refl _) hD b2
      have etz1 := sb _ _ etz
      obtain ⟨o, dg, ho⟩ := (hd.mono fun o e => sb _ _ e).get a etz1
      have lw := trw.len
      have lf := List.length_filter_le (fun q => decide (q ∈ sqs c)) ((sqs b).take i)
      have lt := List.length_take_le i (sqs b)
      walk_at "go"
      refine ⟨d, o, rfl, dg, ?_⟩
      rw [ho, List.take_add_one, ea, List.filter_append]
      walk_at "go"
      cases hm : decide (a ∈ sqs c) with
      | true =>
        have f1 : List.filter (fun q => decide (q ∈ sqs c)) (some a).toList = [a] := by simp [of_decide_eq_true hm]
        rw [f1]
        walk_at "go"
        refine ⟨ws, e2, small1000 (by omega), But.upd b2, _, upd_same, ?_⟩
        have et' : upd _ D (.lst (ws ++ [.ref tz])) tz = some (.tup [.int a.1, .int a.2.1, .int a.2.2]) := (upd_ne (fun z => by rw [z, e2] at etz1; cases etz1)).trans etz1
        exact (trw.but e2 (But.upd (But.refl D _))).snoc (a := a) et'
      | false =>
        have f1 : List.filter (fun q => decide (q ∈ sqs c)) (some a).toList = [] := by simp [of_decide_eq_false hm]
        rw [f1, List.append_nil]
        walk_at "go"
        first | exact ⟨b2, ws, e2, trw⟩ | exact ⟨ws, e2, trw⟩
    · rintro Hb ⟨b2, ws, e2, trw⟩
      have sb := same_but (Same.refl _) hD b2
      rw [few, List.take_length] at trw
      walk_at "go"
      intro m nm
      have sm := same_new (o := .lst []) (Same.refl Hb) nm
      refine ⟨.list _, .list [], .lst (SqL.of (sm _ _ e2)) (trw.mono sm).dp, .lst (SqL.of upd_same) .nil, ok_shaped (ok_map (fun _ => rfl) _).1, ok_shaped rfl, ?_⟩
      have q1 := q _ ((sa.trans sb).trans sm)
      have fin : (!PyData.eqv (.list (((sqs b).filter fun q => decide (q ∈ sqs c)).map trD)) (.list [])) = meetB b c := by
        rw [eqv_nil]
        cases hm : meetB b c with
        | true =>
          obtain ⟨z, m1, m2⟩ := (meet_iff gb gc).mpr hm
          have : z ∈ (sqs b).filter fun q => decide (q ∈ sqs c) := List.mem_filter.mpr ⟨m1, decide_eq_true m2⟩
          cases hz : (sqs b).filter fun q => decide (q ∈ sqs c) with
          | nil => rw [hz] at this; cases this
          | cons _ _ => rfl
        | false =>
          cases hz : (sqs b).filter fun q => decide (q ∈ sqs c) with
          | nil => rfl
          | cons z r =>
            have hm2 : z ∈ (sqs b).filter fun q => decide (q ∈ sqs c) := by rw [hz]; exact List.mem_cons_self
            obtain ⟨m1, m2⟩ := List.mem_filter.mp hm2
            have := (meet_iff gb gc).mp ⟨z, m1, of_decide_eq_true m2⟩
            rw [hm] at this
            cases this
      rw [fin]
      exact q1
end

/-! ### the law's own resting -/
section
variable {P : Program} {w : World} {K : PySem.W.Frag} {mg : Str → Option Value} {base : Heap} {AD : Ads}
def spLRests : Sp := fun vs H Q _ => ∃ (s t : Addr) (b c : Bx), vs = [.ref s, .ref t] ∧ Row6 H s b ∧ Row6 H t c ∧ GoodB b ∧ GoodB c ∧ ∀ H', Same H H' → Q (.bl (restB b c)) H'
theorem ok_l_rests (T : Top K mg AD) : FnOk P w K mg base CX0 4 AD.f_l_rests AD.d_l_rests P_l_rests spLRests := by
  refine T.D_l_rests.F.ok sc_l_rests (fun vs H Q E h => ?_) (fun cdv A outer s H vs Q E hr h => ?_)
  · obtain ⟨s, t, b, c, rfl, _⟩ := h
    rfl
  · obtain ⟨y, t, b, c, rfl, ey, et, gb, gc, q⟩ := h
    refine ⟨_, (pss_cons (ps_if (PW.pt (pw_or (pt_cmpR op_lt (pe_ix (ix_tupK (K := K) rfl) (pv 0) pe_int (fun _ _ => rfl)) (pe_ix (ix_tupK (K := K) rfl) (pv 1) pe_int (fun _ _ => rfl)) (nomark _)) (pw_or (pt_cmpR op_lt (pe_ix (ix_tupK (K := K) rfl) (pv 1) pe_int (fun _ _ => rfl)) (pe_ix (ix_tupK (K := K) rfl) (pv 0) pe_int (fun _ _ => rfl)) (nomark _)) (pw_or1 (pt_val (callD T.D_l_meets (ok_l_meets T) hr (pa_cons (pv 0) (pa_cons (pv 1) pa_nil))))))))
    (pss_one (ps_ret pe_bl))
    pss_nil)
    (pss_cons (ps_set (i := 2) sc_l_rests.nd rfl (Or.inl rfl) pe_dnewT)
    (pss_cons (ps_for PassesOwn.never rfl (pi_list (callD T.D_l_squares (ok_l_squares T) hr (pa_cons (pv 1) pa_nil))) (pg_name (i := 3) sc_l_rests.nd rfl (Or.inl rfl))
    (pss_one (ps_dput (hu_of hr) (pv 2) (pv 3) pe_bl rfl)))
    (pss_cons (ps_for PassesOwn.never rfl (pi_list (callD T.D_l_squares (ok_l_squares T) hr (pa_cons (pv 0) pa_nil))) (pg_tup (by rfl) (pgs_cons (pg_name (i := 4) sc_l_rests.nd rfl (Or.inl rfl)) (pgs_cons (pg_name (i := 5) sc_l_rests.nd rfl (Or.inl rfl)) (pgs_cons (pg_name (i := 6) sc_l_rests.nd rfl (Or.inl rfl)) pgs_nil))))
    (pss_one (ps_if (PW.pt (pw_or (pt_cmp (pc_din (hu_of hr) (pe_tup (pa_cons (pv 4) (pa_cons (pe_op op_sub (pv 5) pe_int) (pa_cons (pv 6) pa_nil)))) (pv 2))) (pw_or1 (pt_cmp (pc_din (hu_of hr) (pe_tup (pa_cons (pv 4) (pa_cons (pv 5) (pa_cons (pe_op op_sub (pv 6) pe_int) pa_nil)))) (pv 2))))))
    (pss_one (ps_ret pe_bl))
    pss_nil)))
    (pss_one (ps_ret pe_bl)))))), ?_⟩
    have ey0 : H y = some _ := ey
    have et0 : H t = some _ := et
    walk_at "gt"
    have ff : ∀ {x : Bool}, restB b c = x → ∀ H', Same H H' → Q (.bl x) H' := fun e H' s' => e ▸ q H' s'
    refine ite2 (fun e => ?_) (fun e => ?_)
    · walk_at "go"
      have e1 := of_decide_eq_true e
      refine ff ?_ H (Same.refl H)
      unfold restB meetB
      simp [show ¬ (c.f ≤ b.l) by omega]
    have e1 : ¬ b.l < c.f := fun z => e (decide_eq_true z)
    walk_at "gt"
    refine ite2 (fun e => ?_) (fun e => ?_)
    · walk_at "go"
      have e1 := of_decide_eq_true e
      refine ff ?_ H (Same.refl H)
      unfold restB meetB
      simp [show ¬ (b.f ≤ c.l) by omega]
    walk_at "gt"
    refine ⟨y, t, b, c, rfl, ey, et, gb, gc, fun H0 s0 => ?_⟩
    replace ey := s0 _ _ ey
    replace et := s0 _ _ et
    clear ey0 et0
    cases hm : meetB b c with
    | true =>
      walk_at "go"
      refine ff ?_ H0 s0
      unfold restB
      rw [hm]
      rfl
    | false =>
    walk_at "go"
    intro d nd
    have sd := same_new (o := .dT []) (Same.refl H0) nd
    have ed : Held (upd H0 d (.dT [])) d [] := ⟨[], upd_same, Nat.le_refl _, fun q => by simp [valV_nil]⟩
    have et1 : upd H0 d (.dT []) t = some _ := sd _ _ et
    generalize upd H0 d (.dT []) = H1 at sd ed et1 ⊢
    walk_at "go"
    refine ⟨t, c, rfl, et1, gc.toOkB, fun p xs H2 s2 np ep tr => ?_⟩
    replace ed := ed.mono fun o e => s2 _ _ e
    replace sd := sd.trans s2
    have dp : p ≠ d := fun z => by
      obtain ⟨kvs, e, _⟩ := ed
      rw [← z, ep] at e
      cases e
    clear s2 np et1
    have few := tr.len
    have most := gc.toOkB.len
    walk_at "go"
    refine ⟨⟨_, SqL.of ep⟩, ?_⟩
    refine for_it (walk_list (xs := xs)) (fun i σ H' => ∃ o3 o4 o5 o6, σ = [some (.ref y), some (.ref t), some (.ref d), o3, o4, o5, o6] ∧ But d H2 H' ∧ Held H' d ((sqs c).take i)) ⟨none, none, none, none, rfl, But.refl _ _, ed⟩ (fun i σ H' _ ⟨_, _, _, _, _, bt, _⟩ => SqL.of (bt _ _ dp ep)) ?_ ?_
    · rintro i z σ Ha Hb hi ⟨o3, o4, o5, o6, rfl, bt, hd⟩ ⟨rfl, ez⟩
      obtain ⟨tz, a, rfl, ea, etz⟩ := tr.at2 ez
      have etz1 := bt _ _ (fun z => by obtain ⟨kvs, e, _⟩ := ed; rw [← z, etz] at e; cases e) etz
      have tl : ((sqs c).take i).length < 1000 := by rw [List.length_take]; omega
      obtain ⟨Hc, put, b2, hd2⟩ := hd.put etz1 tl
      walk_at "go"
      refine ⟨d, Hc, rfl, put, _, _, _, _, rfl, bt.trans b2, ?_⟩
      rw [List.take_add_one, ea]
      exact hd2
    rintro σ Ha ⟨o3, o4, o5, o6, rfl, bt, hd⟩
    rw [few, List.take_length] at hd
    have sa := s0.trans (same_but (Same.refl _) nd (but_of sd bt))
    have ey3 := (same_but (Same.refl _) nd (but_of sd bt)) _ _ ey
    clear ed sd tr few ep dp bt
    walk_at "go"
    refine ⟨y, b, rfl, ey3, gb.toOkB, fun p2 xs2 H4 s4 np2 ep2 tr2 => ?_⟩
    have few := tr2.len
    have most := gb.toOkB.len
    replace hd := hd.mono fun o e => s4 _ _ e
    replace sa := sa.trans s4
    clear s4 np2 ey3
    walk_at "go"
    refine ⟨⟨_, SqL.of ep2⟩, ?_⟩
    have tell : ∀ x : Bool, ((∃ q ∈ sqs b, (q.1, q.2.1 - 1, q.2.2) ∈ sqs c ∨ (q.1, q.2.1, q.2.2 - 1) ∈ sqs c) ↔ x = true) → ∀ H', Same H H' → Q (.bl x) H' := fun x hx => ff (by
      unfold restB
      rw [hm, Bool.not_false, Bool.true_and]
      exact Bool.eq_iff_iff.mpr ((rest_iff gb gc).symm.trans hx))
    refine for_it (walk_list (xs := xs2)) (fun i σ H' => ∃ o3 o4 o5 o6, σ = [some (.ref y), some (.ref t), some (.ref d), o3, o4, o5, o6] ∧ Same H4 H' ∧ ∀ q ∈ (sqs b).take i, (q.1, q.2.1 - 1, q.2.2) ∉ sqs c ∧ (q.1, q.2.1, q.2.2 - 1) ∉ sqs c) ⟨o3, o4, o5, o6, rfl, Same.refl _, fun q hq => by simp at hq⟩ (fun i σ H' _ ⟨_, _, _, _, _, s', _⟩ => SqL.of (s' _ _ ep2)) ?_ ?_
    · rintro i z σ Hb Hc hi ⟨o3, o4, o5, o6, rfl, s5, no⟩ ⟨rfl, ez⟩
      obtain ⟨tz, a, rfl, ea, etz⟩ := tr2.at2 ez
      have ez2 := s5 _ _ etz
      refine ⟨tz, _, rfl, SqT.of ez2, rfl, .int a.1, _, rfl, .int a.2.1, _, rfl, .int a.2.2, [], rfl, rfl, ?_⟩
      walk_at "go"
      refine ⟨szl (by show 3 ≤ 1000; decide), fun t1 nt1 => ?_⟩
      have s6 := same_new (o := .tup [.int a.1, .int (a.2.1 - 1), .int a.2.2]) s5 nt1
      obtain ⟨o1, dg1, ho1⟩ := (hd.mono fun o e => s6 _ _ e).get (a.1, a.2.1 - 1, a.2.2) (t := t1) upd_same
      walk_at "go"
      refine ⟨d, o1, rfl, dg1, ?_⟩
      rw [ho1]
      walk_at "go"
      refine ite2 (fun e => ?_) (fun e => ?_)
      · walk_at "go"
        have m1 := of_decide_eq_true e
        exact tell true ⟨fun _ => rfl, fun _ => ⟨a, List.mem_of_getElem? ea, .inl m1⟩⟩ _ (sa.trans s6)
      have m1 : (a.1, a.2.1 - 1, a.2.2) ∉ sqs c := fun z => e (decide_eq_true z)
      walk_at "go"
      refine ⟨szl (by show 3 ≤ 1000; decide), fun t2 nt2 => ?_⟩
      have s7 := same_new (o := .tup [.int a.1, .int a.2.1, .int (a.2.2 - 1)]) s6 nt2
      obtain ⟨o2, dg2, ho2⟩ := (hd.mono fun o e => s7 _ _ e).get (a.1, a.2.1, a.2.2 - 1) (t := t2) upd_same
      walk_at "go"
      refine ⟨d, o2, rfl, dg2, ?_⟩
      rw [ho2]
      walk_at "go"
      refine ite2 (fun e => ?_) (fun e => ?_)
      · walk_at "go"
        have m2 := of_decide_eq_true e
        exact tell true ⟨fun _ => rfl, fun _ => ⟨a, List.mem_of_getElem? ea, .inr m2⟩⟩ _ (sa.trans s7)
      have m2 : (a.1, a.2.1, a.2.2 - 1) ∉ sqs c := fun z => e (decide_eq_true z)
      walk_at "go"
      refine ⟨_, _, _, _, rfl, s7, fun z hz => ?_⟩
      rw [List.take_add_one, ea] at hz
      rcases List.mem_append.mp hz with hz | hz
      · exact no z hz
      · have : z = a := by simpa using hz
        rw [this]
        exact ⟨m1, m2⟩
    · rintro σ Hb ⟨o3, o4, o5, o6, rfl, s5, no⟩
      rw [few, List.take_length] at no
      walk_at "go"
      refine tell false ⟨fun ⟨z, m1, m2⟩ => ?_, fun z => by cases z⟩ _ (sa.trans s5)
      obtain ⟨n1, n2⟩ := no z m1
      exact absurd m2 (by simp [n1, n2])
end

/-! ### small readings of boxes; the table -/
inductive BoxsAt (C : Addr) (H : Hp) : List V → List Bx → Prop where
  | nil : BoxsAt C H [] []
  | cons {x : Addr} {b : Bx} {xs : List V} {bs : List Bx} (h : BoxAt C H x b) (r : BoxsAt C H xs bs) : BoxsAt C H (.ref x :: xs) (b :: bs)
theorem BoxsAt.mono {C : Addr} {H H' : Hp} (s : Same H H') : ∀ {xs bs}, BoxsAt C H xs bs → BoxsAt C H' xs bs
  | _, _, .nil => .nil
  | _, _, .cons ⟨dx, e⟩ r => .cons ⟨dx, s _ _ e⟩ (r.mono s)
theorem BoxsAt.len {C : Addr} {H : Hp} : ∀ {xs bs}, BoxsAt C H xs bs → xs.length = bs.length
  | _, _, .nil => rfl
  | _, _, .cons _ r => congrArg Nat.succ r.len
theorem BoxsAt.at {C : Addr} {H : Hp} : ∀ {xs bs} {i : Nat} {b : Bx}, BoxsAt C H xs bs → bs[i]? = some b → ∃ x, xs[i]? = some (.ref x) ∧ BoxAt C H x b
  | _, _, 0, _, .cons h _, e => by cases e; exact ⟨_, rfl, h⟩
  | _, _, i + 1, _, .cons _ r, e => r.at (i := i) e
theorem BoxsAt.snoc {C : Addr} {H : Hp} {x : Addr} {b : Bx} (h : BoxAt C H x b) : ∀ {xs bs}, BoxsAt C H xs bs → BoxsAt C H (xs ++ [.ref x]) (bs ++ [b])
  | _, _, .nil => .cons h .nil
  | _, _, .cons e r => .cons e (r.snoc h)
theorem BoxsAt.take {C : Addr} {H : Hp} (k : Nat) : ∀ {xs bs}, BoxsAt C H xs bs → BoxsAt C H (xs.take k) (bs.take k) := by
  induction k with
  | zero => intro xs bs _; exact .nil
  | succ k ih =>
    intro xs bs h
    cases h with
    | nil => exact .nil
    | cons h r => exact .cons h (ih r)
def rowR (B : List Bx) (b : Bx) (i : Nat) : List Nat := (List.range i).filter fun n => match B[n]? with
  | some c => restB b c
  | none => false
def rowD (B : List Bx) (i : Nat) : PyData := .tuple (match B[i]? with
  | some b => (rowR B b i).map fun (n : Nat) => .int (n : Nat)
  | none => [])
def tblD (B : List Bx) (k : Nat) : List PyData := (List.range k).map (rowD B)
def rTupQ (K : PySem.W.Frag) : List V → Hp → VK → Prop := fun xs H Q => ∃ p ys, xs = [.ref p] ∧ ((SqL K H p ys ∧ ∀ l, H l = none → Q (.ref l) (upd H l (.tup ys))) ∨ (SqT K H p ys ∧ Q (.ref p) H))
theorem call_tupleQ {X : Cx} {K : PySem.W.Frag} (h : X.K = K) : CallR X (.type "tuple") (rTupQ K) := h ▸ call_tuple_of
def nV (xs : List Nat) : List V := xs.map fun n => .int (n : Nat)
theorem nV_len (xs : List Nat) : (nV xs).length = xs.length := List.length_map ..
theorem nV_snoc (xs : List Nat) (i : Nat) : nV xs ++ [V.int (i : Nat)] = nV (xs ++ [i]) := by simp [nV]
theorem dpa_nV {K : PySem.W.Frag} {H : Hp} : ∀ G : List Nat, DpAll K H (nV G) (G.map fun t => .int (t : Nat))
  | [] => .nil
  | t :: G => .cons (.int _) (dpa_nV G)
theorem rowR_len (B : List Bx) (b : Bx) (i : Nat) : (rowR B b i).length ≤ i := Nat.le_trans (List.length_filter_le _ _) (by rw [List.length_range]; exact Nat.le_refl _)
theorem rowR_succ {B : List Bx} {b c : Bx} {i : Nat} (e : B[i]? = some c) : rowR B b (i + 1) = if restB b c then rowR B b i ++ [i] else rowR B b i := by
  unfold rowR
  rw [List.range_succ, List.filter_append]
  cases h : restB b c <;> simp [List.filter, e, h]
theorem tblD_succ {B : List Bx} {b : Bx} {i : Nat} (e : B[i]? = some b) : tblD B (i + 1) = tblD B i ++ [.tuple ((rowR B b i).map fun (n : Nat) => .int (n : Nat))] := by
  unfold tblD
  rw [List.range_succ, List.map_append]
  simp [rowD, e]
section
variable {P : Program} {w : World} {K : PySem.W.Frag} {mg : Str → Option Value} {base : Heap} {AD : Ads}
def spBoxed (AD : Ads) : Sp := fun vs H Q _ => ∃ (x : Addr) (b : Bx), vs = [.ref x] ∧ BoxAt AD.C_Box H x b ∧ ∀ p, H p = none → Q (.ref p) (upd H p (.tup [.int b.f, .int b.l, .int b.u, .int b.v, .int b.o, .int b.d]))
theorem ok_l_boxed (T : Top K mg AD) : FnOk P w K mg base CX0 1 AD.f_l_boxed AD.d_l_boxed P_l_boxed (spBoxed AD) := by
  refine T.D_l_boxed.F.ok sc_l_boxed (fun vs H Q E h => ?_) (fun cdv A outer s H vs Q E hr h => ?_)
  · obtain ⟨x, b, rfl, _⟩ := h
    rfl
  · obtain ⟨x, b, rfl, ⟨dx, ex⟩, q⟩ := h
    have cl := T.cl_Box
    have n1 := T.n_Box_first
    have n2 := T.n_Box_last
    have n3 := T.n_Box_x
    have n4 := T.n_Box_y
    have n5 := T.n_Box_outs
    have n6 := T.n_Box_downs
    refine ⟨_, (pss_one (ps_ret (pe_tup (pa_cons (pe_fld (pv 0) rfl) (pa_cons (pe_fld (pv 0) rfl) (pa_cons (pe_fld (pv 0) rfl) (pa_cons (pe_fld (pv 0) rfl) (pa_cons (pe_fld (pv 0) rfl) (pa_cons (pe_fld (pv 0) rfl) pa_nil))))))))), ?_⟩
    walk_at "go"
    exact ⟨szl (by show 6 ≤ 1000; decide), q⟩
/-- a list or a tuple -/
def SeqB (H : Hp) (r : Addr) (xs : List V) : Prop := H r = some (.lst xs) ∨ H r = some (.tup xs)
theorem SeqB.q {K : PySem.W.Frag} {H : Hp} {p : Addr} {xs : List V} (s : SeqB H p xs) : SqL K H p xs ∨ SqT K H p xs := s.elim (fun e => .inl (SqL.of e)) (fun e => .inr (SqT.of e))
theorem SeqB.ix {K : PySem.W.Frag} {H : Hp} {p : Addr} {xs : List V} {i : Int} {v : V} {Q : VK} (s : SeqB H p xs) (ha : atI xs i = some v) (q : Q v H) : rIxQ K (.ref p) (.int i) H Q :=
  s.elim (fun e => .inl ⟨p, xs, i, v, rfl, rfl, SqL.of e, ha, q⟩) (fun e => .inr ⟨p, xs, i, v, rfl, rfl, SqT.of e, ha, q⟩)
theorem SeqB.mono {H H' : Hp} {p : Addr} {xs : List V} (s : SeqB H p xs) (m : Same H H') : SeqB H' p xs := s.elim (fun e => .inl (m _ _ e)) (fun e => .inr (m _ _ e))
def spKept (AD : Ads) : Sp := fun vs H Q _ => ∃ (r : Addr) (b : Bx), vs = [.ref r] ∧ SeqB H r [.int b.f, .int b.l, .int b.u, .int b.v, .int b.o, .int b.d] ∧ ∀ x H', Same H H' → H x = none → BoxAt AD.C_Box H' x b → Q (.ref x) H'
theorem ok_l_kept (T : Top K mg AD) : FnOk P w K mg base CX0 3 AD.f_l_kept AD.d_l_kept P_l_kept (spKept AD) := by
  refine T.D_l_kept.F.ok sc_l_kept (fun vs H Q E h => ?_) (fun cdv A outer s H vs Q E hr h => ?_)
  · obtain ⟨x, b, rfl, _⟩ := h
    rfl
  · obtain ⟨r, b, rfl, sq, q⟩ := h
    refine ⟨_, (pss_one (ps_ret (pe_make T.mk_Box (ok_Box___init__ T) (hr.mono (by decide)) rfl T.g_Box T.D_Box___init__.b .nil pass0 (pa_cons (pe_ix (ix_Q (K := K) rfl) (pv 0) pe_int (fun _ _ => rfl)) (pa_cons (pe_ix (ix_Q (K := K) rfl) (pv 0) pe_int (fun _ _ => rfl)) (pa_cons (pe_ix (ix_Q (K := K) rfl) (pv 0) pe_int (fun _ _ => rfl)) (pa_cons (pe_ix (ix_Q (K := K) rfl) (pv 0) pe_int (fun _ _ => rfl)) (pa_cons (pe_ix (ix_Q (K := K) rfl) (pv 0) pe_int (fun _ _ => rfl)) (pa_cons (pe_ix (ix_Q (K := K) rfl) (pv 0) pe_int (fun _ _ => rfl)) pa_nil))))))))), ?_⟩
    walk_at "go"
    refine sq.ix rfl ?_
    walk_at "go"
    refine sq.ix rfl ?_
    walk_at "go"
    refine sq.ix rfl ?_
    walk_at "go"
    refine sq.ix rfl ?_
    walk_at "go"
    refine sq.ix rfl ?_
    walk_at "go"
    refine sq.ix rfl ?_
    walk_at "go"
    exact fun x dx nx ndx ne => box_made (AD := AD) (b := b) (fun H1 s1 b1 => ⟨rfl, q x H1 s1 nx b1⟩) nx ndx ne
def spTable (K : PySem.W.Frag) (AD : Ads) : Sp := fun vs H Q _ => ∃ (r : Addr) (xs : List V) (B : List Bx), vs = [.ref r] ∧ SeqB H r xs ∧ BoxsAt AD.C_Box H xs B ∧ B.length ≤ 12 ∧ ∀ p H', Same H H' → H p = none → Dp K H' (.ref p) (.tuple (tblD B B.length)) → Q (.ref p) H'
theorem ok_rest_table (T : Top K mg AD) : FnOk P w K mg base CX0 4 AD.f_rest_table AD.d_rest_table P_rest_table (spTable K AD) := by
  refine T.D_rest_table.F.ok sc_rest_table (fun vs H Q E h => ?_) (fun cdv A outer s H vs Q E hr h => ?_)
  · obtain ⟨r, xs, B, rfl, _⟩ := h
    rfl
  · obtain ⟨r, xs, B, rfl, sq, bs, lB, q⟩ := h
    refine ⟨_, (pss_one (ps_ret (pe_callTy call_tuple_of (by rfl) T.b_tuple (by decide +kernel) (pa_cons (pe_lc (own := [("index", 1), ("box", 2)]) (tt := tYes) rfl sc_rest_table.nd (pi_enumQ (K := K) (by rfl) (by rfl) T.b_enumerate (pa_cons (pv 0) pa_nil)) (blkOk_by (N := N_rest_table) (sc := defScope s_rest_table) (by decide +kernel)) (fun _ _ _ _ _ => (pg_tupK (K := K) (n := 2) (by rfl) (by rfl) (pgs_cons (pg_name (i := 1) sc_rest_table.nd rfl (by first | exact Or.inl rfl | exact Or.inr rfl)) (pgs_cons (pg_name (i := 2) sc_rest_table.nd rfl (by first | exact Or.inl rfl | exact Or.inr rfl)) pgs_nil)))) (fun _ _ _ _ _ => pts_nil) (fun _ _ _ _ _ => (pe_callTy (call_tupleQ (K := K) rfl) (by rfl) T.b_tuple (by decide +kernel) (pa_cons (pe_lc (own := [("on", 3)]) (g := (gName 3)) rfl sc_rest_table.nd (pi_range1 (by rfl) T.b_range (pa_cons (pv 1) pa_nil)) (blkOk_by (N := N_rest_table) (sc := relS _ (defScope s_rest_table)) (by decide +kernel)) (fun _ _ _ _ _ => (pg_name (i := 3) sc_rest_table.nd rfl (by first | exact Or.inl rfl | exact Or.inr rfl))) (fun _ _ _ _ _ => (pts_one (pt_val (pe_meth (pv 2) T.cl_Box T.m_Box_rests_on (ok_Box_rests_on T) (hr.mono (by decide)) T.D_Box_rests_on.b .nil pass0 (pa_cons (pe_ix (ix_Q (K := K) rfl) (pv 0) (pv 3) (fun _ _ => rfl)) pa_nil))))) (fun _ _ _ _ _ => (pv 3))) pa_nil)))) pa_nil)))), ?_⟩
    have lx := bs.len
    walk_at "go"
    rcases sq with e0 | e0
    all_goals first | refine ⟨r, xs, rfl, .inl ⟨SqL.of e0, ?_⟩⟩ | refine ⟨r, xs, rfl, .inr ⟨SqT.of e0, ?_⟩⟩
    all_goals intro D hD
    all_goals have sq : SeqB H r xs := by first | exact .inl e0 | exact .inr e0
    all_goals first
      | refine lc_it walk_enum (fun i H' => ∃ ys, Gh K H D H' ys (tblD B i) ∧ ys.length ≤ i) ⟨[], Gh.start hD, Nat.le_refl _⟩ (fun i H' hi ⟨ys, gh, _⟩ => gh.same.seq (SqL.of e0)) ?_ ?_
      | refine lc_it walk_enumT (fun i H' => ∃ ys, Gh K H D H' ys (tblD B i) ∧ ys.length ≤ i) ⟨[], Gh.start hD, Nat.le_refl _⟩ (fun i H' hi ⟨ys, gh, _⟩ => sqt_mono gh.same (SqT.of e0)) ?_ ?_
    iterate 2
      · rintro i x H2 H3 hi ⟨ys, gh, hy⟩ ⟨T, y, z, rfl, nT, rfl, ey, ez⟩
        cases ey
        have hiB : i < B.length := by omega
        have eB : B[i]? = some B[i] := List.getElem?_eq_getElem hiB
        obtain ⟨x0, ex0, bx0⟩ := bs.at eB
        obtain rfl : z = .ref x0 := Option.some.inj (ez.symm.trans ex0)
        have gh2 := gh.grow (same_new (o := .tup [.int (i : Nat), .ref x0]) (Same.refl H2) nT)
        refine ⟨T, [.int (i : Nat), .ref x0], rfl, SqT.of upd_same, rfl, _, _, rfl, _, _, rfl, rfl, ?_⟩
        generalize upd H2 T (.tup [.int (i : Nat), .ref x0]) = H4 at gh2 ⊢
        have bs4 := bs.mono gh2.same
        have sq4 := sq.mono gh2.same
        obtain ⟨dx0, ex4⟩ := bx0
        have ex4 := gh2.same _ _ ex4
        clear nT gh ez ex0
        walk_at "go"
        intro D2 hD2
        refine lc_it (walk_range (lo := 0)) (fun k H' => But D2 H4 H' ∧ H' D2 = some (.lst (nV (rowR B B[i] k)))) ⟨But.upd (But.refl _ _), upd_same⟩ (fun _ _ _ _ => trivial) ?_ ?_
        · rintro k v H5 H6 hk ⟨b5, e5⟩ ⟨rfl, ev⟩
          obtain rfl : v = .int (k : Nat) := by rw [ev]; simp
          clear ev
          have hk2 : k < i := by simpa using hk
          have eC : B[k]? = some B[k] := List.getElem?_eq_getElem (by omega)
          have s5 := same_but (Same.refl _) hD2 b5
          obtain ⟨y0, ey0, by0⟩ := (bs4.mono s5).at eC
          have sq5 := sq4.mono s5
          have ex5 := s5 _ _ ex4
          have fits : (nV (rowR B B[i] k)).length < sizeLine := small1000 (by rw [nV_len]; have := rowR_len B B[i] k; omega)
          walk_at "go"
          refine ⟨x0, _, _, rfl, ex5, rfl, ?_⟩
          walk_at "go"
          refine sq5.ix (atI_nat ey0) ?_
          walk_at "go"
          refine ⟨x0, y0, B[i], B[k], rfl, ⟨_, ex5⟩, by0, fun H7 s7 => ?_⟩
          have b7 : But D2 H4 H7 := fun a o n e => s7 a o (b5 a o n e)
          have e7 := s7 _ _ e5
          clear b5 e5 s5 sq5 ex5 by0
          walk_at "go"
          rw [rowR_succ eC]
          refine ite2 (fun e => ?_) (fun e => ?_)
          · rw [if_pos e]
            walk_at "go"
            refine ⟨_, e7, fits, But.upd b7, ?_⟩
            rw [nV_snoc]
            exact upd_same
          · rw [if_neg (by simp [e])]
            exact ⟨b7, e7⟩
        · rintro H5 ⟨b5, e5⟩
          have s5 := same_but (Same.refl _) hD2 b5
          have en : ((i : Nat) : Int).toNat = i := by omega
          rw [en] at e5
          have gh5 := gh2.grow s5
          walk_at "go"
          refine ⟨D2, _, rfl, .inl ⟨SqL.of e5, fun l nl => ?_⟩⟩
          have nlD : l ≠ D := fun z => by rw [z, gh5.here] at nl; cases nl
          refine ⟨ys, (upd_ne (Ne.symm nlD)).trans gh5.here, small1000 (by omega), ys ++ [.ref l], ?_, by rw [List.length_append]; exact Nat.succ_le_succ hy⟩
          rw [tblD_succ eB]
          exact gh5.pair nl fun G => dpa_nV _
      · rintro H2 ⟨ys, gh, hy⟩
        rw [lx] at gh
        walk_at "go"
        refine ⟨D, ys, rfl, .inl ⟨SqL.of gh.here, fun t nt => ?_⟩⟩
        have s3 := same_new (o := .tup ys) gh.same nt
        exact q t _ s3 (gh.same.free nt) (.tup (SqT.of upd_same) (dpa_mono (same_new (Same.refl _) nt) _ _ gh.all))
end

/-! ### a box of the law -/
structure DB (k : Nat) (b : Bx) : Prop where
  f0 : 0 ≤ b.f
  fl : b.f ≤ b.l
  l1 : b.l ≤ 11
  u0 : 0 ≤ b.u
  u1 : b.u ≤ 5 + 3 * k
  v0 : 0 ≤ b.v
  v1 : b.v ≤ 5 + 3 * k
  o1 : 1 ≤ b.o
  o3 : b.o ≤ 3
  d1 : 1 ≤ b.d
  d3 : b.d ≤ 3
theorem DB.up {k m : Nat} {b : Bx} (h : DB k b) (km : k ≤ m) : DB m b := ⟨h.f0, h.fl, h.l1, h.u0, by have := h.u1; omega, h.v0, by have := h.v1; omega, h.o1, h.o3, h.d1, h.d3⟩
theorem DB.good {k : Nat} {b : Bx} (h : DB k b) (hk : k ≤ 20) : GoodB b := by
  obtain ⟨h1, h2, h3, h4, h5, h6, h7, h8, h9, h10, h11⟩ := h
  exact ⟨⟨by omega, by omega, by omega, by omega, by omega, by omega, by omega, by omega, by omega, by omega, by omega, by omega⟩, h2, h8, h10⟩
/-- the rows of the law, none of them the hand -/
inductive RowsAt (a : Addr) (H : Hp) : List V → List Bx → Prop where
  | nil : RowsAt a H [] []
  | cons {t : Addr} {b : Bx} {xs : List V} {bs : List Bx} (ne : t ≠ a) (h : Row6 H t b) (r : RowsAt a H xs bs) : RowsAt a H (.ref t :: xs) (b :: bs)
theorem RowsAt.but {a : Addr} {H H' : Hp} (s : But a H H') : ∀ {xs bs}, RowsAt a H xs bs → RowsAt a H' xs bs
  | _, _, .nil => .nil
  | _, _, .cons ne h r => .cons ne (s _ _ ne h) (r.but s)
theorem RowsAt.same {a : Addr} {H H' : Hp} {xs bs} (r : RowsAt a H xs bs) (s : Same H H') : RowsAt a H' xs bs := r.but fun b o _ e => s b o e
theorem RowsAt.len {a : Addr} {H : Hp} : ∀ {xs bs}, RowsAt a H xs bs → xs.length = bs.length
  | _, _, .nil => rfl
  | _, _, .cons _ _ r => congrArg Nat.succ r.len
theorem RowsAt.at {a : Addr} {H : Hp} : ∀ {xs bs} {i : Nat} {b : Bx}, RowsAt a H xs bs → bs[i]? = some b → ∃ t, xs[i]? = some (.ref t) ∧ Row6 H t b ∧ t ≠ a
  | _, _, 0, _, .cons ne h _, e => by cases e; exact ⟨_, rfl, h, ne⟩
  | _, _, i + 1, _, .cons _ _ r, e => r.at (i := i) e
theorem RowsAt.snoc {a : Addr} {H : Hp} {t : Addr} {b : Bx} (ne : t ≠ a) (h : Row6 H t b) : ∀ {xs bs}, RowsAt a H xs bs → RowsAt a H (xs ++ [.ref t]) (bs ++ [b])
  | _, _, .nil => .cons ne h .nil
  | _, _, .cons n e r => .cons n e (r.snoc ne h)
/-- a list is changed: rows are tuples, they stay -/
theorem RowsAt.poke {a L : Addr} {H : Hp} {ys zs : List V} (e : H L = some (.lst ys)) : ∀ {xs bs}, RowsAt a H xs bs → RowsAt a (upd H L (.lst zs)) xs bs
  | _, _, .nil => .nil
  | _, _, .cons n h r => .cons n ((upd_ne (fun z => by subst z; unfold Row6 at h; rw [e] at h; cases h)).trans h) (r.poke e)
def bxD (b : Bx) : PyData := .tuple [.int b.f, .int b.l, .int b.u, .int b.v, .int b.o, .int b.d]
theorem row_dp {K : PySem.W.Frag} {H : Hp} {t : Addr} {b : Bx} (h : Row6 H t b) : Dp K H (.ref t) (bxD b) := .tup (SqT.of h) (.cons (.int _) (.cons (.int _) (.cons (.int _) (.cons (.int _) (.cons (.int _) (.cons (.int _) .nil))))))
theorem RowsAt.dpa {K : PySem.W.Frag} {a : Addr} {H : Hp} : ∀ {xs bs}, RowsAt a H xs bs → DpAll K H xs (bs.map bxD)
  | _, _, .nil => .nil
  | _, _, .cons _ h r => .cons (row_dp h) r.dpa
section
variable {P : Program} {w : World} {K : PySem.W.Frag} {mg : Str → Option Value} {base : Heap} {AD : Ads}
def spLBox : Sp := fun vs H Q _ => ∃ (a L : Addr) (rs : List V) (B : List Bx), vs = [.ref a, .ref L] ∧ H L = some (.lst rs) ∧ L ≠ a ∧ RowsAt a H rs B ∧ (∀ b ∈ B, DB B.length b) ∧ B.length ≤ 12 ∧ HandOk H a ∧
  ∀ t b H', ButH a H H' → HandOk H' a → t ≠ a → Row6 H' t b → DB (B.length + 1) b → Q (.ref t) H'
theorem ok_l_box (T : Top K mg AD) : FnOk P w K mg base CX0 4 AD.f_l_box AD.d_l_box P_l_box (spLBox) := by
  refine T.D_l_box.F.ok sc_l_box (fun vs H Q E h => ?_) (fun cdv A outer s H vs Q E hr h => ?_)
  · obtain ⟨a, L, rs, B, rfl, _⟩ := h
    rfl
  · obtain ⟨a, L, rs, B, rfl, eL, La, ra, db, lB, hd, q⟩ := h
    refine ⟨_, (pss_cons (ps_set (i := 2) sc_l_box.nd rfl (Or.inl rfl) (callD T.D_l_draw (ok_l_draw T) hr (pa_cons (pv 0) (pa_cons pe_int pa_nil))))
    (pss_cons (ps_par (i := 3) (j := 4) (by rfl) sc_l_box.nd rfl rfl (by decide) rfl rfl (pa_cons (pe_op op_add pe_int (callD T.D_l_draw (ok_l_draw T) hr (pa_cons (pv 0) (pa_cons pe_int pa_nil)))) (pa_cons (pe_op op_add pe_int (callD T.D_l_draw (ok_l_draw T) hr (pa_cons (pv 0) (pa_cons pe_int pa_nil)))) pa_nil)) (by rfl))
    (pss_cons (ps_set (i := 5) sc_l_box.nd rfl (Or.inl rfl) (pe_tup (pa_cons (pv 2) (pa_cons (pe_op op_add (pv 2) (callD T.D_l_draw (ok_l_draw T) hr (pa_cons (pv 0) (pa_cons pe_int pa_nil)))) (pa_cons (callD T.D_l_draw (ok_l_draw T) hr (pa_cons (pv 0) (pa_cons pe_int pa_nil))) (pa_cons (callD T.D_l_draw (ok_l_draw T) hr (pa_cons (pv 0) (pa_cons pe_int pa_nil))) (pa_cons (pv 3) (pa_cons (pv 4) pa_nil))))))))
    (pss_cons (ps_if (PW.pt (pw_or (pt_cmpR (op_eqD hr.units) (pv 1) (pe_lst pa_nil) (nomark _)) (pw_or1 (pt_cmpR op_eq (callD T.D_l_draw (ok_l_draw T) hr (pa_cons (pv 0) (pa_cons pe_int pa_nil))) pe_int (nomark _)))))
    (pss_one (ps_ret (pv 5)))
    pss_nil)
    (pss_cons (ps_set (i := 6) sc_l_box.nd rfl (Or.inl rfl) (pe_ix (ix_listK (K := K) rfl) (pv 1) (callD T.D_l_draw (ok_l_draw T) hr (pa_cons (pv 0) (pa_cons (pe_callB (call_lenQ (K := K) rfl) (by rfl) T.b_len (by decide +kernel) (pa_cons (pv 1) pa_nil)) pa_nil))) (fun _ _ => rfl)))
    (pss_cons (ps_set (i := 7) sc_l_box.nd rfl (Or.inl rfl) (callD T.D_l_draw (ok_l_draw T) hr (pa_cons (pv 0) (pa_cons pe_int pa_nil))))
    (pss_cons (ps_if (pt_cmpR op_eq (pv 7) pe_int (nomark _))
    (pss_one (ps_ret (pv 6)))
    pss_nil)
    (pss_cons (ps_if (pt_cmpR op_le (pv 7) pe_int (nomark _))
    (pss_one (ps_ret (pe_tup (pa_cons (pe_ix (ix_tupK (K := K) rfl) (pv 6) pe_int (fun _ _ => rfl)) (pa_cons (pe_ifExp (pt_cmpR op_ge (pe_ix (ix_tupK (K := K) rfl) (pv 5) pe_int (fun _ _ => rfl)) (pe_ix (ix_tupK (K := K) rfl) (pv 6) pe_int (fun _ _ => rfl)) (nomark _)) (pe_ix (ix_tupK (K := K) rfl) (pv 5) pe_int (fun _ _ => rfl)) (pe_ix (ix_tupK (K := K) rfl) (pv 6) pe_int (fun _ _ => rfl))) (pa_cons (pe_op op_add (pe_ix (ix_tupK (K := K) rfl) (pv 6) pe_int (fun _ _ => rfl)) (pe_ix (ix_tupK (K := K) rfl) (pv 6) pe_int (fun _ _ => rfl))) (pa_cons (pe_callB (call_max2 rfl) (by rfl) T.b_max (by decide +kernel) (pa_cons pe_int (pa_cons (pe_op op_add (pe_op op_sub (pe_ix (ix_tupK (K := K) rfl) (pv 6) pe_int (fun _ _ => rfl)) pe_int) (pv 7)) pa_nil))) (pa_cons (pv 3) (pa_cons (pv 4) pa_nil)))))))))
    pss_nil)
    (pss_cons (ps_if (pt_cmpR op_le (pv 7) pe_int (nomark _))
    (pss_one (ps_ret (pe_tup (pa_cons (pe_ix (ix_tupK (K := K) rfl) (pv 6) pe_int (fun _ _ => rfl)) (pa_cons (pe_ix (ix_tupK (K := K) rfl) (pv 6) pe_int (fun _ _ => rfl)) (pa_cons (pe_callB (call_max2 rfl) (by rfl) T.b_max (by decide +kernel) (pa_cons pe_int (pa_cons (pe_op op_add (pe_op op_sub (pe_ix (ix_tupK (K := K) rfl) (pv 6) pe_int (fun _ _ => rfl)) pe_int) (pv 7)) pa_nil))) (pa_cons (pe_op op_add (pe_ix (ix_tupK (K := K) rfl) (pv 6) pe_int (fun _ _ => rfl)) (pe_ix (ix_tupK (K := K) rfl) (pv 6) pe_int (fun _ _ => rfl))) (pa_cons (pv 3) (pa_cons (pv 4) pa_nil)))))))))
    pss_nil)
    (pss_cons (ps_if (pt_cmpR op_eq (pv 7) pe_int (nomark _))
    (pss_one (ps_ret (pe_tup (pa_cons (pe_ix (ix_tupK (K := K) rfl) (pv 6) pe_int (fun _ _ => rfl)) (pa_cons (pe_ix (ix_tupK (K := K) rfl) (pv 6) pe_int (fun _ _ => rfl)) (pa_cons (pe_op op_add (pe_ix (ix_tupK (K := K) rfl) (pv 6) pe_int (fun _ _ => rfl)) (pe_ix (ix_tupK (K := K) rfl) (pv 6) pe_int (fun _ _ => rfl))) (pa_cons (pe_op op_add (pe_ix (ix_tupK (K := K) rfl) (pv 6) pe_int (fun _ _ => rfl)) (pe_ix (ix_tupK (K := K) rfl) (pv 6) pe_int (fun _ _ => rfl))) (pa_cons (pv 3) (pa_cons (pv 4) pa_nil)))))))))
    pss_nil)
    (pss_one (ps_ret (pe_tup (pa_cons (pe_ix (ix_tupK (K := K) rfl) (pv 6) pe_int (fun _ _ => rfl)) (pa_cons (pe_ix (ix_tupK (K := K) rfl) (pv 6) pe_int (fun _ _ => rfl)) (pa_cons (pe_ix (ix_tupK (K := K) rfl) (pv 6) pe_int (fun _ _ => rfl)) (pa_cons (pe_ix (ix_tupK (K := K) rfl) (pv 6) pe_int (fun _ _ => rfl)) (pa_cons (pv 3) (pa_cons (pv 4) pa_nil))))))))))))))))))), ?_⟩
    walk_at "go"
    refine ⟨_, _, rfl, hd, cdivw (by decide) (by decide), fun f H1 f0 f1 b1 hd1 => ?_⟩
    walk_at "go"
    refine ⟨_, _, rfl, hd1, cdivw (by decide) (by decide), fun wi H2 wi0 wi1 b2 hd2 => ?_⟩
    replace b2 := b1.trans b2
    walk_at "go"
    refine ⟨_, _, rfl, hd2, cdivw (by decide) (by decide), fun hi H3 hi0 hi1 b3 hd3 => ?_⟩
    replace b3 := b2.trans b3
    walk_at "go"
    refine ⟨_, _, rfl, ?_⟩
    walk_at "go"
    refine ⟨_, _, rfl, hd3, cdivw (by decide) (by decide), fun l H4 l0 l1 b4 hd4 => ?_⟩
    replace b4 := b3.trans b4
    walk_at "go"
    refine ⟨_, _, rfl, hd4, cdivw (by decide) (by decide), fun u H5 u0 u1 b5 hd5 => ?_⟩
    replace b5 := b4.trans b5
    walk_at "go"
    refine ⟨_, _, rfl, hd5, cdivw (by decide) (by decide), fun v H6 v0 v1 b6 hd6 => ?_⟩
    replace b6 := b5.trans b6
    clear b1 b2 b3 b4 b5 hd hd1 hd2 hd3 hd4 hd5
    walk_at "go"
    refine ⟨szl (by show 6 ≤ 1000; decide), fun t nt => ?_⟩
    have ta := hd6.ne nt
    have s7 := same_new (o := .tup [.int f, .int (f + l), .int u, .int v, .int (1 + wi), .int (1 + hi)]) (Same.refl H6) nt
    have et : upd H6 t (.tup [.int f, .int (f + l), .int u, .int v, .int (1 + wi), .int (1 + hi)]) t = _ := upd_same
    have b7 := b6.sm s7
    have hd7 := hd6.same s7
    generalize upd H6 t (.tup [.int f, .int (f + l), .int u, .int v, .int (1 + wi), .int (1 + hi)]) = H7 at et b7 hd7 ⊢
    have dh : DB (B.length + 1) ⟨f, f + l, u, v, 1 + wi, 1 + hi⟩ := ⟨f0, by show f ≤ f + l; omega, by show f + l ≤ 11; omega, u0, by show u ≤ _; omega, v0, by show v ≤ _; omega, by show 1 ≤ 1 + wi; omega, by show 1 + wi ≤ 3; omega, by show 1 ≤ 1 + hi; omega, by show 1 + hi ≤ 3; omega⟩
    clear b6 hd6 s7 nt
    have eL7 := b7.but _ _ La eL
    have ra7 := ra.but b7.but
    walk_at "go"
    intro m nm
    have s8 := same_new (o := .lst []) (Same.refl H7) nm
    have b8 := b7.sm s8
    have hd8 := hd7.same s8
    have ra8 := ra7.same s8
    refine ⟨.list (B.map bxD), .list [], .lst (SqL.of (s8 _ _ eL7)) ra8.dpa, .lst (SqL.of upd_same) .nil, ok_shaped (ok_map (fun _ => rfl) _).1, ok_shaped rfl, ?_⟩
    rw [eqv_nil]
    replace et := s8 _ _ et
    replace eL7 := s8 _ _ eL7
    generalize upd H7 m (.lst []) = H8 at et eL7 b8 hd8 ra8 ⊢
    clear b7 hd7 ra7 s8 nm
    have lr := ra.len
    walk_at "go"
    cases hB : B.isEmpty with
    | true =>
      walk_at "go"
      exact q t ⟨f, f + l, u, v, 1 + wi, 1 + hi⟩ H8 b8 hd8 ta et dh
    | false =>
      have lB1 : 1 ≤ B.length := by
        cases B with
        | nil => cases hB
        | cons _ _ => exact Nat.succ_le_succ (Nat.zero_le _)
      walk_at "go"
      refine ⟨_, _, rfl, hd8, cdivw (by decide) (by decide), fun z H9 _ _ b9 hd9 => ?_⟩
      have b89 := b8.trans b9
      replace et := b9.but _ _ ta et
      walk_at "go"
      refine ite2 (fun e => ?_) (fun e => ?_)
      · walk_at "go"
        exact q t ⟨f, f + l, u, v, 1 + wi, 1 + hi⟩ H9 b89 hd9 ta et dh
      walk_at "go"
      have eL9 := b9.but _ _ La eL7
      replace ra8 := ra8.but b9.but
      refine ⟨L, rs, rfl, .inl (SqL.of eL9), ?_⟩
      walk_at "go"
      refine ⟨_, _, rfl, hd9, cdivw (by omega) (by omega), fun k H10 k0 k1 b10 hd10 => ?_⟩
      have b810 := b89.trans b10
      replace et := b10.but _ _ ta et
      obtain ⟨kn, rfl⟩ := Int.eq_ofNat_of_zero_le k0
      have hk : kn < B.length := by omega
      have eB : B[kn]? = some B[kn] := List.getElem?_eq_getElem hk
      obtain ⟨r, er, rr, ra'⟩ := (ra8.but b10.but).at eB
      have dbk := db B[kn] (List.getElem_mem hk)
      generalize B[kn] = o at rr dbk eB
      have eL10 := b10.but _ _ La eL9
      clear b9 b89 hd9 hd8 b8 ra8 eL9
      refine ⟨L, _, _, _, rfl, rfl, SqL.of eL10, atI_nat er, ?_⟩
      walk_at "go"
      refine ⟨_, _, rfl, hd10, cdivw (by decide) (by decide), fun way H11 w0 w1 b11 hd11 => ?_⟩
      replace et := b11.but _ _ ta et
      replace rr : Row6 H11 r o := b11.but _ _ ra' rr
      replace b11 := b810.trans b11
      clear b810 b10 hd10 eL10 eL eL7
      walk_at "go"
      have fin : ∀ f' l' u' v' : Int, (0 ≤ f' ∧ f' ≤ l' ∧ l' ≤ 11 ∧ 0 ≤ u' ∧ u' ≤ 5 + 3 * ((B.length : Int) + 1) ∧ 0 ≤ v' ∧ v' ≤ 5 + 3 * ((B.length : Int) + 1)) → ∀ t', H11 t' = none → Q (.ref t') (upd H11 t' (.tup [.int f', .int l', .int u', .int v', .int (1 + wi), .int (1 + hi)])) := by
        rintro f' l' u' v' ⟨i1, i2, i3, i4, i5, i6, i7⟩ t' nt'
        have s12 := same_new (o := .tup [.int f', .int l', .int u', .int v', .int (1 + wi), .int (1 + hi)]) (Same.refl H11) nt'
        exact q t' ⟨f', l', u', v', 1 + wi, 1 + hi⟩ _ (b11.sm s12) (hd11.same s12) (hd11.ne nt') upd_same
          ⟨i1, i2, i3, i4, by show u' ≤ _; omega, i6, by show v' ≤ _; omega, by show 1 ≤ 1 + wi; omega, by show 1 + wi ≤ 3; omega, by show 1 ≤ 1 + hi; omega, by show 1 + hi ≤ 3; omega⟩
      have hmax : ∀ x k : Int, x ≤ k → 0 ≤ k → 0 ≤ (if x > 0 then x else 0) ∧ (if x > 0 then x else 0) ≤ k := by
        intro x k h1 h2
        split <;> omega
      obtain ⟨g1, g2, g3, g4, g5, g6, g7, g8, g9, g10, g11⟩ := dbk
      unfold Row6 at rr
      refine ite2 (fun e => ?_) (fun e => ?_)
      · walk_at "go"
        exact q r o H11 b11 hd11 ra' rr ⟨g1, g2, g3, g4, by omega, g6, by omega, g8, g9, g10, g11⟩
      walk_at "go"
      refine ite2 (fun e2 => ?_) (fun e2 => ?_)
      · have e2 := of_decide_eq_true e2
        walk_at "gt"
        have m1 := hmax (o.v - 1 + way) (5 + 3 * ((B.length : Int) + 1)) (by omega) (by omega)
        refine ite2 (fun e5 => ?_) (fun e5 => ?_)
        · have e5 := of_decide_eq_true e5
          walk_at "gt"
          refine ⟨_, _, rfl, ?_⟩
          walk_at "gt"
          refine ⟨szl (by show 6 ≤ 1000; decide), fin _ _ _ _ ⟨g1, ?_, ?_, ?_, ?_, m1⟩⟩
          all_goals omega
        · walk_at "gt"
          refine ⟨_, _, rfl, ?_⟩
          walk_at "gt"
          refine ⟨szl (by show 6 ≤ 1000; decide), fin _ _ _ _ ⟨g1, g2, g3, ?_, ?_, m1⟩⟩
          all_goals omega
      walk_at "go"
      refine ite2 (fun e3 => ?_) (fun e3 => ?_)
      · have e3 := of_decide_eq_true e3
        walk_at "gt"
        have m1 := hmax (o.u - 3 + way) (5 + 3 * ((B.length : Int) + 1)) (by omega) (by omega)
        refine ⟨_, _, rfl, ?_⟩
        walk_at "gt"
        refine ⟨szl (by show 6 ≤ 1000; decide), fin _ _ _ _ ⟨g1, g2, g3, m1.1, m1.2, ?_, ?_⟩⟩
        all_goals omega
      walk_at "go"
      refine ite2 (fun e4 => ?_) (fun e4 => ?_)
      · walk_at "gt"
        refine ⟨szl (by show 6 ≤ 1000; decide), fin _ _ _ _ ⟨g1, g2, g3, ?_, ?_, ?_, ?_⟩⟩
        all_goals omega
      · walk_at "gt"
        refine ⟨szl (by show 6 ≤ 1000; decide), fin _ _ _ _ ⟨?_, ?_, ?_, ?_, ?_, ?_, ?_⟩⟩
        all_goals omega
end

/-! ### == and != of an own class with things of other kinds -/
section
variable {X : Cx} {pins : List (Addr × Obj)} {σ : L2.St} {H : Hp} {s : Shared} {CX : CXT} {n : Nat} {f C : Addr} {fd : FuncData} {ps : List Str} {sp : Sp} {E : XK} {vs : List V} {us : List Value} {Q : VK} {A1 : Around}
/-- what may stand at the right of an own ==: an instance of the same class, a thing of a built-in type -/
inductive Oth2 (K : PySem.W.Frag) (C : Addr) (H : Hp) : V → Prop where
  | kind {y : V} (T : String) (h : TyX K H y (.type T)) (hs : PySem.W.subIn K (.type T) (.ref C) = some false) : Oth2 K C H y
  | ins {b dx : Addr} {fs : List (Str × V)} (h : H b = some (.ins C dx fs)) : Oth2 K C H (.ref b)
theorem Oth2.typ {y : V} {u : Value} (I : Inv X pins σ H s) (oth : Oth2 X.K C H y) (ry : RelV y u) : ∃ tb, PySem.W.Looks (model X.prog X.w) s.heap (typeOf u) tb ∧ (tb = .ref C ∨ ∃ T, tb = .type T ∧ PySem.W.subIn X.K (.type T) (.ref C) = some false) := by
  cases oth with
  | kind T h hs =>
    obtain ⟨P, k, p, _⟩ := kit_of I ry h
    exact ⟨_, k.1 _ _ I.kIn p, .inr ⟨T, rfl, hs⟩⟩
  | ins hb2 =>
    cases ry
    obtain ⟨mB, J', _⟩ := ins_get I.hok hb2
    obtain ⟨od', J', _⟩ := J'.look
    exact ⟨_, J'.type, .inl rfl⟩
def rEqOwn2 (K : PySem.W.Frag) (neg : Bool) (C : Addr) (sp : Sp) (E : XK) : R2 := fun x y H Q => ∃ a dx fs, x = .ref a ∧ H a = some (.ins C dx fs) ∧ Oth2 K C H y ∧ sp [.ref a, y] H (fun v H' => ∃ b : Bool, v = .bl b ∧ Q (.bl (if neg then !b else b)) H') E
theorem op_eqOwn2 (M : OwnM X.K C "__eq__" f) (F : FnOk X.prog X.w X.K X.mg X.base CX n f fd ps sp) (hb : L2.Binds X.K fd ps []) (hx : Passes CX X E) (hr : Room n X.A) :
    OpR X (compareOp .Eq) (rEqOwn2 X.K false C sp E) := by
  intro pins s σ H x y v u Q I rx ry h
  obtain ⟨a, dx, fs, rfl, ha, oth, h⟩ := h
  cases rx
  obtain ⟨mA, J, _⟩ := ins_get I.hok ha
  obtain ⟨od, J, _⟩ := J.look
  obtain ⟨m, hF⟩ := I.fr
  have back : wpAny (model X.prog X.w) X.A (call (.ref f) [.ref a, u]) (PySem.W.CmpBack (EP X pins σ Q)) X.xe s := by
    refine wpAny_mono (run_own (⟨hr, rfl⟩ : Sub X n X.A) F hb hx I (.cons val_ref (.cons ry .nil)) h) (fun w s' q => ?_) fun _ _ z => z
    obtain ⟨z, H', I', rz, b, rfl, q⟩ := q
    cases rz
    exact ⟨.bl b, H', I', rfl, q⟩
  show wpAny (model X.prog X.w) X.A (richCompare .Eq (.ref a) u) (EP X pins σ Q) X.xe s
  obtain ⟨tb, hT, e | ⟨T, e, hs⟩⟩ := oth.typ I ry
  · subst e
    exact PySem.W.cmp_K (op := .Eq) (tb := .ref C) hr.units0 hF I.ok.mod.kin J hT (by simp [PySem.W.notFirst]) M.at_ M.fn back
  · subst e
    exact PySem.W.cmp_K (op := .Eq) (tb := .type T) hr.units0 hF I.ok.mod.kin J hT (by simp [PySem.W.notFirst, hs]) M.at_ M.fn back
theorem op_neOwn2 (M : OwnM X.K C "__eq__" f) (N : NeC X.K C) (F : FnOk X.prog X.w X.K X.mg X.base CX n f fd ps sp) (hb : L2.Binds X.K fd ps []) (hx : Passes CX X E) (hr : Room (n + 1) X.A) :
    OpR X (compareOp .NotEq) (rEqOwn2 X.K true C sp E) := by
  intro pins s σ H x y v u Q I rx ry h
  obtain ⟨a, dx, fs, rfl, ha, oth, h⟩ := h
  cases rx
  obtain ⟨mA, J, _⟩ := ins_get I.hok ha
  obtain ⟨od, J, _⟩ := J.look
  obtain ⟨m, hF⟩ := I.fr
  have sb : Sub X n X.A.in1 := Sub.in1 ⟨hr, rfl⟩
  have back : wpAny (model X.prog X.w) X.A.in1 (call (.ref f) [.ref a, u]) (fun v s' => ∃ b, v = .bool b ∧ EP X pins σ Q (.bool (!b)) s') X.xe s := by
    refine wpAny_mono (run_own sb F hb hx I (.cons val_ref (.cons ry .nil)) h) (fun w s' q => ?_) fun _ _ z => z
    obtain ⟨z, H', I', rz, b, rfl, q⟩ := q
    cases rz
    exact ⟨b, rfl, .bl (!b), H', I', rfl, q⟩
  have one : wpAny (model X.prog X.w) X.A (tryCompare (.ref a) "__ne__" u) (fun r s' => ∃ v, r = some v ∧ EP X pins σ Q v s') X.xe s := by
    unfold tryCompare
    refine wpAny_bind (ne_here N I.kIn J (wpAny_call (codeAny_call_builtin PySem.F.slot_object_ne.plain PySem.F.cmpEntry_ne (PySem.W.check_slot PySem.F.cmpKind_ne PySem.F.cmpSplit_ne (J.type.andThen (PySem.W.looks_mroIn I.kIn N.up)) (PySem.F.cmpArgs_ne _ _) ?_))))
    unfold Builtin.«object.__ne__»
    refine wpAny_bind (m := slotArgs "__ne__" 1 _) (wpAny_pure ?_)
    refine wpAny_bind (wpAny_cRoomFor sb.room.units0 ?_)
    refine wpAny_bind (m := callSpecialIfBound? (.ref a) (Str.ofString "__eq__") [u]) (PySem.W.ifBound_K I.kIn J M.at_ M.fn (wpAny_mono back (fun r s' q => ?_) fun _ _ z => z))
    obtain ⟨b, rfl, q⟩ := q
    exact wpAny_bind (wpAny_truthy_bool (wpAny_pure (wpAny_pure ⟨_, rfl, q⟩)))
  obtain ⟨tb, hT, hn⟩ := oth.typ I ry
  show wpAny (model X.prog X.w) X.A (richCompare .NotEq (.ref a) u) (EP X pins σ Q) X.xe s
  unfold richCompare
  simp only [oneThing_ref]
  refine wpAny_holding (wpAny_bind (wpAny_cRoomFor (hr.mono (Nat.le_succ n)).units0 ?_))
  refine wpAny_bind (J.type.here (wpAny_bind (hT.here ?_)))
  rcases hn with rfl | ⟨T, rfl, hs⟩
  · rw [if_neg (by simp)]
    refine wpAny_bind (wpAny_pure ?_)
    simp only [Bool.false_eq_true, if_false]
    refine wpAny_bind (wpAny_mono one (fun r s' ⟨v, e, q⟩ => ?_) fun _ _ z => z)
    subst e
    exact wpAny_pure q
  · rw [if_pos (by rfl)]
    refine wpAny_bind ((PySem.W.looks_subIn I.kIn hs).here ?_)
    simp only [Bool.false_eq_true, if_false]
    refine wpAny_bind (wpAny_mono one (fun r s' ⟨v, e, q⟩ => ?_) fun _ _ z => z)
    subst e
    exact wpAny_pure q
end
/-! ### C(e, .., k = v, ..) where the wish looks at the slots -/
section
variable {X : Cx} {CX : CXT} {n m : Nat} {f C : Addr} {fd : FuncData} {ps ks : List Str} {sp : Sp} {E : L2.St → XK} {x : Str} {p pos : Pos} {e : Expr} {es : List Expr} {kws : List Keyword} {t tk : TA} {g : List Value → List Value → List Value} {gV : List V → List V → List V}
theorem makeKS_run {E : XK} {pins : List (Addr × Obj)} {σ : L2.St} {H : Hp} {s : Shared} {Q : VK} {us ws : List Value} {vs zs : List V} (M : Mk X.K C f) (F : FnOk X.prog X.w X.K X.mg X.base CX n f fd ps sp) (hr : Room (n + 1) X.A) (hb : L2.KBn X.K fd ps (m + 1) ks g gV) (esc : PassesAt CX X σ E)
    (J : L2.Inv X pins σ H s) (r : Vals vs us) (rz : Vals zs ws) (l1 : vs.length = m) (l2 : zs.length = ks.length)
    (h : ∀ y dy, H y = none → H dy = none → dy ≠ y → sp (gV (.ref y :: vs) zs) (L2.upd (L2.upd H dy (.own y)) y (.ins C dy [])) (fun v H2 => v = .non ∧ Q (.ref y) H2) E) :
    wpAny (model X.prog X.w) X.A (call (.ref C) us (ks.zip ws)) (EP X pins σ Q) X.xe s := by
  generalize hn : s.heap.objs.size = k
  have wish := h (k + 1) k (J.hok.fresh (hn ▸ Nat.le_succ _)) (J.hok.fresh (hn ▸ Nat.le_refl _)) (Nat.ne_of_lt (Nat.lt_succ_self k))
  subst hn
  have J2 := L2.Inv.made (C := C) J
  have r1 : Vals (V.ref (s.heap.objs.size + 1) :: vs) (Value.ref (s.heap.objs.size + 1) :: us) := .cons val_ref r
  have r2 := hb.rel r1 rz
  have n1 : (Value.ref (s.heap.objs.size + 1) :: us).length = m + 1 := by
    rw [List.length_cons, ← r.length, l1]
  refine wpAny_call (make_map (f := f) J.kIn M.makes M.init (beq_iff_eq.mp M.fn) (codeAny_mono (F.run _ X.stack _ _ ⟨Value.ref (s.heap.objs.size + 1) :: us, ks.zip ws⟩ (g (Value.ref (s.heap.objs.size + 1) :: us) ws) _ _ E (hr.make C us (ks.zip ws))
    (J2.env0.make C us (ks.zip ws)) (hb.to _ (Value.ref (s.heap.objs.size + 1) :: us) ws J2.kIn n1 (rz.length.symm.trans l2)) r2 wish) fun res s' post => ?_))
  cases res with
  | error er => exact esc pins _ _ er s' J2 post
  | ok fl =>
    cases fl with
    | ret u =>
      obtain ⟨v, H', J3, rv, ev, w⟩ := J2.after post
      subst ev
      exact ⟨rv, ⟨V.ref (s.heap.objs.size + 1), H', J3, val_ref, w⟩⟩
    | next => exact post.elim
    | brk => exact post.elim
    | cont => exact post.elim
def tMakeKS (C : Addr) (m k : Nat) (sp : Sp) (gV : List V → List V → List V) (E : L2.St → XK) (t tk : TA) : TE := fun σ H Q => t σ H fun vs H1 => tk σ H1 fun zs H2 => vs.length = m ∧ zs.length = k ∧ ∀ y dy, H2 y = none → H2 dy = none → dy ≠ y →
  sp (gV (.ref y :: vs) zs) (L2.upd (L2.upd H2 dy (.own y)) y (.ins C dy [])) (fun v H3 => v = .non ∧ Q (.ref y) H3) (E σ)
theorem pe_makeKS (M : Mk X.K C f) (F : FnOk X.prog X.w X.K X.mg X.base CX n f fd ps sp) (hr : Room (n + 1) X.A) (hg : Gl X x) (hm : X.mg x = some (.ref C)) (hb : L2.KBn X.K fd ps (m + 1) ks g gV) (esc : ∀ σ, PassesAt CX X σ (E σ)) (ha : PA X (e :: es) t) (hkw : L2.PK X kws tk)
    (hall : (backToKw pos (keywordEach kws X.env)).all (·.1.isSome) = true := by rfl) (hks : (backToKw pos (keywordEach kws X.env)).filterMap (·.1) = ks := by rfl) (hdb : (x == ("__debug__" : Str)) = false := by decide)
    (he : starEach (e :: es) X.env = (false, eval e X.env) :: starEach es X.env := by rfl) (hpl : ((backTo pos (starEach (e :: es) X.env)).any (·.1) || (backToKw pos (keywordEach kws X.env)).any (·.1.isNone)) = false := by rfl) :
    PE X (.Call (.Name x p) (e :: es) kws pos) (tMakeKS C m ks.length sp gV E t tk) := by
  refine ⟨fun pins s σ H Q J h => ?_⟩
  refine wpAny_Call_Name_kw (ld_glob J hg hm ?_ hdb)
  refine PySem.W.callWith_KW (h₀ := X.base) J.ok.mod.kin M.kp hall (thn (ha.run pos pins s σ H _ J h) fun us s1 ⟨vs, H1, J1, r, q⟩ => ?_) hpl he
  refine thn (hkw.run pos pins s1 σ H1 _ J1 q) fun ws s2 ⟨zs, H2, J2, rz, l1, l2, q2⟩ => ⟨J2.kIn, ?_⟩
  rw [hks]
  exact makeKS_run M F hr hb (esc σ) J2 r rz l1 l2 q2
end

/-! ### one box by itself -/
theorem not_same2 {α : Type} {a : α} [Decidable (a = a)] : (!decide (a = a)) = false := by simp
theorem is_same2 {α : Type} {a : α} [Decidable (a = a)] : decide (a = a) = true := by simp
theorem trD_eqv (a b : Int × Int × Int) : PyData.eqv (trD a) (trD b) = decide (a = b) := by
  obtain ⟨a1, a2, a3⟩ := a
  obtain ⟨b1, b2, b3⟩ := b
  unfold trD
  rw [PyData.eqv, PyData.eqvAll, PyData.eqvAll, PyData.eqvAll, PyData.eqvAll, PyData.eqv, PyData.eqv, PyData.eqv]
  by_cases h1 : a1 = b1 <;> by_cases h2 : a2 = b2 <;> by_cases h3 : a3 = b3 <;> simp [h1, h2, h3]
theorem any_trD (M : List (Int × Int × Int)) (m : Int × Int × Int) : ((M.map trD).any fun z => PyData.eqv z (trD m)) = decide (m ∈ M) := by
  rw [List.any_map]
  by_cases h : m ∈ M
  · rw [decide_eq_true h, List.any_eq_true]
    exact ⟨m, h, by show PyData.eqv _ _ = true; rw [trD_eqv]; simp⟩
  · rw [decide_eq_false h, List.any_eq_false]
    intro x hx z
    have z2 : PyData.eqv (trD x) (trD m) = true := z
    rw [trD_eqv] at z2
    exact h (by rw [← of_decide_eq_true z2]; exact hx)
theorem ok_trDs (M : List (Int × Int × Int)) : okD 4 (.list (M.map trD)) = true ∧ okD 4 (.tuple (M.map trD)) = true := ok_map (fun _ => rfl) M
theorem bx_ok (b : Bx) : okD 4 (bxD b) = true := rfl
theorem inTr {K : PySem.W.Frag} {H : Hp} {t p : Addr} {xs : List V} {M : List (Int × Int × Int)} {m : Int × Int × Int} {Q : VK} (hx : H t = some (.tup [.int m.1, .int m.2.1, .int m.2.2])) (hp : H p = some (.lst xs)) (hM : Tr H xs M) (q : Q (.bl (decide (m ∈ M))) H) : rInD K (.ref t) (.ref p) H Q :=
  ⟨trD m, _, .tup (SqT.of hx) (.cons (.int _) (.cons (.int _) (.cons (.int _) .nil))), .lst (SqL.of hp) hM.dp, ok_shaped rfl, ok_shaped (ok_trDs M).1, by rw [any_trD]; exact q⟩
theorem HandOk.lst {H : Hp} {a : Addr} (h : HandOk H a) : ∃ zs, H a = Option.some (HO.lst zs) := let ⟨_, _, _, _, _, e, _⟩ := h; ⟨_, e⟩
theorem sqs_pos {b : Bx} (g : GoodB b) : 0 < (sqs b).length := by
  have h : (b.f, b.u, b.v) ∈ sqs b := (mem_sqs g.o0 g.d0).mpr (by
    have := g.fl
    have := g.o1
    have := g.d1
    unfold inB
    exact decide_eq_true ⟨Int.le_refl _, by assumption, Int.le_refl _, by show b.u < _; omega, Int.le_refl _, by show b.v < _; omega⟩)
  exact List.length_pos_of_mem h
theorem mem_dec {b : Bx} (g : GoodB b) {q : Int × Int × Int} : decide (q ∈ sqs b) = inB b q := by
  cases h : inB b q with
  | true => exact decide_eq_true ((mem_sqs g.o0 g.d0).mpr h)
  | false => exact decide_eq_false fun z => by have := (mem_sqs g.o0 g.d0).mp z; rw [h] at this; cases this
theorem ix6 {y : Nat} (h : y < 6) : ixN 6 (y : Int) = some y := by
  match y, h with
  | 0, _ => rfl
  | 1, _ => rfl
  | 2, _ => rfl
  | 3, _ => rfl
  | 4, _ => rfl
  | 5, _ => rfl
theorem other6 {b : Bx} (fl : b.f ≤ b.l) {y : Nat} (h : y < 6) : ∃ (z : Int) (c : Bx), [V.int b.f, .int b.l, .int b.u, .int b.v, .int b.o, .int b.d][y]? = some (.int z) ∧
    [V.int b.f, .int b.l, .int b.u, .int b.v, .int b.o, .int b.d].set y (.int (z + 1)) = [V.int c.f, .int c.l, .int c.u, .int c.v, .int c.o, .int c.d] ∧
    decide (b.f = c.f ∧ b.l = (if c.l > c.f then c.l else c.f) ∧ b.u = c.u ∧ b.v = c.v ∧ b.o = c.o ∧ b.d = c.d) = false := by
  match y, h with
  | 0, _ => exact ⟨_, ⟨b.f + 1, b.l, b.u, b.v, b.o, b.d⟩, rfl, rfl, decide_eq_false (by dsimp only; omega)⟩
  | 1, _ => exact ⟨_, ⟨b.f, b.l + 1, b.u, b.v, b.o, b.d⟩, rfl, rfl, decide_eq_false (by dsimp only; split <;> omega)⟩
  | 2, _ => exact ⟨_, ⟨b.f, b.l, b.u + 1, b.v, b.o, b.d⟩, rfl, rfl, decide_eq_false (by dsimp only; omega)⟩
  | 3, _ => exact ⟨_, ⟨b.f, b.l, b.u, b.v + 1, b.o, b.d⟩, rfl, rfl, decide_eq_false (by dsimp only; omega)⟩
  | 4, _ => exact ⟨_, ⟨b.f, b.l, b.u, b.v, b.o + 1, b.d⟩, rfl, rfl, decide_eq_false (by dsimp only; omega)⟩
  | 5, _ => exact ⟨_, ⟨b.f, b.l, b.u, b.v, b.o, b.d + 1⟩, rfl, rfl, decide_eq_false (by dsimp only; omega)⟩
theorem ButH.poke {a r : Addr} {H H' : Hp} {o : HO} (b : ButH a H H') (fr : ∀ c o, c ≠ a → H c = some o → c ≠ r) (ra : r ≠ a) : ButH a H (upd H' r o) :=
  ⟨fun c o nc e => (upd_ne (fr c o nc e)).trans (b.but c o nc e), fun l h => let ⟨u, e⟩ := b.hl l h; ⟨u, (upd_ne (Ne.symm ra)).trans e⟩⟩
theorem BoxAt.sm {C : Addr} {H H' : Hp} {x : Addr} {b : Bx} (h : BoxAt C H x b) (s : Same H H') : BoxAt C H' x b := let ⟨dx, e⟩ := h; ⟨dx, s _ _ e⟩
section
variable {P : Program} {w : World} {K : PySem.W.Frag} {mg : Str → Option Value} {base : Heap} {AD : Ads}
def spAlone : Sp := fun vs H Q _ => ∃ (a t : Addr) (b : Bx), vs = [.ref a, .ref t] ∧ HandOk H a ∧ t ≠ a ∧ Row6 H t b ∧ DB 20 b ∧ ∀ H', ButH a H H' → HandOk H' a → Q (.bl true) H'
theorem ok_l_alone (T : Top K mg AD) : FnOk P w K mg base CX0 6 AD.f_l_alone AD.d_l_alone P_l_alone (spAlone) := by
  refine T.D_l_alone.F.ok sc_l_alone (fun vs H Q E h => ?_) (fun cdv A outer s H vs Q E hr h => ?_)
  · obtain ⟨a, t, b, rfl, _⟩ := h
    rfl
  · obtain ⟨a, t, b, rfl, hd, ta, rt, db, q⟩ := h
    refine ⟨_, (pss_cons (ps_set (i := 2) sc_l_alone.nd rfl (Or.inl rfl) (callD T.D_l_kept (ok_l_kept T) hr (pa_cons (pv 1) pa_nil)))
    (pss_cons (ps_set (i := 3) sc_l_alone.nd rfl (Or.inl rfl) (callD T.D_l_squares (ok_l_squares T) hr (pa_cons (pv 1) pa_nil)))
    (pss_cons (ps_if (PW.pt (pw_or (pt_cmpR (op_neD hr.units) (callD T.D_l_boxed (ok_l_boxed T) hr (pa_cons (pv 2) pa_nil)) (pv 1) (nomark _)) (pw_or (pt_cmpR (op_neD hr.units) (pe_prop (pv 2) T.cl_Box T.p_Box_squares (ok_Box_squares T) (hr.mono (by decide)) T.D_Box_squares.b .nil pass0 (by rfl)) (pe_callTy call_tuple_of (by rfl) T.b_tuple (by decide +kernel) (pa_cons (pv 3) pa_nil)) (nomark _)) (pw_or1 (pt_cmpR op_ne (pe_callB (call_lenOwn T.o_Box___len__ (ok_Box___len__ T) T.D_Box___len__.b pass0 (hr.mono (by decide))) (by rfl) T.b_len (by decide +kernel) (pa_cons (pv 2) pa_nil)) (pe_callB (call_lenQ (K := K) rfl) (by rfl) T.b_len (by decide +kernel) (pa_cons (pv 3) pa_nil)) (nomark _))))))
    (pss_one (ps_ret pe_bl))
    pss_nil)
    (pss_cons (ps_for PassesOwn.never rfl (pi_range1 (by rfl) T.b_range (pa_cons pe_int pa_nil)) (pg_name (i := 4) sc_l_alone.nd rfl (Or.inl rfl))
    (pss_cons (ps_set (i := 5) sc_l_alone.nd rfl (Or.inl rfl) (pe_ix (ix_listK (K := K) rfl) (pv 3) (callD T.D_l_draw (ok_l_draw T) hr (pa_cons (pv 0) (pa_cons (pe_callB (call_lenQ (K := K) rfl) (by rfl) T.b_len (by decide +kernel) (pa_cons (pv 3) pa_nil)) pa_nil))) (fun _ _ => rfl)))
    (pss_cons (ps_if (pt_cmpR (op_notInOwn T.o_Box___contains__ (ok_Box___contains__ T) T.D_Box___contains__.b pass0 (hr.mono (by decide))) (pv 5) (pv 2) (by rfl))
    (pss_one (ps_ret pe_bl))
    pss_nil)
    (pss_cons (ps_set (i := 6) sc_l_alone.nd rfl (Or.inl rfl) (pe_tup (pa_cons (pe_op op_sub (pe_op op_add (pe_ix (ix_tupK (K := K) rfl) (pv 5) pe_int (fun _ _ => rfl)) (callD T.D_l_draw (ok_l_draw T) hr (pa_cons (pv 0) (pa_cons pe_int pa_nil)))) pe_int) (pa_cons (pe_op op_sub (pe_op op_add (pe_ix (ix_tupK (K := K) rfl) (pv 5) pe_int (fun _ _ => rfl)) (callD T.D_l_draw (ok_l_draw T) hr (pa_cons (pv 0) (pa_cons pe_int pa_nil)))) pe_int) (pa_cons (pe_op op_sub (pe_op op_add (pe_ix (ix_tupK (K := K) rfl) (pv 5) pe_int (fun _ _ => rfl)) (callD T.D_l_draw (ok_l_draw T) hr (pa_cons (pv 0) (pa_cons pe_int pa_nil)))) pe_int) pa_nil)))))
    (pss_one (ps_if (pt_cmpR op_ne (pe_cmpR (op_inOwn T.o_Box___contains__ (ok_Box___contains__ T) T.D_Box___contains__.b pass0 (hr.mono (by decide))) (pv 6) (pv 2) (by rfl)) (pe_cmpR (op_inDK (K := K) rfl (Sl.Room.units65 hr)) (pv 6) (pv 3) (by rfl)) (nomark _))
    (pss_one (ps_ret pe_bl))
    pss_nil))))))
    (pss_cons (ps_set (i := 7) sc_l_alone.nd rfl (Or.inl rfl) (pe_callTy (call_listQ (K := K) rfl) (by rfl) T.b_list (by decide +kernel) (pa_cons (pv 1) pa_nil)))
    (pss_cons (ps_set (i := 8) sc_l_alone.nd rfl (Or.inl rfl) (callD T.D_l_draw (ok_l_draw T) hr (pa_cons (pv 0) (pa_cons pe_int pa_nil))))
    (pss_cons (ps_asg (pe_op op_add (pe_ix (ix_listK (K := K) rfl) (pv 7) (pv 8) (fun _ _ => rfl)) pe_int) (pg_sub (pv 7) (pv 8) set_list))
    (pss_cons (ps_asg (pe_callB (call_max2 rfl) (by rfl) T.b_max (by decide +kernel) (pa_cons (pe_ix (ix_listK (K := K) rfl) (pv 7) pe_int (fun _ _ => rfl)) (pa_cons (pe_ix (ix_listK (K := K) rfl) (pv 7) pe_int (fun _ _ => rfl)) pa_nil))) (pg_sub (pv 7) pe_int set_list))
    (pss_cons (ps_if (PW.pt (pw_or (pt_cmpR (op_eqOwn2 T.o_Box___eq__ (ok_Box___eq__ T) T.D_Box___eq__.b pass0 (hr.mono (by decide))) (pv 2) (callD T.D_l_kept (ok_l_kept T) hr (pa_cons (pv 7) pa_nil)) (nomark _)) (pw_or (pt_not (pt_cmpR (op_eqOwn2 T.o_Box___eq__ (ok_Box___eq__ T) T.D_Box___eq__.b pass0 (hr.mono (by decide))) (pv 2) (callD T.D_l_kept (ok_l_kept T) hr (pa_cons (pv 1) pa_nil)) (nomark _))) (pw_or (pt_cmpR (op_eqOwn2 T.o_Box___eq__ (ok_Box___eq__ T) T.D_Box___eq__.b pass0 (hr.mono (by decide))) (pv 2) (pv 1) (nomark _)) (pw_or1 (pt_cmpR (op_eqOwn2 T.o_Box___eq__ (ok_Box___eq__ T) T.D_Box___eq__.b pass0 (hr.mono (by decide))) (pv 2) (pv 3) (nomark _)))))))
    (pss_one (ps_ret pe_bl))
    pss_nil)
    (pss_one (ps_ret (pe_and (pe_cmpR (op_eqD hr.units) (pe_prop (pv 2) T.cl_Box T.p_Box_squares (ok_Box_squares T) (hr.mono (by decide)) T.D_Box_squares.b .nil pass0 (by rfl)) (pe_callTy call_tuple_of (by rfl) T.b_tuple (by decide +kernel) (pa_cons (pv 3) pa_nil)) (nomark _)) (pe_one (pe_cmpR (op_eqD hr.units) (callD T.D_l_boxed (ok_l_boxed T) hr (pa_cons (pv 2) pa_nil)) (pv 1) (nomark _))))))))))))))), ?_⟩
    have gb := db.good (Nat.le_refl _)
    have lsq := gb.toOkB.len
    walk_at "go"
    refine ⟨t, b, rfl, .inr rt, fun x H1 s1 nx bx => ?_⟩
    have rt1 : Row6 H1 t b := s1 _ _ rt
    walk_at "go"
    refine ⟨t, b, rfl, rt1, gb.toOkB, fun p xs H2 s2 np ep tr => ?_⟩
    have xa : x ≠ a := hd.ne nx
    have pa : p ≠ a := (hd.same s1).ne np
    have b2 : ButH a H H2 := ((ButH.refl a H).sm s1).sm s2
    have hd2 := (hd.same s1).same s2
    replace bx := bx.sm s2
    have rt2 : Row6 H2 t b := s2 _ _ rt1
    clear s1 s2 nx np hd rt rt1
    have ltr := tr.len
    walk_at "go"
    refine ⟨x, b, rfl, bx, fun y ny => ?_⟩
    have s3 := same_new (o := .tup [.int b.f, .int b.l, .int b.u, .int b.v, .int b.o, .int b.d]) (Same.refl H2) ny
    walk_at "go"
    refine neD_same (d := bxD b) (row_dp (b := b) (by exact upd_same)) (row_dp (s3 _ _ rt2)) (bx_ok b) ?_
    walk_at "go"
    replace bx := bx.sm s3
    replace rt2 := s3 _ _ rt2
    replace ep := s3 _ _ ep
    replace tr := tr.mono s3
    replace b2 := b2.sm s3
    replace hd2 := hd2.same s3
    generalize upd H2 y (.tup [.int b.f, .int b.l, .int b.u, .int b.v, .int b.o, .int b.d]) = H3 at bx rt2 ep tr b2 hd2 ⊢
    clear s3 ny
    walk_at "go"
    have bx' := bx
    obtain ⟨dx, ex⟩ := bx'
    refine ⟨x, dx, _, rfl, ex, x, b, rfl, bx, gb.toOkB, fun p2 xs2 H4 s4 np2 ep2 tr2 => ?_⟩
    walk_at "go"
    refine ⟨p, xs, rfl, .inl ⟨SqL.of (s4 _ _ ep), fun l nl => ?_⟩⟩
    have s5 := same_new (o := .tup xs) (Same.refl H4) nl
    walk_at "go"
    refine neD_same (d := .tuple ((sqs b).map trD)) (.tup (SqT.of (s5 _ _ ep2)) (tr2.mono s5).dp) (.tup (SqT.of upd_same) ((tr.mono s4).mono s5).dp) (ok_trDs _).2 ?_
    replace s5 := s4.trans s5
    replace bx := bx.sm s5
    replace ex := s5 _ _ ex
    replace rt2 := s5 _ _ rt2
    replace ep := s5 _ _ ep
    replace tr := tr.mono s5
    replace b2 := b2.sm s5
    replace hd2 := hd2.same s5
    generalize upd H4 l (.tup xs) = H5 at bx ex rt2 ep tr b2 hd2 ⊢
    clear s5 s4 np2 ep2 tr2 nl
    walk_at "go"
    refine ⟨x, dx, _, rfl, ex, x, b, rfl, bx, gb.toOkB, fun H6 s6 => ⟨_, rfl, by omega, ?_⟩⟩
    replace bx := bx.sm s6
    replace ex := s6 _ _ ex
    replace rt2 := s6 _ _ rt2
    replace ep := s6 _ _ ep
    replace tr := tr.mono s6
    replace b2 := b2.sm s6
    replace hd2 := hd2.same s6
    clear s6
    walk_at "go"
    rw [ltr, not_same2]
    walk_at "go"
    have pos : 0 < (sqs b).length := sqs_pos gb
    refine for_it (walk_range (lo := 0) (n := (3 : Int).toNat)) (fun i σ H' => ∃ o4 o5 o6, σ = [some (.ref a), some (.ref t), some (.ref x), some (.ref p), o4, o5, o6, none, none] ∧ ButH a H6 H' ∧ HandOk H' a)
      ⟨none, none, none, rfl, ButH.refl _ _, hd2⟩ (fun _ _ _ _ _ => trivial) ?_ ?_
    · rintro k w1 σ Ha Hb hk ⟨o4, o5, o6, rfl, bt, hda⟩ ⟨rfl, rfl⟩
      have ep1 := bt.but _ _ pa ep
      have ex1 := bt.but _ _ xa ex
      obtain ⟨zs, ez⟩ := hd2.lst
      have tr1 := tr.but ez bt.but
      walk_at "go"
      refine ⟨_, _, rfl, hda, cdivw (by omega) (by omega), fun d1 Hc d10 d11 b1 hdc => ?_⟩
      replace ep1 := b1.but _ _ pa ep1
      replace ex1 := b1.but _ _ xa ex1
      obtain ⟨zs1, ez1⟩ := hda.lst
      replace tr1 := tr1.but ez1 b1.but
      obtain ⟨kn, rfl⟩ := Int.eq_ofNat_of_zero_le d10
      have hkn : kn < (sqs b).length := by omega
      obtain ⟨tq, etq, eq⟩ := tr1.at (List.getElem?_eq_getElem hkn)
      have mq := List.getElem_mem hkn
      generalize (sqs b)[kn] = m at etq eq mq
      have tqa : tq ≠ a := fun z => by rw [z] at eq; obtain ⟨zs2, ez2⟩ := hdc.lst; rw [ez2] at eq; cases eq
      walk_at "go"
      refine ⟨p, _, _, _, rfl, rfl, SqL.of ep1, atI_nat etq, ?_⟩
      walk_at "go"
      have im : inB b m = true := (mem_sqs gb.o0 gb.d0).mp mq
      refine ⟨x, dx, _, rfl, ex1, x, tq, b, m, rfl, ⟨dx, ex1⟩, eq, _, rfl, ?_⟩
      rw [im]
      walk_at "gt"
      refine ⟨_, _, rfl, hdc, cdivw (by decide) (by decide), fun e1 Hd _ _ b3 hdd => ?_⟩
      replace ep1 := b3.but _ _ pa ep1
      replace ex1 := b3.but _ _ xa ex1
      obtain ⟨zs2, ez2⟩ := hdc.lst
      replace tr1 := tr1.but ez2 b3.but
      replace eq := b3.but _ _ tqa eq
      replace b1 := b1.trans b3
      clear b3 ez1 ez2 etq
      walk_at "gt"
      refine ⟨_, _, rfl, hdd, cdivw (by decide) (by decide), fun e2 He _ _ b3 hde => ?_⟩
      replace ep1 := b3.but _ _ pa ep1
      replace ex1 := b3.but _ _ xa ex1
      obtain ⟨zs2, ez2⟩ := hdd.lst
      replace tr1 := tr1.but ez2 b3.but
      replace eq := b3.but _ _ tqa eq
      replace b1 := b1.trans b3
      clear b3 ez2
      walk_at "gt"
      refine ⟨_, _, rfl, hde, cdivw (by decide) (by decide), fun e3 Hf _ _ b3 hdf => ?_⟩
      replace ep1 := b3.but _ _ pa ep1
      replace ex1 := b3.but _ _ xa ex1
      obtain ⟨zs2, ez2⟩ := hde.lst
      replace tr1 := tr1.but ez2 b3.but
      replace b1 := b1.trans b3
      clear b3 ez2 eq
      walk_at "gt"
      refine ⟨szl (by show 3 ≤ 1000; decide), fun n nn => ?_⟩
      walk_at "gt"
      have s7 := same_new (o := .tup [.int (m.1 + e1 - 1), .int (m.2.1 + e2 - 1), .int (m.2.2 + e3 - 1)]) (Same.refl Hf) nn
      refine ⟨x, dx, _, rfl, s7 _ _ ex1, x, n, b, (m.1 + e1 - 1, m.2.1 + e2 - 1, m.2.2 + e3 - 1), rfl, ⟨dx, s7 _ _ ex1⟩, upd_same, _, rfl, ?_⟩
      walk_at "gt"
      refine inTr (m := (m.1 + e1 - 1, m.2.1 + e2 - 1, m.2.2 + e3 - 1)) upd_same (s7 _ _ ep1) (tr1.mono s7) ?_
      rw [mem_dec gb]
      walk_at "gt"
      rw [if_neg Bool.false_ne_true, not_same2]
      walk_at "gt"
      exact ⟨_, _, _, rfl, (bt.trans b1).sm s7, hdf.same s7⟩
    · rintro σ Ha ⟨o4, o5, o6, rfl, bt, hda⟩
      have ep1 := bt.but _ _ pa ep
      have ex1 := bt.but _ _ xa ex
      obtain ⟨zs, ez⟩ := hd2.lst
      have tr1 := tr.but ez bt.but
      have rt1 : Row6 Ha t b := bt.but _ _ ta rt2
      clear ep ex bx tr rt2
      walk_at "go"
      refine ⟨t, _, rfl, .inr (SqT.of rt1), fun r nr => ?_⟩
      have ra : r ≠ a := hda.ne nr
      have fr : ∀ c o, c ≠ a → H c = some o → c ≠ r := fun c o nc e z => by
        have e2 := (b2.trans bt).but c o nc e
        rw [z, nr] at e2
        cases e2
      obtain ⟨l0, hl0, rl⟩ := hda.apart nr
      have s7 := same_new (o := .lst [.int b.f, .int b.l, .int b.u, .int b.v, .int b.o, .int b.d]) (Same.refl Ha) nr
      have er : upd Ha r (.lst [.int b.f, .int b.l, .int b.u, .int b.v, .int b.o, .int b.d]) r = _ := upd_same
      have rt3 : Row6 _ t b := s7 _ _ rt1
      have ep3 := s7 _ _ ep1
      have ex3 := s7 _ _ ex1
      have tr3 := tr1.mono s7
      have hd3 := hda.same s7
      replace hl0 := hl0.same s7
      have b3 := (b2.trans bt).sm s7
      have rp : r ≠ p := fun z => by rw [z, ep1] at nr; cases nr
      have rx : r ≠ x := fun z => by rw [z, ex1] at nr; cases nr
      have rt' : r ≠ t := fun z => by unfold Row6 at rt1; rw [z, rt1] at nr; cases nr
      generalize upd Ha r (.lst [.int b.f, .int b.l, .int b.u, .int b.v, .int b.o, .int b.d]) = H7 at er rt3 ep3 ex3 tr3 hd3 hl0 b3 ⊢
      clear s7 nr rt1 ep1 ex1 tr1 hda bt b2 ez
      walk_at "go"
      refine ⟨_, _, rfl, hd3, cdivw (by decide) (by decide), fun y H8 y0 y1 b4 hd4 => ?_⟩
      obtain ⟨y, rfl⟩ := Int.eq_ofNat_of_zero_le y0
      replace er := b4.but _ _ ra er
      replace rt3 : Row6 H8 t b := b4.but _ _ ta rt3
      replace ep3 := b4.but _ _ pa ep3
      replace ex3 := b4.but _ _ xa ex3
      obtain ⟨zs, ez⟩ := hd3.lst
      replace tr3 := tr3.but ez b4.but
      replace hl0 := b4.hl _ hl0
      replace b3 := b3.trans b4
      clear b4 hd3 ez
      obtain ⟨z, c, g1, g2, g3⟩ := other6 (b := b) gb.fl (y := y) (by omega)
      have hix : ixN 6 (y : Int) = some y := ix6 (by omega)
      walk_at "go"
      refine ⟨r, _, _, _, rfl, rfl, SqL.of er, atI_nat g1, ?_⟩
      walk_at "go"
      refine ⟨r, _, (y : Int), y, rfl, rfl, er, hix, ?_⟩
      rw [g2]
      replace tr3 := tr3.but er (But.upd (o := .lst [.int c.f, .int c.l, .int c.u, .int c.v, .int c.o, .int c.d]) (But.refl r _))
      replace hd4 := hd4.poke (o := .lst [.int c.f, .int c.l, .int c.u, .int c.v, .int c.o, .int c.d]) hl0 rl ra
      replace rt3 : Row6 _ t b := (upd_ne (o := .lst [.int c.f, .int c.l, .int c.u, .int c.v, .int c.o, .int c.d]) (Ne.symm rt')).trans rt3
      replace ep3 := (upd_ne (o := .lst [.int c.f, .int c.l, .int c.u, .int c.v, .int c.o, .int c.d]) (Ne.symm rp)).trans ep3
      replace ex3 := (upd_ne (o := .lst [.int c.f, .int c.l, .int c.u, .int c.v, .int c.o, .int c.d]) (Ne.symm rx)).trans ex3
      replace hl0 : Hl _ a l0 := let ⟨u, e⟩ := hl0; ⟨u, (upd_ne (o := .lst [.int c.f, .int c.l, .int c.u, .int c.v, .int c.o, .int c.d]) (Ne.symm ra)).trans e⟩
      replace b3 := b3.poke (o := .lst [.int c.f, .int c.l, .int c.u, .int c.v, .int c.o, .int c.d]) fr ra
      replace er : upd H8 r (.lst [.int c.f, .int c.l, .int c.u, .int c.v, .int c.o, .int c.d]) r = _ := upd_same
      generalize upd H8 r (.lst [.int c.f, .int c.l, .int c.u, .int c.v, .int c.o, .int c.d]) = H9 at er rt3 ep3 ex3 tr3 hd4 hl0 b3 ⊢
      clear g1 g2 hix
      walk_at "go"
      refine ⟨_, _, rfl, ?_⟩
      walk_at "go"
      generalize hm : (if c.l > c.f then c.l else c.f) = m at g3 ⊢
      rw [show ([V.int c.f, V.int c.l, V.int c.u, V.int c.v, V.int c.o, V.int c.d].set (Int.toNat 1) (V.int m)) = [.int c.f, .int m, .int c.u, .int c.v, .int c.o, .int c.d] from rfl]
      replace tr3 := tr3.but er (But.upd (o := .lst [.int c.f, .int m, .int c.u, .int c.v, .int c.o, .int c.d]) (But.refl r _))
      replace hd4 := hd4.poke (o := .lst [.int c.f, .int m, .int c.u, .int c.v, .int c.o, .int c.d]) hl0 rl ra
      replace rt3 : Row6 _ t b := (upd_ne (o := .lst [.int c.f, .int m, .int c.u, .int c.v, .int c.o, .int c.d]) (Ne.symm rt')).trans rt3
      replace ep3 := (upd_ne (o := .lst [.int c.f, .int m, .int c.u, .int c.v, .int c.o, .int c.d]) (Ne.symm rp)).trans ep3
      replace ex3 := (upd_ne (o := .lst [.int c.f, .int m, .int c.u, .int c.v, .int c.o, .int c.d]) (Ne.symm rx)).trans ex3
      replace b3 := b3.poke (o := .lst [.int c.f, .int m, .int c.u, .int c.v, .int c.o, .int c.d]) fr ra
      replace er : upd H9 r (.lst [.int c.f, .int m, .int c.u, .int c.v, .int c.o, .int c.d]) r = _ := upd_same
      generalize upd H9 r (.lst [.int c.f, .int m, .int c.u, .int c.v, .int c.o, .int c.d]) = G0 at er rt3 ep3 ex3 tr3 hd4 b3 ⊢
      clear hl0 fr rx rp rt' hm
      refine ⟨r, ⟨c.f, m, c.u, c.v, c.o, c.d⟩, rfl, .inl er, fun z1 G1 s1 nz1 bz1 => ?_⟩
      replace ex3 := s1 _ _ ex3
      replace rt3 : Row6 G1 t b := s1 _ _ rt3
      replace ep3 := s1 _ _ ep3
      replace tr3 := tr3.mono s1
      replace hd4 := hd4.same s1
      replace b3 := b3.sm s1
      clear s1 er
      walk_at "go"
      obtain ⟨dz, ez1⟩ := bz1
      refine ⟨x, dx, _, rfl, ex3, .ins ez1, x, _, b, rfl, ⟨dx, ex3⟩, .inl ⟨z1, ⟨c.f, m, c.u, c.v, c.o, c.d⟩, rfl, ⟨dz, ez1⟩, _, rfl, ?_⟩⟩
      rw [if_neg Bool.false_ne_true, g3]
      clear ez1 g3
      walk_at "go"
      refine ⟨t, b, rfl, .inr rt3, fun z2 G2 s2 nz2 bz2 => ?_⟩
      replace ex3 := s2 _ _ ex3
      replace rt3 : Row6 G2 t b := s2 _ _ rt3
      replace ep3 := s2 _ _ ep3
      replace tr3 := tr3.mono s2
      replace hd4 := hd4.same s2
      replace b3 := b3.sm s2
      clear s2
      walk_at "go"
      obtain ⟨dz, ez1⟩ := bz2
      refine ⟨x, dx, _, rfl, ex3, .ins ez1, x, _, b, rfl, ⟨dx, ex3⟩, .inl ⟨z2, b, rfl, ⟨dz, ez1⟩, _, rfl, ?_⟩⟩
      rw [if_neg Bool.false_ne_true, show decide (b.f = b.f ∧ b.l = b.l ∧ b.u = b.u ∧ b.v = b.v ∧ b.o = b.o ∧ b.d = b.d) = true by simp]
      clear ez1
      walk_at "go"
      refine ⟨x, dx, _, rfl, ex3, .kind "tuple" (.base (.tup rt3)) T.subt_Box, x, .ref t, b, rfl, ⟨dx, ex3⟩, .inr ⟨_, .base (.tup rt3), T.it_tuple_Box, _, rfl, ?_⟩⟩
      rw [if_neg Bool.false_ne_true]
      walk_at "go"
      refine ⟨x, dx, _, rfl, ex3, .kind "list" (.base (.lst ep3)) T.subl_Box, x, .ref p, b, rfl, ⟨dx, ex3⟩, .inr ⟨_, .base (.lst ep3), T.it_list_Box, _, rfl, ?_⟩⟩
      rw [if_neg Bool.false_ne_true]
      walk_at "go"
      refine ⟨x, dx, _, rfl, ex3, x, b, rfl, ⟨dx, ex3⟩, gb.toOkB, fun p2 xs2 G3 s4 np2 ep2 tr2 => ?_⟩
      walk_at "go"
      refine ⟨p, xs, rfl, .inl ⟨SqL.of (s4 _ _ ep3), fun l nl => ?_⟩⟩
      have s5 := same_new (o := .tup xs) (Same.refl G3) nl
      walk_at "go"
      refine eqD_same (d := .tuple ((sqs b).map trD)) (.tup (SqT.of (s5 _ _ ep2)) (tr2.mono s5).dp) (.tup (SqT.of upd_same) ((tr3.mono s4).mono s5).dp) (ok_trDs _).2 ?_
      replace s5 := s4.trans s5
      replace ex3 := s5 _ _ ex3
      replace rt3 : Row6 _ t b := s5 _ _ rt3
      replace hd4 := hd4.same s5
      replace b3 := b3.sm s5
      generalize upd G3 l (.tup xs) = G4 at ex3 rt3 hd4 b3 ⊢
      clear s4 s5 nl ep2 tr2 np2 tr3 ep3
      walk_at "go"
      refine ⟨x, b, rfl, ⟨dx, ex3⟩, fun y2 ny => ?_⟩
      have s3 := same_new (o := .tup [.int b.f, .int b.l, .int b.u, .int b.v, .int b.o, .int b.d]) (Same.refl G4) ny
      walk_at "go"
      exact eqD_same (d := bxD b) (row_dp (b := b) (by exact upd_same)) (row_dp (s3 _ _ rt3)) (bx_ok b) (q _ (b3.sm s3) (hd4.same s3))
end

/-! ### the law -/
def tMonoE (t : TE) : TE := fun σ H Q => ∃ Q0 : VK, t σ H Q0 ∧ ∀ x H1, Q0 x H1 → Q x H1
theorem pe_monoE {X : Cx} {e : Expr} {t : TE} (h : PE X e t) : PE X e (tMonoE t) := by
  refine ⟨fun pins s σ H Q I q => ?_⟩
  obtain ⟨Q0, q0, w⟩ := q
  exact thn (h.run pins s σ H Q0 I q0) fun u s1 ⟨x, H1, I1, r1, q1⟩ => ⟨x, H1, I1, r1, w x H1 q1⟩
theorem BoxsAt.but {C a : Addr} {H H' : Hp} {zs : List V} (e : H a = some (.lst zs)) (s : But a H H') : ∀ {xs bs}, BoxsAt C H xs bs → BoxsAt C H' xs bs
  | _, _, .nil => .nil
  | _, _, .cons ⟨dx, ex⟩ r => .cons ⟨dx, s _ _ (fun z => by rw [z, e] at ex; cases ex) ex⟩ (r.but e s)
theorem dpa_take {K : PySem.W.Frag} {H : Hp} (k : Nat) : ∀ {ds : List PyData} {vs : List V}, DpAll K H vs ds → DpAll K H (vs.take k) (ds.take k) := by
  induction k with
  | zero => intro ds vs _; exact .nil
  | succ k ih =>
    intro ds vs h
    cases h with
    | nil => exact .nil
    | cons a r => exact .cons a (ih r)
theorem ok_tbl (B : List Bx) (k : Nat) : okD 4 (.tuple (tblD B k)) = true := by
  refine (ok_map (f := rowD B) (n := 3) (fun i => ?_) (List.range k)).2
  unfold rowD
  cases B[i]? with
  | none => rfl
  | some b => exact (ok_map (fun _ => rfl) _).2
theorem ok_tbl2 (B : List Bx) (k m : Nat) : okD 4 (.tuple ((tblD B k).take m)) = true := by
  unfold tblD
  rw [← List.map_take]
  refine (ok_map (f := rowD B) (n := 3) (fun i => ?_) _).2
  unfold rowD
  cases B[i]? with
  | none => rfl
  | some b => exact (ok_map (fun _ => rfl) _).2
theorem rowD_take (B : List Bx) {i m : Nat} (h : i < m) : rowD (B.take m) i = rowD B i := by
  unfold rowD
  rw [List.getElem?_take_of_lt h]
  cases B[i]? with
  | none => rfl
  | some b =>
    have e : rowR (B.take m) b i = rowR B b i := by
      unfold rowR
      refine List.filter_congr fun n hn => ?_
      have hn2 : n < i := List.mem_range.mp hn
      rw [List.getElem?_take_of_lt (by omega)]
    dsimp only
    rw [e]
theorem tbl_take (B : List Bx) (m : Nat) : tblD (B.take m) (B.take m).length = (tblD B B.length).take m := by
  unfold tblD
  rw [← List.map_take, List.take_range, List.length_take]
  refine List.map_congr_left fun i hi => ?_
  have := List.mem_range.mp hi
  exact rowD_take B (by omega)
theorem cut_take (xs : List V) (k : Nat) : cutV xs none (some (k : Int)) = xs.take k := by
  unfold cutV
  have h1 : HT.sIx xs.length 0 none = 0 := rfl
  have h2 : HT.sIx xs.length xs.length (some (k : Int)) = min k xs.length := HT.sIx_nat _ _ k
  rw [h1, h2, List.drop_zero, Nat.sub_zero]
  rcases Nat.le_total k xs.length with h | h
  · rw [Nat.min_eq_left h]
  · rw [Nat.min_eq_right h, List.take_length, List.take_of_length_le h]
section
variable {P : Program} {w : World} {K : PySem.W.Frag} {mg : Str → Option Value} {base : Heap} {AD : Ads}
def spLaw (K : PySem.W.Frag) : Sp := fun vs H Q _ => ∃ (a : Addr) (ns : List Int), vs = [.ref a] ∧ SqL K H a (ns.map V.int) ∧ ns.length ≤ 63 ∧ ∀ H', Q (.bl true) H'
theorem ok_law (T : Top K mg AD) : FnOk P w K mg base CX0 12 AD.f_law AD.d_law P_law (spLaw K) := by
  refine T.D_law.F.ok sc_law (fun vs H Q E h => ?_) (fun cdv A outer s H vs Q E hr h => ?_)
  · obtain ⟨a, ns, rfl, _⟩ := h
    rfl
  · obtain ⟨s0, ns, rfl, hq, hl, q⟩ := h
    refine ⟨_, (pss_cons (ps_set (i := 1) sc_law.nd rfl (Or.inl rfl) (callD T.D_l_hand (ok_l_hand T) hr (pa_cons (pv 0) pa_nil)))
    (pss_cons (ps_set (i := 2) sc_law.nd rfl (Or.inl rfl) (pe_monoE (pe_ifExp (pt_cmpR op_eq (callD T.D_l_draw (ok_l_draw T) hr (pa_cons (pv 1) (pa_cons pe_int pa_nil))) pe_int (nomark _)) pe_int (callD T.D_l_draw (ok_l_draw T) hr (pa_cons (pv 1) (pa_cons pe_int pa_nil))))))
    (pss_cons (ps_set (i := 3) sc_law.nd rfl (Or.inl rfl) (pe_lst pa_nil))
    (pss_cons (ps_for PassesOwn.never rfl (pi_range1 (by rfl) T.b_range (pa_cons (pv 2) pa_nil)) (pg_name (i := 4) sc_law.nd rfl (Or.inl rfl))
    (pss_one (ps_expr (pe_bm PySem.F.plainAttrs_list PySem.F.slot_list_append PySem.F.type_list_append mt_append (pv 3) (pa_cons (callD T.D_l_box (ok_l_box T) hr (pa_cons (pv 1) (pa_cons (pv 3) pa_nil))) pa_nil)))))
    (pss_cons (ps_setLc (i := 6) (own := [("_law_row", 5)]) (g := (gName 5)) (tt := tYes) rfl sc_law.nd rfl rfl (sw_true rfl rfl rfl (by decide +kernel)) (pi_list (pv 3)) (blkOk_by (N := N_law) (sc := defScope s_law) (by decide +kernel)) (fun _ _ _ _ _ => (pg_name (i := 5) sc_law.nd rfl (by first | exact Or.inl rfl | exact Or.inr rfl))) (fun _ _ _ _ _ => pts_nil) (fun _ _ _ _ _ => (callD T.D_l_kept (ok_l_kept T) hr (pa_cons (pv 5) pa_nil))))
    (pss_cons (ps_for PassesOwn.never rfl (pi_list (pe_slice sl_list (pv 3) po_none (po_some pe_int))) (pg_name (i := 5) sc_law.nd rfl (Or.inl rfl))
    (pss_one (ps_if (pt_not (pt_val (callD T.D_l_alone (ok_l_alone T) hr (pa_cons (pv 1) (pa_cons (pv 5) pa_nil)))))
    (pss_one (ps_ret pe_bl))
    pss_nil)))
    (pss_cons (ps_set (i := 7) sc_law.nd rfl (Or.inl rfl) (pe_lst pa_nil))
    (pss_cons (ps_for PassesOwn.never rfl (pi_range1 (by rfl) T.b_range (pa_cons (pv 2) pa_nil)) (pg_name (i := 4) sc_law.nd rfl (Or.inl rfl))
    (pss_cons (ps_set (i := 8) sc_law.nd rfl (Or.inl rfl) (pe_lst pa_nil))
    (pss_cons (ps_for PassesOwn.never rfl (pi_range1 (by rfl) T.b_range (pa_cons (pv 2) pa_nil)) (pg_name (i := 9) sc_law.nd rfl (Or.inl rfl))
    (pss_cons (ps_if (pt_cmpR op_ne (pe_meth (pe_ix (ix_listK (K := K) rfl) (pv 6) (pv 4) (fun _ _ => rfl)) T.cl_Box T.m_Box_meets (ok_Box_meets T) (hr.mono (by decide)) T.D_Box_meets.b .nil pass0 (pa_cons (pe_ix (ix_listK (K := K) rfl) (pv 6) (pv 9) (fun _ _ => rfl)) pa_nil)) (callD T.D_l_meets (ok_l_meets T) hr (pa_cons (pe_ix (ix_listK (K := K) rfl) (pv 3) (pv 4) (fun _ _ => rfl)) (pa_cons (pe_ix (ix_listK (K := K) rfl) (pv 3) (pv 9) (fun _ _ => rfl)) pa_nil))) (nomark _))
    (pss_one (ps_ret pe_bl))
    pss_nil)
    (pss_cons (ps_if (pt_cmpR op_ne (pe_meth (pe_ix (ix_listK (K := K) rfl) (pv 6) (pv 4) (fun _ _ => rfl)) T.cl_Box T.m_Box_rests_on (ok_Box_rests_on T) (hr.mono (by decide)) T.D_Box_rests_on.b .nil pass0 (pa_cons (pe_ix (ix_listK (K := K) rfl) (pv 6) (pv 9) (fun _ _ => rfl)) pa_nil)) (callD T.D_l_rests (ok_l_rests T) hr (pa_cons (pe_ix (ix_listK (K := K) rfl) (pv 3) (pv 4) (fun _ _ => rfl)) (pa_cons (pe_ix (ix_listK (K := K) rfl) (pv 3) (pv 9) (fun _ _ => rfl)) pa_nil))) (nomark _))
    (pss_one (ps_ret pe_bl))
    pss_nil)
    (pss_one (ps_if (PW.pt (pw_and (pt_cmpR op_lt (pv 9) (pv 4) (nomark _)) (pw_and1 (pt_val (callD T.D_l_rests (ok_l_rests T) hr (pa_cons (pe_ix (ix_listK (K := K) rfl) (pv 3) (pv 4) (fun _ _ => rfl)) (pa_cons (pe_ix (ix_listK (K := K) rfl) (pv 3) (pv 9) (fun _ _ => rfl)) pa_nil)))))))
    (pss_one (ps_expr (pe_bm PySem.F.plainAttrs_list PySem.F.slot_list_append PySem.F.type_list_append mt_append (pv 8) (pa_cons (pv 9) pa_nil))))
    pss_nil)))))
    (pss_one (ps_expr (pe_bm PySem.F.plainAttrs_list PySem.F.slot_list_append PySem.F.type_list_append mt_append (pv 7) (pa_cons (pe_callTy call_tuple_of (by rfl) T.b_tuple (by decide +kernel) (pa_cons (pv 8) pa_nil)) pa_nil)))))))
    (pss_cons (ps_if (PW.pt (pw_or (pt_cmpR (op_neD hr.units) (callD T.D_rest_table (ok_rest_table T) hr (pa_cons (pv 6) pa_nil)) (pe_callTy call_tuple_of (by rfl) T.b_tuple (by decide +kernel) (pa_cons (pv 7) pa_nil)) (nomark _)) (pw_or (pt_cmpR (op_neD hr.units) (callD T.D_rest_table (ok_rest_table T) hr (pa_cons (pe_callTy call_tuple_of (by rfl) T.b_tuple (by decide +kernel) (pa_cons (pe_slice sl_list (pv 6) po_none (po_some pe_int)) pa_nil)) pa_nil)) (pe_callTy call_tuple_of (by rfl) T.b_tuple (by decide +kernel) (pa_cons (pe_slice sl_list (pv 7) po_none (po_some pe_int)) pa_nil)) (nomark _)) (pw_or1 (pt_cmpR (op_neD hr.units) (callD T.D_rest_table (ok_rest_table T) hr (pa_cons (pe_lst pa_nil) pa_nil)) (pe_tup pa_nil) (nomark _))))))
    (pss_one (ps_ret pe_bl))
    pss_nil)
    (pss_one (ps_ret (pe_cmpR (op_eqD hr.units) (pe_lc (own := [("_law_box_here", 10)]) (g := (gName 10)) (tt := tYes) rfl sc_law.nd (pi_list (pv 6)) (blkOk_by (N := N_law) (sc := defScope s_law) (by decide +kernel)) (fun _ _ _ _ _ => (pg_name (i := 10) sc_law.nd rfl (by first | exact Or.inl rfl | exact Or.inr rfl))) (fun _ _ _ _ _ => pts_nil) (fun _ _ _ _ _ => (callD T.D_l_boxed (ok_l_boxed T) hr (pa_cons (pv 10) pa_nil)))) (pv 3) (nomark _))))))))))))), ?_⟩
    walk_at "go"
    refine ⟨s0, ns, rfl, hq, hl, fun a H1 s1 np hp => ?_⟩
    walk_at "go"
    refine ⟨fun v H' => ∃ n : Nat, v = .int n ∧ n ≤ 12 ∧ HandOk H' a, ?_, ?_⟩
    · walk_at "go"
      refine ⟨_, _, rfl, hp, cdivw (by decide) (by decide), fun d1 H2 d10 d11 b1 hd1 => ?_⟩
      walk_at "go"
      refine ite2 (fun z => ?_) (fun z => ?_)
      · walk_at "go"
        exact hd1
      · walk_at "go"
        refine ⟨_, _, rfl, hd1, cdivw (by decide) (by decide), fun d2 H3 d20 d21 b2 hd2 => ?_⟩
        exact ⟨d2.toNat, by rw [Int.toNat_of_nonneg d20], by omega, hd2⟩
    rintro v H2 ⟨n, rfl, hn, hd⟩
    clear hp hq s1 np
    walk_at "go"
    intro L nL
    have La := hd.ne nL
    obtain ⟨l0, hl0, Ll⟩ := hd.apart nL
    have s2 := same_new (o := .lst []) (Same.refl H2) nL
    have eL : upd H2 L (.lst []) L = some (.lst []) := upd_same
    replace hd := hd.same s2
    replace hl0 := hl0.same s2
    generalize upd H2 L (.lst []) = H3 at eL hd hl0 ⊢
    clear s2 nL
    walk_at "go"
    refine for_it (walk_range (lo := 0) (n := ((n : Nat) : Int).toNat)) (fun i σ H' => ∃ o4 rs B, σ = [some (.ref s0), some (.ref a), some (.int n), some (.ref L), o4, none, none, none, none, none, none] ∧ H' L = some (.lst rs) ∧ RowsAt a H' rs B ∧ B.length = i ∧ (∀ b ∈ B, DB B.length b) ∧ HandOk H' a ∧ Hl H' a l0)
      ⟨none, [], [], rfl, eL, .nil, rfl, fun _ h => (by cases h), hd, hl0⟩ (fun _ _ _ _ _ => trivial) ?_ ?_
    · rintro i w1 σ Ha Hb hi ⟨o4, rs, B, rfl, e1, ra, lB, db, hda, hla⟩ ⟨rfl, rfl⟩
      have hi2 : i < n := by omega
      walk_at "go"
      refine ⟨a, L, rs, B, rfl, e1, La, ra, db, by omega, hda, fun t b H' b1 hd1 ta rt dt => ?_⟩
      have e1' := b1.but _ _ La e1
      have lr := ra.len
      walk_at "go"
      refine ⟨L, rs, .ref t, rfl, rfl, e1', small1000 (by omega), ?_⟩
      refine ⟨_, rs ++ [.ref t], B ++ [b], rfl, upd_same, ((ra.but b1.but).snoc ta rt).poke e1', by rw [List.length_append, lB]; rfl, fun c hc => ?_, hd1.poke (b1.hl _ hla) Ll La, ?_⟩
      · rw [List.length_append]
        rcases List.mem_append.mp hc with h | h
        · exact (db c h).up (Nat.le_add_right _ _)
        · rw [List.mem_singleton.mp h]
          exact dt
      · obtain ⟨u, e⟩ := b1.hl _ hla
        exact ⟨u, (upd_ne (Ne.symm La)).trans e⟩
    rintro σ Ha ⟨o4, rs, B, rfl, e1, ra, lB, db, hda, hla⟩
    have en : ((n : Nat) : Int).toNat = n := by omega
    rw [en] at lB
    clear hd eL hla hl0 Ll
    have lr := ra.len
    replace db : ∀ b ∈ B, DB 20 b := fun b hb => (db b hb).up (by omega)
    have gb : ∀ b ∈ B, GoodB b := fun b hb => (db b hb).good (Nat.le_refl _)
    walk_at "go"
    refine ⟨⟨_, SqL.of e1⟩, fun D hD => ?_⟩
    have Da : D ≠ a := hda.ne hD
    have DL : D ≠ L := fun z => by rw [z, e1] at hD; cases hD
    refine lc_it (walk_list (xs := rs)) (fun i H' => ∃ ys, But D Ha H' ∧ H' D = some (.lst ys) ∧ BoxsAt AD.C_Box H' ys (B.take i)) ⟨[], But.upd (But.refl _ _), upd_same, by rw [List.take_zero]; exact .nil⟩ (fun i H' _ ⟨ys, b, _⟩ => SqL.of (b _ _ (Ne.symm DL) e1)) ?_ ?_
    · rintro i z Hb Hc hi ⟨ys, bt, eD, bx⟩ ⟨rfl, ez⟩
      have hiB : i < B.length := by omega
      have eB : B[i]? = some B[i] := List.getElem?_eq_getElem hiB
      obtain ⟨t, et, rt, ta⟩ := ra.at eB
      obtain rfl : z = .ref t := Option.some.inj (ez.symm.trans et)
      have sb := same_but (Same.refl _) hD bt
      have rt1 : Row6 _ t B[i] := sb _ _ rt
      have lb := bx.len
      have lt := List.length_take_le i B
      walk_at "go"
      refine ⟨t, B[i], rfl, .inr rt1, fun x Hd s1 nx b1 => ?_⟩
      have bt1 : But D Ha Hd := fun c o nc e => s1 _ _ (bt c o nc e)
      refine ⟨ys, s1 _ _ eD, small1000 (by omega), ys ++ [.ref x], But.upd bt1, upd_same, ?_⟩
      rw [List.take_add_one, eB]
      exact (BoxsAt.snoc b1 (bx.mono s1)).but (s1 _ _ eD) (But.upd (But.refl _ _))
    rintro Hb ⟨ys, bt, eD, bx⟩
    rw [lr, List.take_length] at bx
    have sb := same_but (Same.refl _) hD bt
    replace e1 := sb _ _ e1
    replace ra := ra.same sb
    replace hda := hda.same sb
    clear sb bt
    walk_at "go"
    refine ⟨L, rs, rfl, SqL.of e1, fun S nS => ?_⟩
    rw [show cutV rs none (some 4) = rs.take 4 from cut_take rs 4]
    have Sa := hda.ne nS
    have s1 := same_new (o := .lst (rs.take 4)) (Same.refl _) nS
    have eS : upd Hb S (.lst (rs.take 4)) S = _ := upd_same
    replace e1 := s1 _ _ e1
    replace eD := s1 _ _ eD
    replace ra := ra.same s1
    replace bx := bx.mono s1
    replace hda := hda.same s1
    generalize upd Hb S (.lst (rs.take 4)) = Hc at eS e1 eD ra bx hda ⊢
    clear s1 nS
    walk_at "go"
    refine ⟨⟨_, SqL.of eS⟩, ?_⟩
    refine for_it (walk_list (xs := rs.take 4)) (fun i σ H' => ∃ o4 o5, σ = [some (.ref s0), some (.ref a), some (.int n), some (.ref L), o4, o5, some (.ref D), none, none, none, none] ∧ ButH a Hc H' ∧ HandOk H' a)
      ⟨o4, none, rfl, ButH.refl _ _, hda⟩ (fun i σ H' _ ⟨_, _, _, bt, _⟩ => SqL.of (bt.but _ _ Sa eS)) ?_ ?_
    · rintro i z σ Hd He hi ⟨o4, o5, rfl, bt, hdd⟩ ⟨rfl, ez⟩
      have hi4 : i < 4 ∧ i < rs.length := by rw [List.length_take] at hi; omega
      have hiB : i < B.length := by omega
      have eB : B[i]? = some B[i] := List.getElem?_eq_getElem hiB
      obtain ⟨t, et, rt, ta⟩ := (ra.but bt.but).at eB
      rw [List.getElem?_take_of_lt hi4.1] at ez
      obtain rfl : z = .ref t := Option.some.inj (ez.symm.trans et)
      walk_at "go"
      refine ⟨a, t, B[i], rfl, hdd, ta, rt, db _ (List.getElem_mem hiB), fun H' b' hd' => ?_⟩
      walk_at "go"
      exact ⟨_, _, rfl, bt.trans b', hd'⟩
    rintro σ Hd ⟨o4, o5, rfl, bt, hdd⟩
    replace e1 := bt.but _ _ La e1
    replace eD := bt.but _ _ Da eD
    obtain ⟨zs, ez⟩ := hda.lst
    replace bx := bx.but ez bt.but
    replace ra := ra.but bt.but
    clear eS ez bt hda Sa
    walk_at "go"
    intro Du nDu
    walk_at "go"
    refine for_it (walk_range (lo := 0) (n := ((n : Nat) : Int).toNat)) (fun i σ H' => ∃ o4 o5 o8 o9 ds, σ = [some (.ref s0), some (.ref a), some (.int n), some (.ref L), o4, o5, some (.ref D), some (.ref Du), o8, o9, none] ∧ Gh K Hd Du H' ds (tblD B i) ∧ ds.length ≤ i)
      ⟨o4, o5, none, none, [], rfl, Gh.start nDu, Nat.le_refl _⟩ (fun _ _ _ _ _ => trivial) ?_ ?_
    · rintro i w1 σ Ha Hb hi ⟨o4, o5, o8, o9, ds, rfl, gh, hds⟩ ⟨rfl, rfl⟩
      have hiB : i < B.length := by omega
      have eB : B[i]? = some B[i] := List.getElem?_eq_getElem hiB
      walk_at "go"
      intro F nF
      have FDu : F ≠ Du := fun z => by rw [z, gh.here] at nF; cases nF
      have gh2 := gh.grow (same_new (o := .lst []) (Same.refl _) nF)
      have eF : upd Hb F (.lst []) F = some (.lst []) := upd_same
      have sF := same_new (o := .lst []) (Same.refl Hb) nF
      generalize upd Hb F (.lst []) = H4 at eF gh2 sF ⊢
      have sB := gh.same
      walk_at "go"
      refine for_it (walk_range (lo := 0) (n := ((n : Nat) : Int).toNat)) (fun j σ H' => ∃ o9, σ = [some (.ref s0), some (.ref a), some (.int n), some (.ref L), some (.int (0 + (i : Int))), o5, some (.ref D), some (.ref Du), some (.ref F), o9, none] ∧ But F H4 H' ∧ H' F = some (.lst (nV (rowR B B[i] (min j i)))))
        ⟨o9, rfl, But.refl _ _, by rw [Nat.zero_min]; exact eF⟩ (fun _ _ _ _ _ => trivial) ?_ ?_
      · rintro j w2 σ He Hf hj ⟨o9, rfl, bt, eFj⟩ ⟨rfl, rfl⟩
        have hjB : j < B.length := by omega
        have eC : B[j]? = some B[j] := List.getElem?_eq_getElem hjB
        have s4 := sB.trans (same_but sF nF bt)
        have e15 := s4 _ _ e1
        have eD5 := s4 _ _ eD
        obtain ⟨x, ex, bx5⟩ := (bx.mono s4).at eB
        obtain ⟨y, ey, by5⟩ := (bx.mono s4).at eC
        obtain ⟨t, et, rt, -⟩ := (ra.same s4).at eB
        obtain ⟨u, eu, ru, -⟩ := (ra.same s4).at eC
        have gi := gb _ (List.getElem_mem hiB)
        have gj := gb _ (List.getElem_mem hjB)
        have ax : atI ys (0 + (i : Int)) = some (.ref x) := by rw [Int.zero_add]; exact atI_nat ex
        have ay : atI ys (0 + (j : Int)) = some (.ref y) := by rw [Int.zero_add]; exact atI_nat ey
        have at' : atI rs (0 + (i : Int)) = some (.ref t) := by rw [Int.zero_add]; exact atI_nat et
        have au : atI rs (0 + (j : Int)) = some (.ref u) := by rw [Int.zero_add]; exact atI_nat eu
        clear ex ey et eu sB
        obtain ⟨dx, ex⟩ := bx5
        walk_at "go"
        refine ⟨D, _, _, _, rfl, rfl, SqL.of eD5, ax, ?_⟩
        walk_at "go"
        refine ⟨x, dx, _, rfl, ex, rfl, ?_⟩
        walk_at "go"
        refine ⟨D, _, _, _, rfl, rfl, SqL.of eD5, ay, ?_⟩
        walk_at "go"
        refine ⟨x, y, B[i], B[j], rfl, ⟨dx, ex⟩, by5, ?_⟩
        walk_at "go"
        refine ⟨L, _, _, _, rfl, rfl, SqL.of e15, at', ?_⟩
        walk_at "go"
        refine ⟨L, _, _, _, rfl, rfl, SqL.of e15, au, ?_⟩
        walk_at "go"
        refine ⟨t, u, B[i], B[j], rfl, rt, ru, gi, gj, fun H5 s5 => ?_⟩
        walk_at "go"
        rw [not_same2]
        replace bt : But F H4 H5 := fun c o nc e => s5 _ _ (bt c o nc e)
        replace eFj := s5 _ _ eFj
        replace e15 := s5 _ _ e15
        replace eD5 := s5 _ _ eD5
        replace ex := s5 _ _ ex
        replace by5 := by5.sm s5
        replace rt : Row6 H5 t B[i] := s5 _ _ rt
        replace ru : Row6 H5 u B[j] := s5 _ _ ru
        clear s5 s4
        walk_at "go"
        refine ⟨D, _, _, _, rfl, rfl, SqL.of eD5, ax, ?_⟩
        walk_at "go"
        refine ⟨x, dx, _, rfl, ex, rfl, ?_⟩
        walk_at "go"
        refine ⟨D, _, _, _, rfl, rfl, SqL.of eD5, ay, ?_⟩
        walk_at "go"
        refine ⟨x, y, B[i], B[j], rfl, ⟨dx, ex⟩, by5, fun H6 s6 => ?_⟩
        replace bt : But F H4 H6 := fun c o nc e => s6 _ _ (bt c o nc e)
        replace eFj := s6 _ _ eFj
        replace e15 := s6 _ _ e15
        replace rt : Row6 H6 t B[i] := s6 _ _ rt
        replace ru : Row6 H6 u B[j] := s6 _ _ ru
        clear s6 ex by5 eD5
        walk_at "go"
        refine ⟨L, _, _, _, rfl, rfl, SqL.of e15, at', ?_⟩
        walk_at "go"
        refine ⟨L, _, _, _, rfl, rfl, SqL.of e15, au, ?_⟩
        walk_at "go"
        refine ⟨t, u, B[i], B[j], rfl, rt, ru, gi, gj, fun H7 s7 => ?_⟩
        replace bt : But F H4 H7 := fun c o nc e => s7 _ _ (bt c o nc e)
        replace eFj := s7 _ _ eFj
        replace e15 := s7 _ _ e15
        replace rt : Row6 H7 t B[i] := s7 _ _ rt
        replace ru : Row6 H7 u B[j] := s7 _ _ ru
        clear s7
        walk_at "go"
        rw [not_same2]
        walk_at "go"
        refine ite2 (fun e => ?_) (fun e => ?_)
        · have e := of_decide_eq_true e
          have hji : j < i := by omega
          rw [show min j i = j from Nat.min_eq_left (Nat.le_of_lt hji)] at eFj
          have lF := rowR_len B B[i] j
          walk_at "go"
          refine ⟨L, _, _, _, rfl, rfl, SqL.of e15, at', ?_⟩
          walk_at "go"
          refine ⟨L, _, _, _, rfl, rfl, SqL.of e15, au, ?_⟩
          walk_at "go"
          refine ⟨t, u, B[i], B[j], rfl, rt, ru, gi, gj, fun H8 s8 => ?_⟩
          replace bt : But F H4 H8 := fun c o nc e => s8 _ _ (bt c o nc e)
          replace eFj := s8 _ _ eFj
          walk_at "go"
          refine ite2 (fun e2 => ?_) (fun e2 => ?_)
          · walk_at "go"
            refine ⟨F, _, _, rfl, rfl, eFj, small1000 (by rw [nV_len]; omega), ?_⟩
            refine ⟨_, rfl, But.upd bt, ?_⟩
            rw [show min (j + 1) i = j + 1 from Nat.min_eq_left hji, rowR_succ eC, if_pos e2]
            show upd H8 F (.lst (nV (rowR B B[i] j) ++ [V.int (0 + (j : Int))])) F = _
            rw [Int.zero_add, nV_snoc]
            exact upd_same
          · walk_at "go"
            rw [show min (j + 1) i = j + 1 from Nat.min_eq_left hji, rowR_succ eC, if_neg (by simp [e2])]
            exact eFj
        · have hji : i ≤ j := by
            have : ¬ ((0 : Int) + (j : Int) < 0 + (i : Int)) := fun h => e (decide_eq_true h)
            omega
          rw [show min j i = i from Nat.min_eq_right hji] at eFj
          walk_at "go"
          rw [show min (j + 1) i = i from Nat.min_eq_right (by omega)]
          exact eFj
      · rintro σ He ⟨o9, rfl, bt, eFj⟩
        have sn : min ((n : Nat) : Int).toNat i = i := Nat.min_eq_right (by omega)
        rw [sn] at eFj
        have gh3 := gh.grow (same_but sF nF bt)
        have eDu := gh3.here
        clear gh gh2 bt sF sB
        walk_at "go"
        refine ⟨F, _, rfl, .inl ⟨SqL.of eFj, fun l nl => ?_⟩⟩
        have lDu : l ≠ Du := fun z => by rw [z, eDu] at nl; cases nl
        walk_at "go"
        refine ⟨Du, ds, .ref l, rfl, rfl, (upd_ne (Ne.symm lDu)).trans eDu, small1000 (by omega), ?_⟩
        refine ⟨_, _, _, _, ds ++ [.ref l], rfl, ?_, by rw [List.length_append]; exact Nat.succ_le_succ hds⟩
        rw [tblD_succ eB]
        exact gh3.pair nl fun G => dpa_nV _
    rintro σ Ha ⟨o4, o5, o8, o9, ds, rfl, gh, hds⟩
    rw [en, ← lB] at gh
    rw [en] at hds
    have e14 := gh.same _ _ e1
    have eD4 := gh.same _ _ eD
    replace bx := bx.mono gh.same
    replace ra := ra.same gh.same
    have eDu := gh.here
    have dd := gh.all
    clear gh e1 eD nDu
    walk_at "go"
    refine ⟨D, ys, B, rfl, .inl eD4, bx, by omega, fun p1 G1 s1 np1 dp1 => ?_⟩
    walk_at "go"
    refine ⟨Du, ds, rfl, .inl ⟨SqL.of (s1 _ _ eDu), fun l nl => ?_⟩⟩
    have s2 := same_new (o := .tup ds) (Same.refl G1) nl
    walk_at "go"
    refine neD_same (d := .tuple (tblD B B.length)) (dp_mono s2 _ _ dp1) (.tup (SqT.of upd_same) (dpa_mono (s1.trans s2) _ _ dd)) (ok_tbl B B.length) ?_
    replace s2 := s1.trans s2
    replace e14 := s2 _ _ e14
    replace eD4 := s2 _ _ eD4
    replace bx := bx.mono s2
    replace ra := ra.same s2
    replace eDu := s2 _ _ eDu
    replace dd := dpa_mono s2 _ _ dd
    generalize upd G1 l (.tup ds) = G2 at e14 eD4 bx ra eDu dd ⊢
    clear s1 s2 nl np1 dp1
    walk_at "go"
    refine ⟨D, ys, rfl, SqL.of eD4, fun S2 nS2 => ?_⟩
    rw [show cutV ys none (some 2) = ys.take 2 from cut_take ys 2]
    have s2 := same_new (o := .lst (ys.take 2)) (Same.refl G2) nS2
    walk_at "go"
    refine ⟨S2, ys.take 2, rfl, .inl ⟨SqL.of upd_same, fun l nl => ?_⟩⟩
    have s3 := same_new (o := .tup (ys.take 2)) (Same.refl _) nl
    replace s2 := s2.trans s3
    clear s3
    walk_at "go"
    refine ⟨l, ys.take 2, B.take 2, rfl, .inr upd_same, (bx.mono s2).take 2, by rw [List.length_take]; omega, fun p2 G3 s3 np2 dp2 => ?_⟩
    replace s2 := s2.trans s3
    rw [tbl_take] at dp2
    clear s3
    replace e14 := s2 _ _ e14
    replace eD4 := s2 _ _ eD4
    replace bx := bx.mono s2
    replace ra := ra.same s2
    replace eDu := s2 _ _ eDu
    replace dd := dpa_mono s2 _ _ dd
    clear s2 np2 nl nS2
    walk_at "go"
    refine ⟨Du, ds, rfl, SqL.of eDu, fun S3 nS3 => ?_⟩
    rw [show cutV ds none (some 2) = ds.take 2 from cut_take ds 2]
    have s2 := same_new (o := .lst (ds.take 2)) (Same.refl G3) nS3
    walk_at "go"
    refine ⟨S3, ds.take 2, rfl, .inl ⟨SqL.of upd_same, fun l nl => ?_⟩⟩
    have s3 := same_new (o := .tup (ds.take 2)) (Same.refl _) nl
    replace s2 := s2.trans s3
    clear s3
    walk_at "go"
    refine neD_same (d := .tuple ((tblD B B.length).take 2)) (dp_mono s2 _ _ dp2) (.tup (SqT.of upd_same) (dpa_take 2 (dpa_mono s2 _ _ dd))) (ok_tbl2 B B.length 2) ?_
    replace e14 := s2 _ _ e14
    replace eD4 := s2 _ _ eD4
    replace bx := bx.mono s2
    replace ra := ra.same s2
    generalize upd (upd G3 S3 (.lst (ds.take 2))) l (.tup (ds.take 2)) = G4 at e14 eD4 bx ra ⊢
    clear s2 nl nS3 dp2 dd eDu
    walk_at "go"
    intro m nm
    have s2 := same_new (o := .lst []) (Same.refl G4) nm
    walk_at "go"
    refine ⟨m, [], [], rfl, .inl upd_same, .nil, by decide, fun p3 G5 s3 np3 dp3 => ?_⟩
    replace s2 := s2.trans s3
    walk_at "go"
    intro p0 np0
    have s4 := same_new (o := .tup []) (Same.refl G5) np0
    walk_at "go"
    refine neD_same (d := .tuple []) (dp_mono s4 _ _ dp3) (.tup (SqT.of upd_same) .nil) rfl ?_
    replace s2 := s2.trans s4
    replace e14 := s2 _ _ e14
    replace eD4 := s2 _ _ eD4
    replace bx := bx.mono s2
    replace ra := ra.same s2
    generalize upd G5 p0 (.tup []) = G6 at e14 eD4 bx ra ⊢
    clear s2 s3 s4 np0 np3 dp3 nm
    have ly := bx.len
    walk_at "go"
    refine ⟨⟨_, SqL.of eD4⟩, fun D3 nD3 => ?_⟩
    refine lc_it (walk_list (xs := ys)) (fun i H' => ∃ zs, Gh K G6 D3 H' zs ((B.take i).map bxD) ∧ zs.length ≤ i) ⟨[], by rw [List.take_zero]; exact Gh.start nD3, Nat.le_refl _⟩ (fun i H' _ ⟨zs, gh, _⟩ => SqL.of (gh.same _ _ eD4)) ?_ ?_
    · rintro i z Hb Hc hi ⟨zs, gh, hz⟩ ⟨rfl, ez⟩
      have hiB : i < B.length := by omega
      have eB : B[i]? = some B[i] := List.getElem?_eq_getElem hiB
      obtain ⟨x, ex, bxi⟩ := (bx.mono gh.same).at eB
      obtain rfl : z = .ref x := Option.some.inj (ez.symm.trans ex)
      walk_at "go"
      refine ⟨x, B[i], rfl, bxi, fun T' nT => ?_⟩
      have nTD : T' ≠ D3 := fun z => by rw [z, gh.here] at nT; cases nT
      refine ⟨zs, (upd_ne (Ne.symm nTD)).trans gh.here, small1000 (by omega), zs ++ [.ref T'], ?_, by rw [List.length_append]; exact Nat.succ_le_succ hz⟩
      rw [List.take_add_one, eB, List.map_append]
      exact gh.pair nT fun G => .cons (.int _) (.cons (.int _) (.cons (.int _) (.cons (.int _) (.cons (.int _) (.cons (.int _) .nil)))))
    · rintro Hb ⟨zs, gh, hz⟩
      rw [ly, List.take_length] at gh
      walk_at "go"
      exact eqD_same (d := .list (B.map bxD)) gh.data (.lst (SqL.of (gh.same _ _ e14)) (ra.same gh.same).dpa) (ok_map (fun _ => rfl) _).1 (q _)
end

theorem all_mk {P : Program} {w : World} {K : PySem.W.Frag} {h : Heap} {mg : Str → Option Value} {fa : Addr} (X : K.In h) (G : h.Ns mainGlobals mg) (hfa : mg "law" = some (.ref fa))
    {C_Box f_rest_table f_l_mix f_l_hand f_l_draw f_l_squares f_l_meets f_l_rests f_l_boxed f_l_box f_l_kept f_l_alone f_law f_Box___init__ f_Box_squares p_Box_squares f_Box_meets f_Box_rests_on f_Box___contains__ f_Box___len__ f_Box___eq__ : Addr}
    {od_rest_table : Option Addr}
    {an_rest_table : Option Addr}
    {sl_rest_table : Array (Option Value)}
    {oc_rest_table kV_rest_table dc_rest_table pm_rest_table cd_rest_table ct_rest_table : Value}
    {od_l_mix : Option Addr}
    {an_l_mix : Option Addr}
    {sl_l_mix : Array (Option Value)}
    {oc_l_mix kV_l_mix dc_l_mix pm_l_mix cd_l_mix ct_l_mix : Value}
    {od_l_hand : Option Addr}
    {an_l_hand : Option Addr}
    {sl_l_hand : Array (Option Value)}
    {oc_l_hand kV_l_hand dc_l_hand pm_l_hand cd_l_hand ct_l_hand : Value}
    {od_l_draw : Option Addr}
    {an_l_draw : Option Addr}
    {sl_l_draw : Array (Option Value)}
    {oc_l_draw kV_l_draw dc_l_draw pm_l_draw cd_l_draw ct_l_draw : Value}
    {od_l_squares : Option Addr}
    {an_l_squares : Option Addr}
    {sl_l_squares : Array (Option Value)}
    {oc_l_squares kV_l_squares dc_l_squares pm_l_squares cd_l_squares ct_l_squares : Value}
    {od_l_meets : Option Addr}
    {an_l_meets : Option Addr}
    {sl_l_meets : Array (Option Value)}
    {oc_l_meets kV_l_meets dc_l_meets pm_l_meets cd_l_meets ct_l_meets : Value}
    {od_l_rests : Option Addr}
    {an_l_rests : Option Addr}
    {sl_l_rests : Array (Option Value)}
    {oc_l_rests kV_l_rests dc_l_rests pm_l_rests cd_l_rests ct_l_rests : Value}
    {od_l_boxed : Option Addr}
    {an_l_boxed : Option Addr}
    {sl_l_boxed : Array (Option Value)}
    {oc_l_boxed kV_l_boxed dc_l_boxed pm_l_boxed cd_l_boxed ct_l_boxed : Value}
    {od_l_box : Option Addr}
    {an_l_box : Option Addr}
    {sl_l_box : Array (Option Value)}
    {oc_l_box kV_l_box dc_l_box pm_l_box cd_l_box ct_l_box : Value}
    {od_l_kept : Option Addr}
    {an_l_kept : Option Addr}
    {sl_l_kept : Array (Option Value)}
    {oc_l_kept kV_l_kept dc_l_kept pm_l_kept cd_l_kept ct_l_kept : Value}
    {od_l_alone : Option Addr}
    {an_l_alone : Option Addr}
    {sl_l_alone : Array (Option Value)}
    {oc_l_alone kV_l_alone dc_l_alone pm_l_alone cd_l_alone ct_l_alone : Value}
    {od_law : Option Addr}
    {an_law : Option Addr}
    {sl_law : Array (Option Value)}
    {oc_law kV_law dc_law pm_law cd_law ct_law : Value}
    {od_Box___init__ : Option Addr}
    {an_Box___init__ : Option Addr}
    {sl_Box___init__ : Array (Option Value)}
    {oc_Box___init__ kV_Box___init__ dc_Box___init__ pm_Box___init__ cd_Box___init__ ct_Box___init__ : Value}
    {od_Box_squares : Option Addr}
    {an_Box_squares : Option Addr}
    {sl_Box_squares : Array (Option Value)}
    {oc_Box_squares kV_Box_squares dc_Box_squares pm_Box_squares cd_Box_squares ct_Box_squares : Value}
    {re_Box_squares : List Value}
    {od_Box_meets : Option Addr}
    {an_Box_meets : Option Addr}
    {sl_Box_meets : Array (Option Value)}
    {oc_Box_meets kV_Box_meets dc_Box_meets pm_Box_meets cd_Box_meets ct_Box_meets : Value}
    {od_Box_rests_on : Option Addr}
    {an_Box_rests_on : Option Addr}
    {sl_Box_rests_on : Array (Option Value)}
    {oc_Box_rests_on kV_Box_rests_on dc_Box_rests_on pm_Box_rests_on cd_Box_rests_on ct_Box_rests_on : Value}
    {od_Box___contains__ : Option Addr}
    {an_Box___contains__ : Option Addr}
    {sl_Box___contains__ : Array (Option Value)}
    {oc_Box___contains__ kV_Box___contains__ dc_Box___contains__ pm_Box___contains__ cd_Box___contains__ ct_Box___contains__ : Value}
    {od_Box___len__ : Option Addr}
    {an_Box___len__ : Option Addr}
    {sl_Box___len__ : Array (Option Value)}
    {oc_Box___len__ kV_Box___len__ dc_Box___len__ pm_Box___len__ cd_Box___len__ ct_Box___len__ : Value}
    {od_Box___eq__ : Option Addr}
    {an_Box___eq__ : Option Addr}
    {sl_Box___eq__ : Array (Option Value)}
    {oc_Box___eq__ kV_Box___eq__ dc_Box___eq__ pm_Box___eq__ cd_Box___eq__ ct_Box___eq__ : Value}
    (ac_Box : PySem.W.nsIn K mainGlobals "Box" = some (some (.ref C_Box)))
    (a_rest_table : PySem.W.nsIn K mainGlobals "rest_table" = some (some (.ref f_rest_table)))
    (l_rest_table : K.lookup f_rest_table = some ⟨oc_rest_table, od_rest_table, .func (PySem.W.fnOf "rest_table" "rest_table" (defArgs s_rest_table) (defBody s_rest_table) (defScope s_rest_table) .none kV_rest_table dc_rest_table pm_rest_table an_rest_table cd_rest_table ct_rest_table), sl_rest_table⟩)
    (c_rest_table : PySem.W.codeIn K cd_rest_table "rest_table" = true)
    (k_rest_table : PySem.W.keepIn K (.ref f_rest_table) = true)
    (a_l_mix : PySem.W.nsIn K mainGlobals "_law_mix" = some (some (.ref f_l_mix)))
    (l_l_mix : K.lookup f_l_mix = some ⟨oc_l_mix, od_l_mix, .func (PySem.W.fnOf "_law_mix" "_law_mix" (defArgs s_l_mix) (defBody s_l_mix) (defScope s_l_mix) .none kV_l_mix dc_l_mix pm_l_mix an_l_mix cd_l_mix ct_l_mix), sl_l_mix⟩)
    (c_l_mix : PySem.W.codeIn K cd_l_mix "_law_mix" = true)
    (k_l_mix : PySem.W.keepIn K (.ref f_l_mix) = true)
    (a_l_hand : PySem.W.nsIn K mainGlobals "_law_hand" = some (some (.ref f_l_hand)))
    (l_l_hand : K.lookup f_l_hand = some ⟨oc_l_hand, od_l_hand, .func (PySem.W.fnOf "_law_hand" "_law_hand" (defArgs s_l_hand) (defBody s_l_hand) (defScope s_l_hand) .none kV_l_hand dc_l_hand pm_l_hand an_l_hand cd_l_hand ct_l_hand), sl_l_hand⟩)
    (c_l_hand : PySem.W.codeIn K cd_l_hand "_law_hand" = true)
    (k_l_hand : PySem.W.keepIn K (.ref f_l_hand) = true)
    (a_l_draw : PySem.W.nsIn K mainGlobals "_law_draw" = some (some (.ref f_l_draw)))
    (l_l_draw : K.lookup f_l_draw = some ⟨oc_l_draw, od_l_draw, .func (PySem.W.fnOf "_law_draw" "_law_draw" (defArgs s_l_draw) (defBody s_l_draw) (defScope s_l_draw) .none kV_l_draw dc_l_draw pm_l_draw an_l_draw cd_l_draw ct_l_draw), sl_l_draw⟩)
    (c_l_draw : PySem.W.codeIn K cd_l_draw "_law_draw" = true)
    (k_l_draw : PySem.W.keepIn K (.ref f_l_draw) = true)
    (a_l_squares : PySem.W.nsIn K mainGlobals "_law_squares" = some (some (.ref f_l_squares)))
    (l_l_squares : K.lookup f_l_squares = some ⟨oc_l_squares, od_l_squares, .func (PySem.W.fnOf "_law_squares" "_law_squares" (defArgs s_l_squares) (defBody s_l_squares) (defScope s_l_squares) .none kV_l_squares dc_l_squares pm_l_squares an_l_squares cd_l_squares ct_l_squares), sl_l_squares⟩)
    (c_l_squares : PySem.W.codeIn K cd_l_squares "_law_squares" = true)
    (k_l_squares : PySem.W.keepIn K (.ref f_l_squares) = true)
    (a_l_meets : PySem.W.nsIn K mainGlobals "_law_meets" = some (some (.ref f_l_meets)))
    (l_l_meets : K.lookup f_l_meets = some ⟨oc_l_meets, od_l_meets, .func (PySem.W.fnOf "_law_meets" "_law_meets" (defArgs s_l_meets) (defBody s_l_meets) (defScope s_l_meets) .none kV_l_meets dc_l_meets pm_l_meets an_l_meets cd_l_meets ct_l_meets), sl_l_meets⟩)
    (c_l_meets : PySem.W.codeIn K cd_l_meets "_law_meets" = true)
    (k_l_meets : PySem.W.keepIn K (.ref f_l_meets) = true)
    (a_l_rests : PySem.W.nsIn K mainGlobals "_law_rests" = some (some (.ref f_l_rests)))
    (l_l_rests : K.lookup f_l_rests = some ⟨oc_l_rests, od_l_rests, .func (PySem.W.fnOf "_law_rests" "_law_rests" (defArgs s_l_rests) (defBody s_l_rests) (defScope s_l_rests) .none kV_l_rests dc_l_rests pm_l_rests an_l_rests cd_l_rests ct_l_rests), sl_l_rests⟩)
    (c_l_rests : PySem.W.codeIn K cd_l_rests "_law_rests" = true)
    (k_l_rests : PySem.W.keepIn K (.ref f_l_rests) = true)
    (a_l_boxed : PySem.W.nsIn K mainGlobals "_law_boxed" = some (some (.ref f_l_boxed)))
    (l_l_boxed : K.lookup f_l_boxed = some ⟨oc_l_boxed, od_l_boxed, .func (PySem.W.fnOf "_law_boxed" "_law_boxed" (defArgs s_l_boxed) (defBody s_l_boxed) (defScope s_l_boxed) .none kV_l_boxed dc_l_boxed pm_l_boxed an_l_boxed cd_l_boxed ct_l_boxed), sl_l_boxed⟩)
    (c_l_boxed : PySem.W.codeIn K cd_l_boxed "_law_boxed" = true)
    (k_l_boxed : PySem.W.keepIn K (.ref f_l_boxed) = true)
    (a_l_box : PySem.W.nsIn K mainGlobals "_law_box" = some (some (.ref f_l_box)))
    (l_l_box : K.lookup f_l_box = some ⟨oc_l_box, od_l_box, .func (PySem.W.fnOf "_law_box" "_law_box" (defArgs s_l_box) (defBody s_l_box) (defScope s_l_box) .none kV_l_box dc_l_box pm_l_box an_l_box cd_l_box ct_l_box), sl_l_box⟩)
    (c_l_box : PySem.W.codeIn K cd_l_box "_law_box" = true)
    (k_l_box : PySem.W.keepIn K (.ref f_l_box) = true)
    (a_l_kept : PySem.W.nsIn K mainGlobals "_law_kept" = some (some (.ref f_l_kept)))
    (l_l_kept : K.lookup f_l_kept = some ⟨oc_l_kept, od_l_kept, .func (PySem.W.fnOf "_law_kept" "_law_kept" (defArgs s_l_kept) (defBody s_l_kept) (defScope s_l_kept) .none kV_l_kept dc_l_kept pm_l_kept an_l_kept cd_l_kept ct_l_kept), sl_l_kept⟩)
    (c_l_kept : PySem.W.codeIn K cd_l_kept "_law_kept" = true)
    (k_l_kept : PySem.W.keepIn K (.ref f_l_kept) = true)
    (a_l_alone : PySem.W.nsIn K mainGlobals "_law_alone" = some (some (.ref f_l_alone)))
    (l_l_alone : K.lookup f_l_alone = some ⟨oc_l_alone, od_l_alone, .func (PySem.W.fnOf "_law_alone" "_law_alone" (defArgs s_l_alone) (defBody s_l_alone) (defScope s_l_alone) .none kV_l_alone dc_l_alone pm_l_alone an_l_alone cd_l_alone ct_l_alone), sl_l_alone⟩)
    (c_l_alone : PySem.W.codeIn K cd_l_alone "_law_alone" = true)
    (k_l_alone : PySem.W.keepIn K (.ref f_l_alone) = true)
    (a_law : PySem.W.nsIn K mainGlobals "law" = some (some (.ref f_law)))
    (l_law : K.lookup f_law = some ⟨oc_law, od_law, .func (PySem.W.fnOf "law" "law" (defArgs s_law) (defBody s_law) (defScope s_law) .none kV_law dc_law pm_law an_law cd_law ct_law), sl_law⟩)
    (c_law : PySem.W.codeIn K cd_law "law" = true)
    (k_law : PySem.W.keepIn K (.ref f_law) = true)
    (a_Box___init__ : PySem.W.findIn K (.ref C_Box) "__init__" = some (some (.ref f_Box___init__)))
    (l_Box___init__ : K.lookup f_Box___init__ = some ⟨oc_Box___init__, od_Box___init__, .func (PySem.W.fnOf "__init__" "Box.__init__" (defArgs s_Box___init__) (defBody s_Box___init__) (defScope s_Box___init__) .none kV_Box___init__ dc_Box___init__ pm_Box___init__ an_Box___init__ cd_Box___init__ ct_Box___init__), sl_Box___init__⟩)
    (c_Box___init__ : PySem.W.codeIn K cd_Box___init__ "Box.__init__" = true)
    (k_Box___init__ : PySem.W.keepIn K (.ref f_Box___init__) = true)
    (fn_Box___init__ : PySem.W.isFn K (.ref f_Box___init__) = true)
    (a_Box_squares : PySem.W.findIn K (.ref C_Box) "squares" = some (some (.ref p_Box_squares)))
    (r_Box_squares : PySem.W.recIn K p_Box_squares "property" = some (.ref f_Box_squares :: re_Box_squares))
    (pg_Box_squares : PySem.W.specialIn K (.ref p_Box_squares) "__get__" = some (some (.builtin "property.__get__")))
    (pt_Box_squares : PySem.W.takesIn K (.ref p_Box_squares) = some true)
    (l_Box_squares : K.lookup f_Box_squares = some ⟨oc_Box_squares, od_Box_squares, .func (PySem.W.fnOf "squares" "Box.squares" (defArgs s_Box_squares) (defBody s_Box_squares) (defScope s_Box_squares) .none kV_Box_squares dc_Box_squares pm_Box_squares an_Box_squares cd_Box_squares ct_Box_squares), sl_Box_squares⟩)
    (c_Box_squares : PySem.W.codeIn K cd_Box_squares "Box.squares" = true)
    (k_Box_squares : PySem.W.keepIn K (.ref f_Box_squares) = true)
    (a_Box_meets : PySem.W.findIn K (.ref C_Box) "meets" = some (some (.ref f_Box_meets)))
    (l_Box_meets : K.lookup f_Box_meets = some ⟨oc_Box_meets, od_Box_meets, .func (PySem.W.fnOf "meets" "Box.meets" (defArgs s_Box_meets) (defBody s_Box_meets) (defScope s_Box_meets) .none kV_Box_meets dc_Box_meets pm_Box_meets an_Box_meets cd_Box_meets ct_Box_meets), sl_Box_meets⟩)
    (c_Box_meets : PySem.W.codeIn K cd_Box_meets "Box.meets" = true)
    (k_Box_meets : PySem.W.keepIn K (.ref f_Box_meets) = true)
    (fn_Box_meets : PySem.W.isFn K (.ref f_Box_meets) = true)
    (a_Box_rests_on : PySem.W.findIn K (.ref C_Box) "rests_on" = some (some (.ref f_Box_rests_on)))
    (l_Box_rests_on : K.lookup f_Box_rests_on = some ⟨oc_Box_rests_on, od_Box_rests_on, .func (PySem.W.fnOf "rests_on" "Box.rests_on" (defArgs s_Box_rests_on) (defBody s_Box_rests_on) (defScope s_Box_rests_on) .none kV_Box_rests_on dc_Box_rests_on pm_Box_rests_on an_Box_rests_on cd_Box_rests_on ct_Box_rests_on), sl_Box_rests_on⟩)
    (c_Box_rests_on : PySem.W.codeIn K cd_Box_rests_on "Box.rests_on" = true)
    (k_Box_rests_on : PySem.W.keepIn K (.ref f_Box_rests_on) = true)
    (fn_Box_rests_on : PySem.W.isFn K (.ref f_Box_rests_on) = true)
    (a_Box___contains__ : PySem.W.findIn K (.ref C_Box) "__contains__" = some (some (.ref f_Box___contains__)))
    (l_Box___contains__ : K.lookup f_Box___contains__ = some ⟨oc_Box___contains__, od_Box___contains__, .func (PySem.W.fnOf "__contains__" "Box.__contains__" (defArgs s_Box___contains__) (defBody s_Box___contains__) (defScope s_Box___contains__) .none kV_Box___contains__ dc_Box___contains__ pm_Box___contains__ an_Box___contains__ cd_Box___contains__ ct_Box___contains__), sl_Box___contains__⟩)
    (c_Box___contains__ : PySem.W.codeIn K cd_Box___contains__ "Box.__contains__" = true)
    (k_Box___contains__ : PySem.W.keepIn K (.ref f_Box___contains__) = true)
    (fn_Box___contains__ : PySem.W.isFn K (.ref f_Box___contains__) = true)
    (a_Box___len__ : PySem.W.findIn K (.ref C_Box) "__len__" = some (some (.ref f_Box___len__)))
    (l_Box___len__ : K.lookup f_Box___len__ = some ⟨oc_Box___len__, od_Box___len__, .func (PySem.W.fnOf "__len__" "Box.__len__" (defArgs s_Box___len__) (defBody s_Box___len__) (defScope s_Box___len__) .none kV_Box___len__ dc_Box___len__ pm_Box___len__ an_Box___len__ cd_Box___len__ ct_Box___len__), sl_Box___len__⟩)
    (c_Box___len__ : PySem.W.codeIn K cd_Box___len__ "Box.__len__" = true)
    (k_Box___len__ : PySem.W.keepIn K (.ref f_Box___len__) = true)
    (fn_Box___len__ : PySem.W.isFn K (.ref f_Box___len__) = true)
    (a_Box___eq__ : PySem.W.findIn K (.ref C_Box) "__eq__" = some (some (.ref f_Box___eq__)))
    (l_Box___eq__ : K.lookup f_Box___eq__ = some ⟨oc_Box___eq__, od_Box___eq__, .func (PySem.W.fnOf "__eq__" "Box.__eq__" (defArgs s_Box___eq__) (defBody s_Box___eq__) (defScope s_Box___eq__) .none kV_Box___eq__ dc_Box___eq__ pm_Box___eq__ an_Box___eq__ cd_Box___eq__ ct_Box___eq__), sl_Box___eq__⟩)
    (c_Box___eq__ : PySem.W.codeIn K cd_Box___eq__ "Box.__eq__" = true)
    (k_Box___eq__ : PySem.W.keepIn K (.ref f_Box___eq__) = true)
    (fn_Box___eq__ : PySem.W.isFn K (.ref f_Box___eq__) = true)
    (pg_Box : PySem.W.plainGet K C_Box Str.empty = true)
    (hd_Box : PySem.W.hasDictIn K C_Box = true)
    (po_Box : PySem.W.plainOver K C_Box = true)
    (sa_Box : PySem.W.findIn K (.ref C_Box) "__setattr__" = some (some (.builtin "object.__setattr__")))
    (i1_Box : PySem.W.findIn K (.ref C_Box) "__class__" = some (some (.builtin "object.__class__")))
    (i4_Box : PySem.W.mroIn K C_Box (.type "object") = some true)
    (ic_Box : PySem.W.isClsIn K C_Box = true)
    (ty_Box : PySem.W.typeIn K (.ref C_Box) = some (.type "type"))
    (it_str_Box : PySem.W.subIn K (.type "str") (.ref C_Box) = some false)
    (it_int_Box : PySem.W.subIn K (.type "int") (.ref C_Box) = some false)
    (it_bool_Box : PySem.W.subIn K (.type "bool") (.ref C_Box) = some false)
    (it_NoneType_Box : PySem.W.subIn K (.type "NoneType") (.ref C_Box) = some false)
    (it_list_Box : PySem.W.subIn K (.type "list") (.ref C_Box) = some false)
    (it_tuple_Box : PySem.W.subIn K (.type "tuple") (.ref C_Box) = some false)
    (it_dict_Box : PySem.W.subIn K (.type "dict") (.ref C_Box) = some false)
    (ti_int_Box : PySem.W.subIn K (.ref C_Box) (.type "int") = some false)
    (ti_list_Box : PySem.W.subIn K (.ref C_Box) (.type "list") = some false)
    (ti_tuple_Box : PySem.W.subIn K (.ref C_Box) (.type "tuple") = some false)
    (sub_Box : PySem.W.subIn K (.type "str") (.ref C_Box) = some false)
    (ne_Box : PySem.W.findIn K (.ref C_Box) "__ne__" = some (some (.builtin "object.__ne__")))
    (mk_Box : PySem.W.makesIn K C_Box = true)
    (kc_Box : PySem.W.keepIn K (.ref C_Box) = true)
    (n_Box_first : PySem.W.findIn K (.ref C_Box) "first" = some none)
    (n_Box_last : PySem.W.findIn K (.ref C_Box) "last" = some none)
    (n_Box_x : PySem.W.findIn K (.ref C_Box) "x" = some none)
    (n_Box_y : PySem.W.findIn K (.ref C_Box) "y" = some none)
    (n_Box_outs : PySem.W.findIn K (.ref C_Box) "outs" = some none)
    (n_Box_downs : PySem.W.findIn K (.ref C_Box) "downs" = some none)
    (i2 : PySem.W.specialIn K (.builtin "object.__class__") "__get__" = some (some (.builtin "getset_descriptor.__get__")))
    (i3 : PySem.W.takesIn K (.builtin "object.__class__") = some true)
    (z_abs : PySem.W.nsIn K mainGlobals "abs" = some none)
    (z_enumerate : PySem.W.nsIn K mainGlobals "enumerate" = some none)
    (z_int : PySem.W.nsIn K mainGlobals "int" = some none)
    (z_isinstance : PySem.W.nsIn K mainGlobals "isinstance" = some none)
    (z_len : PySem.W.nsIn K mainGlobals "len" = some none)
    (z_list : PySem.W.nsIn K mainGlobals "list" = some none)
    (z_max : PySem.W.nsIn K mainGlobals "max" = some none)
    (z_property : PySem.W.nsIn K mainGlobals "property" = some none)
    (z_range : PySem.W.nsIn K mainGlobals "range" = some none)
    (z_tuple : PySem.W.nsIn K mainGlobals "tuple" = some none)
    : ∃ fd : FuncData, (∀ (s : Shared) (u : Value), BindsTo s fd ⟨[u], []⟩ [("_law_script", u)]) ∧ ∀ base : Heap, K.In base → base.Ns mainGlobals mg → FnOk P w K mg base CX0 12 fa fd ["_law_script"] (spLaw K) := by
  have e : f_law = fa := by
    have e := hfa.symm.trans (PySem.W.mg_of X G a_law)
    cases e
    rfl
  subst e
  have F_rest_table := fun_mk (st := s_rest_table) l_rest_table c_rest_table k_rest_table
  have b_rest_table := F_rest_table.binds (ps := P_rest_table) fun _ _ _ _ _ _ us hl => match us, hl with | [_], _ => rfl
  have F_l_mix := fun_mk (st := s_l_mix) l_l_mix c_l_mix k_l_mix
  have b_l_mix := F_l_mix.binds (ps := P_l_mix) fun _ _ _ _ _ _ us hl => match us, hl with | [_, _], _ => rfl
  have F_l_hand := fun_mk (st := s_l_hand) l_l_hand c_l_hand k_l_hand
  have b_l_hand := F_l_hand.binds (ps := P_l_hand) fun _ _ _ _ _ _ us hl => match us, hl with | [_], _ => rfl
  have F_l_draw := fun_mk (st := s_l_draw) l_l_draw c_l_draw k_l_draw
  have b_l_draw := F_l_draw.binds (ps := P_l_draw) fun _ _ _ _ _ _ us hl => match us, hl with | [_, _], _ => rfl
  have F_l_squares := fun_mk (st := s_l_squares) l_l_squares c_l_squares k_l_squares
  have b_l_squares := F_l_squares.binds (ps := P_l_squares) fun _ _ _ _ _ _ us hl => match us, hl with | [_], _ => rfl
  have F_l_meets := fun_mk (st := s_l_meets) l_l_meets c_l_meets k_l_meets
  have b_l_meets := F_l_meets.binds (ps := P_l_meets) fun _ _ _ _ _ _ us hl => match us, hl with | [_, _], _ => rfl
  have F_l_rests := fun_mk (st := s_l_rests) l_l_rests c_l_rests k_l_rests
  have b_l_rests := F_l_rests.binds (ps := P_l_rests) fun _ _ _ _ _ _ us hl => match us, hl with | [_, _], _ => rfl
  have F_l_boxed := fun_mk (st := s_l_boxed) l_l_boxed c_l_boxed k_l_boxed
  have b_l_boxed := F_l_boxed.binds (ps := P_l_boxed) fun _ _ _ _ _ _ us hl => match us, hl with | [_], _ => rfl
  have F_l_box := fun_mk (st := s_l_box) l_l_box c_l_box k_l_box
  have b_l_box := F_l_box.binds (ps := P_l_box) fun _ _ _ _ _ _ us hl => match us, hl with | [_, _], _ => rfl
  have F_l_kept := fun_mk (st := s_l_kept) l_l_kept c_l_kept k_l_kept
  have b_l_kept := F_l_kept.binds (ps := P_l_kept) fun _ _ _ _ _ _ us hl => match us, hl with | [_], _ => rfl
  have F_l_alone := fun_mk (st := s_l_alone) l_l_alone c_l_alone k_l_alone
  have b_l_alone := F_l_alone.binds (ps := P_l_alone) fun _ _ _ _ _ _ us hl => match us, hl with | [_, _], _ => rfl
  have F_law := fun_mk (st := s_law) l_law c_law k_law
  have b_law := F_law.binds (ps := P_law) fun _ _ _ _ _ _ us hl => match us, hl with | [_], _ => rfl
  have F_Box___init__ := fun_mk (st := s_Box___init__) l_Box___init__ c_Box___init__ k_Box___init__
  have b_Box___init__ := F_Box___init__.binds (ps := P_Box___init__) fun _ _ _ _ _ _ us hl => match us, hl with | [_, _, _, _, _, _, _], _ => rfl
  have F_Box_squares := fun_mk (st := s_Box_squares) l_Box_squares c_Box_squares k_Box_squares
  have b_Box_squares := F_Box_squares.binds (ps := P_Box_squares) fun _ _ _ _ _ _ us hl => match us, hl with | [_], _ => rfl
  have F_Box_meets := fun_mk (st := s_Box_meets) l_Box_meets c_Box_meets k_Box_meets
  have b_Box_meets := F_Box_meets.binds (ps := P_Box_meets) fun _ _ _ _ _ _ us hl => match us, hl with | [_, _], _ => rfl
  have F_Box_rests_on := fun_mk (st := s_Box_rests_on) l_Box_rests_on c_Box_rests_on k_Box_rests_on
  have b_Box_rests_on := F_Box_rests_on.binds (ps := P_Box_rests_on) fun _ _ _ _ _ _ us hl => match us, hl with | [_, _], _ => rfl
  have F_Box___contains__ := fun_mk (st := s_Box___contains__) l_Box___contains__ c_Box___contains__ k_Box___contains__
  have b_Box___contains__ := F_Box___contains__.binds (ps := P_Box___contains__) fun _ _ _ _ _ _ us hl => match us, hl with | [_, _], _ => rfl
  have F_Box___len__ := fun_mk (st := s_Box___len__) l_Box___len__ c_Box___len__ k_Box___len__
  have b_Box___len__ := F_Box___len__.binds (ps := P_Box___len__) fun _ _ _ _ _ _ us hl => match us, hl with | [_], _ => rfl
  have F_Box___eq__ := fun_mk (st := s_Box___eq__) l_Box___eq__ c_Box___eq__ k_Box___eq__
  have b_Box___eq__ := F_Box___eq__.binds (ps := P_Box___eq__) fun _ _ _ _ _ _ us hl => match us, hl with | [_, _], _ => rfl
  have T : Top K mg ({ f_rest_table := f_rest_table, f_l_mix := f_l_mix, f_l_hand := f_l_hand, f_l_draw := f_l_draw, f_l_squares := f_l_squares, f_l_meets := f_l_meets, f_l_rests := f_l_rests, f_l_boxed := f_l_boxed, f_l_box := f_l_box, f_l_kept := f_l_kept, f_l_alone := f_l_alone, f_law := f_law, f_Box___init__ := f_Box___init__, f_Box_squares := f_Box_squares, f_Box_meets := f_Box_meets, f_Box_rests_on := f_Box_rests_on, f_Box___contains__ := f_Box___contains__, f_Box___len__ := f_Box___len__, f_Box___eq__ := f_Box___eq__, d_rest_table := (PySem.W.fnOf "rest_table" "rest_table" (defArgs s_rest_table) (defBody s_rest_table) (defScope s_rest_table) .none kV_rest_table dc_rest_table pm_rest_table an_rest_table cd_rest_table ct_rest_table), d_l_mix := (PySem.W.fnOf "_law_mix" "_law_mix" (defArgs s_l_mix) (defBody s_l_mix) (defScope s_l_mix) .none kV_l_mix dc_l_mix pm_l_mix an_l_mix cd_l_mix ct_l_mix), d_l_hand := (PySem.W.fnOf "_law_hand" "_law_hand" (defArgs s_l_hand) (defBody s_l_hand) (defScope s_l_hand) .none kV_l_hand dc_l_hand pm_l_hand an_l_hand cd_l_hand ct_l_hand), d_l_draw := (PySem.W.fnOf "_law_draw" "_law_draw" (defArgs s_l_draw) (defBody s_l_draw) (defScope s_l_draw) .none kV_l_draw dc_l_draw pm_l_draw an_l_draw cd_l_draw ct_l_draw), d_l_squares := (PySem.W.fnOf "_law_squares" "_law_squares" (defArgs s_l_squares) (defBody s_l_squares) (defScope s_l_squares) .none kV_l_squares dc_l_squares pm_l_squares an_l_squares cd_l_squares ct_l_squares), d_l_meets := (PySem.W.fnOf "_law_meets" "_law_meets" (defArgs s_l_meets) (defBody s_l_meets) (defScope s_l_meets) .none kV_l_meets dc_l_meets pm_l_meets an_l_meets cd_l_meets ct_l_meets), d_l_rests := (PySem.W.fnOf "_law_rests" "_law_rests" (defArgs s_l_rests) (defBody s_l_rests) (defScope s_l_rests) .none kV_l_rests dc_l_rests pm_l_rests an_l_rests cd_l_rests ct_l_rests), d_l_boxed := (PySem.W.fnOf "_law_boxed" "_law_boxed" (defArgs s_l_boxed) (defBody s_l_boxed) (defScope s_l_boxed) .none kV_l_boxed dc_l_boxed pm_l_boxed an_l_boxed cd_l_boxed ct_l_boxed), d_l_box := (PySem.W.fnOf "_law_box" "_law_box" (defArgs s_l_box) (defBody s_l_box) (defScope s_l_box) .none kV_l_box dc_l_box pm_l_box an_l_box cd_l_box ct_l_box), d_l_kept := (PySem.W.fnOf "_law_kept" "_law_kept" (defArgs s_l_kept) (defBody s_l_kept) (defScope s_l_kept) .none kV_l_kept dc_l_kept pm_l_kept an_l_kept cd_l_kept ct_l_kept), d_l_alone := (PySem.W.fnOf "_law_alone" "_law_alone" (defArgs s_l_alone) (defBody s_l_alone) (defScope s_l_alone) .none kV_l_alone dc_l_alone pm_l_alone an_l_alone cd_l_alone ct_l_alone), d_law := (PySem.W.fnOf "law" "law" (defArgs s_law) (defBody s_law) (defScope s_law) .none kV_law dc_law pm_law an_law cd_law ct_law), d_Box___init__ := (PySem.W.fnOf "__init__" "Box.__init__" (defArgs s_Box___init__) (defBody s_Box___init__) (defScope s_Box___init__) .none kV_Box___init__ dc_Box___init__ pm_Box___init__ an_Box___init__ cd_Box___init__ ct_Box___init__), d_Box_squares := (PySem.W.fnOf "squares" "Box.squares" (defArgs s_Box_squares) (defBody s_Box_squares) (defScope s_Box_squares) .none kV_Box_squares dc_Box_squares pm_Box_squares an_Box_squares cd_Box_squares ct_Box_squares), d_Box_meets := (PySem.W.fnOf "meets" "Box.meets" (defArgs s_Box_meets) (defBody s_Box_meets) (defScope s_Box_meets) .none kV_Box_meets dc_Box_meets pm_Box_meets an_Box_meets cd_Box_meets ct_Box_meets), d_Box_rests_on := (PySem.W.fnOf "rests_on" "Box.rests_on" (defArgs s_Box_rests_on) (defBody s_Box_rests_on) (defScope s_Box_rests_on) .none kV_Box_rests_on dc_Box_rests_on pm_Box_rests_on an_Box_rests_on cd_Box_rests_on ct_Box_rests_on), d_Box___contains__ := (PySem.W.fnOf "__contains__" "Box.__contains__" (defArgs s_Box___contains__) (defBody s_Box___contains__) (defScope s_Box___contains__) .none kV_Box___contains__ dc_Box___contains__ pm_Box___contains__ an_Box___contains__ cd_Box___contains__ ct_Box___contains__), d_Box___len__ := (PySem.W.fnOf "__len__" "Box.__len__" (defArgs s_Box___len__) (defBody s_Box___len__) (defScope s_Box___len__) .none kV_Box___len__ dc_Box___len__ pm_Box___len__ an_Box___len__ cd_Box___len__ ct_Box___len__), d_Box___eq__ := (PySem.W.fnOf "__eq__" "Box.__eq__" (defArgs s_Box___eq__) (defBody s_Box___eq__) (defScope s_Box___eq__) .none kV_Box___eq__ dc_Box___eq__ pm_Box___eq__ an_Box___eq__ cd_Box___eq__ ct_Box___eq__), C_Box := C_Box, p_Box_squares := p_Box_squares } : Ads) := {
    D_rest_table := ⟨F_rest_table, b_rest_table, PySem.W.mg_of X G a_rest_table⟩,
    D_l_mix := ⟨F_l_mix, b_l_mix, PySem.W.mg_of X G a_l_mix⟩,
    D_l_hand := ⟨F_l_hand, b_l_hand, PySem.W.mg_of X G a_l_hand⟩,
    D_l_draw := ⟨F_l_draw, b_l_draw, PySem.W.mg_of X G a_l_draw⟩,
    D_l_squares := ⟨F_l_squares, b_l_squares, PySem.W.mg_of X G a_l_squares⟩,
    D_l_meets := ⟨F_l_meets, b_l_meets, PySem.W.mg_of X G a_l_meets⟩,
    D_l_rests := ⟨F_l_rests, b_l_rests, PySem.W.mg_of X G a_l_rests⟩,
    D_l_boxed := ⟨F_l_boxed, b_l_boxed, PySem.W.mg_of X G a_l_boxed⟩,
    D_l_box := ⟨F_l_box, b_l_box, PySem.W.mg_of X G a_l_box⟩,
    D_l_kept := ⟨F_l_kept, b_l_kept, PySem.W.mg_of X G a_l_kept⟩,
    D_l_alone := ⟨F_l_alone, b_l_alone, PySem.W.mg_of X G a_l_alone⟩,
    D_law := ⟨F_law, b_law, PySem.W.mg_of X G a_law⟩,
    D_Box___init__ := ⟨F_Box___init__, b_Box___init__⟩,
    D_Box_squares := ⟨F_Box_squares, b_Box_squares⟩,
    D_Box_meets := ⟨F_Box_meets, b_Box_meets⟩,
    D_Box_rests_on := ⟨F_Box_rests_on, b_Box_rests_on⟩,
    D_Box___contains__ := ⟨F_Box___contains__, b_Box___contains__⟩,
    D_Box___len__ := ⟨F_Box___len__, b_Box___len__⟩,
    D_Box___eq__ := ⟨F_Box___eq__, b_Box___eq__⟩,
    g_Box := PySem.W.mg_of X G ac_Box,
    cl_Box := ⟨pg_Box, hd_Box, po_Box, sa_Box⟩,
    i1_Box := i1_Box,
    i4_Box := i4_Box,
    ii_Box := kit_self,
    it_str_Box := kit_own ic_Box ty_Box it_str_Box,
    it_int_Box := kit_own ic_Box ty_Box it_int_Box,
    it_bool_Box := kit_own ic_Box ty_Box it_bool_Box,
    it_NoneType_Box := kit_own ic_Box ty_Box it_NoneType_Box,
    it_list_Box := kit_own ic_Box ty_Box it_list_Box,
    it_tuple_Box := kit_own ic_Box ty_Box it_tuple_Box,
    it_dict_Box := kit_own ic_Box ty_Box it_dict_Box,
    ti_Box_int := kit_kind (by decide +kernel) ti_int_Box,
    ti_Box_list := kit_kind (by decide +kernel) ti_list_Box,
    ti_Box_tuple := kit_kind (by decide +kernel) ti_tuple_Box,
    subt_Box := it_tuple_Box,
    subl_Box := it_list_Box,
    sub_Box := sub_Box,
    ne_Box := ⟨ne_Box, i4_Box⟩,
    mk_Box := ⟨mk_Box, a_Box___init__, fn_Box___init__, kc_Box⟩,
    n_Box_first := n_Box_first,
    n_Box_last := n_Box_last,
    n_Box_x := n_Box_x,
    n_Box_y := n_Box_y,
    n_Box_outs := n_Box_outs,
    n_Box_downs := n_Box_downs,
    p_Box_squares := ⟨a_Box_squares, pg_Box_squares, pt_Box_squares, ⟨_, r_Box_squares⟩⟩,
    o_Box_meets := ⟨a_Box_meets, fn_Box_meets⟩,
    m_Box_meets := ⟨a_Box_meets, fn_Box_meets, k_Box_meets⟩,
    o_Box_rests_on := ⟨a_Box_rests_on, fn_Box_rests_on⟩,
    m_Box_rests_on := ⟨a_Box_rests_on, fn_Box_rests_on, k_Box_rests_on⟩,
    o_Box___contains__ := ⟨a_Box___contains__, fn_Box___contains__⟩,
    m_Box___contains__ := ⟨a_Box___contains__, fn_Box___contains__, k_Box___contains__⟩,
    o_Box___len__ := ⟨a_Box___len__, fn_Box___len__⟩,
    m_Box___len__ := ⟨a_Box___len__, fn_Box___len__, k_Box___len__⟩,
    o_Box___eq__ := ⟨a_Box___eq__, fn_Box___eq__⟩,
    m_Box___eq__ := ⟨a_Box___eq__, fn_Box___eq__, k_Box___eq__⟩,
    i2 := i2,
    i3 := i3,
    b_abs := PySem.W.mg_none_of X G z_abs,
    b_enumerate := PySem.W.mg_none_of X G z_enumerate,
    b_int := PySem.W.mg_none_of X G z_int,
    b_isinstance := PySem.W.mg_none_of X G z_isinstance,
    b_len := PySem.W.mg_none_of X G z_len,
    b_list := PySem.W.mg_none_of X G z_list,
    b_max := PySem.W.mg_none_of X G z_max,
    b_property := PySem.W.mg_none_of X G z_property,
    b_range := PySem.W.mg_none_of X G z_range,
    b_tuple := PySem.W.mg_none_of X G z_tuple }
  exact ⟨(PySem.W.fnOf "law" "law" (defArgs s_law) (defBody s_law) (defScope s_law) .none kV_law dc_law pm_law an_law cd_law ct_law), fun s v => .of_eq rfl, fun base _ _ => ok_law T⟩
theorem walk {l : PySem.W.OpenLaw} {q : Program} {loose : List Str} {XP : (Str → Option Value) → Heap → Prop} {YP : World → Heap → Prop} {d : DefRec} {K : Params → PySem.W.Frag} (hn : l.most = some 63) (hdf : d.params.defaults = [])
    (hY : ∀ (w : World) (h : Heap), YP w h → (K w.params).In h)
    (F : ∀ (w : World) (mg : Str → Option Value) (fa : Addr) (h : Heap), (K w.params).In h → h.Ns mainGlobals mg → mg d.name = some (.ref fa) →
      ∃ fd : FuncData, (∀ (s : Shared) (u : Value), BindsTo s fd ⟨[u], []⟩ [("_law_script", u)]) ∧ ∀ base : Heap, (K w.params).In base → base.Ns mainGlobals mg → FnOk l.prog w (K w.params) mg base CX0 12 fa fd ["_law_script"] (spLaw (K w.params))) :
    PySem.W.WalkO q loose XP YP l.row.toRowW d [] (fun f vs => PySem.call f vs) :=
  L2.walk_ofB (n := 63) (k := 12) (x := "_law_script") (CX := fun _ => CX0) (sp := fun w => spLaw (K w.params)) hn (by decide) hdf ⟨rfl, by decide, by decide⟩ hY F (fun _ _ a ns hl _ _ hS => ⟨a, ns, rfl, hS, hl, fun _ => rfl⟩) fun _ _ _ _ _ z => z


end Sl
open PySem PySem.W PyProof.Rows
set_option maxRecDepth 100000 in
set_option maxHeartbeats 0 in
theorem PySem.Challenge.cw_slitstairs_k52_boxes_and_what_rests_holds : PySem.Challenge.rw_slitstairs_k52_boxes_and_what_rests.Holds := by
  w_on; o_law; k_head; (case hw => w_witness2)
  k_fill
  refine Sl.walk (l := PySem.Challenge.rw_slitstairs_k52_boxes_and_what_rests) rfl rfl (fun w h Y => PySem.W.kIn_of Y) ?F
  case F =>
    intro w mg fa h KX G hmg
    refine' Sl.all_mk KX G hmg ?ac_Box ?a_rest_table ?l_rest_table ?c_rest_table ?k_rest_table ?a_l_mix ?l_l_mix ?c_l_mix ?k_l_mix ?a_l_hand ?l_l_hand ?c_l_hand ?k_l_hand ?a_l_draw ?l_l_draw ?c_l_draw ?k_l_draw ?a_l_squares ?l_l_squares ?c_l_squares ?k_l_squares ?a_l_meets ?l_l_meets ?c_l_meets ?k_l_meets ?a_l_rests ?l_l_rests ?c_l_rests ?k_l_rests ?a_l_boxed ?l_l_boxed ?c_l_boxed ?k_l_boxed ?a_l_box ?l_l_box ?c_l_box ?k_l_box ?a_l_kept ?l_l_kept ?c_l_kept ?k_l_kept ?a_l_alone ?l_l_alone ?c_l_alone ?k_l_alone ?a_law ?l_law ?c_law ?k_law ?a_Box___init__ ?l_Box___init__ ?c_Box___init__ ?k_Box___init__ ?fn_Box___init__ ?a_Box_squares ?r_Box_squares ?pg_Box_squares ?pt_Box_squares ?l_Box_squares ?c_Box_squares ?k_Box_squares ?a_Box_meets ?l_Box_meets ?c_Box_meets ?k_Box_meets ?fn_Box_meets ?a_Box_rests_on ?l_Box_rests_on ?c_Box_rests_on ?k_Box_rests_on ?fn_Box_rests_on ?a_Box___contains__ ?l_Box___contains__ ?c_Box___contains__ ?k_Box___contains__ ?fn_Box___contains__ ?a_Box___len__ ?l_Box___len__ ?c_Box___len__ ?k_Box___len__ ?fn_Box___len__ ?a_Box___eq__ ?l_Box___eq__ ?c_Box___eq__ ?k_Box___eq__ ?fn_Box___eq__ ?pg_Box ?hd_Box ?po_Box ?sa_Box ?i1_Box ?i4_Box ?ic_Box ?ty_Box ?it_str_Box ?it_int_Box ?it_bool_Box ?it_NoneType_Box ?it_list_Box ?it_tuple_Box ?it_dict_Box ?ti_int_Box ?ti_list_Box ?ti_tuple_Box ?sub_Box ?ne_Box ?mk_Box ?kc_Box ?n_Box_first ?n_Box_last ?n_Box_x ?n_Box_y ?n_Box_outs ?n_Box_downs ?i2 ?i3 ?z_abs ?z_enumerate ?z_int ?z_isinstance ?z_len ?z_list ?z_max ?z_property ?z_range ?z_tuple
    (case ac_Box => k_is)
    (case a_rest_table => k_is)
    (case l_rest_table => k_is)
    (case c_rest_table => k_is)
    (case k_rest_table => k_is)
    (case a_l_mix => k_is)
    (case l_l_mix => k_is)
    (case c_l_mix => k_is)
    (case k_l_mix => k_is)
    (case a_l_hand => k_is)
    (case l_l_hand => k_is)
    (case c_l_hand => k_is)
    (case k_l_hand => k_is)
    (case a_l_draw => k_is)
    (case l_l_draw => k_is)
    (case c_l_draw => k_is)
    (case k_l_draw => k_is)
    (case a_l_squares => k_is)
    (case l_l_squares => k_is)
    (case c_l_squares => k_is)
    (case k_l_squares => k_is)
    (case a_l_meets => k_is)
    (case l_l_meets => k_is)
    (case c_l_meets => k_is)
    (case k_l_meets => k_is)
    (case a_l_rests => k_is)
    (case l_l_rests => k_is)
    (case c_l_rests => k_is)
    (case k_l_rests => k_is)
    (case a_l_boxed => k_is)
    (case l_l_boxed => k_is)
    (case c_l_boxed => k_is)
    (case k_l_boxed => k_is)
    (case a_l_box => k_is)
    (case l_l_box => k_is)
    (case c_l_box => k_is)
    (case k_l_box => k_is)
    (case a_l_kept => k_is)
    (case l_l_kept => k_is)
    (case c_l_kept => k_is)
    (case k_l_kept => k_is)
    (case a_l_alone => k_is)
    (case l_l_alone => k_is)
    (case c_l_alone => k_is)
    (case k_l_alone => k_is)
    (case a_law => k_is)
    (case l_law => k_is)
    (case c_law => k_is)
    (case k_law => k_is)
    (case a_Box___init__ => k_is)
    (case l_Box___init__ => k_is)
    (case c_Box___init__ => k_is)
    (case k_Box___init__ => k_is)
    (case fn_Box___init__ => k_is)
    (case a_Box_squares => k_is)
    (case r_Box_squares => k_is)
    (case pg_Box_squares => k_is)
    (case pt_Box_squares => k_is)
    (case l_Box_squares => k_is)
    (case c_Box_squares => k_is)
    (case k_Box_squares => k_is)
    (case a_Box_meets => k_is)
    (case l_Box_meets => k_is)
    (case c_Box_meets => k_is)
    (case k_Box_meets => k_is)
    (case fn_Box_meets => k_is)
    (case a_Box_rests_on => k_is)
    (case l_Box_rests_on => k_is)
    (case c_Box_rests_on => k_is)
    (case k_Box_rests_on => k_is)
    (case fn_Box_rests_on => k_is)
    (case a_Box___contains__ => k_is)
    (case l_Box___contains__ => k_is)
    (case c_Box___contains__ => k_is)
    (case k_Box___contains__ => k_is)
    (case fn_Box___contains__ => k_is)
    (case a_Box___len__ => k_is)
    (case l_Box___len__ => k_is)
    (case c_Box___len__ => k_is)
    (case k_Box___len__ => k_is)
    (case fn_Box___len__ => k_is)
    (case a_Box___eq__ => k_is)
    (case l_Box___eq__ => k_is)
    (case c_Box___eq__ => k_is)
    (case k_Box___eq__ => k_is)
    (case fn_Box___eq__ => k_is)
    (case pg_Box => k_is)
    (case hd_Box => k_is)
    (case po_Box => k_is)
    (case sa_Box => k_is)
    (case i1_Box => k_is)
    (case i4_Box => k_is)
    (case ic_Box => k_is)
    (case ty_Box => k_is)
    (case it_str_Box => k_is)
    (case it_int_Box => k_is)
    (case it_bool_Box => k_is)
    (case it_NoneType_Box => k_is)
    (case it_list_Box => k_is)
    (case it_tuple_Box => k_is)
    (case it_dict_Box => k_is)
    (case ti_int_Box => k_is)
    (case ti_list_Box => k_is)
    (case ti_tuple_Box => k_is)
    (case sub_Box => k_is)
    (case ne_Box => k_is)
    (case mk_Box => k_is)
    (case kc_Box => k_is)
    (case n_Box_first => k_is)
    (case n_Box_last => k_is)
    (case n_Box_x => k_is)
    (case n_Box_y => k_is)
    (case n_Box_outs => k_is)
    (case n_Box_downs => k_is)
    (case i2 => k_is)
    (case i3 => k_is)
    (case z_abs => k_is)
    (case z_enumerate => k_is)
    (case z_int => k_is)
    (case z_isinstance => k_is)
    (case z_len => k_is)
    (case z_list => k_is)
    (case z_max => k_is)
    (case z_property => k_is)
    (case z_range => k_is)
    (case z_tuple => k_is)
