import PyProof.Rows.All
import Wide.All
import OpenK.AllK
import Wide.FinOn
import HandS.Deep
import HandS.Sort
import HandS.SortRule
import HandS.Defaults
import HandS.Gcd
import HandS.ExcIs
import PySem.Challenge.RW_slitstairs_k01_words_and_columns_made_an
import HandS.ForMost
import HandS.ForExc
import HandS.EndBits
import HandS.Wide
import HandS.Walk
import HandS.IsInst
import HandS.ExcInit
import HandS.ExcField
import HandS.OwnEq
import HandS.IterVal
import PyProof.FactsAll.str_ascii_iterator_1
import PyProof.FactsAll.tuple_iterator_1
import HandS.Style
import HandS.RaiseMore
import HandS.Property
import HandS.TryMany
import HandS.TryOnly
import HandS.ClsMeth
import HandS.MakeKwOnly
import HandS.FStr
import HandS.DictTup
import HandS.StrSplit
import HandS.Star
import HandS.MethStar
import HandS.TupLe
import KE.GoesMore
set_option Elab.async false
set_option linter.all false
set_option maxRecDepth 100000
set_option maxHeartbeats 4000000
namespace Sl
open PySem PySem.Spec PyProof.Rows L2 ItX
/-- the def st stands at f as the name x of the module -/
structure DefAt (K : PySem.W.Frag) (mg : Str → Option Value) (x : Str) (st : Stmt) (ps : List Str) (f : Addr) (fd : FuncData) : Prop where
  F : Fun K x x st f fd
  b : Binds K fd ps []
  g : mg x = some (.ref f)
theorem callD {X : Cx} {x : Str} {st : Stmt} {ps : List Str} {f : Addr} {fd : FuncData} {sp : Sp} {k j : Nat} {e : Expr} {es : List Expr} {p pos : Pos} {t : TA} (D : DefAt X.K X.mg x st ps f fd) (G : FnOk X.prog X.w X.K X.mg X.base CX0 k f fd ps sp) (hr : Room j X.A) (ha : PA X (e :: es) t)
    (hk : k ≤ j := by decide) (hg : Gl X x := by rfl) (hdb : (x == ("__debug__" : Str)) = false := by decide)
    (he : starEach (e :: es) X.env = (false, eval e X.env) :: starEach es X.env := by rfl) (hpl : (backTo pos (starEach es X.env)).any (·.1) = false := by rfl) :
    PE X (.Call (.Name x p) (e :: es) [] pos) (tCall sp [] E0 t) := pe_call G (hr.mono hk) hg D.g D.F.kp D.b .nil pass0 ha hdb he hpl
theorem cmul_l {i j : Int} (h : -18446744073709551616 < i ∧ i < 18446744073709551616) : CMul i j := .inl h
theorem cmul_r {i j : Int} (h : -18446744073709551616 < j ∧ j < 18446744073709551616) : CMul i j := .inr h
theorem cdiv {i j : Int} (h : 0 < j) (h2 : j < 1073741824) : CDiv i j := ⟨h, h2⟩
theorem same_but {a : Addr} {H H1 H2 : Hp} (s : Same H H1) (n : H a = none) (b : ∀ b o, b ≠ a → H1 b = some o → H2 b = some o) : Same H H2 := fun c o h => b c o (ne_of_none h n) (s c o h)
theorem same_new {H H1 : Hp} {a : Addr} {o : HO} (s : Same H H1) (n : H1 a = none) : Same H (upd H1 a o) := fun b u e => by
  rw [upd_ne (ne_of_none (s b u e) n)]
  exact s b u e
theorem same_free {H H' : Hp} {a : Addr} (s : Same H H') (n : H' a = none) : H a = none := s.free n
theorem cpow {i j : Int} (h1 : 0 ≤ j) (h2 : j ≤ 1000000) (h3 : i.natAbs < 2 ^ 64) : CPow i j := ⟨h1, h2, h3⟩
theorem szl {n : Nat} (h : n ≤ 1000) : n ≤ sizeLine := Nat.le_of_lt (small1000 h)
/-- the law's hand stands at a -/
def HandOk (H : Hp) (a : Addr) : Prop := ∃ (l : Addr) (cells : List Int) (pos pend tot : Int), H a = some (.lst [.ref l, .int pos, .int pend, .int tot]) ∧ H l = some (.lst (cells.map V.int)) ∧
  (0 ≤ pos ∧ pos ≤ 63) ∧ cells.length ≤ 63 ∧ (∀ c ∈ cells, 0 ≤ c) ∧ 0 ≤ pend ∧ (0 ≤ tot ∧ tot < 2147483629)
/-- all but a is as it was -/
def But (a : Addr) (H H' : Hp) : Prop := ∀ b o, b ≠ a → H b = some o → H' b = some o
theorem HandOk.mk {H H' : Hp} {a l : Addr} {cells : List Int} {pos pend tot : Int} (hal : a ≠ l) (el : H l = some (.lst (cells.map V.int))) (b : But a H H') (ea : H' a = some (.lst [.ref l, .int pos, .int pend, .int tot])) (hp : 0 ≤ pos ∧ pos ≤ 63) (hl : cells.length ≤ 63) (hc : ∀ c ∈ cells, 0 ≤ c) (hpe : 0 ≤ pend) (ht : 0 ≤ tot ∧ tot < 2147483629) : HandOk H' a :=
  ⟨l, cells, pos, pend, tot, ea, b l _ (Ne.symm hal) el, hp, hl, hc, hpe, ht⟩
theorem But.refl (a : Addr) (H : Hp) : But a H H := fun _ _ _ h => h
theorem But.trans {a : Addr} {H H1 H2 : Hp} (x : But a H H1) (y : But a H1 H2) : But a H H2 := fun b o n h => y b o n (x b o n h)
theorem But.upd {a : Addr} {H H1 : Hp} {o : HO} (x : But a H H1) : But a H (upd H1 a o) := fun b u n h => by
  rw [upd_ne n]
  exact x b u n h
/-! texts by their codes -/
def sOf (l : List Nat) : Str := ⟨l.toArray⟩
theorem sOf_tl (x : Str) : sOf x.cps.toList = x := rfl
theorem sOf_inj {a b : List Nat} : sOf a = sOf b ↔ a = b := ⟨fun h => by
  have h2 := congrArg (fun s : Str => s.cps.toList) h
  simpa [sOf] using h2, fun h => by rw [h]⟩
theorem sOf_len (l : List Nat) : (sOf l).length = l.length := by simp [sOf, Str.length]
theorem sOf_app (a b : List Nat) : sOf a ++ sOf b = sOf (a ++ b) := TL.ext_tl (by rw [TL.tl_append]; simp [sOf, TL.tl])
theorem sOf_count (l : List Nat) (c : Nat) : Txt.count (sOf l) (sOf [c]) = (l.count c : Int) := by
  show Txt.count (sOf l) ⟨#[c]⟩ = _
  rw [PyProof.Rows.count_cnt]
  show PyProof.Rows.cnt c l = _
  induction l with
  | nil => rfl
  | cons x r ih =>
    rw [PyProof.Rows.cnt_cons, ih, List.count_cons]
    by_cases h : x = c
    · subst h; simp; omega
    · simp [h]
theorem sOf_take (l : List Nat) (k : Nat) (h : k ≤ l.length) : cutS (sOf l) none (some (k : Int)) = sOf (l.take k) := by
  unfold cutS
  rw [sOf_len, HT.sIx_nat, HT.sIx_none, Nat.min_eq_left h]
  simp [sOf]
theorem sOf_drop (l : List Nat) (k : Nat) (h : k ≤ l.length) : cutS (sOf l) (some (k : Int)) none = sOf (l.drop k) := by
  unfold cutS
  rw [sOf_len, HT.sIx_nat, HT.sIx_none, Nat.min_eq_left h]
  have e : (l.drop k).take (l.length - k) = l.drop k := List.take_of_length_le (by rw [List.length_drop]; exact Nat.le_refl _)
  simp [sOf, e]
theorem str_d : ("d" : Str) = sOf [100] := by decide +kernel
theorem str_o : ("o" : Str) = sOf [111] := by decide +kernel
theorem str_e : ("" : Str) = sOf [] := by decide +kernel
/-! rules of texts, by their codes -/
theorem pe_s {X : Cx} (l : List Nat) {x : Str} {j : Nat} {pos : Pos} (h : x = sOf l) : PE X (.Constant (.str x) j pos) (tC (.str (sOf l))) := by
  subst h
  exact pe_str
def rAddS : R2 := fun x y H Q => ∃ a b : List Nat, x = .str (sOf a) ∧ y = .str (sOf b) ∧ a.length + b.length ≤ 1000 ∧ Q (.str (sOf (a ++ b))) H
theorem op_addS {X : Cx} : OpR X (binaryOp .Add) rAddS := fun pins s σ H x y v u Q I rx ry ⟨a, b, ex, ey, hl, q⟩ =>
  op_add_str pins s σ H x y v u Q I rx ry ⟨_, _, ex, ey, by rw [sOf_len, sOf_len]; exact szl hl, by rw [sOf_app]; exact q⟩
def rLenS1 : List V → Hp → VK → Prop := fun xs H Q => ∃ l : List Nat, xs = [.str (sOf l)] ∧ l.length ≤ 1000 ∧ Q (.int l.length) H
theorem call_lenS {X : Cx} : CallR X (.builtin "len") rLenS1 := fun pins s σ H xs us Q I r ⟨l, e, hl, q⟩ =>
  call_len_str pins s σ H xs us Q I r ⟨_, e, by rw [sOf_len]; exact szl hl, by rw [sOf_len]; exact q⟩
def rCountS : V → List V → Hp → VK → Prop := fun x xs H Q => ∃ (l : List Nat) (c : Nat), x = .str (sOf l) ∧ xs = [.str (sOf [c])] ∧ Q (.int (l.count c : Nat)) H
theorem mt_countS {X : Cx} : MtR X "str.count" rCountS := fun pins s σ H x xs v us Q I rx rs ⟨l, c, ex, es, q⟩ =>
  mt_count pins s σ H x xs v us Q I rx rs ⟨_, _, ex, es, by rw [sOf_count]; exact q⟩
/-- a list's slice -/
def cutN (l : List Nat) (lo hi : Option Int) : List Nat := (l.drop (HT.sIx l.length 0 lo)).take (HT.sIx l.length l.length hi - HT.sIx l.length 0 lo)
theorem cutS_cutN (l : List Nat) (lo hi : Option Int) : cutS (sOf l) lo hi = sOf (cutN l lo hi) := by
  unfold cutS cutN
  rw [sOf_len]
  rfl
theorem cutN_take (l : List Nat) {i : Int} (h0 : 0 ≤ i) : cutN l none (some i) = l.take i.toNat := by
  obtain ⟨k, rfl⟩ := Int.eq_ofNat_of_zero_le h0
  unfold cutN
  rw [show (some ((k : Nat) : Int)) = some (k : Int) from rfl, HT.sIx_nat, HT.sIx_none, Nat.sub_zero, List.drop_zero, Int.toNat_natCast]
  by_cases h : k ≤ l.length
  · rw [Nat.min_eq_left h]
  · rw [Nat.min_eq_right (by omega), List.take_length, List.take_of_length_le (by omega)]
theorem cutN_drop (l : List Nat) {i : Int} (h0 : 0 ≤ i) : cutN l (some i) none = l.drop i.toNat := by
  obtain ⟨k, rfl⟩ := Int.eq_ofNat_of_zero_le h0
  unfold cutN
  rw [show (some ((k : Nat) : Int)) = some (k : Int) from rfl, HT.sIx_nat, HT.sIx_none, Int.toNat_natCast]
  by_cases h : k ≤ l.length
  · rw [Nat.min_eq_left h]
    exact List.take_of_length_le (by rw [List.length_drop]; exact Nat.le_refl _)
  · rw [Nat.min_eq_right (by omega), List.drop_length, List.drop_eq_nil_of_le (by omega), List.take_nil]
def rSlS2 : V → Option Int → Option Int → Hp → VK → Prop := fun x lo hi H Q => ∃ l : List Nat, x = .str (sOf l) ∧ l.length ≤ 1000 ∧ Q (.str (sOf (cutN l lo hi))) H
theorem sl_S {X : Cx} : SlR X rSlS2 := fun pins s σ H x v vl vu lo hi sl Q I rx hs pl pu ⟨l, ex, hl, q⟩ =>
  sl_str pins s σ H x v vl vu lo hi sl Q I rx hs pl pu ⟨_, ex, by rw [sOf_len]; exact szl hl, by rw [cutS_cutN]; exact q⟩
def rIxS2 : R2 := fun x y H Q => ∃ (l : List Nat) (i : Int) (c : Nat), x = .str (sOf l) ∧ y = .int i ∧ l.length ≤ 1000 ∧ atI l i = some c ∧ Q (.str (sOf [c])) H
theorem ix_S {X : Cx} : IxR X rIxS2 := fun value slice pins s σ H x y v u Q I rx ry ⟨l, i, c, ex, ey, hl, ha, q⟩ hs =>
  ix_str value slice pins s σ H x y v u Q I rx ry ⟨_, i, c, ex, ey, by rw [sOf_len]; exact szl hl, ha, q⟩ hs
theorem walk_S {l : List Nat} : Walk (Its (sOf l)) l.length (fun _ => True) (fun i H v H' => H' = H ∧ ∃ c, l[i]? = some c ∧ v = .str (sOf [c])) := by
  refine ⟨fun i H hi _ => ?_, fun H _ => ?_, fun i H x H' _ _ y => ?_⟩
  · show i < (sOf l).cps.size
    simpa [sOf] using hi
  · show (sOf l).cps.size ≤ l.length
    simp [sOf]
  · obtain ⟨h1, c, h2, h3⟩ := y
    refine ⟨h1, c, ?_, h3⟩
    simpa [sOf] using h2
theorem str_eq {a b : List Nat} : (V.str (sOf a) = V.str (sOf b)) ↔ a = b := ⟨fun h => sOf_inj.mp (V.str.inj h), fun h => by rw [h]⟩
/-! ### words -/
/-- a word of size n: as many d (100) as o (111), never more o than d ahead -/
structure Good (l : List Nat) (n : Nat) : Prop where
  len : l.length = 2 * n
  cnt : l.count 100 = n
  ltr : ∀ c ∈ l, c = 100 ∨ c = 111
  ahead : ∀ k, k ≤ l.length → (l.take k).count 111 ≤ (l.take k).count 100
theorem ltr_count : ∀ {l : List Nat}, (∀ c ∈ l, c = 100 ∨ c = 111) → l.count 100 + l.count 111 = l.length
  | [], _ => rfl
  | x :: r, h => by
    have ih := ltr_count (l := r) fun c hc => h c (List.mem_cons_of_mem _ hc)
    rw [List.count_cons, List.count_cons, List.length_cons]
    rcases h x List.mem_cons_self with e | e <;> subst e <;> simp <;> omega
/-- what a row of steps has of a word while it is made -/
structure Part (l : List Nat) (n : Nat) : Prop where
  cnt : l.count 100 ≤ n
  ltr : ∀ c ∈ l, c = 100 ∨ c = 111
  ahead : ∀ k, k ≤ l.length → (l.take k).count 111 ≤ (l.take k).count 100
theorem Part.le {l : List Nat} {n : Nat} (p : Part l n) : l.count 111 ≤ l.count 100 := by
  have h := p.ahead l.length (Nat.le_refl _)
  rwa [List.take_length] at h
theorem Part.nil (n : Nat) : Part [] n := ⟨Nat.zero_le _, fun _ h => by simp at h, fun k _ => by simp⟩
theorem Part.snoc {l : List Nat} {n c : Nat} (p : Part l n) (h : (c = 100 ∧ l.count 100 < n) ∨ (c = 111 ∧ l.count 111 < l.count 100)) : Part (l ++ [c]) n := by
  refine ⟨?_, ?_, fun k hk => ?_⟩
  · rcases h with ⟨e, h⟩ | ⟨e, h⟩ <;> subst e <;> simp [List.count_append] <;> have := p.cnt <;> omega
  · intro x hx
    rcases List.mem_append.mp hx with hx | hx
    · exact p.ltr x hx
    · rw [List.mem_singleton] at hx
      rcases h with ⟨e, h⟩ | ⟨e, h⟩
      · exact .inl (hx.trans e)
      · exact .inr (hx.trans e)
  · by_cases hk2 : k ≤ l.length
    · rw [List.take_append_of_le_length hk2]
      exact p.ahead k hk2
    · have e : (l ++ [c]).take k = l ++ [c] := List.take_of_length_le (by rw [List.length_append] at hk ⊢; simp at hk ⊢; omega)
      rw [e, List.count_append, List.count_append]
      have := p.le
      rcases h with ⟨e, h⟩ | ⟨e, h⟩ <;> subst e <;> simp <;> omega
theorem Part.good {l : List Nat} {n : Nat} (p : Part l n) (h : l.length = 2 * n) : Good l n := by
  have h1 := p.le
  have h2 := ltr_count p.ltr
  have h3 := p.cnt
  exact ⟨h, by omega, p.ltr, p.ahead⟩
theorem cdivw {m : Int} (h : 0 < m) (h2 : m < 1152921504606846976) : CDivW 0 m := wide_div (i := 0) (b := 60) h (by omega) (by decide) (by decide)
theorem count_sign (c x : Nat) : [c].count x = if c = x then 1 else 0 := by
  rw [List.count_cons, List.count_nil]
  by_cases h : c = x
  · simp [h]
  · simp [h]
theorem cnt_d (l : List Nat) : (((l ++ [100]).count 100 : Nat) : Int) - ((l ++ [100]).count 111 : Nat) = (l.count 100 : Int) - l.count 111 + 1 := by
  rw [List.count_append, List.count_append, count_sign, count_sign]
  simp
  omega
theorem cnt_o (l : List Nat) : (((l ++ [111]).count 100 : Nat) : Int) - ((l ++ [111]).count 111 : Nat) = (l.count 100 : Int) - l.count 111 - 1 := by
  rw [List.count_append, List.count_append, count_sign, count_sign]
  simp
  omega
/-! rules that name the written part by itself (within comprehensions) -/
section
variable {X : Cx} {K : PySem.W.Frag}
theorem op_inK (h : X.K = K) : OpR X (compareOp .In) (rIn K false) := h ▸ op_in_seq
theorem op_notInK (h : X.K = K) : OpR X (compareOp .NotIn) (rIn K true) := h ▸ op_notIn_seq
theorem ix_listK (h : X.K = K) : IxR X (rIxL K) := h ▸ ix_list
theorem ix_tupK (h : X.K = K) : IxR X (rIxT K) := h ▸ ix_tup
theorem call_isiTK (h : X.K = K) : CallR X (.builtin "isinstance") (rIsiT K) := h ▸ call_isiT
/-- a list's or a tuple's item -/
def rIxQ (K : PySem.W.Frag) : R2 := fun x y H Q => rIxL K x y H Q ∨ rIxT K x y H Q
theorem ix_Q (h : X.K = K) : IxR X (rIxQ K) := h ▸ fun value slice pins s σ H x y v u Q I rx ry q hs => q.elim (fun q => ix_list value slice pins s σ H x y v u Q I rx ry q hs) (fun q => ix_tup value slice pins s σ H x y v u Q I rx ry q hs)
theorem call_isiK' (h : X.K = K) : CallR X (.builtin "isinstance") (rIsi K) := h ▸ call_isi
def rLenQ (K : PySem.W.Frag) : List V → Hp → VK → Prop := fun xs H Q => ∃ p ys, xs = [.ref p] ∧ (SqL K H p ys ∨ SqT K H p ys) ∧ Q (.int ys.length) H
theorem call_lenQ (h : X.K = K) : CallR X (.builtin "len") (rLenQ K) := h ▸ call_len_seq
def rListQ (K : PySem.W.Frag) : List V → Hp → VK → Prop := fun xs H Q => ∃ p ys, xs = [.ref p] ∧ (SqL K H p ys ∨ SqT K H p ys) ∧ ∀ l, H l = none → Q (.ref l) (upd H l (.lst ys))
theorem call_listQ (h : X.K = K) : CallR X (.type "list") (rListQ K) := h ▸ call_list_of
end
theorem Same.toBut {a : Addr} {H H1 H2 : Hp} (s : Same H H1) (n : H a = none) (b : But a H1 H2) : Same H H2 := same_but s n b
theorem But.new {a p : Addr} {H H1 : Hp} {o : HO} (b : But a H H1) (n : H1 p = none) : But a H (L2.upd H1 p o) := fun c u nc h => by
  rw [upd_ne (ne_of_none (b c u nc h) n)]
  exact b c u nc h
theorem inV_do (c : Nat) : inV (.str (sOf [c])) [.str (sOf [100]), .str (sOf [111])] = (c == 100 || c == 111) := by
  have h : ∀ d : Nat, eqV (.str (sOf [d])) (.str (sOf [c])) = (c == d) := fun d => by
    show ((sOf [d] == sOf [c]) : Bool) = (c == d)
    by_cases e : c = d
    · subst e; simp
    · have e2 : ¬ sOf [d] = sOf [c] := fun z => e (by have := sOf_inj.mp z; simp at this; exact this.symm)
      rw [beq_eq_false_iff_ne.mpr e2, beq_eq_false_iff_ne.mpr e]
  unfold inV
  rw [List.any_cons, List.any_cons, List.any_nil, h, h, Bool.or_false]
/-! exceptions that leave a call in a try: a wish that does not look at the slots -/
theorem takes_len {X : Cx} {W : WX} (t : Takes X W) : Takes X (fun c d σ H => σ.length = X.N.length → W c d σ H) := fun u s' ⟨a, B, sI, pins, σ, H, cls, d, e, I, nb, up, sky, na, os, ag, q⟩ =>
  t u s' ⟨a, B, sI, pins, σ, H, cls, d, e, I, nb, up, sky, na, os, ag, q I.len⟩
/-- what is asked first, then the block -/
def tGiven (p : Prop) (t : TS) : TS := fun D σ H => p ∧ t D σ H
theorem pss_given {X : Cx} {b : List Stmt} {t : TS} {p : Prop} (h : p → PSs X b t) : PSs X b (tGiven p t) := ⟨fun pins s σ H D I q => (h q.1).run pins s σ H D I q.2⟩
/-- the wish W is granted wherever E holds (n slots) -/
def Wish (n : Nat) (E : XK) (W : WX) : Prop := ∀ cls d σ H, σ.length = n → E cls d H → W cls d σ H
theorem passW {X : Cx} {W : WX} {E : XK} (tk : Takes X W) (h : Wish X.N.length E W) : Passes (L2.CX X.prog X.w) X E := fun pins σ H s e s' I c =>
  passes_call (takes_len tk) (fun cls d σ H q l => h cls d σ H l q) pins σ H s e s' I c
/-- what an exception class with the one field holds in the written part -/
structure ExC (K : PySem.W.Frag) (mg : Str → Option Value) (x : Str) (C : Addr) (i : Addr) : Prop where
  g : mg x = some (.ref C)
  oex : OexC K C
  xf : XfC K C
  ini : PySem.W.findIn K (.ref C) "__init__" = some (some (.ref i))
  tI : PySem.W.typeIn K (.ref i) = some (.type "function")
  me : PySem.W.exmOne K (.ref C) (.ref C) = some true
/-- a method (or __init__) as it stands -/
structure MetAt (K : PySem.W.Frag) (x qual : Str) (st : Stmt) (ps : List Str) (f : Addr) (fd : FuncData) : Prop where
  F : Fun K x qual st f fd
  b : Binds K fd ps []
theorem upd_del_same {H1 H2 : Hp} {a d : Addr} {fs : List (Str × V)} (na : H1 a = none) (nd : H1 d = none) (k : ∀ b o, b ≠ a → H1 b = some o → H2 b = some o) : Same H1 (upd (del H2 a) d (.xd fs)) := fun b o e => by
  rw [upd_ne (ne_of_none e nd), del_ne (ne_of_none e na)]
  exact k b o (ne_of_none e na) e

/-! ### objects of own classes: len, ==, !=, str by their own methods -/
section
variable {X : Cx} {pins : List (Addr × Obj)} {σ : L2.St} {H : Hp} {s : Shared} {CX : CXT} {n : Nat} {f C : Addr} {fd : FuncData} {ps : List Str} {sp : Sp} {E : XK} {vs : List V} {us : List Value} {Q : VK} {A1 : Around}
theorem run_own (sb : Sub X n A1) (F : FnOk X.prog X.w X.K X.mg X.base CX n f fd ps sp) (hb : L2.Binds X.K fd ps []) (hx : Passes CX X E) (I : Inv X pins σ H s) (r : Vals vs us) (h : sp vs H Q E) :
    wpAny (model X.prog X.w) A1 (call (.ref f) us) (EP X pins σ Q) X.xe s := by
  have e := I.env0
  have e0 : Env0 X.prog X.w X.K X.mg X.base A1 X.stack s H := ⟨sb.fr.trans e.frames, e.mod, e.bs, e.bsz, e.funs, e.frf, e.hok, e.bare⟩
  have hl : us.length = ps.length := r.length.symm.trans (F.len _ _ _ _ h)
  have bd := hb s us I.kIn (by rw [List.append_nil]; exact hl)
  rw [List.append_nil] at bd
  refine wpAny_call (codeAny_mono (F.run A1 X.stack s H ⟨us, []⟩ us vs Q E sb.room e0 bd r h) fun res s' hq => ?_)
  cases res with
  | error er => exact hx pins σ H s er s' I hq
  | ok fl =>
    cases fl with
    | ret w => exact I.after hq
    | next => exact hq.elim
    | brk => exact hq.elim
    | cont => exact hq.elim
/-- the same of a def that raises nothing, whatever is wished of errors -/
theorem run_own0 {EE : Value → Shared → Prop} (sb : Sub X n A1) (F : FnOk X.prog X.w X.K X.mg X.base CX0 n f fd ps sp) (hb : L2.Binds X.K fd ps []) (I : Inv X pins σ H s) (r : Vals vs us) (h : sp vs H Q E0) :
    wpAny (model X.prog X.w) A1 (call (.ref f) us) (EP X pins σ Q) EE s := by
  have e := I.env0
  have e0 : Env0 X.prog X.w X.K X.mg X.base A1 X.stack s H := ⟨sb.fr.trans e.frames, e.mod, e.bs, e.bsz, e.funs, e.frf, e.hok, e.bare⟩
  have hl : us.length = ps.length := r.length.symm.trans (F.len _ _ _ _ h)
  have bd := hb s us I.kIn (by rw [List.append_nil]; exact hl)
  rw [List.append_nil] at bd
  refine wpAny_call (codeAny_mono (F.run A1 X.stack s H ⟨us, []⟩ us vs Q E0 sb.room e0 bd r h) fun res s' hq => ?_)
  cases res with
  | error er => exact hq.elim
  | ok fl =>
    cases fl with
    | ret w => exact I.after hq
    | next => exact hq.elim
    | brk => exact hq.elim
    | cont => exact hq.elim
theorem val_ref {a : Addr} : L2.RelV (V.ref a) (Value.ref a) := rfl
/-- a method that the class has as a def -/
structure OwnM (K : PySem.W.Frag) (C : Addr) (m : Str) (f : Addr) : Prop where
  at_ : PySem.W.findIn K (.ref C) m = some (some (.ref f))
  fn : PySem.W.isFn K (.ref f) = true
def rLenOwn (C : Addr) (sp : Sp) (E : XK) : List V → Hp → VK → Prop := fun xs H Q => ∃ a dx fs, xs = [.ref a] ∧ H a = some (.ins C dx fs) ∧ sp [.ref a] H (fun v H' => ∃ k : Nat, v = .int k ∧ k < 1000000 ∧ Q (.int k) H') E
theorem call_lenOwn (M : OwnM X.K C "__len__" f) (F : FnOk X.prog X.w X.K X.mg X.base CX n f fd ps sp) (hb : L2.Binds X.K fd ps []) (hx : Passes CX X E) (hr : Room (n + 1) X.A) : CallR X (.builtin "len") (rLenOwn C sp E) := by
  intro pins s σ H xs us Q I r h
  obtain ⟨a, dx, fs, rfl, ha, h⟩ := h
  obtain ⟨u, rfl, ru⟩ := r.one
  cases ru
  obtain ⟨mA, J, _⟩ := ins_get I.hok ha
  obtain ⟨od, J, _⟩ := J.look
  obtain ⟨m, hF⟩ := I.fr
  refine PySem.W.len_K hF I.ok.mod.kin J M.at_ M.fn (wpAny_mono (run_own (Sub.in1 ⟨hr, rfl⟩) F hb hx I (.cons val_ref .nil) h) (fun v s' q => ?_) fun _ _ z => z)
  obtain ⟨w, H', I', rw', k, rfl, hk, q⟩ := q
  obtain ⟨t, rfl⟩ := rw'
  exact ⟨⟨by omega, by omega⟩, .int k, H', I'.tok _, ⟨_, rfl⟩, q⟩
def rStrOwn (C : Addr) (sp : Sp) (E : XK) : List V → Hp → VK → Prop := fun xs H Q => ∃ a dx fs, xs = [.ref a] ∧ H a = some (.ins C dx fs) ∧ sp [.ref a] H (fun v H' => ∃ z : Str, v = .str z ∧ Q (.str z) H') E
theorem call_strOwn (M : OwnM X.K C "__str__" f) (F : FnOk X.prog X.w X.K X.mg X.base CX n f fd ps sp) (hb : L2.Binds X.K fd ps []) (hx : Passes CX X E) (hr : Room (n + 2) X.A) : CallR X (.type "str") (rStrOwn C sp E) := by
  intro pins s σ H xs us Q I r h
  obtain ⟨a, dx, fs, rfl, ha, h⟩ := h
  obtain ⟨u, rfl, ru⟩ := r.one
  cases ru
  obtain ⟨mA, J, _⟩ := ins_get I.hok ha
  obtain ⟨od, J, _⟩ := J.look
  have sb : Sub X n X.A.in1.in1 := Sub.in1 (Sub.in1 (⟨hr, rfl⟩ : Sub X (n + 2) X.A))
  refine PySem.W.kso_call sb.room.units0 I.kIn J M.at_ M.fn (wpAny_mono (run_own sb F hb hx I (.cons val_ref .nil) h) (fun v s' q => ?_) fun _ _ z => z)
  obtain ⟨w, H', I', rw', z, rfl, q⟩ := q
  obtain ⟨t, rfl⟩ := rw'
  exact ⟨.str z, H', I', ⟨_, rfl⟩, q⟩
/-- what may stand at the right of an own ==: a text, an instance of the same class -/
inductive Oth (C : Addr) (H : Hp) : V → Prop where
  | str (z : Str) : Oth C H (.str z)
  | ins {b dx : Addr} {fs : List (Str × V)} (h : H b = some (.ins C dx fs)) : Oth C H (.ref b)
def rEqOwn (neg : Bool) (C : Addr) (sp : Sp) (E : XK) : R2 := fun x y H Q => ∃ a dx fs, x = .ref a ∧ H a = some (.ins C dx fs) ∧ Oth C H y ∧ sp [.ref a, y] H (fun v H' => ∃ b : Bool, v = .bl b ∧ Q (.bl (if neg then !b else b)) H') E
theorem op_eqOwn (M : OwnM X.K C "__eq__" f) (hs : PySem.W.subIn X.K (.type "str") (.ref C) = some false) (F : FnOk X.prog X.w X.K X.mg X.base CX n f fd ps sp) (hb : L2.Binds X.K fd ps []) (hx : Passes CX X E) (hr : Room n X.A) :
    OpR X (compareOp .Eq) (rEqOwn false C sp E) := by
  intro pins s σ H x y v u Q I rx ry h
  obtain ⟨a, dx, fs, rfl, ha, oth, h⟩ := h
  cases rx
  obtain ⟨mA, J, _⟩ := ins_get I.hok ha
  obtain ⟨od, J, _⟩ := J.look
  obtain ⟨m, hF⟩ := I.fr
  have back : wpAny (model X.prog X.w) X.A (call (.ref f) [.ref a, u]) (PySem.W.CmpBack (EP X pins σ Q)) X.xe s := by
    refine wpAny_mono (run_own (⟨hr, rfl⟩ : Sub X n X.A) F hb hx I (.cons val_ref (.cons ry .nil)) h) (fun w s' q => ?_) fun _ _ z => z
    obtain ⟨z, H', I', rz, b, rfl, q⟩ := q
    cases rz
    exact ⟨.bl b, H', I', rfl, q⟩
  show wpAny (model X.prog X.w) X.A (richCompare .Eq (.ref a) u) (EP X pins σ Q) X.xe s
  cases oth with
  | str z =>
    obtain ⟨t, rfl⟩ := ry
    exact PySem.W.cmp_K (op := .Eq) (tb := .type "str") hr.units0 hF I.ok.mod.kin J (.of_pure rfl) (by simp [PySem.W.notFirst, hs]) M.at_ M.fn back
  | ins hb2 =>
    cases ry
    obtain ⟨mB, J', _⟩ := ins_get I.hok hb2
    obtain ⟨od', J', _⟩ := J'.look
    exact PySem.W.cmp_K (op := .Eq) (tb := .ref C) hr.units0 hF I.ok.mod.kin J J'.type (by simp [PySem.W.notFirst]) M.at_ M.fn back
/-- != where the class has an own == alone -/
structure NeC (K : PySem.W.Frag) (C : Addr) : Prop where
  at_ : PySem.W.findIn K (.ref C) "__ne__" = some (some (.builtin "object.__ne__"))
  up : PySem.W.mroIn K C (.type "object") = some true
theorem ne_here {M : Model} {A : Around} {E : Value → Shared → Prop} {s : Shared} {K : PySem.W.Frag} {x : Addr} {ox : Obj} {od : Option Obj} {args : List Value} {Q : Option Value → Shared → Prop} (N : NeC K C) (hK : K.In s.heap) (J : PySem.W.InstAt s.heap x ox C od)
    (h : wpAny M A (call (.builtin "object.__ne__") (.ref x :: args)) (fun v => Q (some v)) E s) : wpAny M A (callSpecialIfBound? (.ref x) "__ne__" args) Q E s := by
  simp only [callSpecialIfBound?, bindSpecialIfBound?]
  refine wpAny_holding (wpAny_bind (wpAny_bind (wpAny_bind (J.type.here ((PySem.W.looks_findIn hK N.at_).here ?_)))))
  refine wpAny_bind (wpAny_askSetting (wpAny_ite ?_))
  have fin : wpAny M A (call (.builtin "object.__ne__") ([.ref x] ++ args) >>= fun v => pure (some v)) Q E s := wpAny_bind (wpAny_mono h (fun v s' z => wpAny_pure z) fun _ _ z => z)
  have bd : bindSpecial (.builtin "object.__ne__") (.ref x) = pure (.builtin "object.__ne__", [.ref x]) := PySem.F.slot_object_ne.bind _
  split
  · exact wpAny_bind (wpAny_of_eq bd (wpAny_pure (by exact fin)))
  · exact wpAny_tryCatch (wpAny_bind (wpAny_of_eq bd (wpAny_pure (by exact fin))))
theorem op_neOwn (M : OwnM X.K C "__eq__" f) (N : NeC X.K C) (hs : PySem.W.subIn X.K (.type "str") (.ref C) = some false) (F : FnOk X.prog X.w X.K X.mg X.base CX n f fd ps sp) (hb : L2.Binds X.K fd ps []) (hx : Passes CX X E) (hr : Room (n + 1) X.A) :
    OpR X (compareOp .NotEq) (rEqOwn true C sp E) := by
  intro pins s σ H x y v u Q I rx ry h
  obtain ⟨a, dx, fs, rfl, ha, oth, h⟩ := h
  cases rx
  obtain ⟨mA, J, _⟩ := ins_get I.hok ha
  obtain ⟨od, J, _⟩ := J.look
  obtain ⟨m, hF⟩ := I.fr
  have sb : Sub X n X.A.in1 := Sub.in1 ⟨hr, rfl⟩
  have back : wpAny (model X.prog X.w) X.A.in1 (call (.ref f) [.ref a, u]) (fun v s' => ∃ b, v = .bool b ∧ EP X pins σ Q (.bool (!b)) s') X.xe s := by
    refine wpAny_mono (run_own sb F hb hx I (.cons val_ref (.cons ry .nil)) h) (fun w s' q => ?_) fun _ _ z => z
    obtain ⟨z, H', I', rz, b, rfl, q⟩ := q
    cases rz
    exact ⟨b, rfl, .bl (!b), H', I', rfl, q⟩
  have one : wpAny (model X.prog X.w) X.A (tryCompare (.ref a) "__ne__" u) (fun r s' => ∃ v, r = some v ∧ EP X pins σ Q v s') X.xe s := by
    unfold tryCompare
    refine wpAny_bind (ne_here N I.kIn J (wpAny_call (codeAny_call_builtin PySem.F.slot_object_ne.plain PySem.F.cmpEntry_ne (PySem.W.check_slot PySem.F.cmpKind_ne PySem.F.cmpSplit_ne (J.type.andThen (PySem.W.looks_mroIn I.kIn N.up)) (PySem.F.cmpArgs_ne _ _) ?_))))
    unfold Builtin.«object.__ne__»
    refine wpAny_bind (m := slotArgs "__ne__" 1 _) (wpAny_pure ?_)
    refine wpAny_bind (wpAny_cRoomFor sb.room.units0 ?_)
    refine wpAny_bind (m := callSpecialIfBound? (.ref a) (Str.ofString "__eq__") [u]) (PySem.W.ifBound_K I.kIn J M.at_ M.fn (wpAny_mono back (fun r s' q => ?_) fun _ _ z => z))
    obtain ⟨b, rfl, q⟩ := q
    exact wpAny_bind (wpAny_truthy_bool (wpAny_pure (wpAny_pure ⟨_, rfl, q⟩)))
  obtain ⟨tb, hT, hn⟩ : ∃ tb, PySem.W.Looks (model X.prog X.w) s.heap (typeOf u) tb ∧ (tb = .ref C ∨ tb = .type "str") := by
    cases oth with
    | str z =>
      obtain ⟨t, rfl⟩ := ry
      exact ⟨_, .of_pure rfl, .inr rfl⟩
    | ins hb2 =>
      cases ry
      obtain ⟨mB, J', _⟩ := ins_get I.hok hb2
      obtain ⟨od', J', _⟩ := J'.look
      exact ⟨_, J'.type, .inl rfl⟩
  show wpAny (model X.prog X.w) X.A (richCompare .NotEq (.ref a) u) (EP X pins σ Q) X.xe s
  unfold richCompare
  simp only [oneThing_ref]
  refine wpAny_holding (wpAny_bind (wpAny_cRoomFor (hr.mono (Nat.le_succ n)).units0 ?_))
  refine wpAny_bind (J.type.here (wpAny_bind (hT.here ?_)))
  rcases hn with rfl | rfl
  · rw [if_neg (by simp)]
    refine wpAny_bind (wpAny_pure ?_)
    simp only [Bool.false_eq_true, if_false]
    refine wpAny_bind (wpAny_mono one (fun r s' ⟨v, e, q⟩ => ?_) fun _ _ z => z)
    subst e
    exact wpAny_pure q
  · rw [if_pos (by rfl)]
    refine wpAny_bind ((PySem.W.looks_subIn I.kIn hs).here ?_)
    simp only [Bool.false_eq_true, if_false]
    refine wpAny_bind (wpAny_mono one (fun r s' ⟨v, e, q⟩ => ?_) fun _ _ z => z)
    subst e
    exact wpAny_pure q
end

/-! ### the iteration over an object of an own class whose __iter__ gives the iterator of a field -/
/-- the same heap, with n empty places behind it -/
def pad (h : Heap) (n : Nat) : Heap := { h with objs := h.objs ++ Array.replicate n ⟨.none, none, .freed, #[]⟩ }
theorem pad_size (h : Heap) (n : Nat) : (pad h n).objs.size = h.objs.size + n := by simp [pad]
theorem pad_get (h : Heap) (n : Nat) (b : Addr) : (pad h n).get? b = h.get? b := by
  unfold Heap.get? pad
  by_cases hb : b < h.objs.size
  · rw [Array.getElem?_append_left hb]
  · rw [Array.getElem?_append_right (Nat.le_of_not_lt hb), Array.getElem?_eq_none (Nat.le_of_not_lt hb), Array.getElem?_replicate]
    by_cases h2 : b - h.objs.size < n
    · rw [if_pos h2]
    · rw [if_neg h2]
theorem pad_mod {K : PySem.W.Frag} {mg : Str → Option Value} {h : Heap} (n : Nat) (m : Mod K mg h) : Mod K mg (pad h n) := by
  have k : ∀ b o, h.get? b = some o → (pad h n).get? b = some o := fun b o e => (pad_get h n b).trans e
  obtain ⟨mb, h1, h2⟩ := m.blt
  exact ⟨m.kin.keeps k, m.glob.keeps k, ⟨mb, h1.keeps k, h2⟩, m.nolimit.keeps k⟩
theorem pad_funs {h base : Heap} (n : Nat) : ∀ {l : List Env}, h.FunFrames base l → h.FunFrames (pad base n) l
  | [], _ => trivial
  | _ :: _, ⟨hk, ⟨L, o, hf, hn, ho, hd⟩, hr⟩ => ⟨hk, ⟨L, o, hf, (pad_get base n L).trans hn, ho, hd⟩, pad_funs n hr⟩
/-- iterators as they are tracked -/
def ItSO (it : Addr) (x : Str) : HO := .ext fun h => ∃ ty t, (ty = "str_ascii_iterator" ∨ ty = "str_iterator") ∧ h.IsStrIter it ty x t 0
def ItTO (it l : Addr) : HO := .ext fun h => h.IsTupleIter it l 0
theorem itSO_ok {P : Program} {w : World} {H : Hp} {h : Heap} {it : Addr} {x : Str} (e : ∃ ty t, (ty = "str_ascii_iterator" ∨ ty = "str_iterator") ∧ h.IsStrIter it ty x t 0) : ObjOk P w H h it (ItSO it x) := by
  refine ⟨e, ?_, ?_⟩
  · obtain ⟨ty, t, _, o, ho, _⟩ := e
    exact ⟨o, ho⟩
  · rintro h1 h2 ⟨ty, t, hy, o, ho, r⟩ k
    exact ⟨ty, t, hy, o, k o ho, r⟩
theorem itTO_ok {P : Program} {w : World} {H : Hp} {h : Heap} {it l : Addr} (e : h.IsTupleIter it l 0) : ObjOk P w H h it (ItTO it l) := by
  refine ⟨e, ?_, ?_⟩
  · obtain ⟨o, ho, _⟩ := e
    exact ⟨o, ho⟩
  · rintro h1 h2 ⟨o, ho, r⟩ k
    exact ⟨o, k o ho, r⟩
section
variable {X : Cx}
def rIterS (n : Nat) : List V → Hp → VK → Prop := fun xs H Q => ∃ x : Str, xs = [.str x] ∧ ∀ it, H it = none → n ≤ it → Q (.ref it) (upd H it (ItSO it x))
def rIterT (K : PySem.W.Frag) (n : Nat) : List V → Hp → VK → Prop := fun xs H Q => ∃ (l : Addr) (zs : List V), xs = [.ref l] ∧ SqT K H l zs ∧ ∀ it, H it = none → n ≤ it → Q (.ref it) (upd H it (ItTO it l))
theorem iter_call {M : Model} {prog : Program} {w : World} {A : Around} {E : Value → Shared → Prop} {s : Shared} {v : Value} {Q : Value → Shared → Prop} (h : wpAny (model prog w) A.in1 (pyIter v) Q E s) : wpAny (model prog w) A (call (.builtin "iter") [v]) Q E s := by
  refine Calls.call_function_entry (by decide +kernel) (by decide +kernel) PySem.W.kdk_entry_iter (PySem.W.kdk_args_iter _) ?_
  unfold Builtin.«iter»
  refine wpAny_bind (m := someArgs "iter" 1 2 _) (wpAny_of_eq (a := [v]) (by first | rfl | kernel_rfl!) ?_)
  show wpAny _ _ (pyIter v >>= _) _ _ _
  exact wpAny_bind (wpAny_mono h (fun r s' q => wpAny_pure ⟨_, rfl, q⟩) fun _ _ z => z)
theorem call_iterS : CallR X (.builtin "iter") (rIterS X.base.objs.size) := by
  intro pins s σ H xs us Q I r h
  obtain ⟨x, rfl, q⟩ := h
  obtain ⟨u, rfl, ru⟩ := r.one
  obtain ⟨t, rfl⟩ := ru
  have nb : X.base.objs.size ≤ s.heap.objs.size := Nat.le_trans I.ok.bsz I.sz
  refine iter_call (M := model X.prog X.w) ?_
  cases ha : x.cps.all (· < 128)
  · exact wpAny_pyIter_wide ha ⟨.ref s.heap.objs.size, _, I.laid (t' := s.toks) (fun b o e => Heap.get?_push_of_some _ e) (Nat.le_refl _) (itSO_ok ⟨_, t, .inr rfl, _, Heap.get?_push_size _ rfl, rfl, rfl⟩), rfl, q _ (I.hok.fresh (Nat.le_refl _)) nb⟩
  · exact wpAny_pyIter_ascii ha ⟨.ref s.heap.objs.size, _, I.laid (t' := s.toks) (fun b o e => Heap.get?_push_of_some _ e) (Nat.le_refl _) (itSO_ok ⟨_, t, .inl rfl, _, Heap.get?_push_size _ rfl, rfl, rfl⟩), rfl, q _ (I.hok.fresh (Nat.le_refl _)) nb⟩
theorem call_iterT : CallR X (.builtin "iter") (rIterT X.K X.base.objs.size) := by
  intro pins s σ H xs us Q I r h
  obtain ⟨l, zs, rfl, hq, q⟩ := h
  obtain ⟨u, rfl, ru⟩ := r.one
  cases ru
  have nb : X.base.objs.size ≤ s.heap.objs.size := Nat.le_trans I.ok.bsz I.sz
  obtain ⟨its, rv, pl, hz⟩ := I.tuple hq
  refine iter_call (M := model X.prog X.w) ?_
  exact wpAny_pyIter_tuple (show s.heap.IsTuple l its.toArray from pl) ⟨.ref s.heap.objs.size, _, I.laid (t' := s.toks) (fun b o e => Heap.get?_push_of_some _ e) (Nat.le_refl _) (itTO_ok ⟨_, Heap.get?_push_size _ rfl, rfl, rfl⟩), rfl, q _ (I.hok.fresh (Nat.le_refl _)) nb⟩
end
section
variable {X : Cx} {pins : List (Addr × Obj)} {σ : L2.St} {H : Hp} {s : Shared} {CX : CXT} {n : Nat} {f C : Addr} {fd : FuncData} {ps : List Str} {sp : Nat → Sp} {E : XK} {vs : List V} {us : List Value} {Q : VK} {A1 : Around}
/-- run_own at a base as large as the heap that stands -/
theorem run_pad (sb : Sub X n A1) (F : ∀ base : Heap, FnOk X.prog X.w X.K X.mg base CX n f fd ps (sp base.objs.size)) (hb : L2.Binds X.K fd ps []) (hx : Passes CX X E) (I : Inv X pins σ H s) (r : Vals vs us) (h : sp s.heap.objs.size vs H Q E) :
    wpAny (model X.prog X.w) A1 (call (.ref f) us) (EP X pins σ Q) X.xe s := by
  have e := I.env0
  have hz : X.base.objs.size ≤ s.heap.objs.size := e.bsz
  have F' := F (pad X.base (s.heap.objs.size - X.base.objs.size))
  rw [pad_size, Nat.add_sub_cancel' hz] at F'
  have e0 : Env0 X.prog X.w X.K X.mg (pad X.base (s.heap.objs.size - X.base.objs.size)) A1 X.stack s H :=
    ⟨sb.fr.trans e.frames, pad_mod _ e.mod, fun b o q => e.bs b o ((pad_get _ _ b).symm.trans q), by rw [pad_size, Nat.add_sub_cancel' hz]; exact Nat.le_refl _, pad_funs _ e.funs, e.frf, e.hok, e.bare⟩
  have hl : us.length = ps.length := r.length.symm.trans (F'.len _ _ _ _ h)
  have bd := hb s us I.kIn (by rw [List.append_nil]; exact hl)
  rw [List.append_nil] at bd
  refine wpAny_call (codeAny_mono (F'.run A1 X.stack s H ⟨us, []⟩ us vs Q E sb.room e0 bd r h) fun res s' hq => ?_)
  cases res with
  | error er => exact hx pins σ H s er s' I hq
  | ok fl =>
    cases fl with
    | ret w => exact I.after hq
    | next => exact hq.elim
    | brk => exact hq.elim
    | cont => exact hq.elim
/-- the promise of such an __iter__, over a text | a tuple in the field fld -/
def spItS (C : Addr) (fld : Str) (n : Nat) : Sp := fun vs H Q _ => ∃ (a dx : Addr) (fs : List (Str × V)) (x : Str), vs = [.ref a] ∧ H a = some (.ins C dx fs) ∧ fs.lookup fld = some (.str x) ∧ ∀ it, H it = none → n ≤ it → Q (.ref it) (upd H it (ItSO it x))
def spItT (K : PySem.W.Frag) (C : Addr) (fld : Str) (n : Nat) : Sp := fun vs H Q _ => ∃ (a dx l : Addr) (fs : List (Str × V)) (zs : List V), vs = [.ref a] ∧ H a = some (.ins C dx fs) ∧ fs.lookup fld = some (.ref l) ∧ SqT K H l zs ∧ ∀ it, H it = none → n ≤ it → Q (.ref it) (upd H it (ItTO it l))
theorem drop_upd {H : Hp} {a : Addr} {o : HO} (h : H a = none) : dropH (upd H a o) a = H := by
  funext b
  by_cases hb : b = a
  · rw [hb, dropH_same, h]
  · rw [dropH_ne hb, upd_ne hb]
/-- the walk's start, over a text -/
theorem pit_S {tg : Expr} {R : It → Hp → Prop} {a dx : Addr} {fs : List (Str × V)} {fld : Str} {x : Str} (M : OwnM X.K C "__iter__" f) (hr : Room n X.A) (F : ∀ base : Heap, FnOk X.prog X.w X.K X.mg base CX n f fd ps (spItS C fld base.objs.size)) (hb : L2.Binds X.K fd ps []) (hx : Passes CX X E)
    (I : Inv X pins σ H s) (ha : H a = some (.ins C dx fs)) (hl : fs.lookup fld = some (.str x)) (hR : R (Its x) H) : wpAny (model X.prog X.w) X.A (pyIter (.ref a)) (PIE X pins σ tg R) X.xe s := by
  obtain ⟨mA, J, _⟩ := ins_get I.hok ha
  obtain ⟨od, J, _⟩ := J.look
  obtain ⟨m, hF⟩ := I.fr
  refine PySem.W.owit_iter hF I.ok.mod.kin J M.at_ M.fn (wpAny_mono (run_pad (⟨hr, rfl⟩ : Sub X n X.A) F hb hx I (.cons val_ref .nil) (Q := fun v H' => ∃ it, v = .ref it ∧ H it = none ∧ s.heap.objs.size ≤ it ∧ H' = upd H it (ItSO it x)) ⟨a, dx, fs, x, rfl, ha, hl, fun it n1 n2 => ⟨it, rfl, n1, n2, rfl⟩⟩) (fun v s' q => ?_) fun _ _ z => z)
  obtain ⟨w, H', I', rw', it, rfl, hn, hz, rfl⟩ := q
  cases rw'
  have he : upd H it (ItSO it x) it = some (ItSO it x) := upd_same
  have he' := he
  unfold ItSO at he'
  obtain ⟨⟨ty, t, hy, st⟩, _⟩ : (∃ ty t, (ty = "str_ascii_iterator" ∨ ty = "str_iterator") ∧ s'.heap.IsStrIter it ty x t 0) ∧ _ := (show ObjOk X.prog X.w _ s'.heap it (ItSO it x) from I'.hok it _ he)
  have hT : s'.TypeIs (.ref it) ty := let ⟨o, ho, hc, _⟩ := st; ⟨o, ho, hc⟩
  have D := inv_drop I' he'
  rw [drop_upd hn] at D
  have fin : PIE X pins σ tg R (.ref it) s' := by
    refine ⟨it, [it], _, _, H, rfl, D, turn_str it x t ty hy, st, fun b hb2 => ?_, hR⟩
    have e1 : b = it := by simpa using hb2
    subst e1
    have q := inv_fp I' he (Nat.le_trans I.sz hz)
    rwa [drop_upd hn] at q
  unfold PySem.W.OwitIt
  rcases hy with rfl | rfl
  · exact wpAny_specialOf hT PySem.F.slot_str_ascii_iterator_next.lookup fin
  · exact wpAny_specialOf hT PySem.F.slot_str_iterator_next.lookup fin
/-- for x in e, [.. for x in e]: e an object whose text fld is walked -/
def iOwnS (C : Addr) (fld : Str) (te : TE) : TI := fun σ H R => te σ H fun v H1 => ∃ a dx fs x, v = .ref a ∧ H1 a = some (.ins C dx fs) ∧ fs.lookup fld = some (.str x) ∧ R (Its x) H1
theorem pi_ownS {tg e : Expr} {te : TE} {fld : Str} (M : OwnM X.K C "__iter__" f) (hr : Room n X.A) (F : ∀ base : Heap, FnOk X.prog X.w X.K X.mg base CX n f fd ps (spItS C fld base.objs.size)) (hb : L2.Binds X.K fd ps []) (hx : Passes CX X E) (he : PE X e te) : PI X tg e (iOwnS C fld te) := by
  refine ⟨fun pins s σ H R I h => ?_⟩
  refine thn (he.run pins s σ H _ I h) fun v s1 ⟨y, H1, I1, r1, a, dx, fs, x, ey, ha, hl, q⟩ => ?_
  subst ey
  cases r1
  exact pit_S M hr F hb hx I1 ha hl q
/-- the walk's start, over a tuple -/
theorem pit_T {tg : Expr} {R : It → Hp → Prop} {a dx : Addr} {fs : List (Str × V)} {fld : Str} {l : Addr} {zs : List V} (M : OwnM X.K C "__iter__" f) (hr : Room n X.A) (F : ∀ base : Heap, FnOk X.prog X.w X.K X.mg base CX n f fd ps (spItT X.K C fld base.objs.size)) (hb : L2.Binds X.K fd ps []) (hx : Passes CX X E)
    (I : Inv X pins σ H s) (ha : H a = some (.ins C dx fs)) (hl : fs.lookup fld = some (.ref l)) (hq : SqT X.K H l zs) (hR : R (Itt X.K l) H) : wpAny (model X.prog X.w) X.A (pyIter (.ref a)) (PIE X pins σ tg R) X.xe s := by
  obtain ⟨mA, J, _⟩ := ins_get I.hok ha
  obtain ⟨od, J, _⟩ := J.look
  obtain ⟨m, hF⟩ := I.fr
  refine PySem.W.owit_iter hF I.ok.mod.kin J M.at_ M.fn (wpAny_mono (run_pad (⟨hr, rfl⟩ : Sub X n X.A) F hb hx I (.cons val_ref .nil) (Q := fun v H' => ∃ it, v = .ref it ∧ H it = none ∧ s.heap.objs.size ≤ it ∧ H' = upd H it (ItTO it l)) ⟨a, dx, l, fs, zs, rfl, ha, hl, hq, fun it n1 n2 => ⟨it, rfl, n1, n2, rfl⟩⟩) (fun v s' q => ?_) fun _ _ z => z)
  obtain ⟨w, H', I', rw', it, rfl, hn, hz, rfl⟩ := q
  cases rw'
  have he : upd H it (ItTO it l) it = some (ItTO it l) := upd_same
  have he' := he
  unfold ItTO at he'
  obtain ⟨st, _⟩ : s'.heap.IsTupleIter it l 0 ∧ _ := (show ObjOk X.prog X.w _ s'.heap it (ItTO it l) from I'.hok it _ he)
  have hT : s'.TypeIs (.ref it) "tuple_iterator" := let ⟨o, ho, hc, _⟩ := st; ⟨o, ho, hc⟩
  have D := inv_drop I' he'
  rw [drop_upd hn] at D
  have fin : PIE X pins σ tg R (.ref it) s' := by
    refine ⟨it, [it], _, _, H, rfl, D, turn_tuple l it, st, fun b hb2 => ?_, hR⟩
    have e1 : b = it := by simpa using hb2
    subst e1
    have q := inv_fp I' he (Nat.le_trans I.sz hz)
    rwa [drop_upd hn] at q
  unfold PySem.W.OwitIt
  exact wpAny_specialOf hT PySem.F.slot_tuple_iterator_next.lookup fin
/-- the same, its tuple fld is walked -/
def iOwnT (K : PySem.W.Frag) (C : Addr) (fld : Str) (te : TE) : TI := fun σ H R => te σ H fun v H1 => ∃ a dx l fs zs, v = .ref a ∧ H1 a = some (.ins C dx fs) ∧ fs.lookup fld = some (.ref l) ∧ SqT K H1 l zs ∧ R (Itt K l) H1
theorem pi_ownT {tg e : Expr} {te : TE} {fld : Str} (M : OwnM X.K C "__iter__" f) (hr : Room n X.A) (F : ∀ base : Heap, FnOk X.prog X.w X.K X.mg base CX n f fd ps (spItT X.K C fld base.objs.size)) (hb : L2.Binds X.K fd ps []) (hx : Passes CX X E) (he : PE X e te) : PI X tg e (iOwnT X.K C fld te) := by
  refine ⟨fun pins s σ H R I h => ?_⟩
  refine thn (he.run pins s σ H _ I h) fun v s1 ⟨y, H1, I1, r1, a, dx, l, fs, zs, ey, ha, hl, hq, q⟩ => ?_
  subst ey
  cases r1
  exact pit_T M hr F hb hx I1 ha hl hq q
end

/-! ### list(text), list(o) of an object whose text is walked -/
def signs (x : Str) : List V := x.cps.toList.map fun c => V.str ⟨#[c]⟩
theorem signs_vals {x : Str} {acc : Array Value} (h : ItemsOf (SignAt x) acc x.cps.size) : Vals (signs x) acc.toList := by
  obtain ⟨hz, hp⟩ := h
  have gen : ∀ (cs : List Nat) (vs : List Value), cs.length = vs.length → (∀ (j : Nat) (v : Value), vs[j]? = some v → ∃ (c : Nat) (u : Tok), cs[j]? = some c ∧ v = Value.str ⟨#[c]⟩ u) → Vals (cs.map fun c => V.str ⟨#[c]⟩) vs := by
    intro cs
    induction cs with
    | nil =>
      intro vs hl _
      cases vs with
      | nil => exact .nil
      | cons v r => simp at hl
    | cons c r ih =>
      intro vs hl hv
      cases vs with
      | nil => simp at hl
      | cons v r2 =>
        obtain ⟨c', u, e1, e2⟩ := hv 0 v rfl
        have e3 : c = c' := by simpa using e1
        subst e3
        exact .cons ⟨u, e2⟩ (ih r2 (by simpa using hl) fun j w hj => by simpa using hv (j + 1) w (by simpa using hj))
  refine gen x.cps.toList acc.toList (by simpa using hz.symm) fun j v hj => ?_
  obtain ⟨c, u, e1, e2⟩ := hp j v (by simpa using hj)
  exact ⟨c, u, by simpa using e1, e2⟩
def rListStr : List V → Hp → VK → Prop := fun xs H Q => ∃ x : Str, xs = [.str x] ∧ x.length ≤ 1000 ∧ ∀ q, H q = none → Q (.ref q) (upd H q (.lst (signs x)))
theorem signs_len (x : Str) : (signs x).length = x.length := by simp [signs, Str.length]
section
variable {X : Cx}
theorem call_listStr (hc : X.calm = true) : CallR X (.type "list") rListStr := by
  intro pins s σ H xs us Q I r h
  obtain ⟨x, rfl, hx, q⟩ := h
  obtain ⟨u, rfl, ru⟩ := r.one
  obtain ⟨t, rfl⟩ := ru
  refine call_list_str (I.ok.hd hc) x t (fun h' tk acc c k e hi => ?_) (szl hx)
  refine ⟨.ref s.heap.objs.size, _, I.laid (t' := tk) (o := .lst (signs x)) k (Nat.le_refl _) ⟨by rw [signs_len]; exact szl hx, acc.toList, c, signs_vals hi, by simpa using e⟩, rfl, q _ (I.hok.fresh (Nat.le_refl _))⟩
end
section
variable {X : Cx} {pins : List (Addr × Obj)} {σ : L2.St} {H : Hp} {s : Shared} {CX CX' : CXT} {n n' : Nat} {f f' C : Addr} {fd fd' : FuncData} {ps ps' : List Str} {E E' : XK} {Q : VK} {A1 : Around} {fld : Str} {x : Str} {a dx : Addr} {fs : List (Str × V)}
/-- what an own __len__ says of an object with the field fld: its text's length -/
def spLenS (C : Addr) (fld : Str) : Sp := fun vs H Q _ => ∃ (a dx : Addr) (fs : List (Str × V)) (x : Str), vs = [.ref a] ∧ H a = some (.ins C dx fs) ∧ fs.lookup fld = some (.str x) ∧ x.length ≤ 1000 ∧ Q (.int x.length) H
theorem own_hint {EE : Value → Shared → Prop} (M : OwnM X.K C "__len__" f') (sb : Sub X (n' + 1) A1) (F : FnOk X.prog X.w X.K X.mg X.base CX0 n' f' fd' ps' (spLenS C fld)) (hb : L2.Binds X.K fd' ps' [])
    (I : Inv X pins σ H s) (ha : H a = some (.ins C dx fs)) (hl : fs.lookup fld = some (.str x)) (hz : x.length ≤ 1000) {R : Bool → Shared → Prop} (h : ∀ b s', Inv X pins σ H s' → R b s') : wpAny (model X.prog X.w) A1 (Builtin.List.listLengthHint (.ref a)) R EE s := by
  obtain ⟨mA, J, _⟩ := ins_get I.hok ha
  obtain ⟨od, J, _⟩ := J.look
  obtain ⟨m, hF⟩ := I.fr
  unfold Builtin.List.listLengthHint
  refine wpAny_bind (wpAny_bind (J.type.here ((PySem.W.looks_findIn I.kIn M.at_).here ?_)))
  refine PySem.W.KFB.if_not rfl ?_
  refine PySem.W.KFB.if_so rfl ?_
  refine wpAny_bind (wpAny_rule ?_)
  refine wpAny_bind (wpAny_attempt ?_)
  refine PySem.W.len_K hF I.ok.mod.kin J M.at_ M.fn (wpAny_mono (run_own0 sb.in1 F hb I (.cons val_ref .nil) (Q := fun v H' => v = .int x.length ∧ H' = H) ⟨a, dx, fs, x, rfl, ha, hl, hz, rfl, rfl⟩) (fun v s' q => ?_) fun _ _ z => z)
  obtain ⟨w, H', I', rw', rfl, rfl⟩ := q
  obtain ⟨t, rfl⟩ := rw'
  refine ⟨⟨by omega, by omega⟩, ?_⟩
  refine wpAny_bind (wpAny_pure ?_)
  refine PySem.W.KFB.if_not (by rw [Int.toNat_natCast]; exact notLongL (szl hz)) ?_
  exact wpAny_pure (h _ _ (I'.tok _))
/-- the items of the iterator at it go into the empty list at q -/
theorem own_fill {it q : Addr} {t : Tok} {ty : String} {Rs : Result → Shared → Prop} (hcalm : X.A.handled = none) (I : Inv X pins σ H s) (hq : H q = some (.lst [])) (fp : FpOk X pins H it) (hy : ty = "str_ascii_iterator" ∨ ty = "str_iterator") (st : s.heap.IsStrIter it ty x t 0) (hx : x.length ≤ 1000)
    (hA : A1.handled = none) (h : ∀ s', Inv X pins σ (upd H q (.lst (signs x))) s' → Rs (.ok (.ret .none)) s') : codeAny (model X.prog X.w) A1 (.builtin "list.extend.loop" ⟨[.ref q, .ref it, .none], []⟩) Rs s := by
  have hqi : q ≠ it := fun z => by
    have := fp.1
    rw [← z, hq] at this
    cases this
  obtain ⟨z, its, k, r, hl, e⟩ := I.lstM hq
  cases r
  have W : WalksS X.prog X.w A1.in1 it [it] [it] (fun a b => b = a) x.cps.size (SignAt x) (fun i s => s.heap.IsStrIter it ty x t i) := by
    rcases hy with rfl | rfl
    · exact (Walks.strAscii (A := A1.in1) hA it x t).toS
    · exact (Walks.strWide (A := A1.in1) hA it x t).toS
  have hn : x.cps.size ≤ sizeLine := szl hx
  refine codeAny_extend_loopS W hn q (fun z => hqi (List.mem_singleton.mp z)) .none x.cps.size 0 s #[] k rfl (Nat.zero_le _) st e (ItemsOf.nil _) fun s' acc c hm hS hacc => h s' ?_
  have es := Moved.eq_with hm
  obtain ⟨f0, f1, f2, f3, f4, f5⟩ := fp
  have o2 : ∀ b, b ≠ q → (s'.heap.update q fun _ => ({ cls := .type "list", data := .seq #[] k } : Obj)).get? b = s'.heap.get? b := fun b hb => Heap.get?_update_other s'.heap _ (Ne.symm hb)
  have oq : (s'.heap.update q fun _ => ({ cls := .type "list", data := .seq #[] k } : Obj)).get? q = some { cls := .type "list", data := .seq #[] k } := Heap.get?_update_self _ hS rfl
  have I2 : Inv X pins σ H { s with heap := s'.heap.update q fun _ => ({ cls := .type "list", data := .seq #[] k } : Obj), toks := s'.toks } := I.turned (it := it) (fun b o hb eb => by
    by_cases hbq : b = q
    · subst hbq
      rw [oq, ← eb]
      exact e.symm
    · rw [o2 b hbq]
      exact hm.heap b o (fun z => by
        rcases List.mem_cons.mp z with z | z
        · exact hbq z
        · exact hb (List.mem_singleton.mp z)) eb) f0 f1 f3 f4 f5
  have I3 := I2.write (x := q) (e := q) (h' := s'.heap) (o := .lst (signs x)) (t' := s'.toks) (by rw [hq]; exact trivial) (.inl rfl) (fun b u hb eb => (o2 b hb).symm.trans eb) ⟨_, hS⟩ ⟨by rw [signs_len]; exact szl hx, acc.toList, c, signs_vals hacc, by simpa using hS⟩
  rw [es]
  exact I3
/-- an empty list grown by one and cut again -/
theorem touch {EE : Value → Shared → Prop} {q : Addr} {R : Unit → Shared → Prop} (I : Inv X pins σ H s) (hq : H q = some (.lst [])) (h : ∀ s', Inv X pins σ H s' → R () s') : wpAny (model X.prog X.w) A1 (Builtin.List.listTouch (.ref q)) R EE s := by
  obtain ⟨z, its, k, r, hl, e⟩ := I.lstM hq
  cases r
  show wpAny _ _ (updateSeq q (·.push .none) >>= fun _ => updateSeq q (·.pop)) _ _ _
  refine wpAny_bind (wpAny_updateSeq e rfl ?_)
  have I2 := I.lset (f := (·.push Value.none)) (its' := [Value.none]) (ys := [.non]) (t' := s.toks) hq e (by simp) (.cons rfl .nil) (szl (by decide))
  obtain ⟨z4, its4, k4, r4, hl4, e4⟩ := I2.lstM upd_same
  obtain ⟨u4, rfl, ru4⟩ := r4.one
  refine wpAny_updateSeq e4 rfl ?_ (by show 1 ≤ sizeLine; exact szl (by decide)) (by show 0 ≤ sizeLine + 1; exact Nat.zero_le _)
  have I3 := I2.lset (f := (·.pop)) (its := [u4]) (its' := []) (ys := []) (t' := s.toks) upd_same e4 (by rfl) .nil (Nat.zero_le _)
  rw [upd_upd] at I3
  have hH : upd H q (.lst []) = H := by
    funext b
    by_cases hb : b = q
    · rw [hb, upd_same, hq]
    · rw [upd_ne hb]
  rw [hH] at I3
  exact h _ I3
def rListOwn (C : Addr) (fld : Str) : List V → Hp → VK → Prop := fun xs H Q => ∃ (a dx : Addr) (fs : List (Str × V)) (x : Str), xs = [.ref a] ∧ H a = some (.ins C dx fs) ∧ fs.lookup fld = some (.str x) ∧ x.length ≤ 1000 ∧ ∀ q, H q = none → Q (.ref q) (upd H q (.lst (signs x)))
theorem call_listOwnS (hcalm : X.calm = true) (MI : OwnM X.K C "__iter__" f) (ML : OwnM X.K C "__len__" f') (hr : Room (n + 3) X.A) (FI : ∀ base : Heap, FnOk X.prog X.w X.K X.mg base CX n f fd ps (spItS C fld base.objs.size)) (bI : L2.Binds X.K fd ps []) (xI : Passes CX X E)
    (FL : FnOk X.prog X.w X.K X.mg X.base CX0 n f' fd' ps' (spLenS C fld)) (bL : L2.Binds X.K fd' ps' []) : CallR X (.type "list") (rListOwn C fld) := by
  intro pins s σ H xs us Q I r h
  obtain ⟨a, dx, fs, x, rfl, ha, hl, hz, q0⟩ := h
  obtain ⟨u, rfl, ru⟩ := r.one
  cases ru
  have sb : Sub X (n + 1) X.A.in1.in1 := Sub.in1 (Sub.in1 (⟨hr, rfl⟩ : Sub X (n + 3) X.A))
  refine callType_codes (Q₁ := fun obj s₁ => obj = .ref s.heap.objs.size ∧ s₁ = { s with heap := s.heap.push { cls := .type "list", data := .seq #[] } }) PySem.F.called_list (PySem.F.typeCall_list_1 _) PySem.F.entry_list_init
    (code_list_new _ ⟨rfl, rfl⟩) fun obj s₁ h₁ => ?_
  obtain ⟨rfl, rfl⟩ := h₁
  have hS : (s.heap.push { cls := .type "list", data := .seq #[] }).get? s.heap.objs.size = some { cls := .type "list", data := .seq #[] } := Heap.get?_push_size _ rfl
  have fr : H s.heap.objs.size = none := I.hok.fresh (Nat.le_refl _)
  have q1 := q0 _ fr
  refine ⟨⟨_, hS, rfl⟩, PySem.F.args_list_init_2 _ _, ?_⟩
  have I1 : Inv X pins σ (upd H s.heap.objs.size (.lst [])) { s with heap := s.heap.push { cls := .type "list", data := .seq #[] } } := I.lnew (its := []) (t' := s.toks) .nil (Nat.zero_le _)
  have I2 := I1.lset (f := fun _ => #[]) (its := []) (its' := []) (ys := []) (t' := s.toks) upd_same hS rfl .nil (Nat.zero_le _)
  rw [upd_upd] at I2
  have ha2 : upd H s.heap.objs.size (.lst []) a = some (.ins C dx fs) := (upd_ne (ne_of_none ha fr)).trans ha
  show wpAny _ _ (Builtin.List.listItems (.ref s.heap.objs.size) >>= fun old => Builtin.List.listUpdate (.ref s.heap.objs.size) (fun _ => #[]) >>= fun _ => letGo old.toList.reverse >>= fun _ => Builtin.List.listExtendWith (.ref s.heap.objs.size) (.ref a) .none) _ _ _
  refine wpAny_bind ?_
  unfold Builtin.List.listItems
  refine wpAny_bind (wpAny_seqItems hS rfl (wpAny_pure (wpAny_bind ?_)))
  show wpAny _ _ (updateSeq s.heap.objs.size (fun _ => #[])) _ _ _
  refine wpAny_updateSeq hS rfl (wpAny_bind (wpAny_letGo ?_))
  clear hS I1
  revert I2
  generalize hs2 : ({ s with heap := (s.heap.push { cls := .type "list", data := .seq #[] }).update s.heap.objs.size (Obj.mapSeq fun _ => #[]) } : Shared) = s2
  intro I2
  generalize s.heap.objs.size = q at *
  clear hs2
  have hqa : q ≠ a := ne_of upd_same ha2 (fun z => nomatch z)
  obtain ⟨mA, J, _⟩ := ins_get I2.hok ha2
  obtain ⟨od, J, _⟩ := J.look
  obtain ⟨m, hF⟩ := I2.fr
  unfold Builtin.List.listExtendWith
  refine wpAny_bind (J.type.here ?_)
  have z1 : Builtin.List.listSameRef (.ref q) (.ref a) = false := by simp [Builtin.List.listSameRef, hqa]
  simp only [z1, show (Value.ref C == Value.type "list") = false from rfl, show (Value.ref C == Value.type "tuple") = false from rfl, Bool.or_false, Bool.false_eq_true, if_false]
  refine wpAny_bind (PySem.W.owit_iter hF I2.ok.mod.kin J MI.at_ MI.fn (wpAny_mono (run_pad (sb.mono (Nat.le_succ n)) FI bI xI I2 (.cons val_ref .nil) (Q := fun v H' => ∃ it, v = .ref it ∧ upd H q (.lst []) it = none ∧ s2.heap.objs.size ≤ it ∧ H' = upd (upd H q (.lst [])) it (ItSO it x)) ⟨a, dx, fs, x, rfl, ha2, hl, fun it n1 n2 => ⟨it, rfl, n1, n2, rfl⟩⟩) (fun v s' q' => ?_) fun _ _ z => z))
  obtain ⟨w, H', I3, rw', it, rfl, hn, hsz, rfl⟩ := q'
  cases rw'
  have ha3 : upd (upd H q (.lst [])) it (ItSO it x) a = some (.ins C dx fs) := (upd_ne (ne_of_none ha2 hn)).trans ha2
  -- behind the iterator's making: its length is asked, then the items go in
  have last : ∀ s4, Inv X pins σ (upd (upd H q (.lst [])) it (ItSO it x)) s4 → codeAny (model X.prog X.w) X.A.in1 (.builtin "list.extend.loop" ⟨[.ref q, .ref it, .none], []⟩) (wants (fun r s₂ => r = Value.none ∧ EP X pins σ Q (Value.ref q) s₂) X.xe) s4 := fun s4 I4 => by
    have he : upd (upd H q (.lst [])) it (ItSO it x) it = some (ItSO it x) := upd_same
    have he' := he
    unfold ItSO at he'
    obtain ⟨⟨ty, t, hy, st⟩, _⟩ : (∃ ty t, (ty = "str_ascii_iterator" ∨ ty = "str_iterator") ∧ s4.heap.IsStrIter it ty x t 0) ∧ _ := (show ObjOk X.prog X.w _ s4.heap it (ItSO it x) from I4.hok it _ he)
    have D := inv_drop I4 he'
    rw [drop_upd hn] at D
    have fp := inv_fp I4 he (Nat.le_trans I2.sz hsz)
    rw [drop_upd hn] at fp
    refine own_fill (I.ok.hd hcalm) D upd_same fp hy st hz (I.ok.hd hcalm) fun s5 I5 => ⟨rfl, .ref q, _, I5, rfl, ?_⟩
    rw [upd_upd]
    exact q1
  have hT : ∃ ty : String, s'.TypeIs (.ref it) ty ∧ (ty = "str_ascii_iterator" ∨ ty = "str_iterator") := by
    obtain ⟨⟨ty, t, hy, o, ho, hc, _⟩, _⟩ : (∃ ty t, (ty = "str_ascii_iterator" ∨ ty = "str_iterator") ∧ s'.heap.IsStrIter it ty x t 0) ∧ _ := (show ObjOk X.prog X.w _ s'.heap it (ItSO it x) from I3.hok it _ upd_same)
    exact ⟨ty, ⟨o, ho, hc⟩, hy⟩
  have quiet : ∀ args, (Code.builtin "list.extend.loop" args).quiet = true := fun args => plainId_quiet PySem.F.plain_extend_loop _
  unfold PySem.W.OwitIt
  obtain ⟨ty, hT, hy⟩ := hT
  have qit : q ≠ it := fun z => by
    rw [← z, upd_same] at hn
    cases hn
  have eq0 : upd (upd H q (.lst [])) it (ItSO it x) q = some (.lst []) := (upd_ne qit).trans upd_same
  rcases hy with rfl | rfl
  · refine wpAny_specialOf hT PySem.F.slot_str_ascii_iterator_next.lookup ?_
    show wpAny _ _ (holding [Value.ref it] (Builtin.List.listLengthHint (.ref a)) >>= _) _ _ _
    refine wpAny_bind (wpAny_holding (own_hint ML sb FL bL I3 ha3 hl hz fun b s4 I4 => ?_))
    refine wpAny_ite_split (fun _ => ?_) (fun _ => wpAny_pure ⟨quiet _, last s4 I4⟩)
    exact wpAny_bind (wpAny_rule (wpAny_bind (touch I4 eq0 fun s5 I5 => wpAny_pure ⟨quiet _, last s5 I5⟩)))
  · refine wpAny_specialOf hT PySem.F.slot_str_iterator_next.lookup ?_
    show wpAny _ _ (holding [Value.ref it] (Builtin.List.listLengthHint (.ref a)) >>= _) _ _ _
    refine wpAny_bind (wpAny_holding (own_hint ML sb FL bL I3 ha3 hl hz fun b s4 I4 => ?_))
    refine wpAny_ite_split (fun _ => ?_) (fun _ => wpAny_pure ⟨quiet _, last s4 I4⟩)
    exact wpAny_bind (wpAny_rule (wpAny_bind (touch I4 eq0 fun s5 I5 => wpAny_pure ⟨quiet _, last s5 I5⟩)))
end

/-! ### text[::-1] -/
theorem ssi_rev (n : Nat) : PySem.Builtin.Str.strSliceIndices none none (-1) n = (List.range n).reverse := by
  show sliceRange ((n : Int) - 1) (-1) (-1) = _
  rw [PySem.W.krv_sliceRange, PySem.W.krv_range]
theorem sOf_rev (l : List Nat) : (⟨((List.range (sOf l).length).reverse.filterMap ((sOf l).cps[·]?)).toArray⟩ : Str) = sOf l.reverse := by
  rw [List.filterMap_reverse]
  show (⟨(List.filterMap ((sOf l).cps[·]?) (List.range (sOf l).cps.size)).reverse.toArray⟩ : Str) = _
  rw [PySem.W.krv_all]
  simp [sOf]
def tRevS (te : TE) : TE := fun σ H Q => te σ H fun x H1 => ∃ l : List Nat, x = .str (sOf l) ∧ l.length ≤ 1000 ∧ Q (.str (sOf l.reverse)) H1
theorem pe_revS {X : Cx} {e : Expr} {te : TE} {k : Nat} {p1 p2 p3 pos : Pos} (he : PE X e te) : PE X (.Subscript e (.Slice none none (some (.UnaryOp .USub (.Constant (.int 1) k p1) p2)) p3) pos) (tRevS te) := by
  refine ⟨fun pins s σ H Q I h => ?_⟩
  refine Subscript_ (thn (he.run pins s σ H _ I h) fun v s1 ⟨x, H1, I1, r1, q1⟩ => ?_)
  obtain ⟨l, ex, hz, q⟩ := q1
  subst ex
  obtain ⟨t, rfl⟩ := r1
  have hst : PO X (some (.UnaryOp .USub (.Constant (.int 1) k p1) p2)) (tPart (tUn (rU fun i => .int (-i)) (tC (.int 1)))) := po_some (pe_un un_neg pe_int)
  refine wpAny_Slice (thn (po_none.run pins s1 σ H1 (fun o H2 => o = none ∧ H2 = H1) I1 ⟨rfl, rfl⟩) fun vl s2 ⟨lo, H2, I2, pl, el, e2⟩ => ?_)
  subst el e2
  refine thn (po_none.run pins s2 σ H2 (fun o H3 => o = none ∧ H3 = H2) I2 ⟨rfl, rfl⟩) fun vu s3 ⟨u, H3, I3, pu, eu, e3⟩ => ?_
  subst eu e3
  refine thn (hst.run pins s3 σ H3 (fun o H4 => o = some (-1) ∧ H4 = H3) I3 ⟨1, rfl, -1, rfl, rfl, rfl⟩) fun vs s4 ⟨o, H4, I4, ps, eo, e4⟩ => ?_
  subst eo e4
  have I5 : Inv X pins σ H4 { s4 with heap := s4.heap.push { cls := .type "slice", data := .fields #[vl, vu, vs] } } := I4.kept (t' := s4.toks) fun b ob q => Heap.get?_push_of_some _ q
  show wpAny (model X.prog X.w) X.A (subscriptTail e (.Slice none none (some (.UnaryOp .USub (.Constant (.int 1) k p1) p2)) p3) (.str (sOf l) t) (.ref s4.heap.objs.size)) (EP X pins σ Q) X.xe { s4 with heap := s4.heap.push { cls := .type "slice", data := .fields #[vl, vu, vs] } }
  obtain ⟨a1, rfl, f1⟩ := IsPart.raw pl
  obtain ⟨a2, rfl, f2⟩ := IsPart.raw pu
  obtain ⟨a3, rfl, f3⟩ := IsPart.raw ps
  refine tail_any (T := "str") (ops := [.ref s4.heap.objs.size, .str (sOf l) t]) (typeIs_str _ _ _) (F.slot_str_getitem.lookup) ?_ (by with_unfolding_all rfl)
  refine wpAny_getItem_str_slice (l := a1) (u := a2) (st := a3) ⟨_, Heap.get?_push_size _ rfl, rfl, rfl⟩ (by rw [f3]; rfl) ?_
  have hp : slicePicked (sOf l) a1 a2 a3 = (List.range (sOf l).length).reverse := by
    unfold slicePicked
    rw [f1, f2, f3]
    exact ssi_rev _
  unfold sliceMade
  rw [f3, hp, if_neg (by simp), sOf_rev]
  exact ⟨by rw [sOf_len, List.length_reverse]; exact szl hz, .str _, H4, I5.tok _, ⟨_, rfl⟩, q⟩

/-! ### the making of an object within a try: the wish looks at the slots -/
section
variable {X : Cx} {CX : CXT} {n : Nat} {f C : Addr} {fd : FuncData} {ps : List Str} {sp : Sp} {E : L2.St → XK} {x : Str} {p pos : Pos} {e : Expr} {es : List Expr} {t : TA}
theorem makeS_run {E : XK} {Q : VK} {us : List Value} {vs : List V} {pins : List (Addr × Obj)} {σ : L2.St} {H : Hp} {s : Shared} (M : Mk X.K C f) (F : FnOk X.prog X.w X.K X.mg X.base CX n f fd ps sp) (room : Room (n + 1) X.A) (hb : L2.Binds X.K fd ps [])
    (esc : PassesAt CX X σ E) (J : L2.Inv X pins σ H s) (rs : Vals vs us) (h : ∀ y dy, H y = none → H dy = none → dy ≠ y → sp (.ref y :: vs) (L2.upd (L2.upd H dy (.own y)) y (.ins C dy [])) (fun v H2 => v = .non ∧ Q (.ref y) H2) E) :
    wpAny (model X.prog X.w) X.A (call (.ref C) us) (EP X pins σ Q) X.xe s := by
  generalize hn : s.heap.objs.size = k
  have wish := h (k + 1) k (J.hok.fresh (hn ▸ Nat.le_succ _)) (J.hok.fresh (hn ▸ Nat.le_refl _)) (Nat.ne_of_lt (Nat.lt_succ_self k))
  subst hn
  have J2 := L2.Inv.made (C := C) J
  have rs2 : Vals (V.ref (s.heap.objs.size + 1) :: vs) (Value.ref (s.heap.objs.size + 1) :: us) := .cons val_ref rs
  have many : (Value.ref (s.heap.objs.size + 1) :: us ++ []).length = ps.length := by
    rw [List.append_nil, ← F.len _ _ _ _ wish]
    exact rs2.length.symm
  have bd := hb _ (Value.ref (s.heap.objs.size + 1) :: us) J2.kIn many
  rw [List.append_nil] at bd
  refine wpAny_call (make_map (f := f) J.kIn M.makes M.init (beq_iff_eq.mp M.fn) (codeAny_mono (F.run _ X.stack _ _ ⟨_ :: us, []⟩ _ _ _ E (room.make C us []) (J2.env0.make C us []) bd rs2 wish) fun res s' post => ?_))
  cases res with
  | error er => exact esc pins _ _ er s' J2 post
  | ok fl =>
    cases fl with
    | ret u =>
      obtain ⟨v, H', J3, rv, ev, w⟩ := J2.after post
      subst ev
      exact ⟨rv, ⟨V.ref (s.heap.objs.size + 1), H', J3, val_ref, w⟩⟩
    | next => exact post.elim
    | brk => exact post.elim
    | cont => exact post.elim
def tMakeS (C : Addr) (sp : Sp) (E : L2.St → XK) (t : TA) : TE := fun σ H Q => t σ H fun vs H1 => ∀ y dy, H1 y = none → H1 dy = none → dy ≠ y → sp (.ref y :: vs) (L2.upd (L2.upd H1 dy (.own y)) y (.ins C dy [])) (fun v H2 => v = .non ∧ Q (.ref y) H2) (E σ)
theorem pe_makeS (M : Mk X.K C f) (F : FnOk X.prog X.w X.K X.mg X.base CX n f fd ps sp) (room : Room (n + 1) X.A) (hg : Gl X x) (hm : X.mg x = some (.ref C)) (hb : L2.Binds X.K fd ps []) (esc : ∀ σ, PassesAt CX X σ (E σ)) (ha : PA X (e :: es) t)
    (hdb : (x == ("__debug__" : Str)) = false := by decide) (he : starEach (e :: es) X.env = (false, eval e X.env) :: starEach es X.env := by rfl) (hpl : (backTo pos (starEach es X.env)).any (·.1) = false := by rfl) : PE X (.Call (.Name x p) (e :: es) [] pos) (tMakeS C sp E t) := by
  refine ⟨fun pins s σ H Q J h => wpAny_Call_Name_kw (ld_glob J hg hm ?_ hdb)⟩
  exact PySem.W.callWith_K (h₀ := X.base) J.ok.mod.kin M.kp (thn (ha.run pos pins s σ H _ J h) fun us s1 ⟨vs, H1, J1, r, q⟩ => ⟨J1.kIn, makeS_run M F room hb (esc σ) J1 r q⟩) he hpl
end
theorem pe_fldK {X : Cx} {K : PySem.W.Frag} {e : Expr} {fld : Str} {pos : Pos} {ta : TE} (hK : X.K = K) (he : PE X e ta) (hb : attributeBase e fld X.env (eval e X.env) = eval e X.env) : PE X (.Attribute e fld pos) (tFld K ta fld) := hK ▸ pe_fld he hb
/-! the call of a method whose exceptions meet a wish that looks at the slots -/
def tMethW (C : Addr) (m : Str) (sp : Sp) (E : L2.St → XK) (ta : TE) (t : TA) : TE := fun σ H Q => ta σ H fun y H1 => ∃ b dy gs, y = .ref b ∧ H1 b = some (.ins C dy gs) ∧ gs.lookup m = none ∧ t σ H1 fun ws H2 => sp (y :: ws) H2 Q (E σ)
section
variable {X : Cx} {CX : CXT} {n : Nat} {f C : Addr} {fd : FuncData} {ps : List Str} {sp : Sp} {E : L2.St → XK} {m : Str} {apos pos : Pos} {o e : Expr} {es : List Expr} {ta : TE} {t : TA}
theorem pe_methW {pl : Sem Bool} (obj : PE X o ta) (c : Cls X.K C) (M : Meth X.K C m f) (F : FnOk X.prog X.w X.K X.mg X.base CX n f fd ps sp) (room : Room n X.A) (hb : L2.Binds X.K fd ps []) (esc : ∀ σ, PassesAt CX X σ (E σ)) (ha : PA X (e :: es) t)
    (hst : starEach (e :: es) X.env = (false, eval e X.env) :: starEach es X.env := by rfl) (hpl : (backTo pos (starEach es X.env)).any (·.1) = false := by rfl)
    (ht : eval (.Call (.Attribute o m apos) (e :: es) [] pos) X.env = (do let y ← eval o X.env; standAt apos.atName; let (g, first) ← holding [y] (getMethod y m pl); callWith pos g first (backTo pos (starEach (e :: es) X.env)) (backToKw pos (keywordEach [] X.env))) := by rfl) :
    PE X (.Call (.Attribute o m apos) (e :: es) [] pos) (tMethW C m sp E ta t) := by
  refine ⟨fun pins s σ H Q J h => PySem.W.methodCall_KW (pl := pl) (thn (obj.run pins s σ H _ J h) fun u s1 ⟨y, H1, J1, ru, b, dy, gs, ey, eb, lk, q⟩ => ?_) ht⟩
  subst ey
  cases ru
  refine getmeth_ok J1 eb c M lk (PySem.W.callWith_K (first := [.ref b]) (h₀ := X.base) J.ok.mod.kin M.kp (thn (ha.run pos pins s1 σ H1 _ J1 q) fun us s2 ⟨ws, H2, J2, r, q2⟩ => ⟨J2.kIn, ?_⟩) hst hpl)
  exact run_fnS (us := .ref b :: us) (vs := .ref b :: ws) F room hb (esc σ) J2 (.cons val_ref r) q2
/-- within a def that may raise: what a callee lets out is let out -/
theorem passUp {X : Cx} {E : XK} (tk : Takes X (fun cls d _ H => E cls d H)) : Passes (L2.CX X.prog X.w) X E := passW tk (fun _ _ _ _ _ h => h)
end

/-! ### deep comparisons of texts -/
theorem strOk_of {l : List Nat} (h : ∀ c ∈ l, c < 1114112) : PyData.strOk (sOf l) = true := by
  unfold PyData.strOk sOf
  simpa using h
def signD (l : List Nat) : List PyData := l.map fun c => PyData.str (sOf [c])
theorem signs_sOf (l : List Nat) : signs (sOf l) = l.map fun c => V.str (sOf [c]) := by
  simp [signs, sOf]
theorem dp_strs {K : PySem.W.Frag} {H : Hp} : ∀ l : List Str, DpAll K H (l.map V.str) (l.map PyData.str)
  | [] => .nil
  | x :: r => .cons (.str x) (dp_strs r)
theorem dp_signs {K : PySem.W.Frag} {H : Hp} (l : List Nat) : DpAll K H (signs (sOf l)) (signD l) := by
  have h := dp_strs (K := K) (H := H) (l.map fun c => sOf [c])
  rw [List.map_map, List.map_map] at h
  rw [signs_sOf]
  exact h
theorem lay_strs : ∀ l : List Str, PyData.canLayAll0 (l.map PyData.str) = l.all PyData.strOk
  | [] => rfl
  | x :: r => by simp [PyData.canLayAll0, PyData.canLay0, lay_strs r]
theorem deep_strs : ∀ l : List Str, PyData.depthAll (l.map PyData.str) = 0
  | [] => rfl
  | x :: r => by simp [PyData.depthAll, PyData.depth, deep_strs r]
theorem eqv_strs : ∀ a b : List Str, PyData.eqvAll (a.map PyData.str) (b.map PyData.str) = decide (a = b)
  | [], [] => by simp [PyData.eqvAll]
  | [], _ :: _ => by simp [PyData.eqvAll]
  | _ :: _, [] => by simp [PyData.eqvAll]
  | x :: r, y :: t => by
    simp only [List.map_cons, PyData.eqvAll, PyData.eqv, eqv_strs r t]
    by_cases h : x = y <;> by_cases h' : r = t <;> simp [h, h']
theorem shaped_signs {l : List Nat} (h : ∀ c ∈ l, c < 1114112) : SeqAt.shaped (.list (signD l)) = true := by
  have e : signD l = (l.map fun c => sOf [c]).map PyData.str := by rw [List.map_map]; rfl
  have k : (l.map fun c => sOf [c]).all PyData.strOk = true := by
    rw [List.all_map, List.all_eq_true]
    intro c hc
    exact strOk_of fun d hd => by rw [List.mem_singleton] at hd; rw [hd]; exact h c hc
  rw [e]
  unfold SeqAt.shaped
  rw [PyData.canLay0, lay_strs, k, PyData.depth, deep_strs]
  rfl
theorem eqv_signs (a b : List Nat) : PyData.eqv (.list (signD a)) (.list (signD b)) = decide (a = b) := by
  have e : ∀ l : List Nat, signD l = (l.map fun c => sOf [c]).map PyData.str := fun l => by rw [List.map_map]; rfl
  rw [e, e, PyData.eqv, eqv_strs]
  refine decide_eq_decide.mpr ⟨fun h => ?_, fun h => by rw [h]⟩
  have := congrArg (List.map fun s : Str => s.cps.toList.headD 0) h
  rw [List.map_map, List.map_map] at this
  have hid : ((fun s : Str => s.cps.toList.headD 0) ∘ fun c => sOf [c]) = id := rfl
  rwa [hid, List.map_id, List.map_id] at this
theorem good_codes {l : List Nat} {n : Nat} (g : Good l n) : ∀ c ∈ l, c < 1114112 := fun c hc => by
  rcases g.ltr c hc with e | e <;> omega
/-- a pair of texts -/
theorem shaped_pair {a b : List Nat} (ha : ∀ c ∈ a, c < 1114112) (hb : ∀ c ∈ b, c < 1114112) : SeqAt.shaped (.tuple [.str (sOf a), .str (sOf b)]) = true := by
  simp [SeqAt.shaped, PyData.canLay0, PyData.canLayAll0, PyData.depth, PyData.depthAll, strOk_of ha, strOk_of hb]
theorem eqv_pair (a b c d : List Nat) : PyData.eqv (.tuple [.str (sOf a), .str (sOf b)]) (.tuple [.str (sOf c), .str (sOf d)]) = (decide (a = c) && decide (b = d)) := by
  rw [PyData.eqv, PyData.eqvAll, PyData.eqvAll, PyData.eqvAll, PyData.eqv, PyData.eqv, Bool.and_true]
  have h : ∀ x y : List Nat, (sOf x == sOf y) = decide (x = y) := fun x y => by
    by_cases e : x = y
    · simp [e]
    · rw [beq_eq_false_iff_ne.mpr fun z => e (sOf_inj.mp z), decide_eq_false e]
  rw [h, h]

/-! ### facts of classes -/
theorem cls_in {K : PySem.W.Frag} {C : Addr} {t : Value} {b : Bool} (h2 : PySem.W.isClsIn K C = true) (h3 : PySem.W.typeIn K (.ref C) = some (.type "type")) (h4 : PySem.W.subIn K t (.ref C) = some b) : PySem.W.kitCls K t (.ref C) = some b := by
  have e : (PySem.W.clsIn K C).isSome = true := h2
  unfold PySem.W.kitCls
  simp only []
  rw [e, h3, h4]
  rfl
theorem exm_of {K : PySem.W.Frag} {S B : Addr} (h1 : PySem.W.subIn K (.ref B) (.type "BaseException") = some true) (h2 : PySem.W.isClsIn K B = true) (h3 : PySem.W.typeIn K (.ref B) = some (.type "type")) (h4 : PySem.W.subIn K (.ref S) (.ref B) = some true) : PySem.W.exmOne K (.ref S) (.ref B) = some true := by
  unfold PySem.W.exmOne
  rw [h1, cls_in h2 h3 h4]
  rfl
theorem kit_self {K : PySem.W.Frag} {t : Value} : PySem.W.kitOne K t t = some true := by
  unfold PySem.W.kitOne
  rw [if_pos (by simp)]
theorem kit_own {K : PySem.W.Frag} {C : Addr} {T : String} {b : Bool} (h2 : PySem.W.isClsIn K C = true) (h3 : PySem.W.typeIn K (.ref C) = some (.type "type")) (h4 : PySem.W.subIn K (.type T) (.ref C) = some b) : PySem.W.kitOne K (.type T) (.ref C) = some b := by
  unfold PySem.W.kitOne
  rw [if_neg (by simp), cls_in h2 h3 h4]
theorem kit_kind {K : PySem.W.Frag} {C : Addr} {T : String} {b : Bool} (hm : PySem.W.kitMeta T = true) (h4 : PySem.W.subIn K (.ref C) (.type T) = some b) : PySem.W.kitOne K (.ref C) (.type T) = some b := by
  unfold PySem.W.kitOne
  rw [if_neg (by simp)]
  unfold PySem.W.kitCls
  simp only []
  rw [if_pos hm, h4]
theorem any_hd {K : PySem.W.Frag} {t c : Value} {r : List Value} (h : PySem.W.kitOne K t c = some true) : PySem.W.kitAny K t (c :: r) = some true := by
  unfold PySem.W.kitAny
  rw [h]
theorem any_tl {K : PySem.W.Frag} {t c : Value} {r : List Value} {b : Bool} (h : PySem.W.kitOne K t c = some false) (k : PySem.W.kitAny K t r = some b) : PySem.W.kitAny K t (c :: r) = some b := by
  unfold PySem.W.kitAny
  rw [h]
  exact k
theorem any_nil {K : PySem.W.Frag} {t : Value} : PySem.W.kitAny K t [] = some false := rfl

/-! ### word_fault -/
def wWord : List Nat := [119, 111, 114, 100]
def wCount : List Nat := [99, 111, 117, 110, 116]
def wBelow : List Nat := [98, 101, 108, 111, 119]
def ltrs (l : List Nat) : Bool := l.all fun c => c == 100 || c == 111
def lowAt (l : List Nat) (k : Nat) : Bool := decide ((l.take k).count 100 < (l.take k).count 111)
def wfault (l : List Nat) : Option (List Nat) :=
  if 2 ≤ l.length ∧ l.length ≤ 12 then if ltrs l = true then if l.count 100 = l.count 111 then if (List.range l.length).any (lowAt l) = true then some wBelow else none else some wCount else some wWord else some wWord
def optV : Option (List Nat) → V
  | none => .non
  | some l => .str (sOf l)

/-! ### the law's own judge of words -/
def ht (l : List Nat) (k : Nat) : Int := ((l.take k).count 100 : Int) - (l.take k).count 111
theorem ht_zero (l : List Nat) : ht l 0 = 0 := by simp [ht]
theorem cnt_zero (l : List Nat) (c : Nat) : (((l.take 0).count c : Nat) : Int) = 0 := by simp
theorem ht_succ {l : List Nat} {i c : Nat} (h : l[i]? = some c) : ht l (i + 1) = ht l i + (if c = 100 then 1 else 0) - (if c = 111 then 1 else 0) := by
  unfold ht
  rw [List.take_add_one, h]
  show (((l.take i ++ [c]).count 100 : Nat) : Int) - ((l.take i ++ [c]).count 111 : Nat) = _
  rw [List.count_append, List.count_append, count_sign, count_sign]
  split <;> split <;> omega
/-- low is the least height so far, at most 0 -/
structure LowIs (l : List Nat) (i : Nat) (low : Int) : Prop where
  nonpos : low ≤ 0
  least : ∀ k, k ≤ i → low ≤ ht l k
  some_ : low = 0 ∨ ∃ k, k ≤ i ∧ low = ht l k
theorem LowIs.next {l : List Nat} {i : Nat} {low z : Int} (h : LowIs l i low) (hz : z = ht l (i + 1)) : LowIs l (i + 1) (if z < low then z else low) := by
  subst hz
  have n := h.nonpos
  refine ⟨by split <;> omega, fun k hk => ?_, ?_⟩
  · by_cases hk2 : k ≤ i
    · have := h.least k hk2
      split <;> omega
    · obtain rfl : k = i + 1 := by omega
      split <;> omega
  · split
    · exact .inr ⟨i + 1, Nat.le_refl _, rfl⟩
    · rcases h.some_ with e | ⟨k, hk, e⟩
      · exact .inl e
      · exact .inr ⟨k, by omega, e⟩
theorem LowIs.fault {l : List Nat} {low : Int} (h : LowIs l l.length low) (h0 : ht l l.length = 0) : (List.range l.length).any (lowAt l) = true ↔ low < 0 := by
  rw [List.any_eq_true]
  constructor
  · rintro ⟨k, hk, e⟩
    have := h.least k (Nat.le_of_lt (List.mem_range.mp hk))
    have e2 := of_decide_eq_true e
    unfold ht at this
    omega
  · intro hl
    rcases h.some_ with e | ⟨k, hk, e⟩
    · omega
    · by_cases hk2 : k < l.length
      · exact ⟨k, List.mem_range.mpr hk2, decide_eq_true (by unfold ht at e; omega)⟩
      · obtain rfl : k = l.length := by omega
        omega

theorem good_fault {l : List Nat} {n : Nat} (g : Good l n) (h1 : 1 ≤ n) (h6 : n ≤ 6) : wfault l = none := by
  have hl := g.len
  have hc := g.cnt
  have ht := ltr_count g.ltr
  unfold wfault
  rw [if_pos ⟨by omega, by omega⟩, if_pos, if_pos (by omega), if_neg]
  · rw [List.any_eq_true]
    rintro ⟨k, hk, e⟩
    have := g.ahead k (Nat.le_of_lt (List.mem_range.mp hk))
    have := of_decide_eq_true e
    omega
  · unfold ltrs
    rw [List.all_eq_true]
    intro c hc2
    rcases g.ltr c hc2 with e | e <;> subst e <;> rfl

/-! ### heights -/
def htsI (l : List Nat) (i : Nat) : List Int := (List.range (i + 1)).map (ht l)
theorem htsI_succ (l : List Nat) (i : Nat) : htsI l (i + 1) = htsI l i ++ [ht l (i + 1)] := by
  unfold htsI
  rw [List.range_succ, List.map_append]
  rfl
theorem htsI_len (l : List Nat) (i : Nat) : (htsI l i).length = i + 1 := by simp [htsI]
theorem htsI_last (l : List Nat) (i : Nat) : ∃ r, htsI l i = r ++ [ht l i] := by
  unfold htsI
  rw [List.range_succ, List.map_append]
  exact ⟨_, rfl⟩
theorem atI_last {α : Type} (r : List α) (x : α) : atI (r ++ [x]) (-1) = some x := by
  unfold atI ixN
  rw [if_neg (by decide)]
  have h1 : (r ++ [x]).length = r.length + 1 := by simp
  rw [h1, if_pos (by omega)]
  have h2 : ((-1 : Int) + ((r.length + 1 : Nat) : Int)).toNat = r.length := by omega
  rw [h2]
  simp
def vI (xs : List Int) : List V := xs.map V.int
theorem vI_app (a b : List Int) : vI (a ++ b) = vI a ++ vI b := List.map_append
theorem vI_last (l : List Nat) (i : Nat) : atI (vI (htsI l i)) (-1) = some (.int (ht l i)) := by
  obtain ⟨r, e⟩ := htsI_last l i
  rw [e, vI_app]
  exact atI_last _ _
theorem ht_step {l : List Nat} {i c : Nat} (h : l[i]? = some c) (hc : c = 100 ∨ c = 111) : ht l i + (if c = 100 then 1 else -1) = ht l (i + 1) := by
  rw [ht_succ h]
  rcases hc with e | e <;> subst e <;> simp <;> omega
theorem join_signsS : ∀ l : List Nat, Str.join (sOf []) (l.map fun c => sOf [c]) = sOf l
  | [] => rfl
  | [c] => rfl
  | c :: d :: r => by
    have ih := join_signsS (d :: r)
    rw [List.map_cons] at ih
    rw [List.map_cons, List.map_cons, Str.join, ih, sOf_app, sOf_app]
    · rfl
    · exact fun z => nomatch z
theorem join_signs (l : List Nat) : Txt.join (sOf []) (l.map fun c => sOf [c]) = sOf l := (TL.join_eq _ _).trans (join_signsS l)
theorem sum_signs (l : List Nat) : ((l.map fun c => sOf [c]).map (·.length)).sum = l.length := by
  induction l with
  | nil => rfl
  | cons c r ih =>
    rw [List.map_cons, List.map_cons, List.sum_cons, ih, sOf_len, List.length_cons, List.length_cons]
    show 1 + _ = _
    omega
theorem cutN_len (l : List Nat) (lo hi : Option Int) : (cutN l lo hi).length ≤ l.length := by
  unfold cutN
  rw [List.length_take, List.length_drop]
  omega

/-! ### C.m(..), m a static method of the class C -/
structure SMet (K : PySem.W.Frag) (C : Addr) (mc : Value) (m : Str) (p g : Addr) : Prop where
  found : PySem.W.findCls K (.ref C) mc m = some (.get (.builtin "staticmethod.__get__") (.ref p) .none (.ref C))
  held : ∃ rest, PySem.W.recIn K p "staticmethod" = some (.ref g :: rest)
  kept : PySem.W.keepIn K (.ref g) = true
section
variable {X : Cx} {pins : List (Addr × Obj)} {σ : L2.St} {H : Hp} {s : Shared} {C p g : Addr} {mc : Value} {m : Str} {A : Around} {E : Value → Shared → Prop} {pl : Sem Bool}
theorem getstat_ok {Q : Value × List Value → Shared → Prop} (J : L2.Inv X pins σ H s) (r : ClX.CRead X.K C mc) (M : SMet X.K C mc m p g) (h : ∀ s', L2.Inv X pins σ H s' → Q (.ref g, []) s') : wpAny (model X.prog X.w) A (getMethod (.ref C) m pl) Q E s := by
  obtain ⟨rest, hp⟩ := M.held
  exact PySem.W.method_cls J.kIn r.ga (PySem.W.cls_bind J.kIn r.rd M.found (wpAny_call (PySem.W.sm_get (s := { s with toks := s.toks + 1 }) J.kIn hp (PySem.W.handed_on rfl (h _ (J.tok _))))))
end
def tStat (C : Addr) (sp : Sp) (E : XK) (ta : TE) (t : TA) : TE := fun σ H Q => ta σ H fun x H1 => x = .ref C ∧ t σ H1 fun vs H2 => sp vs H2 Q E
section
variable {X : Cx} {CX : CXT} {n : Nat} {C p g : Addr} {mc : Value} {fd : FuncData} {ps : List Str} {sp : Sp} {E : XK} {m : Str} {apos pos : Pos} {o e : Expr} {es : List Expr} {ta : TE} {t : TA}
theorem pe_stat {pl : Sem Bool} (cls : PE X o ta) (r : ClX.CRead X.K C mc) (M : SMet X.K C mc m p g) (F : FnOk X.prog X.w X.K X.mg X.base CX n g fd ps sp) (room : Room n X.A) (hb : L2.Binds X.K fd ps []) (esc : Passes CX X E) (ha : PA X (e :: es) t)
    (hst : starEach (e :: es) X.env = (false, eval e X.env) :: starEach es X.env := by rfl) (hpl : (backTo pos (starEach es X.env)).any (·.1) = false := by rfl)
    (ht : eval (.Call (.Attribute o m apos) (e :: es) [] pos) X.env = (do let y ← eval o X.env; standAt apos.atName; let (g, first) ← holding [y] (getMethod y m pl); callWith pos g first (backTo pos (starEach (e :: es) X.env)) (backToKw pos (keywordEach [] X.env))) := by rfl) :
    PE X (.Call (.Attribute o m apos) (e :: es) [] pos) (tStat C sp E ta t) := by
  refine ⟨fun pins s σ H Q J h => PySem.W.methodCall_KW (pl := pl) (thn (cls.run pins s σ H _ J h) fun u s1 ⟨y, H1, J1, ru, ey, q⟩ => ?_) ht⟩
  subst ey
  cases ru
  refine getstat_ok J1 r M fun s2 J2 => PySem.W.callWith_K (first := []) (h₀ := X.base) J.ok.mod.kin M.kept (thn (ha.run pos pins s2 σ H1 _ J2 q) fun us s3 ⟨ws, H2, J3, rw', q2⟩ => ⟨J3.kIn, ?_⟩) hst hpl
  exact run_fn (us := us) (vs := ws) (dvs := []) (ds := []) F room hb .nil esc J3 rw' (by rw [List.append_nil]; exact q2)
end

/-! ### enumerate(tuple) -/
set_option maxHeartbeats 1000000 in
theorem enum_newT (l : Addr) (items : Array Value) (n : Nat) (dct : Option Addr) (sl : Array (Option Value)) :
    Meets (PySem.Builtin.«enumerate.__new__» ⟨[.type "enumerate", .ref l], []⟩) (fun _ R s => s.heap.get? l = some { cls := .type "tuple", dict := dct, data := .seq items n, slots := sl } ∧
      R (.ok (.ret (.ref (s.heap.push { cls := .type "tuple_iterator", data := .fields #[.ref l, .int 0 0] }).objs.size))) { s with heap := (s.heap.push { cls := .type "tuple_iterator", data := .fields #[.ref l, .int 0 0] }).push { cls := .type "enumerate", data := .fields #[.none, .bool false, .ref s.heap.objs.size, rawInt 0, .none, .none] } }) :=
  .of_wp fun prog w A R s h => by
    obtain ⟨hp, g, dr, tk, os⟩ := s
    obtain ⟨there, post⟩ := h
    have hsub := sub_enumerate
    have hT : Heap.IsTuple (Shared.heap ⟨hp, g, dr, tk, os⟩) l items := ⟨_, there, rfl, n, rfl⟩
    wp_walk using AutoSeq1.wpAny_loadPart' there
    refine wpAny_stack_any fun st => wpAny_pure ?_
    split
    · rename_i c _ _ _ _ _
      cases (c == Value.type "enumerate")
      · wp_walk using AutoSeq1.wpAny_loadPart' there, wpAny_pyIter_tuple hT
        exact ⟨_, rfl, post⟩
      · wp_walk using AutoSeq1.wpAny_loadPart' there, wpAny_pyIter_tuple hT
        exact ⟨_, rfl, post⟩
    · wp_walk using AutoSeq1.wpAny_loadPart' there, wpAny_pyIter_tuple hT
      exact ⟨_, rfl, post⟩
theorem call_enumT {prog : Program} {w : World} {A : Around} {E : Value → Shared → Prop} {s : Shared} {l : Addr} {items : Array Value} {Q : Value → Shared → Prop} (hT : s.heap.IsTuple l items)
    (h : ∀ h', IsEnum h' (s.heap.objs.size + 1) s.heap.objs.size 0 .none → h'.IsTupleIter s.heap.objs.size l 0 → (∀ b o, s.heap.get? b = some o → h'.get? b = some o) → Q (.ref (s.heap.objs.size + 1)) { s with heap := h' }) :
    wpAny (model prog w) A (call (.type "enumerate") [.ref l]) Q E s := by
  obtain ⟨⟨c, dct, dt, sl⟩, there, hc, n, hd⟩ := hT
  cases (show c = .type "tuple" from hc)
  cases (show dt = .seq items n from hd)
  refine callType_new F.called_enumerate (by decide) (F.typeCall_enumerate_1 _) (F.newCall_enumerate_1 _) (fun obj => F.args_object_init_2 obj _) F.entry_enumerate_new (enum_newT l items n dct sl) ⟨there, ?_⟩
  have z1 : (s.heap.push { cls := .type "tuple_iterator", data := .fields #[.ref l, .int 0 0] }).objs.size = s.heap.objs.size + 1 := Heap.size_push ..
  show _ ∧ _
  rw [z1]
  have at2 := Heap.get?_push_size (s.heap.push { cls := .type "tuple_iterator", data := .fields #[.ref l, .int 0 0] }) (o := { cls := .type "enumerate", data := .fields #[.none, .bool false, .ref s.heap.objs.size, rawInt 0, .none, .none] }) rfl
  rw [z1] at at2
  exact ⟨⟨_, at2, rfl⟩, h _ at2 ⟨_, Heap.get?_push_of_some _ (Heap.get?_push_size _ rfl), rfl, rfl⟩ fun b o x => Heap.get?_push_of_some _ (Heap.get?_push_of_some _ x)⟩
/-- the tuple at a as it stands at each turn, each item in a new pair -/
def IteT (K : PySem.W.Frag) (a : Addr) : It :=
  ⟨fun i H => ∃ (xs : List V) (x : V), SqT K H a xs ∧ xs[i]? = some x, fun i H v H' => ∃ T x, v = .ref T ∧ H T = none ∧ H' = L2.upd H T (.tup [.int (i : Nat), x]) ∧ (∀ ys, SqT K H a ys → ys[i]? = some x), fun i H => ∃ xs : List V, SqT K H a xs ∧ xs.length ≤ i⟩
theorem tup_ne {h : Heap} {l it : Addr} {xs : Array Value} {n : Nat} (p : h.IsTuple l xs) (q : h.IsTupleIter it l n) : l ≠ it := fun z => by
  obtain ⟨o, e, c, _⟩ := p
  obtain ⟨o2, e2, c2, _⟩ := q
  rw [z, e2] at e
  cases e
  exact absurd (Value.type.inj (c2.symm.trans c)) (by decide)
theorem tup_ne2 {h : Heap} {l en it : Addr} {xs : Array Value} {i : Int} {old : Value} (p : h.IsTuple l xs) (q : IsEnum h en it i old) : en ≠ l := fun z => by
  obtain ⟨o, e, c, _⟩ := p
  have q' : h.get? en = some _ := q
  rw [z, e] at q'
  cases q'
  exact absurd (Value.type.inj c) (by decide)
theorem turn_enumT {P : Program} {w : World} {K : PySem.W.Frag} {elts : List Expr} {kk : Nat} {tpos : Pos} (a e it : Addr) :
    Turn P w K (.Tuple elts kk tpos) (IteT K a) [e, it] e (fun i h => (∃ old, IsEnum h e it ((i : Nat) : Int) old) ∧ h.IsTupleIter it a i ∧ e ≠ it) where
  mem := by simp
  obj := fun i h ⟨⟨old, he⟩, ⟨o, ho, hc, hd⟩, _⟩ b hb => by
    rcases (show b = e ∨ b = it by simpa using hb) with z | z
    · rw [z]
      exact ⟨_, he, fun v q => nomatch q⟩
    · rw [z]
      exact ⟨o, ho, fun v q => by rw [hd] at q; cases q⟩
  keep := fun i h h' ⟨⟨old, he⟩, hi, ne⟩ k => ⟨⟨old, k e (by simp) _ he⟩, hi.at fun o q => k it (by simp) o q, ne⟩
  item := by
    intro X hP hw hK calm i pins s σ H E I hf ⟨⟨old, he⟩, hit, ne⟩ ⟨xs, x, hq, hx⟩
    subst hP hw hK
    obtain ⟨its, rv, p, hz⟩ := I.tuple hq
    have pt : s.heap.IsTuple a its.toArray := p
    obtain ⟨u, hu, ru⟩ := rv.get hx
    have hlt : i < its.toArray.size := by
      have := List.getElem?_eq_some_iff.mp hu
      obtain ⟨h1, _⟩ := this
      simpa using h1
    have el := Heap.lt_size he
    have il : it < s.heap.objs.size := by obtain ⟨_, q, _⟩ := hit; exact Heap.lt_size q
    have D := PySem.Draws.tuple (prog := X.prog) (w := X.w) (A := X.A.in1) (I.ok.hd calm) it a (tup_ne pt hit) its.toArray
    refine wpAny_pyNext_enum_itemD D he ⟨hit, pt⟩ hlt ne (by simp [ne, tup_ne2 pt he]) fun v h' tk hv ho ⟨hit', pt'⟩ hT hsz hk => ?_
    obtain rfl : u = v := by
      rw [List.getElem?_toArray, hu] at hv
      exact Option.some.inj hv
    refine ⟨_, rfl, wpAny_letOwnedTupleGo_enum (s := { s with heap := h', toks := tk + 1 }) ho fun h2 he2 sb => ?_⟩
    have hT2 : h2.get? s.heap.objs.size = some { cls := .type "tuple", data := .seq #[.int i tk, u] } := (sb.2 _ (Nat.ne_of_gt el)).trans hT
    have new : ObjOk X.prog X.w (L2.upd H s.heap.objs.size (.tup [.int (i : Nat), x])) h2 s.heap.objs.size (.tup [.int (i : Nat), x]) :=
      ⟨by show 2 ≤ sizeLine; decide, [.int i tk, u], .cons ⟨_, rfl⟩ (.cons ru .nil), ⟨_, hT2, rfl, _, rfl⟩⟩
    have I1 : L2.Inv X pins σ (L2.upd H s.heap.objs.size (.tup [.int (i : Nat), x])) { s with heap := h2, toks := tk + 1 } :=
      I.turnedNew (ch := [e, it]) (fun b ob hb q => (sb.2 b (fun z => hb (by simp [z]))).trans (hk b ob (fun z => hb (by simp [z])) (fun z => hb (by simp [z])) q)) hf (Nat.le_refl _) new
    refine ⟨.ref s.heap.objs.size, _, I1, rfl, ⟨_, x, rfl, I.hok.fresh (Nat.le_refl _), rfl, fun ys hy => by rw [I.tuple_inj hy hq]; exact hx⟩, ⟨⟨u, ?_⟩, hit'.at fun o q => (sb.2 it (Ne.symm ne)).trans q, ne⟩, fun b hb => ?_⟩
    · rw [show ((i + 1 : Nat) : Int) = (i : Int) + 1 by omega]
      exact he2
    · have lt : b < s.heap.objs.size := by
        rcases (show b = e ∨ b = it by simpa using hb) with z | z
        · exact z ▸ el
        · exact z ▸ il
      exact (upd_ne (Nat.ne_of_lt lt)).trans (hf b hb).1
  done := by
    intro X hP hw hK calm i pins s σ H E I hf ⟨⟨old, he⟩, hit, ne⟩ ⟨xs, hq, hx⟩
    subst hP hw hK
    obtain ⟨its, rv, p, hz⟩ := I.tuple hq
    have pt : s.heap.IsTuple a its.toArray := p
    obtain ⟨f0, f1, f2, f3, f4, f5⟩ := hf it (by simp)
    have many := rv.length
    have eT : s.TypeIs (.ref e) "enumerate" := ⟨_, he, rfl⟩
    unfold pyNext
    refine wpAny_bind (wpAny_attempt (wpAny_callSpecial?_slot (name := Str.ofString "__next__") eT F.slot_enumerate_next (wpAny_call_entry F.slot_enumerate_next eT F.entry_enumerate_next ?_ (F.args_enumerate_next_1 _))))
    show wpAny _ _ (field (.ref e) 2 >>= _) _ _ _
    refine wpAny_bind (wpAny_field he rfl (x := .ref it) rfl (wpAny_bind (PySem.wpAny_nextOf_tuple_end (I.ok.hd calm) hit pt (by simp; omega) fun h' er eb ⟨o, ho, hc⟩ => ?_)))
    exact wpAny_bind (wpAny_isInstance (T := "StopIteration") (b := true) ⟨o, ho, hc⟩ isSubtype_stop (wpAny_pure ⟨rfl, I.turned (t' := s.toks) (fun b o hb q => eb b o hb q) f0 f1 f3 f4 f5⟩))
  self := fun A i s Q E ⟨⟨_, he⟩, _⟩ h => wpAny_pyIter_enum he h
/-- enumerate(e), e a list or a tuple -/
def iEnumQ (K : PySem.W.Frag) (ta : TA) : TI := fun σ H R => ta σ H fun vs H1 => ∃ a xs, vs = [.ref a] ∧ ((SqL K H1 a xs ∧ R (Ite K a) H1) ∨ (SqT K H1 a xs ∧ R (IteT K a) H1))
theorem pi_enumQ {X : Cx} {K : PySem.W.Frag} {e : Expr} {ta : TA} {p pos tpos : Pos} {elts : List Expr} {kk : Nat} (hK : X.K = K) (hg : Gl X "enumerate") (hm : X.mg "enumerate" = none) (ha : PA X [e] ta) (hs : starEach [e] X.env = [(false, eval e X.env)] := by rfl) :
    PI X (.Tuple elts kk tpos) (.Call (.Name "enumerate" p) [e] [] pos) (iEnumQ K ta) := by
  subst hK
  refine ⟨fun pins s σ H R I h => Call_ (ld_blt I hg hm boot_enumerate (PyProof.Rows.callWith_type1 (thn (ha.run pos pins s σ H _ I h) fun us s1 ⟨vs, H1, I1, r1, a, xs, ex, q⟩ => ?_) hs rfl))⟩
  subst ex
  obtain ⟨u, rfl, ru⟩ := r1.one
  cases ru
  have foot : ∀ b, b ∈ [s1.heap.objs.size + 1, s1.heap.objs.size] → FpOk X pins H1 b := fun b hb => by
    have le : s1.heap.objs.size ≤ b := by
      rcases (show b = s1.heap.objs.size + 1 ∨ b = s1.heap.objs.size by simpa using hb) with z | z
      · exact z ▸ Nat.le_succ _
      · exact z ▸ Nat.le_refl _
    exact I1.fpOk le (I1.hok.fresh le)
  rcases q with ⟨hq, q⟩ | ⟨hq, q⟩
  · obtain ⟨its, rv, p', hz⟩ := I1.list hq
    exact call_enumerate_list p'.isList fun h' he hit hsz hk => wpAny_pyIter_enum he ⟨_, _, _, _, H1, rfl, I1.kept (t' := s1.toks) hk, turn_enum a (s1.heap.objs.size + 1) s1.heap.objs.size, ⟨⟨.none, he⟩, hit, Nat.succ_ne_self _⟩, foot, q⟩
  · obtain ⟨its, rv, p', hz⟩ := I1.tuple hq
    exact call_enumT (show s1.heap.IsTuple a its.toArray from p') fun h' he hit hk => wpAny_pyIter_enum he ⟨_, _, _, _, H1, rfl, I1.kept (t' := s1.toks) hk, turn_enumT a (s1.heap.objs.size + 1) s1.heap.objs.size, ⟨⟨.none, he⟩, hit, Nat.succ_ne_self _⟩, foot, q⟩
theorem walk_enumT {K : PySem.W.Frag} {a : Addr} {xs : List V} : Walk (IteT K a) xs.length (fun H => SqT K H a xs) (YPair (fun i => some (.int (i : Nat))) (fun i => xs[i]?)) := by
  refine ⟨fun i _ hi q => ⟨xs, xs[i], q, by simp [hi]⟩, fun _ q => ⟨xs, q, Nat.le_refl _⟩, fun i H v H' _ q y => ?_⟩
  obtain ⟨T, x, e1, e2, e3, e4⟩ := y
  exact ⟨T, .int (i : Nat), x, e1, e2, e3, rfl, e4 xs q⟩
/-- for x in e, e a list or a tuple -/
def iSeqQ (K : PySem.W.Frag) (te : TE) : TI := fun σ H R => te σ H fun v H1 => ∃ a xs, v = .ref a ∧ ((SqL K H1 a xs ∧ R (Itl K a) H1) ∨ (SqT K H1 a xs ∧ R (Itt K a) H1))
theorem pi_seqQ {X : Cx} {K : PySem.W.Frag} {tg e : Expr} {te : TE} (hK : X.K = K) (he : PE X e te) : PI X tg e (iSeqQ K te) := by
  subst hK
  refine ⟨fun pins s σ H R I h => thn (he.run pins s σ H _ I h) fun u s1 ⟨y, H1, I1, ru, a, xs, ey, q⟩ => ?_⟩
  subst ey
  cases ru
  have foot : ∀ b, b ∈ [s1.heap.objs.size] → FpOk X pins H1 b := fun b hb => by
    have z : b = s1.heap.objs.size := by simpa using hb
    rw [z]
    exact I1.fpOk (Nat.le_refl _) (I1.hok.fresh (Nat.le_refl _))
  rcases q with ⟨hq, q⟩ | ⟨hq, q⟩
  · obtain ⟨its, rv, p, hz⟩ := I1.list hq
    exact wpAny_pyIter_list p.isList ⟨_, _, _, _, H1, rfl, I1.kept (t' := s1.toks) fun b o k => Heap.get?_push_of_some _ k, turn_list a _, ⟨_, Heap.get?_push_size _ rfl, rfl, rfl⟩, foot, q⟩
  · obtain ⟨its, rv, p, hz⟩ := I1.tuple hq
    exact wpAny_pyIter_tuple (show s1.heap.IsTuple a its.toArray from p) ⟨_, _, _, _, H1, rfl, I1.kept (t' := s1.toks) fun b o k => Heap.get?_push_of_some _ k, turn_tuple a _, ⟨_, Heap.get?_push_size _ rfl, rfl, rfl⟩, foot, q⟩

/-! ### the making of exceptions with one, two fields -/
section
variable {K : PySem.W.Frag}
/-- the making of an exception with one field -/
def spE1 (K : PySem.W.Frag) (f : Str) : Sp := fun vs H Q _ => ∃ (a C : Addr) (v : V), vs = [.ref a, v] ∧ OexC K C ∧ PySem.W.findIn K (.ref C) f = some none ∧ H a = some (exo a C none) ∧
  ∀ dx, H dx = none → dx ≠ a → Q .non (upd (upd H dx (exd dx [(f, v)])) a (exo a C (some dx)))
/-- what raise C(v) asks, by its wish -/
theorem made1 {C : Addr} {f : Str} {v : V} {H : Hp} {Q : XK} (T : OexC K C) (hn : PySem.W.findIn K (.ref C) f = some none) (q : ∀ d H', Same H H' → H d = none → H' d = some (.xd [(f, v)]) → Q (.ref C) (some d) H') :
    [v].length ≤ 1000 ∧ ∀ a, H a = none → spE1 K f (.ref a :: ([v] ++ [])) (upd H a (exo a C none)) (fun v H2 => v = .non ∧ ∃ (d : Addr) (fs : List (Str × V)), H2 a = some (exo a C (some d)) ∧ H2 d = some (exd d fs) ∧ H d = none ∧ Q (.ref C) (some d) (upd (del H2 a) d (.xd fs))) (fun _ _ _ => False) := by
  refine ⟨(by show 1 ≤ 1000; decide), fun a na => ⟨a, C, v, rfl, T, hn, upd_same, fun dx n ne => ⟨rfl, dx, [(f, v)], upd_same, ?_, ?_, ?_⟩⟩⟩
  · rw [upd_ne ne, upd_same]
  · rw [upd_ne ne] at n
    exact n
  · rw [upd_ne ne] at n
    refine q dx _ (upd_del_same na n fun b o hb e => ?_) n upd_same
    rw [upd_ne hb, upd_ne (ne_of_none e n), upd_ne hb]
    exact e
/-- the making of an exception with two fields, f stored ahead of g -/
def spE2 (K : PySem.W.Frag) (f g : Str) : Sp := fun vs H Q _ => ∃ (a C : Addr) (v u : V), vs = [.ref a, v, u] ∧ OexC K C ∧ PySem.W.findIn K (.ref C) f = some none ∧ PySem.W.findIn K (.ref C) g = some none ∧ H a = some (exo a C none) ∧
  ∀ dx, H dx = none → dx ≠ a → Q .non (upd (upd (upd H dx (exd dx [(f, v)])) a (exo a C (some dx))) dx (exd dx [(g, u), (f, v)]))
theorem made2 {C : Addr} {f g : Str} {v u : V} {H : Hp} {Q : XK} (T : OexC K C) (hf : PySem.W.findIn K (.ref C) f = some none) (hg : PySem.W.findIn K (.ref C) g = some none) (q : ∀ d H', Same H H' → H d = none → H' d = some (.xd [(g, u), (f, v)]) → Q (.ref C) (some d) H') :
    [v, u].length ≤ 1000 ∧ ∀ a, H a = none → spE2 K f g (.ref a :: ([v, u] ++ [])) (upd H a (exo a C none)) (fun v H2 => v = .non ∧ ∃ (d : Addr) (fs : List (Str × V)), H2 a = some (exo a C (some d)) ∧ H2 d = some (exd d fs) ∧ H d = none ∧ Q (.ref C) (some d) (upd (del H2 a) d (.xd fs))) (fun _ _ _ => False) := by
  refine ⟨(by show 2 ≤ 1000; decide), fun a na => ⟨a, C, v, u, rfl, T, hf, hg, upd_same, fun dx n ne => ?_⟩⟩
  have n' : H dx = none := by
    rw [upd_ne ne] at n
    exact n
  refine ⟨rfl, dx, [(g, u), (f, v)], ?_, upd_same, n', q dx _ (upd_del_same na n' fun b o hb e => ?_) n' upd_same⟩
  · rw [upd_ne (Ne.symm ne), upd_same]
  · rw [upd_ne (ne_of_none e n'), upd_ne hb, upd_ne (ne_of_none e n'), upd_ne hb]
    exact e
end

/-! ### lists of new tuples, as data -/
theorem sqt_mono {K : PySem.W.Frag} {H H' : Hp} {a : Addr} {xs : List V} (e : Same H H') (h : SqT K H a xs) : SqT K H' a xs := by
  rcases h with (h | ⟨o, h⟩) | h
  · exact .inl (.inl (e _ _ h))
  · exact .inl (.inr ⟨o, e _ _ h⟩)
  · exact .inr h
mutual
theorem dp_mono {K : PySem.W.Frag} {H H' : Hp} (s : Same H H') : ∀ (d : PyData) (v : V), Dp K H v d → Dp K H' v d
  | .none, _, h => by cases h; exact .non
  | .bool b, _, h => by cases h; exact .bl b
  | .int i, _, h => by cases h; exact .int i
  | .str x, _, h => by cases h; exact .str x
  | .list ds, _, h => by
    cases h with
    | lst hs ha => exact .lst (s.seq hs) (dpa_mono s ds _ ha)
  | .tuple ds, _, h => by
    cases h with
    | tup hs ha => exact .tup (sqt_mono s hs) (dpa_mono s ds _ ha)
  | .dict _, _, h => by cases h
theorem dpa_mono {K : PySem.W.Frag} {H H' : Hp} (s : Same H H') : ∀ (ds : List PyData) (vs : List V), DpAll K H vs ds → DpAll K H' vs ds
  | [], _, h => by cases h; exact .nil
  | d :: ds, _, h => by
    cases h with
    | cons h1 h2 => exact .cons (dp_mono s d _ h1) (dpa_mono s ds _ h2)
end
theorem dpa_snoc {K : PySem.W.Frag} {H : Hp} {v : V} {d : PyData} : ∀ {ds : List PyData} {vs : List V}, DpAll K H vs ds → Dp K H v d → DpAll K H (vs ++ [v]) (ds ++ [d])
  | [], _, h, k => by cases h; exact .cons k .nil
  | e :: ds, _, h, k => by
    cases h with
    | cons h1 h2 => exact .cons h1 (dpa_snoc h2 k)
/-- the list at D (new since H) holds xs, data ds that stand without it -/
structure Gh (K : PySem.W.Frag) (H : Hp) (D : Addr) (H' : Hp) (xs : List V) (ds : List PyData) : Prop where
  ex : ∃ G : Hp, Same H G ∧ G D = none ∧ Same G H' ∧ DpAll K G xs ds
  here : H' D = some (.lst xs)
theorem Gh.start {K : PySem.W.Frag} {H : Hp} {D : Addr} (n : H D = none) : Gh K H D (upd H D (.lst [])) [] [] := ⟨⟨H, Same.refl H, n, same_new (Same.refl H) n, .nil⟩, upd_same⟩
theorem Gh.same {K : PySem.W.Frag} {H H' : Hp} {D : Addr} {xs : List V} {ds : List PyData} (g : Gh K H D H' xs ds) : Same H H' := let ⟨_, a, _, b, _⟩ := g.ex; a.trans b
theorem Gh.data {K : PySem.W.Frag} {H H' : Hp} {D : Addr} {xs : List V} {ds : List PyData} (g : Gh K H D H' xs ds) : Dp K H' (.ref D) (.list ds) := let ⟨_, _, _, b, c⟩ := g.ex; .lst (SqL.of g.here) (dpa_mono b _ _ c)
theorem Gh.grow {K : PySem.W.Frag} {H H' H2 : Hp} {D : Addr} {xs : List V} {ds : List PyData} (g : Gh K H D H' xs ds) (s : Same H' H2) : Gh K H D H2 xs ds := let ⟨G, a, n, b, c⟩ := g.ex; ⟨⟨G, a, n, b.trans s, c⟩, s _ _ g.here⟩
theorem Gh.add {K : PySem.W.Frag} {H H' : Hp} {D : Addr} {xs : List V} {ds : List PyData} {v : V} {d : PyData} (g : Gh K H D H' xs ds) (k : ∀ G : Hp, Dp K G v d) : Gh K H D (upd H' D (.lst (xs ++ [v]))) (xs ++ [v]) (ds ++ [d]) := by
  obtain ⟨G, a, n, b, c⟩ := g.ex
  refine ⟨⟨G, a, n, fun z o e => ?_, dpa_snoc c (k G)⟩, upd_same⟩
  rw [upd_ne (ne_of_none e n)]
  exact b z o e
theorem Gh.pair {K : PySem.W.Frag} {H H' : Hp} {D T : Addr} {xs vs : List V} {ds es : List PyData} (g : Gh K H D H' xs ds) (nT : H' T = none) (k : ∀ G : Hp, DpAll K G vs es) :
    Gh K H D (upd (upd H' T (.tup vs)) D (.lst (xs ++ [.ref T]))) (xs ++ [.ref T]) (ds ++ [.tuple es]) := by
  obtain ⟨G, a, n, b, c⟩ := g.ex
  have gT : G T = none := b.free nT
  have ne : T ≠ D := fun z => by rw [z, g.here] at nT; cases nT
  have s1 : Same G (upd G T (.tup vs)) := same_new (Same.refl G) gT
  refine ⟨⟨upd G T (.tup vs), a.trans s1, (upd_ne (Ne.symm ne)).trans n, fun z o e => ?_, dpa_snoc (dpa_mono s1 _ _ c) (.tup (SqT.of upd_same) (k _))⟩, upd_same⟩
  by_cases hz : z = T
  · subst hz
    rw [upd_same] at e
    rw [upd_ne ne, upd_same]
    exact e
  · rw [upd_ne hz] at e
    rw [upd_ne (ne_of_none e n), upd_ne hz]
    exact b z o e

/-! ### data of lists, item by item -/
theorem dpa_len {K : PySem.W.Frag} {H : Hp} : ∀ {ds : List PyData} {vs : List V}, DpAll K H vs ds → vs.length = ds.length
  | [], _, h => by cases h; rfl
  | d :: ds, _, h => by
    cases h with
    | cons h1 h2 => rw [List.length_cons, List.length_cons, dpa_len h2]
theorem dpa_at {K : PySem.W.Frag} {H : Hp} : ∀ {ds : List PyData} {vs : List V} {i : Nat} {v : V}, DpAll K H vs ds → vs[i]? = some v → ∃ d, ds[i]? = some d ∧ Dp K H v d
  | [], _, _, _, h, e => by cases h; simp at e
  | d :: ds, _, i, v, h, e => by
    cases h with
    | cons h1 h2 =>
      cases i with
      | zero => exact ⟨d, rfl, by simp at e; rw [← e]; exact h1⟩
      | succ i =>
        obtain ⟨d2, e2, k⟩ := dpa_at h2 (i := i) (by simpa using e)
        exact ⟨d2, by simpa using e2, k⟩
theorem dpa_get {K : PySem.W.Frag} {H : Hp} : ∀ {ds : List PyData} {vs : List V} {i : Nat} {d : PyData}, DpAll K H vs ds → ds[i]? = some d → ∃ v, vs[i]? = some v ∧ Dp K H v d
  | [], _, _, _, h, e => by simp at e
  | d :: ds, _, i, v, h, e => by
    cases h with
    | cons h1 h2 =>
      cases i with
      | zero => exact ⟨_, rfl, by simp at e; rw [← e]; exact h1⟩
      | succ i =>
        obtain ⟨v, e2, k⟩ := dpa_get h2 (i := i) (by simpa using e)
        exact ⟨v, by simpa using e2, k⟩
theorem dp_tup {K : PySem.W.Frag} {H : Hp} {v : V} {ds : List PyData} (h : Dp K H v (.tuple ds)) : ∃ T vs, v = .ref T ∧ SqT K H T vs ∧ DpAll K H vs ds := by
  cases h with
  | tup hs ha => exact ⟨_, _, rfl, hs, ha⟩
theorem dp_lst {K : PySem.W.Frag} {H : Hp} {v : V} {ds : List PyData} (h : Dp K H v (.list ds)) : ∃ T vs, v = .ref T ∧ SqL K H T vs ∧ DpAll K H vs ds := by
  cases h with
  | lst hs ha => exact ⟨_, _, rfl, hs, ha⟩
theorem dp_int {K : PySem.W.Frag} {H : Hp} {v : V} {i : Int} (h : Dp K H v (.int i)) : v = .int i := by cases h; rfl
theorem dp_str {K : PySem.W.Frag} {H : Hp} {v : V} {x : Str} (h : Dp K H v (.str x)) : v = .str x := by cases h; rfl
theorem dpa_ints {K : PySem.W.Frag} {H : Hp} : ∀ (zs : List Int), DpAll K H (vI zs) (zs.map .int)
  | [] => .nil
  | z :: zs => .cons (.int z) (dpa_ints zs)
/-! ### a pair as the target of a comprehension -/
theorem pg_tupK {X : Cx} {K : PySem.W.Frag} {pos : Pos} {es : List Expr} {k : Nat} {t : TGs} {n : Nat} (hK : X.K = K) (hc : X.calm = true) (h : PGs X es t) (h1 : (assignEach es X.env).length = n := by rfl)
    (h2 : List.findIdx? (fun x => x.fst) (assignEach es X.env) = none := by rfl) : PG X (Expr.Tuple es k pos) (gTup K n t) := hK ▸ pg_tup hc h h1 h2
theorem Gh.all {K : PySem.W.Frag} {H H' : Hp} {D : Addr} {xs : List V} {ds : List PyData} (g : Gh K H D H' xs ds) : DpAll K H' xs ds := let ⟨_, _, _, b, c⟩ := g.ex; dpa_mono b _ _ c
/-- a new tuple whose data are known -/
theorem Gh.tup {K : PySem.W.Frag} {H H' : Hp} {D p : Addr} {xs : List V} {ds : List PyData} (g : Gh K H D H' xs ds) (n : H' p = none) : DpAll K (upd H' p (.tup xs)) xs ds := let ⟨_, _, _, b, c⟩ := g.ex; dpa_mono (b.trans (same_new (Same.refl _) n)) _ _ c
/-- a static method as it stands in its class -/
theorem smet_of {K : PySem.W.Frag} {C p g : Addr} {m : Str} {r : List Value} (h0 : PySem.W.findIn K (.type "type") m = some none) (h1 : PySem.W.findIn K (.ref C) m = some (some (.ref p))) (h2 : PySem.W.typeIn K (.ref p) = some (.type "staticmethod"))
    (h3 : PySem.W.specialIn K (.ref p) "__get__" = some (some (.builtin "staticmethod.__get__"))) (h4 : PySem.W.recIn K p "staticmethod" = some (.ref g :: r)) (h5 : PySem.W.keepIn K (.ref g) = true) : SMet K C (.type "type") m p g := by
  refine ⟨?_, ⟨r, h4⟩, h5⟩
  unfold PySem.W.findCls
  rw [h0]
  simp only [Option.bind_some]
  rw [h1]
  simp only [Option.bind_some]
  rw [if_neg (by intro h; cases h), h2]
  simp only [Option.bind_some]
  rw [if_neg (by decide +kernel), h3]
  rfl
/-- the call of a static method whose exceptions meet a wish that looks at the slots -/
def tStatS (C : Addr) (sp : Sp) (E : L2.St → XK) (ta : TE) (t : TA) : TE := fun σ H Q => ta σ H fun x H1 => x = .ref C ∧ t σ H1 fun vs H2 => sp vs H2 Q (E σ)
section
variable {X : Cx} {CX : CXT} {n : Nat} {C p g : Addr} {mc : Value} {fd : FuncData} {ps : List Str} {sp : Sp} {E : L2.St → XK} {m : Str} {apos pos : Pos} {o e : Expr} {es : List Expr} {ta : TE} {t : TA}
theorem pe_statS {pl : Sem Bool} (cls : PE X o ta) (r : ClX.CRead X.K C mc) (M : SMet X.K C mc m p g) (F : FnOk X.prog X.w X.K X.mg X.base CX n g fd ps sp) (room : Room n X.A) (hb : L2.Binds X.K fd ps []) (esc : ∀ σ, PassesAt CX X σ (E σ)) (ha : PA X (e :: es) t)
    (hst : starEach (e :: es) X.env = (false, eval e X.env) :: starEach es X.env := by rfl) (hpl : (backTo pos (starEach es X.env)).any (·.1) = false := by rfl)
    (ht : eval (.Call (.Attribute o m apos) (e :: es) [] pos) X.env = (do let y ← eval o X.env; standAt apos.atName; let (g, first) ← holding [y] (getMethod y m pl); callWith pos g first (backTo pos (starEach (e :: es) X.env)) (backToKw pos (keywordEach [] X.env))) := by rfl) :
    PE X (.Call (.Attribute o m apos) (e :: es) [] pos) (tStatS C sp E ta t) := by
  refine ⟨fun pins s σ H Q J h => PySem.W.methodCall_KW (pl := pl) (thn (cls.run pins s σ H _ J h) fun u s1 ⟨y, H1, J1, ru, ey, q⟩ => ?_) ht⟩
  subst ey
  cases ru
  refine getstat_ok J1 r M fun s2 J2 => PySem.W.callWith_K (first := []) (h₀ := X.base) J.ok.mod.kin M.kept (thn (ha.run pos pins s2 σ H1 _ J2 q) fun us s3 ⟨ws, H2, J3, rw', q2⟩ => ⟨J3.kIn, ?_⟩) hst hpl
  exact run_fnS (us := us) (vs := ws) F room hb (esc σ) J3 rw' q2
end

/-! ### data that may be compared: no dict, low codes, not deep -/
def okD : Nat → PyData → Bool
  | _, .none => true
  | _, .bool _ => true
  | _, .int _ => true
  | _, .str s => PyData.strOk s
  | n + 1, .list ds => ds.all (okD n)
  | n + 1, .tuple ds => ds.all (okD n)
  | _, _ => false
theorem okA_all {n : Nat} : ∀ ds : List PyData, (∀ d ∈ ds, d.canLay0 = true ∧ d.depth ≤ n ∧ d.eqv d = true) → PyData.canLayAll0 ds = true ∧ PyData.depthAll ds ≤ n ∧ PyData.eqvAll ds ds = true
  | [], _ => ⟨rfl, Nat.zero_le _, rfl⟩
  | d :: ds, h => by
    obtain ⟨a, b, c⟩ := okA_all ds fun e he => h e (List.mem_cons_of_mem _ he)
    obtain ⟨a1, b1, c1⟩ := h d List.mem_cons_self
    refine ⟨?_, ?_, ?_⟩
    · rw [PyData.canLayAll0, a1, a]; rfl
    · rw [PyData.depthAll]; omega
    · rw [PyData.eqvAll, c1, c]; rfl
theorem okD_all : ∀ (n : Nat) (d : PyData), okD n d = true → d.canLay0 = true ∧ d.depth ≤ n ∧ d.eqv d = true := by
  intro n
  induction n with
  | zero =>
    intro d h
    cases d with
    | none => exact ⟨rfl, Nat.le_refl _, rfl⟩
    | bool b => exact ⟨rfl, Nat.le_refl _, by rw [PyData.eqv]; simp⟩
    | int i => exact ⟨rfl, Nat.le_refl _, by rw [PyData.eqv]; simp⟩
    | str s => exact ⟨by rw [PyData.canLay0]; exact h, Nat.le_refl _, by rw [PyData.eqv]; simp⟩
    | list ds => exact absurd h (by simp [okD])
    | tuple ds => exact absurd h (by simp [okD])
    | dict ds => exact absurd h (by simp [okD])
  | succ n ih =>
    intro d h
    cases d with
    | none => exact ⟨rfl, Nat.zero_le _, rfl⟩
    | bool b => exact ⟨rfl, Nat.zero_le _, by rw [PyData.eqv]; simp⟩
    | int i => exact ⟨rfl, Nat.zero_le _, by rw [PyData.eqv]; simp⟩
    | str s => exact ⟨by rw [PyData.canLay0]; exact h, Nat.zero_le _, by rw [PyData.eqv]; simp⟩
    | list ds =>
      obtain ⟨a, b, c⟩ := okA_all (n := n) ds fun d hd => ih d (List.all_eq_true.mp h d hd)
      exact ⟨by rw [PyData.canLay0]; exact a, by rw [PyData.depth]; omega, by rw [PyData.eqv]; exact c⟩
    | tuple ds =>
      obtain ⟨a, b, c⟩ := okA_all (n := n) ds fun d hd => ih d (List.all_eq_true.mp h d hd)
      exact ⟨by rw [PyData.canLay0]; exact a, by rw [PyData.depth]; omega, by rw [PyData.eqv]; exact c⟩
    | dict ds => exact absurd h (by simp [okD])
theorem ok_shaped {d : PyData} (h : okD 4 d = true) : SeqAt.shaped d = true := by
  obtain ⟨a, b, _⟩ := okD_all 4 d h
  unfold SeqAt.shaped
  rw [a, decide_eq_true (by omega)]
  rfl
theorem ok_eqv {d : PyData} (h : okD 4 d = true) : d.eqv d = true := (okD_all 4 d h).2.2
/-- the same data: nothing is unlike -/
theorem neD_same {K : PySem.W.Frag} {H : Hp} {x y : V} {Q : VK} {d : PyData} (a : Dp K H x d) (b : Dp K H y d) (h : okD 4 d = true) (q : Q (.bl false) H) : rNeD K x y H Q :=
  ⟨d, d, a, b, ok_shaped h, ok_shaped h, by rw [ok_eqv h]; exact q⟩
theorem eqD_same {K : PySem.W.Frag} {H : Hp} {x y : V} {Q : VK} {d : PyData} (a : Dp K H x d) (b : Dp K H y d) (h : okD 4 d = true) (q : Q (.bl true) H) : rEqD K x y H Q :=
  ⟨d, d, a, b, ok_shaped h, ok_shaped h, by rw [ok_eqv h]; exact q⟩
theorem ok_map {α : Type} {n : Nat} {f : α → PyData} (h : ∀ z, okD n (f z) = true) (zs : List α) : okD (n + 1) (.list (zs.map f)) = true ∧ okD (n + 1) (.tuple (zs.map f)) = true := by
  have : (zs.map f).all (okD n) = true := by
    rw [List.all_map, List.all_eq_true]
    exact fun z _ => h z
  exact ⟨this, this⟩
theorem ok_mem {α : Type} {n : Nat} {f : α → PyData} (zs : List α) (h : ∀ z ∈ zs, okD n (f z) = true) : okD (n + 1) (.list (zs.map f)) = true ∧ okD (n + 1) (.tuple (zs.map f)) = true := by
  have : (zs.map f).all (okD n) = true := by
    rw [List.all_map, List.all_eq_true]
    exact fun z hz => h z hz
  exact ⟨this, this⟩
theorem ok_ints (zs : List Int) : okD 4 (.list (zs.map .int)) = true ∧ okD 4 (.tuple (zs.map .int)) = true := ok_map (fun _ => rfl) zs

/-! ### all words of a size, as a list -/
/-- all ways of m steps from height h to height 0 -/
def ways : Nat → Nat → List (List Nat)
  | 0, 0 => [[]]
  | 0, _ + 1 => []
  | m + 1, h => (if h + 1 ≤ m then (ways m (h + 1)).map (List.cons 100) else []) ++ (match h with
    | 0 => []
    | k + 1 => (ways m k).map (List.cons 111))
theorem ways_len : ∀ {m h : Nat}, m < h → ways m h = []
  | 0, 0, e => absurd e (by omega)
  | 0, h + 1, _ => rfl
  | m + 1, h, e => by
    unfold ways
    rw [if_neg (by omega)]
    cases h with
    | zero => omega
    | succ k => simp [ways_len (m := m) (h := k) (by omega)]
theorem in_ways : ∀ (l : List Nat) (h : Nat), (∀ c ∈ l, c = 100 ∨ c = 111) → (∀ k, k ≤ l.length → (l.take k).count 111 ≤ h + (l.take k).count 100) → h + l.count 100 = l.count 111 → l ∈ ways l.length h
  | [], h, _, _, e => by
    have : h = 0 := by simpa using e
    subst this
    exact List.mem_singleton.mpr rfl
  | x :: r, h, al, ah, e => by
    have ar : ∀ c ∈ r, c = 100 ∨ c = 111 := fun c hc => al c (List.mem_cons_of_mem _ hc)
    have tot : r.count 100 + r.count 111 = r.length := by
      clear e ah al
      induction r with
      | nil => rfl
      | cons y s ih =>
        have := ih fun c hc => ar c (List.mem_cons_of_mem _ hc)
        rw [List.count_cons, List.count_cons, List.length_cons]
        rcases ar y List.mem_cons_self with z | z <;> subst z <;> simp <;> omega
    rw [List.length_cons]
    unfold ways
    rw [List.count_cons, List.count_cons] at e
    rcases al x List.mem_cons_self with z | z
    · subst z
      simp at e
      refine List.mem_append.mpr (.inl ?_)
      rw [if_pos (by omega)]
      refine List.mem_map.mpr ⟨r, in_ways r (h + 1) ar (fun k hk => ?_) (by omega), rfl⟩
      have a := ah (k + 1) (by rw [List.length_cons]; omega)
      rw [List.take_succ_cons, List.count_cons, List.count_cons] at a
      simp at a
      omega
    · subst z
      simp at e
      have a1 := ah 1 (by rw [List.length_cons]; omega)
      simp at a1
      obtain ⟨k, rfl⟩ : ∃ k, h = k + 1 := ⟨h - 1, by omega⟩
      refine List.mem_append.mpr (.inr ?_)
      refine List.mem_map.mpr ⟨r, in_ways r k ar (fun j hj => ?_) (by omega), rfl⟩
      have a := ah (j + 1) (by rw [List.length_cons]; omega)
      rw [List.take_succ_cons, List.count_cons, List.count_cons] at a
      simp at a
      omega
/-- all words of the sizes 1 to 6 -/
def allWords : List (List Nat) := ways 2 0 ++ (ways 4 0 ++ (ways 6 0 ++ (ways 8 0 ++ (ways 10 0 ++ ways 12 0))))
theorem Good.all {l : List Nat} {n : Nat} (g : Good l n) (h1 : 1 ≤ n) (h6 : n ≤ 6) : l ∈ allWords := by
  have m : l ∈ ways l.length 0 := in_ways l 0 g.ltr (fun k hk => by have := g.ahead k hk; omega) (by have := ltr_count g.ltr; have := g.len; have := g.cnt; omega)
  rw [g.len] at m
  unfold allWords
  have : n = 1 ∨ n = 2 ∨ n = 3 ∨ n = 4 ∨ n = 5 ∨ n = 6 := by omega
  rcases this with e | e | e | e | e | e <;> subst e <;> simp only [List.mem_append] <;> simp [m]
/-- what a kernel run says of all words -/
theorem Good.by {l : List Nat} {n : Nat} (g : Good l n) (h1 : 1 ≤ n) (h6 : n ≤ 6) (f : List Nat → Bool) (e : allWords.all f = true) : f l = true := List.all_eq_true.mp e l (g.all h1 h6)
/-! ### runs, as the loop of the program finds them, and as the law does -/
def rsStep (l : List Nat) (z : List (List Nat × Nat × Nat) × Nat) (b : Nat) : List (List Nat × Nat × Nat) × Nat :=
  if b = l.length ∨ l[b]? ≠ l[z.2]? then (z.1 ++ [((l[z.2]?).toList, z.2, b - z.2)], b) else z
def rsI (l : List Nat) : Nat → List (List Nat × Nat × Nat) × Nat
  | 0 => ([], 0)
  | i + 1 => rsStep l (rsI l i) (i + 1)
theorem rsI_at (l : List Nat) (i : Nat) : (rsI l i).2 ≤ i := by
  induction i with
  | zero => exact Nat.le_refl _
  | succ i ih =>
    unfold rsI rsStep
    split
    · exact Nat.le_refl _
    · omega
theorem rsI_len (l : List Nat) (i : Nat) : (rsI l i).1.length ≤ i := by
  induction i with
  | zero => exact Nat.le_refl _
  | succ i ih =>
    unfold rsI rsStep
    split
    · rw [List.length_append]
      exact Nat.succ_le_succ ih
    · omega

/-! ### enumerate(text) -/
theorem pyIter_text {prog : Program} {w : World} {A : Around} {E : Value → Shared → Prop} {s : Shared} {x : Str} {t : Tok} {Q : Value → Shared → Prop}
    (h : Q (Value.ref s.heap.objs.size) { s with heap := s.heap.push { cls := Value.type (strIterType x), data := Data.fields #[Value.str x t, Value.int 0 0] } }) : wpAny (model prog w) A (pyIter (Value.str x t)) Q E s := by
  unfold strIterType at h
  cases ha : x.cps.all (· < 128)
  · rw [ha] at h
    exact wpAny_pyIter_wide ha h
  · rw [ha] at h
    exact wpAny_pyIter_ascii ha h
set_option maxHeartbeats 1000000 in
theorem enum_newS (x : Str) (t : Tok) : Meets (PySem.Builtin.«enumerate.__new__» ⟨[.type "enumerate", .str x t], []⟩) (fun _ R s => R (.ok (.ret (.ref (s.heap.push { cls := .type (strIterType x), data := .fields #[.str x t, .int 0 0] }).objs.size))) { s with heap := (s.heap.push { cls := .type (strIterType x), data := .fields #[.str x t, .int 0 0] }).push { cls := .type "enumerate", data := .fields #[.none, .bool false, .ref s.heap.objs.size, rawInt 0, .none, .none] } }) :=
  .of_wp fun prog w A R s post => by
    have hsub := sub_enumerate
    wp_walk using pyIter_text
    refine wpAny_stack_any fun st => wpAny_pure ?_
    split
    · rename_i c _ _ _ _ _
      cases (c == Value.type "enumerate")
      · wp_walk using pyIter_text
        exact ⟨_, rfl, post⟩
      · wp_walk using pyIter_text
        exact ⟨_, rfl, post⟩
    · wp_walk using pyIter_text
      exact ⟨_, rfl, post⟩
theorem call_enumS {prog : Program} {w : World} {A : Around} {E : Value → Shared → Prop} {s : Shared} {x : Str} {t : Tok} {Q : Value → Shared → Prop}
    (h : ∀ h', IsEnum h' (s.heap.objs.size + 1) s.heap.objs.size 0 .none → h'.IsStrIter s.heap.objs.size (strIterType x) x t 0 → (∀ b o, s.heap.get? b = some o → h'.get? b = some o) → Q (.ref (s.heap.objs.size + 1)) { s with heap := h' }) :
    wpAny (model prog w) A (call (.type "enumerate") [.str x t]) Q E s := by
  refine callType_new F.called_enumerate (by decide) (F.typeCall_enumerate_1 _) (F.newCall_enumerate_1 _) (fun obj => F.args_object_init_2 obj _) F.entry_enumerate_new (enum_newS x t) ?_
  have z1 : (s.heap.push { cls := .type (strIterType x), data := .fields #[.str x t, .int 0 0] }).objs.size = s.heap.objs.size + 1 := Heap.size_push ..
  show _ ∧ _
  rw [z1]
  have at2 := Heap.get?_push_size (s.heap.push { cls := .type (strIterType x), data := .fields #[.str x t, .int 0 0] }) (o := { cls := .type "enumerate", data := .fields #[.none, .bool false, .ref s.heap.objs.size, rawInt 0, .none, .none] }) rfl
  rw [z1] at at2
  exact ⟨⟨_, at2, rfl⟩, h _ at2 ⟨_, Heap.get?_push_of_some _ (Heap.get?_push_size _ rfl), rfl, rfl⟩ fun b o y => Heap.get?_push_of_some _ (Heap.get?_push_of_some _ y)⟩
/-- the text's letters, each in a new pair with its place -/
def IteS (x : Str) : It :=
  ⟨fun i _ => i < x.cps.size, fun i H v H' => ∃ T c, v = .ref T ∧ H T = none ∧ x.cps[i]? = some c ∧ H' = L2.upd H T (.tup [.int (i : Nat), .str ⟨#[c]⟩]), fun i _ => i = x.cps.size⟩
theorem turn_enumS {P : Program} {w : World} {K : PySem.W.Frag} {elts : List Expr} {kk : Nat} {tpos : Pos} (x : Str) (t : Tok) (e it : Addr) :
    Turn P w K (.Tuple elts kk tpos) (IteS x) [e, it] e (fun i h => (∃ old, IsEnum h e it ((i : Nat) : Int) old) ∧ h.IsStrIter it (strIterType x) x t i ∧ e ≠ it) where
  mem := by simp
  obj := fun i h ⟨⟨old, he⟩, ⟨o, ho, hc, hd⟩, _⟩ b hb => by
    rcases (show b = e ∨ b = it by simpa using hb) with z | z
    · rw [z]
      exact ⟨_, he, fun v q => nomatch q⟩
    · rw [z]
      exact ⟨o, ho, fun v q => by rw [hd] at q; cases q⟩
  keep := fun i h h' ⟨⟨old, he⟩, ⟨o, ho, r⟩, ne⟩ k => ⟨⟨old, k e (by simp) _ he⟩, ⟨o, k it (by simp) _ ho, r⟩, ne⟩
  item := by
    intro X hP hw hK calm i pins s σ H E I hf ⟨⟨old, he⟩, hit, ne⟩ hi
    subst hP hw hK
    have el := Heap.lt_size he
    have il : it < s.heap.objs.size := by obtain ⟨_, q, _⟩ := hit; exact Heap.lt_size q
    have D := PySem.Draws.text (prog := X.prog) (w := X.w) (A := X.A.in1) (I.ok.hd calm) it x t
    refine wpAny_pyNext_enum_itemD D he hit hi ne (by simp [ne]) fun v h' tk hv ho hit' hT hsz hk => ?_
    obtain ⟨c, u, hc, rfl⟩ := hv
    refine ⟨_, rfl, wpAny_letOwnedTupleGo_enum (s := { s with heap := h', toks := tk + 1 }) ho fun h2 he2 sb => ?_⟩
    have hT2 : h2.get? s.heap.objs.size = some { cls := .type "tuple", data := .seq #[.int i tk, .str ⟨#[c]⟩ u] } := (sb.2 _ (Nat.ne_of_gt el)).trans hT
    have new : ObjOk X.prog X.w (L2.upd H s.heap.objs.size (.tup [.int (i : Nat), .str ⟨#[c]⟩])) h2 s.heap.objs.size (.tup [.int (i : Nat), .str ⟨#[c]⟩]) :=
      ⟨by show 2 ≤ sizeLine; decide, [.int i tk, .str ⟨#[c]⟩ u], .cons ⟨_, rfl⟩ (.cons ⟨_, rfl⟩ .nil), ⟨_, hT2, rfl, _, rfl⟩⟩
    have I1 : L2.Inv X pins σ (L2.upd H s.heap.objs.size (.tup [.int (i : Nat), .str ⟨#[c]⟩])) { s with heap := h2, toks := tk + 1 } :=
      I.turnedNew (ch := [e, it]) (fun b ob hb q => (sb.2 b (fun z => hb (by simp [z]))).trans (hk b ob (fun z => hb (by simp [z])) (fun z => hb (by simp [z])) q)) hf (Nat.le_refl _) new
    refine ⟨.ref s.heap.objs.size, _, I1, rfl, ⟨_, c, rfl, I.hok.fresh (Nat.le_refl _), hc, rfl⟩, ⟨⟨.str ⟨#[c]⟩ u, ?_⟩, ?_, ne⟩, fun b hb => ?_⟩
    · rw [show ((i + 1 : Nat) : Int) = (i : Int) + 1 by omega]
      exact he2
    · obtain ⟨o, q, r⟩ := hit'
      exact ⟨o, (sb.2 it (Ne.symm ne)).trans q, r⟩
    · have lt : b < s.heap.objs.size := by
        rcases (show b = e ∨ b = it by simpa using hb) with z | z
        · exact z ▸ el
        · exact z ▸ il
      exact (upd_ne (Nat.ne_of_lt lt)).trans (hf b hb).1
  done := by
    intro X hP hw hK calm i pins s σ H E I hf ⟨⟨old, he⟩, hit, ne⟩ hx
    subst hP hw hK
    obtain ⟨f0, f1, f2, f3, f4, f5⟩ := hf it (by simp)
    have eT : s.TypeIs (.ref e) "enumerate" := ⟨_, he, rfl⟩
    obtain rfl : i = x.cps.size := hx
    unfold pyNext
    refine wpAny_bind (wpAny_attempt (wpAny_callSpecial?_slot (name := Str.ofString "__next__") eT F.slot_enumerate_next (wpAny_call_entry F.slot_enumerate_next eT F.entry_enumerate_next ?_ (F.args_enumerate_next_1 _))))
    show wpAny _ _ (field (.ref e) 2 >>= _) _ _ _
    refine wpAny_bind (wpAny_field he rfl (x := .ref it) rfl (wpAny_bind ((PySem.Draws.text (prog := X.prog) (w := X.w) (A := X.A.in1) (I.ok.hd calm) it x t).done _ _ _ hit fun h' er eb ⟨o, ho, hc⟩ => ?_)))
    exact wpAny_bind (wpAny_isInstance (T := "StopIteration") (b := true) ⟨o, ho, hc⟩ isSubtype_stop (wpAny_pure ⟨rfl, I.turned (t' := s.toks) (fun b o hb q => eb b o hb q) f0 f1 f3 f4 f5⟩))
  self := fun A i s Q E ⟨⟨_, he⟩, _⟩ h => wpAny_pyIter_enum he h
/-- enumerate(e), e a text -/
def iEnumS (ta : TA) : TI := fun σ H R => ta σ H fun vs H1 => ∃ x : Str, vs = [.str x] ∧ R (IteS x) H1
theorem pi_enumS {X : Cx} {e : Expr} {ta : TA} {p pos tpos : Pos} {elts : List Expr} {kk : Nat} (hg : Gl X "enumerate") (hm : X.mg "enumerate" = none) (ha : PA X [e] ta) (hs : starEach [e] X.env = [(false, eval e X.env)] := by rfl) :
    PI X (.Tuple elts kk tpos) (.Call (.Name "enumerate" p) [e] [] pos) (iEnumS ta) := by
  refine ⟨fun pins s σ H R I h => Call_ (ld_blt I hg hm boot_enumerate (PyProof.Rows.callWith_type1 (thn (ha.run pos pins s σ H _ I h) fun us s1 ⟨vs, H1, I1, r1, x, ex, q⟩ => ?_) hs rfl))⟩
  subst ex
  obtain ⟨u, rfl, ru⟩ := r1.one
  obtain ⟨t, rfl⟩ := ru
  have foot : ∀ b, b ∈ [s1.heap.objs.size + 1, s1.heap.objs.size] → FpOk X pins H1 b := fun b hb => by
    have le : s1.heap.objs.size ≤ b := by
      rcases (show b = s1.heap.objs.size + 1 ∨ b = s1.heap.objs.size by simpa using hb) with z | z
      · exact z ▸ Nat.le_succ _
      · exact z ▸ Nat.le_refl _
    exact I1.fpOk le (I1.hok.fresh le)
  exact call_enumS fun h' he hit hk => wpAny_pyIter_enum he ⟨_, _, _, _, H1, rfl, I1.kept (t' := s1.toks) hk, turn_enumS x t (s1.heap.objs.size + 1) s1.heap.objs.size, ⟨⟨.none, he⟩, hit, Nat.succ_ne_self _⟩, foot, q⟩
theorem walk_enumS {l : List Nat} : Walk (IteS (sOf l)) l.length (fun _ => True) (YPair (fun i => some (.int (i : Nat))) (fun i => (l[i]?).map fun c => V.str (sOf [c]))) := by
  refine ⟨fun i H hi _ => ?_, fun H _ => ?_, fun i H v H' _ _ y => ?_⟩
  · show i < (sOf l).cps.size
    simpa [sOf] using hi
  · show l.length = (sOf l).cps.size
    simp [sOf]
  · obtain ⟨T, c, e1, e2, e3, e4⟩ := y
    have e5 : l[i]? = some c := by simpa [sOf] using e3
    exact ⟨T, .int (i : Nat), .str (sOf [c]), e1, e2, e4, rfl, by
      show Option.map _ l[i]? = _
      rw [e5]
      rfl⟩

/-! ### lists of pairs of whole numbers -/
theorem Room.units65 {k : Nat} {A : Around} (h : Room k A) : A.units + 65 < cLine := by
  have := h.un
  omega
def mD (m : Nat × Nat) : PyData := .tuple [.int (m.1 : Nat), .int (m.2 : Nat)]
def mT (m : Nat × Nat) : HO := .tup [.int (m.1 : Nat), .int (m.2 : Nat)]
/-- xs are tuples that hold the pairs M -/
inductive Prs (H : Hp) : List V → List (Nat × Nat) → Prop where
  | nil : Prs H [] []
  | cons {T : Addr} {m : Nat × Nat} {xs : List V} {M : List (Nat × Nat)} (h : H T = some (mT m)) (r : Prs H xs M) : Prs H (.ref T :: xs) (m :: M)
theorem Prs.mono {H H' : Hp} (s : Same H H') : ∀ {xs M}, Prs H xs M → Prs H' xs M
  | _, _, .nil => .nil
  | _, _, .cons h r => .cons (s _ _ h) (r.mono s)
theorem Prs.len {H : Hp} : ∀ {xs M}, Prs H xs M → xs.length = M.length
  | _, _, .nil => rfl
  | _, _, .cons _ r => congrArg Nat.succ r.len
theorem Prs.snoc {H : Hp} {T : Addr} {m : Nat × Nat} (h : H T = some (mT m)) : ∀ {xs M}, Prs H xs M → Prs H (xs ++ [.ref T]) (M ++ [m])
  | _, _, .nil => .cons h .nil
  | _, _, .cons h2 r => .cons h2 (r.snoc h)
theorem Prs.at {H : Hp} : ∀ {xs M} {i : Nat} {x : V}, Prs H xs M → xs[i]? = some x → ∃ T m, x = .ref T ∧ M[i]? = some m ∧ H T = some (mT m)
  | _, _, _, _, .nil, e => by simp at e
  | _, _, 0, _, .cons (T := T) (m := m) h _, e => ⟨T, m, by simpa using e.symm, rfl, h⟩
  | _, _, i + 1, _, .cons _ r, e => by
    obtain ⟨T, m, a, b, c⟩ := r.at (i := i) (by simpa using e)
    exact ⟨T, m, a, by simpa using b, c⟩
theorem Prs.data {K : PySem.W.Frag} {H : Hp} : ∀ {xs M}, Prs H xs M → DpAll K H xs (M.map mD)
  | _, _, .nil => .nil
  | _, _, .cons h r => .cons (.tup (SqT.of h) (.cons (.int _) (.cons (.int _) .nil))) r.data
theorem Prs.mem {H : Hp} : ∀ {xs M} {x : V}, Prs H xs M → x ∈ xs → ∃ T m, x = .ref T ∧ m ∈ M ∧ H T = some (mT m)
  | _, _, _, .nil, h => by simp at h
  | _, _, x, .cons (T := T) (m := m) h r, hx => by
    rcases List.mem_cons.mp hx with e | e
    · exact ⟨T, m, e, List.mem_cons_self, h⟩
    · obtain ⟨T2, m2, a, b, c⟩ := r.mem e
      exact ⟨T2, m2, a, List.mem_cons_of_mem _ b, c⟩
theorem Prs.keep {H H' : Hp} {D : Addr} {o : HO} (hD : ∀ m, H D ≠ some (mT m)) (b : ∀ c o, c ≠ D → H c = some o → H' c = some o) : ∀ {xs M}, Prs H xs M → Prs H' xs M
  | _, _, .nil => .nil
  | _, _, .cons (T := T) (m := m) h r => .cons (b _ _ (fun z => hD m (by rw [← z]; exact h)) h) (r.keep (o := o) hD b)
theorem Prs.perm {H : Hp} {xs ys : List V} (p : ys.Perm xs) : ∀ {M}, Prs H xs M → ∃ N, Prs H ys N ∧ N.Perm M := by
  induction p with
  | nil =>
    intro M h
    cases h
    exact ⟨[], .nil, .nil⟩
  | cons x p ih =>
    intro M h
    cases h with
    | cons h r =>
      obtain ⟨N, a, b⟩ := ih r
      exact ⟨_ :: N, .cons h a, b.cons _⟩
  | swap x y l =>
    intro M h
    cases h with
    | cons h r =>
      cases r with
      | cons h2 r => exact ⟨_ :: _ :: _, .cons h2 (.cons h r), .swap _ _ _⟩
  | trans p q ih1 ih2 =>
    intro M h
    obtain ⟨N, a, b⟩ := ih2 h
    obtain ⟨N2, a2, b2⟩ := ih1 a
    exact ⟨N2, a2, b2.trans b⟩
/-! `in` by data -/
def rInDT (K : PySem.W.Frag) : R2 := fun x y H Q => ∃ d ds, Dp K H x d ∧ Dp K H y (.tuple ds) ∧ SeqAt.shaped d = true ∧ SeqAt.shaped (.tuple ds) = true ∧ Q (.bl (ds.any fun z => PyData.eqv z d)) H
def rNotInDT (K : PySem.W.Frag) : R2 := fun x y H Q => ∃ d ds, Dp K H x d ∧ Dp K H y (.tuple ds) ∧ SeqAt.shaped d = true ∧ SeqAt.shaped (.tuple ds) = true ∧ Q (.bl (!ds.any fun z => PyData.eqv z d)) H
theorem op_inDT {X : Cx} {K : PySem.W.Frag} (hK : X.K = K) (hu : X.A.units + 65 < cLine) : OpR X (compareOp .In) (rInDT K) := by
  subst hK
  rintro pins s σ H x y v u Q I rx ry ⟨d, ds, hd, he, sd, se, q⟩
  obtain ⟨as, r1⟩ := Dp.reads I d x v hd rx
  obtain ⟨bs, r2⟩ := Dp.reads I (.tuple ds) y u he ry
  exact SeqAt.in_tuple_reads r2 r1 (SeqAt.canLay_of_shaped se) (SeqAt.canLay_of_shaped sd) (PyProof.Rows.room_in_shaped sd hu) ⟨.bl _, H, I, rfl, q⟩
theorem op_notInDT {X : Cx} {K : PySem.W.Frag} (hK : X.K = K) (hu : X.A.units + 65 < cLine) : OpR X (compareOp .NotIn) (rNotInDT K) := by
  subst hK
  rintro pins s σ H x y v u Q I rx ry ⟨d, ds, hd, he, sd, se, q⟩
  obtain ⟨as, r1⟩ := Dp.reads I d x v hd rx
  obtain ⟨bs, r2⟩ := Dp.reads I (.tuple ds) y u he ry
  exact SeqAt.notIn_tuple_reads r2 r1 (SeqAt.canLay_of_shaped se) (SeqAt.canLay_of_shaped sd) (PyProof.Rows.room_in_shaped sd hu) ⟨.bl _, H, I, rfl, q⟩
theorem op_inDK {X : Cx} {K : PySem.W.Frag} (hK : X.K = K) (hu : X.A.units + 65 < cLine) : OpR X (compareOp .In) (rInD K) := by
  subst hK
  exact op_inD hu
theorem op_notInDK {X : Cx} {K : PySem.W.Frag} (hK : X.K = K) (hu : X.A.units + 65 < cLine) : OpR X (compareOp .NotIn) (rNotInD K) := by
  subst hK
  exact op_notInD hu
theorem mD_eqv (a b : Nat × Nat) : PyData.eqv (mD a) (mD b) = decide (a = b) := by
  obtain ⟨a1, a2⟩ := a
  obtain ⟨b1, b2⟩ := b
  unfold mD
  rw [PyData.eqv, PyData.eqvAll, PyData.eqvAll, PyData.eqvAll, PyData.eqv, PyData.eqv]
  by_cases h1 : a1 = b1 <;> by_cases h2 : a2 = b2 <;> simp [h1, h2]
  all_goals omega
theorem any_mD (M : List (Nat × Nat)) (m : Nat × Nat) : ((M.map mD).any fun z => PyData.eqv z (mD m)) = decide (m ∈ M) := by
  rw [List.any_map]
  by_cases h : m ∈ M
  · rw [decide_eq_true h, List.any_eq_true]
    exact ⟨m, h, by show PyData.eqv _ _ = true; rw [mD_eqv]; simp⟩
  · rw [decide_eq_false h, List.any_eq_false]
    intro x hx z
    have z2 : PyData.eqv (mD x) (mD m) = true := z
    rw [mD_eqv] at z2
    exact h (by rw [← of_decide_eq_true z2]; exact hx)
theorem ok_mD (n : Nat) (m : Nat × Nat) : okD (n + 1) (mD m) = true := by
  unfold mD
  cases n <;> rfl
theorem ok_mDs (M : List (Nat × Nat)) : okD 4 (.list (M.map mD)) = true ∧ okD 4 (.tuple (M.map mD)) = true := ok_map (fun z => ok_mD 2 z) M
theorem shaped_mD (m : Nat × Nat) : SeqAt.shaped (mD m) = true := ok_shaped (ok_mD 3 m)
/-- a pair among the pairs -/
theorem inP {K : PySem.W.Frag} {H : Hp} {x : V} {p : Addr} {xs : List V} {M : List (Nat × Nat)} {m : Nat × Nat} {Q : VK} (hx : Dp K H x (mD m)) (hp : H p = some (.tup xs)) (hM : Prs H xs M) (q : Q (.bl (decide (m ∈ M))) H) : rInDT K x (.ref p) H Q :=
  ⟨_, _, hx, .tup (SqT.of hp) hM.data, shaped_mD m, ok_shaped (ok_mDs M).2, by rw [any_mD]; exact q⟩
theorem notInP {K : PySem.W.Frag} {H : Hp} {x : V} {p : Addr} {xs : List V} {M : List (Nat × Nat)} {m : Nat × Nat} {Q : VK} (hx : Dp K H x (mD m)) (hp : H p = some (.tup xs)) (hM : Prs H xs M) (q : Q (.bl (!decide (m ∈ M))) H) : rNotInDT K x (.ref p) H Q :=
  ⟨_, _, hx, .tup (SqT.of hp) hM.data, shaped_mD m, ok_shaped (ok_mDs M).2, by rw [any_mD]; exact q⟩
theorem inL {K : PySem.W.Frag} {H : Hp} {x : V} {p : Addr} {xs : List V} {M : List (Nat × Nat)} {m : Nat × Nat} {Q : VK} (hx : Dp K H x (mD m)) (hp : H p = some (.lst xs)) (hM : Prs H xs M) (q : Q (.bl (decide (m ∈ M))) H) : rInD K x (.ref p) H Q :=
  ⟨_, _, hx, .lst (SqL.of hp) hM.data, shaped_mD m, ok_shaped (ok_mDs M).1, by rw [any_mD]; exact q⟩
theorem notInL {K : PySem.W.Frag} {H : Hp} {x : V} {p : Addr} {xs : List V} {M : List (Nat × Nat)} {m : Nat × Nat} {Q : VK} (hx : Dp K H x (mD m)) (hp : H p = some (.lst xs)) (hM : Prs H xs M) (q : Q (.bl (!decide (m ∈ M))) H) : rNotInD K x (.ref p) H Q :=
  ⟨_, _, hx, .lst (SqL.of hp) hM.data, shaped_mD m, ok_shaped (ok_mDs M).1, by rw [any_mD]; exact q⟩

/-! ### isinstance of a caught error that has a dict -/
theorem chk_ga {prog : Program} {w : World} {A : Around} {E : Value → Shared → Prop} {s : Shared} {x : Addr} {nm : Str} {t : Tok} {Q : Unit → Shared → Prop} (sub : PySem.W.Looks (model prog w) s.heap (isInstance (Value.ref x) (Value.type "BaseException")) true) (h : Q () s) :
    wpAny (model prog w) A (checkBuiltinCall "BaseException.__getattribute__" { pos := [Value.ref x, Value.str nm t] }) Q E s :=
  @PySem.W.check_slot (model prog w) A E s "BaseException.__getattribute__" "BaseException" "__getattribute__" (Value.ref x) [Value.str nm t] [] Q PySem.W.kin_classE._proof_2 PySem.W.kin_classE._proof_3 sub (F.args_bexc_ga (Value.ref x) (Value.str nm t)) h
set_option maxHeartbeats 400000 in
theorem kin_classX {prog : Program} {w : World} {A : Around} {E : Value → Shared → Prop} {s : Shared} {K : PySem.W.Frag} {x D : Addr} {ox o : Obj} {Q : Option Value → Shared → Prop} (C : ExcC K D) (X : K.In s.heap) (I : PySem.W.InstAt s.heap x ox D (some o))
    (h : Q (some (Value.ref D)) { s with toks := s.toks + 1 }) : wpAny (model prog w) A (getAttr? (Value.ref x) (Str.ofString "__class__")) Q E s := by
  have hf := PySem.W.findObj_data (K := K) (C := D) (od := o) (name := Str.ofString "__class__") (by obtain ⟨cd, hc, _⟩ := PySem.W.any_some C.hd; rw [hc]; rfl) C.ha C.hn C.ht
  obtain ⟨hp, g, d, t, os⟩ := s
  have L0 := PySem.W.InstAt.type (M := model prog w) I
  have L1 := PySem.W.looks_findIn (M := model prog w) X C.hg
  have L2 := PySem.W.looks_findIn (M := model prog w) X C.hk
  have L3 := PySem.W.looks_find (M := model prog w) X I hf
  have sub : PySem.W.Looks (model prog w) hp (isInstance (Value.ref x) (Value.type "BaseException")) true := PySem.W.Looks.andThen L0 (PySem.W.looks_subIn X C.hs)
  unfold getAttr?
  refine wpAny_bind (wpAny_mkText ?_)
  unfold getAttrBy?
  refine wpAny_bind (wpAny_attempt (wpAny_holding ?_))
  refine wpAny_bind (PySem.W.Looks.at L0 (wpAny_bind (PySem.W.Looks.at L1 ?_)))
  have hx2 : (Value.builtin "BaseException.__getattribute__" == Value.builtin "object.__getattribute__") = false := by decide
  have hx1 : (onTheHeap (Value.ref D) && (Value.builtin "BaseException.__getattribute__" == Value.builtin "object.__getattribute__")) = false := by rw [hx2]; rfl
  dsimp only
  rw [hx1, if_neg Bool.false_ne_true]
  unfold getAttrByItsOwn
  refine wpAny_bind ?_
  unfold hookBefore
  rw [if_pos (show onTheHeap (Value.ref D) = true from rfl)]
  refine PySem.W.Looks.at L2 (wpAny_bind (wpAny_attempt (wpAny_holding ?_)))
  unfold callGetattribute
  rw [if_neg (show ¬ (false && onTheHeap (Value.builtin "BaseException.__getattribute__")) = true from Bool.false_ne_true)]
  unfold boundAndCalled
  rw [F.excAttr_ValueError.ga.bind (Value.ref x)]
  refine wpAny_bind (wpAny_pure ?_)
  show wpAny (model prog w) A (call (Value.builtin "BaseException.__getattribute__") [Value.ref x, Value.str (Str.ofString "__class__") t]) _ _ _
  refine wpAny_call (codeAny_call_builtin F.excAttr_ValueError.ga.plain F.entry_bexc_ga ?_)
  refine chk_ga sub ?_
  unfold Builtin.«object.__getattribute__»
  refine wpAny_bind (m := slotArgs "__getattribute__" 1 { pos := [Value.ref x, Value.str (Str.ofString "__class__") t] }) (wpAny_of_eq (a := (Value.ref x, [Value.str (Str.ofString "__class__") t])) (by kernel_rfl!) ?_)
  dsimp only
  refine wpAny_bind (m := Builtin.ObjectAttr.attrName (Value.str (Str.ofString "__class__") t)) (wpAny_of_eq (a := Str.ofString "__class__") (by rfl) ?_)
  refine wpAny_bind (PySem.W.Looks.at L0 (wpAny_bind (PySem.W.Looks.at L3 ?_)))
  dsimp only
  unfold Builtin.ObjectAttr.bindTo
  refine wpAny_bind ?_
  refine wpAny_holding (wpAny_call (PySem.W.class_get X I C.hm ?_))
  refine wpAny_pure ?_
  show wpAny (model prog w) A (handedOut (Value.ref D)) _ _ _
  rw [PySem.W.handedOut_of (v := Value.ref D) rfl]
  exact wpAny_pure (wpAny_pure h)
theorem cls_lookup {K : PySem.W.Frag} {D : Addr} (hd : PySem.W.hasDictIn K D = true) : ∃ cls dict cd slots, K.lookup D = some ⟨cls, dict, .cls cd, slots⟩ := by
  obtain ⟨cd, hc, _⟩ := PySem.W.any_some hd
  unfold PySem.W.clsIn at hc
  split at hc
  · rename_i c d cd2 sl he
    exact ⟨c, d, cd2, sl, he⟩
  · cases hc
theorem kitx_excX {K : PySem.W.Frag} {x D : Addr} {ox o : Obj} (C : ExcC K D) : PySem.W.KitX K (Value.ref x) (Value.ref D) (fun h => PySem.W.InstAt h x ox D (some o)) := by
  obtain ⟨cls, dict, cd, slots, he⟩ := cls_lookup C.hd
  refine ⟨fun M h X I => PySem.W.InstAt.type I, fun M h X I => ?_, fun h tp dd its n sl X htp => ?_, fun X I q => kin_classX C X I q⟩
  · intro A' Q' E' s' k q
    show wpAny M A' (loadPart _ _ >>= _) _ _ _
    exact wpAny_bind (wpAny_loadPart (k D _ (X D _ he)) (wpAny_pure q))
  · refine Bool.eq_false_iff.mpr fun q => ?_
    have e := Value.ref.inj (beq_iff_eq.mp q)
    subst e
    have z := (X D _ he).symm.trans htp
    cases z
/-- isinstance(e, C), e caught, its attributes in a dict -/
def rIsX (K : PySem.W.Frag) (a : Addr) (cls : Value) (d : Option Addr) : List V → Hp → VK → Prop := fun xs H Q => ∃ (c : V) (u : Value) (D dd : Addr) (fs : List (Str × V)) (b : Bool), xs = [.ref a, c] ∧ ClsV c u ∧ cls = .ref D ∧ ExcC K D ∧ d = some dd ∧ H dd = some (.xd fs) ∧
  PySem.W.kitOne K (.ref D) u = some b ∧ Q (.bl b) H
theorem xd_some {P : Program} {w : World} {H : Hp} {h : Heap} {d : Addr} {fs : List (Str × V)} (z : ObjOk P w H h d (.xd fs)) : ∃ o, h.get? d = some o := by
  unfold ObjOk at z
  obtain ⟨mA, hn, _⟩ := z
  obtain ⟨o, _, _, ho, _⟩ := hn
  exact ⟨o, ho⟩
theorem call_isX {X : Cx} {K : PySem.W.Frag} {a : Addr} {cls : Value} {d : Option Addr} {oe : Obj} {pn : List (Addr × Obj)} (hK : X.K = K) (hz : Zc cls d oe) (hf : ∃ vs, oe.data = Data.fields vs) :
    CallR (X.suite a ((a, oe) :: pn)) (.builtin "isinstance") (rIsX K a cls d) := by
  subst hK
  intro pins s σ H xs us Q I r h
  obtain ⟨c, u, D, dd, fs, b, rfl, cv, rfl, C, rfl, ed, kb, q⟩ := h
  cases r with
  | cons rx rr =>
    cases rr with
    | cons rt r2 =>
      cases r2
      cases rx
      rename_i cu
      obtain rfl : cu = u := by
        cases cv with
        | ty n => first | exact rt | exact rt.symm
        | own c => first | exact rt | exact rt.symm
      obtain ⟨hget, _⟩ := I.pin (a, oe) (List.mem_append.mpr (.inl List.mem_cons_self))
      obtain ⟨o, ho⟩ := xd_some (I.hok dd _ ed)
      obtain ⟨vs, hv⟩ := hf
      have J : PySem.W.InstAt s.heap a oe D (some o) := by
        obtain ⟨oc, od, oda, osl⟩ := oe
        obtain ⟨h1, h2⟩ := hz
        cases h1
        cases h2
        cases hv
        exact ⟨hget, rfl, rfl, ho⟩
      exact PySem.W.kia_one (kitx_excX C) I.kIn J kb (fun z => nomatch z) fun tk => ⟨.bl b, H, I.kept (t' := tk) fun _ _ z => z, rfl, q⟩

/-! ### a def (or method) with defaults -/
structure FunV (K : PySem.W.Frag) (x qual : Str) (st : Stmt) (f : Addr) (fd : FuncData) : Prop where
  ex : ∃ (oc : Value) (od : Option Addr) (dV kV doc pm : Value) (an : Option Addr) (cdv ct : Value) (osl : Array (Option Value)),
    fd = PySem.W.fnOf x qual (defArgs st) (defBody st) (defScope st) dV kV doc pm an cdv ct ∧ K.lookup f = some ⟨oc, od, .func fd, osl⟩ ∧ PySem.W.codeIn K cdv qual = true
  kp : PySem.W.keepIn K (.ref f) = true
section
variable {P : Program} {w : World} {K : PySem.W.Frag} {mg : Str → Option Value} {base : Heap}
theorem FunV.ok {x qual : Str} {st : Stmt} {f : Addr} {fd : FuncData} {N ps : List Str} {k : Nat} {sp : Sp} (F : FunV K x qual st f fd) (S : FnScope N ps (defScope st)) (len : ∀ vs H Q E, sp vs H Q E → vs.length = ps.length)
    (hbody : ∀ (cdv : Value) (A : Around) (outer : List Env) (s : Shared) (H : Hp) (vs : List V) (Q : VK) (E : XK), Room k (A.deeper (envOfC qual (defScope st) s.heap.objs.size f cdv)) → sp vs H Q E →
      ∃ t, PSs (cxOf CX0 P w K mg base N qual (defScope st) f cdv A outer s H E).nox (defBody st) t ∧ t { nx := fun _ H' => Q .non H', rt := Q } (start N vs) H) : FnOk P w K mg base CX0 (k + 1) f fd ps sp := by
  obtain ⟨oc, od, dV, kV, doc, pm, an, cdv, ct, osl, rfl, lk, hcd⟩ := F.ex
  refine fn_of lk hcd S len fun A outer s H vs Q E hr hsp => ?_
  obtain ⟨t, h, q⟩ := hbody cdv A outer s H vs Q E hr hsp
  exact ⟨t, h.nox, q⟩
theorem FunV.okX {x qual : Str} {st : Stmt} {f : Addr} {fd : FuncData} {N ps : List Str} {k : Nat} {sp : Sp} (F : FunV K x qual st f fd) (S : FnScope N ps (defScope st)) (len : ∀ vs H Q E, sp vs H Q E → vs.length = ps.length)
    (hbody : ∀ (cdv : Value) (A : Around) (outer : List Env) (s : Shared) (H : Hp) (vs : List V) (Q : VK) (E : XK), Room k (A.deeper (envOfC qual (defScope st) s.heap.objs.size f cdv)) → sp vs H Q E →
      ∃ t, PSs (cxOf (L2.CX P w) P w K mg base N qual (defScope st) f cdv A outer s H E) (defBody st) t ∧ t { nx := fun _ H' => Q .non H', rt := Q } (start N vs) H) : FnOk P w K mg base (L2.CX P w) (k + 1) f fd ps sp := by
  obtain ⟨oc, od, dV, kV, doc, pm, an, cdv, ct, osl, rfl, lk, hcd⟩ := F.ex
  exact fn_of lk hcd S len fun A outer s H vs Q E hr hsp => hbody cdv A outer s H vs Q E hr hsp
theorem funV_mk {x qual : Str} {st : Stmt} {f : Addr} {oc : Value} {od an : Option Addr} {osl : Array (Option Value)} {dV kV doc pm cdv ct : Value} (l : K.lookup f = some ⟨oc, od, .func (PySem.W.fnOf x qual (defArgs st) (defBody st) (defScope st) dV kV doc pm an cdv ct), osl⟩)
    (c : PySem.W.codeIn K cdv qual = true) (k : PySem.W.keepIn K (.ref f) = true) : FunV K x qual st f (PySem.W.fnOf x qual (defArgs st) (defBody st) (defScope st) dV kV doc pm an cdv ct) := ⟨⟨oc, od, dV, kV, doc, pm, an, cdv, ct, osl, rfl, l, c⟩, k⟩
/-- every parameter is given; the defaults are the items of a tuple that is not needed -/
theorem bindsD {fd : FuncData} {ps : List Str} {T : Addr} {o : Obj} {its : Array Value} {n : Nat} (lT : K.lookup T = some o) (oT : o.data = .seq its n)
    (h : ∀ us : List Value, us.length = ps.length → ∃ k, bindArgs fd ⟨us, []⟩ = seqItems? (.ref T) >>= k ∧ k (some its) = pure (ps.zip us)) : Binds K fd ps [] := fun s us X hl => by
  rw [List.append_nil] at hl ⊢
  obtain ⟨k, e1, e2⟩ := h us hl
  refine BindsTo.of_looks fun M => ?_
  rw [e1]
  exact looks_items X lT oT (.of_pure e2)
end
/-- a method with defaults as it stands -/
structure MetAtD (K : PySem.W.Frag) (x qual : Str) (st : Stmt) (ps : List Str) (f : Addr) (fd : FuncData) : Prop where
  F : FunV K x qual st f fd
  b : Binds K fd ps []
/-- a method with keyword-only defaults as it stands -/
structure MetAtK (K : PySem.W.Frag) (x qual : Str) (st : Stmt) (kws : List (Str × V)) (f : Addr) (fd : FuncData) : Prop where
  F : L2.FunD K x qual (defArgs st) (defBody st) (defScope st) [] kws f fd
theorem funK_mk {K : PySem.W.Frag} {x qual : Str} {st : Stmt} {kws : List (Str × V)} {f D : Addr} {oc : Value} {od an : Option Addr} {osl : Array (Option Value)} {doc pm cdv ct : Value} (l : K.lookup f = some ⟨oc, od, .func (PySem.W.fnOf x qual (defArgs st) (defBody st) (defScope st) .none (.ref D) doc pm an cdv ct), osl⟩)
    (c : PySem.W.codeIn K cdv qual = true) (k : PySem.W.keepIn K (.ref f) = true) (h : ∀ q ∈ kws, ∃ u, PySem.W.nsIn K D q.1 = some (some u) ∧ RelV q.2 u) : MetAtK K x qual st kws f (PySem.W.fnOf x qual (defArgs st) (defBody st) (defScope st) .none (.ref D) doc pm an cdv ct) :=
  ⟨⟨⟨oc, od, .none, .ref D, doc, pm, an, cdv, ct, osl, rfl, l, c, .inl ⟨rfl, rfl⟩, .inr ⟨D, rfl, h⟩⟩, k⟩⟩
theorem kw_nil {K : PySem.W.Frag} {D : Addr} : ∀ q ∈ ([] : List (Str × V)), ∃ u, PySem.W.nsIn K D q.1 = some (some u) ∧ RelV q.2 u := fun _ h => nomatch h
theorem kw_cons {K : PySem.W.Frag} {D : Addr} {x : Str} {i : Int} {t : Tok} {r : List (Str × V)} (h : PySem.W.nsIn K D x = some (some (.int i t))) (hr : ∀ q ∈ r, ∃ u, PySem.W.nsIn K D q.1 = some (some u) ∧ RelV q.2 u) :
    ∀ q ∈ (x, V.int i) :: r, ∃ u, PySem.W.nsIn K D q.1 = some (some u) ∧ RelV q.2 u := fun q hq => by
  rcases List.mem_cons.mp hq with e | hq
  · subst e
    exact ⟨_, h, ⟨t, rfl⟩⟩
  · exact hr q hq

local macro_rules | `(tactic| walk_at "num") => `(tactic| first
  | omega
  | (with_reducible exact True.intro)
  | (show (0 : Int) < _; omega)
  | (refine cmul_r ?_; omega)
  | (refine cmul_l ?_; omega)
  | (refine cdiv ?_ ?_ <;> omega)
  | (refine cpow ?_ ?_ ?_ <;> decide)
  | (simp only [List.length_cons, List.length_nil, List.length_append, List.length_take, List.length_drop, List.length_map]; omega))
local macro_rules | `(tactic| walk_at "look") => `(tactic| first
  | assumption
  | exact upd_same
  | (rw [upd_ne (by assumption)]; assumption)
  | (rw [upd_ne (by first | assumption | (apply Ne.symm; assumption))]; first | assumption | exact upd_same))
local macro_rules | `(tactic| walk_at "go") => `(tactic| repeat (first
  | (refine ⟨_, rfl, ?_⟩)
  | (refine ⟨_, _, rfl, rfl, ?_⟩)
  | (refine ⟨_, _, _, _, rfl, rfl, SqL.of (by walk_at "look"), rfl, ?_⟩)
  | (refine ⟨_, _, _, _, rfl, rfl, by walk_at "look", rfl, ?_⟩)
  | (refine ⟨_, _, rfl, .inl (SqL.of (by walk_at "look")), ?_⟩)
  | (refine ⟨rfl, _, rfl, ?_⟩)
  | (refine ⟨_, _, _, _, _, rfl, by walk_at "look", by assumption, by assumption, rfl, ?_⟩)
  | (refine And.intro (Or.inl ⟨rfl, _, SqL.of (by walk_at "look")⟩) ?_)
  | (refine And.intro ⟨_, rfl⟩ ?_)
  | (refine Or.inl ⟨_, rfl, ?_⟩)
  | (refine And.intro (by walk_at "num") ?_)))
def topS (i : Nat) : Stmt := PySem.Challenge.pw_slitstairs_k01_words_and_columns_made_an.main.body.getD i (.Pass ⟨0, 0, 0, 0⟩)
abbrev s_is_number : Stmt := topS 6
abbrev N_is_number : List Str := ["thing"]
abbrev P_is_number : List Str := ["thing"]
theorem sc_is_number : FnScope N_is_number P_is_number (defScope s_is_number) := ⟨rfl, rfl, rfl, by decide +kernel, rfl, by decide +kernel, by decide +kernel⟩
abbrev s_is_whole : Stmt := topS 7
abbrev N_is_whole : List Str := ["thing", "low", "high"]
abbrev P_is_whole : List Str := ["thing", "low", "high"]
theorem sc_is_whole : FnScope N_is_whole P_is_whole (defScope s_is_whole) := ⟨rfl, rfl, rfl, by decide +kernel, rfl, by decide +kernel, by decide +kernel⟩
abbrev s_word_fault : Stmt := topS 8
abbrev N_word_fault : List Str := ["thing", "boundary", "ahead", "letter"]
abbrev P_word_fault : List Str := ["thing"]
theorem sc_word_fault : FnScope N_word_fault P_word_fault (defScope s_word_fault) := ⟨rfl, rfl, rfl, by decide +kernel, rfl, by decide +kernel, by decide +kernel⟩
abbrev s_l_mix : Stmt := topS 11
abbrev N_l_mix : List Str := ["_law_number", "_law_turn", "_law_once", "_law_twice"]
abbrev P_l_mix : List Str := ["_law_number", "_law_turn"]
theorem sc_l_mix : FnScope N_l_mix P_l_mix (defScope s_l_mix) := ⟨rfl, rfl, rfl, by decide +kernel, rfl, by decide +kernel, by decide +kernel⟩
abbrev s_l_hand : Stmt := topS 12
abbrev N_l_hand : List Str := ["_law_script", "_law_total", "_law_k", "_law_cell"]
abbrev P_l_hand : List Str := ["_law_script"]
theorem sc_l_hand : FnScope N_l_hand P_l_hand (defScope s_l_hand) := ⟨rfl, rfl, rfl, by decide +kernel, rfl, by decide +kernel, by decide +kernel⟩
abbrev s_l_draw : Stmt := topS 13
abbrev N_l_draw : List Str := ["_law_hand_here", "_law_many", "_law_cell", "_law_rest"]
abbrev P_l_draw : List Str := ["_law_hand_here", "_law_many"]
theorem sc_l_draw : FnScope N_l_draw P_l_draw (defScope s_l_draw) := ⟨rfl, rfl, rfl, by decide +kernel, rfl, by decide +kernel, by decide +kernel⟩
abbrev s_l_word : Stmt := topS 14
abbrev N_l_word : List Str := ["_law_hand_here", "_law_size", "_law_word_here", "_law_height", "_law_t", "_law_may_out", "_law_may_down"]
abbrev P_l_word : List Str := ["_law_hand_here", "_law_size"]
theorem sc_l_word : FnScope N_l_word P_l_word (defScope s_l_word) := ⟨rfl, rfl, rfl, by decide +kernel, rfl, by decide +kernel, by decide +kernel⟩
abbrev s_l_due : Stmt := topS 15
abbrev N_l_due : List Str := ["_law_thing", "_law_height", "_law_downs", "_law_low", "_law_letter"]
abbrev P_l_due : List Str := ["_law_thing"]
theorem sc_l_due : FnScope N_l_due P_l_due (defScope s_l_due) := ⟨rfl, rfl, rfl, by decide +kernel, rfl, by decide +kernel, by decide +kernel⟩
abbrev s_l_spoilt : Stmt := topS 16
abbrev N_l_spoilt : List Str := ["_law_hand_here", "_law_word_here", "_law_at", "_law_sign", "_law_kind"]
abbrev P_l_spoilt : List Str := ["_law_hand_here", "_law_word_here"]
theorem sc_l_spoilt : FnScope N_l_spoilt P_l_spoilt (defScope s_l_spoilt) := ⟨rfl, rfl, rfl, by decide +kernel, rfl, by decide +kernel, by decide +kernel⟩
abbrev s_l_made : Stmt := topS 17
abbrev N_l_made : List Str := ["_law_thing", "_law_made_here", "e"]
abbrev P_l_made : List Str := ["_law_thing"]
theorem sc_l_made : FnScope N_l_made P_l_made (defScope s_l_made) := ⟨rfl, rfl, rfl, by decide +kernel, rfl, by decide +kernel, by decide +kernel⟩
abbrev s_law : Stmt := topS 18
abbrev N_law : List Str := ["_law_script", "_law_hand_here", "_law_word_here", "_law_other", "_law_column", "_law_second", "_law_sizes", "_law_k", "_law_thing", "_law_due_here", "_law_what", "e", "_law_far", "_law_number", "_law_low", "_law_high", "_law_x"]
abbrev P_law : List Str := ["_law_script"]
theorem sc_law : FnScope N_law P_law (defScope s_law) := ⟨rfl, rfl, rfl, by decide +kernel, rfl, by decide +kernel, by decide +kernel⟩
abbrev s_BadColumn___init__ : Stmt := inClass (topS 3) 0
abbrev N_BadColumn___init__ : List Str := ["self", "what"]
abbrev P_BadColumn___init__ : List Str := ["self", "what"]
theorem sc_BadColumn___init__ : FnScope N_BadColumn___init__ P_BadColumn___init__ (defScope s_BadColumn___init__) := ⟨rfl, rfl, rfl, by decide +kernel, rfl, by decide +kernel, by decide +kernel⟩
abbrev s_Column___init__ : Stmt := inClass (topS 9) 0
abbrev N_Column___init__ : List Str := ["self", "word", "fault"]
abbrev P_Column___init__ : List Str := ["self", "word"]
theorem sc_Column___init__ : FnScope N_Column___init__ P_Column___init__ (defScope s_Column___init__) := ⟨rfl, rfl, rfl, by decide +kernel, rfl, by decide +kernel, by decide +kernel⟩
abbrev s_Column___eq__ : Stmt := inClass (topS 9) 12
abbrev N_Column___eq__ : List Str := ["self", "other"]
abbrev P_Column___eq__ : List Str := ["self", "other"]
theorem sc_Column___eq__ : FnScope N_Column___eq__ P_Column___eq__ (defScope s_Column___eq__) := ⟨rfl, rfl, rfl, by decide +kernel, rfl, by decide +kernel, by decide +kernel⟩
abbrev s_Column___str__ : Stmt := inClass (topS 9) 13
abbrev N_Column___str__ : List Str := ["self"]
abbrev P_Column___str__ : List Str := ["self"]
theorem sc_Column___str__ : FnScope N_Column___str__ P_Column___str__ (defScope s_Column___str__) := ⟨rfl, rfl, rfl, by decide +kernel, rfl, by decide +kernel, by decide +kernel⟩
abbrev s_Column___len__ : Stmt := inClass (topS 9) 14
abbrev N_Column___len__ : List Str := ["self"]
abbrev P_Column___len__ : List Str := ["self"]
theorem sc_Column___len__ : FnScope N_Column___len__ P_Column___len__ (defScope s_Column___len__) := ⟨rfl, rfl, rfl, by decide +kernel, rfl, by decide +kernel, by decide +kernel⟩
abbrev s_Column___iter__ : Stmt := inClass (topS 9) 15
abbrev N_Column___iter__ : List Str := ["self"]
abbrev P_Column___iter__ : List Str := ["self"]
theorem sc_Column___iter__ : FnScope N_Column___iter__ P_Column___iter__ (defScope s_Column___iter__) := ⟨rfl, rfl, rfl, by decide +kernel, rfl, by decide +kernel, by decide +kernel⟩
structure Ads where
  f_is_number : Addr
  d_is_number : FuncData
  f_is_whole : Addr
  d_is_whole : FuncData
  f_word_fault : Addr
  d_word_fault : FuncData
  f_l_mix : Addr
  d_l_mix : FuncData
  f_l_hand : Addr
  d_l_hand : FuncData
  f_l_draw : Addr
  d_l_draw : FuncData
  f_l_word : Addr
  d_l_word : FuncData
  f_l_due : Addr
  d_l_due : FuncData
  f_l_spoilt : Addr
  d_l_spoilt : FuncData
  f_l_made : Addr
  d_l_made : FuncData
  f_law : Addr
  d_law : FuncData
  f_BadColumn___init__ : Addr
  d_BadColumn___init__ : FuncData
  f_Column___init__ : Addr
  d_Column___init__ : FuncData
  f_Column___eq__ : Addr
  d_Column___eq__ : FuncData
  f_Column___str__ : Addr
  d_Column___str__ : FuncData
  f_Column___len__ : Addr
  d_Column___len__ : FuncData
  f_Column___iter__ : Addr
  d_Column___iter__ : FuncData
  C_CardError : Addr
  C_BadColumn : Addr
  C_Column : Addr
structure Top (K : PySem.W.Frag) (mg : Str → Option Value) (A : Ads) : Prop where
  D_is_number : DefAt K mg "is_number" s_is_number P_is_number A.f_is_number A.d_is_number
  D_is_whole : DefAt K mg "is_whole" s_is_whole P_is_whole A.f_is_whole A.d_is_whole
  D_word_fault : DefAt K mg "word_fault" s_word_fault P_word_fault A.f_word_fault A.d_word_fault
  D_l_mix : DefAt K mg "_law_mix" s_l_mix P_l_mix A.f_l_mix A.d_l_mix
  D_l_hand : DefAt K mg "_law_hand" s_l_hand P_l_hand A.f_l_hand A.d_l_hand
  D_l_draw : DefAt K mg "_law_draw" s_l_draw P_l_draw A.f_l_draw A.d_l_draw
  D_l_word : DefAt K mg "_law_word" s_l_word P_l_word A.f_l_word A.d_l_word
  D_l_due : DefAt K mg "_law_due" s_l_due P_l_due A.f_l_due A.d_l_due
  D_l_spoilt : DefAt K mg "_law_spoilt" s_l_spoilt P_l_spoilt A.f_l_spoilt A.d_l_spoilt
  D_l_made : DefAt K mg "_law_made" s_l_made P_l_made A.f_l_made A.d_l_made
  D_law : DefAt K mg "law" s_law P_law A.f_law A.d_law
  D_BadColumn___init__ : MetAt K "__init__" "BadColumn.__init__" s_BadColumn___init__ P_BadColumn___init__ A.f_BadColumn___init__ A.d_BadColumn___init__
  D_Column___init__ : MetAt K "__init__" "Column.__init__" s_Column___init__ P_Column___init__ A.f_Column___init__ A.d_Column___init__
  D_Column___eq__ : MetAt K "__eq__" "Column.__eq__" s_Column___eq__ P_Column___eq__ A.f_Column___eq__ A.d_Column___eq__
  D_Column___str__ : MetAt K "__str__" "Column.__str__" s_Column___str__ P_Column___str__ A.f_Column___str__ A.d_Column___str__
  D_Column___len__ : MetAt K "__len__" "Column.__len__" s_Column___len__ P_Column___len__ A.f_Column___len__ A.d_Column___len__
  D_Column___iter__ : MetAt K "__iter__" "Column.__iter__" s_Column___iter__ P_Column___iter__ A.f_Column___iter__ A.d_Column___iter__
  g_CardError : mg "CardError" = some (.ref A.C_CardError)
  x_BadColumn : ExC K mg "BadColumn" A.C_BadColumn A.f_BadColumn___init__
  g_BadColumn : mg "BadColumn" = some (.ref A.C_BadColumn)
  n_BadColumn_what : PySem.W.findIn K (.ref A.C_BadColumn) "what" = some none
  up_BadColumn_CardError : PySem.W.exmOne K (.ref A.C_BadColumn) (.ref A.C_CardError) = some true
  g_Column : mg "Column" = some (.ref A.C_Column)
  cl_Column : Cls K A.C_Column
  i1_Column : PySem.W.findIn K (.ref A.C_Column) "__class__" = some (some (.builtin "object.__class__"))
  i4_Column : PySem.W.mroIn K A.C_Column (.type "object") = some true
  ii_Column : PySem.W.kitOne K (.ref A.C_Column) (.ref A.C_Column) = some true
  it_str_Column : PySem.W.kitOne K (.type "str") (.ref A.C_Column) = some false
  it_int_Column : PySem.W.kitOne K (.type "int") (.ref A.C_Column) = some false
  it_bool_Column : PySem.W.kitOne K (.type "bool") (.ref A.C_Column) = some false
  it_NoneType_Column : PySem.W.kitOne K (.type "NoneType") (.ref A.C_Column) = some false
  it_list_Column : PySem.W.kitOne K (.type "list") (.ref A.C_Column) = some false
  it_tuple_Column : PySem.W.kitOne K (.type "tuple") (.ref A.C_Column) = some false
  it_dict_Column : PySem.W.kitOne K (.type "dict") (.ref A.C_Column) = some false
  ti_Column_str : PySem.W.kitOne K (.ref A.C_Column) (.type "str") = some false
  ti_Column_int : PySem.W.kitOne K (.ref A.C_Column) (.type "int") = some false
  ti_Column_bool : PySem.W.kitOne K (.ref A.C_Column) (.type "bool") = some false
  ti_Column_list : PySem.W.kitOne K (.ref A.C_Column) (.type "list") = some false
  subt_Column : PySem.W.subIn K (.type "tuple") (.ref A.C_Column) = some false
  subl_Column : PySem.W.subIn K (.type "list") (.ref A.C_Column) = some false
  sub_Column : PySem.W.subIn K (.type "str") (.ref A.C_Column) = some false
  ne_Column : NeC K A.C_Column
  mk_Column : Mk K A.C_Column A.f_Column___init__
  n_Column_word : NoAttr K A.C_Column "word"
  n_Column_size : NoAttr K A.C_Column "size"
  o_Column___eq__ : OwnM K A.C_Column "__eq__" A.f_Column___eq__
  m_Column___eq__ : Meth K A.C_Column "__eq__" A.f_Column___eq__
  o_Column___str__ : OwnM K A.C_Column "__str__" A.f_Column___str__
  m_Column___str__ : Meth K A.C_Column "__str__" A.f_Column___str__
  o_Column___len__ : OwnM K A.C_Column "__len__" A.f_Column___len__
  m_Column___len__ : Meth K A.C_Column "__len__" A.f_Column___len__
  o_Column___iter__ : OwnM K A.C_Column "__iter__" A.f_Column___iter__
  m_Column___iter__ : Meth K A.C_Column "__iter__" A.f_Column___iter__
  c_MOST_SIZE : ∃ t, mg "MOST_SIZE" = some (.int 6 t)
  i2 : PySem.W.specialIn K (.builtin "object.__class__") "__get__" = some (some (.builtin "getset_descriptor.__get__"))
  i3 : PySem.W.takesIn K (.builtin "object.__class__") = some true
  b_ValueError : mg "ValueError" = none
  b_abs : mg "abs" = none
  b_all : mg "all" = none
  b_bool : mg "bool" = none
  b_enumerate : mg "enumerate" = none
  b_int : mg "int" = none
  b_isinstance : mg "isinstance" = none
  b_iter : mg "iter" = none
  b_len : mg "len" = none
  b_list : mg "list" = none
  b_min : mg "min" = none
  b_property : mg "property" = none
  b_range : mg "range" = none
  b_staticmethod : mg "staticmethod" = none
  b_str : mg "str" = none


section
variable {P : Program} {w : World} {K : PySem.W.Frag} {mg : Str → Option Value} {base : Heap} {AD : Ads}
def spMix : Sp := fun vs H Q _ => ∃ n t : Int, vs = [.int n, .int t] ∧ (0 ≤ n ∧ n < 2147483648) ∧ (0 ≤ t ∧ t < 1000) ∧ ∀ r : Int, 0 ≤ r → Q (.int r) H
theorem ok_l_mix (T : Top K mg AD) : FnOk P w K mg base CX0 1 AD.f_l_mix AD.d_l_mix P_l_mix spMix := by
  refine T.D_l_mix.F.ok sc_l_mix (fun vs H Q E h => ?_) (fun cdv A outer s H vs Q E hr h => ?_)
  · obtain ⟨n, t, rfl, _⟩ := h
    rfl
  · obtain ⟨n, t, rfl, hn, ht, q⟩ := h
    refine ⟨_, (pss_cons (ps_set (i := 2) sc_l_mix.nd rfl (Or.inl rfl) (pe_op op_mod (pe_callTy call_int1 (by rfl) T.b_int (by decide +kernel) (pa_cons (pe_op op_add (pe_op op_add (pe_op op_mul (pv 0) pe_int) (pe_op op_mul (pv 1) pe_int)) pe_int) pa_nil)) pe_int))
    (pss_cons (ps_set (i := 3) sc_l_mix.nd rfl (Or.inl rfl) (pe_op op_mod (pe_callTy call_int1 (by rfl) T.b_int (by decide +kernel) (pa_cons (pe_op op_add (pe_op op_add (pe_op op_mul (pv 2) (pv 2)) (pe_op op_mul (pe_op op_fdiv (pv 2) pe_int) pe_int)) (pe_op op_mul (pv 1) pe_int)) pa_nil)) pe_int))
    (pss_one (ps_ret (pe_op op_fdiv (pe_op op_mod (pe_callTy call_int1 (by rfl) T.b_int (by decide +kernel) (pa_cons (pe_op op_add (pe_op op_fdiv (pe_op op_mul (pv 3) (pv 3)) pe_int) (pv 2)) pa_nil)) pe_int) pe_int))))), ?_⟩
    walk_at "go"
    exact q _ (by omega)
def spDraw : Sp := fun vs H Q _ => ∃ (a : Addr) (m : Int), vs = [.ref a, .int m] ∧ HandOk H a ∧ CDivW 0 m ∧ ∀ (d : Int) H', 0 ≤ d → d < m → But a H H' → HandOk H' a → Q (.int d) H'
/-! the rest of a draw: from the pending number on -/
set_option hygiene false in
local macro_rules | `(tactic| walk_at "tail") => `(tactic| (
    walk_at "go"
    refine ite2 (fun e => ?_) (fun e => ?_)
    · have e0 := of_decide_eq_true e
      walk_at "go"
      refine And.intro hm ?_
      walk_at "go"
      refine And.intro hm.1 ?_
      refine q _ _ (Int.emod_nonneg _ (by have := hm.1; omega)) (Int.emod_lt_of_pos _ hm.1) (But.upd hb) (HandOk.mk hal el (But.upd hb) upd_same hp hl hc (Int.ediv_nonneg (by omega) (by have := hm.1; omega)) ht)
    · walk_at "go"
      refine ⟨_, _, rfl, ⟨by omega, by omega⟩, ⟨by omega, by omega⟩, fun r hr0 => ?_⟩
      walk_at "go"
      refine And.intro hm.1 ?_
      refine q _ _ (Int.emod_nonneg _ (by have := hm.1; omega)) (Int.emod_lt_of_pos _ hm.1) (But.upd hb) (HandOk.mk hal el (But.upd hb) upd_same hp hl hc (by omega) (by omega))))

theorem ok_l_draw (T : Top K mg AD) : FnOk P w K mg base CX0 2 AD.f_l_draw AD.d_l_draw P_l_draw spDraw := by
  refine T.D_l_draw.F.ok sc_l_draw (fun vs H Q E h => ?_) (fun cdv A outer s H vs Q E hr h => ?_)
  · obtain ⟨n, t, rfl, _⟩ := h
    rfl
  · obtain ⟨a, m, rfl, hh, hm, q⟩ := h
    refine ⟨_, (pss_cons (ps_if (PW.pt (pw_and (pt_cmpR op_eq (pe_ix (ix_listK (K := K) rfl) (pv 0) pe_int (fun _ _ => rfl)) pe_int (nomark _)) (pw_and1 (pt_cmpR op_lt (pe_ix (ix_listK (K := K) rfl) (pv 0) pe_int (fun _ _ => rfl)) (pe_callB (call_lenQ (K := K) rfl) (by rfl) T.b_len (by decide +kernel) (pa_cons (pe_ix (ix_listK (K := K) rfl) (pv 0) pe_int (fun _ _ => rfl)) pa_nil)) (nomark _)))))
    (pss_cons (ps_set (i := 2) sc_l_draw.nd rfl (Or.inl rfl) (pe_ix (ix_listK (K := K) rfl) (pe_ix (ix_listK (K := K) rfl) (pv 0) pe_int (fun _ _ => rfl)) (pe_ix (ix_listK (K := K) rfl) (pv 0) pe_int (fun _ _ => rfl)) (fun _ _ => rfl)))
    (pss_cons (ps_asg (pe_op op_add (pe_ix (ix_listK (K := K) rfl) (pv 0) pe_int (fun _ _ => rfl)) pe_int) (pg_sub (pv 0) pe_int set_list))
    (pss_cons (ps_if (pt_cmpR op_lt (pv 2) (pe_op op_pow pe_int pe_int) (nomark _))
    (pss_one (ps_ret (pe_op op_mod (pe_callTy call_int1 (by rfl) T.b_int (by decide +kernel) (pa_cons (callD T.D_l_mix (ok_l_mix T) hr (pa_cons (pe_op op_mod (pe_callTy call_int1 (by rfl) T.b_int (by decide +kernel) (pa_cons (pv 2) pa_nil)) pe_int) (pa_cons (pe_ix (ix_listK (K := K) rfl) (pv 0) pe_int (fun _ _ => rfl)) pa_nil))) pa_nil)) (pv 1))))
    pss_nil)
    (pss_one (ps_asg (pv 2) (pg_sub (pv 0) pe_int set_list))))))
    pss_nil)
    (pss_cons (ps_if (pt_cmpR op_gt (pe_ix (ix_listK (K := K) rfl) (pv 0) pe_int (fun _ _ => rfl)) pe_int (nomark _))
    (pss_cons (ps_set (i := 3) sc_l_draw.nd rfl (Or.inl rfl) (pe_ix (ix_listK (K := K) rfl) (pv 0) pe_int (fun _ _ => rfl)))
    (pss_cons (ps_asg (pe_op op_fdivW (pv 3) (pv 1)) (pg_sub (pv 0) pe_int set_list))
    (pss_one (ps_ret (pe_op op_mod (pe_callTy call_int1 (by rfl) T.b_int (by decide +kernel) (pa_cons (pv 3) pa_nil)) (pv 1))))))
    pss_nil)
    (pss_cons (ps_asg (pe_op op_mod (pe_callTy call_int1 (by rfl) T.b_int (by decide +kernel) (pa_cons (pe_op op_add (pe_ix (ix_listK (K := K) rfl) (pv 0) pe_int (fun _ _ => rfl)) pe_int) pa_nil)) pe_int) (pg_sub (pv 0) pe_int set_list))
    (pss_one (ps_ret (pe_op op_mod (pe_callTy call_int1 (by rfl) T.b_int (by decide +kernel) (pa_cons (callD T.D_l_mix (ok_l_mix T) hr (pa_cons (pe_ix (ix_listK (K := K) rfl) (pv 0) pe_int (fun _ _ => rfl)) (pa_cons (pe_ix (ix_listK (K := K) rfl) (pv 0) pe_int (fun _ _ => rfl)) pa_nil))) pa_nil)) (pv 1))))))), ?_⟩
    obtain ⟨l, cells, pos, pend, tot, ea, el, hp, hl, hc, hpe, ht⟩ := id hh
    have hal : a ≠ l := by
      intro e
      subst e
      rw [ea] at el
      cases cells with
      | nil => cases el
      | cons c r => cases el
    obtain ⟨cn, hcn⟩ : ∃ cn : Nat, pos = (cn : Int) := ⟨pos.toNat, by omega⟩
    subst hcn
    walk_at "go"
    refine ite2 (fun e => ?_) (fun e => ?_)
    · have e0 : pend = 0 := V.int.inj (of_decide_eq_true e)
      subst e0
      walk_at "go"
      refine ite2 (fun e2 => ?_) (fun e2 => ?_)
      · have e3 := of_decide_eq_true e2
        rw [List.length_map] at e3
        have e4 : cn < cells.length := by omega
        have hce : 0 ≤ cells[cn] := hc _ (List.getElem_mem e4)
        walk_at "go"
        refine ⟨_, _, _, _, rfl, rfl, SqL.of el, atI_nat (j := cn) (v := .int cells[cn]) (by simp [e4]), ?_⟩
        walk_at "go"
        refine ite2 (fun e5 => ?_) (fun e5 => ?_)
        · walk_at "go"
          refine ⟨_, _, rfl, ⟨by omega, by omega⟩, ⟨by omega, by omega⟩, fun r hr0 => ?_⟩
          walk_at "go"
          refine And.intro hm.1 ?_
          exact q _ _ (Int.emod_nonneg _ (by have := hm.1; omega)) (Int.emod_lt_of_pos _ hm.1) (But.upd (But.refl a H)) (HandOk.mk hal el (But.upd (But.refl a H)) upd_same ⟨by omega, by omega⟩ hl hc (by omega) ht)
        · walk_at "go"
          have hb : But a H (upd (upd H a (.lst [.ref l, .int (cn + 1), .int 0, .int tot])) a (.lst [.ref l, .int (cn + 1), .int cells[cn], .int tot])) := But.upd (But.upd (But.refl a H))
          have hp' : 0 ≤ (cn : Int) + 1 ∧ (cn : Int) + 1 ≤ 63 := ⟨by omega, by omega⟩
          clear hp
          have hp := hp'
          walk_at "tail"
      · have hb := But.refl a H
        walk_at "go"
        refine ⟨_, _, rfl, ⟨by omega, by omega⟩, ⟨by omega, by omega⟩, fun r hr0 => ?_⟩
        walk_at "go"
        refine And.intro hm.1 ?_
        refine q _ _ (Int.emod_nonneg _ (by have := hm.1; omega)) (Int.emod_lt_of_pos _ hm.1) (But.upd hb) (HandOk.mk hal el (But.upd hb) upd_same hp hl hc (by omega) (by omega))
    · have hb := But.refl a H
      walk_at "tail"

def spHand (K : PySem.W.Frag) : Sp := fun vs H Q _ => ∃ (a : Addr) (ns : List Int), vs = [.ref a] ∧ SqL K H a (ns.map V.int) ∧ ns.length ≤ 63 ∧ ∀ p H', Same H H' → H p = none → HandOk H' p → Q (.ref p) H'
theorem ok_l_hand (T : Top K mg AD) : FnOk P w K mg base CX0 1 AD.f_l_hand AD.d_l_hand P_l_hand (spHand K) := by
  refine T.D_l_hand.F.ok sc_l_hand (fun vs H Q E h => ?_) (fun cdv A outer s H vs Q E hr h => ?_)
  · obtain ⟨n, t, rfl, _⟩ := h
    rfl
  · obtain ⟨a, ns, rfl, hS, hlen, q⟩ := h
    refine ⟨_, (pss_cons (ps_set (i := 1) sc_l_hand.nd rfl (Or.inl rfl) pe_int)
    (pss_cons (ps_for PassesOwn.never rfl (pi_enum (by rfl) T.b_enumerate (pa_cons (pv 0) pa_nil)) (pg_tup (by rfl) (pgs_cons (pg_name (i := 2) sc_l_hand.nd rfl (Or.inl rfl)) (pgs_cons (pg_name (i := 3) sc_l_hand.nd rfl (Or.inl rfl)) pgs_nil)))
    (pss_one (ps_set (i := 1) sc_l_hand.nd rfl (Or.inl rfl) (pe_op op_mod (pe_callTy call_int1 (by rfl) T.b_int (by decide +kernel) (pa_cons (pe_op op_add (pe_op op_mul (pv 1) pe_int) (pe_op op_mul (pe_callTy call_int1 (by rfl) T.b_int (by decide +kernel) (pa_cons (pv 3) pa_nil)) (pe_op op_add (pv 2) pe_int))) pa_nil)) pe_int))))
    (pss_one (ps_ret (pe_lst (pa_cons (pe_lc (own := [("_law_cell", 3)]) (g := (gName 3)) (tt := tYes) rfl sc_l_hand.nd (pi_list (pv 0)) (blkOk_by (N := N_l_hand) (sc := defScope s_l_hand) (by decide +kernel)) (fun _ _ _ _ _ => (pg_name (i := 3) sc_l_hand.nd rfl (by first | exact Or.inl rfl | exact Or.inr rfl))) (fun _ _ _ _ _ => pts_nil) (fun _ _ _ _ _ => (pe_callB call_abs (by rfl) T.b_abs (by decide +kernel) (pa_cons (pe_callTy call_int1 (by rfl) T.b_int (by decide +kernel) (pa_cons (pv 3) pa_nil)) pa_nil)))) (pa_cons pe_int (pa_cons pe_int (pa_cons (pv 1) pa_nil))))))))), ?_⟩
    walk_at "go"
    refine ⟨_, _, rfl, hS, ?_⟩
    refine for_it walk_enum (fun i σ H' => ∃ tot o2 o3, σ = [some (.ref a), some (.int tot), o2, o3] ∧ (0 ≤ tot ∧ tot < 2147483629) ∧ Same H H') ⟨0, none, none, rfl, by omega, Same.refl H⟩ (fun i σ H' hi ⟨_, _, _, _, _, s2⟩ => s2.seq hS) ?_ ?_
    · rintro i x σ H1 H2 hi ⟨tot, o2, o3, rfl, ht, s1⟩ ⟨T', x1, x2, rfl, hT, rfl, e1, e2⟩
      rw [List.length_map] at hi
      obtain rfl := Option.some.inj e1
      obtain rfl : V.int ns[i] = x2 := by simpa [hi] using e2
      refine ⟨T', [.int i, .int ns[i]], rfl, .inl (.inl upd_same), rfl, .int i, [.int ns[i]], rfl, .int ns[i], [], rfl, rfl, ?_⟩
      walk_at "go"
      exact ⟨_, _, _, rfl, ⟨by omega, by omega⟩, same_new s1 hT⟩
    · rintro σ H1 ⟨tot, o2, o3, rfl, ht, s1⟩
      walk_at "go"
      refine ⟨⟨_, s1.seq hS⟩, ?_⟩
      intro Dl hD
      refine lc_it (walk_list (xs := ns.map V.int)) (fun i H' => But Dl H1 H' ∧ H' Dl = some (.lst ((ns.take i).map fun z => V.int (if z < 0 then -z else z)))) ⟨But.upd (But.refl _ _), upd_same⟩ (fun i H' hi h => (s1.trans (same_but (Same.refl _) hD h.1)).seq hS) ?_ ?_
      · rintro i x H2 H3 hi ⟨b2, e2⟩ ⟨rfl, ex⟩
        rw [List.length_map] at hi
        obtain rfl : V.int ns[i] = x := by simpa [hi] using ex
        refine ⟨rfl, ?_⟩
        walk_at "go"
        refine ⟨_, e2, ?_, But.upd b2, ?_⟩
        · rw [List.length_map]
          exact small1000 (by have := List.length_take_le i ns; omega)
        · rw [upd_same, List.take_add_one, List.getElem?_eq_getElem hi, List.map_append]
          rfl
      · rintro H2 ⟨b2, e2⟩
        rw [List.length_map, List.take_length] at e2
        have s2 : Same H H2 := s1.trans (same_but (Same.refl _) hD b2)
        walk_at "go"
        refine ⟨(by show 4 ≤ sizeLine; decide), fun p hp => ?_⟩
        have hpd : Dl ≠ p := ne_of_none e2 hp
        refine q p _ (same_new s2 hp) (same_free s2 hp) ⟨Dl, ns.map fun z => if z < 0 then -z else z, 0, 0, tot, upd_same, ?_, by omega, by rw [List.length_map]; exact hlen, ?_, by omega, ht⟩
        · rw [upd_ne hpd, e2, List.map_map]
          rfl
        · intro c hc
          obtain ⟨z, _, rfl⟩ := List.mem_map.mp hc
          split <;> omega

def spWord : Sp := fun vs H Q _ => ∃ (a : Addr) (n : Nat), vs = [.ref a, .int n] ∧ (1 ≤ n ∧ n ≤ 6) ∧ HandOk H a ∧ ∀ l H', Good l n → But a H H' → HandOk H' a → Q (.str (sOf l)) H'
theorem ok_l_word (T : Top K mg AD) : FnOk P w K mg base CX0 3 AD.f_l_word AD.d_l_word P_l_word spWord := by
  refine T.D_l_word.F.ok sc_l_word (fun vs H Q E h => ?_) (fun cdv A outer s H vs Q E hr h => ?_)
  · obtain ⟨n, t, rfl, _⟩ := h
    rfl
  · obtain ⟨a, n, rfl, hn, hh, q⟩ := h
    refine ⟨_, (pss_cons (ps_set (i := 2) sc_l_word.nd rfl (Or.inl rfl) (pe_s (x := Str.ofString "") [] (by decide +kernel)))
    (pss_cons (ps_set (i := 3) sc_l_word.nd rfl (Or.inl rfl) pe_int)
    (pss_cons (ps_for PassesOwn.never rfl (pi_range1 (by rfl) T.b_range (pa_cons (pe_op op_mul pe_int (pv 1)) pa_nil)) (pg_name (i := 4) sc_l_word.nd rfl (Or.inl rfl))
    (pss_cons (ps_set (i := 5) sc_l_word.nd rfl (Or.inl rfl) (pe_cmpR op_gt (pv 3) pe_int (nomark _)))
    (pss_cons (ps_set (i := 6) sc_l_word.nd rfl (Or.inl rfl) (pe_cmpR op_lt (pe_m1 PySem.F.slot_str_count PySem.F.type_str_count mt_countS (pv 2) (pe_s (x := Str.ofString "d") [100] (by decide +kernel))) (pv 1) (nomark _)))
    (pss_one (ps_if (PW.pt (pw_and (pt_val (pv 6)) (pw_and1 (PW.pt (pw_or (pt_not (pt_val (pv 5))) (pw_or1 (pt_cmpR op_eq (callD T.D_l_draw (ok_l_draw T) hr (pa_cons (pv 0) (pa_cons pe_int pa_nil))) pe_int (nomark _))))))))
    (pss_cons (ps_set (i := 2) sc_l_word.nd rfl (Or.inl rfl) (pe_op op_addS (pv 2) (pe_s (x := Str.ofString "d") [100] (by decide +kernel))))
    (pss_one (ps_set (i := 3) sc_l_word.nd rfl (Or.inl rfl) (pe_op op_add (pv 3) pe_int))))
    (pss_cons (ps_set (i := 2) sc_l_word.nd rfl (Or.inl rfl) (pe_op op_addS (pv 2) (pe_s (x := Str.ofString "o") [111] (by decide +kernel))))
    (pss_one (ps_set (i := 3) sc_l_word.nd rfl (Or.inl rfl) (pe_op op_sub (pv 3) pe_int)))))))))
    (pss_one (ps_ret (pv 2)))))), ?_⟩
    walk_at "go"
    refine for_it (walk_range (lo := 0) (n := (2 * (n : Int)).toNat)) (fun i σ H' => ∃ (l : List Nat) (o4 o5 o6 : Option V), σ = [some (.ref a), some (.int n), some (.str (sOf l)), some (.int ((l.count 100 : Int) - l.count 111)), o4, o5, o6] ∧ Part l n ∧ l.length = i ∧ But a H H' ∧ HandOk H' a)
      ⟨[], none, none, none, rfl, Part.nil n, rfl, But.refl a H, hh⟩ (fun _ _ _ _ _ => trivial) ?_ ?_
    · rintro i x σ H1 H2 hi ⟨l, o4, o5, o6, rfl, pl, ll, hb, hh1⟩ ⟨rfl, rfl⟩
      have cnt := ltr_count pl.ltr
      have ple := pl.le
      have c100 := pl.cnt
      have pl' := pl
      walk_at "go"
      refine ite2 (fun e1 => ?_) (fun e1 => ?_)
      · have f1 := of_decide_eq_true e1
        walk_at "go"
        refine ite2 (fun e2 => ?_) (fun e2 => ?_)
        · walk_at "go"
          exact ⟨l ++ [100], _, _, _, by rw [cnt_d]; rfl, pl.snoc (.inl ⟨rfl, by omega⟩), by simp [ll], hb, hh1⟩
        · have f2 : (0 : Int) < (l.count 100 : Int) - l.count 111 := by simpa using e2
          walk_at "go"
          refine ⟨_, _, rfl, hh1, cdivw (by decide) (by decide), fun d H3 hd0 hd1 hb3 hh3 => ?_⟩
          walk_at "go"
          refine ite2 (fun e3 => ?_) (fun e3 => ?_)
          · walk_at "go"
            exact ⟨l ++ [100], _, _, _, by rw [cnt_d]; rfl, pl.snoc (.inl ⟨rfl, by omega⟩), by simp [ll], hb.trans hb3, hh3⟩
          · walk_at "go"
            exact ⟨l ++ [111], _, _, _, by rw [cnt_o]; rfl, pl.snoc (.inr ⟨rfl, by omega⟩), by simp [ll], hb.trans hb3, hh3⟩
      · have f1 : ¬ ((l.count 100 : Nat) : Int) < n := fun z => e1 (decide_eq_true z)
        walk_at "go"
        exact ⟨l ++ [111], _, _, _, by rw [cnt_o]; rfl, pl.snoc (.inr ⟨rfl, by omega⟩), by simp [ll], hb, hh1⟩
    · rintro σ H1 ⟨l, o4, o5, o6, rfl, pl, ll, hb, hh1⟩
      walk_at "go"
      exact q _ _ (pl.good (by omega)) hb hh1
end

/-! ### word_fault -/
section
variable {P : Program} {w : World} {K : PySem.W.Frag} {mg : Str → Option Value} {base : Heap} {AD : Ads}
/-- not opened by itself: an inductive -/
inductive spWf (K : PySem.W.Frag) (vs : List V) (H : Hp) (Q : VK) (E : XK) : Prop where
  | is (h : ∃ v, vs = [v] ∧ ((∃ l, v = .str (sOf l) ∧ l.length ≤ 1000 ∧ ∀ H', Same H H' → Q (optV (wfault l)) H') ∨
  (∃ t, TyX K H v t ∧ PySem.W.kitOne K t (.type "str") = some false ∧ Q (.str (sOf wWord)) H)))
  | no (h : False)
theorem spWf.out {K : PySem.W.Frag} {vs : List V} {H : Hp} {Q : VK} {E : XK} (b : spWf K vs H Q E) : ∃ v, vs = [v] ∧ ((∃ l, v = .str (sOf l) ∧ l.length ≤ 1000 ∧ ∀ H', Same H H' → Q (optV (wfault l)) H') ∨
  (∃ t, TyX K H v t ∧ PySem.W.kitOne K t (.type "str") = some false ∧ Q (.str (sOf wWord)) H)) := by
  cases b with
  | is h => exact h
  | no h => exact h.elim
theorem ok_word_fault (T : Top K mg AD) : FnOk P w K mg base CX0 1 AD.f_word_fault AD.d_word_fault P_word_fault (spWf K) := by
  refine T.D_word_fault.F.ok sc_word_fault (fun vs H Q E h => ?_) (fun cdv A outer s H vs Q E hr h => ?_)
  · obtain ⟨v, rfl, _⟩ := h.out
    rfl
  · obtain ⟨v, rfl, q⟩ := h.out
    obtain ⟨_, hc_MOST_SIZE⟩ := T.c_MOST_SIZE
    refine ⟨_, (pss_cons (ps_if (PW.pt (pw_or (pt_not (pt_val (pe_callB (call_isiK' (K := K) rfl) (by rfl) T.b_isinstance (by decide +kernel) (pa_cons (pv 0) (pa_cons (pe_bltn (v := .ty "str") (u := .type "str") (by rfl) T.b_str (by decide +kernel) rfl) pa_nil))))) (pw_or1 (pt_not (pt_chain op_le op_le pe_int (pe_callB call_lenS (by rfl) T.b_len (by decide +kernel) (pa_cons (pv 0) pa_nil)) (pe_op op_mul pe_int (pe_glob (v := .int 6) rfl hc_MOST_SIZE ⟨_, rfl⟩)))))))
    (pss_one (ps_ret (pe_s (x := Str.ofString "word") [119, 111, 114, 100] (by decide +kernel))))
    pss_nil)
    (pss_cons (ps_if (pt_not (pt_val (pe_callB (cr_all rfl) (by rfl) T.b_all (by decide +kernel) (pa_cons (pe_lc (own := [("letter", 3)]) (g := (gName 3)) (tt := tYes) rfl sc_word_fault.nd (pi_str (pv 0)) (blkOk_by (N := N_word_fault) (sc := defScope s_word_fault) (by decide +kernel)) (fun _ _ _ _ _ => (pg_name (i := 3) sc_word_fault.nd rfl (by first | exact Or.inl rfl | exact Or.inr rfl))) (fun _ _ _ _ _ => pts_nil) (fun _ _ _ _ _ => (pe_cmpR (op_inK (K := K) rfl) (pv 3) (pe_tup (pa_cons (pe_s (x := Str.ofString "d") [100] (by decide +kernel)) (pa_cons (pe_s (x := Str.ofString "o") [111] (by decide +kernel)) pa_nil))) (by rfl)))) pa_nil))))
    (pss_one (ps_ret (pe_s (x := Str.ofString "word") [119, 111, 114, 100] (by decide +kernel))))
    pss_nil)
    (pss_cons (ps_if (pt_cmpR op_ne (pe_m1 PySem.F.slot_str_count PySem.F.type_str_count mt_countS (pv 0) (pe_s (x := Str.ofString "d") [100] (by decide +kernel))) (pe_m1 PySem.F.slot_str_count PySem.F.type_str_count mt_countS (pv 0) (pe_s (x := Str.ofString "o") [111] (by decide +kernel))) (nomark _))
    (pss_one (ps_ret (pe_s (x := Str.ofString "count") [99, 111, 117, 110, 116] (by decide +kernel))))
    pss_nil)
    (pss_cons (ps_for PassesOwn.never rfl (pi_range1 (by rfl) T.b_range (pa_cons (pe_callB call_lenS (by rfl) T.b_len (by decide +kernel) (pa_cons (pv 0) pa_nil)) pa_nil)) (pg_name (i := 1) sc_word_fault.nd rfl (Or.inl rfl))
    (pss_cons (ps_set (i := 2) sc_word_fault.nd rfl (Or.inl rfl) (pe_slice sl_S (pv 0) po_none (po_some (pv 1))))
    (pss_one (ps_if (pt_cmpR op_gt (pe_m1 PySem.F.slot_str_count PySem.F.type_str_count mt_countS (pv 2) (pe_s (x := Str.ofString "o") [111] (by decide +kernel))) (pe_m1 PySem.F.slot_str_count PySem.F.type_str_count mt_countS (pv 2) (pe_s (x := Str.ofString "d") [100] (by decide +kernel))) (nomark _))
    (pss_one (ps_ret (pe_s (x := Str.ofString "below") [98, 101, 108, 111, 119] (by decide +kernel))))
    pss_nil))))
    (pss_one (ps_ret pe_non)))))), ?_⟩
    walk_at "go"
    rcases q with ⟨l, rfl, hl, q⟩ | ⟨t, ty, kt, q⟩
    · refine ⟨_, _, _, _, true, rfl, .ty _, .base (.str _), kit_ty (by decide +kernel), ?_⟩
      walk_at "go"
      refine ite2 (fun e => ?_) (fun e => ?_)
      rotate_left
      · have f : wfault l = some wWord := by
          unfold wfault
          rw [if_neg (fun z => e (decide_eq_true (by omega)))]
        walk_at "go"
        have q1 := q H (Same.refl H)
        rw [f] at q1
        exact q1
      have f2 : 2 ≤ l.length := by have := of_decide_eq_true e; omega
      walk_at "go"
      refine ite2 (fun e => ?_) (fun e => ?_)
      · have f : wfault l = some wWord := by
          have e3 : ¬ ((l.length : Nat) : Int) ≤ 12 := by simpa using e
          unfold wfault
          rw [if_neg (by omega)]
        walk_at "go"
        have q1 := q H (Same.refl H)
        rw [f] at q1
        exact q1
      have f12 : l.length ≤ 12 := by
        have e3 : ((l.length : Nat) : Int) ≤ 12 := by simpa using e
        omega
      walk_at "go"
      intro Dl hD
      refine lc_it walk_S (fun i H' => But Dl H H' ∧ H' Dl = some (.lst ((l.take i).map fun c => V.bl (c == 100 || c == 111)))) ⟨But.upd (But.refl _ _), upd_same⟩ (fun _ _ _ _ => trivial) ?_ ?_
      · rintro i x H2 H3 hi ⟨b2, e2⟩ ⟨rfl, c, hc, rfl⟩
        walk_at "go"
        refine ⟨szl (by decide), fun p hp => ?_⟩
        have hpd : Dl ≠ p := ne_of_none e2 hp
        refine ⟨p, _, rfl, .inr (SqT.of upd_same), rfl, rfl, ?_⟩
        refine ⟨_, (upd_ne hpd).trans e2, ?_, But.upd (b2.new hp), ?_⟩
        · rw [List.length_map]
          exact small1000 (by have := List.length_take_le i l; omega)
        · rw [upd_same, List.take_add_one, hc, List.map_append]
          show some (HO.lst (_ ++ [V.bl (if false = true then _ else _)])) = _
          rw [if_neg Bool.false_ne_true, inV_do]
          rfl
      · rintro H2 ⟨b2, e2⟩
        rw [List.take_length] at e2
        have s2 : Same H H2 := same_but (Same.refl _) hD b2
        walk_at "go"
        refine ⟨Dl, l.map fun c => c == 100 || c == 111, rfl, SqL.of (by rw [e2, List.map_map]; rfl), ?_⟩
        walk_at "go"
        have hall : (l.map fun c => c == 100 || c == 111).all id = ltrs l := by
          unfold ltrs
          rw [List.all_map]
          rfl
        rw [hall]
        refine ite2 (fun e => ?_) (fun e => ?_)
        · have f : wfault l = some wWord := by
            have e3 : ltrs l = false := by simpa using e
            unfold wfault
            rw [if_pos ⟨f2, f12⟩, e3, if_neg Bool.false_ne_true]
          walk_at "go"
          have q1 := q H2 s2
          rw [f] at q1
          exact q1
        have fl : ltrs l = true := by simpa using e
        walk_at "go"
        refine ite2 (fun e => ?_) (fun e => ?_)
        · have f : wfault l = some wCount := by
            have e3 : ¬ l.count 100 = l.count 111 := fun z => by rw [z] at e; simp at e
            unfold wfault
            rw [if_pos ⟨f2, f12⟩, if_pos fl, if_neg e3]
          walk_at "go"
          have q1 := q H2 s2
          rw [f] at q1
          exact q1
        have fc : l.count 100 = l.count 111 := by
          have e3 : V.int (l.count 100 : Nat) = V.int (l.count 111 : Nat) := by simpa using e
          exact Int.ofNat.inj (V.int.inj e3)
        walk_at "go"
        refine for_it (walk_range (lo := 0) (n := (l.length : Int).toNat)) (fun i σ H' => ∃ (o1 o2 o3 : Option V), σ = [some (.str (sOf l)), o1, o2, o3] ∧ H' = H2 ∧ ∀ k, k < i → lowAt l k = false)
          ⟨none, none, none, rfl, rfl, fun k hk => absurd hk (Nat.not_lt_zero k)⟩ (fun _ _ _ _ _ => trivial) ?_ ?_
        · rintro i x σ H3 H4 hi ⟨o1, o2, o3, rfl, rfl, hk⟩ ⟨rfl, rfl⟩
          have hi2 : i < l.length := by omega
          walk_at "go"
          have hcut : cutN l none (some (0 + (i : Int))) = l.take i := by
            rw [cutN_take l (by omega), show (0 + (i : Int)).toNat = i by omega]
          rw [hcut]
          refine ite2 (fun e => ?_) (fun e => ?_)
          · have f : wfault l = some wBelow := by
              have e3 := of_decide_eq_true e
              unfold wfault
              rw [if_pos ⟨f2, f12⟩, if_pos fl, if_pos fc, if_pos]
              rw [List.any_eq_true]
              exact ⟨i, List.mem_range.mpr hi2, decide_eq_true (by omega)⟩
            walk_at "go"
            have q1 := q _ s2
            rw [f] at q1
            exact q1
          · have e3 : ¬ (((l.take i).count 100 : Nat) : Int) < ((l.take i).count 111 : Nat) := fun z => e (decide_eq_true z)
            walk_at "go"
            refine ⟨_, _, _, rfl, rfl, fun k hk2 => ?_⟩
            by_cases hki : k = i
            · subst hki
              exact decide_eq_false (by omega)
            · exact hk k (by omega)
        · rintro σ H3 ⟨o1, o2, o3, rfl, rfl, hk⟩
          have f : wfault l = none := by
            unfold wfault
            rw [if_pos ⟨f2, f12⟩, if_pos fl, if_pos fc, if_neg]
            rw [List.any_eq_true]
            rintro ⟨k, hm, hl2⟩
            rw [hk k (by have := List.mem_range.mp hm; omega)] at hl2
            exact absurd hl2 Bool.false_ne_true
          walk_at "go"
          have q1 := q _ s2
          rw [f] at q1
          exact q1
    · refine ⟨_, _, _, _, false, rfl, .ty _, ty, kt, ?_⟩
      walk_at "go"
      exact q
end

/-! ### BadColumn, Column -/
section
variable {P : Program} {w : World} {K : PySem.W.Frag} {mg : Str → Option Value} {base : Heap} {AD : Ads}
theorem ok_BadColumn___init__ (T : Top K mg AD) : FnOk P w K mg base CX0 1 AD.f_BadColumn___init__ AD.d_BadColumn___init__ P_BadColumn___init__ (spE1 K "what") := by
  refine T.D_BadColumn___init__.F.ok sc_BadColumn___init__ (fun vs H Q E h => ?_) (fun cdv A outer s H vs Q E hr h => ?_)
  · obtain ⟨a, C, v, rfl, _⟩ := h
    rfl
  · obtain ⟨a, C, v, rfl, ho, hn, ha, q⟩ := h
    refine ⟨_, (pss_one (ps_ost (pv 0) (pv 1))), ?_⟩
    walk_at "go"
    exact ⟨a, C, rfl, ho, hn, .inl ⟨ha, fun dx n ne => q dx n ne⟩⟩
/-- a Column of the word l stands at x -/
def ColAt (C : Addr) (H : Hp) (x : Addr) (l : List Nat) : Prop := ∃ dx, H x = some (.ins C dx [("word", .str (sOf l)), ("size", .int (l.count 100 : Nat))])
def spCol (K : PySem.W.Frag) (AD : Ads) : Sp := fun vs H Q E => ∃ (x dx : Addr) (v : V), vs = [.ref x, v] ∧ H x = some (.ins AD.C_Column dx []) ∧
  ((∃ l, v = .str (sOf l) ∧ l.length ≤ 1000 ∧ (wfault l = none → ∀ H', But x H H' → ColAt AD.C_Column H' x l → Q .non H') ∧
    (∀ f, wfault l = some f → ∀ d H', Same H H' → H d = none → H' d = some (.xd [("what", .str (sOf f))]) → E (.ref AD.C_BadColumn) (some d) H')) ∨
   (∃ t, TyX K H v t ∧ PySem.W.kitOne K t (.type "str") = some false ∧ ∀ d H', Same H H' → H d = none → H' d = some (.xd [("what", .str (sOf wWord))]) → E (.ref AD.C_BadColumn) (some d) H'))
theorem ok_Column___init__ (T : Top K mg AD) : FnOk P w K mg base (L2.CX P w) 3 AD.f_Column___init__ AD.d_Column___init__ P_Column___init__ (spCol K AD) := by
  refine T.D_Column___init__.F.okX sc_Column___init__ (fun vs H Q E h => ?_) (fun cdv A outer s H vs Q E hr h => ?_)
  · obtain ⟨a, C, v, rfl, _⟩ := h
    rfl
  · obtain ⟨x, dx, v, rfl, hx, q⟩ := h
    have X1 := T.x_BadColumn
    refine ⟨_, (pss_cons (ps_set (i := 2) sc_Column___init__.nd rfl (Or.inl rfl) (callD T.D_word_fault (ok_word_fault T) hr (pa_cons (pv 1) pa_nil)))
    (pss_cons (ps_if (pt_cmpR op_notN (pv 2) pe_non (nomark _))
    (pss_one (ps_raise rfl (takes_of rfl rfl rfl rfl) (pmk_oex T.x_BadColumn.oex T.x_BadColumn.ini T.x_BadColumn.tI (ok_BadColumn___init__ T) (hr.mono (by decide)) T.D_BadColumn___init__.b .nil pass0 (by rfl) T.x_BadColumn.g (pa_cons (pv 2) pa_nil))))
    pss_nil)
    (pss_cons (ps_fld (pv 0) (pv 1) rfl)
    (pss_one (ps_fld (pv 0) (pe_m1 PySem.F.slot_str_count PySem.F.type_str_count mt_countS (pv 1) (pe_s (x := Str.ofString "d") [100] (by decide +kernel))) rfl))))), ?_⟩
    walk_at "go"
    rcases q with ⟨l, rfl, hl, q1, q2⟩ | ⟨t, ty, kt, q2⟩
    · refine .is ⟨_, rfl, .inl ⟨l, rfl, hl, fun H1 s1 => ?_⟩⟩
      walk_at "go"
      cases hw : wfault l with
      | some f =>
        walk_at "go"
        exact (made1 X1.oex T.n_BadColumn_what fun d H' s' n e => q2 f hw d H' (s1.trans s') (s1.free n) e).2
      | none =>
        walk_at "go"
        refine ⟨x, _, dx, _, rfl, s1 _ _ hx, T.cl_Column, T.n_Column_word, by show 0 < 1000; decide, ?_⟩
        walk_at "go"
        refine ⟨x, _, dx, _, rfl, upd_same, T.cl_Column, T.n_Column_size, by show 1 < 1000; decide, ?_⟩
        refine q1 hw _ (fun b o nb e => ?_) ⟨dx, upd_same⟩
        rw [upd_ne nb, upd_ne nb]
        exact s1 b o e
    · refine .is ⟨_, rfl, .inr ⟨t, ty, kt, ?_⟩⟩
      walk_at "go"
      exact (made1 X1.oex T.n_BadColumn_what fun d H' s' n e => q2 d H' s' n e).2
theorem col_made {l : List Nat} (f : wfault l = none) (hl : l.length ≤ 1000) {H : Hp} {Q : Hp → Prop} {E : XK} {y dy : Addr} (ny : H y = none) (ndy : H dy = none) (ne : dy ≠ y) (k : ∀ H', Same H H' → ColAt AD.C_Column H' y l → Q H') :
    spCol K AD [.ref y, .str (sOf l)] (upd (upd H dy (.own y)) y (.ins AD.C_Column dy [])) (fun v H2 => v = .non ∧ Q H2) E :=
  ⟨y, dy, _, rfl, upd_same, .inl ⟨l, rfl, hl, fun _ H' bt ca => ⟨rfl, k H' (fun b o e => bt b o (ne_of_none e ny) (same_new (same_new (Same.refl H) ndy) ((upd_ne (Ne.symm ne)).trans ny) b o e)) ca⟩, fun g hg => by rw [f] at hg; cases hg⟩⟩
end

/-! ### whole numbers; Column's own methods -/
section
variable {P : Program} {w : World} {K : PySem.W.Frag} {mg : Str → Option Value} {base : Heap} {AD : Ads}
/-- v is no whole number -/
def NotInt (K : PySem.W.Frag) (H : Hp) (v : V) : Prop := ∃ t, TyX K H v t ∧ (PySem.W.kitOne K t (.type "int") = some false ∨ (PySem.W.kitOne K t (.type "int") = some true ∧ PySem.W.kitOne K t (.type "bool") = some true))
def spIsNum (K : PySem.W.Frag) : Sp := fun vs H Q _ => ∃ v, vs = [v] ∧ ((∃ i, v = .int i ∧ Q (.bl true) H) ∨ (NotInt K H v ∧ Q (.bl false) H))
theorem ok_is_number (T : Top K mg AD) : FnOk P w K mg base CX0 1 AD.f_is_number AD.d_is_number P_is_number (spIsNum K) := by
  refine T.D_is_number.F.ok sc_is_number (fun vs H Q E h => ?_) (fun cdv A outer s H vs Q E hr h => ?_)
  · obtain ⟨v, rfl, _⟩ := h
    rfl
  · obtain ⟨v, rfl, q⟩ := h
    refine ⟨_, (pss_one (ps_ret (pe_and (pe_callB (call_isiK' (K := K) rfl) (by rfl) T.b_isinstance (by decide +kernel) (pa_cons (pv 0) (pa_cons (pe_bltn (v := .ty "int") (u := .type "int") (by rfl) T.b_int (by decide +kernel) rfl) pa_nil))) (pe_one (pe_not (pe_callB (call_isiK' (K := K) rfl) (by rfl) T.b_isinstance (by decide +kernel) (pa_cons (pv 0) (pa_cons (pe_bltn (v := .ty "bool") (u := .type "bool") (by rfl) T.b_bool (by decide +kernel) rfl) pa_nil)))))))), ?_⟩
    walk_at "go"
    rcases q with ⟨i, rfl, q⟩ | ⟨⟨t, ty, h | ⟨h1, h2⟩⟩, q⟩
    · refine ⟨_, _, _, _, true, rfl, .ty _, .base (.int _), kit_ty (by decide +kernel), ?_⟩
      walk_at "go"
      refine ⟨_, _, _, _, false, rfl, .ty _, .base (.int _), kit_ty (by decide +kernel), ?_⟩
      walk_at "go"
      exact q
    · refine ⟨_, _, _, _, false, rfl, .ty _, ty, h, ?_⟩
      walk_at "go"
      exact q
    · refine ⟨_, _, _, _, true, rfl, .ty _, ty, h1, ?_⟩
      walk_at "go"
      refine ⟨_, _, _, _, true, rfl, .ty _, ty, h2, ?_⟩
      walk_at "go"
      exact q
def spIsWhole (K : PySem.W.Frag) : Sp := fun vs H Q _ => ∃ v lo hi, vs = [v, .int lo, .int hi] ∧ ((∃ i, v = .int i ∧ Q (.bl (decide (lo ≤ i ∧ i ≤ hi))) H) ∨ (NotInt K H v ∧ Q (.bl false) H))
theorem ok_is_whole (T : Top K mg AD) : FnOk P w K mg base CX0 2 AD.f_is_whole AD.d_is_whole P_is_whole (spIsWhole K) := by
  refine T.D_is_whole.F.ok sc_is_whole (fun vs H Q E h => ?_) (fun cdv A outer s H vs Q E hr h => ?_)
  · obtain ⟨v, lo, hi, rfl, _⟩ := h
    rfl
  · obtain ⟨v, lo, hi, rfl, q⟩ := h
    refine ⟨_, (pss_one (ps_ret (pe_and (callD T.D_is_number (ok_is_number T) hr (pa_cons (pv 0) pa_nil)) (pe_one (pe_chain op_le op_le (pv 1) (pv 0) (pv 2)))))), ?_⟩
    walk_at "go"
    rcases q with ⟨i, rfl, q⟩ | ⟨ni, q⟩
    · refine .inl ⟨i, rfl, ?_⟩
      walk_at "go"
      refine ite2 (fun e => ?_) (fun e => ?_)
      · have e1 := of_decide_eq_true e
        walk_at "go"
        rw [show decide (lo ≤ i ∧ i ≤ hi) = decide (i ≤ hi) by simp [e1]] at q
        exact q
      · have e1 : ¬ lo ≤ i := fun z => e (decide_eq_true z)
        walk_at "go"
        rwa [show decide (lo ≤ i ∧ i ≤ hi) = false by simp [e1]] at q
    · refine .inr ⟨ni, ?_⟩
      walk_at "go"
      exact q
theorem ColAt.mono {C x : Addr} {l : List Nat} {H H' : Hp} (h : ColAt C H x l) (k : ∀ o, H x = some o → H' x = some o) : ColAt C H' x l := let ⟨dx, e⟩ := h; ⟨dx, k _ e⟩
theorem col_ty (T : Top K mg AD) {H : Hp} {x : Addr} {l : List Nat} (h : ColAt AD.C_Column H x l) : TyX K H (.ref x) (.ref AD.C_Column) := let ⟨dx, e⟩ := h; .base (.ins e T.cl_Column T.i1_Column T.i2 T.i3 T.i4_Column)
def spColEq (C : Addr) : Sp := fun vs H Q _ => ∃ a y l, vs = [.ref a, y] ∧ ColAt C H a l ∧ ((∃ b m, y = .ref b ∧ ColAt C H b m ∧ Q (.bl (decide (l = m))) H) ∨ (∃ z, y = .str z ∧ Q (.bl false) H))
theorem ok_Column___eq__ (T : Top K mg AD) : FnOk P w K mg base CX0 1 AD.f_Column___eq__ AD.d_Column___eq__ P_Column___eq__ (spColEq AD.C_Column) := by
  refine T.D_Column___eq__.F.ok sc_Column___eq__ (fun vs H Q E h => ?_) (fun cdv A outer s H vs Q E hr h => ?_)
  · obtain ⟨a, y, l, rfl, _⟩ := h
    rfl
  · obtain ⟨a, y, l, rfl, ca, q⟩ := h
    have cl := T.cl_Column
    have nw := T.n_Column_word
    obtain ⟨dx, ea⟩ := ca
    refine ⟨_, (pss_one (ps_ret (pe_and (pe_callB (call_isiK' (K := K) rfl) (by rfl) T.b_isinstance (by decide +kernel) (pa_cons (pv 1) (pa_cons (pe_glob (v := .ref AD.C_Column) rfl T.g_Column rfl) pa_nil))) (pe_one (pe_cmpR op_eq (pe_fld (pv 0) rfl) (pe_fld (pv 1) rfl) (nomark _)))))), ?_⟩
    walk_at "go"
    rcases q with ⟨b, m, rfl, cb, q⟩ | ⟨z, rfl, q⟩
    · refine ⟨_, _, _, _, true, rfl, .own _, col_ty T cb, T.ii_Column, ?_⟩
      obtain ⟨dy, eb⟩ := cb
      walk_at "go"
      refine And.intro rfl ?_
      rwa [show decide (V.str (sOf l) = V.str (sOf m)) = decide (l = m) from decide_eq_decide.mpr str_eq]
    · refine ⟨_, _, _, _, false, rfl, .own _, .base (.str _), T.it_str_Column, ?_⟩
      walk_at "go"
      exact q
def spColStr (C : Addr) : Sp := fun vs H Q _ => ∃ a l, vs = [.ref a] ∧ ColAt C H a l ∧ Q (.str (sOf l)) H
theorem ok_Column___str__ (T : Top K mg AD) : FnOk P w K mg base CX0 1 AD.f_Column___str__ AD.d_Column___str__ P_Column___str__ (spColStr AD.C_Column) := by
  refine T.D_Column___str__.F.ok sc_Column___str__ (fun vs H Q E h => ?_) (fun cdv A outer s H vs Q E hr h => ?_)
  · obtain ⟨a, l, rfl, _⟩ := h
    rfl
  · obtain ⟨a, l, rfl, ⟨dx, ea⟩, q⟩ := h
    have cl := T.cl_Column
    have nw := T.n_Column_word
    refine ⟨_, (pss_one (ps_ret (pe_callTy SkE.call_str_str (by rfl) T.b_str (by decide +kernel) (pa_cons (pe_fld (pv 0) rfl) pa_nil)))), ?_⟩
    walk_at "go"
    exact q
theorem ok_Column___len__ (T : Top K mg AD) : FnOk P w K mg base CX0 1 AD.f_Column___len__ AD.d_Column___len__ P_Column___len__ (spLenS AD.C_Column "word") := by
  refine T.D_Column___len__.F.ok sc_Column___len__ (fun vs H Q E h => ?_) (fun cdv A outer s H vs Q E hr h => ?_)
  · obtain ⟨a, dx, fs, x, rfl, _⟩ := h
    rfl
  · obtain ⟨a, dx, fs, x, rfl, ha, hl, hz, q⟩ := h
    refine ⟨_, (pss_one (ps_ret (pe_callB call_len_str (by rfl) T.b_len (by decide +kernel) (pa_cons (pe_fld (pv 0) rfl) pa_nil)))), ?_⟩
    walk_at "go"
    refine ⟨a, _, dx, fs, _, rfl, ha, T.cl_Column, T.n_Column_word, hl, ?_⟩
    walk_at "go"
    exact ⟨szl hz, q⟩
theorem ok_Column___iter__ (T : Top K mg AD) : FnOk P w K mg base CX0 1 AD.f_Column___iter__ AD.d_Column___iter__ P_Column___iter__ (spItS AD.C_Column "word" base.objs.size) := by
  refine T.D_Column___iter__.F.ok sc_Column___iter__ (fun vs H Q E h => ?_) (fun cdv A outer s H vs Q E hr h => ?_)
  · obtain ⟨a, dx, fs, x, rfl, _⟩ := h
    rfl
  · obtain ⟨a, dx, fs, x, rfl, ha, hl, q⟩ := h
    refine ⟨_, (pss_one (ps_ret (pe_callB call_iterS (by rfl) T.b_iter (by decide +kernel) (pa_cons (pe_fld (pv 0) rfl) pa_nil)))), ?_⟩
    walk_at "go"
    refine ⟨a, _, dx, fs, _, rfl, ha, T.cl_Column, T.n_Column_word, hl, ?_⟩
    walk_at "go"
    exact fun it n1 n2 => q it n1 n2
end

/-! ### the law's own judge of words -/
section
variable {P : Program} {w : World} {K : PySem.W.Frag} {mg : Str → Option Value} {base : Heap} {AD : Ads}
/-- not opened by itself: an inductive -/
inductive spDue (K : PySem.W.Frag) (vs : List V) (H : Hp) (Q : VK) (E : XK) : Prop where
  | is (h : ∃ v, vs = [v] ∧ ((∃ l, v = .str (sOf l) ∧ l.length ≤ 1000 ∧ ∀ H', Same H H' → Q (optV (wfault l)) H') ∨
  (∃ t, TyX K H v t ∧ PySem.W.kitOne K t (.type "str") = some false ∧ Q (.str (sOf wWord)) H)))
  | no (h : False)
theorem spDue.out {K : PySem.W.Frag} {vs : List V} {H : Hp} {Q : VK} {E : XK} (b : spDue K vs H Q E) : ∃ v, vs = [v] ∧ ((∃ l, v = .str (sOf l) ∧ l.length ≤ 1000 ∧ ∀ H', Same H H' → Q (optV (wfault l)) H') ∨
  (∃ t, TyX K H v t ∧ PySem.W.kitOne K t (.type "str") = some false ∧ Q (.str (sOf wWord)) H)) := by
  cases b with
  | is h => exact h
  | no h => exact h.elim
theorem ok_l_due (T : Top K mg AD) : FnOk P w K mg base CX0 1 AD.f_l_due AD.d_l_due P_l_due (spDue K) := by
  refine T.D_l_due.F.ok sc_l_due (fun vs H Q E h => ?_) (fun cdv A outer s H vs Q E hr h => ?_)
  · obtain ⟨v, rfl, _⟩ := h.out
    rfl
  · obtain ⟨v, rfl, q⟩ := h.out
    refine ⟨_, (pss_cons (ps_if (PW.pt (pw_or (pt_not (pt_val (pe_callB (call_isiK' (K := K) rfl) (by rfl) T.b_isinstance (by decide +kernel) (pa_cons (pv 0) (pa_cons (pe_bltn (v := .ty "str") (u := .type "str") (by rfl) T.b_str (by decide +kernel) rfl) pa_nil))))) (pw_or (pt_cmpR op_lt (pe_callB call_lenS (by rfl) T.b_len (by decide +kernel) (pa_cons (pv 0) pa_nil)) pe_int (nomark _)) (pw_or1 (pt_cmpR op_gt (pe_callB call_lenS (by rfl) T.b_len (by decide +kernel) (pa_cons (pv 0) pa_nil)) pe_int (nomark _))))))
    (pss_one (ps_ret (pe_s (x := Str.ofString "word") [119, 111, 114, 100] (by decide +kernel))))
    pss_nil)
    (pss_cons (ps_asg (pe_tup (pa_cons pe_int (pa_cons pe_int pa_nil))) (pg_tup (by rfl) (pgs_cons (pg_name (i := 1) sc_l_due.nd rfl (Or.inl rfl)) (pgs_cons (pg_name (i := 2) sc_l_due.nd rfl (Or.inl rfl)) pgs_nil))))
    (pss_cons (ps_set (i := 3) sc_l_due.nd rfl (Or.inl rfl) pe_int)
    (pss_cons (ps_for PassesOwn.never rfl (pi_str (pv 0)) (pg_name (i := 4) sc_l_due.nd rfl (Or.inl rfl))
    (pss_cons (ps_if (pt_cmpR op_eq (pv 4) (pe_s (x := Str.ofString "d") [100] (by decide +kernel)) (nomark _))
    (pss_cons (ps_set (i := 1) sc_l_due.nd rfl (Or.inl rfl) (pe_op op_add (pv 1) pe_int))
    (pss_one (ps_set (i := 2) sc_l_due.nd rfl (Or.inl rfl) (pe_op op_add (pv 2) pe_int))))
    (pss_one (ps_if (pt_cmpR op_eq (pv 4) (pe_s (x := Str.ofString "o") [111] (by decide +kernel)) (nomark _))
    (pss_one (ps_set (i := 1) sc_l_due.nd rfl (Or.inl rfl) (pe_op op_sub (pv 1) pe_int)))
    (pss_one (ps_ret (pe_s (x := Str.ofString "word") [119, 111, 114, 100] (by decide +kernel)))))))
    (pss_one (ps_set (i := 3) sc_l_due.nd rfl (Or.inl rfl) (pe_callB (call_min2 rfl) (by rfl) T.b_min (by decide +kernel) (pa_cons (pv 3) (pa_cons (pv 1) pa_nil)))))))
    (pss_cons (ps_if (pt_cmpR op_ne (pv 1) pe_int (nomark _))
    (pss_one (ps_ret (pe_s (x := Str.ofString "count") [99, 111, 117, 110, 116] (by decide +kernel))))
    pss_nil)
    (pss_one (ps_ret (pe_ifExp (pt_cmpR op_lt (pv 3) pe_int (nomark _)) (pe_s (x := Str.ofString "below") [98, 101, 108, 111, 119] (by decide +kernel)) pe_non)))))))), ?_⟩
    walk_at "go"
    rcases q with ⟨l, rfl, hl, q⟩ | ⟨t, ty, kt, q⟩
    · refine ⟨_, _, _, _, true, rfl, .ty _, .base (.str _), kit_ty (by decide +kernel), ?_⟩
      walk_at "go"
      refine ite2 (fun e => ?_) (fun e => ?_)
      · have e1 := of_decide_eq_true e
        walk_at "go"
        have q1 := q H (Same.refl H)
        rw [show wfault l = some wWord by unfold wfault; rw [if_neg (by omega)]] at q1
        exact q1
      have f2 : 2 ≤ l.length := by have : ¬ ((l.length : Nat) : Int) < 2 := fun z => e (decide_eq_true z); omega
      walk_at "go"
      refine ite2 (fun e => ?_) (fun e => ?_)
      · have e1 := of_decide_eq_true e
        walk_at "go"
        have q1 := q H (Same.refl H)
        rw [show wfault l = some wWord by unfold wfault; rw [if_neg (by omega)]] at q1
        exact q1
      have f12 : l.length ≤ 12 := by have : ¬ (12 : Int) < (l.length : Nat) := fun z => e (decide_eq_true z); omega
      walk_at "go"
      refine ⟨szl (by decide), fun tp htp => ⟨tp, [.int 0, .int 0], rfl, SqT.of upd_same, rfl, _, _, rfl, _, _, rfl, rfl, ?_⟩⟩
      have s2 : Same H (upd H tp (.tup [.int 0, .int 0])) := same_new (Same.refl H) htp
      generalize upd H tp (.tup [.int 0, .int 0]) = H2 at s2 ⊢
      walk_at "go"
      refine for_it walk_S (fun i σ H' => ∃ (low : Int) (o4 : Option V), σ = [some (.str (sOf l)), some (.int (ht l i)), some (.int ((l.take i).count 100 : Nat)), some (.int low), o4] ∧ H' = H2 ∧ LowIs l i low ∧ (∀ c ∈ l.take i, c = 100 ∨ c = 111))
        ⟨0, none, by rw [ht_zero, cnt_zero]; rfl, rfl, ⟨by omega, fun k hk => by
          obtain rfl : k = 0 := by omega
          rw [ht_zero]; exact Int.le_refl 0, .inl rfl⟩, by simp⟩ (fun _ _ _ _ _ => trivial) ?_ ?_
      · rintro i x σ H1 H3 hi ⟨low, o4, rfl, rfl, lo, al⟩ ⟨rfl, c, hc, rfl⟩
        have hs := ht_succ hc
        have tk : l.take (i + 1) = l.take i ++ [c] := by rw [List.take_add_one, hc]; rfl
        walk_at "go"
        refine ite2 (fun e => ?_) (fun e => ?_)
        · have ec : c = 100 := by simpa using sOf_inj.mp (V.str.inj (of_decide_eq_true e))
          subst ec
          have z1 : ht l i + 1 = ht l (i + 1) := by rw [hs]; simp
          have z2 : (((l.take i).count 100 : Nat) : Int) + 1 = ((l.take (i + 1)).count 100 : Nat) := by rw [tk, List.count_append, count_sign]; simp
          walk_at "go"
          refine ⟨_, _, rfl, ?_⟩
          exact ⟨_, _, by rw [← z1, ← z2]; rfl, rfl, lo.next z1, fun x hx => by
            rw [tk] at hx
            rcases List.mem_append.mp hx with hx | hx
            · exact al x hx
            · exact .inl (List.mem_singleton.mp hx)⟩
        · have n1 : ¬ c = 100 := fun z => e (by rw [z]; exact decide_eq_true rfl)
          walk_at "go"
          refine ite2 (fun e => ?_) (fun e => ?_)
          · have ec : c = 111 := by simpa using sOf_inj.mp (V.str.inj (of_decide_eq_true e))
            subst ec
            have z1 : ht l i - 1 = ht l (i + 1) := by rw [hs]; simp
            have z2 : (((l.take i).count 100 : Nat) : Int) = ((l.take (i + 1)).count 100 : Nat) := by rw [tk, List.count_append, count_sign]; simp
            walk_at "go"
            refine ⟨_, _, rfl, ?_⟩
            exact ⟨_, _, by rw [← z1, ← z2]; rfl, rfl, lo.next z1, fun x hx => by
              rw [tk] at hx
              rcases List.mem_append.mp hx with hx | hx
              · exact al x hx
              · exact .inr (List.mem_singleton.mp hx)⟩
          · have n2 : ¬ c = 111 := fun z => e (by rw [z]; exact decide_eq_true rfl)
            walk_at "go"
            have f : wfault l = some wWord := by
              have e3 : ¬ ltrs l = true := fun z => by
                have := List.all_eq_true.mp z c (List.mem_of_getElem? hc)
                simp [n1, n2] at this
              unfold wfault
              rw [if_pos ⟨f2, f12⟩, if_neg e3]
            have q1 := q _ s2
            rw [f] at q1
            exact q1
      · rintro σ H1 ⟨low, o4, rfl, rfl, lo, al⟩
        rw [List.take_length] at al
        have fl : ltrs l = true := List.all_eq_true.mpr fun c hc => by
          rcases al c hc with e | e <;> simp [e]
        walk_at "go"
        refine ite2 (fun e => ?_) (fun e => ?_)
        · have f : wfault l = some wCount := by
            have e3 : ¬ l.count 100 = l.count 111 := fun z => by
              have : ht l l.length = 0 := by unfold ht; rw [List.take_length]; omega
              rw [this] at e
              simp at e
            unfold wfault
            rw [if_pos ⟨f2, f12⟩, if_pos fl, if_neg e3]
          walk_at "go"
          have q1 := q _ s2
          rw [f] at q1
          exact q1
        · have h0 : ht l l.length = 0 := by simpa using e
          have fc : l.count 100 = l.count 111 := by
            unfold ht at h0
            rw [List.take_length] at h0
            omega
          walk_at "go"
          refine ite2 (fun e => ?_) (fun e => ?_)
          · have f : wfault l = some wBelow := by
              unfold wfault
              rw [if_pos ⟨f2, f12⟩, if_pos fl, if_pos fc, if_pos ((lo.fault h0).mpr (of_decide_eq_true e))]
            walk_at "go"
            have q1 := q _ s2
            rw [f] at q1
            exact q1
          · have f : wfault l = none := by
              unfold wfault
              rw [if_pos ⟨f2, f12⟩, if_pos fl, if_pos fc, if_neg fun z => e (decide_eq_true ((lo.fault h0).mp z))]
            walk_at "go"
            have q1 := q _ s2
            rw [f] at q1
            exact q1
    · refine ⟨_, _, _, _, false, rfl, .ty _, ty, kt, ?_⟩
      walk_at "go"
      exact q
end

/-! ### what is made of a word -/
/-- what is no text, as the law makes it -/
inductive NoText (H : Hp) : V → Prop where
  | non : NoText H .non
  | int (i : Int) : NoText H (.int i)
  | bl (b : Bool) : NoText H (.bl b)
  | lst {p : Addr} {xs : List V} (e : H p = some (.lst xs)) : NoText H (.ref p)
  | tup {p : Addr} {xs : List V} (e : H p = some (.tup xs)) : NoText H (.ref p)
theorem NoText.mono {H H' : Hp} {v : V} (n : NoText H v) (s : Same H H') : NoText H' v := by
  cases n with
  | non => exact .non
  | int i => exact .int i
  | bl b => exact .bl b
  | lst e => exact .lst (s _ _ e)
  | tup e => exact .tup (s _ _ e)
theorem NoText.ty {K : PySem.W.Frag} {H : Hp} {v : V} (n : NoText H v) : ∃ t, TyX K H v t ∧ PySem.W.kitOne K t (.type "str") = some false := by
  cases n with
  | non => exact ⟨_, .base .non, kit_ty (by decide +kernel)⟩
  | int i => exact ⟨_, .base (.int i), kit_ty (by decide +kernel)⟩
  | bl b => exact ⟨_, .base (.bl b), kit_ty (by decide +kernel)⟩
  | lst e => exact ⟨_, .base (.lst e), kit_ty (by decide +kernel)⟩
  | tup e => exact ⟨_, .base (.tup e), kit_ty (by decide +kernel)⟩
/-- a text or what is none -/
def Thing (H : Hp) (v : V) : Prop := (∃ m : List Nat, v = .str (sOf m) ∧ m.length ≤ 1000) ∨ NoText H v
theorem at7 {d : Int} (h0 : 0 ≤ d) (h1 : d < 7) : ∃ c, atI [100, 111, 120, 68, 79, 48, 32] d = some c := by
  have : d = 0 ∨ d = 1 ∨ d = 2 ∨ d = 3 ∨ d = 4 ∨ d = 5 ∨ d = 6 := by omega
  rcases this with rfl | rfl | rfl | rfl | rfl | rfl | rfl <;> exact ⟨_, rfl⟩
theorem HandOk.some {H : Hp} {a : Addr} (h : HandOk H a) : ∃ o, H a = Option.some o := let ⟨_, _, _, _, _, e, _⟩ := h; ⟨_, e⟩
theorem HandOk.same {H H' : Hp} {a : Addr} (h : HandOk H a) (s : Same H H') : HandOk H' a := let ⟨l, cs, p, q, r, e, e2, z⟩ := h; ⟨l, cs, p, q, r, s _ _ e, s _ _ e2, z⟩
section
variable {P : Program} {w : World} {K : PySem.W.Frag} {mg : Str → Option Value} {base : Heap} {AD : Ads}
def spSpoilt : Sp := fun vs H Q _ => ∃ a l, vs = [.ref a, .str (sOf l)] ∧ HandOk H a ∧ (1 ≤ l.length ∧ l.length ≤ 12) ∧ ∀ v H', But a H H' → HandOk H' a → Thing H' v → Q v H'
theorem ok_l_spoilt (T : Top K mg AD) : FnOk P w K mg base CX0 3 AD.f_l_spoilt AD.d_l_spoilt P_l_spoilt spSpoilt := by
  refine T.D_l_spoilt.F.ok sc_l_spoilt (fun vs H Q E h => ?_) (fun cdv A outer s H vs Q E hr h => ?_)
  · obtain ⟨a, l, rfl, _⟩ := h
    rfl
  · obtain ⟨a, l, rfl, hd, ⟨l1, l12⟩, q⟩ := h
    refine ⟨_, (pss_cons (ps_set (i := 2) sc_l_spoilt.nd rfl (Or.inl rfl) (callD T.D_l_draw (ok_l_draw T) hr (pa_cons (pv 0) (pa_cons (pe_callB call_lenS (by rfl) T.b_len (by decide +kernel) (pa_cons (pv 1) pa_nil)) pa_nil))))
    (pss_cons (ps_set (i := 3) sc_l_spoilt.nd rfl (Or.inl rfl) (pe_ix ix_S (pe_s (x := Str.ofString "doxDO0 ") [100, 111, 120, 68, 79, 48, 32] (by decide +kernel)) (callD T.D_l_draw (ok_l_draw T) hr (pa_cons (pv 0) (pa_cons pe_int pa_nil))) (fun _ _ => rfl)))
    (pss_cons (ps_set (i := 4) sc_l_spoilt.nd rfl (Or.inl rfl) (callD T.D_l_draw (ok_l_draw T) hr (pa_cons (pv 0) (pa_cons pe_int pa_nil))))
    (pss_cons (ps_if (pt_cmpR op_eq (pv 4) pe_int (nomark _))
    (pss_one (ps_ret (pe_op op_addS (pe_op op_addS (pe_slice sl_S (pv 1) po_none (po_some (pv 2))) (pv 3)) (pe_slice sl_S (pv 1) (po_some (pv 2)) po_none))))
    pss_nil)
    (pss_cons (ps_if (pt_cmpR op_eq (pv 4) pe_int (nomark _))
    (pss_one (ps_ret (pe_op op_addS (pe_slice sl_S (pv 1) po_none (po_some (pv 2))) (pe_slice sl_S (pv 1) (po_some (pe_op op_add (pv 2) pe_int)) po_none))))
    pss_nil)
    (pss_cons (ps_if (pt_cmpR op_eq (pv 4) pe_int (nomark _))
    (pss_one (ps_ret (pe_op op_addS (pe_op op_addS (pe_slice sl_S (pv 1) po_none (po_some (pv 2))) (pv 3)) (pe_slice sl_S (pv 1) (po_some (pe_op op_add (pv 2) pe_int)) po_none))))
    pss_nil)
    (pss_cons (ps_if (pt_cmpR op_eq (pv 4) pe_int (nomark _))
    (pss_one (ps_ret (pe_op op_addS (pe_slice sl_S (pv 1) (po_some (pv 2)) po_none) (pe_slice sl_S (pv 1) po_none (po_some (pv 2))))))
    pss_nil)
    (pss_cons (ps_if (pt_cmpR op_eq (pv 4) pe_int (nomark _))
    (pss_one (ps_ret (pe_revS (pv 1))))
    pss_nil)
    (pss_cons (ps_if (pt_cmpR op_eq (pv 4) pe_int (nomark _))
    (pss_one (ps_ret (pe_op op_addS (pe_op op_addS (pe_slice sl_S (pv 1) po_none (po_some (pv 2))) (pe_s (x := Str.ofString "do") [100, 111] (by decide +kernel))) (pe_slice sl_S (pv 1) (po_some (pv 2)) po_none))))
    pss_nil)
    (pss_cons (ps_if (pt_cmpR op_eq (pv 4) pe_int (nomark _))
    (pss_one (ps_ret (pe_ix (ix_listK (K := K) rfl) (pe_lst (pa_cons pe_non (pa_cons (pv 2) (pa_cons pe_bl (pa_cons (pe_callTy (call_listStr rfl) (by rfl) T.b_list (by decide +kernel) (pa_cons (pv 1) pa_nil)) (pa_cons (pe_tup (pa_cons (pv 1) pa_nil)) (pa_cons (pe_un un_neg pe_int) pa_nil))))))) (callD T.D_l_draw (ok_l_draw T) hr (pa_cons (pv 0) (pa_cons pe_int pa_nil))) (fun _ _ => rfl))))
    pss_nil)
    (pss_cons (ps_if (pt_cmpR op_eq (pv 4) pe_int (nomark _))
    (pss_one (ps_ret (pe_slice sl_S (pv 1) po_none (po_some (pv 2)))))
    pss_nil)
    (pss_cons (ps_if (pt_cmpR op_eq (pv 4) pe_int (nomark _))
    (pss_one (ps_ret (pe_op op_addS (pv 1) (pv 1))))
    pss_nil)
    (pss_one (ps_ret (pv 1))))))))))))))), ?_⟩
    walk_at "go"
    refine ⟨_, _, rfl, hd, cdivw (by omega) (by omega), fun d1 H1 d10 d11 b1 hd1 => ?_⟩
    walk_at "go"
    refine ⟨_, _, rfl, hd1, cdivw (by decide) (by decide), fun d2 H2 d20 d21 b2 hd2 => ?_⟩
    obtain ⟨c, hc⟩ := at7 d20 d21
    walk_at "go"
    refine ⟨_, d2, c, rfl, rfl, by decide, hc, ?_⟩
    walk_at "go"
    refine ⟨_, _, rfl, hd2, cdivw (by decide) (by decide), fun d3 H3 d30 d31 b3 hd3 => ?_⟩
    walk_at "go"
    have bb := (b1.trans b2).trans b3
    have c1 := cutN_len l none (some d1)
    have c2 := cutN_len l (some d1) none
    have c3 := cutN_len l (some (d1 + 1)) none
    refine ite2 (fun e => ?_) (fun e => ?_)
    · walk_at "go"
      exact q _ _ bb hd3 (.inl ⟨_, rfl, by simp only [List.length_append, List.length_cons, List.length_nil]; omega⟩)
    walk_at "go"
    refine ite2 (fun e => ?_) (fun e => ?_)
    · walk_at "go"
      exact q _ _ bb hd3 (.inl ⟨_, rfl, by simp only [List.length_append, List.length_cons, List.length_nil]; omega⟩)
    walk_at "go"
    refine ite2 (fun e => ?_) (fun e => ?_)
    · walk_at "go"
      exact q _ _ bb hd3 (.inl ⟨_, rfl, by simp only [List.length_append, List.length_cons, List.length_nil]; omega⟩)
    walk_at "go"
    refine ite2 (fun e => ?_) (fun e => ?_)
    · walk_at "go"
      exact q _ _ bb hd3 (.inl ⟨_, rfl, by simp only [List.length_append, List.length_cons, List.length_nil]; omega⟩)
    walk_at "go"
    refine ite2 (fun e => ?_) (fun e => ?_)
    · walk_at "go"
      exact q _ _ bb hd3 (.inl ⟨_, rfl, by rw [List.length_reverse]; omega⟩)
    walk_at "go"
    refine ite2 (fun e => ?_) (fun e => ?_)
    · walk_at "go"
      exact q _ _ bb hd3 (.inl ⟨_, rfl, by simp only [List.length_append, List.length_cons, List.length_nil]; omega⟩)
    walk_at "go"
    refine ite2 (fun e => ?_) (fun e => ?_)
    · walk_at "go"
      refine ⟨by rw [sOf_len]; omega, fun L hL => ?_⟩
      walk_at "go"
      refine ⟨szl (by show 1 ≤ 1000; decide), fun tp htp => ?_⟩
      walk_at "go"
      refine ⟨szl (by show 6 ≤ 1000; decide), fun ls hls => ?_⟩
      have s4 : Same H3 (upd H3 L (.lst (signs (sOf l)))) := same_new (Same.refl _) hL
      have s5 := same_new (o := .tup [.str (sOf l)]) s4 htp
      have s6 := same_new (o := .lst [.non, .int d1, .bl true, .ref L, .ref tp, .int (-1)]) s5 hls
      have e1 : upd H3 L (.lst (signs (sOf l))) L = some (.lst (signs (sOf l))) := upd_same
      have e2 : upd (upd H3 L (.lst (signs (sOf l)))) tp (.tup [.str (sOf l)]) L = some (.lst (signs (sOf l))) := (upd_ne (ne_of_none e1 htp)).trans e1
      have e3 : upd (upd H3 L (.lst (signs (sOf l)))) tp (.tup [.str (sOf l)]) tp = some (.tup [.str (sOf l)]) := upd_same
      have e4 : upd (upd (upd H3 L (.lst (signs (sOf l)))) tp (.tup [.str (sOf l)])) ls (.lst [.non, .int d1, .bl true, .ref L, .ref tp, .int (-1)]) L = some (.lst (signs (sOf l))) := (upd_ne (ne_of_none e2 hls)).trans e2
      have e5 : upd (upd (upd H3 L (.lst (signs (sOf l)))) tp (.tup [.str (sOf l)])) ls (.lst [.non, .int d1, .bl true, .ref L, .ref tp, .int (-1)]) tp = some (.tup [.str (sOf l)]) := (upd_ne (ne_of_none e3 hls)).trans e3
      have e6 : upd (upd (upd H3 L (.lst (signs (sOf l)))) tp (.tup [.str (sOf l)])) ls (.lst [.non, .int d1, .bl true, .ref L, .ref tp, .int (-1)]) ls = some (.lst [.non, .int d1, .bl true, .ref L, .ref tp, .int (-1)]) := upd_same
      obtain ⟨v3, x3⟩ := hd3.some
      have aL : L ≠ a := fun z => by rw [z, x3] at hL; cases hL
      have at_ : tp ≠ a := fun z => by rw [z, s4 _ _ x3] at htp; cases htp
      have as : ls ≠ a := fun z => by rw [z, s5 _ _ x3] at hls; cases hls
      generalize upd (upd (upd H3 L (.lst (signs (sOf l)))) tp (.tup [.str (sOf l)])) ls (.lst [.non, .int d1, .bl true, .ref L, .ref tp, .int (-1)]) = H4 at s6 e4 e5 e6 ⊢
      walk_at "go"
      refine ⟨_, _, rfl, hd3.same s6, cdivw (by decide) (by decide), fun d4 H5 d40 d41 b5 hd5 => ?_⟩
      have g4 := b5 _ _ aL e4
      have g5 := b5 _ _ at_ e5
      have g6 := b5 _ _ as e6
      have bb5 : But a H H5 := fun z o nz e => b5 z o nz (s6 _ _ (bb z o nz e))
      have : d4 = 0 ∨ d4 = 1 ∨ d4 = 2 ∨ d4 = 3 ∨ d4 = 4 ∨ d4 = 5 := by omega
      rcases this with rfl | rfl | rfl | rfl | rfl | rfl
      · exact ⟨ls, _, _, _, rfl, rfl, SqL.of g6, rfl, q _ _ bb5 hd5 (.inr .non)⟩
      · exact ⟨ls, _, _, _, rfl, rfl, SqL.of g6, rfl, q _ _ bb5 hd5 (.inr (.int _))⟩
      · exact ⟨ls, _, _, _, rfl, rfl, SqL.of g6, rfl, q _ _ bb5 hd5 (.inr (.bl _))⟩
      · exact ⟨ls, _, _, _, rfl, rfl, SqL.of g6, rfl, q _ _ bb5 hd5 (.inr (.lst g4))⟩
      · exact ⟨ls, _, _, _, rfl, rfl, SqL.of g6, rfl, q _ _ bb5 hd5 (.inr (.tup g5))⟩
      · exact ⟨ls, _, _, _, rfl, rfl, SqL.of g6, rfl, q _ _ bb5 hd5 (.inr (.int _))⟩
    walk_at "go"
    refine ite2 (fun e => ?_) (fun e => ?_)
    · walk_at "go"
      exact q _ _ bb hd3 (.inl ⟨_, rfl, by omega⟩)
    walk_at "go"
    refine ite2 (fun e => ?_) (fun e => ?_)
    · walk_at "go"
      exact q _ _ bb hd3 (.inl ⟨_, rfl, by simp only [List.length_append]; omega⟩)
    walk_at "go"
    exact q _ _ bb hd3 (.inl ⟨_, rfl, by omega⟩)
end

/-! ### a column made or refused -/
theorem ty_same {K : PySem.W.Frag} {H H' : Hp} {v : V} {t : Value} (h : TyX K H v t) (s : Same H H') : TyX K H' v t := by
  cases h with
  | base b =>
    cases b with
    | non => exact .base .non
    | bl x => exact .base (.bl x)
    | int i => exact .base (.int i)
    | str x => exact .base (.str x)
    | flt x => exact .base (.flt x)
    | lst e => exact .base (.lst (s _ _ e))
    | frz e => exact .base (.frz (s _ _ e))
    | tup e => exact .base (.tup (s _ _ e))
    | dK e => exact .base (.dK (s _ _ e))
    | dT e => exact .base (.dT (s _ _ e))
    | ins e a b c d f => exact .base (.ins (s _ _ e) a b c d f)
  | byt b => exact .byt b
  | set e => exact .set (s _ _ e)
  | kList e c => exact .kList e c
  | kTuple e c => exact .kTuple e c
  | kDict e c => exact .kDict e c
  | fTuple e => exact .fTuple (s _ _ e)
  | fDict e => exact .fDict (s _ _ e)
section
variable {P : Program} {w : World} {K : PySem.W.Frag} {mg : Str → Option Value} {base : Heap} {AD : Ads}
def wRefused : List Nat := [114, 101, 102, 117, 115, 101, 100]
def wMade : List Nat := [109, 97, 100, 101]
/-- not opened by itself: an inductive -/
inductive spMade (K : PySem.W.Frag) (vs : List V) (H : Hp) (Q : VK) (E : XK) : Prop where
  | is (h : ∃ v, vs = [v] ∧ ((∃ l, v = .str (sOf l) ∧ l.length ≤ 1000 ∧ ∀ p H', Same H H' → H' p = some (.tup (match wfault l with
    | none => [.str (sOf wMade), .str (sOf l)]
    | some f => [.str (sOf wRefused), .str (sOf f)])) → Q (.ref p) H') ∨
  (∃ t, TyX K H v t ∧ PySem.W.kitOne K t (.type "str") = some false ∧ ∀ p H', Same H H' → H' p = some (.tup [.str (sOf wRefused), .str (sOf wWord)]) → Q (.ref p) H')))
  | no (h : False)
theorem spMade.out {K : PySem.W.Frag} {vs : List V} {H : Hp} {Q : VK} {E : XK} (b : spMade K vs H Q E) : ∃ v, vs = [v] ∧ ((∃ l, v = .str (sOf l) ∧ l.length ≤ 1000 ∧ ∀ p H', Same H H' → H' p = some (.tup (match wfault l with
    | none => [.str (sOf wMade), .str (sOf l)]
    | some f => [.str (sOf wRefused), .str (sOf f)])) → Q (.ref p) H') ∨
  (∃ t, TyX K H v t ∧ PySem.W.kitOne K t (.type "str") = some false ∧ ∀ p H', Same H H' → H' p = some (.tup [.str (sOf wRefused), .str (sOf wWord)]) → Q (.ref p) H')) := by
  cases b with
  | is h => exact h
  | no h => exact h.elim
theorem ok_l_made (T : Top K mg AD) : FnOk P w K mg base CX0 5 AD.f_l_made AD.d_l_made P_l_made (spMade K) := by
  refine T.D_l_made.F.ok sc_l_made (fun vs H Q E h => ?_) (fun cdv A outer s H vs Q E hr h => ?_)
  · obtain ⟨a, rfl, _⟩ := h.out
    rfl
  · obtain ⟨v, rfl, q⟩ := h.out
    refine ⟨_, (pss_cons (ps_try_as (i := 2) rfl rfl sc_l_made.nd rfl rfl ⟨rfl, by decide, Or.inl T.g_BadColumn⟩ (takes0 (X := _))
    (fun W pn xe tk _ => (pss_one (ps_set (i := 1) sc_l_made.nd rfl (Or.inl rfl) (pe_makeS (E := WE W) T.mk_Column (ok_Column___init__ (K := K) T) (hr.mono (by decide)) (by rfl) T.g_Column T.D_Column___init__.b (fun σ => passAt tk σ) (pa_cons (pv 0) pa_nil)))))
    (fun a oe cls d pn hz hf => (pss_one (ps_ret (pe_tup (pa_cons (pe_s (x := Str.ofString "refused") [114, 101, 102, 117, 115, 101, 100] (by decide +kernel)) (pa_cons (pe_xf T.x_BadColumn.xf T.n_BadColumn_what hz hf (pv 2)) pa_nil)))))))
    (pss_one (ps_ret (pe_tup (pa_cons (pe_s (x := Str.ofString "made") [109, 97, 100, 101] (by decide +kernel)) (pa_cons (pe_fld (pv 1) rfl) pa_nil)))))), ?_⟩
    walk_at "go"
    intro y dy ny ndy ne
    have s1 : Same H (upd (upd H dy (.own y)) y (.ins AD.C_Column dy [])) := same_new (same_new (Same.refl H) ndy) ((upd_ne (Ne.symm ne)).trans ny)
    refine ⟨y, dy, v, rfl, upd_same, ?_⟩
    rcases q with ⟨l, rfl, hl, q⟩ | ⟨t, ty, kt, q⟩
    · refine .inl ⟨l, rfl, hl, fun hw H' bt ca => ⟨rfl, ?_⟩, fun f hw d H' s' nd ed => ?_⟩
      · obtain ⟨dx, ea⟩ := ca
        have cl := T.cl_Column
        have nw := T.n_Column_word
        walk_at "go"
        refine ⟨szl (by show 2 ≤ 1000; decide), fun p hp => ?_⟩
        refine q p _ (same_new (fun b o e => bt b o (ne_of_none e ny) (s1 b o e)) hp) ?_
        rw [hw]
        exact upd_same
      · rw [hw] at q
        refine ⟨true, T.x_BadColumn.me, fun _ a na => ?_, fun z => absurd z (by decide)⟩
        walk_at "go"
        refine ⟨rfl, rfl, d, _, _, rfl, ed, rfl, ?_⟩
        walk_at "go"
        refine ⟨szl (by show 2 ≤ 1000; decide), fun p hp => ?_⟩
        exact q p _ (same_new (s1.trans s') hp) upd_same
    · refine .inr ⟨t, ty_same ty s1, kt, fun d H' s' nd ed => ?_⟩
      refine ⟨true, T.x_BadColumn.me, fun _ a na => ?_, fun z => absurd z (by decide)⟩
      walk_at "go"
      refine ⟨rfl, rfl, d, _, _, rfl, ed, rfl, ?_⟩
      walk_at "go"
      refine ⟨szl (by show 2 ≤ 1000; decide), fun p hp => ?_⟩
      exact q p _ (same_new (s1.trans s') hp) upd_same
end

/-! ### what the law asks of a thing -/
theorem low_codes : (∀ c ∈ wWord, c < 1114112) ∧ (∀ c ∈ wCount, c < 1114112) ∧ (∀ c ∈ wBelow, c < 1114112) ∧ (∀ c ∈ wMade, c < 1114112) ∧ (∀ c ∈ wRefused, c < 1114112) := by decide
theorem wfault_codes {l g : List Nat} (h : wfault l = some g) : ∀ c ∈ g, c < 1114112 := by
  obtain ⟨a, b, c, _, _⟩ := low_codes
  unfold wfault at h
  split at h
  · split at h
    · split at h
      · split at h
        · cases h; exact c
        · cases h
      · cases h; exact b
    · cases h; exact a
  · cases h; exact a
theorem wnone_codes {l : List Nat} (h : wfault l = none) : ∀ c ∈ l, c < 1114112 := by
  unfold wfault at h
  split at h
  · split at h
    · rename_i _ hl
      intro c hc
      have := List.all_eq_true.mp hl c hc
      rcases Bool.or_eq_true_iff.mp this with e | e
      · have := beq_iff_eq.mp e
        omega
      · have := beq_iff_eq.mp e
        omega
    · cases h
  · cases h
/-- what is told of the thing v: f | a column of it -/
structure Told (K : PySem.W.Frag) (AD : Ads) (H : Hp) (v : V) (f : Option (List Nat)) : Prop where
  none_ : f = none → ∃ m, v = .str (sOf m) ∧ ∀ c ∈ m, c < 1114112
  some_ : ∀ g, f = some g → ∀ c ∈ g, c < 1114112
  due : ∀ H1 (Q : VK) E, Same H H1 → (∀ H2, Same H1 H2 → Q (optV f) H2) → spDue K [v] H1 Q E
  fault : ∀ H1 (Q : VK) E, Same H H1 → (∀ H2, Same H1 H2 → Q (optV f) H2) → spWf K [v] H1 Q E
  made : ∀ H1 (Q : VK) E, Same H H1 → (∀ p H2, Same H1 H2 → H2 p = some (.tup (match f with
    | none => [.str (sOf wMade), v]
    | some g => [.str (sOf wRefused), .str (sOf g)])) → Q (.ref p) H2) → spMade K [v] H1 Q E
theorem Thing.told {K : PySem.W.Frag} {AD : Ads} {H : Hp} {v : V} (th : Thing H v) : ∃ f, Told K AD H v f := by
  rcases th with ⟨m, rfl, hm⟩ | nt
  · refine ⟨wfault m, fun h => ⟨m, rfl, wnone_codes h⟩, fun g h => wfault_codes h, fun H1 Q E s q => (.is ⟨_, rfl, .inl ⟨m, rfl, hm, q⟩⟩), fun H1 Q E s q => (.is ⟨_, rfl, .inl ⟨m, rfl, hm, q⟩⟩), fun H1 Q E s q => .is ⟨_, rfl, .inl ⟨m, rfl, hm, fun p H2 s2 e => q p H2 s2 ?_⟩⟩⟩
    cases hw : wfault m with
    | none => rw [hw] at e; exact e
    | some g => rw [hw] at e; exact e
  · refine ⟨some wWord, fun h => absurd h (by simp), fun g h => (Option.some.inj h) ▸ low_codes.1, fun H1 Q E s q => ?_, fun H1 Q E s q => ?_, fun H1 Q E s q => ?_⟩
    · obtain ⟨t, ty, kt⟩ := (nt.mono s).ty (K := K)
      exact .is ⟨v, rfl, .inr ⟨t, ty, kt, q H1 (Same.refl H1)⟩⟩
    · obtain ⟨t, ty, kt⟩ := (nt.mono s).ty (K := K)
      exact .is ⟨v, rfl, .inr ⟨t, ty, kt, q H1 (Same.refl H1)⟩⟩
    · obtain ⟨t, ty, kt⟩ := (nt.mono s).ty (K := K)
      exact .is ⟨v, rfl, .inr ⟨t, ty, kt, fun p H2 s2 e => q p H2 s2 e⟩⟩
theorem wf_none {K : PySem.W.Frag} {l : List Nat} {H : Hp} {Q : VK} {E : XK} (f : wfault l = none) (hl : l.length ≤ 1000) (q : ∀ H2, Same H H2 → Q .non H2) : spWf K [.str (sOf l)] H Q E :=
  .is ⟨_, rfl, .inl ⟨l, rfl, hl, fun H2 s2 => by rw [f]; exact q H2 s2⟩⟩
theorem scal_opt : ∀ f : Option (List Nat), scal (optV f) (optV f) = true
  | none => rfl
  | some _ => rfl



/-! ### the law -/
theorem one_plus {d : Int} (h0 : 0 ≤ d) (h6 : d < 6) : ∃ n : Nat, 1 + d = n ∧ 1 ≤ n ∧ n ≤ 6 := ⟨(1 + d).toNat, by omega, by omega, by omega⟩
section
variable {P : Program} {w : World} {K : PySem.W.Frag} {mg : Str → Option Value} {base : Heap} {AD : Ads}
theorem not_same {α : Type} {a : α} [Decidable (a = a)] : (!decide (a = a)) = false := by simp
theorem eqv_ints2 (a b : Int) : PyData.eqv (.list [.int a, .int b]) (.list [.int a, .int b]) = true := by simp [PyData.eqv, PyData.eqvAll]
theorem eqv_pair_self (a b : List Nat) : PyData.eqv (.tuple [.str (sOf a), .str (sOf b)]) (.tuple [.str (sOf a), .str (sOf b)]) = true := by rw [eqv_pair]; simp
theorem iteV {c : Bool} {p q : Prop} (h1 : c = true → p) (h2 : c = false → q) : if c = true then p else q := by
  cases c
  · exact h2 rfl
  · exact h1 rfl
theorem and_join {lo N hi : Int} {i j : Nat} {σ : L2.St} {H : Hp} {R : VK} (h1 : σ[i]? = some (some (.int N))) (h2 : σ[j]? = some (some (.int hi))) (k : R (.bl (decide (lo ≤ N ∧ N ≤ hi))) H) :
    if decide (lo ≤ N) = true then tOp (rI0 fun i j => V.bl (decide (i ≤ j))) (tVar i) (tVar j) σ H R else R (.bl false) H := by
  refine iteV (fun e => ?_) (fun e => ?_)
  · have e1 := of_decide_eq_true e
    refine ⟨_, h1, _, h2, _, _, rfl, rfl, ?_⟩
    rwa [show decide (lo ≤ N ∧ N ≤ hi) = decide (N ≤ hi) by simp [e1]] at k
  · have e1 := of_decide_eq_false e
    rwa [show decide (lo ≤ N ∧ N ≤ hi) = false by simp [e1]] at k
theorem seven {K : PySem.W.Frag} {H : Hp} {ln tn : Addr} {N : Int} {z : Str} {i : Nat} {x : V} (w1 : H ln = some (.lst [.int N])) (w2 : H tn = some (.tup [.int N])) (ex : [V.bl true, .bl false, .non, .str z, .ref ln, .ref tn, .str (sOf [])][i]? = some x) : NotInt K H x := by
  have bl : ∀ b : Bool, NotInt K H (.bl b) := fun b => ⟨_, .base (.bl b), .inr ⟨kit_ty (by decide +kernel), kit_ty (by decide +kernel)⟩⟩
  have st : ∀ z : Str, NotInt K H (.str z) := fun z => ⟨_, .base (.str z), .inl (kit_ty (by decide +kernel))⟩
  match i, ex with
  | 0, ex => exact Option.some.inj ex ▸ bl _
  | 1, ex => exact Option.some.inj ex ▸ bl _
  | 2, ex => exact Option.some.inj ex ▸ ⟨_, .base .non, .inl (kit_ty (by decide +kernel))⟩
  | 3, ex => exact Option.some.inj ex ▸ st _
  | 4, ex => exact Option.some.inj ex ▸ ⟨_, .base (.lst w1), .inl (kit_ty (by decide +kernel))⟩
  | 5, ex => exact Option.some.inj ex ▸ ⟨_, .base (.tup w2), .inl (kit_ty (by decide +kernel))⟩
  | 6, ex => exact Option.some.inj ex ▸ st _
theorem at5 {d : Int} (h0 : 0 ≤ d) (h1 : d < 5) : ∃ z : Int, atI [V.int 0, V.int 1, V.int 12, V.int (10 ^ (6 : Int).toNat), V.int (10 ^ (30 : Int).toNat)] d = some (.int z) ∧ 0 ≤ z ∧ z ≤ 1000000000000000000000000000000 := by
  have : d = 0 ∨ d = 1 ∨ d = 2 ∨ d = 3 ∨ d = 4 := by omega
  rcases this with rfl | rfl | rfl | rfl | rfl
  · exact ⟨0, rfl, by decide, by decide⟩
  · exact ⟨1, rfl, by decide, by decide⟩
  · exact ⟨12, rfl, by decide, by decide⟩
  · exact ⟨1000000, rfl, by decide, by decide⟩
  · exact ⟨1000000000000000000000000000000, rfl, by decide, by decide⟩
theorem is_same {α : Type} {a : α} [Decidable (a = a)] : decide (a = a) = true := by simp
def spLaw (K : PySem.W.Frag) : Sp := fun vs H Q _ => ∃ (a : Addr) (ns : List Int), vs = [.ref a] ∧ SqL K H a (ns.map V.int) ∧ ns.length ≤ 63 ∧ ∀ H', Q (.bl true) H'
theorem ok_law (T : Top K mg AD) : FnOk P w K mg base CX0 8 AD.f_law AD.d_law P_law (spLaw K) := by
  refine T.D_law.F.ok sc_law (fun vs H Q E h => ?_) (fun cdv A outer s H vs Q E hr h => ?_)
  · obtain ⟨a, ns, rfl, _⟩ := h
    rfl
  · obtain ⟨a, ns, rfl, hq, hl, q⟩ := h
    obtain ⟨tm, hc_MOST_SIZE⟩ := T.c_MOST_SIZE
    have cl := T.cl_Column
    have nw := T.n_Column_word
    have nz := T.n_Column_size
    refine ⟨_, (pss_cons (ps_set (i := 1) sc_law.nd rfl (Or.inl rfl) (callD T.D_l_hand (ok_l_hand T) hr (pa_cons (pv 0) pa_nil)))
    (pss_cons (ps_set (i := 2) sc_law.nd rfl (Or.inl rfl) (callD T.D_l_word (ok_l_word T) hr (pa_cons (pv 1) (pa_cons (pe_op op_add pe_int (callD T.D_l_draw (ok_l_draw T) hr (pa_cons (pv 1) (pa_cons pe_int pa_nil)))) pa_nil))))
    (pss_cons (ps_set (i := 3) sc_law.nd rfl (Or.inl rfl) (callD T.D_l_word (ok_l_word T) hr (pa_cons (pv 1) (pa_cons (pe_op op_add pe_int (callD T.D_l_draw (ok_l_draw T) hr (pa_cons (pv 1) (pa_cons pe_int pa_nil)))) pa_nil))))
    (pss_cons (ps_if (PW.pt (pw_or (pt_cmpR op_ne (pe_glob (v := .int 6) rfl hc_MOST_SIZE ⟨_, rfl⟩) pe_int (nomark _)) (pw_or (pt_cmpR op_notN (callD T.D_word_fault (ok_word_fault T) hr (pa_cons (pv 2) pa_nil)) pe_non (nomark _)) (pw_or1 (pt_cmpR op_notN (callD T.D_word_fault (ok_word_fault T) hr (pa_cons (pv 3) pa_nil)) pe_non (nomark _))))))
    (pss_one (ps_ret pe_bl))
    pss_nil)
    (pss_cons (ps_par (i := 4) (j := 5) (by rfl) sc_law.nd rfl rfl (by decide) rfl rfl (pa_cons (pe_makeS (E := fun _ => E0) T.mk_Column (ok_Column___init__ T) (hr.mono (by decide)) (by rfl) T.g_Column T.D_Column___init__.b (fun σ => passAt takes0 σ) (pa_cons (pv 2) pa_nil)) (pa_cons (pe_makeS (E := fun _ => E0) T.mk_Column (ok_Column___init__ T) (hr.mono (by decide)) (by rfl) T.g_Column T.D_Column___init__.b (fun σ => passAt takes0 σ) (pa_cons (pv 3) pa_nil)) pa_nil)) (by rfl))
    (pss_cons (ps_if (PW.pt (pw_or (pt_not (pt_val (pe_callB (call_isiK' (K := K) rfl) (by rfl) T.b_isinstance (by decide +kernel) (pa_cons (pe_fld (pv 4) rfl) (pa_cons (pe_bltn (v := .ty "str") (u := .type "str") (by rfl) T.b_str (by decide +kernel) rfl) pa_nil))))) (pw_or (pt_cmpR op_ne (pe_fld (pv 4) rfl) (pv 2) (nomark _)) (pw_or (pt_cmpR op_ne (pe_callTy (call_strOwn T.o_Column___str__ (ok_Column___str__ T) T.D_Column___str__.b pass0 (hr.mono (by decide))) (by rfl) T.b_str (by decide +kernel) (pa_cons (pv 4) pa_nil)) (pv 2) (nomark _)) (pw_or1 (pt_cmpR (op_neD hr.units) (pe_callTy (call_listOwnS rfl T.o_Column___iter__ T.o_Column___len__ (hr.mono (by decide)) (fun _ => ok_Column___iter__ T) T.D_Column___iter__.b pass0 (ok_Column___len__ T) T.D_Column___len__.b) (by rfl) T.b_list (by decide +kernel) (pa_cons (pv 4) pa_nil)) (pe_callTy (call_listStr rfl) (by rfl) T.b_list (by decide +kernel) (pa_cons (pv 2) pa_nil)) (nomark _)))))))
    (pss_one (ps_ret pe_bl))
    pss_nil)
    (pss_cons (ps_set (i := 6) sc_law.nd rfl (Or.inl rfl) (pe_lst (pa_cons (pe_fld (pv 4) rfl) (pa_cons (pe_callB (call_lenOwn T.o_Column___len__ (ok_Column___len__ T) T.D_Column___len__.b pass0 (hr.mono (by decide))) (by rfl) T.b_len (by decide +kernel) (pa_cons (pv 4) pa_nil)) pa_nil))))
    (pss_cons (ps_if (PW.pt (pw_or (pt_truth (pe_lc (own := [("_law_x", 16)]) (g := (gName 16)) rfl sc_law.nd (pi_list (pv 6)) (blkOk_by (N := N_law) (sc := defScope s_law) (by decide +kernel)) (fun _ _ _ _ _ => (pg_name (i := 16) sc_law.nd rfl (by first | exact Or.inl rfl | exact Or.inr rfl))) (fun _ _ _ _ _ => (pts_one (PW.pt (pw_or (pt_val (pe_callB (call_isiK' (K := K) rfl) (by rfl) T.b_isinstance (by decide +kernel) (pa_cons (pv 16) (pa_cons (pe_bltn (v := .ty "bool") (u := .type "bool") (by rfl) T.b_bool (by decide +kernel) rfl) pa_nil)))) (pw_or1 (pt_not (pt_val (pe_callB (call_isiK' (K := K) rfl) (by rfl) T.b_isinstance (by decide +kernel) (pa_cons (pv 16) (pa_cons (pe_bltn (v := .ty "int") (u := .type "int") (by rfl) T.b_int (by decide +kernel) rfl) pa_nil)))))))))) (fun _ _ _ _ _ => (pv 16))) (by intro _; rfl)) (pw_or1 (pt_cmpR (op_neD hr.units) (pv 6) (pe_lst (pa_cons (pe_m1 PySem.F.slot_str_count PySem.F.type_str_count mt_countS (pv 2) (pe_s (x := Str.ofString "d") [100] (by decide +kernel))) (pa_cons (pe_callB call_lenS (by rfl) T.b_len (by decide +kernel) (pa_cons (pv 2) pa_nil)) pa_nil))) (nomark _)))))
    (pss_one (ps_ret pe_bl))
    pss_nil)
    (pss_cons (ps_if (PW.pt (pw_or (pt_cmpR op_ne (pe_cmpR (op_eqOwn T.o_Column___eq__ T.sub_Column (ok_Column___eq__ T) T.D_Column___eq__.b pass0 (hr.mono (by decide))) (pv 4) (pv 5) (nomark _)) (pe_cmpR op_eq (pv 2) (pv 3) (nomark _)) (nomark _)) (pw_or (pt_cmpR op_notBl (pe_cmpR (op_eqOwn T.o_Column___eq__ T.sub_Column (ok_Column___eq__ T) T.D_Column___eq__.b pass0 (hr.mono (by decide))) (pv 4) (pe_makeS (E := fun _ => E0) T.mk_Column (ok_Column___init__ T) (hr.mono (by decide)) (by rfl) T.g_Column T.D_Column___init__.b (fun σ => passAt takes0 σ) (pa_cons (pv 2) pa_nil)) (nomark _)) pe_bl (nomark _)) (pw_or1 (pt_cmpR op_notBl (pe_cmpR (op_eqOwn T.o_Column___eq__ T.sub_Column (ok_Column___eq__ T) T.D_Column___eq__.b pass0 (hr.mono (by decide))) (pv 4) (pv 2) (nomark _)) pe_bl (nomark _))))))
    (pss_one (ps_ret pe_bl))
    pss_nil)
    (pss_cons (ps_if (pt_cmpR op_ne (pe_cmpR (op_neOwn T.o_Column___eq__ T.ne_Column T.sub_Column (ok_Column___eq__ T) T.D_Column___eq__.b pass0 (hr.mono (by decide))) (pv 4) (pv 5) (nomark _)) (pe_cmpR op_ne (pv 2) (pv 3) (nomark _)) (nomark _))
    (pss_one (ps_ret pe_bl))
    pss_nil)
    (pss_cons (ps_for PassesOwn.never rfl (pi_range1 (by rfl) T.b_range (pa_cons pe_int pa_nil)) (pg_name (i := 7) sc_law.nd rfl (Or.inl rfl))
    (pss_cons (ps_set (i := 8) sc_law.nd rfl (Or.inl rfl) (callD T.D_l_spoilt (ok_l_spoilt T) hr (pa_cons (pv 1) (pa_cons (pv 2) pa_nil))))
    (pss_cons (ps_set (i := 9) sc_law.nd rfl (Or.inl rfl) (callD T.D_l_due (ok_l_due T) hr (pa_cons (pv 8) pa_nil)))
    (pss_cons (ps_if (pt_cmpR op_ne (callD T.D_word_fault (ok_word_fault T) hr (pa_cons (pv 8) pa_nil)) (pv 9) (nomark _))
    (pss_one (ps_ret pe_bl))
    pss_nil)
    (pss_one (ps_if (pt_cmpR (op_neD hr.units) (callD T.D_l_made (ok_l_made T) hr (pa_cons (pv 8) pa_nil)) (pe_ifExp (pt_cmpR op_isN (pv 9) pe_non (nomark _)) (pe_tup (pa_cons (pe_s (x := Str.ofString "made") [109, 97, 100, 101] (by decide +kernel)) (pa_cons (pv 8) pa_nil))) (pe_tup (pa_cons (pe_s (x := Str.ofString "refused") [114, 101, 102, 117, 115, 101, 100] (by decide +kernel)) (pa_cons (pv 9) pa_nil)))) (nomark _))
    (pss_one (ps_ret pe_bl))
    pss_nil))))))
    (pss_cons (ps_try_as (i := 11) rfl rfl sc_law.nd rfl rfl ⟨rfl, by decide, Or.inl T.g_CardError⟩ (takes0 (X := _))
    (fun W pn xe tk _ => (pss_one (ps_set (i := 10) sc_law.nd rfl (Or.inl rfl) (pe_callTy call_str_int (by rfl) T.b_str (by decide +kernel) (pa_cons (pe_fldK (K := K) (by rfl) (pe_makeS (E := WE W) T.mk_Column (ok_Column___init__ (K := K) T) (hr.mono (by decide)) (by rfl) T.g_Column T.D_Column___init__.b (fun σ => passAt tk σ) (pa_cons (pe_s (x := Str.ofString "od") [111, 100] (by decide +kernel)) pa_nil)) rfl) pa_nil)))))
    (fun a oe cls d pn hz hf => (pss_one (ps_set (i := 10) sc_law.nd rfl (Or.inl rfl) (pe_xf T.x_BadColumn.xf T.n_BadColumn_what hz hf (pv 11))))))
    (pss_cons (ps_if (PW.pt (pw_or (pt_cmpR op_ne (pv 10) (pe_s (x := Str.ofString "below") [98, 101, 108, 111, 119] (by decide +kernel)) (nomark _)) (pw_or (pt_cmpR op_ne (pe_fld (pv 5) rfl) (pv 3) (nomark _)) (pw_or1 (pt_cmpR op_ne (pe_callTy (call_strOwn T.o_Column___str__ (ok_Column___str__ T) T.D_Column___str__.b pass0 (hr.mono (by decide))) (by rfl) T.b_str (by decide +kernel) (pa_cons (pv 5) pa_nil)) (pv 3) (nomark _))))))
    (pss_one (ps_ret pe_bl))
    pss_nil)
    (pss_cons (ps_set (i := 12) sc_law.nd rfl (Or.inl rfl) (pe_ix (ix_listK (K := K) rfl) (pe_lst (pa_cons pe_int (pa_cons pe_int (pa_cons pe_int (pa_cons (pe_op op_pow pe_int pe_int) (pa_cons (pe_op op_pow pe_int pe_int) pa_nil)))))) (callD T.D_l_draw (ok_l_draw T) hr (pa_cons (pv 1) (pa_cons pe_int pa_nil))) (fun _ _ => rfl)))
    (pss_cons (ps_set (i := 13) sc_law.nd rfl (Or.inl rfl) (pe_op op_sub (pe_op op_sub (callD T.D_l_draw (ok_l_draw T) hr (pa_cons (pv 1) (pa_cons (pe_op op_add (pe_op op_mul pe_int (pv 12)) pe_int) pa_nil))) (pv 12)) pe_int))
    (pss_cons (ps_set (i := 14) sc_law.nd rfl (Or.inl rfl) (pe_op op_sub (pe_op op_add (pv 13) (callD T.D_l_draw (ok_l_draw T) hr (pa_cons (pv 1) (pa_cons pe_int pa_nil)))) pe_int))
    (pss_cons (ps_set (i := 15) sc_law.nd rfl (Or.inl rfl) (pe_op op_sub (pe_op op_add (pv 13) (callD T.D_l_draw (ok_l_draw T) hr (pa_cons (pv 1) (pa_cons pe_int pa_nil)))) pe_int))
    (pss_cons (ps_if (pt_cmpR op_ne (callD T.D_is_whole (ok_is_whole T) hr (pa_cons (pv 13) (pa_cons (pv 14) (pa_cons (pv 15) pa_nil)))) (pe_and (pe_cmpR op_le (pv 14) (pv 13) (nomark _)) (pe_one (pe_cmpR op_le (pv 13) (pv 15) (nomark _)))) (nomark _))
    (pss_one (ps_ret pe_bl))
    pss_nil)
    (pss_cons (ps_for PassesOwn.never rfl (pi_list (pe_lst (pa_cons pe_bl (pa_cons pe_bl (pa_cons pe_non (pa_cons (pe_callTy call_str_int (by rfl) T.b_str (by decide +kernel) (pa_cons (pv 13) pa_nil)) (pa_cons (pe_lst (pa_cons (pv 13) pa_nil)) (pa_cons (pe_tup (pa_cons (pv 13) pa_nil)) (pa_cons (pe_s (x := Str.ofString "") [] (by decide +kernel)) pa_nil))))))))) (pg_name (i := 8) sc_law.nd rfl (Or.inl rfl))
    (pss_one (ps_if (pt_cmpR op_notBl (callD T.D_is_whole (ok_is_whole T) hr (pa_cons (pv 8) (pa_cons (pe_un un_neg pe_int) (pa_cons (pe_op op_pow pe_int pe_int) pa_nil)))) pe_bl (nomark _))
    (pss_one (ps_ret pe_bl))
    pss_nil)))
    (pss_one (ps_ret (pe_cmpR op_isBl (callD T.D_is_whole (ok_is_whole T) hr (pa_cons (pv 13) (pa_cons (pv 13) (pa_cons (pv 13) pa_nil)))) pe_bl (nomark _))))))))))))))))))))))), ?_⟩
    walk_at "go"
    refine ⟨a, ns, rfl, hq, hl, fun p H1 s1 np hp => ?_⟩
    walk_at "go"
    refine ⟨_, _, rfl, hp, cdivw (by decide) (by decide), fun d1 H2 d10 d11 b1 hd1 => ?_⟩
    obtain ⟨n1, e1, n11, n16⟩ := one_plus d10 d11
    walk_at "go"
    refine ⟨p, n1, congrArg (fun z => [V.ref p, V.int z]) e1, ⟨n11, n16⟩, hd1, fun l1 H3 g1 b2 hd2 => ?_⟩
    walk_at "go"
    refine ⟨_, _, rfl, hd2, cdivw (by decide) (by decide), fun d2 H4 d20 d21 b3 hd3 => ?_⟩
    obtain ⟨n2, e2, n21, n26⟩ := one_plus d20 d21
    walk_at "go"
    refine ⟨p, n2, congrArg (fun z => [V.ref p, V.int z]) e2, ⟨n21, n26⟩, hd3, fun l2 H5 g2 b4 hd4 => ?_⟩
    have f1 := good_fault g1 n11 n16
    have f2 := good_fault g2 n21 n26
    have z1 : l1.length ≤ 12 := by have := g1.len; omega
    have z2 : l2.length ≤ 12 := by have := g2.len; omega
    walk_at "go"
    refine wf_none f1 (by omega) fun H6 s6 => ?_
    walk_at "go"
    refine wf_none f2 (by omega) fun H7 s7 => ?_
    walk_at "go"
    refine fun y1 dy1 ny ndy ne => col_made f1 (by omega) ny ndy ne fun H8 s8 c1 => ?_
    walk_at "go"
    refine fun y2 dy2 ny ndy ne => col_made f2 (by omega) ny ndy ne fun H9 s9 c2 => ?_
    walk_at "go"
    refine ⟨_, _, rfl, ?_⟩
    have c1 := c1.mono (s9 y1)
    have hd9 := (((hd4.same s6).same s7).same s8).same s9
    clear ny ndy ne hd4 hd3 hd2 hd1 hp np b1 b2 b3 b4 s1 s6 s7 s8 s9 d10 d11 d20 d21 e1 e2 hq hl H1 H2 H3 H4
    obtain ⟨dx1, ea1⟩ := c1
    obtain ⟨dx2, ea2⟩ := c2
    walk_at "go"
    refine ⟨_, _, _, _, true, rfl, .ty _, .base (.str _), kit_ty (by decide +kernel), ?_⟩
    walk_at "go"
    rw [not_same]
    walk_at "go"
    refine ⟨y1, dx1, _, rfl, ea1, y1, l1, rfl, ⟨dx1, ea1⟩, _, rfl, ?_⟩
    walk_at "go"
    rw [not_same]
    walk_at "go"
    refine ⟨y1, dx1, _, sOf l1, rfl, ea1, rfl, by rw [sOf_len]; omega, fun q1 hq1 => ?_⟩
    walk_at "go"
    refine ⟨by rw [sOf_len]; omega, fun q2 hq2 => ?_⟩
    have s10 := same_new (o := .lst (signs (sOf l1))) (same_new (o := .lst (signs (sOf l1))) (Same.refl H9) hq1) hq2
    have w1 : upd (upd H9 q1 (.lst (signs (sOf l1)))) q2 (.lst (signs (sOf l1))) q2 = some (.lst (signs (sOf l1))) := upd_same
    have w2 : upd (upd H9 q1 (.lst (signs (sOf l1)))) q2 (.lst (signs (sOf l1))) q1 = some (.lst (signs (sOf l1))) := (upd_ne (ne_of_none upd_same hq2)).trans upd_same
    replace ea1 := s10 _ _ ea1
    replace ea2 := s10 _ _ ea2
    have hd10 := hd9.same s10
    generalize upd (upd H9 q1 (.lst (signs (sOf l1)))) q2 (.lst (signs (sOf l1))) = H10 at w1 w2 s10 ea1 ea2 hd10 ⊢
    walk_at "go"
    refine ⟨_, _, .lst (SqL.of w2) (dp_signs l1), .lst (SqL.of w1) (dp_signs l1), shaped_signs (good_codes g1), shaped_signs (good_codes g1), ?_⟩
    rw [eqv_signs, not_same]
    clear w1 w2 hq1 hq2 q1 q2 s10 hd9 H9
    walk_at "go"
    refine ⟨y1, dx1, _, rfl, ea1, y1, dx1, _, sOf l1, rfl, ea1, rfl, by rw [sOf_len]; omega, (sOf l1).length, rfl, by rw [sOf_len]; omega, ?_⟩
    rw [sOf_len]
    walk_at "go"
    refine ⟨szl (by show 2 ≤ 1000; decide), fun ls hls => ?_⟩
    have s11 := same_new (o := .lst [.int (l1.count 100 : Nat), .int (l1.length : Nat)]) (Same.refl H10) hls
    have w1 : upd H10 ls (.lst [.int (l1.count 100 : Nat), .int (l1.length : Nat)]) ls = some (.lst [.int (l1.count 100 : Nat), .int (l1.length : Nat)]) := upd_same
    replace ea1 := s11 _ _ ea1
    replace ea2 := s11 _ _ ea2
    have hd11 := hd10.same s11
    generalize upd H10 ls (.lst [.int (l1.count 100 : Nat), .int (l1.length : Nat)]) = H11 at w1 s11 ea1 ea2 hd11 ⊢
    clear hls s11 hd10 H10
    walk_at "go"
    refine ⟨⟨_, SqL.of w1⟩, ?_⟩
    intro Dl hD
    refine lc_it (walk_list (xs := [.int (l1.count 100 : Nat), .int (l1.length : Nat)])) (fun i H' => But Dl H11 H' ∧ H' Dl = some (.lst [])) ⟨But.upd (But.refl _ _), upd_same⟩ (fun i H' hi h => (same_but (Same.refl _) hD h.1).seq (SqL.of w1)) ?_ ?_
    · rintro i x H2 H3 hi ⟨b2, e2⟩ ⟨rfl, ex⟩
      obtain ⟨z, rfl⟩ : ∃ z : Int, x = .int z := by
        match i, ex with
        | 0, ex => exact ⟨_, (Option.some.inj ex).symm⟩
        | 1, ex => exact ⟨_, (Option.some.inj ex).symm⟩
      walk_at "go"
      refine ⟨_, _, _, _, false, rfl, .ty _, .base (.int _), kit_ty (by decide +kernel), ?_⟩
      walk_at "go"
      refine ⟨_, _, _, _, true, rfl, .ty _, .base (.int _), kit_ty (by decide +kernel), ?_⟩
      walk_at "go"
      exact e2
    rintro H12 ⟨b12, e12⟩
    have s12 := same_but (Same.refl _) hD b12
    replace ea1 := s12 _ _ ea1
    replace ea2 := s12 _ _ ea2
    replace w1 := s12 _ _ w1
    have hd12 := hd11.same s12
    clear b12 s12 hd11 hD H11
    walk_at "go"
    refine ⟨false, .inl ⟨[], SqL.of e12, rfl⟩, ?_⟩
    walk_at "go"
    refine ⟨szl (by show 2 ≤ 1000; decide), fun l3 hl3 => ?_⟩
    have s13 := same_new (o := .lst [.int (l1.count 100 : Nat), .int (l1.length : Nat)]) (Same.refl H12) hl3
    have w2 : upd H12 l3 (.lst [.int (l1.count 100 : Nat), .int (l1.length : Nat)]) l3 = some (.lst [.int (l1.count 100 : Nat), .int (l1.length : Nat)]) := upd_same
    replace ea1 := s13 _ _ ea1
    replace ea2 := s13 _ _ ea2
    replace w1 := s13 _ _ w1
    have hd13 := hd12.same s13
    generalize upd H12 l3 (.lst [.int (l1.count 100 : Nat), .int (l1.length : Nat)]) = H13 at w1 w2 s13 ea1 ea2 hd13 ⊢
    refine ⟨_, _, .lst (SqL.of w1) (.cons (.int _) (.cons (.int _) .nil)), .lst (SqL.of w2) (.cons (.int _) (.cons (.int _) .nil)), rfl, rfl, ?_⟩
    rw [eqv_ints2]
    clear hl3 s13 hd12 w1 w2 H12 e12
    walk_at "go"
    refine ⟨y1, dx1, _, rfl, ea1, .ins ea2, y1, _, l1, rfl, ⟨dx1, ea1⟩, .inl ⟨y2, l2, rfl, ⟨dx2, ea2⟩, _, rfl, ?_⟩⟩
    walk_at "go"
    refine ⟨rfl, rfl, ?_⟩
    rw [if_neg Bool.false_ne_true, decide_eq_decide.mpr (str_eq (a := l1) (b := l2)), not_same]
    walk_at "go"
    refine fun y3 dy3 ny3 ndy3 ne3 => col_made f1 (by omega) ny3 ndy3 ne3 fun H14 s14 c3 => ?_
    replace ea1 := s14 _ _ ea1
    replace ea2 := s14 _ _ ea2
    have hd14 := hd13.same s14
    have k3 := c3
    obtain ⟨dx3, ea3⟩ := c3
    refine ⟨y1, dx1, _, rfl, ea1, .ins ea3, y1, _, l1, rfl, ⟨dx1, ea1⟩, .inl ⟨y3, l1, rfl, k3, _, rfl, ?_⟩⟩
    clear ny3 ndy3 ne3 s14 hd13 H13 k3 ea3
    rw [if_neg Bool.false_ne_true, is_same]
    walk_at "go"
    refine ⟨y1, dx1, _, rfl, ea1, .str _, y1, _, l1, rfl, ⟨dx1, ea1⟩, .inr ⟨_, rfl, _, rfl, ?_⟩⟩
    walk_at "go"
    refine ⟨y1, dx1, _, rfl, ea1, .ins ea2, y1, _, l1, rfl, ⟨dx1, ea1⟩, .inl ⟨y2, l2, rfl, ⟨dx2, ea2⟩, _, rfl, ?_⟩⟩
    walk_at "go"
    refine ⟨rfl, rfl, ?_⟩
    rw [if_pos rfl, decide_eq_decide.mpr (str_eq (a := l1) (b := l2)), not_same]
    walk_at "go"
    have ne1 : y1 ≠ p := fun z => by
      obtain ⟨_, _, _, _, _, e, _⟩ := hd14
      rw [← z, ea1] at e
      cases e
    have ne2 : y2 ≠ p := fun z => by
      obtain ⟨_, _, _, _, _, e, _⟩ := hd14
      rw [← z, ea2] at e
      cases e
    refine for_it (walk_range (lo := 0) (n := (4 : Int).toNat)) (fun i σ H' => ∃ (o7 o8 o9 : Option V), σ = [some (.ref a), some (.ref p), some (.str (sOf l1)), some (.str (sOf l2)), some (.ref y1), some (.ref y2), some (.ref ls), o7, o8, o9, none, none, none, none, none, none, none] ∧ HandOk H' p ∧
        H' y1 = some (.ins AD.C_Column dx1 [("word", .str (sOf l1)), ("size", .int (l1.count 100 : Nat))]) ∧ H' y2 = some (.ins AD.C_Column dx2 [("word", .str (sOf l2)), ("size", .int (l2.count 100 : Nat))]))
      ⟨none, none, none, rfl, hd14, ea1, ea2⟩ (fun _ _ _ _ _ => trivial) ?_ ?_
    · rintro i x σ H1 H2 hi ⟨o7, o8, o9, rfl, hd, ea1, ea2⟩ ⟨rfl, rfl⟩
      walk_at "go"
      refine ⟨p, l1, rfl, hd, ⟨by have := g1.len; omega, by omega⟩, fun v H3 bt hd3 th => ?_⟩
      obtain ⟨f, tl⟩ := th.told (K := K) (AD := AD)
      walk_at "go"
      refine tl.due H3 _ _ (Same.refl _) fun H4 s4 => ?_
      walk_at "go"
      refine tl.fault H4 _ _ s4 fun H5 s5 => ?_
      walk_at "go"
      refine ⟨scal_opt f, ?_⟩
      rw [not_same]
      walk_at "go"
      refine tl.made H5 _ _ (s4.trans s5) fun p5 H6 s6 e6 => ?_
      have sz := (s4.trans s5).trans s6
      obtain ⟨_, _, _, ok4, ok5⟩ := low_codes
      rcases f with _ | g
      · obtain ⟨m, rfl, mc⟩ := tl.none_ rfl
        walk_at "go"
        refine ⟨szl (by show 2 ≤ 1000; decide), fun p6 h6 => ?_⟩
        refine ⟨.tuple [.str (sOf wMade), .str (sOf m)], .tuple [.str (sOf wMade), .str (sOf m)], .tup (SqT.of ((upd_ne (ne_of_none e6 h6)).trans e6)) (.cons (.str _) (.cons (.str _) .nil)), .tup (SqT.of upd_same) (.cons (.str _) (.cons (.str _) .nil)), shaped_pair ok4 mc, shaped_pair ok4 mc, ?_⟩
        rw [eqv_pair_self]
        have sy := same_new (o := .tup [.str (sOf wMade), .str (sOf m)]) sz h6
        walk_at "go"
        exact ⟨_, _, _, rfl, hd3.same sy, sy _ _ (bt _ _ ne1 ea1), sy _ _ (bt _ _ ne2 ea2)⟩
      · have gc := tl.some_ g rfl
        walk_at "go"
        refine ⟨szl (by show 2 ≤ 1000; decide), fun p6 h6 => ?_⟩
        refine ⟨.tuple [.str (sOf wRefused), .str (sOf g)], .tuple [.str (sOf wRefused), .str (sOf g)], .tup (SqT.of ((upd_ne (ne_of_none e6 h6)).trans e6)) (.cons (.str _) (.cons (.str _) .nil)), .tup (SqT.of upd_same) (.cons (.str _) (.cons (.str _) .nil)), shaped_pair ok5 gc, shaped_pair ok5 gc, ?_⟩
        rw [eqv_pair_self]
        have sy := same_new (o := .tup [.str (sOf wRefused), .str (sOf g)]) sz h6
        walk_at "go"
        exact ⟨_, _, _, rfl, hd3.same sy, sy _ _ (bt _ _ ne1 ea1), sy _ _ (bt _ _ ne2 ea2)⟩
    · rintro σ H1 ⟨o7, o8, o9, rfl, hd, ea1, ea2⟩
      walk_at "go"
      intro y3 dy3 ny3 ndy3 ne3
      refine ⟨y3, dy3, _, rfl, upd_same, .inl ⟨[111, 100], rfl, by decide, fun hw => absurd hw (by decide), fun g hg d H2 s2 nd ed => ?_⟩⟩
      cases (show wfault [111, 100] = some wBelow by decide).symm.trans hg
      have s3 : Same H1 H2 := (same_new (same_new (Same.refl H1) ndy3) ((upd_ne (Ne.symm ne3)).trans ny3)).trans s2
      refine ⟨true, T.up_BadColumn_CardError, fun _ a3 na3 => ?_, fun z => absurd z (by decide)⟩
      walk_at "go"
      refine ⟨rfl, rfl, d, _, _, rfl, ed, rfl, ?_⟩
      replace ea2 := s3 _ _ ea2
      have hd2 := hd.same s3
      clear ea1 hd
      walk_at "go"
      rw [not_same]
      walk_at "go"
      refine ⟨y2, dx2, _, rfl, ea2, y2, l2, rfl, ⟨dx2, ea2⟩, _, rfl, ?_⟩
      walk_at "go"
      rw [not_same]
      walk_at "go"
      refine ⟨szl (by show 5 ≤ 1000; decide), fun fl hfl => ?_⟩
      have s4 := same_new (o := .lst [.int 0, .int 1, .int 12, .int (10 ^ (6 : Int).toNat), .int (10 ^ (30 : Int).toNat)]) (Same.refl H2) hfl
      have w4 : upd H2 fl (.lst [.int 0, .int 1, .int 12, .int (10 ^ (6 : Int).toNat), .int (10 ^ (30 : Int).toNat)]) fl = _ := upd_same
      have nf : fl ≠ p := fun z => by
        obtain ⟨o, e⟩ := hd2.some
        rw [z, e] at hfl
        cases hfl
      have hd4 := hd2.same s4
      generalize upd H2 fl (.lst [.int 0, .int 1, .int 12, .int (10 ^ (6 : Int).toNat), .int (10 ^ (30 : Int).toNat)]) = H4 at s4 w4 hd4 ⊢
      walk_at "go"
      refine ⟨_, _, rfl, hd4, cdivw (by decide) (by decide), fun d5 H5 d50 d51 b5 hd5 => ?_⟩
      obtain ⟨far, hfar, far0, far1⟩ := at5 d50 d51
      refine ⟨fl, _, d5, _, rfl, rfl, SqL.of (b5 _ _ nf w4), hfar, ?_⟩
      clear hfar b5 hd4 w4
      walk_at "go"
      refine ⟨_, _, rfl, hd5, wide_div (b := 110) (by omega) (by omega) (by decide) (by decide), fun r H6 r0 r1 b6 hd6 => ?_⟩
      walk_at "go"
      refine ⟨_, _, rfl, hd6, cdivw (by decide) (by decide), fun d7 H7 d70 d71 b7 hd7 => ?_⟩
      walk_at "go"
      refine ⟨_, _, rfl, hd7, cdivw (by decide) (by decide), fun d8 H8 d80 d81 b8 hd8 => ?_⟩
      walk_at "go"
      refine ⟨_, _, _, rfl, .inl ⟨_, rfl, ?_⟩⟩
      dsimp only
      have nb : (r - far - 1).natAbs.log2 < 1920 := Nat.lt_of_lt_of_le (PySem.Flt.log2_lt_of (k := 112) (by decide) (by omega)) (by decide)
      generalize r - far - 1 = N at nb ⊢
      generalize N + d7 - 2 = lo
      generalize N + d8 - 2 = hi
      walk_at "go"
      refine and_join rfl rfl ?_
      refine ⟨rfl, ?_⟩
      rw [not_same]
      walk_at "go"
      refine ⟨szl (by show 1 ≤ 1000; decide), fun ln hln => ?_⟩
      walk_at "go"
      refine ⟨szl (by show 1 ≤ 1000; decide), fun tn htn => ?_⟩
      walk_at "go"
      refine ⟨szl (by show 7 ≤ 1000; decide), fun l7 hl7 => ?_⟩
      have w1 : upd H8 ln (.lst [.int N]) ln = some (.lst [.int N]) := upd_same
      have w2 : upd (upd H8 ln (.lst [.int N])) tn (.tup [.int N]) ln = some (.lst [.int N]) := (upd_ne (ne_of_none w1 htn)).trans w1
      have w3 : upd (upd H8 ln (.lst [.int N])) tn (.tup [.int N]) tn = some (.tup [.int N]) := upd_same
      generalize upd (upd H8 ln (.lst [.int N])) tn (.tup [.int N]) = H9 at w2 w3 hl7 ⊢
      have w4 : upd H9 l7 (.lst [.bl true, .bl false, .non, .str (toString N), .ref ln, .ref tn, .str (sOf [])]) l7 = some (.lst [.bl true, .bl false, .non, .str (toString N), .ref ln, .ref tn, .str (sOf [])]) := upd_same
      have w5 : upd H9 l7 (.lst [.bl true, .bl false, .non, .str (toString N), .ref ln, .ref tn, .str (sOf [])]) ln = some (.lst [.int N]) := (upd_ne (ne_of_none w2 hl7)).trans w2
      have w6 : upd H9 l7 (.lst [.bl true, .bl false, .non, .str (toString N), .ref ln, .ref tn, .str (sOf [])]) tn = some (.tup [.int N]) := (upd_ne (ne_of_none w3 hl7)).trans w3
      generalize upd H9 l7 (.lst [.bl true, .bl false, .non, .str (toString N), .ref ln, .ref tn, .str (sOf [])]) = H10 at w4 w5 w6 ⊢
      clear w1 w2 w3 hln htn hl7
      walk_at "go"
      refine ⟨⟨_, SqL.of w4⟩, ?_⟩
      refine for_it (walk_list (xs := [.bl true, .bl false, .non, .str (toString N), .ref ln, .ref tn, .str (sOf [])])) (fun i σ H' => ∃ o8 : Option V, σ = [some (.ref a), some (.ref p), some (.str (sOf l1)), some (.str (sOf l2)), some (.ref y1), some (.ref y2), some (.ref ls), o7, o8, o9, some (.str (sOf wBelow)), none, some (.int far), some (.int N), some (.int lo), some (.int hi), none] ∧ H' = H10)
        ⟨o8, rfl, rfl⟩ (fun i σ H' _ h => by obtain ⟨_, _, rfl⟩ := h; exact SqL.of w4) ?_ ?_
      · rintro i x σ Ha Hb hi ⟨o8, rfl, rfl⟩ ⟨rfl, ex⟩
        walk_at "go"
        refine ⟨_, _, _, rfl, .inr ⟨seven w5 w6 ex, ?_⟩⟩
        walk_at "go"
        rfl
      · rintro σ Ha ⟨o8, rfl, rfl⟩
        walk_at "go"
        refine ⟨_, _, _, rfl, .inl ⟨_, rfl, ?_⟩⟩
        rw [show decide (N ≤ N ∧ N ≤ N) = true by simp]
        walk_at "go"
        rw [is_same]
        exact q _
end

theorem all_mk {P : Program} {w : World} {K : PySem.W.Frag} {h : Heap} {mg : Str → Option Value} {fa : Addr} (X : K.In h) (G : h.Ns mainGlobals mg) (hfa : mg "law" = some (.ref fa))
    {C_CardError C_BadColumn C_Column f_is_number f_is_whole f_word_fault f_l_mix f_l_hand f_l_draw f_l_word f_l_due f_l_spoilt f_l_made f_law f_BadColumn___init__ f_Column___init__ f_Column___eq__ f_Column___str__ f_Column___len__ f_Column___iter__ : Addr}
    {od_is_number : Option Addr}
    {an_is_number : Option Addr}
    {sl_is_number : Array (Option Value)}
    {oc_is_number kV_is_number dc_is_number pm_is_number cd_is_number ct_is_number : Value}
    {od_is_whole : Option Addr}
    {an_is_whole : Option Addr}
    {sl_is_whole : Array (Option Value)}
    {oc_is_whole kV_is_whole dc_is_whole pm_is_whole cd_is_whole ct_is_whole : Value}
    {od_word_fault : Option Addr}
    {an_word_fault : Option Addr}
    {sl_word_fault : Array (Option Value)}
    {oc_word_fault kV_word_fault dc_word_fault pm_word_fault cd_word_fault ct_word_fault : Value}
    {od_l_mix : Option Addr}
    {an_l_mix : Option Addr}
    {sl_l_mix : Array (Option Value)}
    {oc_l_mix kV_l_mix dc_l_mix pm_l_mix cd_l_mix ct_l_mix : Value}
    {od_l_hand : Option Addr}
    {an_l_hand : Option Addr}
    {sl_l_hand : Array (Option Value)}
    {oc_l_hand kV_l_hand dc_l_hand pm_l_hand cd_l_hand ct_l_hand : Value}
    {od_l_draw : Option Addr}
    {an_l_draw : Option Addr}
    {sl_l_draw : Array (Option Value)}
    {oc_l_draw kV_l_draw dc_l_draw pm_l_draw cd_l_draw ct_l_draw : Value}
    {od_l_word : Option Addr}
    {an_l_word : Option Addr}
    {sl_l_word : Array (Option Value)}
    {oc_l_word kV_l_word dc_l_word pm_l_word cd_l_word ct_l_word : Value}
    {od_l_due : Option Addr}
    {an_l_due : Option Addr}
    {sl_l_due : Array (Option Value)}
    {oc_l_due kV_l_due dc_l_due pm_l_due cd_l_due ct_l_due : Value}
    {od_l_spoilt : Option Addr}
    {an_l_spoilt : Option Addr}
    {sl_l_spoilt : Array (Option Value)}
    {oc_l_spoilt kV_l_spoilt dc_l_spoilt pm_l_spoilt cd_l_spoilt ct_l_spoilt : Value}
    {od_l_made : Option Addr}
    {an_l_made : Option Addr}
    {sl_l_made : Array (Option Value)}
    {oc_l_made kV_l_made dc_l_made pm_l_made cd_l_made ct_l_made : Value}
    {od_law : Option Addr}
    {an_law : Option Addr}
    {sl_law : Array (Option Value)}
    {oc_law kV_law dc_law pm_law cd_law ct_law : Value}
    {od_BadColumn___init__ : Option Addr}
    {an_BadColumn___init__ : Option Addr}
    {sl_BadColumn___init__ : Array (Option Value)}
    {oc_BadColumn___init__ kV_BadColumn___init__ dc_BadColumn___init__ pm_BadColumn___init__ cd_BadColumn___init__ ct_BadColumn___init__ : Value}
    {od_Column___init__ : Option Addr}
    {an_Column___init__ : Option Addr}
    {sl_Column___init__ : Array (Option Value)}
    {oc_Column___init__ kV_Column___init__ dc_Column___init__ pm_Column___init__ cd_Column___init__ ct_Column___init__ : Value}
    {od_Column___eq__ : Option Addr}
    {an_Column___eq__ : Option Addr}
    {sl_Column___eq__ : Array (Option Value)}
    {oc_Column___eq__ kV_Column___eq__ dc_Column___eq__ pm_Column___eq__ cd_Column___eq__ ct_Column___eq__ : Value}
    {od_Column___str__ : Option Addr}
    {an_Column___str__ : Option Addr}
    {sl_Column___str__ : Array (Option Value)}
    {oc_Column___str__ kV_Column___str__ dc_Column___str__ pm_Column___str__ cd_Column___str__ ct_Column___str__ : Value}
    {od_Column___len__ : Option Addr}
    {an_Column___len__ : Option Addr}
    {sl_Column___len__ : Array (Option Value)}
    {oc_Column___len__ kV_Column___len__ dc_Column___len__ pm_Column___len__ cd_Column___len__ ct_Column___len__ : Value}
    {od_Column___iter__ : Option Addr}
    {an_Column___iter__ : Option Addr}
    {sl_Column___iter__ : Array (Option Value)}
    {oc_Column___iter__ kV_Column___iter__ dc_Column___iter__ pm_Column___iter__ cd_Column___iter__ ct_Column___iter__ : Value}
    {nm_BadColumn q_BadColumn : Str} {N_BadColumn : Addr} {bs_BadColumn bm_BadColumn sb_BadColumn : List Value} {sn_BadColumn : List Str} {ab_BadColumn : Bool} {co_BadColumn : Option Bool} {dd_BadColumn : Option Addr} {m0_BadColumn m1_BadColumn m2_BadColumn m3_BadColumn m5_BadColumn : Option Value}
    {tk_MOST_SIZE : Tok}
    (ac_CardError : PySem.W.nsIn K mainGlobals "CardError" = some (some (.ref C_CardError)))
    (ac_BadColumn : PySem.W.nsIn K mainGlobals "BadColumn" = some (some (.ref C_BadColumn)))
    (ac_Column : PySem.W.nsIn K mainGlobals "Column" = some (some (.ref C_Column)))
    (a_is_number : PySem.W.nsIn K mainGlobals "is_number" = some (some (.ref f_is_number)))
    (l_is_number : K.lookup f_is_number = some ⟨oc_is_number, od_is_number, .func (PySem.W.fnOf "is_number" "is_number" (defArgs s_is_number) (defBody s_is_number) (defScope s_is_number) .none kV_is_number dc_is_number pm_is_number an_is_number cd_is_number ct_is_number), sl_is_number⟩)
    (c_is_number : PySem.W.codeIn K cd_is_number "is_number" = true)
    (k_is_number : PySem.W.keepIn K (.ref f_is_number) = true)
    (a_is_whole : PySem.W.nsIn K mainGlobals "is_whole" = some (some (.ref f_is_whole)))
    (l_is_whole : K.lookup f_is_whole = some ⟨oc_is_whole, od_is_whole, .func (PySem.W.fnOf "is_whole" "is_whole" (defArgs s_is_whole) (defBody s_is_whole) (defScope s_is_whole) .none kV_is_whole dc_is_whole pm_is_whole an_is_whole cd_is_whole ct_is_whole), sl_is_whole⟩)
    (c_is_whole : PySem.W.codeIn K cd_is_whole "is_whole" = true)
    (k_is_whole : PySem.W.keepIn K (.ref f_is_whole) = true)
    (a_word_fault : PySem.W.nsIn K mainGlobals "word_fault" = some (some (.ref f_word_fault)))
    (l_word_fault : K.lookup f_word_fault = some ⟨oc_word_fault, od_word_fault, .func (PySem.W.fnOf "word_fault" "word_fault" (defArgs s_word_fault) (defBody s_word_fault) (defScope s_word_fault) .none kV_word_fault dc_word_fault pm_word_fault an_word_fault cd_word_fault ct_word_fault), sl_word_fault⟩)
    (c_word_fault : PySem.W.codeIn K cd_word_fault "word_fault" = true)
    (k_word_fault : PySem.W.keepIn K (.ref f_word_fault) = true)
    (a_l_mix : PySem.W.nsIn K mainGlobals "_law_mix" = some (some (.ref f_l_mix)))
    (l_l_mix : K.lookup f_l_mix = some ⟨oc_l_mix, od_l_mix, .func (PySem.W.fnOf "_law_mix" "_law_mix" (defArgs s_l_mix) (defBody s_l_mix) (defScope s_l_mix) .none kV_l_mix dc_l_mix pm_l_mix an_l_mix cd_l_mix ct_l_mix), sl_l_mix⟩)
    (c_l_mix : PySem.W.codeIn K cd_l_mix "_law_mix" = true)
    (k_l_mix : PySem.W.keepIn K (.ref f_l_mix) = true)
    (a_l_hand : PySem.W.nsIn K mainGlobals "_law_hand" = some (some (.ref f_l_hand)))
    (l_l_hand : K.lookup f_l_hand = some ⟨oc_l_hand, od_l_hand, .func (PySem.W.fnOf "_law_hand" "_law_hand" (defArgs s_l_hand) (defBody s_l_hand) (defScope s_l_hand) .none kV_l_hand dc_l_hand pm_l_hand an_l_hand cd_l_hand ct_l_hand), sl_l_hand⟩)
    (c_l_hand : PySem.W.codeIn K cd_l_hand "_law_hand" = true)
    (k_l_hand : PySem.W.keepIn K (.ref f_l_hand) = true)
    (a_l_draw : PySem.W.nsIn K mainGlobals "_law_draw" = some (some (.ref f_l_draw)))
    (l_l_draw : K.lookup f_l_draw = some ⟨oc_l_draw, od_l_draw, .func (PySem.W.fnOf "_law_draw" "_law_draw" (defArgs s_l_draw) (defBody s_l_draw) (defScope s_l_draw) .none kV_l_draw dc_l_draw pm_l_draw an_l_draw cd_l_draw ct_l_draw), sl_l_draw⟩)
    (c_l_draw : PySem.W.codeIn K cd_l_draw "_law_draw" = true)
    (k_l_draw : PySem.W.keepIn K (.ref f_l_draw) = true)
    (a_l_word : PySem.W.nsIn K mainGlobals "_law_word" = some (some (.ref f_l_word)))
    (l_l_word : K.lookup f_l_word = some ⟨oc_l_word, od_l_word, .func (PySem.W.fnOf "_law_word" "_law_word" (defArgs s_l_word) (defBody s_l_word) (defScope s_l_word) .none kV_l_word dc_l_word pm_l_word an_l_word cd_l_word ct_l_word), sl_l_word⟩)
    (c_l_word : PySem.W.codeIn K cd_l_word "_law_word" = true)
    (k_l_word : PySem.W.keepIn K (.ref f_l_word) = true)
    (a_l_due : PySem.W.nsIn K mainGlobals "_law_due" = some (some (.ref f_l_due)))
    (l_l_due : K.lookup f_l_due = some ⟨oc_l_due, od_l_due, .func (PySem.W.fnOf "_law_due" "_law_due" (defArgs s_l_due) (defBody s_l_due) (defScope s_l_due) .none kV_l_due dc_l_due pm_l_due an_l_due cd_l_due ct_l_due), sl_l_due⟩)
    (c_l_due : PySem.W.codeIn K cd_l_due "_law_due" = true)
    (k_l_due : PySem.W.keepIn K (.ref f_l_due) = true)
    (a_l_spoilt : PySem.W.nsIn K mainGlobals "_law_spoilt" = some (some (.ref f_l_spoilt)))
    (l_l_spoilt : K.lookup f_l_spoilt = some ⟨oc_l_spoilt, od_l_spoilt, .func (PySem.W.fnOf "_law_spoilt" "_law_spoilt" (defArgs s_l_spoilt) (defBody s_l_spoilt) (defScope s_l_spoilt) .none kV_l_spoilt dc_l_spoilt pm_l_spoilt an_l_spoilt cd_l_spoilt ct_l_spoilt), sl_l_spoilt⟩)
    (c_l_spoilt : PySem.W.codeIn K cd_l_spoilt "_law_spoilt" = true)
    (k_l_spoilt : PySem.W.keepIn K (.ref f_l_spoilt) = true)
    (a_l_made : PySem.W.nsIn K mainGlobals "_law_made" = some (some (.ref f_l_made)))
    (l_l_made : K.lookup f_l_made = some ⟨oc_l_made, od_l_made, .func (PySem.W.fnOf "_law_made" "_law_made" (defArgs s_l_made) (defBody s_l_made) (defScope s_l_made) .none kV_l_made dc_l_made pm_l_made an_l_made cd_l_made ct_l_made), sl_l_made⟩)
    (c_l_made : PySem.W.codeIn K cd_l_made "_law_made" = true)
    (k_l_made : PySem.W.keepIn K (.ref f_l_made) = true)
    (a_law : PySem.W.nsIn K mainGlobals "law" = some (some (.ref f_law)))
    (l_law : K.lookup f_law = some ⟨oc_law, od_law, .func (PySem.W.fnOf "law" "law" (defArgs s_law) (defBody s_law) (defScope s_law) .none kV_law dc_law pm_law an_law cd_law ct_law), sl_law⟩)
    (c_law : PySem.W.codeIn K cd_law "law" = true)
    (k_law : PySem.W.keepIn K (.ref f_law) = true)
    (a_BadColumn___init__ : PySem.W.findIn K (.ref C_BadColumn) "__init__" = some (some (.ref f_BadColumn___init__)))
    (l_BadColumn___init__ : K.lookup f_BadColumn___init__ = some ⟨oc_BadColumn___init__, od_BadColumn___init__, .func (PySem.W.fnOf "__init__" "BadColumn.__init__" (defArgs s_BadColumn___init__) (defBody s_BadColumn___init__) (defScope s_BadColumn___init__) .none kV_BadColumn___init__ dc_BadColumn___init__ pm_BadColumn___init__ an_BadColumn___init__ cd_BadColumn___init__ ct_BadColumn___init__), sl_BadColumn___init__⟩)
    (c_BadColumn___init__ : PySem.W.codeIn K cd_BadColumn___init__ "BadColumn.__init__" = true)
    (k_BadColumn___init__ : PySem.W.keepIn K (.ref f_BadColumn___init__) = true)
    (fn_BadColumn___init__ : PySem.W.isFn K (.ref f_BadColumn___init__) = true)
    (a_Column___init__ : PySem.W.findIn K (.ref C_Column) "__init__" = some (some (.ref f_Column___init__)))
    (l_Column___init__ : K.lookup f_Column___init__ = some ⟨oc_Column___init__, od_Column___init__, .func (PySem.W.fnOf "__init__" "Column.__init__" (defArgs s_Column___init__) (defBody s_Column___init__) (defScope s_Column___init__) .none kV_Column___init__ dc_Column___init__ pm_Column___init__ an_Column___init__ cd_Column___init__ ct_Column___init__), sl_Column___init__⟩)
    (c_Column___init__ : PySem.W.codeIn K cd_Column___init__ "Column.__init__" = true)
    (k_Column___init__ : PySem.W.keepIn K (.ref f_Column___init__) = true)
    (fn_Column___init__ : PySem.W.isFn K (.ref f_Column___init__) = true)
    (a_Column___eq__ : PySem.W.findIn K (.ref C_Column) "__eq__" = some (some (.ref f_Column___eq__)))
    (l_Column___eq__ : K.lookup f_Column___eq__ = some ⟨oc_Column___eq__, od_Column___eq__, .func (PySem.W.fnOf "__eq__" "Column.__eq__" (defArgs s_Column___eq__) (defBody s_Column___eq__) (defScope s_Column___eq__) .none kV_Column___eq__ dc_Column___eq__ pm_Column___eq__ an_Column___eq__ cd_Column___eq__ ct_Column___eq__), sl_Column___eq__⟩)
    (c_Column___eq__ : PySem.W.codeIn K cd_Column___eq__ "Column.__eq__" = true)
    (k_Column___eq__ : PySem.W.keepIn K (.ref f_Column___eq__) = true)
    (fn_Column___eq__ : PySem.W.isFn K (.ref f_Column___eq__) = true)
    (a_Column___str__ : PySem.W.findIn K (.ref C_Column) "__str__" = some (some (.ref f_Column___str__)))
    (l_Column___str__ : K.lookup f_Column___str__ = some ⟨oc_Column___str__, od_Column___str__, .func (PySem.W.fnOf "__str__" "Column.__str__" (defArgs s_Column___str__) (defBody s_Column___str__) (defScope s_Column___str__) .none kV_Column___str__ dc_Column___str__ pm_Column___str__ an_Column___str__ cd_Column___str__ ct_Column___str__), sl_Column___str__⟩)
    (c_Column___str__ : PySem.W.codeIn K cd_Column___str__ "Column.__str__" = true)
    (k_Column___str__ : PySem.W.keepIn K (.ref f_Column___str__) = true)
    (fn_Column___str__ : PySem.W.isFn K (.ref f_Column___str__) = true)
    (a_Column___len__ : PySem.W.findIn K (.ref C_Column) "__len__" = some (some (.ref f_Column___len__)))
    (l_Column___len__ : K.lookup f_Column___len__ = some ⟨oc_Column___len__, od_Column___len__, .func (PySem.W.fnOf "__len__" "Column.__len__" (defArgs s_Column___len__) (defBody s_Column___len__) (defScope s_Column___len__) .none kV_Column___len__ dc_Column___len__ pm_Column___len__ an_Column___len__ cd_Column___len__ ct_Column___len__), sl_Column___len__⟩)
    (c_Column___len__ : PySem.W.codeIn K cd_Column___len__ "Column.__len__" = true)
    (k_Column___len__ : PySem.W.keepIn K (.ref f_Column___len__) = true)
    (fn_Column___len__ : PySem.W.isFn K (.ref f_Column___len__) = true)
    (a_Column___iter__ : PySem.W.findIn K (.ref C_Column) "__iter__" = some (some (.ref f_Column___iter__)))
    (l_Column___iter__ : K.lookup f_Column___iter__ = some ⟨oc_Column___iter__, od_Column___iter__, .func (PySem.W.fnOf "__iter__" "Column.__iter__" (defArgs s_Column___iter__) (defBody s_Column___iter__) (defScope s_Column___iter__) .none kV_Column___iter__ dc_Column___iter__ pm_Column___iter__ an_Column___iter__ cd_Column___iter__ ct_Column___iter__), sl_Column___iter__⟩)
    (c_Column___iter__ : PySem.W.codeIn K cd_Column___iter__ "Column.__iter__" = true)
    (k_Column___iter__ : PySem.W.keepIn K (.ref f_Column___iter__) = true)
    (fn_Column___iter__ : PySem.W.isFn K (.ref f_Column___iter__) = true)
    (ec_CardError : PySem.W.subIn K (.ref C_CardError) (.type "BaseException") = some true)
    (ty_CardError : PySem.W.typeIn K (.ref C_CardError) = some (.type "type"))
    (ic_CardError : PySem.W.isClsIn K C_CardError = true)
    (ss_CardError : PySem.W.subIn K (.ref C_CardError) (.ref C_CardError) = some true)
    (xl_BadColumn : K.lookup C_BadColumn = some (excClassObj nm_BadColumn q_BadColumn C_BadColumn N_BadColumn bs_BadColumn bm_BadColumn true sn_BadColumn sb_BadColumn ab_BadColumn co_BadColumn dd_BadColumn m0_BadColumn m1_BadColumn m2_BadColumn m3_BadColumn m5_BadColumn "ValueError.__new__"))
    (rv_BadColumn : PySem.HandSPX.refsVE bm_BadColumn = true)
    (sa_BadColumn : PySem.W.findIn K (.ref C_BadColumn) "__setattr__" = some (some (.builtin "object.__setattr__")))
    (ga_BadColumn : PySem.W.findIn K (.ref C_BadColumn) "__getattribute__" = some (some (.builtin "BaseException.__getattribute__")))
    (gg_BadColumn : PySem.W.findIn K (.ref C_BadColumn) "__getattr__" = some none)
    (kc_BadColumn : PySem.W.keepIn K (.ref C_BadColumn) = true)
    (hd_BadColumn : PySem.W.hasDictIn K C_BadColumn = true)
    (ti_BadColumn : PySem.W.typeIn K (.ref f_BadColumn___init__) = some (.type "function"))
    (ec_BadColumn : PySem.W.subIn K (.ref C_BadColumn) (.type "BaseException") = some true)
    (ty_BadColumn : PySem.W.typeIn K (.ref C_BadColumn) = some (.type "type"))
    (ic_BadColumn : PySem.W.isClsIn K C_BadColumn = true)
    (ss_BadColumn : PySem.W.subIn K (.ref C_BadColumn) (.ref C_BadColumn) = some true)
    (n_BadColumn_what : PySem.W.findIn K (.ref C_BadColumn) "what" = some none)
    (up_BadColumn_CardError : PySem.W.subIn K (.ref C_BadColumn) (.ref C_CardError) = some true)
    (pg_Column : PySem.W.plainGet K C_Column Str.empty = true)
    (hd_Column : PySem.W.hasDictIn K C_Column = true)
    (po_Column : PySem.W.plainOver K C_Column = true)
    (sa_Column : PySem.W.findIn K (.ref C_Column) "__setattr__" = some (some (.builtin "object.__setattr__")))
    (i1_Column : PySem.W.findIn K (.ref C_Column) "__class__" = some (some (.builtin "object.__class__")))
    (i4_Column : PySem.W.mroIn K C_Column (.type "object") = some true)
    (ic_Column : PySem.W.isClsIn K C_Column = true)
    (ty_Column : PySem.W.typeIn K (.ref C_Column) = some (.type "type"))
    (it_str_Column : PySem.W.subIn K (.type "str") (.ref C_Column) = some false)
    (it_int_Column : PySem.W.subIn K (.type "int") (.ref C_Column) = some false)
    (it_bool_Column : PySem.W.subIn K (.type "bool") (.ref C_Column) = some false)
    (it_NoneType_Column : PySem.W.subIn K (.type "NoneType") (.ref C_Column) = some false)
    (it_list_Column : PySem.W.subIn K (.type "list") (.ref C_Column) = some false)
    (it_tuple_Column : PySem.W.subIn K (.type "tuple") (.ref C_Column) = some false)
    (it_dict_Column : PySem.W.subIn K (.type "dict") (.ref C_Column) = some false)
    (ti_str_Column : PySem.W.subIn K (.ref C_Column) (.type "str") = some false)
    (ti_int_Column : PySem.W.subIn K (.ref C_Column) (.type "int") = some false)
    (ti_bool_Column : PySem.W.subIn K (.ref C_Column) (.type "bool") = some false)
    (ti_list_Column : PySem.W.subIn K (.ref C_Column) (.type "list") = some false)
    (sub_Column : PySem.W.subIn K (.type "str") (.ref C_Column) = some false)
    (ne_Column : PySem.W.findIn K (.ref C_Column) "__ne__" = some (some (.builtin "object.__ne__")))
    (mk_Column : PySem.W.makesIn K C_Column = true)
    (kc_Column : PySem.W.keepIn K (.ref C_Column) = true)
    (n_Column_word : PySem.W.findIn K (.ref C_Column) "word" = some none)
    (n_Column_size : PySem.W.findIn K (.ref C_Column) "size" = some none)
    (kc_MOST_SIZE : PySem.W.nsIn K mainGlobals "MOST_SIZE" = some (some (.int 6 tk_MOST_SIZE)))
    (i2 : PySem.W.specialIn K (.builtin "object.__class__") "__get__" = some (some (.builtin "getset_descriptor.__get__")))
    (i3 : PySem.W.takesIn K (.builtin "object.__class__") = some true)
    (z_ValueError : PySem.W.nsIn K mainGlobals "ValueError" = some none)
    (z_abs : PySem.W.nsIn K mainGlobals "abs" = some none)
    (z_all : PySem.W.nsIn K mainGlobals "all" = some none)
    (z_bool : PySem.W.nsIn K mainGlobals "bool" = some none)
    (z_enumerate : PySem.W.nsIn K mainGlobals "enumerate" = some none)
    (z_int : PySem.W.nsIn K mainGlobals "int" = some none)
    (z_isinstance : PySem.W.nsIn K mainGlobals "isinstance" = some none)
    (z_iter : PySem.W.nsIn K mainGlobals "iter" = some none)
    (z_len : PySem.W.nsIn K mainGlobals "len" = some none)
    (z_list : PySem.W.nsIn K mainGlobals "list" = some none)
    (z_min : PySem.W.nsIn K mainGlobals "min" = some none)
    (z_property : PySem.W.nsIn K mainGlobals "property" = some none)
    (z_range : PySem.W.nsIn K mainGlobals "range" = some none)
    (z_staticmethod : PySem.W.nsIn K mainGlobals "staticmethod" = some none)
    (z_str : PySem.W.nsIn K mainGlobals "str" = some none)
    : ∃ fd : FuncData, (∀ (s : Shared) (u : Value), BindsTo s fd ⟨[u], []⟩ [("_law_script", u)]) ∧ ∀ base : Heap, K.In base → base.Ns mainGlobals mg → FnOk P w K mg base CX0 8 fa fd ["_law_script"] (spLaw K) := by
  have e : f_law = fa := by
    have e := hfa.symm.trans (PySem.W.mg_of X G a_law)
    cases e
    rfl
  subst e
  have F_is_number := fun_mk (st := s_is_number) l_is_number c_is_number k_is_number
  have b_is_number := F_is_number.binds (ps := P_is_number) fun _ _ _ _ _ _ us hl => match us, hl with | [_], _ => rfl
  have F_is_whole := fun_mk (st := s_is_whole) l_is_whole c_is_whole k_is_whole
  have b_is_whole := F_is_whole.binds (ps := P_is_whole) fun _ _ _ _ _ _ us hl => match us, hl with | [_, _, _], _ => rfl
  have F_word_fault := fun_mk (st := s_word_fault) l_word_fault c_word_fault k_word_fault
  have b_word_fault := F_word_fault.binds (ps := P_word_fault) fun _ _ _ _ _ _ us hl => match us, hl with | [_], _ => rfl
  have F_l_mix := fun_mk (st := s_l_mix) l_l_mix c_l_mix k_l_mix
  have b_l_mix := F_l_mix.binds (ps := P_l_mix) fun _ _ _ _ _ _ us hl => match us, hl with | [_, _], _ => rfl
  have F_l_hand := fun_mk (st := s_l_hand) l_l_hand c_l_hand k_l_hand
  have b_l_hand := F_l_hand.binds (ps := P_l_hand) fun _ _ _ _ _ _ us hl => match us, hl with | [_], _ => rfl
  have F_l_draw := fun_mk (st := s_l_draw) l_l_draw c_l_draw k_l_draw
  have b_l_draw := F_l_draw.binds (ps := P_l_draw) fun _ _ _ _ _ _ us hl => match us, hl with | [_, _], _ => rfl
  have F_l_word := fun_mk (st := s_l_word) l_l_word c_l_word k_l_word
  have b_l_word := F_l_word.binds (ps := P_l_word) fun _ _ _ _ _ _ us hl => match us, hl with | [_, _], _ => rfl
  have F_l_due := fun_mk (st := s_l_due) l_l_due c_l_due k_l_due
  have b_l_due := F_l_due.binds (ps := P_l_due) fun _ _ _ _ _ _ us hl => match us, hl with | [_], _ => rfl
  have F_l_spoilt := fun_mk (st := s_l_spoilt) l_l_spoilt c_l_spoilt k_l_spoilt
  have b_l_spoilt := F_l_spoilt.binds (ps := P_l_spoilt) fun _ _ _ _ _ _ us hl => match us, hl with | [_, _], _ => rfl
  have F_l_made := fun_mk (st := s_l_made) l_l_made c_l_made k_l_made
  have b_l_made := F_l_made.binds (ps := P_l_made) fun _ _ _ _ _ _ us hl => match us, hl with | [_], _ => rfl
  have F_law := fun_mk (st := s_law) l_law c_law k_law
  have b_law := F_law.binds (ps := P_law) fun _ _ _ _ _ _ us hl => match us, hl with | [_], _ => rfl
  have F_BadColumn___init__ := fun_mk (st := s_BadColumn___init__) l_BadColumn___init__ c_BadColumn___init__ k_BadColumn___init__
  have b_BadColumn___init__ := F_BadColumn___init__.binds (ps := P_BadColumn___init__) fun _ _ _ _ _ _ us hl => match us, hl with | [_, _], _ => rfl
  have F_Column___init__ := fun_mk (st := s_Column___init__) l_Column___init__ c_Column___init__ k_Column___init__
  have b_Column___init__ := F_Column___init__.binds (ps := P_Column___init__) fun _ _ _ _ _ _ us hl => match us, hl with | [_, _], _ => rfl
  have F_Column___eq__ := fun_mk (st := s_Column___eq__) l_Column___eq__ c_Column___eq__ k_Column___eq__
  have b_Column___eq__ := F_Column___eq__.binds (ps := P_Column___eq__) fun _ _ _ _ _ _ us hl => match us, hl with | [_, _], _ => rfl
  have F_Column___str__ := fun_mk (st := s_Column___str__) l_Column___str__ c_Column___str__ k_Column___str__
  have b_Column___str__ := F_Column___str__.binds (ps := P_Column___str__) fun _ _ _ _ _ _ us hl => match us, hl with | [_], _ => rfl
  have F_Column___len__ := fun_mk (st := s_Column___len__) l_Column___len__ c_Column___len__ k_Column___len__
  have b_Column___len__ := F_Column___len__.binds (ps := P_Column___len__) fun _ _ _ _ _ _ us hl => match us, hl with | [_], _ => rfl
  have F_Column___iter__ := fun_mk (st := s_Column___iter__) l_Column___iter__ c_Column___iter__ k_Column___iter__
  have b_Column___iter__ := F_Column___iter__.binds (ps := P_Column___iter__) fun _ _ _ _ _ _ us hl => match us, hl with | [_], _ => rfl
  have T : Top K mg ({ f_is_number := f_is_number, f_is_whole := f_is_whole, f_word_fault := f_word_fault, f_l_mix := f_l_mix, f_l_hand := f_l_hand, f_l_draw := f_l_draw, f_l_word := f_l_word, f_l_due := f_l_due, f_l_spoilt := f_l_spoilt, f_l_made := f_l_made, f_law := f_law, f_BadColumn___init__ := f_BadColumn___init__, f_Column___init__ := f_Column___init__, f_Column___eq__ := f_Column___eq__, f_Column___str__ := f_Column___str__, f_Column___len__ := f_Column___len__, f_Column___iter__ := f_Column___iter__, d_is_number := (PySem.W.fnOf "is_number" "is_number" (defArgs s_is_number) (defBody s_is_number) (defScope s_is_number) .none kV_is_number dc_is_number pm_is_number an_is_number cd_is_number ct_is_number), d_is_whole := (PySem.W.fnOf "is_whole" "is_whole" (defArgs s_is_whole) (defBody s_is_whole) (defScope s_is_whole) .none kV_is_whole dc_is_whole pm_is_whole an_is_whole cd_is_whole ct_is_whole), d_word_fault := (PySem.W.fnOf "word_fault" "word_fault" (defArgs s_word_fault) (defBody s_word_fault) (defScope s_word_fault) .none kV_word_fault dc_word_fault pm_word_fault an_word_fault cd_word_fault ct_word_fault), d_l_mix := (PySem.W.fnOf "_law_mix" "_law_mix" (defArgs s_l_mix) (defBody s_l_mix) (defScope s_l_mix) .none kV_l_mix dc_l_mix pm_l_mix an_l_mix cd_l_mix ct_l_mix), d_l_hand := (PySem.W.fnOf "_law_hand" "_law_hand" (defArgs s_l_hand) (defBody s_l_hand) (defScope s_l_hand) .none kV_l_hand dc_l_hand pm_l_hand an_l_hand cd_l_hand ct_l_hand), d_l_draw := (PySem.W.fnOf "_law_draw" "_law_draw" (defArgs s_l_draw) (defBody s_l_draw) (defScope s_l_draw) .none kV_l_draw dc_l_draw pm_l_draw an_l_draw cd_l_draw ct_l_draw), d_l_word := (PySem.W.fnOf "_law_word" "_law_word" (defArgs s_l_word) (defBody s_l_word) (defScope s_l_word) .none kV_l_word dc_l_word pm_l_word an_l_word cd_l_word ct_l_word), d_l_due := (PySem.W.fnOf "_law_due" "_law_due" (defArgs s_l_due) (defBody s_l_due) (defScope s_l_due) .none kV_l_due dc_l_due pm_l_due an_l_due cd_l_due ct_l_due), d_l_spoilt := (PySem.W.fnOf "_law_spoilt" "_law_spoilt" (defArgs s_l_spoilt) (defBody s_l_spoilt) (defScope s_l_spoilt) .none kV_l_spoilt dc_l_spoilt pm_l_spoilt an_l_spoilt cd_l_spoilt ct_l_spoilt), d_l_made := (PySem.W.fnOf "_law_made" "_law_made" (defArgs s_l_made) (defBody s_l_made) (defScope s_l_made) .none kV_l_made dc_l_made pm_l_made an_l_made cd_l_made ct_l_made), d_law := (PySem.W.fnOf "law" "law" (defArgs s_law) (defBody s_law) (defScope s_law) .none kV_law dc_law pm_law an_law cd_law ct_law), d_BadColumn___init__ := (PySem.W.fnOf "__init__" "BadColumn.__init__" (defArgs s_BadColumn___init__) (defBody s_BadColumn___init__) (defScope s_BadColumn___init__) .none kV_BadColumn___init__ dc_BadColumn___init__ pm_BadColumn___init__ an_BadColumn___init__ cd_BadColumn___init__ ct_BadColumn___init__), d_Column___init__ := (PySem.W.fnOf "__init__" "Column.__init__" (defArgs s_Column___init__) (defBody s_Column___init__) (defScope s_Column___init__) .none kV_Column___init__ dc_Column___init__ pm_Column___init__ an_Column___init__ cd_Column___init__ ct_Column___init__), d_Column___eq__ := (PySem.W.fnOf "__eq__" "Column.__eq__" (defArgs s_Column___eq__) (defBody s_Column___eq__) (defScope s_Column___eq__) .none kV_Column___eq__ dc_Column___eq__ pm_Column___eq__ an_Column___eq__ cd_Column___eq__ ct_Column___eq__), d_Column___str__ := (PySem.W.fnOf "__str__" "Column.__str__" (defArgs s_Column___str__) (defBody s_Column___str__) (defScope s_Column___str__) .none kV_Column___str__ dc_Column___str__ pm_Column___str__ an_Column___str__ cd_Column___str__ ct_Column___str__), d_Column___len__ := (PySem.W.fnOf "__len__" "Column.__len__" (defArgs s_Column___len__) (defBody s_Column___len__) (defScope s_Column___len__) .none kV_Column___len__ dc_Column___len__ pm_Column___len__ an_Column___len__ cd_Column___len__ ct_Column___len__), d_Column___iter__ := (PySem.W.fnOf "__iter__" "Column.__iter__" (defArgs s_Column___iter__) (defBody s_Column___iter__) (defScope s_Column___iter__) .none kV_Column___iter__ dc_Column___iter__ pm_Column___iter__ an_Column___iter__ cd_Column___iter__ ct_Column___iter__), C_CardError := C_CardError, C_BadColumn := C_BadColumn, C_Column := C_Column } : Ads) := {
    D_is_number := ⟨F_is_number, b_is_number, PySem.W.mg_of X G a_is_number⟩,
    D_is_whole := ⟨F_is_whole, b_is_whole, PySem.W.mg_of X G a_is_whole⟩,
    D_word_fault := ⟨F_word_fault, b_word_fault, PySem.W.mg_of X G a_word_fault⟩,
    D_l_mix := ⟨F_l_mix, b_l_mix, PySem.W.mg_of X G a_l_mix⟩,
    D_l_hand := ⟨F_l_hand, b_l_hand, PySem.W.mg_of X G a_l_hand⟩,
    D_l_draw := ⟨F_l_draw, b_l_draw, PySem.W.mg_of X G a_l_draw⟩,
    D_l_word := ⟨F_l_word, b_l_word, PySem.W.mg_of X G a_l_word⟩,
    D_l_due := ⟨F_l_due, b_l_due, PySem.W.mg_of X G a_l_due⟩,
    D_l_spoilt := ⟨F_l_spoilt, b_l_spoilt, PySem.W.mg_of X G a_l_spoilt⟩,
    D_l_made := ⟨F_l_made, b_l_made, PySem.W.mg_of X G a_l_made⟩,
    D_law := ⟨F_law, b_law, PySem.W.mg_of X G a_law⟩,
    D_BadColumn___init__ := ⟨F_BadColumn___init__, b_BadColumn___init__⟩,
    D_Column___init__ := ⟨F_Column___init__, b_Column___init__⟩,
    D_Column___eq__ := ⟨F_Column___eq__, b_Column___eq__⟩,
    D_Column___str__ := ⟨F_Column___str__, b_Column___str__⟩,
    D_Column___len__ := ⟨F_Column___len__, b_Column___len__⟩,
    D_Column___iter__ := ⟨F_Column___iter__, b_Column___iter__⟩,
    g_CardError := PySem.W.mg_of X G ac_CardError,
    x_BadColumn := ⟨PySem.W.mg_of X G ac_BadColumn, ⟨⟨_, _, _, _, _, _, _, _, _, _, _, _, _, _, _, xl_BadColumn, rv_BadColumn⟩, sa_BadColumn, ec_BadColumn, ty_BadColumn, kc_BadColumn⟩, ⟨ga_BadColumn, gg_BadColumn, ec_BadColumn, hd_BadColumn⟩, a_BadColumn___init__, ti_BadColumn, exm_of ec_BadColumn ic_BadColumn ty_BadColumn ss_BadColumn⟩,
    g_BadColumn := PySem.W.mg_of X G ac_BadColumn,
    n_BadColumn_what := n_BadColumn_what,
    up_BadColumn_CardError := exm_of ec_CardError ic_CardError ty_CardError up_BadColumn_CardError,
    g_Column := PySem.W.mg_of X G ac_Column,
    cl_Column := ⟨pg_Column, hd_Column, po_Column, sa_Column⟩,
    i1_Column := i1_Column,
    i4_Column := i4_Column,
    ii_Column := kit_self,
    it_str_Column := kit_own ic_Column ty_Column it_str_Column,
    it_int_Column := kit_own ic_Column ty_Column it_int_Column,
    it_bool_Column := kit_own ic_Column ty_Column it_bool_Column,
    it_NoneType_Column := kit_own ic_Column ty_Column it_NoneType_Column,
    it_list_Column := kit_own ic_Column ty_Column it_list_Column,
    it_tuple_Column := kit_own ic_Column ty_Column it_tuple_Column,
    it_dict_Column := kit_own ic_Column ty_Column it_dict_Column,
    ti_Column_str := kit_kind (by decide +kernel) ti_str_Column,
    ti_Column_int := kit_kind (by decide +kernel) ti_int_Column,
    ti_Column_bool := kit_kind (by decide +kernel) ti_bool_Column,
    ti_Column_list := kit_kind (by decide +kernel) ti_list_Column,
    subt_Column := it_tuple_Column,
    subl_Column := it_list_Column,
    sub_Column := sub_Column,
    ne_Column := ⟨ne_Column, i4_Column⟩,
    mk_Column := ⟨mk_Column, a_Column___init__, fn_Column___init__, kc_Column⟩,
    n_Column_word := n_Column_word,
    n_Column_size := n_Column_size,
    o_Column___eq__ := ⟨a_Column___eq__, fn_Column___eq__⟩,
    m_Column___eq__ := ⟨a_Column___eq__, fn_Column___eq__, k_Column___eq__⟩,
    o_Column___str__ := ⟨a_Column___str__, fn_Column___str__⟩,
    m_Column___str__ := ⟨a_Column___str__, fn_Column___str__, k_Column___str__⟩,
    o_Column___len__ := ⟨a_Column___len__, fn_Column___len__⟩,
    m_Column___len__ := ⟨a_Column___len__, fn_Column___len__, k_Column___len__⟩,
    o_Column___iter__ := ⟨a_Column___iter__, fn_Column___iter__⟩,
    m_Column___iter__ := ⟨a_Column___iter__, fn_Column___iter__, k_Column___iter__⟩,
    c_MOST_SIZE := ⟨_, PySem.W.mg_of X G kc_MOST_SIZE⟩,
    i2 := i2,
    i3 := i3,
    b_ValueError := PySem.W.mg_none_of X G z_ValueError,
    b_abs := PySem.W.mg_none_of X G z_abs,
    b_all := PySem.W.mg_none_of X G z_all,
    b_bool := PySem.W.mg_none_of X G z_bool,
    b_enumerate := PySem.W.mg_none_of X G z_enumerate,
    b_int := PySem.W.mg_none_of X G z_int,
    b_isinstance := PySem.W.mg_none_of X G z_isinstance,
    b_iter := PySem.W.mg_none_of X G z_iter,
    b_len := PySem.W.mg_none_of X G z_len,
    b_list := PySem.W.mg_none_of X G z_list,
    b_min := PySem.W.mg_none_of X G z_min,
    b_property := PySem.W.mg_none_of X G z_property,
    b_range := PySem.W.mg_none_of X G z_range,
    b_staticmethod := PySem.W.mg_none_of X G z_staticmethod,
    b_str := PySem.W.mg_none_of X G z_str }
  exact ⟨(PySem.W.fnOf "law" "law" (defArgs s_law) (defBody s_law) (defScope s_law) .none kV_law dc_law pm_law an_law cd_law ct_law), fun s v => .of_eq rfl, fun base _ _ => ok_law T⟩
theorem walk {l : PySem.W.OpenLaw} {q : Program} {loose : List Str} {XP : (Str → Option Value) → Heap → Prop} {YP : World → Heap → Prop} {d : DefRec} {K : Params → PySem.W.Frag} (hn : l.most = some 63) (hdf : d.params.defaults = [])
    (hY : ∀ (w : World) (h : Heap), YP w h → (K w.params).In h)
    (F : ∀ (w : World) (mg : Str → Option Value) (fa : Addr) (h : Heap), (K w.params).In h → h.Ns mainGlobals mg → mg d.name = some (.ref fa) →
      ∃ fd : FuncData, (∀ (s : Shared) (u : Value), BindsTo s fd ⟨[u], []⟩ [("_law_script", u)]) ∧ ∀ base : Heap, (K w.params).In base → base.Ns mainGlobals mg → FnOk l.prog w (K w.params) mg base CX0 8 fa fd ["_law_script"] (spLaw (K w.params))) :
    PySem.W.WalkO q loose XP YP l.row.toRowW d [] (fun f vs => PySem.call f vs) :=
  L2.walk_ofB (n := 63) (k := 8) (x := "_law_script") (CX := fun _ => CX0) (sp := fun w => spLaw (K w.params)) hn (by decide) hdf ⟨rfl, by decide, by decide⟩ hY F (fun _ _ a ns hl _ _ hS => ⟨a, ns, rfl, hS, hl, fun _ => rfl⟩) fun _ _ _ _ _ z => z


end Sl
open PySem PySem.W PyProof.Rows
set_option maxRecDepth 100000 in
set_option maxHeartbeats 0 in
theorem PySem.Challenge.cw_slitstairs_k01_words_and_columns_made_an_holds : PySem.Challenge.rw_slitstairs_k01_words_and_columns_made_an.Holds := by
  w_on; o_law; k_head; (case hw => w_witness2)
  k_fill
  refine Sl.walk (l := PySem.Challenge.rw_slitstairs_k01_words_and_columns_made_an) rfl rfl (fun w h Y => PySem.W.kIn_of Y) ?F
  case F =>
    intro w mg fa h KX G hmg
    refine' Sl.all_mk KX G hmg ?ac_CardError ?ac_BadColumn ?ac_Column ?a_is_number ?l_is_number ?c_is_number ?k_is_number ?a_is_whole ?l_is_whole ?c_is_whole ?k_is_whole ?a_word_fault ?l_word_fault ?c_word_fault ?k_word_fault ?a_l_mix ?l_l_mix ?c_l_mix ?k_l_mix ?a_l_hand ?l_l_hand ?c_l_hand ?k_l_hand ?a_l_draw ?l_l_draw ?c_l_draw ?k_l_draw ?a_l_word ?l_l_word ?c_l_word ?k_l_word ?a_l_due ?l_l_due ?c_l_due ?k_l_due ?a_l_spoilt ?l_l_spoilt ?c_l_spoilt ?k_l_spoilt ?a_l_made ?l_l_made ?c_l_made ?k_l_made ?a_law ?l_law ?c_law ?k_law ?a_BadColumn___init__ ?l_BadColumn___init__ ?c_BadColumn___init__ ?k_BadColumn___init__ ?fn_BadColumn___init__ ?a_Column___init__ ?l_Column___init__ ?c_Column___init__ ?k_Column___init__ ?fn_Column___init__ ?a_Column___eq__ ?l_Column___eq__ ?c_Column___eq__ ?k_Column___eq__ ?fn_Column___eq__ ?a_Column___str__ ?l_Column___str__ ?c_Column___str__ ?k_Column___str__ ?fn_Column___str__ ?a_Column___len__ ?l_Column___len__ ?c_Column___len__ ?k_Column___len__ ?fn_Column___len__ ?a_Column___iter__ ?l_Column___iter__ ?c_Column___iter__ ?k_Column___iter__ ?fn_Column___iter__ ?ec_CardError ?ty_CardError ?ic_CardError ?ss_CardError ?xl_BadColumn ?rv_BadColumn ?sa_BadColumn ?ga_BadColumn ?gg_BadColumn ?kc_BadColumn ?hd_BadColumn ?ti_BadColumn ?ec_BadColumn ?ty_BadColumn ?ic_BadColumn ?ss_BadColumn ?n_BadColumn_what ?up_BadColumn_CardError ?pg_Column ?hd_Column ?po_Column ?sa_Column ?i1_Column ?i4_Column ?ic_Column ?ty_Column ?it_str_Column ?it_int_Column ?it_bool_Column ?it_NoneType_Column ?it_list_Column ?it_tuple_Column ?it_dict_Column ?ti_str_Column ?ti_int_Column ?ti_bool_Column ?ti_list_Column ?sub_Column ?ne_Column ?mk_Column ?kc_Column ?n_Column_word ?n_Column_size ?kc_MOST_SIZE ?i2 ?i3 ?z_ValueError ?z_abs ?z_all ?z_bool ?z_enumerate ?z_int ?z_isinstance ?z_iter ?z_len ?z_list ?z_min ?z_property ?z_range ?z_staticmethod ?z_str
    (case ac_CardError => k_is)
    (case ac_BadColumn => k_is)
    (case ac_Column => k_is)
    (case a_is_number => k_is)
    (case l_is_number => k_is)
    (case c_is_number => k_is)
    (case k_is_number => k_is)
    (case a_is_whole => k_is)
    (case l_is_whole => k_is)
    (case c_is_whole => k_is)
    (case k_is_whole => k_is)
    (case a_word_fault => k_is)
    (case l_word_fault => k_is)
    (case c_word_fault => k_is)
    (case k_word_fault => k_is)
    (case a_l_mix => k_is)
    (case l_l_mix => k_is)
    (case c_l_mix => k_is)
    (case k_l_mix => k_is)
    (case a_l_hand => k_is)
    (case l_l_hand => k_is)
    (case c_l_hand => k_is)
    (case k_l_hand => k_is)
    (case a_l_draw => k_is)
    (case l_l_draw => k_is)
    (case c_l_draw => k_is)
    (case k_l_draw => k_is)
    (case a_l_word => k_is)
    (case l_l_word => k_is)
    (case c_l_word => k_is)
    (case k_l_word => k_is)
    (case a_l_due => k_is)
    (case l_l_due => k_is)
    (case c_l_due => k_is)
    (case k_l_due => k_is)
    (case a_l_spoilt => k_is)
    (case l_l_spoilt => k_is)
    (case c_l_spoilt => k_is)
    (case k_l_spoilt => k_is)
    (case a_l_made => k_is)
    (case l_l_made => k_is)
    (case c_l_made => k_is)
    (case k_l_made => k_is)
    (case a_law => k_is)
    (case l_law => k_is)
    (case c_law => k_is)
    (case k_law => k_is)
    (case a_BadColumn___init__ => k_is)
    (case l_BadColumn___init__ => k_is)
    (case c_BadColumn___init__ => k_is)
    (case k_BadColumn___init__ => k_is)
    (case fn_BadColumn___init__ => k_is)
    (case a_Column___init__ => k_is)
    (case l_Column___init__ => k_is)
    (case c_Column___init__ => k_is)
    (case k_Column___init__ => k_is)
    (case fn_Column___init__ => k_is)
    (case a_Column___eq__ => k_is)
    (case l_Column___eq__ => k_is)
    (case c_Column___eq__ => k_is)
    (case k_Column___eq__ => k_is)
    (case fn_Column___eq__ => k_is)
    (case a_Column___str__ => k_is)
    (case l_Column___str__ => k_is)
    (case c_Column___str__ => k_is)
    (case k_Column___str__ => k_is)
    (case fn_Column___str__ => k_is)
    (case a_Column___len__ => k_is)
    (case l_Column___len__ => k_is)
    (case c_Column___len__ => k_is)
    (case k_Column___len__ => k_is)
    (case fn_Column___len__ => k_is)
    (case a_Column___iter__ => k_is)
    (case l_Column___iter__ => k_is)
    (case c_Column___iter__ => k_is)
    (case k_Column___iter__ => k_is)
    (case fn_Column___iter__ => k_is)
    (case ec_CardError => k_is)
    (case ty_CardError => k_is)
    (case ic_CardError => k_is)
    (case ss_CardError => first | rfl | k_is)
    (case xl_BadColumn => k_is)
    (case rv_BadColumn => first | rfl | decide +kernel)
    (case sa_BadColumn => k_is)
    (case ga_BadColumn => k_is)
    (case gg_BadColumn => k_is)
    (case kc_BadColumn => k_is)
    (case hd_BadColumn => k_is)
    (case ti_BadColumn => k_is)
    (case ec_BadColumn => k_is)
    (case ty_BadColumn => k_is)
    (case ic_BadColumn => k_is)
    (case ss_BadColumn => first | rfl | k_is)
    (case n_BadColumn_what => k_is)
    (case up_BadColumn_CardError => k_is)
    (case pg_Column => k_is)
    (case hd_Column => k_is)
    (case po_Column => k_is)
    (case sa_Column => k_is)
    (case i1_Column => k_is)
    (case i4_Column => k_is)
    (case ic_Column => k_is)
    (case ty_Column => k_is)
    (case it_str_Column => k_is)
    (case it_int_Column => k_is)
    (case it_bool_Column => k_is)
    (case it_NoneType_Column => k_is)
    (case it_list_Column => k_is)
    (case it_tuple_Column => k_is)
    (case it_dict_Column => k_is)
    (case ti_str_Column => k_is)
    (case ti_int_Column => k_is)
    (case ti_bool_Column => k_is)
    (case ti_list_Column => k_is)
    (case sub_Column => k_is)
    (case ne_Column => k_is)
    (case mk_Column => k_is)
    (case kc_Column => k_is)
    (case n_Column_word => k_is)
    (case n_Column_size => k_is)
    (case kc_MOST_SIZE => k_is)
    (case i2 => k_is)
    (case i3 => k_is)
    (case z_ValueError => k_is)
    (case z_abs => k_is)
    (case z_all => k_is)
    (case z_bool => k_is)
    (case z_enumerate => k_is)
    (case z_int => k_is)
    (case z_isinstance => k_is)
    (case z_iter => k_is)
    (case z_len => k_is)
    (case z_list => k_is)
    (case z_min => k_is)
    (case z_property => k_is)
    (case z_range => k_is)
    (case z_staticmethod => k_is)
    (case z_str => k_is)
