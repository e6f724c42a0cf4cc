import PyProof.Rows.All
import Wide.All
import OpenK.AllK
import Wide.FinOn
import HandS.Deep
import HandS.Sort
import HandS.SortRule
import HandS.Defaults
import HandS.Gcd
import HandS.ExcIs
import HandS.TupAny
import PySem.Challenge.RW_slitstairs_k04_whole_all_columns_counted
import HandS.ForMost
import HandS.ForExc
import HandS.EndBits
import HandS.Wide
import HandS.Walk
import HandS.IsInst
import HandS.ExcInit
import HandS.ExcField
import HandS.OwnEq
import HandS.IterVal
import PyProof.FactsAll.str_ascii_iterator_1
import PyProof.FactsAll.tuple_iterator_1
import HandS.Style
import HandS.RaiseMore
import HandS.Property
import HandS.TryMany
import HandS.TryOnly
import HandS.ClsMeth
import HandS.MakeKwOnly
import HandS.FStr
import HandS.DictTup
import HandS.StrSplit
import HandS.Star
import HandS.MethStar
import HandS.TupLe
import KE.GoesMore
import KE.SortData
import HandS.Zip
import HandS.StrMore
import HandS.NoneIn
import HandS.Conv
import HandS.Flow
import HandS.GenList
set_option Elab.async false
set_option linter.all false
set_option maxRecDepth 100000
set_option maxHeartbeats 4000000
namespace Sl
open PySem PySem.Spec PyProof.Rows L2 ItX
/-- the def st stands at f as the name x of the module -/
structure DefAt (K : PySem.W.Frag) (mg : Str → Option Value) (x : Str) (st : Stmt) (ps : List Str) (f : Addr) (fd : FuncData) : Prop where
  F : Fun K x x st f fd
  b : Binds K fd ps []
  g : mg x = some (.ref f)
theorem callD {X : Cx} {x : Str} {st : Stmt} {ps : List Str} {f : Addr} {fd : FuncData} {sp : Sp} {k j : Nat} {e : Expr} {es : List Expr} {p pos : Pos} {t : TA} (D : DefAt X.K X.mg x st ps f fd) (G : FnOk X.prog X.w X.K X.mg X.base CX0 k f fd ps sp) (hr : Room j X.A) (ha : PA X (e :: es) t)
    (hk : k ≤ j := by decide) (hg : Gl X x := by rfl) (hdb : (x == ("__debug__" : Str)) = false := by decide)
    (he : starEach (e :: es) X.env = (false, eval e X.env) :: starEach es X.env := by rfl) (hpl : (backTo pos (starEach es X.env)).any (·.1) = false := by rfl) :
    PE X (.Call (.Name x p) (e :: es) [] pos) (tCall sp [] E0 t) := pe_call G (hr.mono hk) hg D.g D.F.kp D.b .nil pass0 ha hdb he hpl
theorem cmul_l {i j : Int} (h : -18446744073709551616 < i ∧ i < 18446744073709551616) : CMul i j := .inl h
theorem cmul_r {i j : Int} (h : -18446744073709551616 < j ∧ j < 18446744073709551616) : CMul i j := .inr h
theorem cdiv {i j : Int} (h : 0 < j) (h2 : j < 1073741824) : CDiv i j := ⟨h, h2⟩
theorem same_but {a : Addr} {H H1 H2 : Hp} (s : Same H H1) (n : H a = none) (b : ∀ b o, b ≠ a → H1 b = some o → H2 b = some o) : Same H H2 := fun c o h => b c o (ne_of_none h n) (s c o h)
theorem same_new {H H1 : Hp} {a : Addr} {o : HO} (s : Same H H1) (n : H1 a = none) : Same H (upd H1 a o) := fun b u e => by
  rw [upd_ne (ne_of_none (s b u e) n)]
  exact s b u e
theorem same_free {H H' : Hp} {a : Addr} (s : Same H H') (n : H' a = none) : H a = none := s.free n
theorem cpow {i j : Int} (h1 : 0 ≤ j) (h2 : j ≤ 1000000) (h3 : i.natAbs < 2 ^ 64) : CPow i j := ⟨h1, h2, h3⟩
theorem szl {n : Nat} (h : n ≤ 1000) : n ≤ sizeLine := Nat.le_of_lt (small1000 h)
/-- the law's hand stands at a -/
def HandOk (H : Hp) (a : Addr) : Prop := ∃ (l : Addr) (cells : List Int) (pos pend tot : Int), H a = some (.lst [.ref l, .int pos, .int pend, .int tot]) ∧ H l = some (.lst (cells.map V.int)) ∧
  (0 ≤ pos ∧ pos ≤ 63) ∧ cells.length ≤ 63 ∧ (∀ c ∈ cells, 0 ≤ c) ∧ 0 ≤ pend ∧ (0 ≤ tot ∧ tot < 2147483629)
/-- all but a is as it was -/
def But (a : Addr) (H H' : Hp) : Prop := ∀ b o, b ≠ a → H b = some o → H' b = some o
theorem HandOk.mk {H H' : Hp} {a l : Addr} {cells : List Int} {pos pend tot : Int} (hal : a ≠ l) (el : H l = some (.lst (cells.map V.int))) (b : But a H H') (ea : H' a = some (.lst [.ref l, .int pos, .int pend, .int tot])) (hp : 0 ≤ pos ∧ pos ≤ 63) (hl : cells.length ≤ 63) (hc : ∀ c ∈ cells, 0 ≤ c) (hpe : 0 ≤ pend) (ht : 0 ≤ tot ∧ tot < 2147483629) : HandOk H' a :=
  ⟨l, cells, pos, pend, tot, ea, b l _ (Ne.symm hal) el, hp, hl, hc, hpe, ht⟩
theorem But.refl (a : Addr) (H : Hp) : But a H H := fun _ _ _ h => h
theorem But.trans {a : Addr} {H H1 H2 : Hp} (x : But a H H1) (y : But a H1 H2) : But a H H2 := fun b o n h => y b o n (x b o n h)
theorem But.upd {a : Addr} {H H1 : Hp} {o : HO} (x : But a H H1) : But a H (upd H1 a o) := fun b u n h => by
  rw [upd_ne n]
  exact x b u n h
/-! texts by their codes -/
def sOf (l : List Nat) : Str := ⟨l.toArray⟩
theorem sOf_tl (x : Str) : sOf x.cps.toList = x := rfl
theorem sOf_inj {a b : List Nat} : sOf a = sOf b ↔ a = b := ⟨fun h => by
  have h2 := congrArg (fun s : Str => s.cps.toList) h
  simpa [sOf] using h2, fun h => by rw [h]⟩
theorem sOf_len (l : List Nat) : (sOf l).length = l.length := by simp [sOf, Str.length]
theorem sOf_app (a b : List Nat) : sOf a ++ sOf b = sOf (a ++ b) := TL.ext_tl (by rw [TL.tl_append]; simp [sOf, TL.tl])
theorem sOf_count (l : List Nat) (c : Nat) : Txt.count (sOf l) (sOf [c]) = (l.count c : Int) := by
  show Txt.count (sOf l) ⟨#[c]⟩ = _
  rw [PyProof.Rows.count_cnt]
  show PyProof.Rows.cnt c l = _
  induction l with
  | nil => rfl
  | cons x r ih =>
    rw [PyProof.Rows.cnt_cons, ih, List.count_cons]
    by_cases h : x = c
    · subst h; simp; omega
    · simp [h]
theorem sOf_take (l : List Nat) (k : Nat) (h : k ≤ l.length) : cutS (sOf l) none (some (k : Int)) = sOf (l.take k) := by
  unfold cutS
  rw [sOf_len, HT.sIx_nat, HT.sIx_none, Nat.min_eq_left h]
  simp [sOf]
theorem sOf_drop (l : List Nat) (k : Nat) (h : k ≤ l.length) : cutS (sOf l) (some (k : Int)) none = sOf (l.drop k) := by
  unfold cutS
  rw [sOf_len, HT.sIx_nat, HT.sIx_none, Nat.min_eq_left h]
  have e : (l.drop k).take (l.length - k) = l.drop k := List.take_of_length_le (by rw [List.length_drop]; exact Nat.le_refl _)
  simp [sOf, e]
theorem str_d : ("d" : Str) = sOf [100] := by decide +kernel
theorem str_o : ("o" : Str) = sOf [111] := by decide +kernel
theorem str_e : ("" : Str) = sOf [] := by decide +kernel
/-! rules of texts, by their codes -/
theorem pe_s {X : Cx} (l : List Nat) {x : Str} {j : Nat} {pos : Pos} (h : x = sOf l) : PE X (.Constant (.str x) j pos) (tC (.str (sOf l))) := by
  subst h
  exact pe_str
def rAddS : R2 := fun x y H Q => ∃ a b : List Nat, x = .str (sOf a) ∧ y = .str (sOf b) ∧ a.length + b.length ≤ 1000 ∧ Q (.str (sOf (a ++ b))) H
theorem op_addS {X : Cx} : OpR X (binaryOp .Add) rAddS := fun pins s σ H x y v u Q I rx ry ⟨a, b, ex, ey, hl, q⟩ =>
  op_add_str pins s σ H x y v u Q I rx ry ⟨_, _, ex, ey, by rw [sOf_len, sOf_len]; exact szl hl, by rw [sOf_app]; exact q⟩
def rLenS1 : List V → Hp → VK → Prop := fun xs H Q => ∃ l : List Nat, xs = [.str (sOf l)] ∧ l.length ≤ 1000 ∧ Q (.int l.length) H
theorem call_lenS {X : Cx} : CallR X (.builtin "len") rLenS1 := fun pins s σ H xs us Q I r ⟨l, e, hl, q⟩ =>
  call_len_str pins s σ H xs us Q I r ⟨_, e, by rw [sOf_len]; exact szl hl, by rw [sOf_len]; exact q⟩
def rCountS : V → List V → Hp → VK → Prop := fun x xs H Q => ∃ (l : List Nat) (c : Nat), x = .str (sOf l) ∧ xs = [.str (sOf [c])] ∧ Q (.int (l.count c : Nat)) H
theorem mt_countS {X : Cx} : MtR X "str.count" rCountS := fun pins s σ H x xs v us Q I rx rs ⟨l, c, ex, es, q⟩ =>
  mt_count pins s σ H x xs v us Q I rx rs ⟨_, _, ex, es, by rw [sOf_count]; exact q⟩
/-- a list's slice -/
def cutN (l : List Nat) (lo hi : Option Int) : List Nat := (l.drop (HT.sIx l.length 0 lo)).take (HT.sIx l.length l.length hi - HT.sIx l.length 0 lo)
theorem cutS_cutN (l : List Nat) (lo hi : Option Int) : cutS (sOf l) lo hi = sOf (cutN l lo hi) := by
  unfold cutS cutN
  rw [sOf_len]
  rfl
theorem cutN_take (l : List Nat) {i : Int} (h0 : 0 ≤ i) : cutN l none (some i) = l.take i.toNat := by
  obtain ⟨k, rfl⟩ := Int.eq_ofNat_of_zero_le h0
  unfold cutN
  rw [show (some ((k : Nat) : Int)) = some (k : Int) from rfl, HT.sIx_nat, HT.sIx_none, Nat.sub_zero, List.drop_zero, Int.toNat_natCast]
  by_cases h : k ≤ l.length
  · rw [Nat.min_eq_left h]
  · rw [Nat.min_eq_right (by omega), List.take_length, List.take_of_length_le (by omega)]
theorem cutN_drop (l : List Nat) {i : Int} (h0 : 0 ≤ i) : cutN l (some i) none = l.drop i.toNat := by
  obtain ⟨k, rfl⟩ := Int.eq_ofNat_of_zero_le h0
  unfold cutN
  rw [show (some ((k : Nat) : Int)) = some (k : Int) from rfl, HT.sIx_nat, HT.sIx_none, Int.toNat_natCast]
  by_cases h : k ≤ l.length
  · rw [Nat.min_eq_left h]
    exact List.take_of_length_le (by rw [List.length_drop]; exact Nat.le_refl _)
  · rw [Nat.min_eq_right (by omega), List.drop_length, List.drop_eq_nil_of_le (by omega), List.take_nil]
def rSlS2 : V → Option Int → Option Int → Hp → VK → Prop := fun x lo hi H Q => ∃ l : List Nat, x = .str (sOf l) ∧ l.length ≤ 1000 ∧ Q (.str (sOf (cutN l lo hi))) H
theorem sl_S {X : Cx} : SlR X rSlS2 := fun pins s σ H x v vl vu lo hi sl Q I rx hs pl pu ⟨l, ex, hl, q⟩ =>
  sl_str pins s σ H x v vl vu lo hi sl Q I rx hs pl pu ⟨_, ex, by rw [sOf_len]; exact szl hl, by rw [cutS_cutN]; exact q⟩
def rIxS2 : R2 := fun x y H Q => ∃ (l : List Nat) (i : Int) (c : Nat), x = .str (sOf l) ∧ y = .int i ∧ l.length ≤ 1000 ∧ atI l i = some c ∧ Q (.str (sOf [c])) H
theorem ix_S {X : Cx} : IxR X rIxS2 := fun value slice pins s σ H x y v u Q I rx ry ⟨l, i, c, ex, ey, hl, ha, q⟩ hs =>
  ix_str value slice pins s σ H x y v u Q I rx ry ⟨_, i, c, ex, ey, by rw [sOf_len]; exact szl hl, ha, q⟩ hs
theorem walk_S {l : List Nat} : Walk (Its (sOf l)) l.length (fun _ => True) (fun i H v H' => H' = H ∧ ∃ c, l[i]? = some c ∧ v = .str (sOf [c])) := by
  refine ⟨fun i H hi _ => ?_, fun H _ => ?_, fun i H x H' _ _ y => ?_⟩
  · show i < (sOf l).cps.size
    simpa [sOf] using hi
  · show (sOf l).cps.size ≤ l.length
    simp [sOf]
  · obtain ⟨h1, c, h2, h3⟩ := y
    refine ⟨h1, c, ?_, h3⟩
    simpa [sOf] using h2
theorem str_eq {a b : List Nat} : (V.str (sOf a) = V.str (sOf b)) ↔ a = b := ⟨fun h => sOf_inj.mp (V.str.inj h), fun h => by rw [h]⟩
/-! ### words -/
/-- a word of size n: as many d (100) as o (111), never more o than d ahead -/
structure Good (l : List Nat) (n : Nat) : Prop where
  len : l.length = 2 * n
  cnt : l.count 100 = n
  ltr : ∀ c ∈ l, c = 100 ∨ c = 111
  ahead : ∀ k, k ≤ l.length → (l.take k).count 111 ≤ (l.take k).count 100
theorem ltr_count : ∀ {l : List Nat}, (∀ c ∈ l, c = 100 ∨ c = 111) → l.count 100 + l.count 111 = l.length
  | [], _ => rfl
  | x :: r, h => by
    have ih := ltr_count (l := r) fun c hc => h c (List.mem_cons_of_mem _ hc)
    rw [List.count_cons, List.count_cons, List.length_cons]
    rcases h x List.mem_cons_self with e | e <;> subst e <;> simp <;> omega
/-- what a row of steps has of a word while it is made -/
structure Part (l : List Nat) (n : Nat) : Prop where
  cnt : l.count 100 ≤ n
  ltr : ∀ c ∈ l, c = 100 ∨ c = 111
  ahead : ∀ k, k ≤ l.length → (l.take k).count 111 ≤ (l.take k).count 100
theorem Part.le {l : List Nat} {n : Nat} (p : Part l n) : l.count 111 ≤ l.count 100 := by
  have h := p.ahead l.length (Nat.le_refl _)
  rwa [List.take_length] at h
theorem Part.nil (n : Nat) : Part [] n := ⟨Nat.zero_le _, fun _ h => by simp at h, fun k _ => by simp⟩
theorem Part.snoc {l : List Nat} {n c : Nat} (p : Part l n) (h : (c = 100 ∧ l.count 100 < n) ∨ (c = 111 ∧ l.count 111 < l.count 100)) : Part (l ++ [c]) n := by
  refine ⟨?_, ?_, fun k hk => ?_⟩
  · rcases h with ⟨e, h⟩ | ⟨e, h⟩ <;> subst e <;> simp [List.count_append] <;> have := p.cnt <;> omega
  · intro x hx
    rcases List.mem_append.mp hx with hx | hx
    · exact p.ltr x hx
    · rw [List.mem_singleton] at hx
      rcases h with ⟨e, h⟩ | ⟨e, h⟩
      · exact .inl (hx.trans e)
      · exact .inr (hx.trans e)
  · by_cases hk2 : k ≤ l.length
    · rw [List.take_append_of_le_length hk2]
      exact p.ahead k hk2
    · have e : (l ++ [c]).take k = l ++ [c] := List.take_of_length_le (by rw [List.length_append] at hk ⊢; simp at hk ⊢; omega)
      rw [e, List.count_append, List.count_append]
      have := p.le
      rcases h with ⟨e, h⟩ | ⟨e, h⟩ <;> subst e <;> simp <;> omega
theorem Part.good {l : List Nat} {n : Nat} (p : Part l n) (h : l.length = 2 * n) : Good l n := by
  have h1 := p.le
  have h2 := ltr_count p.ltr
  have h3 := p.cnt
  exact ⟨h, by omega, p.ltr, p.ahead⟩
theorem cdivw {m : Int} (h : 0 < m) (h2 : m < 1152921504606846976) : CDivW 0 m := wide_div (i := 0) (b := 60) h (by omega) (by decide) (by decide)
theorem count_sign (c x : Nat) : [c].count x = if c = x then 1 else 0 := by
  rw [List.count_cons, List.count_nil]
  by_cases h : c = x
  · simp [h]
  · simp [h]
theorem cnt_d (l : List Nat) : (((l ++ [100]).count 100 : Nat) : Int) - ((l ++ [100]).count 111 : Nat) = (l.count 100 : Int) - l.count 111 + 1 := by
  rw [List.count_append, List.count_append, count_sign, count_sign]
  simp
  omega
theorem cnt_o (l : List Nat) : (((l ++ [111]).count 100 : Nat) : Int) - ((l ++ [111]).count 111 : Nat) = (l.count 100 : Int) - l.count 111 - 1 := by
  rw [List.count_append, List.count_append, count_sign, count_sign]
  simp
  omega
/-! rules that name the written part by itself (within comprehensions) -/
section
variable {X : Cx} {K : PySem.W.Frag}
theorem op_inK (h : X.K = K) : OpR X (compareOp .In) (rIn K false) := h ▸ op_in_seq
theorem op_notInK (h : X.K = K) : OpR X (compareOp .NotIn) (rIn K true) := h ▸ op_notIn_seq
theorem ix_listK (h : X.K = K) : IxR X (rIxL K) := h ▸ ix_list
theorem ix_tupK (h : X.K = K) : IxR X (rIxT K) := h ▸ ix_tup
theorem call_isiTK (h : X.K = K) : CallR X (.builtin "isinstance") (rIsiT K) := h ▸ call_isiT
/-- a list's or a tuple's item -/
def rIxQ (K : PySem.W.Frag) : R2 := fun x y H Q => rIxL K x y H Q ∨ rIxT K x y H Q
theorem ix_Q (h : X.K = K) : IxR X (rIxQ K) := h ▸ fun value slice pins s σ H x y v u Q I rx ry q hs => q.elim (fun q => ix_list value slice pins s σ H x y v u Q I rx ry q hs) (fun q => ix_tup value slice pins s σ H x y v u Q I rx ry q hs)
theorem call_isiK' (h : X.K = K) : CallR X (.builtin "isinstance") (rIsi K) := h ▸ call_isi
def rLenQ (K : PySem.W.Frag) : List V → Hp → VK → Prop := fun xs H Q => ∃ p ys, xs = [.ref p] ∧ (SqL K H p ys ∨ SqT K H p ys) ∧ Q (.int ys.length) H
theorem call_lenQ (h : X.K = K) : CallR X (.builtin "len") (rLenQ K) := h ▸ call_len_seq
def rListQ (K : PySem.W.Frag) : List V → Hp → VK → Prop := fun xs H Q => ∃ p ys, xs = [.ref p] ∧ (SqL K H p ys ∨ SqT K H p ys) ∧ ∀ l, H l = none → Q (.ref l) (upd H l (.lst ys))
theorem call_listQ (h : X.K = K) : CallR X (.type "list") (rListQ K) := h ▸ call_list_of
end
theorem Same.toBut {a : Addr} {H H1 H2 : Hp} (s : Same H H1) (n : H a = none) (b : But a H1 H2) : Same H H2 := same_but s n b
theorem But.new {a p : Addr} {H H1 : Hp} {o : HO} (b : But a H H1) (n : H1 p = none) : But a H (L2.upd H1 p o) := fun c u nc h => by
  rw [upd_ne (ne_of_none (b c u nc h) n)]
  exact b c u nc h
theorem inV_do (c : Nat) : inV (.str (sOf [c])) [.str (sOf [100]), .str (sOf [111])] = (c == 100 || c == 111) := by
  have h : ∀ d : Nat, eqV (.str (sOf [d])) (.str (sOf [c])) = (c == d) := fun d => by
    show ((sOf [d] == sOf [c]) : Bool) = (c == d)
    by_cases e : c = d
    · subst e; simp
    · have e2 : ¬ sOf [d] = sOf [c] := fun z => e (by have := sOf_inj.mp z; simp at this; exact this.symm)
      rw [beq_eq_false_iff_ne.mpr e2, beq_eq_false_iff_ne.mpr e]
  unfold inV
  rw [List.any_cons, List.any_cons, List.any_nil, h, h, Bool.or_false]
/-! exceptions that leave a call in a try: a wish that does not look at the slots -/
theorem takes_len {X : Cx} {W : WX} (t : Takes X W) : Takes X (fun c d σ H => σ.length = X.N.length → W c d σ H) := fun u s' ⟨a, B, sI, pins, σ, H, cls, d, e, I, nb, up, sky, na, os, ag, q⟩ =>
  t u s' ⟨a, B, sI, pins, σ, H, cls, d, e, I, nb, up, sky, na, os, ag, q I.len⟩
/-- what is asked first, then the block -/
def tGiven (p : Prop) (t : TS) : TS := fun D σ H => p ∧ t D σ H
theorem pss_given {X : Cx} {b : List Stmt} {t : TS} {p : Prop} (h : p → PSs X b t) : PSs X b (tGiven p t) := ⟨fun pins s σ H D I q => (h q.1).run pins s σ H D I q.2⟩
/-- the wish W is granted wherever E holds (n slots) -/
def Wish (n : Nat) (E : XK) (W : WX) : Prop := ∀ cls d σ H, σ.length = n → E cls d H → W cls d σ H
theorem passW {X : Cx} {W : WX} {E : XK} (tk : Takes X W) (h : Wish X.N.length E W) : Passes (L2.CX X.prog X.w) X E := fun pins σ H s e s' I c =>
  passes_call (takes_len tk) (fun cls d σ H q l => h cls d σ H l q) pins σ H s e s' I c
/-- what an exception class with the one field holds in the written part -/
structure ExC (K : PySem.W.Frag) (mg : Str → Option Value) (x : Str) (C : Addr) (i : Addr) : Prop where
  g : mg x = some (.ref C)
  oex : OexC K C
  xf : XfC K C
  ini : PySem.W.findIn K (.ref C) "__init__" = some (some (.ref i))
  tI : PySem.W.typeIn K (.ref i) = some (.type "function")
  me : PySem.W.exmOne K (.ref C) (.ref C) = some true
/-- a method (or __init__) as it stands -/
structure MetAt (K : PySem.W.Frag) (x qual : Str) (st : Stmt) (ps : List Str) (f : Addr) (fd : FuncData) : Prop where
  F : Fun K x qual st f fd
  b : Binds K fd ps []
theorem upd_del_same {H1 H2 : Hp} {a d : Addr} {fs : List (Str × V)} (na : H1 a = none) (nd : H1 d = none) (k : ∀ b o, b ≠ a → H1 b = some o → H2 b = some o) : Same H1 (upd (del H2 a) d (.xd fs)) := fun b o e => by
  rw [upd_ne (ne_of_none e nd), del_ne (ne_of_none e na)]
  exact k b o (ne_of_none e na) e

/-! ### objects of own classes: len, ==, !=, str by their own methods -/
section
variable {X : Cx} {pins : List (Addr × Obj)} {σ : L2.St} {H : Hp} {s : Shared} {CX : CXT} {n : Nat} {f C : Addr} {fd : FuncData} {ps : List Str} {sp : Sp} {E : XK} {vs : List V} {us : List Value} {Q : VK} {A1 : Around}
theorem run_own (sb : Sub X n A1) (F : FnOk X.prog X.w X.K X.mg X.base CX n f fd ps sp) (hb : L2.Binds X.K fd ps []) (hx : Passes CX X E) (I : Inv X pins σ H s) (r : Vals vs us) (h : sp vs H Q E) :
    wpAny (model X.prog X.w) A1 (call (.ref f) us) (EP X pins σ Q) X.xe s := by
  have e := I.env0
  have e0 : Env0 X.prog X.w X.K X.mg X.base A1 X.stack s H := ⟨sb.fr.trans e.frames, e.mod, e.bs, e.bsz, e.funs, e.frf, e.hok, e.bare⟩
  have hl : us.length = ps.length := r.length.symm.trans (F.len _ _ _ _ h)
  have bd := hb s us I.kIn (by rw [List.append_nil]; exact hl)
  rw [List.append_nil] at bd
  refine wpAny_call (codeAny_mono (F.run A1 X.stack s H ⟨us, []⟩ us vs Q E sb.room e0 bd r h) fun res s' hq => ?_)
  cases res with
  | error er => exact hx pins σ H s er s' I hq
  | ok fl =>
    cases fl with
    | ret w => exact I.after hq
    | next => exact hq.elim
    | brk => exact hq.elim
    | cont => exact hq.elim
/-- the same of a def that raises nothing, whatever is wished of errors -/
theorem run_own0 {EE : Value → Shared → Prop} (sb : Sub X n A1) (F : FnOk X.prog X.w X.K X.mg X.base CX0 n f fd ps sp) (hb : L2.Binds X.K fd ps []) (I : Inv X pins σ H s) (r : Vals vs us) (h : sp vs H Q E0) :
    wpAny (model X.prog X.w) A1 (call (.ref f) us) (EP X pins σ Q) EE s := by
  have e := I.env0
  have e0 : Env0 X.prog X.w X.K X.mg X.base A1 X.stack s H := ⟨sb.fr.trans e.frames, e.mod, e.bs, e.bsz, e.funs, e.frf, e.hok, e.bare⟩
  have hl : us.length = ps.length := r.length.symm.trans (F.len _ _ _ _ h)
  have bd := hb s us I.kIn (by rw [List.append_nil]; exact hl)
  rw [List.append_nil] at bd
  refine wpAny_call (codeAny_mono (F.run A1 X.stack s H ⟨us, []⟩ us vs Q E0 sb.room e0 bd r h) fun res s' hq => ?_)
  cases res with
  | error er => exact hq.elim
  | ok fl =>
    cases fl with
    | ret w => exact I.after hq
    | next => exact hq.elim
    | brk => exact hq.elim
    | cont => exact hq.elim
theorem val_ref {a : Addr} : L2.RelV (V.ref a) (Value.ref a) := rfl
/-- a method that the class has as a def -/
structure OwnM (K : PySem.W.Frag) (C : Addr) (m : Str) (f : Addr) : Prop where
  at_ : PySem.W.findIn K (.ref C) m = some (some (.ref f))
  fn : PySem.W.isFn K (.ref f) = true
def rLenOwn (C : Addr) (sp : Sp) (E : XK) : List V → Hp → VK → Prop := fun xs H Q => ∃ a dx fs, xs = [.ref a] ∧ H a = some (.ins C dx fs) ∧ sp [.ref a] H (fun v H' => ∃ k : Nat, v = .int k ∧ k < 1000000 ∧ Q (.int k) H') E
theorem call_lenOwn (M : OwnM X.K C "__len__" f) (F : FnOk X.prog X.w X.K X.mg X.base CX n f fd ps sp) (hb : L2.Binds X.K fd ps []) (hx : Passes CX X E) (hr : Room (n + 1) X.A) : CallR X (.builtin "len") (rLenOwn C sp E) := by
  intro pins s σ H xs us Q I r h
  obtain ⟨a, dx, fs, rfl, ha, h⟩ := h
  obtain ⟨u, rfl, ru⟩ := r.one
  cases ru
  obtain ⟨mA, J, _⟩ := ins_get I.hok ha
  obtain ⟨od, J, _⟩ := J.look
  obtain ⟨m, hF⟩ := I.fr
  refine PySem.W.len_K hF I.ok.mod.kin J M.at_ M.fn (wpAny_mono (run_own (Sub.in1 ⟨hr, rfl⟩) F hb hx I (.cons val_ref .nil) h) (fun v s' q => ?_) fun _ _ z => z)
  obtain ⟨w, H', I', rw', k, rfl, hk, q⟩ := q
  obtain ⟨t, rfl⟩ := rw'
  exact ⟨⟨by omega, by omega⟩, .int k, H', I'.tok _, ⟨_, rfl⟩, q⟩
def rStrOwn (C : Addr) (sp : Sp) (E : XK) : List V → Hp → VK → Prop := fun xs H Q => ∃ a dx fs, xs = [.ref a] ∧ H a = some (.ins C dx fs) ∧ sp [.ref a] H (fun v H' => ∃ z : Str, v = .str z ∧ Q (.str z) H') E
theorem call_strOwn (M : OwnM X.K C "__str__" f) (F : FnOk X.prog X.w X.K X.mg X.base CX n f fd ps sp) (hb : L2.Binds X.K fd ps []) (hx : Passes CX X E) (hr : Room (n + 2) X.A) : CallR X (.type "str") (rStrOwn C sp E) := by
  intro pins s σ H xs us Q I r h
  obtain ⟨a, dx, fs, rfl, ha, h⟩ := h
  obtain ⟨u, rfl, ru⟩ := r.one
  cases ru
  obtain ⟨mA, J, _⟩ := ins_get I.hok ha
  obtain ⟨od, J, _⟩ := J.look
  have sb : Sub X n X.A.in1.in1 := Sub.in1 (Sub.in1 (⟨hr, rfl⟩ : Sub X (n + 2) X.A))
  refine PySem.W.kso_call sb.room.units0 I.kIn J M.at_ M.fn (wpAny_mono (run_own sb F hb hx I (.cons val_ref .nil) h) (fun v s' q => ?_) fun _ _ z => z)
  obtain ⟨w, H', I', rw', z, rfl, q⟩ := q
  obtain ⟨t, rfl⟩ := rw'
  exact ⟨.str z, H', I', ⟨_, rfl⟩, q⟩
/-- what may stand at the right of an own ==: a text, an instance of the same class -/
inductive Oth (C : Addr) (H : Hp) : V → Prop where
  | str (z : Str) : Oth C H (.str z)
  | ins {b dx : Addr} {fs : List (Str × V)} (h : H b = some (.ins C dx fs)) : Oth C H (.ref b)
def rEqOwn (neg : Bool) (C : Addr) (sp : Sp) (E : XK) : R2 := fun x y H Q => ∃ a dx fs, x = .ref a ∧ H a = some (.ins C dx fs) ∧ Oth C H y ∧ sp [.ref a, y] H (fun v H' => ∃ b : Bool, v = .bl b ∧ Q (.bl (if neg then !b else b)) H') E
theorem op_eqOwn (M : OwnM X.K C "__eq__" f) (hs : PySem.W.subIn X.K (.type "str") (.ref C) = some false) (F : FnOk X.prog X.w X.K X.mg X.base CX n f fd ps sp) (hb : L2.Binds X.K fd ps []) (hx : Passes CX X E) (hr : Room n X.A) :
    OpR X (compareOp .Eq) (rEqOwn false C sp E) := by
  intro pins s σ H x y v u Q I rx ry h
  obtain ⟨a, dx, fs, rfl, ha, oth, h⟩ := h
  cases rx
  obtain ⟨mA, J, _⟩ := ins_get I.hok ha
  obtain ⟨od, J, _⟩ := J.look
  obtain ⟨m, hF⟩ := I.fr
  have back : wpAny (model X.prog X.w) X.A (call (.ref f) [.ref a, u]) (PySem.W.CmpBack (EP X pins σ Q)) X.xe s := by
    refine wpAny_mono (run_own (⟨hr, rfl⟩ : Sub X n X.A) F hb hx I (.cons val_ref (.cons ry .nil)) h) (fun w s' q => ?_) fun _ _ z => z
    obtain ⟨z, H', I', rz, b, rfl, q⟩ := q
    cases rz
    exact ⟨.bl b, H', I', rfl, q⟩
  show wpAny (model X.prog X.w) X.A (richCompare .Eq (.ref a) u) (EP X pins σ Q) X.xe s
  cases oth with
  | str z =>
    obtain ⟨t, rfl⟩ := ry
    exact PySem.W.cmp_K (op := .Eq) (tb := .type "str") hr.units0 hF I.ok.mod.kin J (.of_pure rfl) (by simp [PySem.W.notFirst, hs]) M.at_ M.fn back
  | ins hb2 =>
    cases ry
    obtain ⟨mB, J', _⟩ := ins_get I.hok hb2
    obtain ⟨od', J', _⟩ := J'.look
    exact PySem.W.cmp_K (op := .Eq) (tb := .ref C) hr.units0 hF I.ok.mod.kin J J'.type (by simp [PySem.W.notFirst]) M.at_ M.fn back
/-- != where the class has an own == alone -/
structure NeC (K : PySem.W.Frag) (C : Addr) : Prop where
  at_ : PySem.W.findIn K (.ref C) "__ne__" = some (some (.builtin "object.__ne__"))
  up : PySem.W.mroIn K C (.type "object") = some true
theorem ne_here {M : Model} {A : Around} {E : Value → Shared → Prop} {s : Shared} {K : PySem.W.Frag} {x : Addr} {ox : Obj} {od : Option Obj} {args : List Value} {Q : Option Value → Shared → Prop} (N : NeC K C) (hK : K.In s.heap) (J : PySem.W.InstAt s.heap x ox C od)
    (h : wpAny M A (call (.builtin "object.__ne__") (.ref x :: args)) (fun v => Q (some v)) E s) : wpAny M A (callSpecialIfBound? (.ref x) "__ne__" args) Q E s := by
  simp only [callSpecialIfBound?, bindSpecialIfBound?]
  refine wpAny_holding (wpAny_bind (wpAny_bind (wpAny_bind (J.type.here ((PySem.W.looks_findIn hK N.at_).here ?_)))))
  refine wpAny_bind (wpAny_askSetting (wpAny_ite ?_))
  have fin : wpAny M A (call (.builtin "object.__ne__") ([.ref x] ++ args) >>= fun v => pure (some v)) Q E s := wpAny_bind (wpAny_mono h (fun v s' z => wpAny_pure z) fun _ _ z => z)
  have bd : bindSpecial (.builtin "object.__ne__") (.ref x) = pure (.builtin "object.__ne__", [.ref x]) := PySem.F.slot_object_ne.bind _
  split
  · exact wpAny_bind (wpAny_of_eq bd (wpAny_pure (by exact fin)))
  · exact wpAny_tryCatch (wpAny_bind (wpAny_of_eq bd (wpAny_pure (by exact fin))))
theorem op_neOwn (M : OwnM X.K C "__eq__" f) (N : NeC X.K C) (hs : PySem.W.subIn X.K (.type "str") (.ref C) = some false) (F : FnOk X.prog X.w X.K X.mg X.base CX n f fd ps sp) (hb : L2.Binds X.K fd ps []) (hx : Passes CX X E) (hr : Room (n + 1) X.A) :
    OpR X (compareOp .NotEq) (rEqOwn true C sp E) := by
  intro pins s σ H x y v u Q I rx ry h
  obtain ⟨a, dx, fs, rfl, ha, oth, h⟩ := h
  cases rx
  obtain ⟨mA, J, _⟩ := ins_get I.hok ha
  obtain ⟨od, J, _⟩ := J.look
  obtain ⟨m, hF⟩ := I.fr
  have sb : Sub X n X.A.in1 := Sub.in1 ⟨hr, rfl⟩
  have back : wpAny (model X.prog X.w) X.A.in1 (call (.ref f) [.ref a, u]) (fun v s' => ∃ b, v = .bool b ∧ EP X pins σ Q (.bool (!b)) s') X.xe s := by
    refine wpAny_mono (run_own sb F hb hx I (.cons val_ref (.cons ry .nil)) h) (fun w s' q => ?_) fun _ _ z => z
    obtain ⟨z, H', I', rz, b, rfl, q⟩ := q
    cases rz
    exact ⟨b, rfl, .bl (!b), H', I', rfl, q⟩
  have one : wpAny (model X.prog X.w) X.A (tryCompare (.ref a) "__ne__" u) (fun r s' => ∃ v, r = some v ∧ EP X pins σ Q v s') X.xe s := by
    unfold tryCompare
    refine wpAny_bind (ne_here N I.kIn J (wpAny_call (codeAny_call_builtin PySem.F.slot_object_ne.plain PySem.F.cmpEntry_ne (PySem.W.check_slot PySem.F.cmpKind_ne PySem.F.cmpSplit_ne (J.type.andThen (PySem.W.looks_mroIn I.kIn N.up)) (PySem.F.cmpArgs_ne _ _) ?_))))
    unfold Builtin.«object.__ne__»
    refine wpAny_bind (m := slotArgs "__ne__" 1 _) (wpAny_pure ?_)
    refine wpAny_bind (wpAny_cRoomFor sb.room.units0 ?_)
    refine wpAny_bind (m := callSpecialIfBound? (.ref a) (Str.ofString "__eq__") [u]) (PySem.W.ifBound_K I.kIn J M.at_ M.fn (wpAny_mono back (fun r s' q => ?_) fun _ _ z => z))
    obtain ⟨b, rfl, q⟩ := q
    exact wpAny_bind (wpAny_truthy_bool (wpAny_pure (wpAny_pure ⟨_, rfl, q⟩)))
  obtain ⟨tb, hT, hn⟩ : ∃ tb, PySem.W.Looks (model X.prog X.w) s.heap (typeOf u) tb ∧ (tb = .ref C ∨ tb = .type "str") := by
    cases oth with
    | str z =>
      obtain ⟨t, rfl⟩ := ry
      exact ⟨_, .of_pure rfl, .inr rfl⟩
    | ins hb2 =>
      cases ry
      obtain ⟨mB, J', _⟩ := ins_get I.hok hb2
      obtain ⟨od', J', _⟩ := J'.look
      exact ⟨_, J'.type, .inl rfl⟩
  show wpAny (model X.prog X.w) X.A (richCompare .NotEq (.ref a) u) (EP X pins σ Q) X.xe s
  unfold richCompare
  simp only [oneThing_ref]
  refine wpAny_holding (wpAny_bind (wpAny_cRoomFor (hr.mono (Nat.le_succ n)).units0 ?_))
  refine wpAny_bind (J.type.here (wpAny_bind (hT.here ?_)))
  rcases hn with rfl | rfl
  · rw [if_neg (by simp)]
    refine wpAny_bind (wpAny_pure ?_)
    simp only [Bool.false_eq_true, if_false]
    refine wpAny_bind (wpAny_mono one (fun r s' ⟨v, e, q⟩ => ?_) fun _ _ z => z)
    subst e
    exact wpAny_pure q
  · rw [if_pos (by rfl)]
    refine wpAny_bind ((PySem.W.looks_subIn I.kIn hs).here ?_)
    simp only [Bool.false_eq_true, if_false]
    refine wpAny_bind (wpAny_mono one (fun r s' ⟨v, e, q⟩ => ?_) fun _ _ z => z)
    subst e
    exact wpAny_pure q
end

/-! ### the iteration over an object of an own class whose __iter__ gives the iterator of a field -/
/-- the same heap, with n empty places behind it -/
def pad (h : Heap) (n : Nat) : Heap := { h with objs := h.objs ++ Array.replicate n ⟨.none, none, .freed, #[]⟩ }
theorem pad_size (h : Heap) (n : Nat) : (pad h n).objs.size = h.objs.size + n := by simp [pad]
theorem pad_get (h : Heap) (n : Nat) (b : Addr) : (pad h n).get? b = h.get? b := by
  unfold Heap.get? pad
  by_cases hb : b < h.objs.size
  · rw [Array.getElem?_append_left hb]
  · rw [Array.getElem?_append_right (Nat.le_of_not_lt hb), Array.getElem?_eq_none (Nat.le_of_not_lt hb), Array.getElem?_replicate]
    by_cases h2 : b - h.objs.size < n
    · rw [if_pos h2]
    · rw [if_neg h2]
theorem pad_mod {K : PySem.W.Frag} {mg : Str → Option Value} {h : Heap} (n : Nat) (m : Mod K mg h) : Mod K mg (pad h n) := by
  have k : ∀ b o, h.get? b = some o → (pad h n).get? b = some o := fun b o e => (pad_get h n b).trans e
  obtain ⟨mb, h1, h2⟩ := m.blt
  exact ⟨m.kin.keeps k, m.glob.keeps k, ⟨mb, h1.keeps k, h2⟩, m.nolimit.keeps k⟩
theorem pad_funs {h base : Heap} (n : Nat) : ∀ {l : List Env}, h.FunFrames base l → h.FunFrames (pad base n) l
  | [], _ => trivial
  | _ :: _, ⟨hk, ⟨L, o, hf, hn, ho, hd⟩, hr⟩ => ⟨hk, ⟨L, o, hf, (pad_get base n L).trans hn, ho, hd⟩, pad_funs n hr⟩
/-- iterators as they are tracked -/
def ItSO (it : Addr) (x : Str) : HO := .ext fun h => ∃ ty t, (ty = "str_ascii_iterator" ∨ ty = "str_iterator") ∧ h.IsStrIter it ty x t 0
def ItTO (it l : Addr) : HO := .ext fun h => h.IsTupleIter it l 0
theorem itSO_ok {P : Program} {w : World} {H : Hp} {h : Heap} {it : Addr} {x : Str} (e : ∃ ty t, (ty = "str_ascii_iterator" ∨ ty = "str_iterator") ∧ h.IsStrIter it ty x t 0) : ObjOk P w H h it (ItSO it x) := by
  refine ⟨e, ?_, ?_⟩
  · obtain ⟨ty, t, _, o, ho, _⟩ := e
    exact ⟨o, ho⟩
  · rintro h1 h2 ⟨ty, t, hy, o, ho, r⟩ k
    exact ⟨ty, t, hy, o, k o ho, r⟩
theorem itTO_ok {P : Program} {w : World} {H : Hp} {h : Heap} {it l : Addr} (e : h.IsTupleIter it l 0) : ObjOk P w H h it (ItTO it l) := by
  refine ⟨e, ?_, ?_⟩
  · obtain ⟨o, ho, _⟩ := e
    exact ⟨o, ho⟩
  · rintro h1 h2 ⟨o, ho, r⟩ k
    exact ⟨o, k o ho, r⟩
section
variable {X : Cx}
def rIterS (n : Nat) : List V → Hp → VK → Prop := fun xs H Q => ∃ x : Str, xs = [.str x] ∧ ∀ it, H it = none → n ≤ it → Q (.ref it) (upd H it (ItSO it x))
def rIterT (K : PySem.W.Frag) (n : Nat) : List V → Hp → VK → Prop := fun xs H Q => ∃ (l : Addr) (zs : List V), xs = [.ref l] ∧ SqT K H l zs ∧ ∀ it, H it = none → n ≤ it → Q (.ref it) (upd H it (ItTO it l))
theorem iter_call {M : Model} {prog : Program} {w : World} {A : Around} {E : Value → Shared → Prop} {s : Shared} {v : Value} {Q : Value → Shared → Prop} (h : wpAny (model prog w) A.in1 (pyIter v) Q E s) : wpAny (model prog w) A (call (.builtin "iter") [v]) Q E s := by
  refine Calls.call_function_entry (by decide +kernel) (by decide +kernel) PySem.W.kdk_entry_iter (PySem.W.kdk_args_iter _) ?_
  unfold Builtin.«iter»
  refine wpAny_bind (m := someArgs "iter" 1 2 _) (wpAny_of_eq (a := [v]) (by first | rfl | kernel_rfl!) ?_)
  show wpAny _ _ (pyIter v >>= _) _ _ _
  exact wpAny_bind (wpAny_mono h (fun r s' q => wpAny_pure ⟨_, rfl, q⟩) fun _ _ z => z)
theorem call_iterS : CallR X (.builtin "iter") (rIterS X.base.objs.size) := by
  intro pins s σ H xs us Q I r h
  obtain ⟨x, rfl, q⟩ := h
  obtain ⟨u, rfl, ru⟩ := r.one
  obtain ⟨t, rfl⟩ := ru
  have nb : X.base.objs.size ≤ s.heap.objs.size := Nat.le_trans I.ok.bsz I.sz
  refine iter_call (M := model X.prog X.w) ?_
  cases ha : x.cps.all (· < 128)
  · exact wpAny_pyIter_wide ha ⟨.ref s.heap.objs.size, _, I.laid (t' := s.toks) (fun b o e => Heap.get?_push_of_some _ e) (Nat.le_refl _) (itSO_ok ⟨_, t, .inr rfl, _, Heap.get?_push_size _ rfl, rfl, rfl⟩), rfl, q _ (I.hok.fresh (Nat.le_refl _)) nb⟩
  · exact wpAny_pyIter_ascii ha ⟨.ref s.heap.objs.size, _, I.laid (t' := s.toks) (fun b o e => Heap.get?_push_of_some _ e) (Nat.le_refl _) (itSO_ok ⟨_, t, .inl rfl, _, Heap.get?_push_size _ rfl, rfl, rfl⟩), rfl, q _ (I.hok.fresh (Nat.le_refl _)) nb⟩
theorem call_iterT : CallR X (.builtin "iter") (rIterT X.K X.base.objs.size) := by
  intro pins s σ H xs us Q I r h
  obtain ⟨l, zs, rfl, hq, q⟩ := h
  obtain ⟨u, rfl, ru⟩ := r.one
  cases ru
  have nb : X.base.objs.size ≤ s.heap.objs.size := Nat.le_trans I.ok.bsz I.sz
  obtain ⟨its, rv, pl, hz⟩ := I.tuple hq
  refine iter_call (M := model X.prog X.w) ?_
  exact wpAny_pyIter_tuple (show s.heap.IsTuple l its.toArray from pl) ⟨.ref s.heap.objs.size, _, I.laid (t' := s.toks) (fun b o e => Heap.get?_push_of_some _ e) (Nat.le_refl _) (itTO_ok ⟨_, Heap.get?_push_size _ rfl, rfl, rfl⟩), rfl, q _ (I.hok.fresh (Nat.le_refl _)) nb⟩
end
section
variable {X : Cx} {pins : List (Addr × Obj)} {σ : L2.St} {H : Hp} {s : Shared} {CX : CXT} {n : Nat} {f C : Addr} {fd : FuncData} {ps : List Str} {sp : Nat → Sp} {E : XK} {vs : List V} {us : List Value} {Q : VK} {A1 : Around}
/-- run_own at a base as large as the heap that stands -/
theorem run_pad (sb : Sub X n A1) (F : ∀ base : Heap, FnOk X.prog X.w X.K X.mg base CX n f fd ps (sp base.objs.size)) (hb : L2.Binds X.K fd ps []) (hx : Passes CX X E) (I : Inv X pins σ H s) (r : Vals vs us) (h : sp s.heap.objs.size vs H Q E) :
    wpAny (model X.prog X.w) A1 (call (.ref f) us) (EP X pins σ Q) X.xe s := by
  have e := I.env0
  have hz : X.base.objs.size ≤ s.heap.objs.size := e.bsz
  have F' := F (pad X.base (s.heap.objs.size - X.base.objs.size))
  rw [pad_size, Nat.add_sub_cancel' hz] at F'
  have e0 : Env0 X.prog X.w X.K X.mg (pad X.base (s.heap.objs.size - X.base.objs.size)) A1 X.stack s H :=
    ⟨sb.fr.trans e.frames, pad_mod _ e.mod, fun b o q => e.bs b o ((pad_get _ _ b).symm.trans q), by rw [pad_size, Nat.add_sub_cancel' hz]; exact Nat.le_refl _, pad_funs _ e.funs, e.frf, e.hok, e.bare⟩
  have hl : us.length = ps.length := r.length.symm.trans (F'.len _ _ _ _ h)
  have bd := hb s us I.kIn (by rw [List.append_nil]; exact hl)
  rw [List.append_nil] at bd
  refine wpAny_call (codeAny_mono (F'.run A1 X.stack s H ⟨us, []⟩ us vs Q E sb.room e0 bd r h) fun res s' hq => ?_)
  cases res with
  | error er => exact hx pins σ H s er s' I hq
  | ok fl =>
    cases fl with
    | ret w => exact I.after hq
    | next => exact hq.elim
    | brk => exact hq.elim
    | cont => exact hq.elim
/-- the promise of such an __iter__, over a text | a tuple in the field fld -/
def spItS (C : Addr) (fld : Str) (n : Nat) : Sp := fun vs H Q _ => ∃ (a dx : Addr) (fs : List (Str × V)) (x : Str), vs = [.ref a] ∧ H a = some (.ins C dx fs) ∧ fs.lookup fld = some (.str x) ∧ ∀ it, H it = none → n ≤ it → Q (.ref it) (upd H it (ItSO it x))
def spItT (K : PySem.W.Frag) (C : Addr) (fld : Str) (n : Nat) : Sp := fun vs H Q _ => ∃ (a dx l : Addr) (fs : List (Str × V)) (zs : List V), vs = [.ref a] ∧ H a = some (.ins C dx fs) ∧ fs.lookup fld = some (.ref l) ∧ SqT K H l zs ∧ ∀ it, H it = none → n ≤ it → Q (.ref it) (upd H it (ItTO it l))
theorem drop_upd {H : Hp} {a : Addr} {o : HO} (h : H a = none) : dropH (upd H a o) a = H := by
  funext b
  by_cases hb : b = a
  · rw [hb, dropH_same, h]
  · rw [dropH_ne hb, upd_ne hb]
/-- the walk's start, over a text -/
theorem pit_S {tg : Expr} {R : It → Hp → Prop} {a dx : Addr} {fs : List (Str × V)} {fld : Str} {x : Str} (M : OwnM X.K C "__iter__" f) (hr : Room n X.A) (F : ∀ base : Heap, FnOk X.prog X.w X.K X.mg base CX n f fd ps (spItS C fld base.objs.size)) (hb : L2.Binds X.K fd ps []) (hx : Passes CX X E)
    (I : Inv X pins σ H s) (ha : H a = some (.ins C dx fs)) (hl : fs.lookup fld = some (.str x)) (hR : R (Its x) H) : wpAny (model X.prog X.w) X.A (pyIter (.ref a)) (PIE X pins σ tg R) X.xe s := by
  obtain ⟨mA, J, _⟩ := ins_get I.hok ha
  obtain ⟨od, J, _⟩ := J.look
  obtain ⟨m, hF⟩ := I.fr
  refine PySem.W.owit_iter hF I.ok.mod.kin J M.at_ M.fn (wpAny_mono (run_pad (⟨hr, rfl⟩ : Sub X n X.A) F hb hx I (.cons val_ref .nil) (Q := fun v H' => ∃ it, v = .ref it ∧ H it = none ∧ s.heap.objs.size ≤ it ∧ H' = upd H it (ItSO it x)) ⟨a, dx, fs, x, rfl, ha, hl, fun it n1 n2 => ⟨it, rfl, n1, n2, rfl⟩⟩) (fun v s' q => ?_) fun _ _ z => z)
  obtain ⟨w, H', I', rw', it, rfl, hn, hz, rfl⟩ := q
  cases rw'
  have he : upd H it (ItSO it x) it = some (ItSO it x) := upd_same
  have he' := he
  unfold ItSO at he'
  obtain ⟨⟨ty, t, hy, st⟩, _⟩ : (∃ ty t, (ty = "str_ascii_iterator" ∨ ty = "str_iterator") ∧ s'.heap.IsStrIter it ty x t 0) ∧ _ := (show ObjOk X.prog X.w _ s'.heap it (ItSO it x) from I'.hok it _ he)
  have hT : s'.TypeIs (.ref it) ty := let ⟨o, ho, hc, _⟩ := st; ⟨o, ho, hc⟩
  have D := inv_drop I' he'
  rw [drop_upd hn] at D
  have fin : PIE X pins σ tg R (.ref it) s' := by
    refine ⟨it, [it], _, _, H, rfl, D, turn_str it x t ty hy, st, fun b hb2 => ?_, hR⟩
    have e1 : b = it := by simpa using hb2
    subst e1
    have q := inv_fp I' he (Nat.le_trans I.sz hz)
    rwa [drop_upd hn] at q
  unfold PySem.W.OwitIt
  rcases hy with rfl | rfl
  · exact wpAny_specialOf hT PySem.F.slot_str_ascii_iterator_next.lookup fin
  · exact wpAny_specialOf hT PySem.F.slot_str_iterator_next.lookup fin
/-- for x in e, [.. for x in e]: e an object whose text fld is walked -/
def iOwnS (C : Addr) (fld : Str) (te : TE) : TI := fun σ H R => te σ H fun v H1 => ∃ a dx fs x, v = .ref a ∧ H1 a = some (.ins C dx fs) ∧ fs.lookup fld = some (.str x) ∧ R (Its x) H1
theorem pi_ownS {tg e : Expr} {te : TE} {fld : Str} (M : OwnM X.K C "__iter__" f) (hr : Room n X.A) (F : ∀ base : Heap, FnOk X.prog X.w X.K X.mg base CX n f fd ps (spItS C fld base.objs.size)) (hb : L2.Binds X.K fd ps []) (hx : Passes CX X E) (he : PE X e te) : PI X tg e (iOwnS C fld te) := by
  refine ⟨fun pins s σ H R I h => ?_⟩
  refine thn (he.run pins s σ H _ I h) fun v s1 ⟨y, H1, I1, r1, a, dx, fs, x, ey, ha, hl, q⟩ => ?_
  subst ey
  cases r1
  exact pit_S M hr F hb hx I1 ha hl q
/-- the walk's start, over a tuple -/
theorem pit_T {tg : Expr} {R : It → Hp → Prop} {a dx : Addr} {fs : List (Str × V)} {fld : Str} {l : Addr} {zs : List V} (M : OwnM X.K C "__iter__" f) (hr : Room n X.A) (F : ∀ base : Heap, FnOk X.prog X.w X.K X.mg base CX n f fd ps (spItT X.K C fld base.objs.size)) (hb : L2.Binds X.K fd ps []) (hx : Passes CX X E)
    (I : Inv X pins σ H s) (ha : H a = some (.ins C dx fs)) (hl : fs.lookup fld = some (.ref l)) (hq : SqT X.K H l zs) (hR : R (Itt X.K l) H) : wpAny (model X.prog X.w) X.A (pyIter (.ref a)) (PIE X pins σ tg R) X.xe s := by
  obtain ⟨mA, J, _⟩ := ins_get I.hok ha
  obtain ⟨od, J, _⟩ := J.look
  obtain ⟨m, hF⟩ := I.fr
  refine PySem.W.owit_iter hF I.ok.mod.kin J M.at_ M.fn (wpAny_mono (run_pad (⟨hr, rfl⟩ : Sub X n X.A) F hb hx I (.cons val_ref .nil) (Q := fun v H' => ∃ it, v = .ref it ∧ H it = none ∧ s.heap.objs.size ≤ it ∧ H' = upd H it (ItTO it l)) ⟨a, dx, l, fs, zs, rfl, ha, hl, hq, fun it n1 n2 => ⟨it, rfl, n1, n2, rfl⟩⟩) (fun v s' q => ?_) fun _ _ z => z)
  obtain ⟨w, H', I', rw', it, rfl, hn, hz, rfl⟩ := q
  cases rw'
  have he : upd H it (ItTO it l) it = some (ItTO it l) := upd_same
  have he' := he
  unfold ItTO at he'
  obtain ⟨st, _⟩ : s'.heap.IsTupleIter it l 0 ∧ _ := (show ObjOk X.prog X.w _ s'.heap it (ItTO it l) from I'.hok it _ he)
  have hT : s'.TypeIs (.ref it) "tuple_iterator" := let ⟨o, ho, hc, _⟩ := st; ⟨o, ho, hc⟩
  have D := inv_drop I' he'
  rw [drop_upd hn] at D
  have fin : PIE X pins σ tg R (.ref it) s' := by
    refine ⟨it, [it], _, _, H, rfl, D, turn_tuple l it, st, fun b hb2 => ?_, hR⟩
    have e1 : b = it := by simpa using hb2
    subst e1
    have q := inv_fp I' he (Nat.le_trans I.sz hz)
    rwa [drop_upd hn] at q
  unfold PySem.W.OwitIt
  exact wpAny_specialOf hT PySem.F.slot_tuple_iterator_next.lookup fin
/-- the same, its tuple fld is walked -/
def iOwnT (K : PySem.W.Frag) (C : Addr) (fld : Str) (te : TE) : TI := fun σ H R => te σ H fun v H1 => ∃ a dx l fs zs, v = .ref a ∧ H1 a = some (.ins C dx fs) ∧ fs.lookup fld = some (.ref l) ∧ SqT K H1 l zs ∧ R (Itt K l) H1
theorem pi_ownT {tg e : Expr} {te : TE} {fld : Str} (M : OwnM X.K C "__iter__" f) (hr : Room n X.A) (F : ∀ base : Heap, FnOk X.prog X.w X.K X.mg base CX n f fd ps (spItT X.K C fld base.objs.size)) (hb : L2.Binds X.K fd ps []) (hx : Passes CX X E) (he : PE X e te) : PI X tg e (iOwnT X.K C fld te) := by
  refine ⟨fun pins s σ H R I h => ?_⟩
  refine thn (he.run pins s σ H _ I h) fun v s1 ⟨y, H1, I1, r1, a, dx, l, fs, zs, ey, ha, hl, hq, q⟩ => ?_
  subst ey
  cases r1
  exact pit_T M hr F hb hx I1 ha hl hq q
end

/-! ### list(text), list(o) of an object whose text is walked -/
def signs (x : Str) : List V := x.cps.toList.map fun c => V.str ⟨#[c]⟩
theorem signs_vals {x : Str} {acc : Array Value} (h : ItemsOf (SignAt x) acc x.cps.size) : Vals (signs x) acc.toList := by
  obtain ⟨hz, hp⟩ := h
  have gen : ∀ (cs : List Nat) (vs : List Value), cs.length = vs.length → (∀ (j : Nat) (v : Value), vs[j]? = some v → ∃ (c : Nat) (u : Tok), cs[j]? = some c ∧ v = Value.str ⟨#[c]⟩ u) → Vals (cs.map fun c => V.str ⟨#[c]⟩) vs := by
    intro cs
    induction cs with
    | nil =>
      intro vs hl _
      cases vs with
      | nil => exact .nil
      | cons v r => simp at hl
    | cons c r ih =>
      intro vs hl hv
      cases vs with
      | nil => simp at hl
      | cons v r2 =>
        obtain ⟨c', u, e1, e2⟩ := hv 0 v rfl
        have e3 : c = c' := by simpa using e1
        subst e3
        exact .cons ⟨u, e2⟩ (ih r2 (by simpa using hl) fun j w hj => by simpa using hv (j + 1) w (by simpa using hj))
  refine gen x.cps.toList acc.toList (by simpa using hz.symm) fun j v hj => ?_
  obtain ⟨c, u, e1, e2⟩ := hp j v (by simpa using hj)
  exact ⟨c, u, by simpa using e1, e2⟩
def rListStr : List V → Hp → VK → Prop := fun xs H Q => ∃ x : Str, xs = [.str x] ∧ x.length ≤ 1000 ∧ ∀ q, H q = none → Q (.ref q) (upd H q (.lst (signs x)))
theorem signs_len (x : Str) : (signs x).length = x.length := by simp [signs, Str.length]
section
variable {X : Cx}
theorem call_listStr (hc : X.calm = true) : CallR X (.type "list") rListStr := by
  intro pins s σ H xs us Q I r h
  obtain ⟨x, rfl, hx, q⟩ := h
  obtain ⟨u, rfl, ru⟩ := r.one
  obtain ⟨t, rfl⟩ := ru
  refine call_list_str (I.ok.hd hc) x t (fun h' tk acc c k e hi => ?_) (szl hx)
  refine ⟨.ref s.heap.objs.size, _, I.laid (t' := tk) (o := .lst (signs x)) k (Nat.le_refl _) ⟨by rw [signs_len]; exact szl hx, acc.toList, c, signs_vals hi, by simpa using e⟩, rfl, q _ (I.hok.fresh (Nat.le_refl _))⟩
end
section
variable {X : Cx} {pins : List (Addr × Obj)} {σ : L2.St} {H : Hp} {s : Shared} {CX CX' : CXT} {n n' : Nat} {f f' C : Addr} {fd fd' : FuncData} {ps ps' : List Str} {E E' : XK} {Q : VK} {A1 : Around} {fld : Str} {x : Str} {a dx : Addr} {fs : List (Str × V)}
/-- what an own __len__ says of an object with the field fld: its text's length -/
def spLenS (C : Addr) (fld : Str) : Sp := fun vs H Q _ => ∃ (a dx : Addr) (fs : List (Str × V)) (x : Str), vs = [.ref a] ∧ H a = some (.ins C dx fs) ∧ fs.lookup fld = some (.str x) ∧ x.length ≤ 1000 ∧ Q (.int x.length) H
theorem own_hint {EE : Value → Shared → Prop} (M : OwnM X.K C "__len__" f') (sb : Sub X (n' + 1) A1) (F : FnOk X.prog X.w X.K X.mg X.base CX0 n' f' fd' ps' (spLenS C fld)) (hb : L2.Binds X.K fd' ps' [])
    (I : Inv X pins σ H s) (ha : H a = some (.ins C dx fs)) (hl : fs.lookup fld = some (.str x)) (hz : x.length ≤ 1000) {R : Bool → Shared → Prop} (h : ∀ b s', Inv X pins σ H s' → R b s') : wpAny (model X.prog X.w) A1 (Builtin.List.listLengthHint (.ref a)) R EE s := by
  obtain ⟨mA, J, _⟩ := ins_get I.hok ha
  obtain ⟨od, J, _⟩ := J.look
  obtain ⟨m, hF⟩ := I.fr
  unfold Builtin.List.listLengthHint
  refine wpAny_bind (wpAny_bind (J.type.here ((PySem.W.looks_findIn I.kIn M.at_).here ?_)))
  refine PySem.W.KFB.if_not rfl ?_
  refine PySem.W.KFB.if_so rfl ?_
  refine wpAny_bind (wpAny_rule ?_)
  refine wpAny_bind (wpAny_attempt ?_)
  refine PySem.W.len_K hF I.ok.mod.kin J M.at_ M.fn (wpAny_mono (run_own0 sb.in1 F hb I (.cons val_ref .nil) (Q := fun v H' => v = .int x.length ∧ H' = H) ⟨a, dx, fs, x, rfl, ha, hl, hz, rfl, rfl⟩) (fun v s' q => ?_) fun _ _ z => z)
  obtain ⟨w, H', I', rw', rfl, rfl⟩ := q
  obtain ⟨t, rfl⟩ := rw'
  refine ⟨⟨by omega, by omega⟩, ?_⟩
  refine wpAny_bind (wpAny_pure ?_)
  refine PySem.W.KFB.if_not (by rw [Int.toNat_natCast]; exact notLongL (szl hz)) ?_
  exact wpAny_pure (h _ _ (I'.tok _))
/-- the items of the iterator at it go into the empty list at q -/
theorem own_fill {it q : Addr} {t : Tok} {ty : String} {Rs : Result → Shared → Prop} (hcalm : X.A.handled = none) (I : Inv X pins σ H s) (hq : H q = some (.lst [])) (fp : FpOk X pins H it) (hy : ty = "str_ascii_iterator" ∨ ty = "str_iterator") (st : s.heap.IsStrIter it ty x t 0) (hx : x.length ≤ 1000)
    (hA : A1.handled = none) (h : ∀ s', Inv X pins σ (upd H q (.lst (signs x))) s' → Rs (.ok (.ret .none)) s') : codeAny (model X.prog X.w) A1 (.builtin "list.extend.loop" ⟨[.ref q, .ref it, .none], []⟩) Rs s := by
  have hqi : q ≠ it := fun z => by
    have := fp.1
    rw [← z, hq] at this
    cases this
  obtain ⟨z, its, k, r, hl, e⟩ := I.lstM hq
  cases r
  have W : WalksS X.prog X.w A1.in1 it [it] [it] (fun a b => b = a) x.cps.size (SignAt x) (fun i s => s.heap.IsStrIter it ty x t i) := by
    rcases hy with rfl | rfl
    · exact (Walks.strAscii (A := A1.in1) hA it x t).toS
    · exact (Walks.strWide (A := A1.in1) hA it x t).toS
  have hn : x.cps.size ≤ sizeLine := szl hx
  refine codeAny_extend_loopS W hn q (fun z => hqi (List.mem_singleton.mp z)) .none x.cps.size 0 s #[] k rfl (Nat.zero_le _) st e (ItemsOf.nil _) fun s' acc c hm hS hacc => h s' ?_
  have es := Moved.eq_with hm
  obtain ⟨f0, f1, f2, f3, f4, f5⟩ := fp
  have o2 : ∀ b, b ≠ q → (s'.heap.update q fun _ => ({ cls := .type "list", data := .seq #[] k } : Obj)).get? b = s'.heap.get? b := fun b hb => Heap.get?_update_other s'.heap _ (Ne.symm hb)
  have oq : (s'.heap.update q fun _ => ({ cls := .type "list", data := .seq #[] k } : Obj)).get? q = some { cls := .type "list", data := .seq #[] k } := Heap.get?_update_self _ hS rfl
  have I2 : Inv X pins σ H { s with heap := s'.heap.update q fun _ => ({ cls := .type "list", data := .seq #[] k } : Obj), toks := s'.toks } := I.turned (it := it) (fun b o hb eb => by
    by_cases hbq : b = q
    · subst hbq
      rw [oq, ← eb]
      exact e.symm
    · rw [o2 b hbq]
      exact hm.heap b o (fun z => by
        rcases List.mem_cons.mp z with z | z
        · exact hbq z
        · exact hb (List.mem_singleton.mp z)) eb) f0 f1 f3 f4 f5
  have I3 := I2.write (x := q) (e := q) (h' := s'.heap) (o := .lst (signs x)) (t' := s'.toks) (by rw [hq]; exact trivial) (.inl rfl) (fun b u hb eb => (o2 b hb).symm.trans eb) ⟨_, hS⟩ ⟨by rw [signs_len]; exact szl hx, acc.toList, c, signs_vals hacc, by simpa using hS⟩
  rw [es]
  exact I3
/-- an empty list grown by one and cut again -/
theorem touch {EE : Value → Shared → Prop} {q : Addr} {R : Unit → Shared → Prop} (I : Inv X pins σ H s) (hq : H q = some (.lst [])) (h : ∀ s', Inv X pins σ H s' → R () s') : wpAny (model X.prog X.w) A1 (Builtin.List.listTouch (.ref q)) R EE s := by
  obtain ⟨z, its, k, r, hl, e⟩ := I.lstM hq
  cases r
  show wpAny _ _ (updateSeq q (·.push .none) >>= fun _ => updateSeq q (·.pop)) _ _ _
  refine wpAny_bind (wpAny_updateSeq e rfl ?_)
  have I2 := I.lset (f := (·.push Value.none)) (its' := [Value.none]) (ys := [.non]) (t' := s.toks) hq e (by simp) (.cons rfl .nil) (szl (by decide))
  obtain ⟨z4, its4, k4, r4, hl4, e4⟩ := I2.lstM upd_same
  obtain ⟨u4, rfl, ru4⟩ := r4.one
  refine wpAny_updateSeq e4 rfl ?_ (by show 1 ≤ sizeLine; exact szl (by decide)) (by show 0 ≤ sizeLine + 1; exact Nat.zero_le _)
  have I3 := I2.lset (f := (·.pop)) (its := [u4]) (its' := []) (ys := []) (t' := s.toks) upd_same e4 (by rfl) .nil (Nat.zero_le _)
  rw [upd_upd] at I3
  have hH : upd H q (.lst []) = H := by
    funext b
    by_cases hb : b = q
    · rw [hb, upd_same, hq]
    · rw [upd_ne hb]
  rw [hH] at I3
  exact h _ I3
def rListOwn (C : Addr) (fld : Str) : List V → Hp → VK → Prop := fun xs H Q => ∃ (a dx : Addr) (fs : List (Str × V)) (x : Str), xs = [.ref a] ∧ H a = some (.ins C dx fs) ∧ fs.lookup fld = some (.str x) ∧ x.length ≤ 1000 ∧ ∀ q, H q = none → Q (.ref q) (upd H q (.lst (signs x)))
theorem call_listOwnS (hcalm : X.calm = true) (MI : OwnM X.K C "__iter__" f) (ML : OwnM X.K C "__len__" f') (hr : Room (n + 3) X.A) (FI : ∀ base : Heap, FnOk X.prog X.w X.K X.mg base CX n f fd ps (spItS C fld base.objs.size)) (bI : L2.Binds X.K fd ps []) (xI : Passes CX X E)
    (FL : FnOk X.prog X.w X.K X.mg X.base CX0 n f' fd' ps' (spLenS C fld)) (bL : L2.Binds X.K fd' ps' []) : CallR X (.type "list") (rListOwn C fld) := by
  intro pins s σ H xs us Q I r h
  obtain ⟨a, dx, fs, x, rfl, ha, hl, hz, q0⟩ := h
  obtain ⟨u, rfl, ru⟩ := r.one
  cases ru
  have sb : Sub X (n + 1) X.A.in1.in1 := Sub.in1 (Sub.in1 (⟨hr, rfl⟩ : Sub X (n + 3) X.A))
  refine callType_codes (Q₁ := fun obj s₁ => obj = .ref s.heap.objs.size ∧ s₁ = { s with heap := s.heap.push { cls := .type "list", data := .seq #[] } }) PySem.F.called_list (PySem.F.typeCall_list_1 _) PySem.F.entry_list_init
    (code_list_new _ ⟨rfl, rfl⟩) fun obj s₁ h₁ => ?_
  obtain ⟨rfl, rfl⟩ := h₁
  have hS : (s.heap.push { cls := .type "list", data := .seq #[] }).get? s.heap.objs.size = some { cls := .type "list", data := .seq #[] } := Heap.get?_push_size _ rfl
  have fr : H s.heap.objs.size = none := I.hok.fresh (Nat.le_refl _)
  have q1 := q0 _ fr
  refine ⟨⟨_, hS, rfl⟩, PySem.F.args_list_init_2 _ _, ?_⟩
  have I1 : Inv X pins σ (upd H s.heap.objs.size (.lst [])) { s with heap := s.heap.push { cls := .type "list", data := .seq #[] } } := I.lnew (its := []) (t' := s.toks) .nil (Nat.zero_le _)
  have I2 := I1.lset (f := fun _ => #[]) (its := []) (its' := []) (ys := []) (t' := s.toks) upd_same hS rfl .nil (Nat.zero_le _)
  rw [upd_upd] at I2
  have ha2 : upd H s.heap.objs.size (.lst []) a = some (.ins C dx fs) := (upd_ne (ne_of_none ha fr)).trans ha
  show wpAny _ _ (Builtin.List.listItems (.ref s.heap.objs.size) >>= fun old => Builtin.List.listUpdate (.ref s.heap.objs.size) (fun _ => #[]) >>= fun _ => letGo old.toList.reverse >>= fun _ => Builtin.List.listExtendWith (.ref s.heap.objs.size) (.ref a) .none) _ _ _
  refine wpAny_bind ?_
  unfold Builtin.List.listItems
  refine wpAny_bind (wpAny_seqItems hS rfl (wpAny_pure (wpAny_bind ?_)))
  show wpAny _ _ (updateSeq s.heap.objs.size (fun _ => #[])) _ _ _
  refine wpAny_updateSeq hS rfl (wpAny_bind (wpAny_letGo ?_))
  clear hS I1
  revert I2
  generalize hs2 : ({ s with heap := (s.heap.push { cls := .type "list", data := .seq #[] }).update s.heap.objs.size (Obj.mapSeq fun _ => #[]) } : Shared) = s2
  intro I2
  generalize s.heap.objs.size = q at *
  clear hs2
  have hqa : q ≠ a := ne_of upd_same ha2 (fun z => nomatch z)
  obtain ⟨mA, J, _⟩ := ins_get I2.hok ha2
  obtain ⟨od, J, _⟩ := J.look
  obtain ⟨m, hF⟩ := I2.fr
  unfold Builtin.List.listExtendWith
  refine wpAny_bind (J.type.here ?_)
  have z1 : Builtin.List.listSameRef (.ref q) (.ref a) = false := by simp [Builtin.List.listSameRef, hqa]
  simp only [z1, show (Value.ref C == Value.type "list") = false from rfl, show (Value.ref C == Value.type "tuple") = false from rfl, Bool.or_false, Bool.false_eq_true, if_false]
  refine wpAny_bind (PySem.W.owit_iter hF I2.ok.mod.kin J MI.at_ MI.fn (wpAny_mono (run_pad (sb.mono (Nat.le_succ n)) FI bI xI I2 (.cons val_ref .nil) (Q := fun v H' => ∃ it, v = .ref it ∧ upd H q (.lst []) it = none ∧ s2.heap.objs.size ≤ it ∧ H' = upd (upd H q (.lst [])) it (ItSO it x)) ⟨a, dx, fs, x, rfl, ha2, hl, fun it n1 n2 => ⟨it, rfl, n1, n2, rfl⟩⟩) (fun v s' q' => ?_) fun _ _ z => z))
  obtain ⟨w, H', I3, rw', it, rfl, hn, hsz, rfl⟩ := q'
  cases rw'
  have ha3 : upd (upd H q (.lst [])) it (ItSO it x) a = some (.ins C dx fs) := (upd_ne (ne_of_none ha2 hn)).trans ha2
  -- behind the iterator's making: its length is asked, then the items go in
  have last : ∀ s4, Inv X pins σ (upd (upd H q (.lst [])) it (ItSO it x)) s4 → codeAny (model X.prog X.w) X.A.in1 (.builtin "list.extend.loop" ⟨[.ref q, .ref it, .none], []⟩) (wants (fun r s₂ => r = Value.none ∧ EP X pins σ Q (Value.ref q) s₂) X.xe) s4 := fun s4 I4 => by
    have he : upd (upd H q (.lst [])) it (ItSO it x) it = some (ItSO it x) := upd_same
    have he' := he
    unfold ItSO at he'
    obtain ⟨⟨ty, t, hy, st⟩, _⟩ : (∃ ty t, (ty = "str_ascii_iterator" ∨ ty = "str_iterator") ∧ s4.heap.IsStrIter it ty x t 0) ∧ _ := (show ObjOk X.prog X.w _ s4.heap it (ItSO it x) from I4.hok it _ he)
    have D := inv_drop I4 he'
    rw [drop_upd hn] at D
    have fp := inv_fp I4 he (Nat.le_trans I2.sz hsz)
    rw [drop_upd hn] at fp
    refine own_fill (I.ok.hd hcalm) D upd_same fp hy st hz (I.ok.hd hcalm) fun s5 I5 => ⟨rfl, .ref q, _, I5, rfl, ?_⟩
    rw [upd_upd]
    exact q1
  have hT : ∃ ty : String, s'.TypeIs (.ref it) ty ∧ (ty = "str_ascii_iterator" ∨ ty = "str_iterator") := by
    obtain ⟨⟨ty, t, hy, o, ho, hc, _⟩, _⟩ : (∃ ty t, (ty = "str_ascii_iterator" ∨ ty = "str_iterator") ∧ s'.heap.IsStrIter it ty x t 0) ∧ _ := (show ObjOk X.prog X.w _ s'.heap it (ItSO it x) from I3.hok it _ upd_same)
    exact ⟨ty, ⟨o, ho, hc⟩, hy⟩
  have quiet : ∀ args, (Code.builtin "list.extend.loop" args).quiet = true := fun args => plainId_quiet PySem.F.plain_extend_loop _
  unfold PySem.W.OwitIt
  obtain ⟨ty, hT, hy⟩ := hT
  have qit : q ≠ it := fun z => by
    rw [← z, upd_same] at hn
    cases hn
  have eq0 : upd (upd H q (.lst [])) it (ItSO it x) q = some (.lst []) := (upd_ne qit).trans upd_same
  rcases hy with rfl | rfl
  · refine wpAny_specialOf hT PySem.F.slot_str_ascii_iterator_next.lookup ?_
    show wpAny _ _ (holding [Value.ref it] (Builtin.List.listLengthHint (.ref a)) >>= _) _ _ _
    refine wpAny_bind (wpAny_holding (own_hint ML sb FL bL I3 ha3 hl hz fun b s4 I4 => ?_))
    refine wpAny_ite_split (fun _ => ?_) (fun _ => wpAny_pure ⟨quiet _, last s4 I4⟩)
    exact wpAny_bind (wpAny_rule (wpAny_bind (touch I4 eq0 fun s5 I5 => wpAny_pure ⟨quiet _, last s5 I5⟩)))
  · refine wpAny_specialOf hT PySem.F.slot_str_iterator_next.lookup ?_
    show wpAny _ _ (holding [Value.ref it] (Builtin.List.listLengthHint (.ref a)) >>= _) _ _ _
    refine wpAny_bind (wpAny_holding (own_hint ML sb FL bL I3 ha3 hl hz fun b s4 I4 => ?_))
    refine wpAny_ite_split (fun _ => ?_) (fun _ => wpAny_pure ⟨quiet _, last s4 I4⟩)
    exact wpAny_bind (wpAny_rule (wpAny_bind (touch I4 eq0 fun s5 I5 => wpAny_pure ⟨quiet _, last s5 I5⟩)))
end

/-! ### text[::-1] -/
theorem ssi_rev (n : Nat) : PySem.Builtin.Str.strSliceIndices none none (-1) n = (List.range n).reverse := by
  show sliceRange ((n : Int) - 1) (-1) (-1) = _
  rw [PySem.W.krv_sliceRange, PySem.W.krv_range]
theorem sOf_rev (l : List Nat) : (⟨((List.range (sOf l).length).reverse.filterMap ((sOf l).cps[·]?)).toArray⟩ : Str) = sOf l.reverse := by
  rw [List.filterMap_reverse]
  show (⟨(List.filterMap ((sOf l).cps[·]?) (List.range (sOf l).cps.size)).reverse.toArray⟩ : Str) = _
  rw [PySem.W.krv_all]
  simp [sOf]
def tRevS (te : TE) : TE := fun σ H Q => te σ H fun x H1 => ∃ l : List Nat, x = .str (sOf l) ∧ l.length ≤ 1000 ∧ Q (.str (sOf l.reverse)) H1
theorem pe_revS {X : Cx} {e : Expr} {te : TE} {k : Nat} {p1 p2 p3 pos : Pos} (he : PE X e te) : PE X (.Subscript e (.Slice none none (some (.UnaryOp .USub (.Constant (.int 1) k p1) p2)) p3) pos) (tRevS te) := by
  refine ⟨fun pins s σ H Q I h => ?_⟩
  refine Subscript_ (thn (he.run pins s σ H _ I h) fun v s1 ⟨x, H1, I1, r1, q1⟩ => ?_)
  obtain ⟨l, ex, hz, q⟩ := q1
  subst ex
  obtain ⟨t, rfl⟩ := r1
  have hst : PO X (some (.UnaryOp .USub (.Constant (.int 1) k p1) p2)) (tPart (tUn (rU fun i => .int (-i)) (tC (.int 1)))) := po_some (pe_un un_neg pe_int)
  refine wpAny_Slice (thn (po_none.run pins s1 σ H1 (fun o H2 => o = none ∧ H2 = H1) I1 ⟨rfl, rfl⟩) fun vl s2 ⟨lo, H2, I2, pl, el, e2⟩ => ?_)
  subst el e2
  refine thn (po_none.run pins s2 σ H2 (fun o H3 => o = none ∧ H3 = H2) I2 ⟨rfl, rfl⟩) fun vu s3 ⟨u, H3, I3, pu, eu, e3⟩ => ?_
  subst eu e3
  refine thn (hst.run pins s3 σ H3 (fun o H4 => o = some (-1) ∧ H4 = H3) I3 ⟨1, rfl, -1, rfl, rfl, rfl⟩) fun vs s4 ⟨o, H4, I4, ps, eo, e4⟩ => ?_
  subst eo e4
  have I5 : Inv X pins σ H4 { s4 with heap := s4.heap.push { cls := .type "slice", data := .fields #[vl, vu, vs] } } := I4.kept (t' := s4.toks) fun b ob q => Heap.get?_push_of_some _ q
  show wpAny (model X.prog X.w) X.A (subscriptTail e (.Slice none none (some (.UnaryOp .USub (.Constant (.int 1) k p1) p2)) p3) (.str (sOf l) t) (.ref s4.heap.objs.size)) (EP X pins σ Q) X.xe { s4 with heap := s4.heap.push { cls := .type "slice", data := .fields #[vl, vu, vs] } }
  obtain ⟨a1, rfl, f1⟩ := IsPart.raw pl
  obtain ⟨a2, rfl, f2⟩ := IsPart.raw pu
  obtain ⟨a3, rfl, f3⟩ := IsPart.raw ps
  refine tail_any (T := "str") (ops := [.ref s4.heap.objs.size, .str (sOf l) t]) (typeIs_str _ _ _) (F.slot_str_getitem.lookup) ?_ (by with_unfolding_all rfl)
  refine wpAny_getItem_str_slice (l := a1) (u := a2) (st := a3) ⟨_, Heap.get?_push_size _ rfl, rfl, rfl⟩ (by rw [f3]; rfl) ?_
  have hp : slicePicked (sOf l) a1 a2 a3 = (List.range (sOf l).length).reverse := by
    unfold slicePicked
    rw [f1, f2, f3]
    exact ssi_rev _
  unfold sliceMade
  rw [f3, hp, if_neg (by simp), sOf_rev]
  exact ⟨by rw [sOf_len, List.length_reverse]; exact szl hz, .str _, H4, I5.tok _, ⟨_, rfl⟩, q⟩
namespace RvT
section
open PySem PySem.Spec PyProof.Rows L2 HT
variable {prog : Program} {w : World} {A : Around} {E : Value → Shared → Prop} {s : Shared}
theorem adjust_rev (n : Nat) : Builtin.Slice.sliceAdjust none none (-1) (n : Int) = ((n : Int) - 1, -1) := rfl
theorem places_rev (n : Nat) : Builtin.Slice.slicePlaces ((n : Int) - 1) (-1) (-1) = n := by
  unfold Builtin.Slice.slicePlaces
  have h1 : ¬ ((-1 : Int) > 0) := by omega
  simp only [h1, if_false]
  rw [show -(-1 : Int) = 1 from rfl, Int.ediv_one]
  split <;> omega
theorem fm_congr {α β : Type} {f g : α → Option β} : ∀ l : List α, (∀ x ∈ l, f x = g x) → l.filterMap f = l.filterMap g
  | [], _ => rfl
  | x :: l, h => by
    rw [List.filterMap_cons, List.filterMap_cons, h x List.mem_cons_self, fm_congr l fun z hz => h z (List.mem_cons_of_mem _ hz)]
theorem sliceApplied_rev {sl : Addr} {vs : Value} {n : Nat} {Q : Int × Int × Nat → Shared → Prop} (hs : s.heap.IsSliceOf sl .none .none vs) (ps : IsPart vs (some (-1)))
    (h : Q ((n : Int) - 1, -1, n) s) : wpAny (model prog w) A (Builtin.Slice.sliceApplied (.ref sl) (pure (n : Int))) Q E s := by
  obtain ⟨os, hos, hcs, hds⟩ := id hs
  unfold Builtin.Slice.sliceApplied Builtin.Slice.sliceFields
  refine wpAny_bind (wpAny_bind (wpAny_field hos hds (x := .none) rfl (wpAny_bind (wpAny_field hos hds (x := .none) rfl (wpAny_bind (wpAny_field hos hds (x := vs) rfl (wpAny_pure ?_)))))))
  refine wpAny_bind (slicePart_ ps ?_)
  show wpAny _ _ (if ((-1 : Int) == 0) = true then _ else _) _ _ s
  rw [if_neg (by decide)]
  refine wpAny_bind (slicePart_none (wpAny_bind (slicePart_none (wpAny_bind (wpAny_pure ?_)))))
  show wpAny _ _ (match Builtin.Slice.sliceAdjust none none (-1) (n : Int) with | (lo, hi) => pure (lo, (-1 : Int), Builtin.Slice.slicePlaces lo hi (-1))) _ _ s
  rw [adjust_rev n]
  show wpAny _ _ (pure ((n : Int) - 1, (-1 : Int), Builtin.Slice.slicePlaces ((n : Int) - 1) (-1) (-1))) _ _ s
  rw [places_rev]
  exact wpAny_pure h
theorem pick_rev (xs : List Value) : ((List.range xs.length).filterMap fun (m : Nat) => xs.toArray[(((xs.length : Nat) : Int) - 1 + (m : Int) * -1).toNat]?) = xs.reverse := by
  have e : ∀ m ∈ List.range xs.length, xs.toArray[(((xs.length : Nat) : Int) - 1 + (m : Int) * -1).toNat]? = xs.reverse[m]? := fun m hm => by
    have hm := List.mem_range.mp hm
    rw [show (((xs.length : Nat) : Int) - 1 + (m : Int) * -1).toNat = xs.length - 1 - m by omega, List.getElem?_toArray, List.getElem?_reverse hm]
  rw [fm_congr _ e]
  have := PySem.W.krv_all xs.reverse.toArray
  rw [List.size_toArray, List.length_reverse] at this
  simpa using this
theorem getItem_tuple_rev {t sl : Addr} {items : List Value} {vs : Value} {Q : Value → Shared → Prop} (ht : IsTup s.heap t items.toArray) (hs : s.heap.IsSliceOf sl .none .none vs) (ps : IsPart vs (some (-1)))
    (h : Q (.ref s.heap.objs.size) { s with heap := s.heap.push { cls := .type "tuple", data := .seq items.reverse.toArray } })
    (hsz : items.length ≤ sizeLine) : wpAny (model prog w) A (getItem (.ref t) (.ref sl)) Q E s := by
  have htake : sizeOk (.seq items.reverse.toArray) := by
    show items.reverse.toArray.size ≤ sizeLine
    rw [List.size_toArray, List.length_reverse]
    exact hsz
  obtain ⟨os, hos, hcs, hds⟩ := id hs
  have hTs : s.TypeIs (.ref sl) "slice" := ⟨os, hos, hcs⟩
  unfold getItem
  try with_reducible refine wpAny_holding ?_
  first | refine wpAny_bind (wpAny_pure ?_) | skip
  refine wpAny_bind (wpAny_sequenceKey ht.typeIs (by decide) ?_)
  refine wpAny_bind (wpAny_callSpecial?_slot (name := Str.ofString "__getitem__") ht.typeIs PyProof.Rows.slot_tuple_getitem
    (wpAny_call_entry PyProof.Rows.slot_tuple_getitem ht.typeIs entry_tuple_getitem ?_ (args_tuple_getitem _ _)))
  show wpAny _ _ (Builtin.Tuple.tupleItemsOf (.ref t) >>= _) _ _ s
  refine wpAny_bind (tupleItemsOf_ ht ?_)
  refine wpAny_bind (wpAny_typeOf hTs ?_)
  rw [if_pos (by decide)]
  refine wpAny_bind (sliceApplied_rev (n := items.toArray.size) hs ps ?_)
  have hno : ¬ (((((items.toArray.size : Nat) : Int) - 1) == 0 && (-1 : Int) == 1 && items.toArray.size == items.toArray.size) = true) := by
    intro q
    rw [Bool.and_eq_true, Bool.and_eq_true] at q
    have := q.1.2
    revert this
    decide
  show wpAny _ _ (if ((((items.toArray.size : Nat) : Int) - 1) == 0 && (-1 : Int) == 1 && items.toArray.size == items.toArray.size) = true then _ else _) _ _ s
  rw [if_neg hno, List.size_toArray, pick_rev]
  first
    | exact wpAny_bind (m := Builtin.Tuple.tupleExact _) (wpAny_newObj_type (wpAny_pure ⟨_, rfl, wpAny_pure h⟩) htake)
    | exact wpAny_bind (m := Builtin.Tuple.tupleExact _) (wpAny_newObj_type (wpAny_bind (wpAny_pure (wpAny_pure ⟨_, rfl, wpAny_pure h⟩))) htake)
    | exact wpAny_bind (wpAny_bind (m := Builtin.Tuple.tupleExact _) (wpAny_newObj_type (wpAny_pure (wpAny_pure ⟨_, rfl, wpAny_pure h⟩)) htake))
    | exact wpAny_bind (wpAny_bind (m := Builtin.Tuple.tupleExact _) (wpAny_newObj_type (wpAny_pure ⟨_, rfl, wpAny_pure h⟩) htake))
end
end RvT
/-! ### t[::-1] -/
def tRevT (K : PySem.W.Frag) (te : TE) : TE := fun σ H Q => te σ H fun x H1 => ∃ a xs, x = .ref a ∧ SqT K H1 a xs ∧ ∀ p, H1 p = none → Q (.ref p) (upd H1 p (.tup xs.reverse))
theorem pe_revT {X : Cx} {e : Expr} {te : TE} {k : Nat} {p1 p2 p3 pos : Pos} (he : PE X e te) : PE X (.Subscript e (.Slice none none (some (.UnaryOp .USub (.Constant (.int 1) k p1) p2)) p3) pos) (tRevT X.K te) := by
  refine ⟨fun pins s σ H Q I h => ?_⟩
  refine Subscript_ (thn (he.run pins s σ H _ I h) fun v s1 ⟨x, H1, I1, r1, q1⟩ => ?_)
  obtain ⟨a, xs, ex, hx, q⟩ := q1
  subst ex
  cases r1
  have hst : PO X (some (.UnaryOp .USub (.Constant (.int 1) k p1) p2)) (tPart (tUn (rU fun i => .int (-i)) (tC (.int 1)))) := po_some (pe_un un_neg pe_int)
  refine wpAny_Slice (thn (po_none.run pins s1 σ H1 (fun o H2 => o = none ∧ H2 = H1) I1 ⟨rfl, rfl⟩) fun vl s2 ⟨l, H2, I2, pl, el, e2⟩ => ?_)
  subst el e2
  refine thn (po_none.run pins s2 σ H2 (fun o H3 => o = none ∧ H3 = H2) I2 ⟨rfl, rfl⟩) fun vu s3 ⟨u, H3, I3, pu, eu, e3⟩ => ?_
  subst eu e3
  refine thn (hst.run pins s3 σ H3 (fun o H4 => o = some (-1) ∧ H4 = H3) I3 ⟨1, rfl, -1, rfl, rfl, rfl⟩) fun vs s4 ⟨o, H4, I4, ps, eo, e4⟩ => ?_
  subst eo e4
  have I5 : Inv X pins σ H4 { s4 with heap := s4.heap.push { cls := .type "slice", data := .fields #[vl, vu, vs] } } := I4.kept (t' := s4.toks) fun b ob q => Heap.get?_push_of_some _ q
  obtain ⟨its, r, ht, hz⟩ := I5.tuple hx
  have hlen := r.length
  show wpAny (model X.prog X.w) X.A (subscriptTail e (.Slice none none (some (.UnaryOp .USub (.Constant (.int 1) k p1) p2)) p3) (.ref a) (.ref s4.heap.objs.size)) (EP X pins σ Q) X.xe { s4 with heap := s4.heap.push { cls := .type "slice", data := .fields #[vl, vu, vs] } }
  cases pl
  cases pu
  refine tail_any (T := "tuple") (ops := [.ref a, .ref s4.heap.objs.size]) ht.typeIs (PyProof.Rows.slot_tuple_getitem.lookup) ?_ (by with_unfolding_all rfl)
  refine RvT.getItem_tuple_rev ht (Heap.IsSliceOf.new _ _ _ vs) ps ?_ (by omega)
  refine ⟨.ref _, _, I5.laid (t' := s4.toks) (o := .tup xs.reverse) (fun b ob q => Heap.get?_push_of_some _ q) (Nat.le_refl _) ?_, rfl, q _ (I5.hok.fresh (Nat.le_refl _))⟩
  exact ⟨by rw [List.length_reverse]; exact hz, _, r.reverse, IsTup.new _ _⟩

/-! ### the making of an object within a try: the wish looks at the slots -/
section
variable {X : Cx} {CX : CXT} {n : Nat} {f C : Addr} {fd : FuncData} {ps : List Str} {sp : Sp} {E : L2.St → XK} {x : Str} {p pos : Pos} {e : Expr} {es : List Expr} {t : TA}
theorem makeS_run {E : XK} {Q : VK} {us : List Value} {vs : List V} {pins : List (Addr × Obj)} {σ : L2.St} {H : Hp} {s : Shared} (M : Mk X.K C f) (F : FnOk X.prog X.w X.K X.mg X.base CX n f fd ps sp) (room : Room (n + 1) X.A) (hb : L2.Binds X.K fd ps [])
    (esc : PassesAt CX X σ E) (J : L2.Inv X pins σ H s) (rs : Vals vs us) (h : ∀ y dy, H y = none → H dy = none → dy ≠ y → sp (.ref y :: vs) (L2.upd (L2.upd H dy (.own y)) y (.ins C dy [])) (fun v H2 => v = .non ∧ Q (.ref y) H2) E) :
    wpAny (model X.prog X.w) X.A (call (.ref C) us) (EP X pins σ Q) X.xe s := by
  generalize hn : s.heap.objs.size = k
  have wish := h (k + 1) k (J.hok.fresh (hn ▸ Nat.le_succ _)) (J.hok.fresh (hn ▸ Nat.le_refl _)) (Nat.ne_of_lt (Nat.lt_succ_self k))
  subst hn
  have J2 := L2.Inv.made (C := C) J
  have rs2 : Vals (V.ref (s.heap.objs.size + 1) :: vs) (Value.ref (s.heap.objs.size + 1) :: us) := .cons val_ref rs
  have many : (Value.ref (s.heap.objs.size + 1) :: us ++ []).length = ps.length := by
    rw [List.append_nil, ← F.len _ _ _ _ wish]
    exact rs2.length.symm
  have bd := hb _ (Value.ref (s.heap.objs.size + 1) :: us) J2.kIn many
  rw [List.append_nil] at bd
  refine wpAny_call (make_map (f := f) J.kIn M.makes M.init (beq_iff_eq.mp M.fn) (codeAny_mono (F.run _ X.stack _ _ ⟨_ :: us, []⟩ _ _ _ E (room.make C us []) (J2.env0.make C us []) bd rs2 wish) fun res s' post => ?_))
  cases res with
  | error er => exact esc pins _ _ er s' J2 post
  | ok fl =>
    cases fl with
    | ret u =>
      obtain ⟨v, H', J3, rv, ev, w⟩ := J2.after post
      subst ev
      exact ⟨rv, ⟨V.ref (s.heap.objs.size + 1), H', J3, val_ref, w⟩⟩
    | next => exact post.elim
    | brk => exact post.elim
    | cont => exact post.elim
def tMakeS (C : Addr) (sp : Sp) (E : L2.St → XK) (t : TA) : TE := fun σ H Q => t σ H fun vs H1 => ∀ y dy, H1 y = none → H1 dy = none → dy ≠ y → sp (.ref y :: vs) (L2.upd (L2.upd H1 dy (.own y)) y (.ins C dy [])) (fun v H2 => v = .non ∧ Q (.ref y) H2) (E σ)
theorem pe_makeS (M : Mk X.K C f) (F : FnOk X.prog X.w X.K X.mg X.base CX n f fd ps sp) (room : Room (n + 1) X.A) (hg : Gl X x) (hm : X.mg x = some (.ref C)) (hb : L2.Binds X.K fd ps []) (esc : ∀ σ, PassesAt CX X σ (E σ)) (ha : PA X (e :: es) t)
    (hdb : (x == ("__debug__" : Str)) = false := by decide) (he : starEach (e :: es) X.env = (false, eval e X.env) :: starEach es X.env := by rfl) (hpl : (backTo pos (starEach es X.env)).any (·.1) = false := by rfl) : PE X (.Call (.Name x p) (e :: es) [] pos) (tMakeS C sp E t) := by
  refine ⟨fun pins s σ H Q J h => wpAny_Call_Name_kw (ld_glob J hg hm ?_ hdb)⟩
  exact PySem.W.callWith_K (h₀ := X.base) J.ok.mod.kin M.kp (thn (ha.run pos pins s σ H _ J h) fun us s1 ⟨vs, H1, J1, r, q⟩ => ⟨J1.kIn, makeS_run M F room hb (esc σ) J1 r q⟩) he hpl
end
theorem pe_fldK {X : Cx} {K : PySem.W.Frag} {e : Expr} {fld : Str} {pos : Pos} {ta : TE} (hK : X.K = K) (he : PE X e ta) (hb : attributeBase e fld X.env (eval e X.env) = eval e X.env) : PE X (.Attribute e fld pos) (tFld K ta fld) := hK ▸ pe_fld he hb
/-! the call of a method whose exceptions meet a wish that looks at the slots -/
def tMethW (C : Addr) (m : Str) (sp : Sp) (E : L2.St → XK) (ta : TE) (t : TA) : TE := fun σ H Q => ta σ H fun y H1 => ∃ b dy gs, y = .ref b ∧ H1 b = some (.ins C dy gs) ∧ gs.lookup m = none ∧ t σ H1 fun ws H2 => sp (y :: ws) H2 Q (E σ)
section
variable {X : Cx} {CX : CXT} {n : Nat} {f C : Addr} {fd : FuncData} {ps : List Str} {sp : Sp} {E : L2.St → XK} {m : Str} {apos pos : Pos} {o e : Expr} {es : List Expr} {ta : TE} {t : TA}
theorem pe_methW {pl : Sem Bool} (obj : PE X o ta) (c : Cls X.K C) (M : Meth X.K C m f) (F : FnOk X.prog X.w X.K X.mg X.base CX n f fd ps sp) (room : Room n X.A) (hb : L2.Binds X.K fd ps []) (esc : ∀ σ, PassesAt CX X σ (E σ)) (ha : PA X (e :: es) t)
    (hst : starEach (e :: es) X.env = (false, eval e X.env) :: starEach es X.env := by rfl) (hpl : (backTo pos (starEach es X.env)).any (·.1) = false := by rfl)
    (ht : eval (.Call (.Attribute o m apos) (e :: es) [] pos) X.env = (do let y ← eval o X.env; standAt apos.atName; let (g, first) ← holding [y] (getMethod y m pl); callWith pos g first (backTo pos (starEach (e :: es) X.env)) (backToKw pos (keywordEach [] X.env))) := by rfl) :
    PE X (.Call (.Attribute o m apos) (e :: es) [] pos) (tMethW C m sp E ta t) := by
  refine ⟨fun pins s σ H Q J h => PySem.W.methodCall_KW (pl := pl) (thn (obj.run pins s σ H _ J h) fun u s1 ⟨y, H1, J1, ru, b, dy, gs, ey, eb, lk, q⟩ => ?_) ht⟩
  subst ey
  cases ru
  refine getmeth_ok J1 eb c M lk (PySem.W.callWith_K (first := [.ref b]) (h₀ := X.base) J.ok.mod.kin M.kp (thn (ha.run pos pins s1 σ H1 _ J1 q) fun us s2 ⟨ws, H2, J2, r, q2⟩ => ⟨J2.kIn, ?_⟩) hst hpl)
  exact run_fnS (us := .ref b :: us) (vs := .ref b :: ws) F room hb (esc σ) J2 (.cons val_ref r) q2
/-- within a def that may raise: what a callee lets out is let out -/
theorem passUp {X : Cx} {E : XK} (tk : Takes X (fun cls d _ H => E cls d H)) : Passes (L2.CX X.prog X.w) X E := passW tk (fun _ _ _ _ _ h => h)
end

/-! ### deep comparisons of texts -/
theorem strOk_of {l : List Nat} (h : ∀ c ∈ l, c < 1114112) : PyData.strOk (sOf l) = true := by
  unfold PyData.strOk sOf
  simpa using h
def signD (l : List Nat) : List PyData := l.map fun c => PyData.str (sOf [c])
theorem signs_sOf (l : List Nat) : signs (sOf l) = l.map fun c => V.str (sOf [c]) := by
  simp [signs, sOf]
theorem dp_strs {K : PySem.W.Frag} {H : Hp} : ∀ l : List Str, DpAll K H (l.map V.str) (l.map PyData.str)
  | [] => .nil
  | x :: r => .cons (.str x) (dp_strs r)
theorem dp_signs {K : PySem.W.Frag} {H : Hp} (l : List Nat) : DpAll K H (signs (sOf l)) (signD l) := by
  have h := dp_strs (K := K) (H := H) (l.map fun c => sOf [c])
  rw [List.map_map, List.map_map] at h
  rw [signs_sOf]
  exact h
theorem lay_strs : ∀ l : List Str, PyData.canLayAll0 (l.map PyData.str) = l.all PyData.strOk
  | [] => rfl
  | x :: r => by simp [PyData.canLayAll0, PyData.canLay0, lay_strs r]
theorem deep_strs : ∀ l : List Str, PyData.depthAll (l.map PyData.str) = 0
  | [] => rfl
  | x :: r => by simp [PyData.depthAll, PyData.depth, deep_strs r]
theorem eqv_strs : ∀ a b : List Str, PyData.eqvAll (a.map PyData.str) (b.map PyData.str) = decide (a = b)
  | [], [] => by simp [PyData.eqvAll]
  | [], _ :: _ => by simp [PyData.eqvAll]
  | _ :: _, [] => by simp [PyData.eqvAll]
  | x :: r, y :: t => by
    simp only [List.map_cons, PyData.eqvAll, PyData.eqv, eqv_strs r t]
    by_cases h : x = y <;> by_cases h' : r = t <;> simp [h, h']
theorem shaped_signs {l : List Nat} (h : ∀ c ∈ l, c < 1114112) : SeqAt.shaped (.list (signD l)) = true := by
  have e : signD l = (l.map fun c => sOf [c]).map PyData.str := by rw [List.map_map]; rfl
  have k : (l.map fun c => sOf [c]).all PyData.strOk = true := by
    rw [List.all_map, List.all_eq_true]
    intro c hc
    exact strOk_of fun d hd => by rw [List.mem_singleton] at hd; rw [hd]; exact h c hc
  rw [e]
  unfold SeqAt.shaped
  rw [PyData.canLay0, lay_strs, k, PyData.depth, deep_strs]
  rfl
theorem eqv_signs (a b : List Nat) : PyData.eqv (.list (signD a)) (.list (signD b)) = decide (a = b) := by
  have e : ∀ l : List Nat, signD l = (l.map fun c => sOf [c]).map PyData.str := fun l => by rw [List.map_map]; rfl
  rw [e, e, PyData.eqv, eqv_strs]
  refine decide_eq_decide.mpr ⟨fun h => ?_, fun h => by rw [h]⟩
  have := congrArg (List.map fun s : Str => s.cps.toList.headD 0) h
  rw [List.map_map, List.map_map] at this
  have hid : ((fun s : Str => s.cps.toList.headD 0) ∘ fun c => sOf [c]) = id := rfl
  rwa [hid, List.map_id, List.map_id] at this
theorem good_codes {l : List Nat} {n : Nat} (g : Good l n) : ∀ c ∈ l, c < 1114112 := fun c hc => by
  rcases g.ltr c hc with e | e <;> omega
/-- a pair of texts -/
theorem shaped_pair {a b : List Nat} (ha : ∀ c ∈ a, c < 1114112) (hb : ∀ c ∈ b, c < 1114112) : SeqAt.shaped (.tuple [.str (sOf a), .str (sOf b)]) = true := by
  simp [SeqAt.shaped, PyData.canLay0, PyData.canLayAll0, PyData.depth, PyData.depthAll, strOk_of ha, strOk_of hb]
theorem eqv_pair (a b c d : List Nat) : PyData.eqv (.tuple [.str (sOf a), .str (sOf b)]) (.tuple [.str (sOf c), .str (sOf d)]) = (decide (a = c) && decide (b = d)) := by
  rw [PyData.eqv, PyData.eqvAll, PyData.eqvAll, PyData.eqvAll, PyData.eqv, PyData.eqv, Bool.and_true]
  have h : ∀ x y : List Nat, (sOf x == sOf y) = decide (x = y) := fun x y => by
    by_cases e : x = y
    · simp [e]
    · rw [beq_eq_false_iff_ne.mpr fun z => e (sOf_inj.mp z), decide_eq_false e]
  rw [h, h]

/-! ### facts of classes -/
theorem cls_in {K : PySem.W.Frag} {C : Addr} {t : Value} {b : Bool} (h2 : PySem.W.isClsIn K C = true) (h3 : PySem.W.typeIn K (.ref C) = some (.type "type")) (h4 : PySem.W.subIn K t (.ref C) = some b) : PySem.W.kitCls K t (.ref C) = some b := by
  have e : (PySem.W.clsIn K C).isSome = true := h2
  unfold PySem.W.kitCls
  simp only []
  rw [e, h3, h4]
  rfl
theorem exm_of {K : PySem.W.Frag} {S B : Addr} (h1 : PySem.W.subIn K (.ref B) (.type "BaseException") = some true) (h2 : PySem.W.isClsIn K B = true) (h3 : PySem.W.typeIn K (.ref B) = some (.type "type")) (h4 : PySem.W.subIn K (.ref S) (.ref B) = some true) : PySem.W.exmOne K (.ref S) (.ref B) = some true := by
  unfold PySem.W.exmOne
  rw [h1, cls_in h2 h3 h4]
  rfl
theorem kit_self {K : PySem.W.Frag} {t : Value} : PySem.W.kitOne K t t = some true := by
  unfold PySem.W.kitOne
  rw [if_pos (by simp)]
theorem kit_own {K : PySem.W.Frag} {C : Addr} {T : String} {b : Bool} (h2 : PySem.W.isClsIn K C = true) (h3 : PySem.W.typeIn K (.ref C) = some (.type "type")) (h4 : PySem.W.subIn K (.type T) (.ref C) = some b) : PySem.W.kitOne K (.type T) (.ref C) = some b := by
  unfold PySem.W.kitOne
  rw [if_neg (by simp), cls_in h2 h3 h4]
theorem kit_kind {K : PySem.W.Frag} {C : Addr} {T : String} {b : Bool} (hm : PySem.W.kitMeta T = true) (h4 : PySem.W.subIn K (.ref C) (.type T) = some b) : PySem.W.kitOne K (.ref C) (.type T) = some b := by
  unfold PySem.W.kitOne
  rw [if_neg (by simp)]
  unfold PySem.W.kitCls
  simp only []
  rw [if_pos hm, h4]
theorem any_hd {K : PySem.W.Frag} {t c : Value} {r : List Value} (h : PySem.W.kitOne K t c = some true) : PySem.W.kitAny K t (c :: r) = some true := by
  unfold PySem.W.kitAny
  rw [h]
theorem any_tl {K : PySem.W.Frag} {t c : Value} {r : List Value} {b : Bool} (h : PySem.W.kitOne K t c = some false) (k : PySem.W.kitAny K t r = some b) : PySem.W.kitAny K t (c :: r) = some b := by
  unfold PySem.W.kitAny
  rw [h]
  exact k
theorem any_nil {K : PySem.W.Frag} {t : Value} : PySem.W.kitAny K t [] = some false := rfl

/-! ### word_fault -/
def wWord : List Nat := [119, 111, 114, 100]
def wCount : List Nat := [99, 111, 117, 110, 116]
def wBelow : List Nat := [98, 101, 108, 111, 119]
def ltrs (l : List Nat) : Bool := l.all fun c => c == 100 || c == 111
def lowAt (l : List Nat) (k : Nat) : Bool := decide ((l.take k).count 100 < (l.take k).count 111)
def wfault (l : List Nat) : Option (List Nat) :=
  if 2 ≤ l.length ∧ l.length ≤ 12 then if ltrs l = true then if l.count 100 = l.count 111 then if (List.range l.length).any (lowAt l) = true then some wBelow else none else some wCount else some wWord else some wWord
def optV : Option (List Nat) → V
  | none => .non
  | some l => .str (sOf l)

/-! ### the law's own judge of words -/
def ht (l : List Nat) (k : Nat) : Int := ((l.take k).count 100 : Int) - (l.take k).count 111
theorem ht_zero (l : List Nat) : ht l 0 = 0 := by simp [ht]
theorem cnt_zero (l : List Nat) (c : Nat) : (((l.take 0).count c : Nat) : Int) = 0 := by simp
theorem ht_succ {l : List Nat} {i c : Nat} (h : l[i]? = some c) : ht l (i + 1) = ht l i + (if c = 100 then 1 else 0) - (if c = 111 then 1 else 0) := by
  unfold ht
  rw [List.take_add_one, h]
  show (((l.take i ++ [c]).count 100 : Nat) : Int) - ((l.take i ++ [c]).count 111 : Nat) = _
  rw [List.count_append, List.count_append, count_sign, count_sign]
  split <;> split <;> omega
/-- low is the least height so far, at most 0 -/
structure LowIs (l : List Nat) (i : Nat) (low : Int) : Prop where
  nonpos : low ≤ 0
  least : ∀ k, k ≤ i → low ≤ ht l k
  some_ : low = 0 ∨ ∃ k, k ≤ i ∧ low = ht l k
theorem LowIs.next {l : List Nat} {i : Nat} {low z : Int} (h : LowIs l i low) (hz : z = ht l (i + 1)) : LowIs l (i + 1) (if z < low then z else low) := by
  subst hz
  have n := h.nonpos
  refine ⟨by split <;> omega, fun k hk => ?_, ?_⟩
  · by_cases hk2 : k ≤ i
    · have := h.least k hk2
      split <;> omega
    · obtain rfl : k = i + 1 := by omega
      split <;> omega
  · split
    · exact .inr ⟨i + 1, Nat.le_refl _, rfl⟩
    · rcases h.some_ with e | ⟨k, hk, e⟩
      · exact .inl e
      · exact .inr ⟨k, by omega, e⟩
theorem LowIs.fault {l : List Nat} {low : Int} (h : LowIs l l.length low) (h0 : ht l l.length = 0) : (List.range l.length).any (lowAt l) = true ↔ low < 0 := by
  rw [List.any_eq_true]
  constructor
  · rintro ⟨k, hk, e⟩
    have := h.least k (Nat.le_of_lt (List.mem_range.mp hk))
    have e2 := of_decide_eq_true e
    unfold ht at this
    omega
  · intro hl
    rcases h.some_ with e | ⟨k, hk, e⟩
    · omega
    · by_cases hk2 : k < l.length
      · exact ⟨k, List.mem_range.mpr hk2, decide_eq_true (by unfold ht at e; omega)⟩
      · obtain rfl : k = l.length := by omega
        omega

theorem good_fault {l : List Nat} {n : Nat} (g : Good l n) (h1 : 1 ≤ n) (h6 : n ≤ 6) : wfault l = none := by
  have hl := g.len
  have hc := g.cnt
  have ht := ltr_count g.ltr
  unfold wfault
  rw [if_pos ⟨by omega, by omega⟩, if_pos, if_pos (by omega), if_neg]
  · rw [List.any_eq_true]
    rintro ⟨k, hk, e⟩
    have := g.ahead k (Nat.le_of_lt (List.mem_range.mp hk))
    have := of_decide_eq_true e
    omega
  · unfold ltrs
    rw [List.all_eq_true]
    intro c hc2
    rcases g.ltr c hc2 with e | e <;> subst e <;> rfl

/-! ### heights -/
def htsI (l : List Nat) (i : Nat) : List Int := (List.range (i + 1)).map (ht l)
theorem htsI_succ (l : List Nat) (i : Nat) : htsI l (i + 1) = htsI l i ++ [ht l (i + 1)] := by
  unfold htsI
  rw [List.range_succ, List.map_append]
  rfl
theorem htsI_len (l : List Nat) (i : Nat) : (htsI l i).length = i + 1 := by simp [htsI]
theorem htsI_last (l : List Nat) (i : Nat) : ∃ r, htsI l i = r ++ [ht l i] := by
  unfold htsI
  rw [List.range_succ, List.map_append]
  exact ⟨_, rfl⟩
theorem atI_last {α : Type} (r : List α) (x : α) : atI (r ++ [x]) (-1) = some x := by
  unfold atI ixN
  rw [if_neg (by decide)]
  have h1 : (r ++ [x]).length = r.length + 1 := by simp
  rw [h1, if_pos (by omega)]
  have h2 : ((-1 : Int) + ((r.length + 1 : Nat) : Int)).toNat = r.length := by omega
  rw [h2]
  simp
def vI (xs : List Int) : List V := xs.map V.int
theorem vI_app (a b : List Int) : vI (a ++ b) = vI a ++ vI b := List.map_append
theorem vI_last (l : List Nat) (i : Nat) : atI (vI (htsI l i)) (-1) = some (.int (ht l i)) := by
  obtain ⟨r, e⟩ := htsI_last l i
  rw [e, vI_app]
  exact atI_last _ _
theorem ht_step {l : List Nat} {i c : Nat} (h : l[i]? = some c) (hc : c = 100 ∨ c = 111) : ht l i + (if c = 100 then 1 else -1) = ht l (i + 1) := by
  rw [ht_succ h]
  rcases hc with e | e <;> subst e <;> simp <;> omega
theorem join_signsS : ∀ l : List Nat, Str.join (sOf []) (l.map fun c => sOf [c]) = sOf l
  | [] => rfl
  | [c] => rfl
  | c :: d :: r => by
    have ih := join_signsS (d :: r)
    rw [List.map_cons] at ih
    rw [List.map_cons, List.map_cons, Str.join, ih, sOf_app, sOf_app]
    · rfl
    · exact fun z => nomatch z
theorem join_signs (l : List Nat) : Txt.join (sOf []) (l.map fun c => sOf [c]) = sOf l := (TL.join_eq _ _).trans (join_signsS l)
theorem sum_signs (l : List Nat) : ((l.map fun c => sOf [c]).map (·.length)).sum = l.length := by
  induction l with
  | nil => rfl
  | cons c r ih =>
    rw [List.map_cons, List.map_cons, List.sum_cons, ih, sOf_len, List.length_cons, List.length_cons]
    show 1 + _ = _
    omega
theorem cutN_len (l : List Nat) (lo hi : Option Int) : (cutN l lo hi).length ≤ l.length := by
  unfold cutN
  rw [List.length_take, List.length_drop]
  omega

/-! ### C.m(..), m a static method of the class C -/
structure SMet (K : PySem.W.Frag) (C : Addr) (mc : Value) (m : Str) (p g : Addr) : Prop where
  found : PySem.W.findCls K (.ref C) mc m = some (.get (.builtin "staticmethod.__get__") (.ref p) .none (.ref C))
  held : ∃ rest, PySem.W.recIn K p "staticmethod" = some (.ref g :: rest)
  kept : PySem.W.keepIn K (.ref g) = true
section
variable {X : Cx} {pins : List (Addr × Obj)} {σ : L2.St} {H : Hp} {s : Shared} {C p g : Addr} {mc : Value} {m : Str} {A : Around} {E : Value → Shared → Prop} {pl : Sem Bool}
theorem getstat_ok {Q : Value × List Value → Shared → Prop} (J : L2.Inv X pins σ H s) (r : ClX.CRead X.K C mc) (M : SMet X.K C mc m p g) (h : ∀ s', L2.Inv X pins σ H s' → Q (.ref g, []) s') : wpAny (model X.prog X.w) A (getMethod (.ref C) m pl) Q E s := by
  obtain ⟨rest, hp⟩ := M.held
  exact PySem.W.method_cls J.kIn r.ga (PySem.W.cls_bind J.kIn r.rd M.found (wpAny_call (PySem.W.sm_get (s := { s with toks := s.toks + 1 }) J.kIn hp (PySem.W.handed_on rfl (h _ (J.tok _))))))
end
def tStat (C : Addr) (sp : Sp) (E : XK) (ta : TE) (t : TA) : TE := fun σ H Q => ta σ H fun x H1 => x = .ref C ∧ t σ H1 fun vs H2 => sp vs H2 Q E
section
variable {X : Cx} {CX : CXT} {n : Nat} {C p g : Addr} {mc : Value} {fd : FuncData} {ps : List Str} {sp : Sp} {E : XK} {m : Str} {apos pos : Pos} {o e : Expr} {es : List Expr} {ta : TE} {t : TA}
theorem pe_stat {pl : Sem Bool} (cls : PE X o ta) (r : ClX.CRead X.K C mc) (M : SMet X.K C mc m p g) (F : FnOk X.prog X.w X.K X.mg X.base CX n g fd ps sp) (room : Room n X.A) (hb : L2.Binds X.K fd ps []) (esc : Passes CX X E) (ha : PA X (e :: es) t)
    (hst : starEach (e :: es) X.env = (false, eval e X.env) :: starEach es X.env := by rfl) (hpl : (backTo pos (starEach es X.env)).any (·.1) = false := by rfl)
    (ht : eval (.Call (.Attribute o m apos) (e :: es) [] pos) X.env = (do let y ← eval o X.env; standAt apos.atName; let (g, first) ← holding [y] (getMethod y m pl); callWith pos g first (backTo pos (starEach (e :: es) X.env)) (backToKw pos (keywordEach [] X.env))) := by rfl) :
    PE X (.Call (.Attribute o m apos) (e :: es) [] pos) (tStat C sp E ta t) := by
  refine ⟨fun pins s σ H Q J h => PySem.W.methodCall_KW (pl := pl) (thn (cls.run pins s σ H _ J h) fun u s1 ⟨y, H1, J1, ru, ey, q⟩ => ?_) ht⟩
  subst ey
  cases ru
  refine getstat_ok J1 r M fun s2 J2 => PySem.W.callWith_K (first := []) (h₀ := X.base) J.ok.mod.kin M.kept (thn (ha.run pos pins s2 σ H1 _ J2 q) fun us s3 ⟨ws, H2, J3, rw', q2⟩ => ⟨J3.kIn, ?_⟩) hst hpl
  exact run_fn (us := us) (vs := ws) (dvs := []) (ds := []) F room hb .nil esc J3 rw' (by rw [List.append_nil]; exact q2)
end

/-! ### enumerate(tuple) -/
set_option maxHeartbeats 1000000 in
theorem enum_newT (l : Addr) (items : Array Value) (n : Nat) (dct : Option Addr) (sl : Array (Option Value)) :
    Meets (PySem.Builtin.«enumerate.__new__» ⟨[.type "enumerate", .ref l], []⟩) (fun _ R s => s.heap.get? l = some { cls := .type "tuple", dict := dct, data := .seq items n, slots := sl } ∧
      R (.ok (.ret (.ref (s.heap.push { cls := .type "tuple_iterator", data := .fields #[.ref l, .int 0 0] }).objs.size))) { s with heap := (s.heap.push { cls := .type "tuple_iterator", data := .fields #[.ref l, .int 0 0] }).push { cls := .type "enumerate", data := .fields #[.none, .bool false, .ref s.heap.objs.size, rawInt 0, .none, .none] } }) :=
  .of_wp fun prog w A R s h => by
    obtain ⟨hp, g, dr, tk, os⟩ := s
    obtain ⟨there, post⟩ := h
    have hsub := sub_enumerate
    have hT : Heap.IsTuple (Shared.heap ⟨hp, g, dr, tk, os⟩) l items := ⟨_, there, rfl, n, rfl⟩
    wp_walk using AutoSeq1.wpAny_loadPart' there
    refine wpAny_stack_any fun st => wpAny_pure ?_
    split
    · rename_i c _ _ _ _ _
      cases (c == Value.type "enumerate")
      · wp_walk using AutoSeq1.wpAny_loadPart' there, wpAny_pyIter_tuple hT
        exact ⟨_, rfl, post⟩
      · wp_walk using AutoSeq1.wpAny_loadPart' there, wpAny_pyIter_tuple hT
        exact ⟨_, rfl, post⟩
    · wp_walk using AutoSeq1.wpAny_loadPart' there, wpAny_pyIter_tuple hT
      exact ⟨_, rfl, post⟩
theorem call_enumT {prog : Program} {w : World} {A : Around} {E : Value → Shared → Prop} {s : Shared} {l : Addr} {items : Array Value} {Q : Value → Shared → Prop} (hT : s.heap.IsTuple l items)
    (h : ∀ h', IsEnum h' (s.heap.objs.size + 1) s.heap.objs.size 0 .none → h'.IsTupleIter s.heap.objs.size l 0 → (∀ b o, s.heap.get? b = some o → h'.get? b = some o) → Q (.ref (s.heap.objs.size + 1)) { s with heap := h' }) :
    wpAny (model prog w) A (call (.type "enumerate") [.ref l]) Q E s := by
  obtain ⟨⟨c, dct, dt, sl⟩, there, hc, n, hd⟩ := hT
  cases (show c = .type "tuple" from hc)
  cases (show dt = .seq items n from hd)
  refine callType_new F.called_enumerate (by decide) (F.typeCall_enumerate_1 _) (F.newCall_enumerate_1 _) (fun obj => F.args_object_init_2 obj _) F.entry_enumerate_new (enum_newT l items n dct sl) ⟨there, ?_⟩
  have z1 : (s.heap.push { cls := .type "tuple_iterator", data := .fields #[.ref l, .int 0 0] }).objs.size = s.heap.objs.size + 1 := Heap.size_push ..
  show _ ∧ _
  rw [z1]
  have at2 := Heap.get?_push_size (s.heap.push { cls := .type "tuple_iterator", data := .fields #[.ref l, .int 0 0] }) (o := { cls := .type "enumerate", data := .fields #[.none, .bool false, .ref s.heap.objs.size, rawInt 0, .none, .none] }) rfl
  rw [z1] at at2
  exact ⟨⟨_, at2, rfl⟩, h _ at2 ⟨_, Heap.get?_push_of_some _ (Heap.get?_push_size _ rfl), rfl, rfl⟩ fun b o x => Heap.get?_push_of_some _ (Heap.get?_push_of_some _ x)⟩
/-- the tuple at a as it stands at each turn, each item in a new pair -/
def IteT (K : PySem.W.Frag) (a : Addr) : It :=
  ⟨fun i H => ∃ (xs : List V) (x : V), SqT K H a xs ∧ xs[i]? = some x, fun i H v H' => ∃ T x, v = .ref T ∧ H T = none ∧ H' = L2.upd H T (.tup [.int (i : Nat), x]) ∧ (∀ ys, SqT K H a ys → ys[i]? = some x), fun i H => ∃ xs : List V, SqT K H a xs ∧ xs.length ≤ i⟩
theorem tup_ne {h : Heap} {l it : Addr} {xs : Array Value} {n : Nat} (p : h.IsTuple l xs) (q : h.IsTupleIter it l n) : l ≠ it := fun z => by
  obtain ⟨o, e, c, _⟩ := p
  obtain ⟨o2, e2, c2, _⟩ := q
  rw [z, e2] at e
  cases e
  exact absurd (Value.type.inj (c2.symm.trans c)) (by decide)
theorem tup_ne2 {h : Heap} {l en it : Addr} {xs : Array Value} {i : Int} {old : Value} (p : h.IsTuple l xs) (q : IsEnum h en it i old) : en ≠ l := fun z => by
  obtain ⟨o, e, c, _⟩ := p
  have q' : h.get? en = some _ := q
  rw [z, e] at q'
  cases q'
  exact absurd (Value.type.inj c) (by decide)
theorem turn_enumT {P : Program} {w : World} {K : PySem.W.Frag} {elts : List Expr} {kk : Nat} {tpos : Pos} (a e it : Addr) :
    Turn P w K (.Tuple elts kk tpos) (IteT K a) [e, it] e (fun i h => (∃ old, IsEnum h e it ((i : Nat) : Int) old) ∧ h.IsTupleIter it a i ∧ e ≠ it) where
  mem := by simp
  obj := fun i h ⟨⟨old, he⟩, ⟨o, ho, hc, hd⟩, _⟩ b hb => by
    rcases (show b = e ∨ b = it by simpa using hb) with z | z
    · rw [z]
      exact ⟨_, he, fun v q => nomatch q⟩
    · rw [z]
      exact ⟨o, ho, fun v q => by rw [hd] at q; cases q⟩
  keep := fun i h h' ⟨⟨old, he⟩, hi, ne⟩ k => ⟨⟨old, k e (by simp) _ he⟩, hi.at fun o q => k it (by simp) o q, ne⟩
  item := by
    intro X hP hw hK calm i pins s σ H E I hf ⟨⟨old, he⟩, hit, ne⟩ ⟨xs, x, hq, hx⟩
    subst hP hw hK
    obtain ⟨its, rv, p, hz⟩ := I.tuple hq
    have pt : s.heap.IsTuple a its.toArray := p
    obtain ⟨u, hu, ru⟩ := rv.get hx
    have hlt : i < its.toArray.size := by
      have := List.getElem?_eq_some_iff.mp hu
      obtain ⟨h1, _⟩ := this
      simpa using h1
    have el := Heap.lt_size he
    have il : it < s.heap.objs.size := by obtain ⟨_, q, _⟩ := hit; exact Heap.lt_size q
    have D := PySem.Draws.tuple (prog := X.prog) (w := X.w) (A := X.A.in1) (I.ok.hd calm) it a (tup_ne pt hit) its.toArray
    refine wpAny_pyNext_enum_itemD D he ⟨hit, pt⟩ hlt ne (by simp [ne, tup_ne2 pt he]) fun v h' tk hv ho ⟨hit', pt'⟩ hT hsz hk => ?_
    obtain rfl : u = v := by
      rw [List.getElem?_toArray, hu] at hv
      exact Option.some.inj hv
    refine ⟨_, rfl, wpAny_letOwnedTupleGo_enum (s := { s with heap := h', toks := tk + 1 }) ho fun h2 he2 sb => ?_⟩
    have hT2 : h2.get? s.heap.objs.size = some { cls := .type "tuple", data := .seq #[.int i tk, u] } := (sb.2 _ (Nat.ne_of_gt el)).trans hT
    have new : ObjOk X.prog X.w (L2.upd H s.heap.objs.size (.tup [.int (i : Nat), x])) h2 s.heap.objs.size (.tup [.int (i : Nat), x]) :=
      ⟨by show 2 ≤ sizeLine; decide, [.int i tk, u], .cons ⟨_, rfl⟩ (.cons ru .nil), ⟨_, hT2, rfl, _, rfl⟩⟩
    have I1 : L2.Inv X pins σ (L2.upd H s.heap.objs.size (.tup [.int (i : Nat), x])) { s with heap := h2, toks := tk + 1 } :=
      I.turnedNew (ch := [e, it]) (fun b ob hb q => (sb.2 b (fun z => hb (by simp [z]))).trans (hk b ob (fun z => hb (by simp [z])) (fun z => hb (by simp [z])) q)) hf (Nat.le_refl _) new
    refine ⟨.ref s.heap.objs.size, _, I1, rfl, ⟨_, x, rfl, I.hok.fresh (Nat.le_refl _), rfl, fun ys hy => by rw [I.tuple_inj hy hq]; exact hx⟩, ⟨⟨u, ?_⟩, hit'.at fun o q => (sb.2 it (Ne.symm ne)).trans q, ne⟩, fun b hb => ?_⟩
    · rw [show ((i + 1 : Nat) : Int) = (i : Int) + 1 by omega]
      exact he2
    · have lt : b < s.heap.objs.size := by
        rcases (show b = e ∨ b = it by simpa using hb) with z | z
        · exact z ▸ el
        · exact z ▸ il
      exact (upd_ne (Nat.ne_of_lt lt)).trans (hf b hb).1
  done := by
    intro X hP hw hK calm i pins s σ H E I hf ⟨⟨old, he⟩, hit, ne⟩ ⟨xs, hq, hx⟩
    subst hP hw hK
    obtain ⟨its, rv, p, hz⟩ := I.tuple hq
    have pt : s.heap.IsTuple a its.toArray := p
    obtain ⟨f0, f1, f2, f3, f4, f5⟩ := hf it (by simp)
    have many := rv.length
    have eT : s.TypeIs (.ref e) "enumerate" := ⟨_, he, rfl⟩
    unfold pyNext
    refine wpAny_bind (wpAny_attempt (wpAny_callSpecial?_slot (name := Str.ofString "__next__") eT F.slot_enumerate_next (wpAny_call_entry F.slot_enumerate_next eT F.entry_enumerate_next ?_ (F.args_enumerate_next_1 _))))
    show wpAny _ _ (field (.ref e) 2 >>= _) _ _ _
    refine wpAny_bind (wpAny_field he rfl (x := .ref it) rfl (wpAny_bind (PySem.wpAny_nextOf_tuple_end (I.ok.hd calm) hit pt (by simp; omega) fun h' er eb ⟨o, ho, hc⟩ => ?_)))
    exact wpAny_bind (wpAny_isInstance (T := "StopIteration") (b := true) ⟨o, ho, hc⟩ isSubtype_stop (wpAny_pure ⟨rfl, I.turned (t' := s.toks) (fun b o hb q => eb b o hb q) f0 f1 f3 f4 f5⟩))
  self := fun A i s Q E ⟨⟨_, he⟩, _⟩ h => wpAny_pyIter_enum he h
/-- enumerate(e), e a list or a tuple -/
def iEnumQ (K : PySem.W.Frag) (ta : TA) : TI := fun σ H R => ta σ H fun vs H1 => ∃ a xs, vs = [.ref a] ∧ ((SqL K H1 a xs ∧ R (Ite K a) H1) ∨ (SqT K H1 a xs ∧ R (IteT K a) H1))
theorem pi_enumQ {X : Cx} {K : PySem.W.Frag} {e : Expr} {ta : TA} {p pos tpos : Pos} {elts : List Expr} {kk : Nat} (hK : X.K = K) (hg : Gl X "enumerate") (hm : X.mg "enumerate" = none) (ha : PA X [e] ta) (hs : starEach [e] X.env = [(false, eval e X.env)] := by rfl) :
    PI X (.Tuple elts kk tpos) (.Call (.Name "enumerate" p) [e] [] pos) (iEnumQ K ta) := by
  subst hK
  refine ⟨fun pins s σ H R I h => Call_ (ld_blt I hg hm boot_enumerate (PyProof.Rows.callWith_type1 (thn (ha.run pos pins s σ H _ I h) fun us s1 ⟨vs, H1, I1, r1, a, xs, ex, q⟩ => ?_) hs rfl))⟩
  subst ex
  obtain ⟨u, rfl, ru⟩ := r1.one
  cases ru
  have foot : ∀ b, b ∈ [s1.heap.objs.size + 1, s1.heap.objs.size] → FpOk X pins H1 b := fun b hb => by
    have le : s1.heap.objs.size ≤ b := by
      rcases (show b = s1.heap.objs.size + 1 ∨ b = s1.heap.objs.size by simpa using hb) with z | z
      · exact z ▸ Nat.le_succ _
      · exact z ▸ Nat.le_refl _
    exact I1.fpOk le (I1.hok.fresh le)
  rcases q with ⟨hq, q⟩ | ⟨hq, q⟩
  · obtain ⟨its, rv, p', hz⟩ := I1.list hq
    exact call_enumerate_list p'.isList fun h' he hit hsz hk => wpAny_pyIter_enum he ⟨_, _, _, _, H1, rfl, I1.kept (t' := s1.toks) hk, turn_enum a (s1.heap.objs.size + 1) s1.heap.objs.size, ⟨⟨.none, he⟩, hit, Nat.succ_ne_self _⟩, foot, q⟩
  · obtain ⟨its, rv, p', hz⟩ := I1.tuple hq
    exact call_enumT (show s1.heap.IsTuple a its.toArray from p') fun h' he hit hk => wpAny_pyIter_enum he ⟨_, _, _, _, H1, rfl, I1.kept (t' := s1.toks) hk, turn_enumT a (s1.heap.objs.size + 1) s1.heap.objs.size, ⟨⟨.none, he⟩, hit, Nat.succ_ne_self _⟩, foot, q⟩
theorem walk_enumT {K : PySem.W.Frag} {a : Addr} {xs : List V} : Walk (IteT K a) xs.length (fun H => SqT K H a xs) (YPair (fun i => some (.int (i : Nat))) (fun i => xs[i]?)) := by
  refine ⟨fun i _ hi q => ⟨xs, xs[i], q, by simp [hi]⟩, fun _ q => ⟨xs, q, Nat.le_refl _⟩, fun i H v H' _ q y => ?_⟩
  obtain ⟨T, x, e1, e2, e3, e4⟩ := y
  exact ⟨T, .int (i : Nat), x, e1, e2, e3, rfl, e4 xs q⟩
/-- for x in e, e a list or a tuple -/
def iSeqQ (K : PySem.W.Frag) (te : TE) : TI := fun σ H R => te σ H fun v H1 => ∃ a xs, v = .ref a ∧ ((SqL K H1 a xs ∧ R (Itl K a) H1) ∨ (SqT K H1 a xs ∧ R (Itt K a) H1))
theorem pi_seqQ {X : Cx} {K : PySem.W.Frag} {tg e : Expr} {te : TE} (hK : X.K = K) (he : PE X e te) : PI X tg e (iSeqQ K te) := by
  subst hK
  refine ⟨fun pins s σ H R I h => thn (he.run pins s σ H _ I h) fun u s1 ⟨y, H1, I1, ru, a, xs, ey, q⟩ => ?_⟩
  subst ey
  cases ru
  have foot : ∀ b, b ∈ [s1.heap.objs.size] → FpOk X pins H1 b := fun b hb => by
    have z : b = s1.heap.objs.size := by simpa using hb
    rw [z]
    exact I1.fpOk (Nat.le_refl _) (I1.hok.fresh (Nat.le_refl _))
  rcases q with ⟨hq, q⟩ | ⟨hq, q⟩
  · obtain ⟨its, rv, p, hz⟩ := I1.list hq
    exact wpAny_pyIter_list p.isList ⟨_, _, _, _, H1, rfl, I1.kept (t' := s1.toks) fun b o k => Heap.get?_push_of_some _ k, turn_list a _, ⟨_, Heap.get?_push_size _ rfl, rfl, rfl⟩, foot, q⟩
  · obtain ⟨its, rv, p, hz⟩ := I1.tuple hq
    exact wpAny_pyIter_tuple (show s1.heap.IsTuple a its.toArray from p) ⟨_, _, _, _, H1, rfl, I1.kept (t' := s1.toks) fun b o k => Heap.get?_push_of_some _ k, turn_tuple a _, ⟨_, Heap.get?_push_size _ rfl, rfl, rfl⟩, foot, q⟩

/-! ### the making of exceptions with one, two fields -/
section
variable {K : PySem.W.Frag}
/-- the making of an exception with one field -/
def spE1 (K : PySem.W.Frag) (f : Str) : Sp := fun vs H Q _ => ∃ (a C : Addr) (v : V), vs = [.ref a, v] ∧ OexC K C ∧ PySem.W.findIn K (.ref C) f = some none ∧ H a = some (exo a C none) ∧
  ∀ dx, H dx = none → dx ≠ a → Q .non (upd (upd H dx (exd dx [(f, v)])) a (exo a C (some dx)))
/-- what raise C(v) asks, by its wish -/
theorem made1 {C : Addr} {f : Str} {v : V} {H : Hp} {Q : XK} (T : OexC K C) (hn : PySem.W.findIn K (.ref C) f = some none) (q : ∀ d H', Same H H' → H d = none → H' d = some (.xd [(f, v)]) → Q (.ref C) (some d) H') :
    [v].length ≤ 1000 ∧ ∀ a, H a = none → spE1 K f (.ref a :: ([v] ++ [])) (upd H a (exo a C none)) (fun v H2 => v = .non ∧ ∃ (d : Addr) (fs : List (Str × V)), H2 a = some (exo a C (some d)) ∧ H2 d = some (exd d fs) ∧ H d = none ∧ Q (.ref C) (some d) (upd (del H2 a) d (.xd fs))) (fun _ _ _ => False) := by
  refine ⟨(by show 1 ≤ 1000; decide), fun a na => ⟨a, C, v, rfl, T, hn, upd_same, fun dx n ne => ⟨rfl, dx, [(f, v)], upd_same, ?_, ?_, ?_⟩⟩⟩
  · rw [upd_ne ne, upd_same]
  · rw [upd_ne ne] at n
    exact n
  · rw [upd_ne ne] at n
    refine q dx _ (upd_del_same na n fun b o hb e => ?_) n upd_same
    rw [upd_ne hb, upd_ne (ne_of_none e n), upd_ne hb]
    exact e
/-- the making of an exception with two fields, f stored ahead of g -/
def spE2 (K : PySem.W.Frag) (f g : Str) : Sp := fun vs H Q _ => ∃ (a C : Addr) (v u : V), vs = [.ref a, v, u] ∧ OexC K C ∧ PySem.W.findIn K (.ref C) f = some none ∧ PySem.W.findIn K (.ref C) g = some none ∧ H a = some (exo a C none) ∧
  ∀ dx, H dx = none → dx ≠ a → Q .non (upd (upd (upd H dx (exd dx [(f, v)])) a (exo a C (some dx))) dx (exd dx [(g, u), (f, v)]))
theorem made2 {C : Addr} {f g : Str} {v u : V} {H : Hp} {Q : XK} (T : OexC K C) (hf : PySem.W.findIn K (.ref C) f = some none) (hg : PySem.W.findIn K (.ref C) g = some none) (q : ∀ d H', Same H H' → H d = none → H' d = some (.xd [(g, u), (f, v)]) → Q (.ref C) (some d) H') :
    [v, u].length ≤ 1000 ∧ ∀ a, H a = none → spE2 K f g (.ref a :: ([v, u] ++ [])) (upd H a (exo a C none)) (fun v H2 => v = .non ∧ ∃ (d : Addr) (fs : List (Str × V)), H2 a = some (exo a C (some d)) ∧ H2 d = some (exd d fs) ∧ H d = none ∧ Q (.ref C) (some d) (upd (del H2 a) d (.xd fs))) (fun _ _ _ => False) := by
  refine ⟨(by show 2 ≤ 1000; decide), fun a na => ⟨a, C, v, u, rfl, T, hf, hg, upd_same, fun dx n ne => ?_⟩⟩
  have n' : H dx = none := by
    rw [upd_ne ne] at n
    exact n
  refine ⟨rfl, dx, [(g, u), (f, v)], ?_, upd_same, n', q dx _ (upd_del_same na n' fun b o hb e => ?_) n' upd_same⟩
  · rw [upd_ne (Ne.symm ne), upd_same]
  · rw [upd_ne (ne_of_none e n'), upd_ne hb, upd_ne (ne_of_none e n'), upd_ne hb]
    exact e
end

/-! ### lists of new tuples, as data -/
theorem sqt_mono {K : PySem.W.Frag} {H H' : Hp} {a : Addr} {xs : List V} (e : Same H H') (h : SqT K H a xs) : SqT K H' a xs := by
  rcases h with (h | ⟨o, h⟩) | h
  · exact .inl (.inl (e _ _ h))
  · exact .inl (.inr ⟨o, e _ _ h⟩)
  · exact .inr h
mutual
theorem dp_mono {K : PySem.W.Frag} {H H' : Hp} (s : Same H H') : ∀ (d : PyData) (v : V), Dp K H v d → Dp K H' v d
  | .none, _, h => by cases h; exact .non
  | .bool b, _, h => by cases h; exact .bl b
  | .int i, _, h => by cases h; exact .int i
  | .str x, _, h => by cases h; exact .str x
  | .list ds, _, h => by
    cases h with
    | lst hs ha => exact .lst (s.seq hs) (dpa_mono s ds _ ha)
  | .tuple ds, _, h => by
    cases h with
    | tup hs ha => exact .tup (sqt_mono s hs) (dpa_mono s ds _ ha)
  | .dict _, _, h => by cases h
theorem dpa_mono {K : PySem.W.Frag} {H H' : Hp} (s : Same H H') : ∀ (ds : List PyData) (vs : List V), DpAll K H vs ds → DpAll K H' vs ds
  | [], _, h => by cases h; exact .nil
  | d :: ds, _, h => by
    cases h with
    | cons h1 h2 => exact .cons (dp_mono s d _ h1) (dpa_mono s ds _ h2)
end
theorem dpa_snoc {K : PySem.W.Frag} {H : Hp} {v : V} {d : PyData} : ∀ {ds : List PyData} {vs : List V}, DpAll K H vs ds → Dp K H v d → DpAll K H (vs ++ [v]) (ds ++ [d])
  | [], _, h, k => by cases h; exact .cons k .nil
  | e :: ds, _, h, k => by
    cases h with
    | cons h1 h2 => exact .cons h1 (dpa_snoc h2 k)
/-- the list at D (new since H) holds xs, data ds that stand without it -/
structure Gh (K : PySem.W.Frag) (H : Hp) (D : Addr) (H' : Hp) (xs : List V) (ds : List PyData) : Prop where
  ex : ∃ G : Hp, Same H G ∧ G D = none ∧ Same G H' ∧ DpAll K G xs ds
  here : H' D = some (.lst xs)
theorem Gh.start {K : PySem.W.Frag} {H : Hp} {D : Addr} (n : H D = none) : Gh K H D (upd H D (.lst [])) [] [] := ⟨⟨H, Same.refl H, n, same_new (Same.refl H) n, .nil⟩, upd_same⟩
theorem Gh.same {K : PySem.W.Frag} {H H' : Hp} {D : Addr} {xs : List V} {ds : List PyData} (g : Gh K H D H' xs ds) : Same H H' := let ⟨_, a, _, b, _⟩ := g.ex; a.trans b
theorem Gh.data {K : PySem.W.Frag} {H H' : Hp} {D : Addr} {xs : List V} {ds : List PyData} (g : Gh K H D H' xs ds) : Dp K H' (.ref D) (.list ds) := let ⟨_, _, _, b, c⟩ := g.ex; .lst (SqL.of g.here) (dpa_mono b _ _ c)
theorem Gh.grow {K : PySem.W.Frag} {H H' H2 : Hp} {D : Addr} {xs : List V} {ds : List PyData} (g : Gh K H D H' xs ds) (s : Same H' H2) : Gh K H D H2 xs ds := let ⟨G, a, n, b, c⟩ := g.ex; ⟨⟨G, a, n, b.trans s, c⟩, s _ _ g.here⟩
theorem Gh.add {K : PySem.W.Frag} {H H' : Hp} {D : Addr} {xs : List V} {ds : List PyData} {v : V} {d : PyData} (g : Gh K H D H' xs ds) (k : ∀ G : Hp, Dp K G v d) : Gh K H D (upd H' D (.lst (xs ++ [v]))) (xs ++ [v]) (ds ++ [d]) := by
  obtain ⟨G, a, n, b, c⟩ := g.ex
  refine ⟨⟨G, a, n, fun z o e => ?_, dpa_snoc c (k G)⟩, upd_same⟩
  rw [upd_ne (ne_of_none e n)]
  exact b z o e
theorem Gh.pair {K : PySem.W.Frag} {H H' : Hp} {D T : Addr} {xs vs : List V} {ds es : List PyData} (g : Gh K H D H' xs ds) (nT : H' T = none) (k : ∀ G : Hp, DpAll K G vs es) :
    Gh K H D (upd (upd H' T (.tup vs)) D (.lst (xs ++ [.ref T]))) (xs ++ [.ref T]) (ds ++ [.tuple es]) := by
  obtain ⟨G, a, n, b, c⟩ := g.ex
  have gT : G T = none := b.free nT
  have ne : T ≠ D := fun z => by rw [z, g.here] at nT; cases nT
  have s1 : Same G (upd G T (.tup vs)) := same_new (Same.refl G) gT
  refine ⟨⟨upd G T (.tup vs), a.trans s1, (upd_ne (Ne.symm ne)).trans n, fun z o e => ?_, dpa_snoc (dpa_mono s1 _ _ c) (.tup (SqT.of upd_same) (k _))⟩, upd_same⟩
  by_cases hz : z = T
  · subst hz
    rw [upd_same] at e
    rw [upd_ne ne, upd_same]
    exact e
  · rw [upd_ne hz] at e
    rw [upd_ne (ne_of_none e n), upd_ne hz]
    exact b z o e

/-! ### data of lists, item by item -/
theorem dpa_len {K : PySem.W.Frag} {H : Hp} : ∀ {ds : List PyData} {vs : List V}, DpAll K H vs ds → vs.length = ds.length
  | [], _, h => by cases h; rfl
  | d :: ds, _, h => by
    cases h with
    | cons h1 h2 => rw [List.length_cons, List.length_cons, dpa_len h2]
theorem dpa_at {K : PySem.W.Frag} {H : Hp} : ∀ {ds : List PyData} {vs : List V} {i : Nat} {v : V}, DpAll K H vs ds → vs[i]? = some v → ∃ d, ds[i]? = some d ∧ Dp K H v d
  | [], _, _, _, h, e => by cases h; simp at e
  | d :: ds, _, i, v, h, e => by
    cases h with
    | cons h1 h2 =>
      cases i with
      | zero => exact ⟨d, rfl, by simp at e; rw [← e]; exact h1⟩
      | succ i =>
        obtain ⟨d2, e2, k⟩ := dpa_at h2 (i := i) (by simpa using e)
        exact ⟨d2, by simpa using e2, k⟩
theorem dpa_get {K : PySem.W.Frag} {H : Hp} : ∀ {ds : List PyData} {vs : List V} {i : Nat} {d : PyData}, DpAll K H vs ds → ds[i]? = some d → ∃ v, vs[i]? = some v ∧ Dp K H v d
  | [], _, _, _, h, e => by simp at e
  | d :: ds, _, i, v, h, e => by
    cases h with
    | cons h1 h2 =>
      cases i with
      | zero => exact ⟨_, rfl, by simp at e; rw [← e]; exact h1⟩
      | succ i =>
        obtain ⟨v, e2, k⟩ := dpa_get h2 (i := i) (by simpa using e)
        exact ⟨v, by simpa using e2, k⟩
theorem dp_tup {K : PySem.W.Frag} {H : Hp} {v : V} {ds : List PyData} (h : Dp K H v (.tuple ds)) : ∃ T vs, v = .ref T ∧ SqT K H T vs ∧ DpAll K H vs ds := by
  cases h with
  | tup hs ha => exact ⟨_, _, rfl, hs, ha⟩
theorem dp_lst {K : PySem.W.Frag} {H : Hp} {v : V} {ds : List PyData} (h : Dp K H v (.list ds)) : ∃ T vs, v = .ref T ∧ SqL K H T vs ∧ DpAll K H vs ds := by
  cases h with
  | lst hs ha => exact ⟨_, _, rfl, hs, ha⟩
theorem dp_int {K : PySem.W.Frag} {H : Hp} {v : V} {i : Int} (h : Dp K H v (.int i)) : v = .int i := by cases h; rfl
theorem dp_str {K : PySem.W.Frag} {H : Hp} {v : V} {x : Str} (h : Dp K H v (.str x)) : v = .str x := by cases h; rfl
theorem dpa_ints {K : PySem.W.Frag} {H : Hp} : ∀ (zs : List Int), DpAll K H (vI zs) (zs.map .int)
  | [] => .nil
  | z :: zs => .cons (.int z) (dpa_ints zs)
/-! ### a pair as the target of a comprehension -/
theorem pg_tupK {X : Cx} {K : PySem.W.Frag} {pos : Pos} {es : List Expr} {k : Nat} {t : TGs} {n : Nat} (hK : X.K = K) (hc : X.calm = true) (h : PGs X es t) (h1 : (assignEach es X.env).length = n := by rfl)
    (h2 : List.findIdx? (fun x => x.fst) (assignEach es X.env) = none := by rfl) : PG X (Expr.Tuple es k pos) (gTup K n t) := hK ▸ pg_tup hc h h1 h2
theorem Gh.all {K : PySem.W.Frag} {H H' : Hp} {D : Addr} {xs : List V} {ds : List PyData} (g : Gh K H D H' xs ds) : DpAll K H' xs ds := let ⟨_, _, _, b, c⟩ := g.ex; dpa_mono b _ _ c
/-- a new tuple whose data are known -/
theorem Gh.tup {K : PySem.W.Frag} {H H' : Hp} {D p : Addr} {xs : List V} {ds : List PyData} (g : Gh K H D H' xs ds) (n : H' p = none) : DpAll K (upd H' p (.tup xs)) xs ds := let ⟨_, _, _, b, c⟩ := g.ex; dpa_mono (b.trans (same_new (Same.refl _) n)) _ _ c
/-- a static method as it stands in its class -/
theorem smet_of {K : PySem.W.Frag} {C p g : Addr} {m : Str} {r : List Value} (h0 : PySem.W.findIn K (.type "type") m = some none) (h1 : PySem.W.findIn K (.ref C) m = some (some (.ref p))) (h2 : PySem.W.typeIn K (.ref p) = some (.type "staticmethod"))
    (h3 : PySem.W.specialIn K (.ref p) "__get__" = some (some (.builtin "staticmethod.__get__"))) (h4 : PySem.W.recIn K p "staticmethod" = some (.ref g :: r)) (h5 : PySem.W.keepIn K (.ref g) = true) : SMet K C (.type "type") m p g := by
  refine ⟨?_, ⟨r, h4⟩, h5⟩
  unfold PySem.W.findCls
  rw [h0]
  simp only [Option.bind_some]
  rw [h1]
  simp only [Option.bind_some]
  rw [if_neg (by intro h; cases h), h2]
  simp only [Option.bind_some]
  rw [if_neg (by decide +kernel), h3]
  rfl
/-- the call of a static method whose exceptions meet a wish that looks at the slots -/
def tStatS (C : Addr) (sp : Sp) (E : L2.St → XK) (ta : TE) (t : TA) : TE := fun σ H Q => ta σ H fun x H1 => x = .ref C ∧ t σ H1 fun vs H2 => sp vs H2 Q (E σ)
section
variable {X : Cx} {CX : CXT} {n : Nat} {C p g : Addr} {mc : Value} {fd : FuncData} {ps : List Str} {sp : Sp} {E : L2.St → XK} {m : Str} {apos pos : Pos} {o e : Expr} {es : List Expr} {ta : TE} {t : TA}
theorem pe_statS {pl : Sem Bool} (cls : PE X o ta) (r : ClX.CRead X.K C mc) (M : SMet X.K C mc m p g) (F : FnOk X.prog X.w X.K X.mg X.base CX n g fd ps sp) (room : Room n X.A) (hb : L2.Binds X.K fd ps []) (esc : ∀ σ, PassesAt CX X σ (E σ)) (ha : PA X (e :: es) t)
    (hst : starEach (e :: es) X.env = (false, eval e X.env) :: starEach es X.env := by rfl) (hpl : (backTo pos (starEach es X.env)).any (·.1) = false := by rfl)
    (ht : eval (.Call (.Attribute o m apos) (e :: es) [] pos) X.env = (do let y ← eval o X.env; standAt apos.atName; let (g, first) ← holding [y] (getMethod y m pl); callWith pos g first (backTo pos (starEach (e :: es) X.env)) (backToKw pos (keywordEach [] X.env))) := by rfl) :
    PE X (.Call (.Attribute o m apos) (e :: es) [] pos) (tStatS C sp E ta t) := by
  refine ⟨fun pins s σ H Q J h => PySem.W.methodCall_KW (pl := pl) (thn (cls.run pins s σ H _ J h) fun u s1 ⟨y, H1, J1, ru, ey, q⟩ => ?_) ht⟩
  subst ey
  cases ru
  refine getstat_ok J1 r M fun s2 J2 => PySem.W.callWith_K (first := []) (h₀ := X.base) J.ok.mod.kin M.kept (thn (ha.run pos pins s2 σ H1 _ J2 q) fun us s3 ⟨ws, H2, J3, rw', q2⟩ => ⟨J3.kIn, ?_⟩) hst hpl
  exact run_fnS (us := us) (vs := ws) F room hb (esc σ) J3 rw' q2
end

/-! ### data that may be compared: no dict, low codes, not deep -/
def okD : Nat → PyData → Bool
  | _, .none => true
  | _, .bool _ => true
  | _, .int _ => true
  | _, .str s => PyData.strOk s
  | n + 1, .list ds => ds.all (okD n)
  | n + 1, .tuple ds => ds.all (okD n)
  | _, _ => false
theorem okA_all {n : Nat} : ∀ ds : List PyData, (∀ d ∈ ds, d.canLay0 = true ∧ d.depth ≤ n ∧ d.eqv d = true) → PyData.canLayAll0 ds = true ∧ PyData.depthAll ds ≤ n ∧ PyData.eqvAll ds ds = true
  | [], _ => ⟨rfl, Nat.zero_le _, rfl⟩
  | d :: ds, h => by
    obtain ⟨a, b, c⟩ := okA_all ds fun e he => h e (List.mem_cons_of_mem _ he)
    obtain ⟨a1, b1, c1⟩ := h d List.mem_cons_self
    refine ⟨?_, ?_, ?_⟩
    · rw [PyData.canLayAll0, a1, a]; rfl
    · rw [PyData.depthAll]; omega
    · rw [PyData.eqvAll, c1, c]; rfl
theorem okD_all : ∀ (n : Nat) (d : PyData), okD n d = true → d.canLay0 = true ∧ d.depth ≤ n ∧ d.eqv d = true := by
  intro n
  induction n with
  | zero =>
    intro d h
    cases d with
    | none => exact ⟨rfl, Nat.le_refl _, rfl⟩
    | bool b => exact ⟨rfl, Nat.le_refl _, by rw [PyData.eqv]; simp⟩
    | int i => exact ⟨rfl, Nat.le_refl _, by rw [PyData.eqv]; simp⟩
    | str s => exact ⟨by rw [PyData.canLay0]; exact h, Nat.le_refl _, by rw [PyData.eqv]; simp⟩
    | list ds => exact absurd h (by simp [okD])
    | tuple ds => exact absurd h (by simp [okD])
    | dict ds => exact absurd h (by simp [okD])
  | succ n ih =>
    intro d h
    cases d with
    | none => exact ⟨rfl, Nat.zero_le _, rfl⟩
    | bool b => exact ⟨rfl, Nat.zero_le _, by rw [PyData.eqv]; simp⟩
    | int i => exact ⟨rfl, Nat.zero_le _, by rw [PyData.eqv]; simp⟩
    | str s => exact ⟨by rw [PyData.canLay0]; exact h, Nat.zero_le _, by rw [PyData.eqv]; simp⟩
    | list ds =>
      obtain ⟨a, b, c⟩ := okA_all (n := n) ds fun d hd => ih d (List.all_eq_true.mp h d hd)
      exact ⟨by rw [PyData.canLay0]; exact a, by rw [PyData.depth]; omega, by rw [PyData.eqv]; exact c⟩
    | tuple ds =>
      obtain ⟨a, b, c⟩ := okA_all (n := n) ds fun d hd => ih d (List.all_eq_true.mp h d hd)
      exact ⟨by rw [PyData.canLay0]; exact a, by rw [PyData.depth]; omega, by rw [PyData.eqv]; exact c⟩
    | dict ds => exact absurd h (by simp [okD])
theorem ok_shaped {d : PyData} (h : okD 4 d = true) : SeqAt.shaped d = true := by
  obtain ⟨a, b, _⟩ := okD_all 4 d h
  unfold SeqAt.shaped
  rw [a, decide_eq_true (by omega)]
  rfl
theorem ok_eqv {d : PyData} (h : okD 4 d = true) : d.eqv d = true := (okD_all 4 d h).2.2
/-- the same data: nothing is unlike -/
theorem neD_same {K : PySem.W.Frag} {H : Hp} {x y : V} {Q : VK} {d : PyData} (a : Dp K H x d) (b : Dp K H y d) (h : okD 4 d = true) (q : Q (.bl false) H) : rNeD K x y H Q :=
  ⟨d, d, a, b, ok_shaped h, ok_shaped h, by rw [ok_eqv h]; exact q⟩
theorem eqD_same {K : PySem.W.Frag} {H : Hp} {x y : V} {Q : VK} {d : PyData} (a : Dp K H x d) (b : Dp K H y d) (h : okD 4 d = true) (q : Q (.bl true) H) : rEqD K x y H Q :=
  ⟨d, d, a, b, ok_shaped h, ok_shaped h, by rw [ok_eqv h]; exact q⟩
theorem ok_map {α : Type} {n : Nat} {f : α → PyData} (h : ∀ z, okD n (f z) = true) (zs : List α) : okD (n + 1) (.list (zs.map f)) = true ∧ okD (n + 1) (.tuple (zs.map f)) = true := by
  have : (zs.map f).all (okD n) = true := by
    rw [List.all_map, List.all_eq_true]
    exact fun z _ => h z
  exact ⟨this, this⟩
theorem ok_mem {α : Type} {n : Nat} {f : α → PyData} (zs : List α) (h : ∀ z ∈ zs, okD n (f z) = true) : okD (n + 1) (.list (zs.map f)) = true ∧ okD (n + 1) (.tuple (zs.map f)) = true := by
  have : (zs.map f).all (okD n) = true := by
    rw [List.all_map, List.all_eq_true]
    exact fun z hz => h z hz
  exact ⟨this, this⟩
theorem ok_ints (zs : List Int) : okD 4 (.list (zs.map .int)) = true ∧ okD 4 (.tuple (zs.map .int)) = true := ok_map (fun _ => rfl) zs

/-! ### all words of a size, as a list -/
/-- all ways of m steps from height h to height 0 -/
def ways : Nat → Nat → List (List Nat)
  | 0, 0 => [[]]
  | 0, _ + 1 => []
  | m + 1, h => (if h + 1 ≤ m then (ways m (h + 1)).map (List.cons 100) else []) ++ (match h with
    | 0 => []
    | k + 1 => (ways m k).map (List.cons 111))
theorem ways_len : ∀ {m h : Nat}, m < h → ways m h = []
  | 0, 0, e => absurd e (by omega)
  | 0, h + 1, _ => rfl
  | m + 1, h, e => by
    unfold ways
    rw [if_neg (by omega)]
    cases h with
    | zero => omega
    | succ k => simp [ways_len (m := m) (h := k) (by omega)]
theorem in_ways : ∀ (l : List Nat) (h : Nat), (∀ c ∈ l, c = 100 ∨ c = 111) → (∀ k, k ≤ l.length → (l.take k).count 111 ≤ h + (l.take k).count 100) → h + l.count 100 = l.count 111 → l ∈ ways l.length h
  | [], h, _, _, e => by
    have : h = 0 := by simpa using e
    subst this
    exact List.mem_singleton.mpr rfl
  | x :: r, h, al, ah, e => by
    have ar : ∀ c ∈ r, c = 100 ∨ c = 111 := fun c hc => al c (List.mem_cons_of_mem _ hc)
    have tot : r.count 100 + r.count 111 = r.length := by
      clear e ah al
      induction r with
      | nil => rfl
      | cons y s ih =>
        have := ih fun c hc => ar c (List.mem_cons_of_mem _ hc)
        rw [List.count_cons, List.count_cons, List.length_cons]
        rcases ar y List.mem_cons_self with z | z <;> subst z <;> simp <;> omega
    rw [List.length_cons]
    unfold ways
    rw [List.count_cons, List.count_cons] at e
    rcases al x List.mem_cons_self with z | z
    · subst z
      simp at e
      refine List.mem_append.mpr (.inl ?_)
      rw [if_pos (by omega)]
      refine List.mem_map.mpr ⟨r, in_ways r (h + 1) ar (fun k hk => ?_) (by omega), rfl⟩
      have a := ah (k + 1) (by rw [List.length_cons]; omega)
      rw [List.take_succ_cons, List.count_cons, List.count_cons] at a
      simp at a
      omega
    · subst z
      simp at e
      have a1 := ah 1 (by rw [List.length_cons]; omega)
      simp at a1
      obtain ⟨k, rfl⟩ : ∃ k, h = k + 1 := ⟨h - 1, by omega⟩
      refine List.mem_append.mpr (.inr ?_)
      refine List.mem_map.mpr ⟨r, in_ways r k ar (fun j hj => ?_) (by omega), rfl⟩
      have a := ah (j + 1) (by rw [List.length_cons]; omega)
      rw [List.take_succ_cons, List.count_cons, List.count_cons] at a
      simp at a
      omega
/-- all words of the sizes 1 to 6 -/
def allWords : List (List Nat) := ways 2 0 ++ (ways 4 0 ++ (ways 6 0 ++ (ways 8 0 ++ (ways 10 0 ++ ways 12 0))))
theorem Good.all {l : List Nat} {n : Nat} (g : Good l n) (h1 : 1 ≤ n) (h6 : n ≤ 6) : l ∈ allWords := by
  have m : l ∈ ways l.length 0 := in_ways l 0 g.ltr (fun k hk => by have := g.ahead k hk; omega) (by have := ltr_count g.ltr; have := g.len; have := g.cnt; omega)
  rw [g.len] at m
  unfold allWords
  have : n = 1 ∨ n = 2 ∨ n = 3 ∨ n = 4 ∨ n = 5 ∨ n = 6 := by omega
  rcases this with e | e | e | e | e | e <;> subst e <;> simp only [List.mem_append] <;> simp [m]
/-- what a kernel run says of all words -/
theorem Good.by {l : List Nat} {n : Nat} (g : Good l n) (h1 : 1 ≤ n) (h6 : n ≤ 6) (f : List Nat → Bool) (e : allWords.all f = true) : f l = true := List.all_eq_true.mp e l (g.all h1 h6)
/-! ### runs, as the loop of the program finds them, and as the law does -/
def rsStep (l : List Nat) (z : List (List Nat × Nat × Nat) × Nat) (b : Nat) : List (List Nat × Nat × Nat) × Nat :=
  if b = l.length ∨ l[b]? ≠ l[z.2]? then (z.1 ++ [((l[z.2]?).toList, z.2, b - z.2)], b) else z
def rsI (l : List Nat) : Nat → List (List Nat × Nat × Nat) × Nat
  | 0 => ([], 0)
  | i + 1 => rsStep l (rsI l i) (i + 1)
theorem rsI_at (l : List Nat) (i : Nat) : (rsI l i).2 ≤ i := by
  induction i with
  | zero => exact Nat.le_refl _
  | succ i ih =>
    unfold rsI rsStep
    split
    · exact Nat.le_refl _
    · omega
theorem rsI_len (l : List Nat) (i : Nat) : (rsI l i).1.length ≤ i := by
  induction i with
  | zero => exact Nat.le_refl _
  | succ i ih =>
    unfold rsI rsStep
    split
    · rw [List.length_append]
      exact Nat.succ_le_succ ih
    · omega

/-! ### enumerate(text) -/
theorem pyIter_text {prog : Program} {w : World} {A : Around} {E : Value → Shared → Prop} {s : Shared} {x : Str} {t : Tok} {Q : Value → Shared → Prop}
    (h : Q (Value.ref s.heap.objs.size) { s with heap := s.heap.push { cls := Value.type (strIterType x), data := Data.fields #[Value.str x t, Value.int 0 0] } }) : wpAny (model prog w) A (pyIter (Value.str x t)) Q E s := by
  unfold strIterType at h
  cases ha : x.cps.all (· < 128)
  · rw [ha] at h
    exact wpAny_pyIter_wide ha h
  · rw [ha] at h
    exact wpAny_pyIter_ascii ha h
set_option maxHeartbeats 1000000 in
theorem enum_newS (x : Str) (t : Tok) : Meets (PySem.Builtin.«enumerate.__new__» ⟨[.type "enumerate", .str x t], []⟩) (fun _ R s => R (.ok (.ret (.ref (s.heap.push { cls := .type (strIterType x), data := .fields #[.str x t, .int 0 0] }).objs.size))) { s with heap := (s.heap.push { cls := .type (strIterType x), data := .fields #[.str x t, .int 0 0] }).push { cls := .type "enumerate", data := .fields #[.none, .bool false, .ref s.heap.objs.size, rawInt 0, .none, .none] } }) :=
  .of_wp fun prog w A R s post => by
    have hsub := sub_enumerate
    wp_walk using pyIter_text
    refine wpAny_stack_any fun st => wpAny_pure ?_
    split
    · rename_i c _ _ _ _ _
      cases (c == Value.type "enumerate")
      · wp_walk using pyIter_text
        exact ⟨_, rfl, post⟩
      · wp_walk using pyIter_text
        exact ⟨_, rfl, post⟩
    · wp_walk using pyIter_text
      exact ⟨_, rfl, post⟩
theorem call_enumS {prog : Program} {w : World} {A : Around} {E : Value → Shared → Prop} {s : Shared} {x : Str} {t : Tok} {Q : Value → Shared → Prop}
    (h : ∀ h', IsEnum h' (s.heap.objs.size + 1) s.heap.objs.size 0 .none → h'.IsStrIter s.heap.objs.size (strIterType x) x t 0 → (∀ b o, s.heap.get? b = some o → h'.get? b = some o) → Q (.ref (s.heap.objs.size + 1)) { s with heap := h' }) :
    wpAny (model prog w) A (call (.type "enumerate") [.str x t]) Q E s := by
  refine callType_new F.called_enumerate (by decide) (F.typeCall_enumerate_1 _) (F.newCall_enumerate_1 _) (fun obj => F.args_object_init_2 obj _) F.entry_enumerate_new (enum_newS x t) ?_
  have z1 : (s.heap.push { cls := .type (strIterType x), data := .fields #[.str x t, .int 0 0] }).objs.size = s.heap.objs.size + 1 := Heap.size_push ..
  show _ ∧ _
  rw [z1]
  have at2 := Heap.get?_push_size (s.heap.push { cls := .type (strIterType x), data := .fields #[.str x t, .int 0 0] }) (o := { cls := .type "enumerate", data := .fields #[.none, .bool false, .ref s.heap.objs.size, rawInt 0, .none, .none] }) rfl
  rw [z1] at at2
  exact ⟨⟨_, at2, rfl⟩, h _ at2 ⟨_, Heap.get?_push_of_some _ (Heap.get?_push_size _ rfl), rfl, rfl⟩ fun b o y => Heap.get?_push_of_some _ (Heap.get?_push_of_some _ y)⟩
/-- the text's letters, each in a new pair with its place -/
def IteS (x : Str) : It :=
  ⟨fun i _ => i < x.cps.size, fun i H v H' => ∃ T c, v = .ref T ∧ H T = none ∧ x.cps[i]? = some c ∧ H' = L2.upd H T (.tup [.int (i : Nat), .str ⟨#[c]⟩]), fun i _ => i = x.cps.size⟩
theorem turn_enumS {P : Program} {w : World} {K : PySem.W.Frag} {elts : List Expr} {kk : Nat} {tpos : Pos} (x : Str) (t : Tok) (e it : Addr) :
    Turn P w K (.Tuple elts kk tpos) (IteS x) [e, it] e (fun i h => (∃ old, IsEnum h e it ((i : Nat) : Int) old) ∧ h.IsStrIter it (strIterType x) x t i ∧ e ≠ it) where
  mem := by simp
  obj := fun i h ⟨⟨old, he⟩, ⟨o, ho, hc, hd⟩, _⟩ b hb => by
    rcases (show b = e ∨ b = it by simpa using hb) with z | z
    · rw [z]
      exact ⟨_, he, fun v q => nomatch q⟩
    · rw [z]
      exact ⟨o, ho, fun v q => by rw [hd] at q; cases q⟩
  keep := fun i h h' ⟨⟨old, he⟩, ⟨o, ho, r⟩, ne⟩ k => ⟨⟨old, k e (by simp) _ he⟩, ⟨o, k it (by simp) _ ho, r⟩, ne⟩
  item := by
    intro X hP hw hK calm i pins s σ H E I hf ⟨⟨old, he⟩, hit, ne⟩ hi
    subst hP hw hK
    have el := Heap.lt_size he
    have il : it < s.heap.objs.size := by obtain ⟨_, q, _⟩ := hit; exact Heap.lt_size q
    have D := PySem.Draws.text (prog := X.prog) (w := X.w) (A := X.A.in1) (I.ok.hd calm) it x t
    refine wpAny_pyNext_enum_itemD D he hit hi ne (by simp [ne]) fun v h' tk hv ho hit' hT hsz hk => ?_
    obtain ⟨c, u, hc, rfl⟩ := hv
    refine ⟨_, rfl, wpAny_letOwnedTupleGo_enum (s := { s with heap := h', toks := tk + 1 }) ho fun h2 he2 sb => ?_⟩
    have hT2 : h2.get? s.heap.objs.size = some { cls := .type "tuple", data := .seq #[.int i tk, .str ⟨#[c]⟩ u] } := (sb.2 _ (Nat.ne_of_gt el)).trans hT
    have new : ObjOk X.prog X.w (L2.upd H s.heap.objs.size (.tup [.int (i : Nat), .str ⟨#[c]⟩])) h2 s.heap.objs.size (.tup [.int (i : Nat), .str ⟨#[c]⟩]) :=
      ⟨by show 2 ≤ sizeLine; decide, [.int i tk, .str ⟨#[c]⟩ u], .cons ⟨_, rfl⟩ (.cons ⟨_, rfl⟩ .nil), ⟨_, hT2, rfl, _, rfl⟩⟩
    have I1 : L2.Inv X pins σ (L2.upd H s.heap.objs.size (.tup [.int (i : Nat), .str ⟨#[c]⟩])) { s with heap := h2, toks := tk + 1 } :=
      I.turnedNew (ch := [e, it]) (fun b ob hb q => (sb.2 b (fun z => hb (by simp [z]))).trans (hk b ob (fun z => hb (by simp [z])) (fun z => hb (by simp [z])) q)) hf (Nat.le_refl _) new
    refine ⟨.ref s.heap.objs.size, _, I1, rfl, ⟨_, c, rfl, I.hok.fresh (Nat.le_refl _), hc, rfl⟩, ⟨⟨.str ⟨#[c]⟩ u, ?_⟩, ?_, ne⟩, fun b hb => ?_⟩
    · rw [show ((i + 1 : Nat) : Int) = (i : Int) + 1 by omega]
      exact he2
    · obtain ⟨o, q, r⟩ := hit'
      exact ⟨o, (sb.2 it (Ne.symm ne)).trans q, r⟩
    · have lt : b < s.heap.objs.size := by
        rcases (show b = e ∨ b = it by simpa using hb) with z | z
        · exact z ▸ el
        · exact z ▸ il
      exact (upd_ne (Nat.ne_of_lt lt)).trans (hf b hb).1
  done := by
    intro X hP hw hK calm i pins s σ H E I hf ⟨⟨old, he⟩, hit, ne⟩ hx
    subst hP hw hK
    obtain ⟨f0, f1, f2, f3, f4, f5⟩ := hf it (by simp)
    have eT : s.TypeIs (.ref e) "enumerate" := ⟨_, he, rfl⟩
    obtain rfl : i = x.cps.size := hx
    unfold pyNext
    refine wpAny_bind (wpAny_attempt (wpAny_callSpecial?_slot (name := Str.ofString "__next__") eT F.slot_enumerate_next (wpAny_call_entry F.slot_enumerate_next eT F.entry_enumerate_next ?_ (F.args_enumerate_next_1 _))))
    show wpAny _ _ (field (.ref e) 2 >>= _) _ _ _
    refine wpAny_bind (wpAny_field he rfl (x := .ref it) rfl (wpAny_bind ((PySem.Draws.text (prog := X.prog) (w := X.w) (A := X.A.in1) (I.ok.hd calm) it x t).done _ _ _ hit fun h' er eb ⟨o, ho, hc⟩ => ?_)))
    exact wpAny_bind (wpAny_isInstance (T := "StopIteration") (b := true) ⟨o, ho, hc⟩ isSubtype_stop (wpAny_pure ⟨rfl, I.turned (t' := s.toks) (fun b o hb q => eb b o hb q) f0 f1 f3 f4 f5⟩))
  self := fun A i s Q E ⟨⟨_, he⟩, _⟩ h => wpAny_pyIter_enum he h
/-- enumerate(e), e a text -/
def iEnumS (ta : TA) : TI := fun σ H R => ta σ H fun vs H1 => ∃ x : Str, vs = [.str x] ∧ R (IteS x) H1
theorem pi_enumS {X : Cx} {e : Expr} {ta : TA} {p pos tpos : Pos} {elts : List Expr} {kk : Nat} (hg : Gl X "enumerate") (hm : X.mg "enumerate" = none) (ha : PA X [e] ta) (hs : starEach [e] X.env = [(false, eval e X.env)] := by rfl) :
    PI X (.Tuple elts kk tpos) (.Call (.Name "enumerate" p) [e] [] pos) (iEnumS ta) := by
  refine ⟨fun pins s σ H R I h => Call_ (ld_blt I hg hm boot_enumerate (PyProof.Rows.callWith_type1 (thn (ha.run pos pins s σ H _ I h) fun us s1 ⟨vs, H1, I1, r1, x, ex, q⟩ => ?_) hs rfl))⟩
  subst ex
  obtain ⟨u, rfl, ru⟩ := r1.one
  obtain ⟨t, rfl⟩ := ru
  have foot : ∀ b, b ∈ [s1.heap.objs.size + 1, s1.heap.objs.size] → FpOk X pins H1 b := fun b hb => by
    have le : s1.heap.objs.size ≤ b := by
      rcases (show b = s1.heap.objs.size + 1 ∨ b = s1.heap.objs.size by simpa using hb) with z | z
      · exact z ▸ Nat.le_succ _
      · exact z ▸ Nat.le_refl _
    exact I1.fpOk le (I1.hok.fresh le)
  exact call_enumS fun h' he hit hk => wpAny_pyIter_enum he ⟨_, _, _, _, H1, rfl, I1.kept (t' := s1.toks) hk, turn_enumS x t (s1.heap.objs.size + 1) s1.heap.objs.size, ⟨⟨.none, he⟩, hit, Nat.succ_ne_self _⟩, foot, q⟩
theorem walk_enumS {l : List Nat} : Walk (IteS (sOf l)) l.length (fun _ => True) (YPair (fun i => some (.int (i : Nat))) (fun i => (l[i]?).map fun c => V.str (sOf [c]))) := by
  refine ⟨fun i H hi _ => ?_, fun H _ => ?_, fun i H v H' _ _ y => ?_⟩
  · show i < (sOf l).cps.size
    simpa [sOf] using hi
  · show l.length = (sOf l).cps.size
    simp [sOf]
  · obtain ⟨T, c, e1, e2, e3, e4⟩ := y
    have e5 : l[i]? = some c := by simpa [sOf] using e3
    exact ⟨T, .int (i : Nat), .str (sOf [c]), e1, e2, e4, rfl, by
      show Option.map _ l[i]? = _
      rw [e5]
      rfl⟩

/-! ### lists of pairs of whole numbers -/
theorem Room.units65 {k : Nat} {A : Around} (h : Room k A) : A.units + 65 < cLine := by
  have := h.un
  omega
def mD (m : Nat × Nat) : PyData := .tuple [.int (m.1 : Nat), .int (m.2 : Nat)]
def mT (m : Nat × Nat) : HO := .tup [.int (m.1 : Nat), .int (m.2 : Nat)]
/-- xs are tuples that hold the pairs M -/
inductive Prs (H : Hp) : List V → List (Nat × Nat) → Prop where
  | nil : Prs H [] []
  | cons {T : Addr} {m : Nat × Nat} {xs : List V} {M : List (Nat × Nat)} (h : H T = some (mT m)) (r : Prs H xs M) : Prs H (.ref T :: xs) (m :: M)
theorem Prs.mono {H H' : Hp} (s : Same H H') : ∀ {xs M}, Prs H xs M → Prs H' xs M
  | _, _, .nil => .nil
  | _, _, .cons h r => .cons (s _ _ h) (r.mono s)
theorem Prs.len {H : Hp} : ∀ {xs M}, Prs H xs M → xs.length = M.length
  | _, _, .nil => rfl
  | _, _, .cons _ r => congrArg Nat.succ r.len
theorem Prs.snoc {H : Hp} {T : Addr} {m : Nat × Nat} (h : H T = some (mT m)) : ∀ {xs M}, Prs H xs M → Prs H (xs ++ [.ref T]) (M ++ [m])
  | _, _, .nil => .cons h .nil
  | _, _, .cons h2 r => .cons h2 (r.snoc h)
theorem Prs.at {H : Hp} : ∀ {xs M} {i : Nat} {x : V}, Prs H xs M → xs[i]? = some x → ∃ T m, x = .ref T ∧ M[i]? = some m ∧ H T = some (mT m)
  | _, _, _, _, .nil, e => by simp at e
  | _, _, 0, _, .cons (T := T) (m := m) h _, e => ⟨T, m, by simpa using e.symm, rfl, h⟩
  | _, _, i + 1, _, .cons _ r, e => by
    obtain ⟨T, m, a, b, c⟩ := r.at (i := i) (by simpa using e)
    exact ⟨T, m, a, by simpa using b, c⟩
theorem Prs.data {K : PySem.W.Frag} {H : Hp} : ∀ {xs M}, Prs H xs M → DpAll K H xs (M.map mD)
  | _, _, .nil => .nil
  | _, _, .cons h r => .cons (.tup (SqT.of h) (.cons (.int _) (.cons (.int _) .nil))) r.data
theorem Prs.mem {H : Hp} : ∀ {xs M} {x : V}, Prs H xs M → x ∈ xs → ∃ T m, x = .ref T ∧ m ∈ M ∧ H T = some (mT m)
  | _, _, _, .nil, h => by simp at h
  | _, _, x, .cons (T := T) (m := m) h r, hx => by
    rcases List.mem_cons.mp hx with e | e
    · exact ⟨T, m, e, List.mem_cons_self, h⟩
    · obtain ⟨T2, m2, a, b, c⟩ := r.mem e
      exact ⟨T2, m2, a, List.mem_cons_of_mem _ b, c⟩
theorem Prs.keep {H H' : Hp} {D : Addr} {o : HO} (hD : ∀ m, H D ≠ some (mT m)) (b : ∀ c o, c ≠ D → H c = some o → H' c = some o) : ∀ {xs M}, Prs H xs M → Prs H' xs M
  | _, _, .nil => .nil
  | _, _, .cons (T := T) (m := m) h r => .cons (b _ _ (fun z => hD m (by rw [← z]; exact h)) h) (r.keep (o := o) hD b)
theorem Prs.perm {H : Hp} {xs ys : List V} (p : ys.Perm xs) : ∀ {M}, Prs H xs M → ∃ N, Prs H ys N ∧ N.Perm M := by
  induction p with
  | nil =>
    intro M h
    cases h
    exact ⟨[], .nil, .nil⟩
  | cons x p ih =>
    intro M h
    cases h with
    | cons h r =>
      obtain ⟨N, a, b⟩ := ih r
      exact ⟨_ :: N, .cons h a, b.cons _⟩
  | swap x y l =>
    intro M h
    cases h with
    | cons h r =>
      cases r with
      | cons h2 r => exact ⟨_ :: _ :: _, .cons h2 (.cons h r), .swap _ _ _⟩
  | trans p q ih1 ih2 =>
    intro M h
    obtain ⟨N, a, b⟩ := ih2 h
    obtain ⟨N2, a2, b2⟩ := ih1 a
    exact ⟨N2, a2, b2.trans b⟩
/-! `in` by data -/
def rInDT (K : PySem.W.Frag) : R2 := fun x y H Q => ∃ d ds, Dp K H x d ∧ Dp K H y (.tuple ds) ∧ SeqAt.shaped d = true ∧ SeqAt.shaped (.tuple ds) = true ∧ Q (.bl (ds.any fun z => PyData.eqv z d)) H
def rNotInDT (K : PySem.W.Frag) : R2 := fun x y H Q => ∃ d ds, Dp K H x d ∧ Dp K H y (.tuple ds) ∧ SeqAt.shaped d = true ∧ SeqAt.shaped (.tuple ds) = true ∧ Q (.bl (!ds.any fun z => PyData.eqv z d)) H
theorem op_inDT {X : Cx} {K : PySem.W.Frag} (hK : X.K = K) (hu : X.A.units + 65 < cLine) : OpR X (compareOp .In) (rInDT K) := by
  subst hK
  rintro pins s σ H x y v u Q I rx ry ⟨d, ds, hd, he, sd, se, q⟩
  obtain ⟨as, r1⟩ := Dp.reads I d x v hd rx
  obtain ⟨bs, r2⟩ := Dp.reads I (.tuple ds) y u he ry
  exact SeqAt.in_tuple_reads r2 r1 (SeqAt.canLay_of_shaped se) (SeqAt.canLay_of_shaped sd) (PyProof.Rows.room_in_shaped sd hu) ⟨.bl _, H, I, rfl, q⟩
theorem op_notInDT {X : Cx} {K : PySem.W.Frag} (hK : X.K = K) (hu : X.A.units + 65 < cLine) : OpR X (compareOp .NotIn) (rNotInDT K) := by
  subst hK
  rintro pins s σ H x y v u Q I rx ry ⟨d, ds, hd, he, sd, se, q⟩
  obtain ⟨as, r1⟩ := Dp.reads I d x v hd rx
  obtain ⟨bs, r2⟩ := Dp.reads I (.tuple ds) y u he ry
  exact SeqAt.notIn_tuple_reads r2 r1 (SeqAt.canLay_of_shaped se) (SeqAt.canLay_of_shaped sd) (PyProof.Rows.room_in_shaped sd hu) ⟨.bl _, H, I, rfl, q⟩
theorem op_inDK {X : Cx} {K : PySem.W.Frag} (hK : X.K = K) (hu : X.A.units + 65 < cLine) : OpR X (compareOp .In) (rInD K) := by
  subst hK
  exact op_inD hu
theorem op_notInDK {X : Cx} {K : PySem.W.Frag} (hK : X.K = K) (hu : X.A.units + 65 < cLine) : OpR X (compareOp .NotIn) (rNotInD K) := by
  subst hK
  exact op_notInD hu
theorem mD_eqv (a b : Nat × Nat) : PyData.eqv (mD a) (mD b) = decide (a = b) := by
  obtain ⟨a1, a2⟩ := a
  obtain ⟨b1, b2⟩ := b
  unfold mD
  rw [PyData.eqv, PyData.eqvAll, PyData.eqvAll, PyData.eqvAll, PyData.eqv, PyData.eqv]
  by_cases h1 : a1 = b1 <;> by_cases h2 : a2 = b2 <;> simp [h1, h2]
  all_goals omega
theorem any_mD (M : List (Nat × Nat)) (m : Nat × Nat) : ((M.map mD).any fun z => PyData.eqv z (mD m)) = decide (m ∈ M) := by
  rw [List.any_map]
  by_cases h : m ∈ M
  · rw [decide_eq_true h, List.any_eq_true]
    exact ⟨m, h, by show PyData.eqv _ _ = true; rw [mD_eqv]; simp⟩
  · rw [decide_eq_false h, List.any_eq_false]
    intro x hx z
    have z2 : PyData.eqv (mD x) (mD m) = true := z
    rw [mD_eqv] at z2
    exact h (by rw [← of_decide_eq_true z2]; exact hx)
theorem ok_mD (n : Nat) (m : Nat × Nat) : okD (n + 1) (mD m) = true := by
  unfold mD
  cases n <;> rfl
theorem ok_mDs (M : List (Nat × Nat)) : okD 4 (.list (M.map mD)) = true ∧ okD 4 (.tuple (M.map mD)) = true := ok_map (fun z => ok_mD 2 z) M
theorem shaped_mD (m : Nat × Nat) : SeqAt.shaped (mD m) = true := ok_shaped (ok_mD 3 m)
/-- a pair among the pairs -/
theorem inP {K : PySem.W.Frag} {H : Hp} {x : V} {p : Addr} {xs : List V} {M : List (Nat × Nat)} {m : Nat × Nat} {Q : VK} (hx : Dp K H x (mD m)) (hp : H p = some (.tup xs)) (hM : Prs H xs M) (q : Q (.bl (decide (m ∈ M))) H) : rInDT K x (.ref p) H Q :=
  ⟨_, _, hx, .tup (SqT.of hp) hM.data, shaped_mD m, ok_shaped (ok_mDs M).2, by rw [any_mD]; exact q⟩
theorem notInP {K : PySem.W.Frag} {H : Hp} {x : V} {p : Addr} {xs : List V} {M : List (Nat × Nat)} {m : Nat × Nat} {Q : VK} (hx : Dp K H x (mD m)) (hp : H p = some (.tup xs)) (hM : Prs H xs M) (q : Q (.bl (!decide (m ∈ M))) H) : rNotInDT K x (.ref p) H Q :=
  ⟨_, _, hx, .tup (SqT.of hp) hM.data, shaped_mD m, ok_shaped (ok_mDs M).2, by rw [any_mD]; exact q⟩
theorem inL {K : PySem.W.Frag} {H : Hp} {x : V} {p : Addr} {xs : List V} {M : List (Nat × Nat)} {m : Nat × Nat} {Q : VK} (hx : Dp K H x (mD m)) (hp : H p = some (.lst xs)) (hM : Prs H xs M) (q : Q (.bl (decide (m ∈ M))) H) : rInD K x (.ref p) H Q :=
  ⟨_, _, hx, .lst (SqL.of hp) hM.data, shaped_mD m, ok_shaped (ok_mDs M).1, by rw [any_mD]; exact q⟩
theorem notInL {K : PySem.W.Frag} {H : Hp} {x : V} {p : Addr} {xs : List V} {M : List (Nat × Nat)} {m : Nat × Nat} {Q : VK} (hx : Dp K H x (mD m)) (hp : H p = some (.lst xs)) (hM : Prs H xs M) (q : Q (.bl (!decide (m ∈ M))) H) : rNotInD K x (.ref p) H Q :=
  ⟨_, _, hx, .lst (SqL.of hp) hM.data, shaped_mD m, ok_shaped (ok_mDs M).1, by rw [any_mD]; exact q⟩

/-! ### isinstance of a caught error that has a dict -/
theorem chk_ga {prog : Program} {w : World} {A : Around} {E : Value → Shared → Prop} {s : Shared} {x : Addr} {nm : Str} {t : Tok} {Q : Unit → Shared → Prop} (sub : PySem.W.Looks (model prog w) s.heap (isInstance (Value.ref x) (Value.type "BaseException")) true) (h : Q () s) :
    wpAny (model prog w) A (checkBuiltinCall "BaseException.__getattribute__" { pos := [Value.ref x, Value.str nm t] }) Q E s :=
  @PySem.W.check_slot (model prog w) A E s "BaseException.__getattribute__" "BaseException" "__getattribute__" (Value.ref x) [Value.str nm t] [] Q PySem.W.kin_classE._proof_2 PySem.W.kin_classE._proof_3 sub (F.args_bexc_ga (Value.ref x) (Value.str nm t)) h
set_option maxHeartbeats 400000 in
theorem kin_classX {prog : Program} {w : World} {A : Around} {E : Value → Shared → Prop} {s : Shared} {K : PySem.W.Frag} {x D : Addr} {ox o : Obj} {Q : Option Value → Shared → Prop} (C : ExcC K D) (X : K.In s.heap) (I : PySem.W.InstAt s.heap x ox D (some o))
    (h : Q (some (Value.ref D)) { s with toks := s.toks + 1 }) : wpAny (model prog w) A (getAttr? (Value.ref x) (Str.ofString "__class__")) Q E s := by
  have hf := PySem.W.findObj_data (K := K) (C := D) (od := o) (name := Str.ofString "__class__") (by obtain ⟨cd, hc, _⟩ := PySem.W.any_some C.hd; rw [hc]; rfl) C.ha C.hn C.ht
  obtain ⟨hp, g, d, t, os⟩ := s
  have L0 := PySem.W.InstAt.type (M := model prog w) I
  have L1 := PySem.W.looks_findIn (M := model prog w) X C.hg
  have L2 := PySem.W.looks_findIn (M := model prog w) X C.hk
  have L3 := PySem.W.looks_find (M := model prog w) X I hf
  have sub : PySem.W.Looks (model prog w) hp (isInstance (Value.ref x) (Value.type "BaseException")) true := PySem.W.Looks.andThen L0 (PySem.W.looks_subIn X C.hs)
  unfold getAttr?
  refine wpAny_bind (wpAny_mkText ?_)
  unfold getAttrBy?
  refine wpAny_bind (wpAny_attempt (wpAny_holding ?_))
  refine wpAny_bind (PySem.W.Looks.at L0 (wpAny_bind (PySem.W.Looks.at L1 ?_)))
  have hx2 : (Value.builtin "BaseException.__getattribute__" == Value.builtin "object.__getattribute__") = false := by decide
  have hx1 : (onTheHeap (Value.ref D) && (Value.builtin "BaseException.__getattribute__" == Value.builtin "object.__getattribute__")) = false := by rw [hx2]; rfl
  dsimp only
  rw [hx1, if_neg Bool.false_ne_true]
  unfold getAttrByItsOwn
  refine wpAny_bind ?_
  unfold hookBefore
  rw [if_pos (show onTheHeap (Value.ref D) = true from rfl)]
  refine PySem.W.Looks.at L2 (wpAny_bind (wpAny_attempt (wpAny_holding ?_)))
  unfold callGetattribute
  rw [if_neg (show ¬ (false && onTheHeap (Value.builtin "BaseException.__getattribute__")) = true from Bool.false_ne_true)]
  unfold boundAndCalled
  rw [F.excAttr_ValueError.ga.bind (Value.ref x)]
  refine wpAny_bind (wpAny_pure ?_)
  show wpAny (model prog w) A (call (Value.builtin "BaseException.__getattribute__") [Value.ref x, Value.str (Str.ofString "__class__") t]) _ _ _
  refine wpAny_call (codeAny_call_builtin F.excAttr_ValueError.ga.plain F.entry_bexc_ga ?_)
  refine chk_ga sub ?_
  unfold Builtin.«object.__getattribute__»
  refine wpAny_bind (m := slotArgs "__getattribute__" 1 { pos := [Value.ref x, Value.str (Str.ofString "__class__") t] }) (wpAny_of_eq (a := (Value.ref x, [Value.str (Str.ofString "__class__") t])) (by kernel_rfl!) ?_)
  dsimp only
  refine wpAny_bind (m := Builtin.ObjectAttr.attrName (Value.str (Str.ofString "__class__") t)) (wpAny_of_eq (a := Str.ofString "__class__") (by rfl) ?_)
  refine wpAny_bind (PySem.W.Looks.at L0 (wpAny_bind (PySem.W.Looks.at L3 ?_)))
  dsimp only
  unfold Builtin.ObjectAttr.bindTo
  refine wpAny_bind ?_
  refine wpAny_holding (wpAny_call (PySem.W.class_get X I C.hm ?_))
  refine wpAny_pure ?_
  show wpAny (model prog w) A (handedOut (Value.ref D)) _ _ _
  rw [PySem.W.handedOut_of (v := Value.ref D) rfl]
  exact wpAny_pure (wpAny_pure h)
theorem cls_lookup {K : PySem.W.Frag} {D : Addr} (hd : PySem.W.hasDictIn K D = true) : ∃ cls dict cd slots, K.lookup D = some ⟨cls, dict, .cls cd, slots⟩ := by
  obtain ⟨cd, hc, _⟩ := PySem.W.any_some hd
  unfold PySem.W.clsIn at hc
  split at hc
  · rename_i c d cd2 sl he
    exact ⟨c, d, cd2, sl, he⟩
  · cases hc
theorem kitx_excX {K : PySem.W.Frag} {x D : Addr} {ox o : Obj} (C : ExcC K D) : PySem.W.KitX K (Value.ref x) (Value.ref D) (fun h => PySem.W.InstAt h x ox D (some o)) := by
  obtain ⟨cls, dict, cd, slots, he⟩ := cls_lookup C.hd
  refine ⟨fun M h X I => PySem.W.InstAt.type I, fun M h X I => ?_, fun h tp dd its n sl X htp => ?_, fun X I q => kin_classX C X I q⟩
  · intro A' Q' E' s' k q
    show wpAny M A' (loadPart _ _ >>= _) _ _ _
    exact wpAny_bind (wpAny_loadPart (k D _ (X D _ he)) (wpAny_pure q))
  · refine Bool.eq_false_iff.mpr fun q => ?_
    have e := Value.ref.inj (beq_iff_eq.mp q)
    subst e
    have z := (X D _ he).symm.trans htp
    cases z
/-- isinstance(e, C), e caught, its attributes in a dict -/
def rIsX (K : PySem.W.Frag) (a : Addr) (cls : Value) (d : Option Addr) : List V → Hp → VK → Prop := fun xs H Q => ∃ (c : V) (u : Value) (D dd : Addr) (fs : List (Str × V)) (b : Bool), xs = [.ref a, c] ∧ ClsV c u ∧ cls = .ref D ∧ ExcC K D ∧ d = some dd ∧ H dd = some (.xd fs) ∧
  PySem.W.kitOne K (.ref D) u = some b ∧ Q (.bl b) H
theorem xd_some {P : Program} {w : World} {H : Hp} {h : Heap} {d : Addr} {fs : List (Str × V)} (z : ObjOk P w H h d (.xd fs)) : ∃ o, h.get? d = some o := by
  unfold ObjOk at z
  obtain ⟨mA, hn, _⟩ := z
  obtain ⟨o, _, _, ho, _⟩ := hn
  exact ⟨o, ho⟩
theorem call_isX {X : Cx} {K : PySem.W.Frag} {a : Addr} {cls : Value} {d : Option Addr} {oe : Obj} {pn : List (Addr × Obj)} (hK : X.K = K) (hz : Zc cls d oe) (hf : ∃ vs, oe.data = Data.fields vs) :
    CallR (X.suite a ((a, oe) :: pn)) (.builtin "isinstance") (rIsX K a cls d) := by
  subst hK
  intro pins s σ H xs us Q I r h
  obtain ⟨c, u, D, dd, fs, b, rfl, cv, rfl, C, rfl, ed, kb, q⟩ := h
  cases r with
  | cons rx rr =>
    cases rr with
    | cons rt r2 =>
      cases r2
      cases rx
      rename_i cu
      obtain rfl : cu = u := by
        cases cv with
        | ty n => first | exact rt | exact rt.symm
        | own c => first | exact rt | exact rt.symm
      obtain ⟨hget, _⟩ := I.pin (a, oe) (List.mem_append.mpr (.inl List.mem_cons_self))
      obtain ⟨o, ho⟩ := xd_some (I.hok dd _ ed)
      obtain ⟨vs, hv⟩ := hf
      have J : PySem.W.InstAt s.heap a oe D (some o) := by
        obtain ⟨oc, od, oda, osl⟩ := oe
        obtain ⟨h1, h2⟩ := hz
        cases h1
        cases h2
        cases hv
        exact ⟨hget, rfl, rfl, ho⟩
      exact PySem.W.kia_one (kitx_excX C) I.kIn J kb (fun z => nomatch z) fun tk => ⟨.bl b, H, I.kept (t' := tk) fun _ _ z => z, rfl, q⟩

/-! ### a def (or method) with defaults -/
structure FunV (K : PySem.W.Frag) (x qual : Str) (st : Stmt) (f : Addr) (fd : FuncData) : Prop where
  ex : ∃ (oc : Value) (od : Option Addr) (dV kV doc pm : Value) (an : Option Addr) (cdv ct : Value) (osl : Array (Option Value)),
    fd = PySem.W.fnOf x qual (defArgs st) (defBody st) (defScope st) dV kV doc pm an cdv ct ∧ K.lookup f = some ⟨oc, od, .func fd, osl⟩ ∧ PySem.W.codeIn K cdv qual = true
  kp : PySem.W.keepIn K (.ref f) = true
section
variable {P : Program} {w : World} {K : PySem.W.Frag} {mg : Str → Option Value} {base : Heap}
theorem FunV.ok {x qual : Str} {st : Stmt} {f : Addr} {fd : FuncData} {N ps : List Str} {k : Nat} {sp : Sp} (F : FunV K x qual st f fd) (S : FnScope N ps (defScope st)) (len : ∀ vs H Q E, sp vs H Q E → vs.length = ps.length)
    (hbody : ∀ (cdv : Value) (A : Around) (outer : List Env) (s : Shared) (H : Hp) (vs : List V) (Q : VK) (E : XK), Room k (A.deeper (envOfC qual (defScope st) s.heap.objs.size f cdv)) → sp vs H Q E →
      ∃ t, PSs (cxOf CX0 P w K mg base N qual (defScope st) f cdv A outer s H E).nox (defBody st) t ∧ t { nx := fun _ H' => Q .non H', rt := Q } (start N vs) H) : FnOk P w K mg base CX0 (k + 1) f fd ps sp := by
  obtain ⟨oc, od, dV, kV, doc, pm, an, cdv, ct, osl, rfl, lk, hcd⟩ := F.ex
  refine fn_of lk hcd S len fun A outer s H vs Q E hr hsp => ?_
  obtain ⟨t, h, q⟩ := hbody cdv A outer s H vs Q E hr hsp
  exact ⟨t, h.nox, q⟩
theorem FunV.okX {x qual : Str} {st : Stmt} {f : Addr} {fd : FuncData} {N ps : List Str} {k : Nat} {sp : Sp} (F : FunV K x qual st f fd) (S : FnScope N ps (defScope st)) (len : ∀ vs H Q E, sp vs H Q E → vs.length = ps.length)
    (hbody : ∀ (cdv : Value) (A : Around) (outer : List Env) (s : Shared) (H : Hp) (vs : List V) (Q : VK) (E : XK), Room k (A.deeper (envOfC qual (defScope st) s.heap.objs.size f cdv)) → sp vs H Q E →
      ∃ t, PSs (cxOf (L2.CX P w) P w K mg base N qual (defScope st) f cdv A outer s H E) (defBody st) t ∧ t { nx := fun _ H' => Q .non H', rt := Q } (start N vs) H) : FnOk P w K mg base (L2.CX P w) (k + 1) f fd ps sp := by
  obtain ⟨oc, od, dV, kV, doc, pm, an, cdv, ct, osl, rfl, lk, hcd⟩ := F.ex
  exact fn_of lk hcd S len fun A outer s H vs Q E hr hsp => hbody cdv A outer s H vs Q E hr hsp
theorem funV_mk {x qual : Str} {st : Stmt} {f : Addr} {oc : Value} {od an : Option Addr} {osl : Array (Option Value)} {dV kV doc pm cdv ct : Value} (l : K.lookup f = some ⟨oc, od, .func (PySem.W.fnOf x qual (defArgs st) (defBody st) (defScope st) dV kV doc pm an cdv ct), osl⟩)
    (c : PySem.W.codeIn K cdv qual = true) (k : PySem.W.keepIn K (.ref f) = true) : FunV K x qual st f (PySem.W.fnOf x qual (defArgs st) (defBody st) (defScope st) dV kV doc pm an cdv ct) := ⟨⟨oc, od, dV, kV, doc, pm, an, cdv, ct, osl, rfl, l, c⟩, k⟩
/-- every parameter is given; the defaults are the items of a tuple that is not needed -/
theorem bindsD {fd : FuncData} {ps : List Str} {T : Addr} {o : Obj} {its : Array Value} {n : Nat} (lT : K.lookup T = some o) (oT : o.data = .seq its n)
    (h : ∀ us : List Value, us.length = ps.length → ∃ k, bindArgs fd ⟨us, []⟩ = seqItems? (.ref T) >>= k ∧ k (some its) = pure (ps.zip us)) : Binds K fd ps [] := fun s us X hl => by
  rw [List.append_nil] at hl ⊢
  obtain ⟨k, e1, e2⟩ := h us hl
  refine BindsTo.of_looks fun M => ?_
  rw [e1]
  exact looks_items X lT oT (.of_pure e2)
end
/-- a method with defaults as it stands -/
structure MetAtD (K : PySem.W.Frag) (x qual : Str) (st : Stmt) (ps : List Str) (f : Addr) (fd : FuncData) : Prop where
  F : FunV K x qual st f fd
  b : Binds K fd ps []
/-- a method with keyword-only defaults as it stands -/
structure MetAtK (K : PySem.W.Frag) (x qual : Str) (st : Stmt) (kws : List (Str × V)) (f : Addr) (fd : FuncData) : Prop where
  F : L2.FunD K x qual (defArgs st) (defBody st) (defScope st) [] kws f fd
theorem funK_mk {K : PySem.W.Frag} {x qual : Str} {st : Stmt} {kws : List (Str × V)} {f D : Addr} {oc : Value} {od an : Option Addr} {osl : Array (Option Value)} {doc pm cdv ct : Value} (l : K.lookup f = some ⟨oc, od, .func (PySem.W.fnOf x qual (defArgs st) (defBody st) (defScope st) .none (.ref D) doc pm an cdv ct), osl⟩)
    (c : PySem.W.codeIn K cdv qual = true) (k : PySem.W.keepIn K (.ref f) = true) (h : ∀ q ∈ kws, ∃ u, PySem.W.nsIn K D q.1 = some (some u) ∧ RelV q.2 u) : MetAtK K x qual st kws f (PySem.W.fnOf x qual (defArgs st) (defBody st) (defScope st) .none (.ref D) doc pm an cdv ct) :=
  ⟨⟨⟨oc, od, .none, .ref D, doc, pm, an, cdv, ct, osl, rfl, l, c, .inl ⟨rfl, rfl⟩, .inr ⟨D, rfl, h⟩⟩, k⟩⟩
theorem kw_nil {K : PySem.W.Frag} {D : Addr} : ∀ q ∈ ([] : List (Str × V)), ∃ u, PySem.W.nsIn K D q.1 = some (some u) ∧ RelV q.2 u := fun _ h => nomatch h
theorem kw_cons {K : PySem.W.Frag} {D : Addr} {x : Str} {i : Int} {t : Tok} {r : List (Str × V)} (h : PySem.W.nsIn K D x = some (some (.int i t))) (hr : ∀ q ∈ r, ∃ u, PySem.W.nsIn K D q.1 = some (some u) ∧ RelV q.2 u) :
    ∀ q ∈ (x, V.int i) :: r, ∃ u, PySem.W.nsIn K D q.1 = some (some u) ∧ RelV q.2 u := fun q hq => by
  rcases List.mem_cons.mp hq with e | hq
  · subst e
    exact ⟨_, h, ⟨t, rfl⟩⟩
  · exact hr q hq

/-! ## values without a heap -/
namespace Vv
inductive D where
  | non | bl (b : Bool) | int (i : Int) | str (l : List Nat) | ty (n : String) | cl (c : Nat)
  | tup (l : List D) | lst (l : List D) | obj (c : Nat) (fs : List D) | dic (ks vs : List D) | set (l : List D)
/-- the classes: their addresses, the names of their fields -/
structure Tb where
  K : PySem.W.Frag
  cls : Nat → Addr
  fld : Nat → List Str
mutual
/-- v is the thing d, laid into Z -/
inductive Rp (B : Tb) (Z : Hp) : V → D → Prop where
  | non : Rp B Z .non .non
  | bl (b : Bool) : Rp B Z (.bl b) (.bl b)
  | int (i : Int) : Rp B Z (.int i) (.int i)
  | str (l : List Nat) : Rp B Z (.str (sOf l)) (.str l)
  | ty (n : String) : Rp B Z (.ty n) (.ty n)
  | cl (c : Nat) : Rp B Z (.ref (B.cls c)) (.cl c)
  | tup {a : Addr} {vs : List V} {ds : List D} (h : SqT B.K Z a vs) (r : Rps B Z vs ds) : Rp B Z (.ref a) (.tup ds)
  | lst {a : Addr} {vs : List V} {ds : List D} (h : Z a = some (.lst vs)) (r : Rps B Z vs ds) : Rp B Z (.ref a) (.lst ds)
  | obj {a dx : Addr} {c : Nat} {vs : List V} {ds : List D} (h : Z a = some (.ins (B.cls c) dx ((B.fld c).zip vs))) (hl : vs.length = (B.fld c).length) (r : Rps B Z vs ds) : Rp B Z (.ref a) (.obj c ds)
  | dic0 {a : Addr} (h : Z a = some (.dK [])) : Rp B Z (.ref a) (.dic [] [])
inductive Rps (B : Tb) (Z : Hp) : List V → List D → Prop where
  | nil : Rps B Z [] []
  | cons {v : V} {d : D} {vs : List V} {ds : List D} (h : Rp B Z v d) (r : Rps B Z vs ds) : Rps B Z (v :: vs) (d :: ds)
end
theorem seqT_mono {K : PySem.W.Frag} {H H' : Hp} {a : Addr} {xs : List V} (e : Same H H') (h : SqT K H a xs) : SqT K H' a xs := by
  rcases h with (h | ⟨o, h⟩) | h
  · exact .inl (.inl (e _ _ h))
  · exact .inl (.inr ⟨o, e _ _ h⟩)
  · exact .inr h
section
variable {B : Tb} {Z Z' : Hp}
mutual
theorem Rp.mono (s : Same Z Z') : ∀ {v : V} {d : D}, Rp B Z v d → Rp B Z' v d
  | _, _, .non => .non
  | _, _, .bl b => .bl b
  | _, _, .int i => .int i
  | _, _, .str l => .str l
  | _, _, .ty n => .ty n
  | _, _, .cl c => .cl c
  | _, _, .tup h r => .tup (seqT_mono s h) (Rps.mono s r)
  | _, _, .lst h r => .lst (s _ _ h) (Rps.mono s r)
  | _, _, .obj h hl r => .obj (s _ _ h) hl (Rps.mono s r)
  | _, _, .dic0 h => .dic0 (s _ _ h)
theorem Rps.mono (s : Same Z Z') : ∀ {vs : List V} {ds : List D}, Rps B Z vs ds → Rps B Z' vs ds
  | _, _, .nil => .nil
  | _, _, .cons h r => .cons (Rp.mono s h) (Rps.mono s r)
end
theorem Rps.len : ∀ {vs : List V} {ds : List D}, Rps B Z vs ds → vs.length = ds.length
  | _, _, .nil => rfl
  | _, _, .cons _ r => congrArg Nat.succ r.len
theorem Rps.app : ∀ {vs ws : List V} {ds es : List D}, Rps B Z vs ds → Rps B Z ws es → Rps B Z (vs ++ ws) (ds ++ es)
  | _, _, _, _, .nil, s => s
  | _, _, _, _, .cons h r, s => .cons h (r.app s)
theorem Rps.at : ∀ {vs : List V} {ds : List D} {i : Nat} {d : D}, Rps B Z vs ds → ds[i]? = some d → ∃ v, vs[i]? = some v ∧ Rp B Z v d
  | _, _, 0, _, .cons h _, e => by cases e; exact ⟨_, rfl, h⟩
  | _, _, i + 1, _, .cons _ r, e => r.at (i := i) e
theorem Rps.at2 : ∀ {vs : List V} {ds : List D} {i : Nat} {v : V}, Rps B Z vs ds → vs[i]? = some v → ∃ d, ds[i]? = some d ∧ Rp B Z v d
  | _, _, 0, _, .cons h _, e => by cases e; exact ⟨_, rfl, h⟩
  | _, _, i + 1, _, .cons _ r, e => r.at2 (i := i) e
theorem Rps.take : ∀ {vs : List V} {ds : List D} (k : Nat), Rps B Z vs ds → Rps B Z (vs.take k) (ds.take k)
  | _, _, 0, _ => .nil
  | _, _, _ + 1, .nil => .nil
  | _, _, k + 1, .cons h r => .cons h (r.take k)
theorem Rps.drop : ∀ {vs : List V} {ds : List D} (k : Nat), Rps B Z vs ds → Rps B Z (vs.drop k) (ds.drop k)
  | _, _, 0, r => r
  | _, _, _ + 1, .nil => .nil
  | _, _, k + 1, .cons _ r => r.drop k
theorem Rps.rev {vs : List V} {ds : List D} (r : Rps B Z vs ds) : Rps B Z vs.reverse ds.reverse := by
  induction vs generalizing ds with
  | nil => cases r; exact .nil
  | cons v vs ih =>
    cases r with
    | cons h r =>
      rw [List.reverse_cons, List.reverse_cons]
      exact (ih r).app (.cons h .nil)
theorem Rps.one {v : V} {d : D} (h : Rp B Z v d) : Rps B Z [v] [d] := .cons h .nil
end
/-! ### a hand -/
structure HS where
  cells : List Int
  pos : Nat
  pend : Int
  tot : Int
structure HandAt (H : Hp) (a l : Addr) (h : HS) : Prop where
  ea : H a = some (.lst [.ref l, .int h.pos, .int h.pend, .int h.tot])
  el : H l = some (.lst (h.cells.map V.int))
  ne : a ≠ l
/-! ### slots, states, results -/
inductive Sl where
  | no | val (d : D) | own (ds : List D) | ob (c : Nat) (fs : List D) | hand | exc (c : Nat) (fs : List D)
abbrev En := List Sl
abbrev S := Option HS
inductive R (α : Type) where
  | ok (x : α) (s : S) | exc (c : Nat) (fs : List D) (s : S) | bad
inductive SR where
  | nx (ρ : En) (s : S) | rt (d : D) (s : S) | bk (ρ : En) (s : S) | ct (ρ : En) (s : S) | exc (c : Nat) (fs : List D) (ρ : En) (s : S) | bad
abbrev Ef := En → S → R D
abbrev Af := En → S → R (List D)
abbrev Tf := En → S → R Bool
abbrev Sf := En → S → SR
def R.bind {α β : Type} (r : R α) (k : α → S → R β) : R β := match r with
  | .ok x s => k x s
  | .exc c fs s => .exc c fs s
  | .bad => .bad
/-- from an expression into a statement -/
def R.then {α : Type} (r : R α) (ρ : En) (k : α → S → SR) : SR := match r with
  | .ok x s => k x s
  | .exc c fs s => .exc c fs ρ s
  | .bad => .bad
def SR.then (r : SR) (k : En → S → SR) : SR := match r with
  | .nx ρ s => k ρ s
  | .rt d s => .rt d s
  | .bk ρ s => .bk ρ s
  | .ct ρ s => .ct ρ s
  | .exc c fs ρ s => .exc c fs ρ s
  | .bad => .bad
/-! ### what holds between the heap and the slots: the function's own frame -/
structure Gf where
  B : Tb
  /-- exceptions: their classes, the names of their fields -/
  Z0 : Hp
  H0 : Hp
  hand : Option (Addr × Addr)
  self : Option Addr
  hid : List (Addr × HO)
  /-- the caught exception: its address, its class, its dict -/
  ux : Option (Addr × Value × Option Addr)
def OwnAt (ρ : En) (i : Nat) : Prop := match ρ[i]? with
  | some (.own _) => True
  | some (.ob _ _) => True
  | _ => False
structure Gf.Free (G : Gf) (Z : Hp) (p : Addr) : Prop where
  z : Z p = none
  h : ∀ q, G.hand = some q → p ≠ q.1 ∧ p ≠ q.2
  d : ∀ q ∈ G.hid, p ≠ q.1
def SlOk (G : Gf) (Z H : Hp) (σ : L2.St) (i : Nat) : Sl → Prop
  | .no => True
  | .val d => ∃ v, σ[i]? = some (some v) ∧ Rp G.B Z v d
  | .own ds => ∃ p vs, σ[i]? = some (some (.ref p)) ∧ H p = some (.lst vs) ∧ G.Free Z p ∧ G.H0 p = none ∧ Rps G.B Z vs ds
  | .ob c fs => ∃ x dx vs, σ[i]? = some (some (.ref x)) ∧ G.self = some x ∧ H x = some (.ins (G.B.cls c) dx ((G.B.fld c).zip vs)) ∧ G.Free Z x ∧ Rps G.B Z vs fs
  | .hand => ∃ q, G.hand = some q ∧ σ[i]? = some (some (.ref q.1))
  | .exc c fs => ∃ a d vs, σ[i]? = some (some (.ref a)) ∧ G.ux = some (a, .ref (G.B.cls c), some d) ∧ Z d = some (.xd ((G.B.fld c).zip vs)) ∧ vs.length = (G.B.fld c).length ∧ Rps G.B Z vs fs
structure VI (G : Gf) (Z H : Hp) (σ : L2.St) (ρ : En) (s : S) : Prop where
  len : ρ.length = σ.length
  zh : Same Z H
  z0 : Same G.Z0 Z
  zn : ∀ p o, Z p = some o → G.Z0 p = some o ∨ G.H0 p = none
  keep : ∀ b o, G.H0 b = some o → (∀ q, G.hand = some q → b ≠ q.1) → (∀ x, G.self = some x → b ≠ x) → H b = some o
  hnd : ∀ q, G.hand = some q → ∃ st, s = some st ∧ HandAt H q.1 q.2 st ∧ Z q.1 = none ∧ Z q.2 = none ∧ ∀ e ∈ G.hid, e.1 ≠ q.1 ∧ e.1 ≠ q.2
  slf : ∀ x, G.self = some x → H x ≠ none
  hid : ∀ q ∈ G.hid, H q.1 = some q.2 ∧ Z q.1 = none
  sl : ∀ i x, ρ[i]? = some x → SlOk G Z H σ i x
  dis : ∀ i j p, i ≠ j → OwnAt ρ i → OwnAt ρ j → σ[i]? = some (some (.ref p)) → σ[j]? ≠ some (some (.ref p))
/-- nothing that stood has changed; what is laid into Z is new -/
structure Step (Z H Z' H' : Hp) : Prop where
  hh : Same H H'
  zz : Same Z Z'
  zh : Same Z' H'
  zn : ∀ p o, Z' p = some o → Z p = some o ∨ H p = none
theorem Step.refl {Z H : Hp} (s : Same Z H) : Step Z H Z H := ⟨Same.refl H, Same.refl Z, s, fun _ _ h => .inl h⟩
theorem Step.trans {Z H Z1 H1 Z2 H2 : Hp} (a : Step Z H Z1 H1) (b : Step Z1 H1 Z2 H2) : Step Z H Z2 H2 :=
  ⟨a.hh.trans b.hh, a.zz.trans b.zz, b.zh, fun p o h => (b.zn p o h).elim (fun h => a.zn p o h) fun h => .inr (a.hh.free h)⟩
theorem Step.free {Z H Z' H' : Hp} (t : Step Z H Z' H') {p : Addr} {o : HO} (h : H p = some o) (z : Z p = none) : Z' p = none := by
  cases e : Z' p with
  | none => rfl
  | some u =>
    rcases t.zn p u e with q | q
    · rw [z] at q; cases q
    · rw [h] at q; cases q
/-- a new object, laid into Z too -/
theorem Step.new {Z H : Hp} {p : Addr} (o : HO) (s : Same Z H) (n : H p = none) : Step Z H (upd Z p o) (upd H p o) := by
  refine ⟨same_new (Same.refl H) n, same_new (Same.refl Z) (s.free n), fun b u e => ?_, fun b u e => ?_⟩
  · by_cases q : b = p
    · subst q; rw [upd_same] at e ⊢; exact e
    · rw [upd_ne q] at e ⊢; exact s _ _ e
  · by_cases q : b = p
    · subst q; exact .inr n
    · rw [upd_ne q] at e; exact .inl e
/-- a new object that is not laid into Z -/
theorem Step.newH {Z H : Hp} {p : Addr} (o : HO) (s : Same Z H) (n : H p = none) : Step Z H Z (upd H p o) :=
  ⟨same_new (Same.refl H) n, Same.refl Z, fun b u e => by rw [upd_ne (ne_of_none (s b u e) n)]; exact s b u e, fun _ _ h => .inl h⟩
theorem Step.of_same {Z H H' : Hp} (s : Same Z H) (h : Same H H') : Step Z H Z H' := ⟨h, Same.refl Z, s.trans h, fun _ _ h => .inl h⟩
section
variable {G : Gf} {Z H Z' H' : Hp} {σ : L2.St} {ρ : En} {s : S}
theorem Gf.Free.step {p : Addr} {o : HO} (f : G.Free Z p) (t : Step Z H Z' H') (e : H p = some o) : G.Free Z' p := ⟨t.free e f.z, f.h, f.d⟩
theorem HandAt.mono {a l : Addr} {st : HS} (h : HandAt H a l st) (e : Same H H') : HandAt H' a l st := ⟨e _ _ h.ea, e _ _ h.el, h.ne⟩
theorem SlOk.step (t : Step Z H Z' H') {i : Nat} : ∀ {x : Sl}, SlOk G Z H σ i x → SlOk G Z' H' σ i x
  | .no, _ => trivial
  | .val _, ⟨v, e, r⟩ => ⟨v, e, r.mono t.zz⟩
  | .own _, ⟨p, vs, e, h, f, n, r⟩ => ⟨p, vs, e, t.hh _ _ h, f.step t h, n, r.mono t.zz⟩
  | .ob _ _, ⟨x, dx, vs, e, q, h, f, r⟩ => ⟨x, dx, vs, e, q, t.hh _ _ h, f.step t h, r.mono t.zz⟩
  | .hand, h => h
  | .exc _ _, ⟨a, d, vs, e, x, h, l, r⟩ => ⟨a, d, vs, e, x, t.zz _ _ h, l, r.mono t.zz⟩
theorem VI.step (I : VI G Z H σ ρ s) (t : Step Z H Z' H') : VI G Z' H' σ ρ s where
  len := I.len
  zh := t.zh
  z0 := I.z0.trans t.zz
  zn := fun p o e => (t.zn p o e).elim (fun h => I.zn p o h) fun h => by
    cases q : G.H0 p with
    | none => exact .inr rfl
    | some u =>
      refine absurd (I.keep p u q (fun q hq e2 => ?_) fun x hx e2 => ?_) (by rw [h]; exact fun z => nomatch z)
      · obtain ⟨st, _, hA, _⟩ := I.hnd q hq
        rw [e2, hA.ea] at h
        cases h
      · rw [e2] at h
        exact I.slf x hx h
  keep := fun b o e ha hx => t.hh _ _ (I.keep b o e ha hx)
  hnd := fun q e => by
    obtain ⟨st, e1, h, z1, z2, hd⟩ := I.hnd q e
    exact ⟨st, e1, h.mono t.hh, t.free h.ea z1, t.free h.el z2, hd⟩
  slf := fun x e z => I.slf x e (t.hh.free z)
  hid := fun q e => ⟨t.hh _ _ (I.hid q e).1, t.free (I.hid q e).1 (I.hid q e).2⟩
  sl := fun i x e => (I.sl i x e).step t
  dis := I.dis
end

section
variable {G : Gf} {Z H Z' H' : Hp} {σ : L2.St} {ρ : En} {s : S}
/-- the slots as they are, others forgotten or renamed -/
theorem VI.slots (I : VI G Z H σ ρ s) {σ' : L2.St} {ρ' : En} (len : ρ'.length = σ'.length) (sl : ∀ i x, ρ'[i]? = some x → SlOk G Z H σ' i x)
    (dis : ∀ i j p, i ≠ j → OwnAt ρ' i → OwnAt ρ' j → σ'[i]? = some (some (.ref p)) → σ'[j]? ≠ some (some (.ref p))) : VI G Z H σ' ρ' s :=
  { I with len := len, sl := sl, dis := dis }
theorem ownAt_set_val {ρ : En} {i j : Nat} {d : D} (h : OwnAt (ρ.set i (.val d)) j) : j ≠ i ∧ OwnAt ρ j := by
  unfold OwnAt at h
  by_cases e : i = j
  · subst e
    rw [List.getElem?_set_self'] at h
    cases q : ρ[i]? with
    | none => rw [q] at h; exact h.elim
    | some x => rw [q] at h; exact h.elim
  · rw [List.getElem?_set_ne e] at h
    exact ⟨Ne.symm e, h⟩
theorem slOk_other {i j : Nat} {v : Option V} (n : i ≠ j) : ∀ {x : Sl}, SlOk G Z H σ j x → SlOk G Z H (σ.set i v) j x
  | .no, _ => trivial
  | .val _, ⟨u, e, r⟩ => ⟨u, (List.getElem?_set_ne n).trans e, r⟩
  | .own _, ⟨p, vs, e, r⟩ => ⟨p, vs, (List.getElem?_set_ne n).trans e, r⟩
  | .ob _ _, ⟨x, dx, vs, e, r⟩ => ⟨x, dx, vs, (List.getElem?_set_ne n).trans e, r⟩
  | .hand, ⟨q, h, e⟩ => ⟨q, h, (List.getElem?_set_ne n).trans e⟩
  | .exc _ _, ⟨a, d, vs, e, r⟩ => ⟨a, d, vs, (List.getElem?_set_ne n).trans e, r⟩
/-- a value into a slot -/
theorem VI.setVal (I : VI G Z H σ ρ s) {i : Nat} {v : V} {d : D} (r : Rp G.B Z v d) : VI G Z H (σ.set i (some v)) (ρ.set i (.val d)) s := by
  refine I.slots (by rw [List.length_set, List.length_set, I.len]) (fun j x e => ?_) fun j k p n oj ok e => ?_
  · by_cases q : i = j
    · subst q
      rw [List.getElem?_set_self'] at e
      cases h : ρ[i]? with
      | none => rw [h] at e; cases e
      | some y =>
        rw [h] at e
        cases e
        have hl : i < σ.length := by
          have := (List.getElem?_eq_some_iff.mp h).1
          rw [I.len] at this
          exact this
        exact ⟨v, by rw [List.getElem?_set_self hl], r⟩
    · rw [List.getElem?_set_ne q] at e
      exact slOk_other q (I.sl j x e)
  · obtain ⟨n1, o1⟩ := ownAt_set_val oj
    obtain ⟨n2, o2⟩ := ownAt_set_val ok
    rw [List.getElem?_set_ne (Ne.symm n1)] at e
    rw [List.getElem?_set_ne (Ne.symm n2)]
    exact I.dis j k p n o1 o2 e
theorem ownAt_set_no {ρ : En} {i j : Nat} (h : OwnAt (ρ.set i .no) j) : j ≠ i ∧ OwnAt ρ j := by
  unfold OwnAt at h
  by_cases e : i = j
  · subst e
    rw [List.getElem?_set_self'] at h
    cases q : ρ[i]? with
    | none => rw [q] at h; exact h.elim
    | some x => rw [q] at h; exact h.elim
  · rw [List.getElem?_set_ne e] at h
    exact ⟨Ne.symm e, h⟩
/-- a slot forgotten, whatever stands there -/
theorem VI.setNo (I : VI G Z H σ ρ s) {i : Nat} {v : Option V} : VI G Z H (σ.set i v) (ρ.set i .no) s := by
  refine I.slots (by rw [List.length_set, List.length_set, I.len]) (fun j x e => ?_) fun j k p n oj ok e => ?_
  · by_cases q : i = j
    · subst q
      rw [List.getElem?_set_self'] at e
      cases h : ρ[i]? with
      | none => rw [h] at e; cases e
      | some y => rw [h] at e; cases e; exact trivial
    · rw [List.getElem?_set_ne q] at e
      exact slOk_other q (I.sl j x e)
  · obtain ⟨n1, o1⟩ := ownAt_set_no oj
    obtain ⟨n2, o2⟩ := ownAt_set_no ok
    rw [List.getElem?_set_ne (Ne.symm n1)] at e
    rw [List.getElem?_set_ne (Ne.symm n2)]
    exact I.dis j k p n o1 o2 e
end
end Vv

/-! ## expressions -/
namespace Vv
def ExOk (G : Gf) (W : WX) (σ : L2.St) (ρ : En) (Z : Hp) (c : Nat) (fs : List D) (s : S) : Prop :=
  ∀ d vs Z' H', VI G Z' H' σ ρ s → Same Z Z' → Z' d = some (.xd ((G.B.fld c).zip vs)) → vs.length = (G.B.fld c).length → Rps G.B Z' vs fs → W (.ref (G.B.cls c)) (some d) σ H'
def ROk (G : Gf) (W : WX) (σ : L2.St) (ρ : En) (Z : Hp) {α : Type} (r : R α) (k : α → S → Prop) : Prop := match r with
  | .ok x s => k x s
  | .exc c fs s => ExOk G W σ ρ Z c fs s
  | .bad => False
def tV (G : Gf) (W : WX) (f : Ef) : TE := fun σ H Q => ∃ Z ρ s, VI G Z H σ ρ s ∧ ROk G W σ ρ Z (f ρ s) fun d s' => ∀ v Z' H', VI G Z' H' σ ρ s' → Same Z Z' → Rp G.B Z' v d → Q v H'
def tVA (G : Gf) (W : WX) (f : Af) : TA := fun σ H Q => ∃ Z ρ s, VI G Z H σ ρ s ∧ ROk G W σ ρ Z (f ρ s) fun ds s' => ∀ vs Z' H', VI G Z' H' σ ρ s' → Same Z Z' → Rps G.B Z' vs ds → Q vs H'
def tVT (G : Gf) (W : WX) (f : Tf) : TT := fun σ H Q => ∃ Z ρ s, VI G Z H σ ρ s ∧ ROk G W σ ρ Z (f ρ s) fun b s' => ∀ Z' H', VI G Z' H' σ ρ s' → Same Z Z' → Q b H'
def VE (B : Tb) (u : Option (Addr × Value × Option Addr)) (X : Cx) (W : WX) (e : Expr) (f : Ef) : Prop := ∀ G : Gf, G.B = B ∧ G.ux = u → PE X e (tV G W f)
def VA (B : Tb) (u : Option (Addr × Value × Option Addr)) (X : Cx) (W : WX) (es : List Expr) (f : Af) : Prop := ∀ G : Gf, G.B = B ∧ G.ux = u → PA X es (tVA G W f)
def VT (B : Tb) (u : Option (Addr × Value × Option Addr)) (X : Cx) (W : WX) (e : Expr) (f : Tf) : Prop := ∀ G : Gf, G.B = B ∧ G.ux = u → PT X e (tVT G W f)
def VW (B : Tb) (u : Option (Addr × Value × Option Addr)) (X : Cx) (W : WX) (e : Expr) (f : Tf) : Prop := ∀ G : Gf, G.B = B ∧ G.ux = u → PW X e (tVT G W f)
section
variable {G : Gf} {W : WX} {σ : L2.St} {ρ : En} {Z Z1 H : Hp}
theorem ExOk.up {c : Nat} {fs : List D} {s : S} (z : Same Z Z1) (h : ExOk G W σ ρ Z c fs s) : ExOk G W σ ρ Z1 c fs s :=
  fun d vs Z' H' I z1 e l r => h d vs Z' H' I (z.trans z1) e l r
theorem ROk.up {α : Type} {r : R α} {k k' : α → S → Prop} (z : Same Z Z1) (h : ROk G W σ ρ Z r k) (w : ∀ x s, k x s → k' x s) : ROk G W σ ρ Z1 r k' := by
  cases r with
  | ok x s => exact w x s h
  | exc c fs s => exact ExOk.up z h
  | bad => exact h
theorem ROk.bind {α β : Type} {r : R α} {k : α → S → R β} {P : β → S → Prop} (h : ROk G W σ ρ Z (r.bind k) P) : ROk G W σ ρ Z r fun x s => ROk G W σ ρ Z (k x s) P := by
  cases r with
  | ok x s => exact h
  | exc c fs s => exact h
  | bad => exact h
end
theorem pe_mono {X : Cx} {e : Expr} {t t' : TE} (h : PE X e t) (m : ∀ σ H Q, t' σ H Q → t σ H Q) : PE X e t' := ⟨fun pins s σ H Q I q => h.run pins s σ H Q I (m σ H Q q)⟩
theorem pt_mono {X : Cx} {e : Expr} {t t' : TT} (h : PT X e t) (m : ∀ σ H Q, t' σ H Q → t σ H Q) : PT X e t' := ⟨fun pins s σ H Q I q => h.run pins s σ H Q I (m σ H Q q)⟩
theorem pw_mono {X : Cx} {e : Expr} {t t' : TT} (h : PW X e t) (m : ∀ σ H Q, t' σ H Q → t σ H Q) : PW X e t' := ⟨fun wh pins s σ H Q I q => h.run wh pins s σ H Q I (m σ H Q q)⟩
theorem pa_mono {X : Cx} {es : List Expr} {t t' : TA} (h : PA X es t) (m : ∀ σ H Q, t' σ H Q → t σ H Q) : PA X es t' := ⟨fun pos pins s σ H Q I q => h.run pos pins s σ H Q I (m σ H Q q)⟩
def opt {α : Type} (o : Option α) (s : S) : R α := match o with
  | some d => .ok d s
  | none => .bad
theorem ROk.opt {G : Gf} {W : WX} {σ : L2.St} {ρ : En} {Z : Hp} {α : Type} {o : Option α} {s : S} {k : α → S → Prop} (h : ROk G W σ ρ Z (opt o s) k) : ∃ d, o = some d ∧ k d s := by
  cases o with
  | some d => exact ⟨d, rfl, h⟩
  | none => exact h.elim
section
variable {B : Tb} {u : Option (Addr × Value × Option Addr)} {X : Cx} {W : WX}
/-- what stands in slot i -/
def eN (i : Nat) : Ef := fun ρ s => match ρ[i]? with
  | some (.val d) => .ok d s
  | _ => .bad
def eC (d : D) : Ef := fun _ s => .ok d s
theorem ve_n (i : Nat) {x : Str} {pos : Pos} (hN : X.N[i]? = some x := by rfl) (hv : Vis X.env.scope x := by first | exact Or.inl rfl | exact Or.inr (Or.inl rfl) | exact Or.inr (Or.inr rfl)) (hd : (x == ("__debug__" : Str)) = false := by decide)
    (hcd : (x == ("__classdict__" : Str)) = false := by decide) : VE B u X W (.Name x pos) (eN i) := by
  intro G hG
  obtain ⟨rfl, rfl⟩ := hG
  refine pe_mono (pe_var hN hv hd hcd) fun σ H Q ⟨Z, ρ, s, I, h⟩ => ?_
  unfold eN at h
  cases e : ρ[i]? with
  | none => rw [e] at h; exact h.elim
  | some x =>
    rw [e] at h
    cases x with
    | val d =>
      obtain ⟨v, e2, r⟩ := I.sl i _ e
      exact ⟨v, e2, h v Z H I (Same.refl Z) r⟩
    | _ => exact h.elim
theorem ve_c {e : Expr} {v : V} {d : D} (h : PE X e (tC v)) (r : ∀ Z, Rp B Z v d) : VE B u X W e (eC d) := by
  intro G hG
  obtain ⟨rfl, rfl⟩ := hG
  exact pe_mono h fun σ H Q ⟨Z, ρ, s, I, h⟩ => h v Z H I (Same.refl Z) (r Z)
theorem ve_int {i : Int} {j pos} : VE B u X W (.Constant (.int i) j pos) (eC (.int i)) := ve_c pe_int fun _ => .int i
theorem ve_bl {b : Bool} {j pos} : VE B u X W (.Constant (.bool b) j pos) (eC (.bl b)) := ve_c pe_bl fun _ => .bl b
theorem ve_non {j pos} : VE B u X W (.Constant .none j pos) (eC .non) := ve_c pe_non fun _ => .non
theorem ve_s (l : List Nat) {x : Str} {j pos} (h : x = sOf l) : VE B u X W (.Constant (.str x) j pos) (eC (.str l)) := ve_c (pe_s l h) fun _ => .str l
/-! two operands -/
structure Op2 (B : Tb) (r : R2) (g : D → D → Option D) : Prop where
  run : ∀ {Z H : Hp} {x y : V} {dx dy d : D} {Q : VK}, Same Z H → Rp B Z x dx → Rp B Z y dy → g dx dy = some d → (∀ v Z' H', Step Z H Z' H' → Rp B Z' v d → Q v H') → r x y H Q
structure Op1 (B : Tb) (r : V → Hp → VK → Prop) (g : D → Option D) : Prop where
  run : ∀ {Z H : Hp} {x : V} {dx d : D} {Q : VK}, Same Z H → Rp B Z x dx → g dx = some d → (∀ v Z' H', Step Z H Z' H' → Rp B Z' v d → Q v H') → r x H Q
structure OpN (B : Tb) (r : List V → Hp → VK → Prop) (g : List D → Option D) : Prop where
  run : ∀ {Z H : Hp} {xs : List V} {ds : List D} {d : D} {Q : VK}, Same Z H → Rps B Z xs ds → g ds = some d → (∀ v Z' H', Step Z H Z' H' → Rp B Z' v d → Q v H') → r xs H Q
def eOp2 (g : D → D → Option D) (fa fb : Ef) : Ef := fun ρ s => (fa ρ s).bind fun x s1 => (fb ρ s1).bind fun y s2 => opt (g x y) s2
def eOp1 (g : D → Option D) (fa : Ef) : Ef := fun ρ s => (fa ρ s).bind fun x s1 => opt (g x) s1
def eOpN (g : List D → Option D) (fa : Af) : Ef := fun ρ s => (fa ρ s).bind fun x s1 => opt (g x) s1
theorem op2_of {G : Gf} {r : R2} {g : D → D → Option D} {fa fb : Ef} (O : Op2 G.B r g) {σ : L2.St} {H : Hp} {Q : VK} (h : tV G W (eOp2 g fa fb) σ H Q) : tOp r (tV G W fa) (tV G W fb) σ H Q := by
  obtain ⟨Z, ρ, s, I, h⟩ := h
  refine ⟨Z, ρ, s, I, h.bind.up (Same.refl Z) fun x s1 h1 v Z1 H1 I1 z1 rv => ?_⟩
  refine ⟨Z1, ρ, s1, I1, h1.bind.up z1 fun y s2 h2 v2 Z2 H2 I2 z2 ru => ?_⟩
  obtain ⟨d, e, k⟩ := h2.opt
  exact O.run I2.zh (rv.mono z2) ru e fun w Z3 H3 t r3 => k w Z3 H3 (I2.step t) (z1.trans (z2.trans t.zz)) r3
theorem op1_of {G : Gf} {r : V → Hp → VK → Prop} {g : D → Option D} {fa : Ef} (O : Op1 G.B r g) {σ : L2.St} {H : Hp} {Q : VK} (h : tV G W (eOp1 g fa) σ H Q) : tV G W fa σ H fun x H1 => r x H1 Q := by
  obtain ⟨Z, ρ, s, I, h⟩ := h
  refine ⟨Z, ρ, s, I, h.bind.up (Same.refl Z) fun x s1 h1 v Z1 H1 I1 z1 rv => ?_⟩
  obtain ⟨d, e, k⟩ := h1.opt
  exact O.run I1.zh rv e fun w Z3 H3 t r3 => k w Z3 H3 (I1.step t) (z1.trans t.zz) r3
theorem opN_of {G : Gf} {r : List V → Hp → VK → Prop} {g : List D → Option D} {fa : Af} (O : OpN G.B r g) {σ : L2.St} {H : Hp} {Q : VK} (h : tV G W (eOpN g fa) σ H Q) : tVA G W fa σ H fun x H1 => r x H1 Q := by
  obtain ⟨Z, ρ, s, I, h⟩ := h
  refine ⟨Z, ρ, s, I, h.bind.up (Same.refl Z) fun x s1 h1 v Z1 H1 I1 z1 rv => ?_⟩
  obtain ⟨d, e, k⟩ := h1.opt
  exact O.run I1.zh rv e fun w Z3 H3 t r3 => k w Z3 H3 (I1.step t) (z1.trans t.zz) r3
variable {a b : Expr} {pos : Pos} {fa fb : Ef}
theorem ve_op {op : Operator} {r : R2} {g : D → D → Option D} (ho : OpR X (binaryOp op) r) (O : Op2 B r g) (ha : VE B u X W a fa) (hb : VE B u X W b fb) : VE B u X W (.BinOp a op b pos) (eOp2 g fa fb) := by
  intro G hG
  obtain ⟨rfl, rfl⟩ := hG
  exact pe_mono (pe_op ho (ha G ⟨rfl, rfl⟩) (hb G ⟨rfl, rfl⟩)) fun _ _ _ h => op2_of O h
theorem ve_cmp {op : CmpOp} {r : R2} {g : D → D → Option D} (ho : OpR X (compareOp op) r) (O : Op2 B r g) (ha : VE B u X W a fa) (hb : VE B u X W b fb) (hm : behindInMarks op b = false) : VE B u X W (.Compare a [op] [b] pos) (eOp2 g fa fb) := by
  intro G hG
  obtain ⟨rfl, rfl⟩ := hG
  exact pe_mono (pe_cmpR ho (ha G ⟨rfl, rfl⟩) (hb G ⟨rfl, rfl⟩) hm) fun _ _ _ h => op2_of O h
theorem ve_un {op : UnaryOp} {r : V → Hp → VK → Prop} {g : D → Option D} (ho : UnR X (unaryOp op) r) (O : Op1 B r g) (ha : VE B u X W a fa) : VE B u X W (.UnaryOp op a pos) (eOp1 g fa) := by
  intro G hG
  obtain ⟨rfl, rfl⟩ := hG
  exact pe_mono (pe_un ho (ha G ⟨rfl, rfl⟩)) fun _ _ _ h => op1_of O h
theorem ve_ix {r : R2} {g : D → D → Option D} (hr : IxR X r) (O : Op2 B r g) (ha : VE B u X W a fa) (hb : VE B u X W b fb) (hs : PlainIx b) : VE B u X W (.Subscript a b pos) (eOp2 g fa fb) := by
  intro G hG
  obtain ⟨rfl, rfl⟩ := hG
  exact pe_mono (pe_ix hr (ha G ⟨rfl, rfl⟩) (hb G ⟨rfl, rfl⟩) hs) fun _ _ _ h => op2_of O h
/-! arguments -/
def aNil : Af := fun _ s => .ok [] s
def aCons (fa : Ef) (fr : Af) : Af := fun ρ s => (fa ρ s).bind fun x s1 => (fr ρ s1).bind fun xs s2 => .ok (x :: xs) s2
theorem va_nil : VA B u X W [] aNil := by
  intro G hG
  exact pa_mono pa_nil fun _ _ _ ⟨Z, ρ, s, I, h⟩ => h [] Z _ I (Same.refl Z) .nil
theorem va_cons {e : Expr} {es : List Expr} {fe : Ef} {fr : Af} (he : VE B u X W e fe) (hr : VA B u X W es fr) (hs : starEach (e :: es) X.env = (false, eval e X.env) :: starEach es X.env := by rfl) : VA B u X W (e :: es) (aCons fe fr) := by
  intro G hG
  refine pa_mono (pa_cons (he G hG) (hr G hG) hs) fun σ H Q ⟨Z, ρ, s, I, h⟩ => ?_
  refine ⟨Z, ρ, s, I, h.bind.up (Same.refl Z) fun x s1 h1 v Z1 H1 I1 z1 rv => ?_⟩
  exact ⟨Z1, ρ, s1, I1, h1.bind.up z1 fun xs s2 h2 vs Z2 H2 I2 z2 rs => h2 (v :: vs) Z2 H2 I2 (z1.trans z2) (.cons (rv.mono z2) rs)⟩
def fit (n : Nat) : Bool := decide (n ≤ 100000)
theorem fit_le {n : Nat} (h : fit n = true) : n ≤ sizeLine := by
  have := of_decide_eq_true h
  rw [sizeLine_eq]; omega
theorem fit_lt {n : Nat} (h : fit n = true) : n < sizeLine := by
  have := of_decide_eq_true h
  rw [sizeLine_eq]; omega
def gTupD (ds : List D) : Option D := if fit ds.length then some (.tup ds) else none
def gLstD (ds : List D) : Option D := if fit ds.length then some (.lst ds) else none
theorem ite_some {α : Type} {c : Bool} {x y : α} (h : (if c then some x else none) = some y) : c = true ∧ x = y := by
  cases c with
  | true => exact ⟨rfl, Option.some.inj h⟩
  | false => cases h
theorem new_tup {Z H : Hp} {p : Addr} {xs : List V} {ds : List D} (z : Same Z H) (n : H p = none) (r : Rps B Z xs ds) : Rp B (upd Z p (.tup xs)) (.ref p) (.tup ds) :=
  .tup (SqT.of upd_same) (r.mono (same_new (Same.refl Z) (z.free n)))
theorem new_lst {Z H : Hp} {p : Addr} {xs : List V} {ds : List D} (z : Same Z H) (n : H p = none) (r : Rps B Z xs ds) : Rp B (upd Z p (.lst xs)) (.ref p) (.lst ds) :=
  .lst upd_same (r.mono (same_new (Same.refl Z) (z.free n)))
def rTup : List V → Hp → VK → Prop := fun xs H Q => xs.length ≤ sizeLine ∧ ∀ p, H p = none → Q (.ref p) (upd H p (.tup xs))
def rLst : List V → Hp → VK → Prop := fun xs H Q => xs.length ≤ sizeLine ∧ ∀ p, H p = none → Q (.ref p) (upd H p (.lst xs))
theorem ve_tup {es : List Expr} {k : Nat} {f : Af} (h : VA B u X W es f) : VE B u X W (.Tuple es k pos) (eOpN gTupD f) := by
  intro G hG
  obtain ⟨rfl, rfl⟩ := hG
  refine pe_mono (pe_tup (h G ⟨rfl, rfl⟩)) fun σ H Q hq => ?_
  refine opN_of (r := rTup) ⟨fun {Z H xs ds d Q} z r e k => ?_⟩ hq
  obtain ⟨f, rfl⟩ := ite_some e
  exact ⟨fit_le (by rw [r.len]; exact f), fun p n => k _ _ _ (Step.new _ z n) (new_tup z n r)⟩
theorem ve_lst {es : List Expr} {f : Af} (h : VA B u X W es f) : VE B u X W (.List es pos) (eOpN gLstD f) := by
  intro G hG
  obtain ⟨rfl, rfl⟩ := hG
  refine pe_mono (pe_lst (h G ⟨rfl, rfl⟩)) fun σ H Q hq => ?_
  refine opN_of (r := rLst) ⟨fun {Z H xs ds d Q} z r e k => ?_⟩ hq
  obtain ⟨f, rfl⟩ := ite_some e
  exact ⟨fit_le (by rw [r.len]; exact f), fun p n => k _ _ _ (Step.new _ z n) (new_lst z n r)⟩
/-! tests -/
def truD : D → Option Bool
  | .non => some false
  | .bl b => some b
  | .int i => some (i != 0)
  | .str l => if fit l.length then some (!l.isEmpty) else none
  | .tup l => some (!l.isEmpty)
  | .lst l => some (!l.isEmpty)
  | _ => none
def tT (f : Ef) : Tf := fun ρ s => (f ρ s).bind fun x s1 => opt (truD x) s1
theorem Rps.empty {Z : Hp} {vs : List V} {ds : List D} (r : Rps B Z vs ds) : vs.isEmpty = ds.isEmpty := by cases r <;> rfl
theorem tru_of {K : PySem.W.Frag} (hK : K = B.K) {Z H : Hp} {x : V} {d : D} {k : Bool} (z : Same Z H) (r : Rp B Z x d) (e : truD d = some k) : TruV K x H k := by
  subst hK
  cases r with
  | non => cases e; rfl
  | bl b => cases e; rfl
  | int i => cases e; rfl
  | str l =>
    obtain ⟨f, rfl⟩ := ite_some e
    refine ⟨fit_le (by rw [sOf_len]; exact f), ?_⟩
    rw [sOf_len]
    cases l with
    | nil => rfl
    | cons c l => rfl
  | ty n => cases e
  | dic0 _ => cases e
  | cl c => cases e
  | tup h r => cases e; exact .inr (.inl ⟨_, seqT_mono z h, by rw [r.empty]⟩)
  | lst h r => cases e; exact .inl ⟨_, .inl (.inl (z _ _ h)), by rw [r.empty]⟩
  | obj h hl r => cases e
theorem vt_val (hK : X.K = B.K) (ha : VE B u X W a fa) (he : ∀ whole, isTrue a X.env whole = (do let v ← whole; standAt a.pos; holding [v] (truthy v))) : VT B u X W a (tT fa) := by
  intro G hG
  obtain ⟨rfl, rfl⟩ := hG
  refine pt_mono (pt_truth (ha G ⟨rfl, rfl⟩) he) fun σ H Q ⟨Z, ρ, s, I, h⟩ => ?_
  refine ⟨Z, ρ, s, I, h.bind.up (Same.refl Z) fun x s1 h1 v Z1 H1 I1 z1 rv => ?_⟩
  obtain ⟨k, e, q⟩ := h1.opt
  exact ⟨k, tru_of hK I1.zh rv e, q Z1 H1 I1 z1⟩
def blD : D → Option Bool
  | .bl b => some b
  | _ => none
def tB2 (f : Ef) : Tf := fun ρ s => (f ρ s).bind fun x s1 => opt (blD x) s1
theorem blD_of {Z : Hp} {x : V} {d : D} {k : Bool} (r : Rp B Z x d) (e : blD d = some k) : x = .bl k ∧ d = .bl k := by
  cases d <;> cases e
  cases r
  exact ⟨rfl, rfl⟩
theorem vt_cmp {op : CmpOp} {r : R2} {g : D → D → Option D} (ho : OpR X (compareOp op) r) (O : Op2 B r g) (ha : VE B u X W a fa) (hb : VE B u X W b fb) (hm : behindInMarks op b = false) : VT B u X W (.Compare a [op] [b] pos) (tB2 (eOp2 g fa fb)) := by
  intro G hG
  obtain ⟨rfl, rfl⟩ := hG
  refine pt_mono (pt_cmpR ho (ha G ⟨rfl, rfl⟩) (hb G ⟨rfl, rfl⟩) hm) fun σ H Q ⟨Z, ρ, s, I, h⟩ => ?_
  refine op2_of (Q := fun x H' => ∃ k, x = .bl k ∧ Q k H') O ⟨Z, ρ, s, I, h.bind.up (Same.refl Z) fun x s1 h1 v Z1 H1 I1 z1 rv => ?_⟩
  obtain ⟨k, e, q⟩ := h1.opt
  exact ⟨k, (blD_of rv e).1, q Z1 H1 I1 z1⟩
def tAndD (f g : Tf) : Tf := fun ρ s => (f ρ s).bind fun b s1 => if b then g ρ s1 else .ok false s1
def tOrD (f g : Tf) : Tf := fun ρ s => (f ρ s).bind fun b s1 => if b then .ok true s1 else g ρ s1
def tNotD (f : Tf) : Tf := fun ρ s => (f ρ s).bind fun b s1 => .ok (!b) s1
variable {ft fu : Tf} {rest : List Expr}
theorem VW.vt {e : Expr} (h : VW B u X W e ft) : VT B u X W e ft := fun G hG => (h G hG).pt
theorem vw_and1 (ha : VT B u X W a ft) : VW B u X W (.BoolOp .And [a] pos) ft := fun G hG => pw_and1 (ha G hG)
theorem vw_or1 (ha : VT B u X W a ft) : VW B u X W (.BoolOp .Or [a] pos) ft := fun G hG => pw_or1 (ha G hG)
theorem vw_and (ha : VT B u X W a ft) (hb : VW B u X W (.BoolOp .And (b :: rest) pos) fu) : VW B u X W (.BoolOp .And (a :: b :: rest) pos) (tAndD ft fu) := by
  intro G hG
  refine pw_mono (pw_and (ha G hG) (hb G hG)) fun σ H Q ⟨Z, ρ, s, I, h⟩ => ?_
  refine ⟨Z, ρ, s, I, h.bind.up (Same.refl Z) fun c s1 h1 Z1 H1 I1 z1 => ?_⟩
  cases c with
  | true => exact ⟨Z1, ρ, s1, I1, ROk.up (r := fu ρ s1) z1 h1 fun b s2 h2 Z2 H2 I2 z2 => h2 Z2 H2 I2 (z1.trans z2)⟩
  | false => exact h1 Z1 H1 I1 z1
theorem vw_or (ha : VT B u X W a ft) (hb : VW B u X W (.BoolOp .Or (b :: rest) pos) fu) : VW B u X W (.BoolOp .Or (a :: b :: rest) pos) (tOrD ft fu) := by
  intro G hG
  refine pw_mono (pw_or (ha G hG) (hb G hG)) fun σ H Q ⟨Z, ρ, s, I, h⟩ => ?_
  refine ⟨Z, ρ, s, I, h.bind.up (Same.refl Z) fun c s1 h1 Z1 H1 I1 z1 => ?_⟩
  cases c with
  | true => exact h1 Z1 H1 I1 z1
  | false => exact ⟨Z1, ρ, s1, I1, ROk.up (r := fu ρ s1) z1 h1 fun b s2 h2 Z2 H2 I2 z2 => h2 Z2 H2 I2 (z1.trans z2)⟩
theorem vt_not (ha : VT B u X W a ft) : VT B u X W (.UnaryOp .Not a pos) (tNotD ft) := by
  intro G hG
  refine pt_mono (pt_not (ha G hG)) fun σ H Q ⟨Z, ρ, s, I, h⟩ => ?_
  exact ⟨Z, ρ, s, I, h.bind⟩
/-- as values -/
def eAnd (f g : Ef) : Ef := fun ρ s => (f ρ s).bind fun x s1 => match x with
  | .bl true => g ρ s1
  | .bl false => .ok (.bl false) s1
  | _ => .bad
def eOr (f g : Ef) : Ef := fun ρ s => (f ρ s).bind fun x s1 => match x with
  | .bl true => .ok (.bl true) s1
  | .bl false => g ρ s1
  | _ => .bad
def notD : D → Option D
  | .bl b => some (.bl (!b))
  | _ => none
theorem ve_one {op} (h : VE B u X W a fa) : VE B u X W (.BoolOp op [a] pos) fa := fun G hG => pe_one (h G hG)
theorem ve_and (ha : VE B u X W a fa) (hb : VE B u X W (.BoolOp .And (b :: rest) pos) fb) : VE B u X W (.BoolOp .And (a :: b :: rest) pos) (eAnd fa fb) := by
  intro G hG
  obtain ⟨rfl, rfl⟩ := hG
  refine pe_mono (pe_and (ha G ⟨rfl, rfl⟩) (hb G ⟨rfl, rfl⟩)) fun σ H Q ⟨Z, ρ, s, I, h⟩ => ?_
  refine ⟨Z, ρ, s, I, h.bind.up (Same.refl Z) fun x s1 h1 v Z1 H1 I1 z1 rv => ?_⟩
  cases rv with
  | bl c =>
    cases c with
    | true => exact ⟨true, rfl, Z1, ρ, s1, I1, ROk.up (r := fb ρ s1) z1 h1 fun b s2 h2 v Z2 H2 I2 z2 => h2 v Z2 H2 I2 (z1.trans z2)⟩
    | false => exact ⟨false, rfl, h1 _ Z1 H1 I1 z1 (.bl false)⟩
  | _ => exact h1.elim
theorem ve_or (ha : VE B u X W a fa) (hb : VE B u X W (.BoolOp .Or (b :: rest) pos) fb) : VE B u X W (.BoolOp .Or (a :: b :: rest) pos) (eOr fa fb) := by
  intro G hG
  obtain ⟨rfl, rfl⟩ := hG
  refine pe_mono (pe_or (ha G ⟨rfl, rfl⟩) (hb G ⟨rfl, rfl⟩)) fun σ H Q ⟨Z, ρ, s, I, h⟩ => ?_
  refine ⟨Z, ρ, s, I, h.bind.up (Same.refl Z) fun x s1 h1 v Z1 H1 I1 z1 rv => ?_⟩
  cases rv with
  | bl c =>
    cases c with
    | true => exact ⟨true, rfl, h1 _ Z1 H1 I1 z1 (.bl true)⟩
    | false => exact ⟨false, rfl, Z1, ρ, s1, I1, ROk.up (r := fb ρ s1) z1 h1 fun b s2 h2 v Z2 H2 I2 z2 => h2 v Z2 H2 I2 (z1.trans z2)⟩
  | _ => exact h1.elim
theorem ve_not (ha : VE B u X W a fa) : VE B u X W (.UnaryOp .Not a pos) (eOp1 notD fa) := by
  intro G hG
  obtain ⟨rfl, rfl⟩ := hG
  refine pe_mono (pe_not (ha G ⟨rfl, rfl⟩)) fun σ H Q ⟨Z, ρ, s, I, h⟩ => ?_
  refine ⟨Z, ρ, s, I, h.bind.up (Same.refl Z) fun x s1 h1 v Z1 H1 I1 z1 rv => ?_⟩
  obtain ⟨d, e, q⟩ := h1.opt
  cases rv with
  | bl c => cases e; exact ⟨c, rfl, q _ Z1 H1 I1 z1 (.bl _)⟩
  | _ => cases e
def eIf (c : Tf) (f g : Ef) : Ef := fun ρ s => (c ρ s).bind fun b s1 => if b then f ρ s1 else g ρ s1
theorem ve_if {c : Expr} (hc : VT B u X W c ft) (ha : VE B u X W a fa) (hb : VE B u X W b fb) : VE B u X W (.IfExp c a b pos) (eIf ft fa fb) := by
  intro G hG
  refine pe_mono (pe_ifExp (hc G hG) (ha G hG) (hb G hG)) fun σ H Q ⟨Z, ρ, s, I, h⟩ => ?_
  refine ⟨Z, ρ, s, I, h.bind.up (Same.refl Z) fun c s1 h1 Z1 H1 I1 z1 => ?_⟩
  cases c with
  | true => exact ⟨Z1, ρ, s1, I1, ROk.up (r := fa ρ s1) z1 h1 fun b s2 h2 v Z2 H2 I2 z2 => h2 v Z2 H2 I2 (z1.trans z2)⟩
  | false => exact ⟨Z1, ρ, s1, I1, ROk.up (r := fb ρ s1) z1 h1 fun b s2 h2 v Z2 H2 I2 z2 => h2 v Z2 H2 I2 (z1.trans z2)⟩
end
end Vv

/-! ## statements -/
namespace Vv
def SOk (G : Gf) (W : WX) (Z : Hp) (D' : Ends) : SR → Prop
  | .nx ρ s => ∀ σ Z' H, VI G Z' H σ ρ s → Same Z Z' → D'.nx σ H
  | .bk ρ s => ∀ σ Z' H, VI G Z' H σ ρ s → Same Z Z' → D'.bk σ H
  | .ct ρ s => ∀ σ Z' H, VI G Z' H σ ρ s → Same Z Z' → D'.ct σ H
  | .rt d s => ∀ v σ ρ Z' H, VI G Z' H σ ρ s → Same Z Z' → Rp G.B Z' v d → D'.rt v H
  | .exc c fs ρ s => ∀ σ, ExOk G W σ ρ Z c fs s
  | .bad => False
def tVS (G : Gf) (W : WX) (g : Sf) : TS := fun D' σ H => ∃ Z ρ s, VI G Z H σ ρ s ∧ SOk G W Z D' (g ρ s)
def VS (B : Tb) (u : Option (Addr × Value × Option Addr)) (X : Cx) (W : WX) (st : Stmt) (g : Sf) : Prop := ∀ G : Gf, G.B = B ∧ G.ux = u → PS X st (tVS G W g)
def VSs (B : Tb) (u : Option (Addr × Value × Option Addr)) (X : Cx) (W : WX) (st : List Stmt) (g : Sf) : Prop := ∀ G : Gf, G.B = B ∧ G.ux = u → PSs X st (tVS G W g)
theorem ps_mono {X : Cx} {st : Stmt} {t t' : TS} (h : PS X st t) (m : ∀ D' σ H, t' D' σ H → t D' σ H) : PS X st t' := ⟨fun pins s σ H D' I q => h.run pins s σ H D' I (m D' σ H q)⟩
theorem pss_mono {X : Cx} {st : List Stmt} {t t' : TS} (h : PSs X st t) (m : ∀ D' σ H, t' D' σ H → t D' σ H) : PSs X st t' := ⟨fun pins s σ H D' I q => h.run pins s σ H D' I (m D' σ H q)⟩
section
variable {G : Gf} {W : WX} {Z Z1 : Hp} {D1 : Ends}
theorem SOk.up {r : SR} (z : Same Z Z1) (h : SOk G W Z D1 r) : SOk G W Z1 D1 r := by
  cases r with
  | nx ρ s => exact fun σ Z' H I z1 => h σ Z' H I (z.trans z1)
  | bk ρ s => exact fun σ Z' H I z1 => h σ Z' H I (z.trans z1)
  | ct ρ s => exact fun σ Z' H I z1 => h σ Z' H I (z.trans z1)
  | rt d s => exact fun v σ ρ Z' H I z1 => h v σ ρ Z' H I (z.trans z1)
  | exc c fs ρ s => exact fun σ => (h σ).up z
  | bad => exact h
theorem SOk.then {r : SR} {k : En → S → SR} {D2 : Ends} (h : SOk G W Z D1 (r.then k)) (hr : D2.rt = D1.rt) (hb : D2.bk = D1.bk) (hc : D2.ct = D1.ct)
    (hn : ∀ ρ s, SOk G W Z D1 (k ρ s) → ∀ σ Z' H, VI G Z' H σ ρ s → Same Z Z' → D2.nx σ H) : SOk G W Z D2 r := by
  cases r with
  | nx ρ s => exact hn ρ s h
  | bk ρ s => exact fun σ Z' H I z => hb ▸ h σ Z' H I z
  | ct ρ s => exact fun σ Z' H I z => hc ▸ h σ Z' H I z
  | rt d s => exact fun v σ ρ Z' H I z r => hr ▸ h v σ ρ Z' H I z r
  | exc c fs ρ s => exact h
  | bad => exact h
theorem SOk.from {α : Type} {r : R α} {ρ : En} {k : α → S → SR} (h : SOk G W Z D1 (r.then ρ k)) (σ : L2.St) : ROk G W σ ρ Z r fun x s => SOk G W Z D1 (k x s) := by
  cases r with
  | ok x s => exact h
  | exc c fs s => exact h σ
  | bad => exact h
end
section
variable {B : Tb} {u : Option (Addr × Value × Option Addr)} {X : Cx} {W : WX} {st : Stmt} {rest : List Stmt} {g g' : Sf} {e : Expr} {f : Ef} {pos : Pos}
def sNil : Sf := fun ρ s => .nx ρ s
def sSeq (g g' : Sf) : Sf := fun ρ s => (g ρ s).then g'
theorem vss_nil : VSs B u X W [] sNil := fun _ _ => pss_mono pss_nil fun _ _ _ ⟨Z, ρ, s, I, h⟩ => h _ Z _ I (Same.refl Z)
theorem vss_cons (h1 : VS B u X W st g) (h2 : VSs B u X W rest g') : VSs B u X W (st :: rest) (sSeq g g') := by
  intro G hG
  refine pss_mono (pss_cons (h1 G hG) (h2 G hG)) fun D' σ H ⟨Z, ρ, s, I, h⟩ => ?_
  exact ⟨Z, ρ, s, I, SOk.then (r := g ρ s) h rfl rfl rfl fun ρ' s' h' σ' Z' H' I' z => ⟨Z', ρ', s', I', h'.up z⟩⟩
theorem vss_one (h : VS B u X W st g) : VSs B u X W [st] g := fun G hG => pss_one (h G hG)
def sRet (f : Ef) : Sf := fun ρ s => (f ρ s).then ρ fun d s1 => .rt d s1
theorem vs_ret (h : VE B u X W e f) : VS B u X W (.Return (some e) pos) (sRet f) := by
  intro G hG
  refine ps_mono (ps_ret (h G hG)) fun D' σ H ⟨Z, ρ, s, I, h⟩ => ⟨Z, ρ, s, I, (SOk.from h σ).up (Same.refl Z) fun d s1 h1 v Z' H' I' z r => h1 v σ ρ Z' H' I' z r⟩
def sRetN : Sf := fun _ s => .rt .non s
theorem vs_retN : VS B u X W (.Return none pos) sRetN := fun _ _ => ps_mono ps_retN fun _ σ H ⟨Z, ρ, s, I, h⟩ => h _ σ ρ Z H I (Same.refl Z) .non
theorem vs_pass : VS B u X W (.Pass pos) sNil := fun _ _ => ps_mono ps_pass fun _ _ _ ⟨Z, ρ, s, I, h⟩ => h _ Z _ I (Same.refl Z)
def sBk : Sf := fun ρ s => .bk ρ s
def sCt : Sf := fun ρ s => .ct ρ s
theorem vs_break : VS B u X W (.Break pos) sBk := fun _ _ => ps_mono ps_break fun _ _ _ ⟨Z, ρ, s, I, h⟩ => h _ Z _ I (Same.refl Z)
theorem vs_continue : VS B u X W (.Continue pos) sCt := fun _ _ => ps_mono ps_continue fun _ _ _ ⟨Z, ρ, s, I, h⟩ => h _ Z _ I (Same.refl Z)
def sExpr (f : Ef) : Sf := fun ρ s => (f ρ s).then ρ fun _ s1 => .nx ρ s1
theorem vs_expr (h : VE B u X W e f) (hs : swapsWith e none pos.line X.env = pure false := by rfl) : VS B u X W (.Expr e pos) (sExpr f) := by
  intro G hG
  refine ps_mono (ps_expr (h G hG) hs) fun D' σ H ⟨Z, ρ, s, I, h⟩ => ⟨Z, ρ, s, I, (SOk.from h σ).up (Same.refl Z) fun d s1 h1 v Z' H' I' z r => h1 σ Z' H' I' z⟩
def sIf (c : Tf) (g g' : Sf) : Sf := fun ρ s => (c ρ s).then ρ fun b s1 => if b then g ρ s1 else g' ρ s1
theorem vs_if {c : Expr} {a b : List Stmt} {fc : Tf} (hc : VT B u X W c fc) (ha : VSs B u X W a g) (hb : VSs B u X W b g') : VS B u X W (.If c a b pos) (sIf fc g g') := by
  intro G hG
  refine ps_mono (ps_if (hc G hG) (ha G hG) (hb G hG)) fun D' σ H ⟨Z, ρ, s, I, h⟩ => ⟨Z, ρ, s, I, (SOk.from h σ).up (Same.refl Z) fun c s1 h1 Z' H' I' z => ?_⟩
  cases c with
  | true => exact ⟨Z', ρ, s1, I', SOk.up z (show SOk G W Z D' (g ρ s1) from h1)⟩
  | false => exact ⟨Z', ρ, s1, I', SOk.up z (show SOk G W Z D' (g' ρ s1) from h1)⟩
/-! targets -/
def wipeE (ρ : En) : List Nat → En
  | [] => ρ
  | v :: vs => (wipeE ρ vs).set v .no
theorem wipeE_len (ρ : En) : ∀ vs : List Nat, (wipeE ρ vs).length = ρ.length
  | [] => rfl
  | v :: vs => by unfold wipeE; rw [List.length_set, wipeE_len ρ vs]
def WpE (is : List Nat) (ρ ρ' : En) : Prop := ∀ vs : List Nat, (∀ i ∈ is, i ∈ vs) → wipeE ρ' vs = wipeE ρ vs
def Wp (is : List Nat) (σ σ' : L2.St) : Prop := ∀ vs : List Nat, (∀ i ∈ is, i ∈ vs) → wipe σ' vs = wipe σ vs
def VGok (B : Tb) (is : List Nat) (g : TG) (gt : D → En → Option En) : Prop := ∀ (G : Gf) (Z H : Hp) (σ : L2.St) (ρ : En) (s : S) (v : V) (d : D) (ρ' : En) (Q : L2.St → Hp → Prop), G.B = B → VI G Z H σ ρ s → Rp B Z v d → gt d ρ = some ρ' → (∀ σ', VI G Z H σ' ρ' s → Wp is σ σ' → WpE is ρ ρ' → Q σ' H) → g v σ H Q
def VG (B : Tb) (X : Cx) (is : List Nat) (tg : Expr) (gt : D → En → Option En) : Prop := ∃ g, PG X tg g ∧ VGok B is g gt
def VGsok (B : Tb) (is : List Nat) (g : TGs) (gt : List D → En → Option En) : Prop := ∀ (G : Gf) (Z H : Hp) (σ : L2.St) (ρ : En) (s : S) (vs : List V) (ds : List D) (ρ' : En) (Q : L2.St → Hp → Prop), G.B = B → VI G Z H σ ρ s → Rps B Z vs ds → gt ds ρ = some ρ' → (∀ σ', VI G Z H σ' ρ' s → Wp is σ σ' → WpE is ρ ρ' → Q σ' H) → g vs σ H Q
def VGs (B : Tb) (X : Cx) (is : List Nat) (tgs : List Expr) (gt : List D → En → Option En) : Prop := ∃ g, PGs X tgs g ∧ VGsok B is g gt
def gtN (i : Nat) : D → En → Option En := fun d ρ => some (ρ.set i (.val d))
def gtNil : List D → En → Option En := fun ds ρ => if ds.isEmpty then some ρ else none
def gtCons (gt : D → En → Option En) (gr : List D → En → Option En) : List D → En → Option En
  | [], _ => none
  | d :: ds, ρ => (gt d ρ).bind fun ρ' => gr ds ρ'
def gtT (n : Nat) (gt : List D → En → Option En) : D → En → Option En
  | .tup ds, ρ => if ds.length = n then gt ds ρ else none
  | _, _ => none
theorem set_comm2 {α : Type} {l : List α} {x y : α} {i j : Nat} (n : i ≠ j) : (l.set i x).set j y = (l.set j y).set i x := by
  refine List.ext_getElem? fun k => ?_
  by_cases a : j = k
  · subst a
    by_cases b : j < l.length
    · rw [List.getElem?_set_self (by rw [List.length_set]; exact b), List.getElem?_set_ne n, List.getElem?_set_self b]
    · rw [List.getElem?_eq_none (by rw [List.length_set, List.length_set]; omega), List.getElem?_eq_none (by rw [List.length_set, List.length_set]; omega)]
  · rw [List.getElem?_set_ne a]
    by_cases c : i = k
    · subst c
      by_cases b : i < l.length
      · rw [List.getElem?_set_self b, List.getElem?_set_self (by rw [List.length_set]; exact b)]
      · rw [List.getElem?_eq_none (by rw [List.length_set]; omega), List.getElem?_eq_none (by rw [List.length_set, List.length_set]; omega)]
    · rw [List.getElem?_set_ne c, List.getElem?_set_ne c, List.getElem?_set_ne a]
theorem set_twice {α : Type} {l : List α} {x y : α} {i : Nat} : (l.set i x).set i y = l.set i y := List.set_set ..
theorem wipe_set1 {σ : L2.St} {i : Nat} {x : Option V} : ∀ vs : List Nat, (i ∉ vs → wipe (σ.set i x) vs = (wipe σ vs).set i x) ∧ (i ∈ vs → wipe (σ.set i x) vs = wipe σ vs)
  | [] => ⟨fun _ => rfl, fun h => by simp at h⟩
  | v :: vs => by
    obtain ⟨h1, h2⟩ := wipe_set1 (σ := σ) (i := i) (x := x) vs
    refine ⟨fun n => ?_, fun m => ?_⟩
    · have a : i ≠ v := fun e => n (by rw [e]; exact List.mem_cons_self)
      show (wipe (σ.set i x) vs).set v none = ((wipe σ vs).set v none).set i x
      rw [h1 fun q => n (List.mem_cons_of_mem _ q), set_comm2 a]
    · show (wipe (σ.set i x) vs).set v none = (wipe σ vs).set v none
      by_cases e : i ∈ vs
      · rw [h2 e]
      · have e2 : i = v := (List.mem_cons.mp m).resolve_right e
        rw [h1 e, e2, set_twice]
theorem wipe_set {σ : L2.St} {i : Nat} {x : Option V} {vs : List Nat} (h : i ∈ vs) : wipe (σ.set i x) vs = wipe σ vs := (wipe_set1 vs).2 h
theorem wipeE_set1 {ρ : En} {i : Nat} {x : Sl} : ∀ vs : List Nat, (i ∉ vs → wipeE (ρ.set i x) vs = (wipeE ρ vs).set i x) ∧ (i ∈ vs → wipeE (ρ.set i x) vs = wipeE ρ vs)
  | [] => ⟨fun _ => rfl, fun h => by simp at h⟩
  | v :: vs => by
    obtain ⟨h1, h2⟩ := wipeE_set1 (ρ := ρ) (i := i) (x := x) vs
    refine ⟨fun n => ?_, fun m => ?_⟩
    · have a : i ≠ v := fun e => n (by rw [e]; exact List.mem_cons_self)
      show (wipeE (ρ.set i x) vs).set v Sl.no = ((wipeE ρ vs).set v Sl.no).set i x
      rw [h1 fun q => n (List.mem_cons_of_mem _ q), set_comm2 a]
    · show (wipeE (ρ.set i x) vs).set v Sl.no = (wipeE ρ vs).set v Sl.no
      by_cases e : i ∈ vs
      · rw [h2 e]
      · have e2 : i = v := (List.mem_cons.mp m).resolve_right e
        rw [h1 e, e2, set_twice]
theorem wipeE_set {ρ : En} {i : Nat} {x : Sl} {vs : List Nat} (h : i ∈ vs) : wipeE (ρ.set i x) vs = wipeE ρ vs := (wipeE_set1 vs).2 h
theorem WpE.set {i : Nat} {ρ : En} {x : Sl} : WpE [i] ρ (ρ.set i x) := fun _ h => wipeE_set (h i List.mem_cons_self)
theorem WpE.refl {is : List Nat} {ρ : En} : WpE is ρ ρ := fun _ _ => rfl
theorem WpE.app {is js : List Nat} {ρ ρ1 ρ2 : En} (a : WpE is ρ ρ1) (b : WpE js ρ1 ρ2) : WpE (is ++ js) ρ ρ2 := fun vs h => (b vs fun i hi => h i (List.mem_append_right _ hi)).trans (a vs fun i hi => h i (List.mem_append_left _ hi))
theorem Wp.set {i : Nat} {σ : L2.St} {x : Option V} : Wp [i] σ (σ.set i x) := fun _ h => wipe_set (h i List.mem_cons_self)
theorem Wp.refl {is : List Nat} {σ : L2.St} : Wp is σ σ := fun _ _ => rfl
theorem Wp.app {is js : List Nat} {σ σ1 σ2 : L2.St} (a : Wp is σ σ1) (b : Wp js σ1 σ2) : Wp (is ++ js) σ σ2 := fun vs h => (b vs fun i hi => h i (List.mem_append_right _ hi)).trans (a vs fun i hi => h i (List.mem_append_left _ hi))
theorem gtN_ok {i : Nat} : VGok B [i] (gName i) (gtN i) := fun G Z H σ ρ s v d ρ' Q hB I r e k => by
  subst hB
  cases e
  exact k _ (I.setVal r) Wp.set WpE.set
theorem vg_n (i : Nat) {x : Str} (hN : X.N.Nodup) (hi : X.N[i]? = some x := by rfl) (hx : Loc X.env.scope x := by first | exact Or.inl rfl | exact Or.inr rfl) (hf : X.fn x = true ∨ X.env.scope.names.lookup x = some .local := by first | exact .inl rfl | exact .inr rfl | assumption) : VG B X [i] (.Name x pos) (gtN i) :=
  ⟨_, pg_name hN hi hx hf, gtN_ok⟩
theorem gtNil_ok : VGsok B [] gNil gtNil := fun G Z H σ ρ s vs ds ρ' Q hB I r e k => by
  cases r with
  | nil => cases e; exact ⟨rfl, k _ I Wp.refl WpE.refl⟩
  | cons h r => cases e
theorem vgs_nil : VGs B X [] [] gtNil := ⟨_, pgs_nil, gtNil_ok⟩
theorem gtCons_ok {is js : List Nat} {g : TG} {gr : TGs} {gt : D → En → Option En} {gs : List D → En → Option En} (h1 : VGok B is g gt) (h2 : VGsok B js gr gs) : VGsok B (is ++ js) (gCons g gr) (gtCons gt gs) := fun G Z H σ ρ s vs ds ρ' Q hB I r e k => by
  cases r with
  | nil => cases e
  | @cons v d vs ds h r =>
    obtain ⟨ρ1, e1, e2⟩ := Option.bind_eq_some_iff.mp (show (gt d ρ).bind (fun ρ' => gs ds ρ') = some ρ' from e)
    exact ⟨v, vs, rfl, h1 G Z H σ ρ s v d ρ1 _ hB I h e1 fun σ1 I1 w1 v1 => h2 G Z H σ1 ρ1 s vs ds ρ' Q hB I1 r e2 fun σ2 I2 w2 v2 => k σ2 I2 (w1.app w2) (v1.app v2)⟩
theorem vgs_cons {is js : List Nat} {e : Expr} {es : List Expr} {gt : D → En → Option En} {gs : List D → En → Option En} (h1 : VG B X is e gt) (h2 : VGs B X js es gs)
    (hs : (assignEach (e :: es) X.env).map (·.2) = assign e X.env :: (assignEach es X.env).map (·.2) := by rfl) : VGs B X (is ++ js) (e :: es) (gtCons gt gs) := by
  obtain ⟨g, p, o⟩ := h1
  obtain ⟨gr, p2, o2⟩ := h2
  exact ⟨_, pgs_cons p p2 hs, gtCons_ok o o2⟩
theorem rp_tup {Z : Hp} {v : V} {ds : List D} (r : Rp B Z v (.tup ds)) : ∃ a vs, v = .ref a ∧ SqT B.K Z a vs ∧ Rps B Z vs ds := by
  cases r with
  | tup h r => exact ⟨_, _, rfl, h, r⟩
theorem rp_lst {Z : Hp} {v : V} {ds : List D} (r : Rp B Z v (.lst ds)) : ∃ a vs, v = .ref a ∧ Z a = some (.lst vs) ∧ Rps B Z vs ds := by
  cases r with
  | lst h r => exact ⟨_, _, rfl, h, r⟩
theorem vg_t {is : List Nat} {es : List Expr} {k n : Nat} {gt : List D → En → Option En} (hK : X.K = B.K) (hc : X.calm = true) (h : VGs B X is es gt)
    (hn : (assignEach es X.env).length = n := by rfl) (hst : (assignEach es X.env).findIdx? (·.1) = none := by rfl) : VG B X is (.Tuple es k pos) (gtT n gt) := by
  obtain ⟨g, p, o⟩ := h
  refine ⟨_, pg_tup hc p hn hst, fun G Z H σ ρ s v d ρ' Q hB I r e k => ?_⟩
  cases d with
  | tup ds =>
    obtain ⟨a, vs, rfl, ht, rs⟩ := rp_tup r
    by_cases hl : ds.length = n
    · rw [show gtT n gt (.tup ds) ρ = if ds.length = n then gt ds ρ else none from rfl, if_pos hl] at e
      refine ⟨a, vs, rfl, by rw [hK]; exact seqT_mono I.zh ht, rs.len.trans hl, o G Z H σ ρ s vs ds ρ' Q hB I rs e k⟩
    · rw [show gtT n gt (.tup ds) ρ = if ds.length = n then gt ds ρ else none from rfl, if_neg hl] at e
      cases e
  | _ => cases e
def sAsg (f : Ef) (gt : D → En → Option En) : Sf := fun ρ s => (f ρ s).then ρ fun d s1 => match gt d ρ with
  | some ρ' => .nx ρ' s1
  | none => .bad
theorem asg_of {is : List Nat} {G : Gf} {gt : D → En → Option En} {tg : TG} (o : VGok G.B is tg gt) {D' : Ends} {σ : L2.St} {H : Hp} (h : tVS G W (sAsg f gt) D' σ H) : tAsg (tV G W f) tg D' σ H := by
  obtain ⟨Z, ρ, s, I, h⟩ := h
  refine ⟨Z, ρ, s, I, (SOk.from h σ).up (Same.refl Z) fun d s1 h1 v Z' H' I' z r => ?_⟩
  cases e : gt d ρ with
  | none => rw [e] at h1; exact h1.elim
  | some ρ' =>
    rw [e] at h1
    exact o G Z' H' σ ρ s1 v d ρ' D'.nx rfl I' r e fun σ' I2 _ _ => h1 σ' Z' H' I2 z
theorem vs_asg {is : List Nat} {tg : Expr} {gt : D → En → Option En} (he : VE B u X W e f) (hg : VG B X is tg gt) (hs : swapsWithSole [tg] e pos.line X.env = pure false := by rfl) (hw : swappedStores [tg] e X.env = pure none := by rfl)
    (h1 : (assignEach [tg] X.env).map (·.2) = [assign tg X.env] := by rfl) : VS B u X W (.Assign [tg] e pos) (sAsg f gt) := by
  intro G hG
  obtain ⟨g, p, o⟩ := hg
  obtain ⟨rfl, rfl⟩ := hG
  exact ps_mono (ps_asg (he G ⟨rfl, rfl⟩) p hs hw h1) fun D' σ H h => asg_of o h
theorem vs_set (i : Nat) {x : Str} {pos' : Pos} (hN : X.N.Nodup) (he : VE B u X W e f) (hi : X.N[i]? = some x := by rfl) (hx : Loc X.env.scope x := by first | exact Or.inl rfl | exact Or.inr rfl) (hs : swapsWith e (some (.Name x pos')) pos.line X.env = pure false := by rfl)
    (hf : X.fn x = true ∨ X.env.scope.names.lookup x = some .local := by first | exact .inl rfl | exact .inr rfl | assumption) : VS B u X W (.Assign [.Name x pos'] e pos) (sAsg f (gtN i)) := by
  intro G hG
  obtain ⟨rfl, rfl⟩ := hG
  exact ps_mono (ps_set (i := i) hN hi hx (he G ⟨rfl, rfl⟩) hs hf) fun D' σ H h => asg_of gtN_ok h
end
end Vv

/-! ## loops -/
namespace Vv
/-- an iterator that yields the things ds, laid into what grows out of Z -/
def WalkD (B : Tb) (J : It) (Z0 : Hp) (ds : List D) : Prop := ∃ Y : Nat → Hp → V → Hp → Prop, Walk J ds.length (fun H => Same Z0 H) Y ∧
  ∀ i H v H', Y i H v H' → ∀ Z, Same Z0 Z → Same Z H → ∃ d Z', ds[i]? = some d ∧ Step Z H Z' H' ∧ Rp B Z' v d
def tVI (G : Gf) (W : WX) (fi : Af) : TI := fun σ H Rr => ∃ Z ρ s, VI G Z H σ ρ s ∧ ROk G W σ ρ Z (fi ρ s) fun ds s' => ∀ J Z' H', VI G Z' H' σ ρ s' → Same Z Z' → WalkD G.B J Z' ds → Rr J H'
def VIt (B : Tb) (u : Option (Addr × Value × Option Addr)) (X : Cx) (W : WX) (tg iter : Expr) (fi : Af) : Prop := ∀ G : Gf, G.B = B ∧ G.ux = u → PI X tg iter (tVI G W fi)
theorem pi_mono {X : Cx} {tg iter : Expr} {t t' : TI} (h : PI X tg iter t) (m : ∀ σ H Q, t' σ H Q → t σ H Q) : PI X tg iter t' := ⟨fun pins s σ H Q I q => h.run pins s σ H Q I (m σ H Q q)⟩
def loopD (gt : D → En → Option En) (gb : Sf) : List D → En → S → SR
  | [], ρ, s => .nx ρ s
  | d :: ds, ρ, s => match gt d ρ with
    | none => .bad
    | some ρ1 => match gb ρ1 s with
      | .nx ρ2 s2 => loopD gt gb ds ρ2 s2
      | .ct ρ2 s2 => loopD gt gb ds ρ2 s2
      | .bk ρ2 s2 => .nx ρ2 s2
      | r => r
def sFor (fi : Af) (gt : D → En → Option En) (gb : Sf) : Sf := fun ρ s => (fi ρ s).then ρ fun ds s1 => loopD gt gb ds ρ s1
def whileD (c : Tf) (gb : Sf) : Nat → En → S → SR
  | 0, _, _ => .bad
  | n + 1, ρ, s => (c ρ s).then ρ fun b s1 => if b then (match gb ρ s1 with
      | .nx ρ2 s2 => whileD c gb n ρ2 s2
      | .ct ρ2 s2 => whileD c gb n ρ2 s2
      | .bk ρ2 s2 => .nx ρ2 s2
      | r => r) else .nx ρ s1
theorem drop_cons {α : Type} {l : List α} {i : Nat} {d : α} (h : l[i]? = some d) : l.drop i = d :: l.drop (i + 1) := by
  obtain ⟨hi, e⟩ := List.getElem?_eq_some_iff.mp h
  rw [List.drop_eq_getElem_cons hi, e]
section
variable {B : Tb} {u : Option (Addr × Value × Option Addr)} {X : Cx} {W : WX} {pos : Pos}
theorem for_of {is : List Nat} {G : Gf} {J : It} {Z0 : Hp} {ds : List D} {gt : D → En → Option En} {gb : Sf} {g : TG} (w : WalkD G.B J Z0 ds) (o : VGok G.B is g gt) {D' : Ends} {σ : L2.St} {H : Hp} {ρ : En} {s : S} (I : VI G Z0 H σ ρ s)
    (h : SOk G W Z0 D' (loopD gt gb ds ρ s)) : ∃ Wv : Nat → Nat → L2.St → Hp → Prop, (∃ m, Wv 0 m σ H) ∧ ∀ i m σ H, Wv i m σ H →
  (J.stop i H ∧ D'.nx σ H) ∨ (J.go i H ∧ ∃ N : L2.St → Hp → Prop, (∀ σ' H', N σ' H' → ∃ m', m' < m ∧ Wv (i + 1) m' σ' H') ∧ ∀ x H', J.yld i H x H' → g x σ H' fun σ2 H2 => tVS G W gb { D' with nx := N, ct := N, bk := D'.nx } σ2 H2) := by
  obtain ⟨Y, wk, y⟩ := w
  refine for_it wk (fun i σ H => ∃ Z ρ s, VI G Z H σ ρ s ∧ Same Z0 Z ∧ SOk G W Z D' (loopD gt gb (ds.drop i) ρ s)) ⟨Z0, ρ, s, I, Same.refl Z0, h⟩ (fun i σ H _ ⟨Z, ρ, s, I, z, _⟩ => z.trans I.zh) ?_ ?_
  · rintro i x σ H H' hi ⟨Z, ρ, s, I, z, h⟩ hy
    obtain ⟨d, Z', ed, t, r⟩ := y i H x H' hy Z z I.zh
    rw [drop_cons ed] at h
    show g x σ H' _
    cases e : gt d ρ with
    | none => simp only [loopD, e] at h; exact h.elim
    | some ρ1 =>
      simp only [loopD, e] at h
      refine o G Z' H' σ ρ s x d ρ1 _ rfl (I.step t) r e fun σ' I' _ _ => ⟨Z', ρ1, s, I', ?_⟩
      cases eb : gb ρ1 s with
      | nx ρ2 s2 =>
        rw [eb] at h
        exact fun σ2 Z2 H2 I2 z2 => ⟨Z2, ρ2, s2, I2, z.trans (t.zz.trans z2), SOk.up (t.zz.trans z2) h⟩
      | ct ρ2 s2 =>
        rw [eb] at h
        exact fun σ2 Z2 H2 I2 z2 => ⟨Z2, ρ2, s2, I2, z.trans (t.zz.trans z2), SOk.up (t.zz.trans z2) h⟩
      | bk ρ2 s2 =>
        rw [eb] at h
        exact fun σ2 Z2 H2 I2 z2 => h σ2 Z2 H2 I2 (t.zz.trans z2)
      | rt d2 s2 =>
        rw [eb] at h
        exact fun v σ2 ρ2 Z2 H2 I2 z2 => h v σ2 ρ2 Z2 H2 I2 (t.zz.trans z2)
      | exc c fs ρ2 s2 =>
        rw [eb] at h
        exact fun σ2 => (h σ2).up t.zz
      | bad => rw [eb] at h; exact h.elim
  · rintro σ H ⟨Z, ρ, s, I, z, h⟩
    rw [List.drop_length] at h
    exact h σ Z H I (Same.refl Z)
theorem vs_for {is : List Nat} {tg iter : Expr} {body : List Stmt} {fi : Af} {gt : D → En → Option En} {gb : Sf} (hp : PassesOwn (model X.prog X.w) X.A X.env X.xe) (hc : X.calm = true) (hi : VIt B u X W tg iter fi) (hg : VG B X is tg gt) (hb : VSs B u X W body gb)
    (hs : ∀ x, foldedSetIterable iter X.env x = pure x := by intro _; rfl) : VS B u X W (.For tg iter body [] pos) (sFor fi gt gb) := by
  intro G hG
  obtain ⟨g, p, o⟩ := hg
  obtain ⟨rfl, rfl⟩ := hG
  refine ps_mono (ps_for hp hc (hi G ⟨rfl, rfl⟩) p (hb G ⟨rfl, rfl⟩) hs) fun D' σ H ⟨Z, ρ, s, I, h⟩ => ?_
  exact ⟨Z, ρ, s, I, (SOk.from h σ).up (Same.refl Z) fun ds s1 h1 J Z' H' I' z w => for_of w o I' (SOk.up z h1)⟩
def sWhile (n : Nat) (c : Tf) (gb : Sf) : Sf := whileD c gb n
theorem vs_while (n : Nat) {c : Expr} {body : List Stmt} {fc : Tf} {gb : Sf} (hp : PassesOwn (model X.prog X.w) X.A X.env X.xe) (hc : VT B u X W c fc) (hb : VSs B u X W body gb) : VS B u X W (.While c body [] pos) (sWhile n fc gb) := by
  intro G hG
  refine ps_mono (ps_while hp (hc G hG) (hb G hG)) fun D' σ H ⟨Z, ρ, s, I, h⟩ => ?_
  refine ⟨fun m σ H => ∃ Z ρ s, VI G Z H σ ρ s ∧ SOk G W Z D' (whileD fc gb m ρ s), ⟨n, Z, ρ, s, I, h⟩, ?_⟩
  rintro m σ H ⟨Z, ρ, s, I, h⟩
  cases m with
  | zero => exact h.elim
  | succ m =>
    refine ⟨Z, ρ, s, I, (SOk.from (show SOk G W Z D' ((fc ρ s).then ρ _) from h) σ).up (Same.refl Z) fun b s1 h1 Z' H' I' z => ?_⟩
    cases b with
    | false => exact h1 σ Z' H' I' z
    | true =>
      refine ⟨fun σ H => ∃ Z ρ s, VI G Z H σ ρ s ∧ SOk G W Z D' (whileD fc gb m ρ s), fun σ' H' q => ⟨m, Nat.lt_succ_self m, q⟩, Z', ρ, s1, I', ?_⟩
      replace h1 : SOk G W Z D' (match gb ρ s1 with
        | .nx ρ2 s2 => whileD fc gb m ρ2 s2
        | .ct ρ2 s2 => whileD fc gb m ρ2 s2
        | .bk ρ2 s2 => .nx ρ2 s2
        | r => r) := h1
      cases eb : gb ρ s1 with
      | nx ρ2 s2 => rw [eb] at h1; exact fun σ2 Z2 H2 I2 z2 => ⟨Z2, ρ2, s2, I2, SOk.up (z.trans z2) h1⟩
      | ct ρ2 s2 => rw [eb] at h1; exact fun σ2 Z2 H2 I2 z2 => ⟨Z2, ρ2, s2, I2, SOk.up (z.trans z2) h1⟩
      | bk ρ2 s2 => rw [eb] at h1; exact fun σ2 Z2 H2 I2 z2 => h1 σ2 Z2 H2 I2 (z.trans z2)
      | rt d2 s2 => rw [eb] at h1; exact fun v σ2 ρ2 Z2 H2 I2 z2 => h1 v σ2 ρ2 Z2 H2 I2 (z.trans z2)
      | exc c fs ρ2 s2 => rw [eb] at h1; exact fun σ2 => (h1 σ2).up z
      | bad => rw [eb] at h1; exact h1.elim
/-! iterators -/
def itD : D → Option (List D)
  | .lst l => some l
  | .tup l => some l
  | .str l => some (l.map fun c => .str [c])
  | _ => none
def iIt (f : Ef) : Af := fun ρ s => (f ρ s).bind fun d s1 => opt (itD d) s1
theorem walkD_lst {Z0 : Hp} {a : Addr} {vs : List V} {ds : List D} (h : Z0 a = some (.lst vs)) (r : Rps B Z0 vs ds) : WalkD B (Itl B.K a) Z0 ds := by
  refine ⟨YAt vs, r.len ▸ (walk_list (K := B.K) (a := a) (xs := vs)).mono (fun H z => .inl (.inl (z _ _ h))) (fun _ _ _ _ _ _ y => y), fun i H v H' y Z z zh => ?_⟩
  obtain ⟨rfl, e⟩ := y
  obtain ⟨d, ed, rd⟩ := r.at2 e
  exact ⟨d, Z, ed, Step.refl zh, rd.mono z⟩
theorem walkD_tup {Z0 : Hp} {a : Addr} {vs : List V} {ds : List D} (h : SqT B.K Z0 a vs) (r : Rps B Z0 vs ds) : WalkD B (Itt B.K a) Z0 ds := by
  refine ⟨YAt vs, r.len ▸ (walk_tup (K := B.K) (a := a) (xs := vs)).mono (fun H z => seqT_mono z h) (fun _ _ _ _ _ _ y => y), fun i H v H' y Z z zh => ?_⟩
  obtain ⟨rfl, e⟩ := y
  obtain ⟨d, ed, rd⟩ := r.at2 e
  exact ⟨d, Z, ed, Step.refl zh, rd.mono z⟩
theorem walkD_range {Z0 : Hp} {lo : Int} {n : Nat} : WalkD B (Itr lo n) Z0 ((List.range n).map fun (i : Nat) => .int (lo + (i : Int))) := by
  refine ⟨fun i H v H' => i < n ∧ H' = H ∧ v = .int (lo + i), ?_, fun i H v H' y Z z zh => ?_⟩
  · rw [List.length_map, List.length_range]
    exact ⟨fun _ _ hi _ => hi, fun _ _ => Nat.le_refl _, fun _ _ _ _ hi _ y => ⟨hi, y.1, y.2⟩⟩
  · obtain ⟨hi, rfl, rfl⟩ := y
    exact ⟨.int (lo + i), Z, by rw [List.getElem?_map, List.getElem?_range hi]; rfl, Step.refl zh, .int _⟩
theorem walkD_str {Z0 : Hp} {l : List Nat} : WalkD B (Its (sOf l)) Z0 (l.map fun c => .str [c]) := by
  refine ⟨fun i H v H' => H' = H ∧ ∃ c, l[i]? = some c ∧ v = .str (sOf [c]), ?_, fun i H v H' y Z z zh => ?_⟩
  · rw [List.length_map]
    exact walk_S.mono (fun _ _ => trivial) (fun _ _ _ _ _ _ y => y)
  · obtain ⟨rfl, c, e, rfl⟩ := y
    exact ⟨.str [c], Z, by rw [List.getElem?_map, e]; rfl, Step.refl zh, .str _⟩
/-- a list, a tuple, a text -/
def iAny (K : PySem.W.Frag) (te : TE) : TI := fun σ H Rr => te σ H fun v H1 => (∃ a xs, v = .ref a ∧ ((SqL K H1 a xs ∧ Rr (Itl K a) H1) ∨ (SqT K H1 a xs ∧ Rr (Itt K a) H1))) ∨ ∃ l, v = .str (sOf l) ∧ Rr (Its (sOf l)) H1
theorem iter_of {K : PySem.W.Frag} (hK : K = B.K) {Z H : Hp} {v : V} {d : D} {ds : List D} {Rr : It → Hp → Prop} (z : Same Z H) (r : Rp B Z v d) (e : itD d = some ds) (k : ∀ J, WalkD B J Z ds → Rr J H) :
    (∃ a xs, v = .ref a ∧ ((SqL K H a xs ∧ Rr (Itl K a) H) ∨ (SqT K H a xs ∧ Rr (Itt K a) H))) ∨ ∃ l, v = .str (sOf l) ∧ Rr (Its (sOf l)) H := by
  subst hK
  cases r with
  | str l => cases e; exact .inr ⟨l, rfl, k _ walkD_str⟩
  | tup h r => cases e; exact .inl ⟨_, _, rfl, .inr ⟨seqT_mono z h, k _ (walkD_tup h r)⟩⟩
  | lst h r => cases e; exact .inl ⟨_, _, rfl, .inl ⟨.inl (.inl (z _ _ h)), k _ (walkD_lst h r)⟩⟩
  | _ => cases e
end
end Vv

/-! ## iterators of the language -/
namespace Vv
theorem pi_or {X : Cx} {tg iter : Expr} {w1 w2 : TI} (h1 : PI X tg iter w1) (h2 : PI X tg iter w2) : PI X tg iter (fun σ H Rr => w1 σ H Rr ∨ w2 σ H Rr) :=
  ⟨fun pins s σ H Q I q => q.elim (fun q => h1.run pins s σ H Q I q) fun q => h2.run pins s σ H Q I q⟩
def enumF : Nat → List D → List D
  | _, [] => []
  | k, x :: r => .tup [.int (k : Int), x] :: enumF (k + 1) r
theorem enumF_len : ∀ (k : Nat) (l : List D), (enumF k l).length = l.length
  | _, [] => rfl
  | k, _ :: r => congrArg Nat.succ (enumF_len (k + 1) r)
theorem enumF_at : ∀ (k : Nat) (l : List D) (i : Nat), (enumF k l)[i]? = (l[i]?).map fun x => .tup [.int ((k + i : Nat) : Int), x]
  | _, [], _ => rfl
  | k, x :: r, 0 => rfl
  | k, x :: r, i + 1 => by
    show (enumF (k + 1) r)[i]? = _
    rw [enumF_at (k + 1) r i, show k + 1 + i = k + (i + 1) by omega]
    rfl
def iEnum (fa : Af) : Af := fun ρ s => (fa ρ s).bind fun ds s1 => match ds with
  | [d] => opt ((itD d).map (enumF 0)) s1
  | _ => .bad
section
variable {B : Tb} {u : Option (Addr × Value × Option Addr)} {X : Cx} {W : WX} {pos : Pos}
theorem itD_len {K : PySem.W.Frag} {Z : Hp} {v : V} {d : D} {ds : List D} (r : Rp B Z v d) (e : itD d = some ds) : (∃ l, d = .str l) ∨ ∃ a vs, v = .ref a ∧ Rps B Z vs ds ∧ ((d = .lst ds ∧ Z a = some (.lst vs)) ∨ (d = .tup ds ∧ SqT B.K Z a vs)) := by
  cases r with
  | str l => exact .inl ⟨l, rfl⟩
  | tup h r => cases e; exact .inr ⟨_, _, rfl, r, .inr ⟨rfl, h⟩⟩
  | lst h r => cases e; exact .inr ⟨_, _, rfl, r, .inl ⟨rfl, h⟩⟩
  | _ => cases e
/-- for x in e -/
theorem vi_any {tg e : Expr} {f : Ef} (hK : X.K = B.K) (he : VE B u X W e f) : VIt B u X W tg e (iIt f) := by
  intro G hG
  have h0 := he G hG
  obtain ⟨rfl, rfl⟩ := hG
  refine pi_mono (pi_or (pi_seqQ (K := G.B.K) hK h0) (pi_str h0)) fun σ H Rr ⟨Z, ρ, s, I, h⟩ => ?_
  have h := h.bind
  cases ef : f ρ s with
  | bad => rw [ef] at h; exact h.elim
  | exc c fs s1 => rw [ef] at h; exact .inl ⟨Z, ρ, s, I, by rw [ef]; exact h⟩
  | ok d s1 =>
    rw [ef] at h
    obtain ⟨ds, e1, k⟩ := ROk.opt h
    by_cases hs : ∃ l, d = .str l
    · obtain ⟨l, rfl⟩ := hs
      cases e1
      refine .inr ⟨Z, ρ, s, I, ?_⟩
      rw [ef]
      intro v Z1 H1 I1 z1 r
      cases r
      exact ⟨_, rfl, k _ Z1 H1 I1 z1 walkD_str⟩
    · refine .inl ⟨Z, ρ, s, I, ?_⟩
      rw [ef]
      intro v Z1 H1 I1 z1 r
      rcases itD_len (K := G.B.K) r e1 with q | ⟨a, vs, rfl, rs, ⟨_, q⟩ | ⟨_, q⟩⟩
      · exact absurd q hs
      · exact ⟨a, vs, rfl, .inl ⟨.inl (.inl (I1.zh _ _ q)), k _ Z1 H1 I1 z1 (walkD_lst q rs)⟩⟩
      · exact ⟨a, vs, rfl, .inr ⟨seqT_mono I1.zh q, k _ Z1 H1 I1 z1 (walkD_tup q rs)⟩⟩
/-- new pairs -/
theorem walkD_pair {J : It} {n : Nat} {Gd : Hp → Prop} {Z0 : Hp} {fx fy : Nat → Option V} {ds : List D} (w : Walk J n Gd (YPair fx fy)) (hn : ds.length = n) (hg : ∀ H, Same Z0 H → Gd H)
    (hd : ∀ i x y, fx i = some x → fy i = some y → ∃ dx dy, ds[i]? = some (.tup [dx, dy]) ∧ Rp B Z0 x dx ∧ Rp B Z0 y dy) : WalkD B J Z0 ds := by
  subst hn
  refine ⟨_, w.mono hg (fun _ _ _ _ _ _ y => y), fun i H v H' y Z z zh => ?_⟩
  obtain ⟨T, x, y, rfl, n, rfl, e1, e2⟩ := y
  obtain ⟨dx, dy, e, rx, ry⟩ := hd i x y e1 e2
  exact ⟨_, _, e, Step.new _ zh n, new_tup zh n (.cons (rx.mono z) (.cons (ry.mono z) .nil))⟩
theorem vi_enum {e : Expr} {fa : Af} {p pos tpos : Pos} {elts : List Expr} {kk : Nat} (hK : X.K = B.K) (hg : Gl X "enumerate") (hm : X.mg "enumerate" = none) (ha : VA B u X W [e] fa) (hs : starEach [e] X.env = [(false, eval e X.env)] := by rfl) :
    VIt B u X W (.Tuple elts kk tpos) (.Call (.Name "enumerate" p) [e] [] pos) (iEnum fa) := by
  intro G hG
  have h0 := ha G hG
  obtain ⟨rfl, rfl⟩ := hG
  refine pi_mono (pi_or (pi_enumQ (K := G.B.K) hK hg hm h0 hs) (pi_enumS hg hm h0 hs)) fun σ H Rr ⟨Z, ρ, s, I, h⟩ => ?_
  have h := h.bind
  cases ef : fa ρ s with
  | bad => rw [ef] at h; exact h.elim
  | exc c fs s1 => rw [ef] at h; exact .inl ⟨Z, ρ, s, I, by rw [ef]; exact h⟩
  | ok ds s1 =>
    rw [ef] at h
    match ds, h, ef with
    | [], h, _ => exact h.elim
    | _ :: _ :: _, h, _ => exact h.elim
    | [d], h, ef =>
      obtain ⟨ds, e1, k⟩ := ROk.opt (show ROk G W σ ρ Z (opt ((itD d).map (enumF 0)) s1) _ from h)
      obtain ⟨es, e2, rfl⟩ := Option.map_eq_some_iff.mp e1
      by_cases hs : ∃ l, d = .str l
      · obtain ⟨l, rfl⟩ := hs
        cases e2
        refine .inr ⟨Z, ρ, s, I, ?_⟩
        rw [ef]
        intro vs Z1 H1 I1 z1 r
        cases r with
        | cons r rr =>
          cases rr
          cases r
          refine ⟨_, rfl, k _ Z1 H1 I1 z1 (walkD_pair walk_enumS (by rw [enumF_len, List.length_map]) (fun _ _ => trivial) fun i x y e1 e2 => ?_)⟩
          rw [enumF_at, List.getElem?_map]
          cases e3 : l[i]? with
          | none => rw [e3] at e2; cases e2
          | some c =>
            rw [e3] at e2
            cases e1
            cases e2
            exact ⟨.int i, .str [c], by simp, .int _, .str _⟩
      · refine .inl ⟨Z, ρ, s, I, ?_⟩
        rw [ef]
        intro vs Z1 H1 I1 z1 r
        cases r with
        | cons r rr =>
          cases rr
          have key : ∀ {vs : List V}, Rps G.B Z1 vs es → ∀ i x y, (some (V.int (i : Nat))) = some x → vs[i]? = some y → ∃ dx dy, (enumF 0 es)[i]? = some (.tup [dx, dy]) ∧ Rp G.B Z1 x dx ∧ Rp G.B Z1 y dy := fun rs i x y e1 e2 => by
            obtain ⟨d, ed, rd⟩ := rs.at2 e2
            cases e1
            exact ⟨.int i, d, by rw [enumF_at, ed]; simp, .int _, rd⟩
          rcases itD_len (K := G.B.K) r e2 with q | ⟨a, vs, rfl, rs, ⟨_, q⟩ | ⟨_, q⟩⟩
          · exact absurd q hs
          · exact ⟨a, vs, rfl, .inl ⟨.inl (.inl (I1.zh _ _ q)), k _ Z1 H1 I1 z1 (walkD_pair walk_enum (by rw [enumF_len, rs.len]) (fun H z => .inl (.inl (z _ _ q))) (key rs))⟩⟩
          · exact ⟨a, vs, rfl, .inr ⟨seqT_mono I1.zh q, k _ Z1 H1 I1 z1 (walkD_pair walk_enumT (by rw [enumF_len, rs.len]) (fun H z => seqT_mono z q) (key rs))⟩⟩
def rangeL (lo : Int) (n : Nat) : List D := (List.range n).map fun (i : Nat) => .int (lo + (i : Int))
def dInts : List D → Option (List Int)
  | [] => some []
  | .int i :: r => (dInts r).map (i :: ·)
  | _ => none
theorem dInts_of {Z : Hp} : ∀ {vs : List V} {ds : List D} {is : List Int}, Rps B Z vs ds → dInts ds = some is → vs = is.map V.int
  | _, _, _, .nil, e => by cases e; rfl
  | _, _, _, .cons h r, e => by
    cases h with
    | int i =>
      obtain ⟨js, e1, rfl⟩ := Option.map_eq_some_iff.mp (show (dInts _).map (i :: ·) = some _ from e)
      rw [dInts_of r e1]
      rfl
    | _ => cases e
def big (i : Int) : Bool := decide (-(2 ^ 62) ≤ i) && decide (i < 2 ^ 62)
theorem big_of {i : Int} (h : big i = true) : -(2 ^ 62) ≤ i ∧ i < 2 ^ 62 := by
  have h := Bool.and_eq_true_iff.mp h
  exact ⟨of_decide_eq_true h.1, of_decide_eq_true h.2⟩
/-- lo, lo + c, .. -/
def stepL (lo c : Int) (n : Nat) : List D := (List.range n).map fun (i : Nat) => .int (lo + (i : Int) * c)
def rg1 : List Int → Option (List D)
  | [j] => if big j then some (rangeL 0 j.toNat) else none
  | _ => none
def rg2 : List Int → Option (List D)
  | [i, j] => if big i && big j then some (rangeL i (j - i).toNat) else none
  | _ => none
def rg3 : List Int → Option (List D)
  | [i, j, c] => if big i && big j && decide (c = -1) then some (stepL i (-1) (i - j).toNat) else none
  | _ => none
def iRange (rg : List Int → Option (List D)) (fa : Af) : Af := fun ρ s => (fa ρ s).bind fun ds s1 => opt ((dInts ds).bind rg) s1
theorem range_of {rg : List Int → Option (List D)} {G : Gf} {σ : L2.St} {ρ : En} {Z : Hp} {s : S} {fa : Af} {k : List D → S → Prop} (h : ROk G W σ ρ Z (iRange rg fa ρ s) k) : ROk G W σ ρ Z (fa ρ s) fun ds s1 => ∃ is es, dInts ds = some is ∧ rg is = some es ∧ k es s1 := by
  refine h.bind.up (Same.refl Z) fun ds s1 h1 => ?_
  obtain ⟨es, e, q⟩ := h1.opt
  obtain ⟨is, e1, e2⟩ := Option.bind_eq_some_iff.mp e
  exact ⟨is, es, e1, e2, q⟩
theorem walkD_step {Z0 : Hp} {lo c : Int} {n : Nat} : WalkD B (Itc lo c n) Z0 (stepL lo c n) := by
  refine ⟨fun i H v H' => i < n ∧ H' = H ∧ v = .int (lo + (i : Nat) * c), ?_, fun i H v H' y Z z zh => ?_⟩
  · rw [show (stepL lo c n).length = n by unfold stepL; rw [List.length_map, List.length_range]]
    exact ⟨fun _ _ hi _ => hi, fun _ _ => Nat.le_refl _, fun _ _ _ _ hi _ y => ⟨hi, y.1, y.2⟩⟩
  · obtain ⟨hi, rfl, rfl⟩ := y
    exact ⟨.int (lo + (i : Nat) * c), Z, by unfold stepL; rw [List.getElem?_map, List.getElem?_range hi]; rfl, Step.refl zh, .int _⟩
theorem vi_range1 {tg e : Expr} {fa : Af} {p pos : Pos} (hg : Gl X "range") (hm : X.mg "range" = none) (ha : VA B u X W [e] fa) (hs : starEach [e] X.env = [(false, eval e X.env)] := by rfl) :
    VIt B u X W tg (.Call (.Name "range" p) [e] [] pos) (iRange rg1 fa) := by
  intro G hG
  refine pi_mono (pi_range1 hg hm (ha G hG) hs) fun σ H Rr ⟨Z, ρ, s, I, h⟩ => ?_
  refine ⟨Z, ρ, s, I, (range_of h).up (Same.refl Z) fun ds s1 ⟨is, es, e1, e2, q⟩ vs Z1 H1 I1 z1 r => ?_⟩
  have ev := dInts_of r e1
  match is, e2, ev with
  | [j], e2, ev =>
    obtain ⟨c, rfl⟩ := ite_some (show (if big j then some (rangeL 0 j.toNat) else none) = some es from e2)
    exact ⟨j, ev, (big_of c).1, (big_of c).2, q _ Z1 H1 I1 z1 walkD_range⟩
theorem vi_range2 {tg e e2 : Expr} {fa : Af} {p pos : Pos} (hg : Gl X "range") (hm : X.mg "range" = none) (ha : VA B u X W [e, e2] fa) (hs : starEach [e, e2] X.env = [(false, eval e X.env), (false, eval e2 X.env)] := by rfl) (hs2 : starEach [e2] X.env = [(false, eval e2 X.env)] := by rfl) :
    VIt B u X W tg (.Call (.Name "range" p) [e, e2] [] pos) (iRange rg2 fa) := by
  intro G hG
  refine pi_mono (pi_range2 hg hm (ha G hG) hs hs2) fun σ H Rr ⟨Z, ρ, s, I, h⟩ => ?_
  refine ⟨Z, ρ, s, I, (range_of h).up (Same.refl Z) fun ds s1 ⟨is, es, e1, e2, q⟩ vs Z1 H1 I1 z1 r => ?_⟩
  have ev := dInts_of r e1
  match is, e2, ev with
  | [i, j], e2, ev =>
    obtain ⟨c, rfl⟩ := ite_some (show (if big i && big j then some (rangeL i (j - i).toNat) else none) = some es from e2)
    obtain ⟨c1, c2⟩ := Bool.and_eq_true_iff.mp c
    exact ⟨i, j, ev, ⟨(big_of c1).1, (big_of c1).2, (big_of c2).1, (big_of c2).2⟩, q _ Z1 H1 I1 z1 walkD_range⟩
theorem vi_range3 {tg e e2 e3 : Expr} {fa : Af} {p pos : Pos} (hg : Gl X "range") (hm : X.mg "range" = none) (ha : VA B u X W [e, e2, e3] fa) (hs : starEach [e, e2, e3] X.env = (false, eval e X.env) :: starEach [e2, e3] X.env := by rfl) (hpl : (backTo pos (starEach [e2, e3] X.env)).any (·.1) = false := by rfl) :
    VIt B u X W tg (.Call (.Name "range" p) [e, e2, e3] [] pos) (iRange rg3 fa) := by
  intro G hG
  refine pi_mono (pi_range3 hg hm (ha G hG) hs hpl) fun σ H Rr ⟨Z, ρ, s, I, h⟩ => ?_
  refine ⟨Z, ρ, s, I, (range_of h).up (Same.refl Z) fun ds s1 ⟨is, es, e1, e2, q⟩ vs Z1 H1 I1 z1 r => ?_⟩
  have ev := dInts_of r e1
  match is, e2, ev with
  | [i, j, c], e2, ev =>
    obtain ⟨c0, rfl⟩ := ite_some (show (if big i && big j && decide (c = -1) then some (stepL i (-1) (i - j).toNat) else none) = some es from e2)
    obtain ⟨c1, c2⟩ := Bool.and_eq_true_iff.mp c0
    obtain ⟨c3, c4⟩ := Bool.and_eq_true_iff.mp c1
    obtain rfl := of_decide_eq_true c2
    exact ⟨i, j, -1, _, ev, RgC.neg (big_of c3).1 (big_of c3).2 (big_of c4).1 (big_of c4).2, q _ Z1 H1 I1 z1 walkD_step⟩
end
end Vv

/-! ## new lists, comprehensions -/
namespace Vv
/-- at p stands a list of ours alone -/
structure Own1 (G : Gf) (Z : Hp) (σ : L2.St) (ρ : En) (p : Addr) : Prop where
  f : G.Free Z p
  h : G.H0 p = none
  d : ∀ i, OwnAt ρ i → σ[i]? ≠ some (some (.ref p))
section
variable {G : Gf} {Z H : Hp} {σ : L2.St} {ρ : En} {s : S}
theorem VI.h0 (I : VI G Z H σ ρ s) {p : Addr} (h : H p = none) : G.H0 p = none := by
  cases q : G.H0 p with
  | none => rfl
  | some u =>
    refine absurd (I.keep p u q (fun q hq e2 => ?_) fun x hx e2 => ?_) (by rw [h]; exact fun z => nomatch z)
    · obtain ⟨st, _, hA, _⟩ := I.hnd q hq
      rw [e2, hA.ea] at h
      cases h
    · rw [e2] at h
      exact I.slf x hx h
theorem VI.own1 (I : VI G Z H σ ρ s) {p : Addr} (h : H p = none) : Own1 G Z σ ρ p := by
  refine ⟨⟨I.zh.free h, fun q hq => ?_, fun q hq e => ?_⟩, I.h0 h, fun i o e => ?_⟩
  · obtain ⟨st, _, hA, _⟩ := I.hnd q hq
    exact ⟨fun e => (by rw [e, hA.ea] at h; cases h), fun e => (by rw [e, hA.el] at h; cases h)⟩
  · rw [e, (I.hid q hq).1] at h; cases h
  · unfold OwnAt at o
    cases q : ρ[i]? with
    | none => rw [q] at o; exact o
    | some x =>
      rw [q] at o
      have sl := I.sl i x q
      cases x with
      | own ds =>
        obtain ⟨p', vs, e', h', _⟩ := sl
        rw [e] at e'; cases e'
        rw [h] at h'; cases h'
      | ob c fs =>
        obtain ⟨x, dx, vs, e', _, h', _⟩ := sl
        rw [e] at e'; cases e'
        rw [h] at h'; cases h'
      | _ => exact o
/-- a list of ours is laid into Z -/
theorem Own1.frz {p : Addr} {vs : List V} (o : Own1 G Z σ ρ p) (I : VI G Z H σ ρ s) (h : H p = some (.lst vs)) : VI G (upd Z p (.lst vs)) H σ ρ s ∧ Same Z (upd Z p (.lst vs)) := by
  have zz : Same Z (upd Z p (.lst vs)) := same_new (Same.refl Z) o.f.z
  have ne : ∀ b u, H b = some u → Z b = none → (∀ q : Unit, b ≠ p) → upd Z p (.lst vs) b = none := fun b u _ z n => by rw [upd_ne (n ())]; exact z
  refine ⟨{ len := I.len, zh := fun b u e => ?_, z0 := I.z0.trans zz, zn := fun b u e => ?_, keep := I.keep, hnd := fun q hq => ?_, slf := I.slf, hid := fun q hq => ?_, sl := fun i x e => ?_, dis := I.dis }, zz⟩
  · by_cases q : b = p
    · subst q; rw [upd_same] at e; cases e; exact h
    · rw [upd_ne q] at e; exact I.zh b u e
  · by_cases q : b = p
    · subst q; exact .inr o.h
    · rw [upd_ne q] at e; exact I.zn b u e
  · obtain ⟨st, e1, hA, z1, z2, hd⟩ := I.hnd q hq
    refine ⟨st, e1, hA, ?_, ?_, hd⟩
    · rw [upd_ne (Ne.symm (o.f.h q hq).1)]; exact z1
    · rw [upd_ne (Ne.symm (o.f.h q hq).2)]; exact z2
  · refine ⟨(I.hid q hq).1, ?_⟩
    rw [upd_ne (Ne.symm (o.f.d q hq))]
    exact (I.hid q hq).2
  · have sl := I.sl i x e
    have fr : ∀ a, G.Free Z a → a ≠ p → G.Free (upd Z p (.lst vs)) a := fun a f n => ⟨by rw [upd_ne n]; exact f.z, f.h, f.d⟩
    cases x with
    | no => trivial
    | val d => obtain ⟨v, e2, r⟩ := sl; exact ⟨v, e2, r.mono zz⟩
    | own ds =>
      obtain ⟨a, ws, e2, h2, f2, n2, r2⟩ := sl
      refine ⟨a, ws, e2, h2, fr a f2 fun q => ?_, n2, r2.mono zz⟩
      subst q
      exact o.d i (by unfold OwnAt; rw [e]; trivial) e2
    | ob c fs =>
      obtain ⟨a, dx, ws, e2, q2, h2, f2, r2⟩ := sl
      refine ⟨a, dx, ws, e2, q2, h2, fr a f2 fun q => ?_, r2.mono zz⟩
      subst q
      exact o.d i (by unfold OwnAt; rw [e]; trivial) e2
    | hand => exact sl
    | exc c fs => obtain ⟨a, d, ws, e2, x2, h2, l2, r2⟩ := sl; exact ⟨a, d, ws, e2, x2, zz _ _ h2, l2, r2.mono zz⟩
end
/-! an expression that makes a new list -/
abbrev Lf := En → S → R (List D)
def tVF (G : Gf) (W : WX) (f : Lf) : TE := fun σ H Q => ∃ Z ρ s, VI G Z H σ ρ s ∧ ROk G W σ ρ Z (f ρ s) fun ds s' => ∀ p vs Z' H', VI G Z' H' σ ρ s' → Same Z Z' → H' p = some (.lst vs) → Own1 G Z' σ ρ p → Rps G.B Z' vs ds → Q (.ref p) H'
def VF (B : Tb) (u : Option (Addr × Value × Option Addr)) (X : Cx) (W : WX) (e : Expr) (f : Lf) : Prop := ∀ G : Gf, G.B = B ∧ G.ux = u → PE X e (tVF G W f)
def eOf (f : Lf) : Ef := fun ρ s => (f ρ s).bind fun ds s1 => .ok (.lst ds) s1
section
variable {B : Tb} {u : Option (Addr × Value × Option Addr)} {X : Cx} {W : WX} {pos : Pos} {e : Expr}
theorem vf_ve0 {G : Gf} {f : Lf} {σ : L2.St} {H : Hp} {Q : VK} (h : tV G W (eOf f) σ H Q) : tVF G W f σ H Q := by
  obtain ⟨Z, ρ, s, I, h⟩ := h
  refine ⟨Z, ρ, s, I, h.bind.up (Same.refl Z) fun ds s1 h1 p vs Z' H' I' z e o r => ?_⟩
  obtain ⟨I2, z2⟩ := o.frz I' e
  exact h1 _ _ H' I2 (z.trans z2) (.lst upd_same (r.mono z2))
theorem VF.ve {f : Lf} (h : VF B u X W e f) : VE B u X W e (eOf f) := by
  intro G hG
  exact pe_mono (h G hG) fun σ H Q h => vf_ve0 h
def fitL (ds : List D) : Option (List D) := if fit ds.length then some ds else none
theorem vf_lst {es : List Expr} {f : Af} (h : VA B u X W es f) : VF B u X W (.List es pos) (fun ρ s => (f ρ s).bind fun ds s1 => opt (fitL ds) s1) := by
  intro G hG
  obtain ⟨rfl, rfl⟩ := hG
  refine pe_mono (pe_lst (h G ⟨rfl, rfl⟩)) fun σ H Q ⟨Z, ρ, s, I, h⟩ => ?_
  refine ⟨Z, ρ, s, I, h.bind.up (Same.refl Z) fun ds s1 h1 vs Z1 H1 I1 z1 r => ?_⟩
  obtain ⟨es, e, k⟩ := h1.opt
  obtain ⟨f, rfl⟩ := ite_some e
  exact ⟨fit_le (by rw [r.len]; exact f), fun p n => k p vs Z1 _ (I1.step (Step.newH _ I1.zh n)) z1 upd_same (I1.own1 n) r⟩
/-- name = a new list, to be changed -/
def sOwn (i : Nat) (f : Lf) : Sf := fun ρ s => (f ρ s).then ρ fun ds s1 => .nx (ρ.set i (.own ds)) s1
theorem ownAt_set {ρ : En} {i j : Nat} {x : Sl} (h : OwnAt (ρ.set i x) j) (n : j ≠ i) : OwnAt ρ j := by
  unfold OwnAt at h
  rw [List.getElem?_set_ne (Ne.symm n)] at h
  exact h
theorem VI.setOwn {G : Gf} {Z H : Hp} {σ : L2.St} {ρ : En} {s : S} (I : VI G Z H σ ρ s) {i : Nat} {p : Addr} {vs : List V} {ds : List D} (h : H p = some (.lst vs)) (o : Own1 G Z σ ρ p) (r : Rps G.B Z vs ds) :
    VI G Z H (σ.set i (some (.ref p))) (ρ.set i (.own ds)) s := by
  refine I.slots (by rw [List.length_set, List.length_set, I.len]) (fun j x e => ?_) fun j k q n oj ok e => ?_
  · by_cases c : i = j
    · subst c
      rw [List.getElem?_set_self'] at e
      cases z : ρ[i]? with
      | none => rw [z] at e; cases e
      | some y =>
        rw [z] at e
        cases e
        have hl : i < σ.length := by
          have := (List.getElem?_eq_some_iff.mp z).1
          rw [I.len] at this
          exact this
        exact ⟨p, vs, by rw [List.getElem?_set_self hl], h, o.f, o.h, r⟩
    · rw [List.getElem?_set_ne c] at e
      exact slOk_other c (I.sl j x e)
  · by_cases c : j = i
    · subst c
      have c2 : k ≠ j := Ne.symm n
      rw [List.getElem?_set_self'] at e
      rw [List.getElem?_set_ne (Ne.symm c2)]
      cases z : σ[j]? with
      | none => rw [z] at e; cases e
      | some y => rw [z] at e; cases e; exact o.d k (ownAt_set ok c2)
    · rw [List.getElem?_set_ne (Ne.symm c)] at e
      by_cases c2 : k = i
      · subst c2
        intro z2
        rw [List.getElem?_set_self'] at z2
        cases z : σ[k]? with
        | none => rw [z] at z2; cases z2
        | some y => rw [z] at z2; cases z2; exact o.d j (ownAt_set oj c) e
      · rw [List.getElem?_set_ne (Ne.symm c2)]
        exact I.dis j k q n (ownAt_set oj c) (ownAt_set ok c2) e
theorem own_of {G : Gf} {f : Lf} {i : Nat} {D' : Ends} {σ : L2.St} {H : Hp} (h : tVS G W (sOwn i f) D' σ H) : tAsg (tVF G W f) (gName i) D' σ H := by
  obtain ⟨Z, ρ, s, I, h⟩ := h
  exact ⟨Z, ρ, s, I, (SOk.from h σ).up (Same.refl Z) fun ds s1 h1 p vs Z' H' I' z e o r => h1 _ Z' H' (I'.setOwn e o r) z⟩
theorem vs_own (i : Nat) {x : Str} {pos' : Pos} {f : Lf} (hN : X.N.Nodup) (he : VF B u X W e f) (hi : X.N[i]? = some x := by rfl) (hx : Loc X.env.scope x := by first | exact Or.inl rfl | exact Or.inr rfl) (hs : swapsWith e (some (.Name x pos')) pos.line X.env = pure false := by rfl)
    (hf : X.fn x = true ∨ X.env.scope.names.lookup x = some .local := by first | exact .inl rfl | exact .inr rfl | assumption) : VS B u X W (.Assign [.Name x pos'] e pos) (sOwn i f) := by
  intro G hG
  exact ps_mono (ps_set (i := i) hN hi hx (he G hG) hs hf) fun D' σ H h => own_of h
/-! comprehensions -/
def R.calm {α : Type} (r : R α) : R α := match r with
  | .exc _ _ _ => .bad
  | r => r
def plainAt (ρ : En) (i : Nat) : Bool := match ρ[i]? with
  | some (.own _) => false
  | some (.ob _ _) => false
  | _ => true
def lcD (gt : D → En → Option En) (ft : Tf) (fe : Ef) (ρ : En) : List D → List D → S → R (List D)
  | [], acc, s => .ok acc s
  | d :: ds, acc, s => (opt (gt d ρ) s).bind fun ρ1 s => (ft ρ1 s).calm.bind fun b s1 => if b then (fe ρ1 s1).calm.bind fun y s2 => if fit acc.length then lcD gt ft fe ρ ds (acc ++ [y]) s2 else .bad else lcD gt ft fe ρ ds acc s1
def lLc (is : List Nat) (fi : Af) (gt : D → En → Option En) (ft : Tf) (fe : Ef) : Lf := fun ρ s => if is.all (plainAt ρ) then (fi ρ s).bind fun ds s1 => lcD gt ft fe (wipeE ρ is) ds [] s1 else .bad
def W0 : WX := fun _ _ _ _ => False
theorem ROk.calm {G : Gf} {W : WX} {σ : L2.St} {ρ : En} {Z : Hp} {α : Type} {r : R α} {k : α → S → Prop} (h : ROk G W σ ρ Z r.calm k) {G' : Gf} {W' : WX} {σ' : L2.St} {ρ' : En} {Z' : Hp} : ROk G' W' σ' ρ' Z' r k := by
  cases r with
  | ok x s => exact h
  | exc c fs s => exact h.elim
  | bad => exact h
theorem VI.wipe {G : Gf} {Z H : Hp} {σ : L2.St} {ρ : En} {s : S} (I : VI G Z H σ ρ s) : ∀ vs : List Nat, VI G Z H (wipe σ vs) (wipeE ρ vs) s
  | [] => I
  | _ :: vs => (I.wipe vs).setNo
theorem wipe_out2 {σ : L2.St} {j : Nat} : ∀ {vs : List Nat}, j ∉ vs → (L2.wipe σ vs)[j]? = σ[j]?
  | [], _ => rfl
  | v :: vs, h => by
    show ((L2.wipe σ vs).set v none)[j]? = _
    rw [List.getElem?_set_ne (show v ≠ j from fun e => h (by rw [e]; exact List.mem_cons_self)), wipe_out2 fun q => h (List.mem_cons_of_mem _ q)]
theorem wipeE_out {ρ : En} {j : Nat} : ∀ {vs : List Nat}, j ∉ vs → (wipeE ρ vs)[j]? = ρ[j]?
  | [], _ => rfl
  | v :: vs, h => by
    show ((wipeE ρ vs).set v Sl.no)[j]? = _
    rw [List.getElem?_set_ne (show v ≠ j from fun e => h (by rw [e]; exact List.mem_cons_self)), wipeE_out fun q => h (List.mem_cons_of_mem _ q)]
/-- the frame with one hidden object more -/
abbrev Gf.hide (G : Gf) (p : Addr) (o : HO) : Gf := { G with hid := (p, o) :: G.hid }
theorem VI.hide {G : Gf} {Z H : Hp} {σ : L2.St} {ρ : En} {s : S} {p : Addr} {o : HO} (I : VI G Z H σ ρ s) (n : H p = none) : VI (G.hide p o) Z (upd H p o) σ ρ s := by
  have J := I.step (Step.newH o I.zh n)
  have o1 := I.own1 n
  have ex : ∀ b u, H b = some u → b ≠ p := fun b u e => ne_of_none e n
  refine ⟨J.len, J.zh, J.z0, J.zn, J.keep, fun q hq => ?_, J.slf, fun q hq => ?_, fun i x e => ?_, J.dis⟩
  · obtain ⟨st, e1, hA, z1, z2, hd⟩ := J.hnd q hq
    refine ⟨st, e1, hA, z1, z2, fun e he => ?_⟩
    rcases List.mem_cons.mp he with h | h
    · rw [h]; exact o1.f.h q hq
    · exact hd e h
  · rcases List.mem_cons.mp hq with h | h
    · rw [h]; exact ⟨upd_same, o1.f.z⟩
    · exact J.hid q h
  · have sl := I.sl i x e
    have fr : ∀ a u, H a = some u → G.Free Z a → (G.hide p o).Free Z a := fun a u e f => ⟨f.z, f.h, fun q hq => by
      rcases List.mem_cons.mp hq with h | h
      · rw [h]; exact ex a u e
      · exact f.d q h⟩
    cases x with
    | no => trivial
    | val d => exact sl
    | own ds => obtain ⟨a, ws, e2, h2, f2, n2, r2⟩ := sl; exact ⟨a, ws, e2, by rw [upd_ne (ex a _ h2)]; exact h2, fr a _ h2 f2, n2, r2⟩
    | ob c fs => obtain ⟨a, dx, ws, e2, q2, h2, f2, r2⟩ := sl; exact ⟨a, dx, ws, e2, q2, by rw [upd_ne (ex a _ h2)]; exact h2, fr a _ h2 f2, r2⟩
    | hand => exact sl
    | exc c fs => exact sl
/-- the hidden object is changed -/
theorem VI.rehide {G : Gf} {Z H : Hp} {σ : L2.St} {ρ : En} {s : S} {p : Addr} {o o' : HO} (I : VI (G.hide p o) Z H σ ρ s) (hp : G.H0 p = none) (hq : ∀ q ∈ G.hid, q.1 ≠ p) (hx : ∀ x, G.self = some x → x ≠ p) : VI (G.hide p o') Z (upd H p o') σ ρ s := by
  have hz := (I.hid (p, o) List.mem_cons_self).2
  have ne : ∀ b u, Z b = some u → b ≠ p := fun b u e => ne_of_none e hz
  refine ⟨I.len, fun b u e => by rw [upd_ne (ne b u e)]; exact I.zh b u e, I.z0, I.zn, fun b u e h1 h2 => ?_, fun q hq2 => ?_, fun x e z => ?_, fun q hq2 => ?_, fun i x e => ?_, I.dis⟩
  · rw [upd_ne (ne_of_none (show G.H0 b = some u from e) hp)]
    exact I.keep b u e h1 h2
  · obtain ⟨st, e1, hA, z1, z2, hd⟩ := I.hnd q hq2
    have h3 := hd (p, o) List.mem_cons_self
    refine ⟨st, e1, ⟨by rw [upd_ne (Ne.symm h3.1)]; exact hA.ea, by rw [upd_ne (Ne.symm h3.2)]; exact hA.el, hA.ne⟩, z1, z2, fun e he => ?_⟩
    rcases List.mem_cons.mp he with h | h
    · rw [h]; exact h3
    · exact hd e (List.mem_cons_of_mem _ h)
  · rw [upd_ne (hx x e)] at z
    exact I.slf x e z
  · rcases List.mem_cons.mp hq2 with h | h
    · rw [h]; exact ⟨upd_same, hz⟩
    · rw [upd_ne (hq q h)]
      exact I.hid q (List.mem_cons_of_mem _ h)
  · have sl := I.sl i x e
    have fr : ∀ a, (G.hide p o).Free Z a → a ≠ p ∧ (G.hide p o').Free Z a := fun a f => ⟨f.d (p, o) List.mem_cons_self, f.z, f.h, fun q hq => by
      rcases List.mem_cons.mp hq with h | h
      · rw [h]; exact f.d (p, o) List.mem_cons_self
      · exact f.d q (List.mem_cons_of_mem _ h)⟩
    cases x with
    | no => trivial
    | val d => exact sl
    | own ds => obtain ⟨a, ws, e2, h2, f2, n2, r2⟩ := sl; exact ⟨a, ws, e2, by rw [upd_ne (fr a f2).1]; exact h2, (fr a f2).2, n2, r2⟩
    | ob c fs => obtain ⟨a, dx, ws, e2, q2, h2, f2, r2⟩ := sl; exact ⟨a, dx, ws, e2, q2, by rw [upd_ne (fr a f2).1]; exact h2, (fr a f2).2, r2⟩
    | hand => exact sl
    | exc c fs => exact sl
/-- out of a comprehension: the block's slots as they were, the new list ours -/
theorem VI.unhide {G : Gf} {Z Z0 H H1 : Hp} {σ : L2.St} {ρ : En} {s s0 : S} {p : Addr} {o : HO} {is : List Nat} (I : VI (G.hide p o) Z H (L2.wipe σ is) (wipeE ρ is) s) (I0 : VI G Z0 H1 σ ρ s0) (hn : H1 p = none) (z : Same Z0 Z) (pl : is.all (plainAt ρ) = true) :
    VI G Z H σ ρ s ∧ Own1 G Z σ ρ p := by
  have o1 := I0.own1 hn
  have hz := (I.hid (p, o) List.mem_cons_self).2
  have J : VI G Z H (L2.wipe σ is) (wipeE ρ is) s := by
    refine ⟨I.len, I.zh, I.z0, I.zn, I.keep, fun q hq => ?_, I.slf, fun q hq => I.hid q (List.mem_cons_of_mem _ hq), fun i x e => ?_, I.dis⟩
    · obtain ⟨st, e1, hA, z1, z2, hd⟩ := I.hnd q hq
      exact ⟨st, e1, hA, z1, z2, fun e he => hd e (List.mem_cons_of_mem _ he)⟩
    · have sl := I.sl i x e
      have fr : ∀ a, (G.hide p o).Free Z a → G.Free Z a := fun a f => ⟨f.z, f.h, fun q hq => f.d q (List.mem_cons_of_mem _ hq)⟩
      cases x with
      | no => trivial
      | val d => exact sl
      | own ds => obtain ⟨a, ws, e2, h2, f2, n2, r2⟩ := sl; exact ⟨a, ws, e2, h2, fr a f2, n2, r2⟩
      | ob c fs => obtain ⟨a, dx, ws, e2, q2, h2, f2, r2⟩ := sl; exact ⟨a, dx, ws, e2, q2, h2, fr a f2, r2⟩
      | hand => exact sl
      | exc c fs => exact sl
  have po : ∀ i ∈ is, ¬ OwnAt ρ i := fun i hi ho => by
    have h := List.all_eq_true.mp pl i hi
    unfold plainAt at h
    unfold OwnAt at ho
    split at h <;> simp_all
  have oa : ∀ i, OwnAt ρ i → i ∉ is ∧ OwnAt (wipeE ρ is) i := fun i h => by
    have n : i ∉ is := fun hi => po i hi h
    refine ⟨n, ?_⟩
    unfold OwnAt at h ⊢
    rw [wipeE_out n]
    exact h
  refine ⟨J.slots I0.len (fun i x e => ?_) fun i j q n oi oj e => ?_, ⟨hz, o1.f.h, o1.f.d⟩, o1.h, o1.d⟩
  · by_cases hi : i ∈ is
    · have sl := I0.sl i x e
      cases x with
      | no => trivial
      | val d => obtain ⟨v, e2, r⟩ := sl; exact ⟨v, e2, r.mono z⟩
      | own ds => exact absurd (show OwnAt ρ i by unfold OwnAt; rw [e]; trivial) (po i hi)
      | ob c fs => exact absurd (show OwnAt ρ i by unfold OwnAt; rw [e]; trivial) (po i hi)
      | hand => exact sl
      | exc c fs => obtain ⟨a, d, ws, e2, x2, h2, l2, r2⟩ := sl; exact ⟨a, d, ws, e2, x2, z _ _ h2, l2, r2.mono z⟩
    · have sl := J.sl i x (by rw [wipeE_out hi]; exact e)
      have es : (L2.wipe σ is)[i]? = σ[i]? := wipe_out2 hi
      cases x with
      | no => trivial
      | val d => obtain ⟨v, e2, r⟩ := sl; exact ⟨v, es.symm.trans e2, r⟩
      | own ds => obtain ⟨a, ws, e2, r2⟩ := sl; exact ⟨a, ws, es.symm.trans e2, r2⟩
      | ob c fs => obtain ⟨a, dx, ws, e2, r2⟩ := sl; exact ⟨a, dx, ws, es.symm.trans e2, r2⟩
      | hand => obtain ⟨q, h, e2⟩ := sl; exact ⟨q, h, es.symm.trans e2⟩
      | exc c fs => obtain ⟨a, d, ws, e2, r2⟩ := sl; exact ⟨a, d, ws, es.symm.trans e2, r2⟩
  · obtain ⟨ni, oi'⟩ := oa i oi
    obtain ⟨nj, oj'⟩ := oa j oj
    have := J.dis i j q n oi' oj' (by rw [wipe_out2 ni]; exact e)
    rwa [wipe_out2 nj] at this
theorem wipe_sub {σ : L2.St} {is : List Nat} : ∀ vs : List Nat, (∀ i ∈ vs, i ∈ is) → L2.wipe (L2.wipe σ vs) is = L2.wipe σ is
  | [], _ => rfl
  | v :: vs, h => by
    show L2.wipe ((L2.wipe σ vs).set v none) is = _
    rw [wipe_set (h v List.mem_cons_self), wipe_sub vs fun i hi => h i (List.mem_cons_of_mem _ hi)]
theorem wipeE_sub {ρ : En} {is : List Nat} : ∀ vs : List Nat, (∀ i ∈ vs, i ∈ is) → wipeE (wipeE ρ vs) is = wipeE ρ is
  | [], _ => rfl
  | v :: vs, h => by
    show wipeE ((wipeE ρ vs).set v Sl.no) is = _
    rw [wipeE_set (h v List.mem_cons_self), wipeE_sub vs fun i hi => h i (List.mem_cons_of_mem _ hi)]
/-- whatever the frame is -/
def xVT (B : Tb) (u : Option (Addr × Value × Option Addr)) (W : WX) (f : Tf) : TT := fun σ H Q => ∃ G : Gf, (G.B = B ∧ G.ux = u) ∧ tVT G W f σ H Q
def xV (B : Tb) (u : Option (Addr × Value × Option Addr)) (W : WX) (f : Ef) : TE := fun σ H Q => ∃ G : Gf, (G.B = B ∧ G.ux = u) ∧ tV G W f σ H Q
def VTs (B : Tb) (u : Option (Addr × Value × Option Addr)) (X : Cx) (W : WX) (es : List Expr) (f : Tf) : Prop := PTs X es (xVT B u W f)
def tTrue : Tf := fun _ s => .ok true s
theorem vts_nil : VTs B u X W [] tTrue := ⟨fun pins s σ H Q I ⟨G, hG, Z, ρ, s', I', h⟩ => pts_nil.run pins s σ H Q I (h Z H I' (Same.refl Z))⟩
theorem vts_one {c : Expr} {f : Tf} (h : VT B u X W c f) : VTs B u X W [c] f := ⟨fun pins s σ H Q I ⟨G, hG, q⟩ => (pts_one (h G hG)).run pins s σ H Q I q⟩
theorem VE.x {f : Ef} (h : VE B u X W e f) : PE X e (xV B u W f) := ⟨fun pins s σ H Q I ⟨G, hG, q⟩ => (h G hG).run pins s σ H Q I q⟩
theorem lc_of {is : List Nat} {G : Gf} {J : It} {Z0 H1 : Hp} {ds : List D} {gt : D → En → Option En} {ft : Tf} {fe : Ef} {g : TG} (w : WalkD G.B J Z0 ds) (o : VGok G.B is g gt) {σ : L2.St} {ρ : En} {s : S} (I : VI G Z0 H1 σ ρ s) (pl : is.all (plainAt ρ) = true)
    {Wx : WX} {Q : VK} {Zb : Hp} (h : ROk G Wx σ ρ Zb (lcD gt ft fe (wipeE ρ is) ds [] s) fun ds s' => ∀ p vs Z' H', VI G Z' H' σ ρ s' → Same Z0 Z' → H' p = some (.lst vs) → Own1 G Z' σ ρ p → Rps G.B Z' vs ds → Q (.ref p) H') :
    ∀ D, H1 D = none → ∃ Wv : Nat → Nat → Hp → Prop, (∃ m, Wv 0 m (upd H1 D (.lst []))) ∧ ∀ i m H, Wv i m H →
  (J.stop i H ∧ Q (.ref D) H) ∨ (J.go i H ∧ ∃ Nx : Hp → Prop, (∀ H', Nx H' → ∃ m', m' < m ∧ Wv (i + 1) m' H') ∧ ∀ x H', J.yld i H x H' → g x (L2.wipe σ is) H' fun σ2 H2 => L2.wipe σ2 is = L2.wipe σ is ∧ xVT G.B G.ux W0 ft σ2 H2 fun b H3 =>
    if b = true then xV G.B G.ux W0 fe σ2 H3 fun y H4 => ∃ acc, H4 D = some (.lst acc) ∧ acc.length < sizeLine ∧ Nx (upd H4 D (.lst (acc ++ [y]))) else Nx H3) := by
  intro D hD
  obtain ⟨Y, wk, y⟩ := w
  have o1 := I.own1 hD
  have sx : ∀ x, G.self = some x → x ≠ D := fun x hx e => I.slf x hx (by rw [e]; exact hD)
  refine lc_it wk (fun i H => ∃ Z s acc dacc, VI (G.hide D (.lst acc)) Z H (L2.wipe σ is) (wipeE ρ is) s ∧ Same Z0 Z ∧ Rps G.B Z acc dacc ∧ ROk G Wx σ ρ Zb (lcD gt ft fe (wipeE ρ is) (ds.drop i) dacc s) _)
    ⟨Z0, s, [], [], (I.wipe is).hide hD, Same.refl Z0, .nil, h⟩ (fun i H _ ⟨Z, s, acc, dacc, I', z, _⟩ => z.trans I'.zh) ?_ ?_
  · rintro i x H H' hi ⟨Z, s, acc, dacc, I', z, ra, h⟩ hy
    obtain ⟨d, Z', ed, t, r⟩ := y i H x H' hy Z z I'.zh
    rw [drop_cons ed] at h
    obtain ⟨ρ1, e, h⟩ := (ROk.bind (show ROk G Wx σ ρ Zb ((opt (gt d (wipeE ρ is)) s).bind _) _ from h)).opt
    refine o (G.hide D (.lst acc)) Z' H' (L2.wipe σ is) (wipeE ρ is) s x d ρ1 _ rfl (I'.step t) r e fun σ' I2 wp wpe => ?_
    have e1 : L2.wipe σ' is = L2.wipe σ is := (wp is fun _ h => h).trans (wipe_sub is fun _ h => h)
    have e2 : wipeE ρ1 is = wipeE ρ is := (wpe is fun _ h => h).trans (wipeE_sub is fun _ h => h)
    refine ⟨e1, G.hide D (.lst acc), ⟨rfl, rfl⟩, Z', ρ1, s, I2, (ROk.calm (ROk.bind h)).up (Same.refl Z') fun b s1 h1 Z2 H2 I3 z2 => ?_⟩
    cases b with
    | false =>
      rw [if_neg Bool.false_ne_true]
      have I4 := I3.wipe is
      rw [e1, e2] at I4
      exact ⟨Z2, s1, acc, dacc, I4, z.trans (t.zz.trans z2), ra.mono (t.zz.trans z2), h1⟩
    | true =>
      rw [if_pos rfl]
      refine ⟨G.hide D (.lst acc), ⟨rfl, rfl⟩, Z2, ρ1, s1, I3, (ROk.calm (ROk.bind (show ROk G Wx σ ρ Zb ((fe ρ1 s1).calm.bind _) _ from h1))).up (Same.refl Z2) fun y s2 h2 v Z3 H3 I4 z3 rv => ?_⟩
      have hz := (I4.hid (D, .lst acc) List.mem_cons_self).1
      cases hf : fit dacc.length with
      | false =>
        rw [hf] at h2
        exact h2.elim
      | true =>
        rw [hf] at h2
        have I5 := I4.wipe is
        rw [e1, e2] at I5
        refine ⟨acc, hz, fit_lt (by rw [ra.len]; exact hf), Z3, s2, acc ++ [v], dacc ++ [y], I5.rehide o1.h (fun q hq e => o1.f.d q hq e.symm) sx, z.trans (t.zz.trans (z2.trans z3)), (ra.mono (t.zz.trans (z2.trans z3))).app (.cons rv .nil), h2⟩
  · rintro H ⟨Z, s, acc, dacc, I', z, ra, h⟩
    rw [List.drop_length] at h
    have hz := (I'.hid (D, .lst acc) List.mem_cons_self).1
    obtain ⟨I2, o2⟩ := I'.unhide I hD z pl
    exact h D acc Z H I2 z hz o2 ra
section
variable {is : List Nat} {elt tg iter : Expr} {ifs : List Expr} {scope : Scope} {own : List (Str × Nat)} {fi : Af} {gt : D → En → Option En} {ft : Tf} {fe : Ef}
theorem lcT {G : Gf} {g : TG} (hs : own.map (·.2) = is) (o : VGok G.B is g gt) {σ : L2.St} {H : Hp} {Q : VK} (h : tVF G W (lLc is fi gt ft fe) σ H Q) : tLc (tVI G W fi) g (xVT G.B G.ux W0 ft) (xV G.B G.ux W0 fe) (own.map (·.2)) σ H Q := by
  subst hs
  obtain ⟨Z, ρ, s, I, h⟩ := h
  unfold lLc at h
  cases pl : (own.map (·.2)).all (plainAt ρ) with
  | false => rw [pl] at h; exact h.elim
  | true =>
    rw [pl] at h
    have h : ROk G W σ ρ Z ((fi ρ s).bind _) _ := h
    refine ⟨Z, ρ, s, I, h.bind.up (Same.refl Z) fun ds s1 h1 J Z' H' I' z w => ?_⟩
    exact lc_of w o I' pl (h1.up (Same.refl Z) fun es s2 k p vs Z2 H2 I2 z2 => k p vs Z2 H2 I2 (z.trans z2))
theorem vf_lc (hc : X.calm = true) (hN : X.N.Nodup) (hi : VIt B u X W tg iter fi) (ok : BlkOk X.N X.env.scope scope own) (hs : own.map (·.2) = is)
    (hg : ∃ g, (∀ (s : Shared) (H : Hp) (C : Addr) (cl : List (Str × Addr)) (fp : List Addr), PG (X.blk s H scope (compEnvC scope cl C X.env) fp) tg g) ∧ VGok B is g gt)
    (ht : ∀ (s : Shared) (H : Hp) (C : Addr) (cl : List (Str × Addr)) (fp : List Addr), VTs B u (X.blk s H scope (compEnvC scope cl C X.env) fp) W0 ifs ft)
    (he : ∀ (s : Shared) (H : Hp) (C : Addr) (cl : List (Str × Addr)) (fp : List Addr), VE B u (X.blk s H scope (compEnvC scope cl C X.env) fp) W0 elt fe) (hx : ∀ x, foldedSetIterable iter X.env x = pure x := by intro _; rfl) :
    VF B u X W (.ListComp elt [⟨tg, iter, ifs, 0⟩] scope pos) (lLc is fi gt ft fe) := by
  intro G hG
  obtain ⟨g, hg, o⟩ := hg
  have h0 := hi G hG
  obtain ⟨rfl, rfl⟩ := hG
  exact pe_mono (pe_lc hc hN h0 ok hg ht (fun s H C cl fp => (he s H C cl fp).x) hx) fun σ H Q h => lcT hs o h
/-- name = [..] on one line, the name a local -/
theorem ps_lcA {G : Gf} {i : Nat} {y : Str} {py spos : Pos} (hc : X.calm = true) (hN : X.N.Nodup) (hy : X.N[i]? = some y) (hyl : X.env.scope.names.lookup y = some .local)
    (hsw : swapsWith (.ListComp elt [⟨tg, iter, ifs, 0⟩] scope pos) (some (.Name y py)) spos.line X.env = pure true) (hi : VIt G.B G.ux X W tg iter fi) (ok : BlkOk X.N X.env.scope scope own) (hs : own.map (·.2) = is)
    (hg : ∃ g, (∀ (s : Shared) (H : Hp) (C : Addr) (cl : List (Str × Addr)) (fp : List Addr), PG (X.blk s H scope (compEnvC scope cl C X.env) fp) tg g) ∧ VGok G.B is g gt)
    (ht : ∀ (s : Shared) (H : Hp) (C : Addr) (cl : List (Str × Addr)) (fp : List Addr), VTs G.B G.ux (X.blk s H scope (compEnvC scope cl C X.env) fp) W0 ifs ft)
    (he : ∀ (s : Shared) (H : Hp) (C : Addr) (cl : List (Str × Addr)) (fp : List Addr), VE G.B G.ux (X.blk s H scope (compEnvC scope cl C X.env) fp) W0 elt fe) (hx : ∀ x, foldedSetIterable iter X.env x = pure x := by intro _; rfl) :
    PS X (.Assign [.Name y py] (.ListComp elt [⟨tg, iter, ifs, 0⟩] scope pos) spos) (tAsg (tVF G W (lLc is fi gt ft fe)) (gName i)) := by
  obtain ⟨g, hg, o⟩ := hg
  exact ps_mono (ps_setLc hc hN hy hyl hsw (hi G ⟨rfl, rfl⟩) ok hg ht (fun s H C cl fp => (he s H C cl fp).x) hx) fun D' σ H h => lcT hs o h
theorem vf_ve {G : Gf} {f : Lf} {σ : L2.St} {H : Hp} {Q : VK} (h : tV G W (eOf f) σ H Q) : tVF G W f σ H Q := by
  obtain ⟨Z, ρ, s, I, h⟩ := h
  refine ⟨Z, ρ, s, I, h.bind.up (Same.refl Z) fun ds s1 h1 p vs Z' H' I' z e o r => ?_⟩
  obtain ⟨I2, z2⟩ := o.frz I' e
  exact h1 _ _ H' I2 (z.trans z2) (.lst upd_same (r.mono z2))
end
end
end Vv

/-! ## lists of ours: frozen, read, changed -/
namespace Vv
section
variable {B : Tb} {u : Option (Addr × Value × Option Addr)} {X : Cx} {W : WX} {pos : Pos} {e : Expr}
theorem set_same {σ : L2.St} {i : Nat} {x : Option V} (h : σ[i]? = some x) : σ.set i x = σ := by
  refine List.ext_getElem? fun j => ?_
  by_cases q : i = j
  · subst q
    rw [List.getElem?_set_self (List.getElem?_eq_some_iff.mp h).1, h]
  · rw [List.getElem?_set_ne q]
def frz1 (ρ : En) (i : Nat) : En := match ρ[i]? with
  | some (.own ds) => ρ.set i (.val (.lst ds))
  | _ => ρ
theorem VI.frz1 {G : Gf} {Z H : Hp} {σ : L2.St} {ρ : En} {s : S} (I : VI G Z H σ ρ s) (i : Nat) : ∃ Z', VI G Z' H σ (frz1 ρ i) s ∧ Same Z Z' := by
  unfold Vv.frz1
  split
  · rename_i ds e
    obtain ⟨p, vs, ep, hp, f, n, r⟩ := I.sl i _ e
    have J : VI G Z H σ (ρ.set i .no) s := by
      have := I.setNo (i := i) (v := some (.ref p))
      rwa [set_same ep] at this
    have o : Own1 G Z σ (ρ.set i .no) p := ⟨f, n, fun j oj ej => by
      obtain ⟨n2, oj2⟩ := ownAt_set_no oj
      exact I.dis i j p (Ne.symm n2) (by unfold OwnAt; rw [e]; trivial) oj2 ep ej⟩
    obtain ⟨J2, z2⟩ := o.frz J hp
    refine ⟨_, ?_, z2⟩
    have J3 := J2.setVal (i := i) (v := .ref p) (d := .lst ds) (.lst upd_same (r.mono z2))
    rwa [set_same ep, set_twice] at J3
  · exact ⟨Z, I, Same.refl Z⟩
def sFrz (i : Nat) (g : Sf) : Sf := fun ρ s => g (frz1 ρ i) s
theorem vss_frz (i : Nat) {ss : List Stmt} {g : Sf} (h : VSs B u X W ss g) : VSs B u X W ss (sFrz i g) := by
  intro G hG
  refine pss_mono (h G hG) fun D' σ H ⟨Z, ρ, s, I, h⟩ => ?_
  obtain ⟨Z', I', z⟩ := I.frz1 i
  exact ⟨Z', _, s, I', SOk.up z (show SOk G W Z D' (g (frz1 ρ i) s) from h)⟩
theorem vs_frz (i : Nat) {st : Stmt} {g : Sf} (h : VS B u X W st g) : VS B u X W st (sFrz i g) := by
  intro G hG
  refine ps_mono (h G hG) fun D' σ H ⟨Z, ρ, s, I, h⟩ => ?_
  obtain ⟨Z', I', z⟩ := I.frz1 i
  exact ⟨Z', _, s, I', SOk.up z (show SOk G W Z D' (g (frz1 ρ i) s) from h)⟩
/-! reading: all lists of ours as if they were frozen -/
def frzS : Sl → Sl
  | .own ds => .val (.lst ds)
  | x => x
def noOb (ρ : En) : Bool := ρ.all fun x => match x with
  | .ob _ _ => false
  | _ => true
def OwnL (ρ : En) (i : Nat) : Prop := match ρ[i]? with
  | some (.own _) => True
  | _ => False
open Classical in
noncomputable def frzZ (Z H : Hp) (σ : L2.St) (ρ : En) : Hp := fun b => if ∃ i, OwnL ρ i ∧ σ[i]? = some (some (.ref b)) then H b else Z b
theorem OwnL.at {ρ : En} {i : Nat} (h : OwnL ρ i) : ∃ ds, ρ[i]? = some (.own ds) := by
  unfold OwnL at h
  split at h
  · exact ⟨_, by assumption⟩
  · exact h.elim
theorem VI.frzA {G : Gf} {Z H : Hp} {σ : L2.St} {ρ : En} {s : S} (I : VI G Z H σ ρ s) (no : noOb ρ = true) : VI G (frzZ Z H σ ρ) H σ (ρ.map frzS) s ∧ Same Z (frzZ Z H σ ρ) := by
  have yes : ∀ b i, OwnL ρ i → σ[i]? = some (some (.ref b)) → frzZ Z H σ ρ b = H b := fun b i o e => if_pos ⟨i, o, e⟩
  have nn : ∀ b, (¬ ∃ i, OwnL ρ i ∧ σ[i]? = some (some (.ref b))) → frzZ Z H σ ρ b = Z b := fun b h => if_neg h
  have own : ∀ b, (∃ i, OwnL ρ i ∧ σ[i]? = some (some (.ref b))) → G.Free Z b ∧ G.H0 b = none := fun b ⟨i, o, e⟩ => by
    obtain ⟨ds, e2⟩ := o.at
    obtain ⟨p, vs, ep, hp, f, n, r⟩ := I.sl i _ e2
    rw [e] at ep; cases ep
    exact ⟨f, n⟩
  have zz : Same Z (frzZ Z H σ ρ) := fun b o e => by
    rw [nn b fun h => by rw [(own b h).1.z] at e; cases e]
    exact e
  have keepN : ∀ b, Z b = none → (∀ f : G.Free Z b, False) → frzZ Z H σ ρ b = none := fun b z h => by
    rw [nn b fun q => h (own b q).1]; exact z
  refine ⟨⟨by rw [List.length_map]; exact I.len, fun b o e => ?_, I.z0.trans zz, fun b o e => ?_, I.keep, fun q hq => ?_, I.slf, fun q hq => ?_, fun i x e => ?_, fun i j p n oi => ?_⟩, zz⟩
  · by_cases h : ∃ i, OwnL ρ i ∧ σ[i]? = some (some (.ref b))
    · rw [show frzZ Z H σ ρ b = H b from if_pos h] at e; exact e
    · rw [nn b h] at e; exact I.zh b o e
  · by_cases h : ∃ i, OwnL ρ i ∧ σ[i]? = some (some (.ref b))
    · exact .inr (own b h).2
    · rw [nn b h] at e; exact I.zn b o e
  · obtain ⟨st, e1, hA, z1, z2, hd⟩ := I.hnd q hq
    exact ⟨st, e1, hA, keepN _ z1 fun f => (f.h q hq).1 rfl, keepN _ z2 fun f => (f.h q hq).2 rfl, hd⟩
  · exact ⟨(I.hid q hq).1, keepN _ (I.hid q hq).2 fun f => f.d q hq rfl⟩
  · rw [List.getElem?_map] at e
    obtain ⟨y, e2, rfl⟩ := Option.map_eq_some_iff.mp e
    have sl := I.sl i y e2
    cases y with
    | no => trivial
    | val d => obtain ⟨v, e3, r⟩ := sl; exact ⟨v, e3, r.mono zz⟩
    | own ds =>
      obtain ⟨p, vs, ep, hp, f, n, r⟩ := sl
      exact ⟨.ref p, ep, .lst (by rw [yes p i (by unfold OwnL; rw [e2]; trivial) ep]; exact hp) (r.mono zz)⟩
    | ob c fs =>
      have := List.all_eq_true.mp no _ (List.mem_of_getElem? e2)
      cases this
    | hand => exact sl
    | exc c fs => obtain ⟨a, d, ws, e3, x3, h3, l3, r3⟩ := sl; exact ⟨a, d, ws, e3, x3, zz _ _ h3, l3, r3.mono zz⟩
  · exfalso
    unfold OwnAt at oi
    rw [List.getElem?_map] at oi
    cases q : ρ[i]? with
    | none => rw [q] at oi; exact oi
    | some y =>
      rw [q] at oi
      cases y with
      | ob c fs =>
        have := List.all_eq_true.mp no _ (List.mem_of_getElem? q)
        cases this
      | _ => exact oi
/-- back: the heap has grown, the lists stand as before -/
theorem VI.unfrz {G : Gf} {Z Z1 H H1 : Hp} {σ : L2.St} {ρ : En} {s s1 : S} (I : VI G Z H σ ρ s) (no : noOb ρ = true) (J : VI G Z1 H1 σ (ρ.map frzS) s1) (z : Same (frzZ Z H σ ρ) Z1) : VI G Z H1 σ ρ s1 := by
  have zz := (I.frzA no).2
  refine ⟨I.len, zz.trans (z.trans J.zh), I.z0, I.zn, J.keep, fun q hq => ?_, J.slf, fun q hq => ⟨(J.hid q hq).1, (I.hid q hq).2⟩, fun i x e => ?_, I.dis⟩
  · obtain ⟨st, e1, hA, _, _, hd⟩ := J.hnd q hq
    obtain ⟨_, _, _, z1, z2, _⟩ := I.hnd q hq
    exact ⟨st, e1, hA, z1, z2, hd⟩
  · have sl := I.sl i x e
    cases x with
    | own ds =>
      obtain ⟨p, vs, ep, hp, f, n, r⟩ := sl
      refine ⟨p, vs, ep, J.zh _ _ (z _ _ ?_), f, n, r⟩
      rw [show frzZ Z H σ ρ p = H p from if_pos ⟨i, by unfold OwnL; rw [e]; trivial, ep⟩]
      exact hp
    | ob c fs =>
      have := List.all_eq_true.mp no _ (List.mem_of_getElem? e)
      cases this
    | _ => exact sl
def atomD : D → Bool
  | .non => true
  | .bl _ => true
  | .int _ => true
  | .str _ => true
  | _ => false
theorem atom_any {Z Z' : Hp} {v : V} {d : D} (r : Rp B Z v d) (h : atomD d = true) : Rp B Z' v d := by
  cases r with
  | non => exact .non
  | bl b => exact .bl b
  | int i => exact .int i
  | str l => exact .str l
  | _ => cases h
def eU (f : Ef) : Ef := fun ρ s => if noOb ρ then (f (ρ.map frzS) s).calm.bind fun d s1 => if atomD d then .ok d s1 else .bad else .bad
theorem ve_u {f : Ef} (h : VE B u X W e f) : VE B u X W e (eU f) := by
  intro G hG
  refine pe_mono (h G hG) fun σ H Q ⟨Z, ρ, s, I, h⟩ => ?_
  unfold eU at h
  cases no : noOb ρ with
  | false => rw [no] at h; exact h.elim
  | true =>
    rw [no] at h
    have h : ROk G W σ ρ Z ((f (ρ.map frzS) s).calm.bind _) _ := h
    refine ⟨_, _, s, (I.frzA no).1, (ROk.calm h.bind).up (Same.refl _) fun d s1 h1 v Z1 H1 J z r => ?_⟩
    cases a : atomD d with
    | false => rw [a] at h1; exact h1.elim
    | true =>
      rw [a] at h1
      exact h1 v Z H1 (I.unfrz no J z) (Same.refl Z) (atom_any r a)
def tU (f : Tf) : Tf := fun ρ s => if noOb ρ then (f (ρ.map frzS) s).calm else .bad
theorem vt_u {f : Tf} (h : VT B u X W e f) : VT B u X W e (tU f) := by
  intro G hG
  refine pt_mono (h G hG) fun σ H Q ⟨Z, ρ, s, I, h⟩ => ?_
  unfold tU at h
  cases no : noOb ρ with
  | false => rw [no] at h; exact h.elim
  | true =>
    rw [no] at h
    refine ⟨_, _, s, (I.frzA no).1, (ROk.calm (show ROk G W σ ρ Z (f (ρ.map frzS) s).calm _ from h)).up (Same.refl _) fun d s1 h1 Z1 H1 J z => ?_⟩
    exact h1 Z H1 (I.unfrz no J z) (Same.refl Z)
/-- x.append(e) -/
def sApp (i : Nat) (f : Ef) : Sf := fun ρ s => match ρ[i]? with
  | some (.own ds) => (f ρ s).then ρ fun d s1 => if fit ds.length then .nx (ρ.set i (.own (ds ++ [d]))) s1 else .bad
  | _ => .bad
/-- a list of ours at slot i is changed -/
theorem VI.poke {G : Gf} {Z H : Hp} {σ : L2.St} {ρ : En} {s : S} {i : Nat} {p : Addr} {ds ds' : List D} {vs' : List V} (I : VI G Z H σ ρ s) (e : ρ[i]? = some (.own ds)) (ep : σ[i]? = some (some (.ref p))) (r : Rps G.B Z vs' ds') : VI G Z (upd H p (.lst vs')) σ (ρ.set i (.own ds')) s := by
  obtain ⟨p', vs0, ep', hp, f, n, _⟩ := I.sl i _ e
  rw [ep] at ep'; cases ep'
  have hi : i < ρ.length := (List.getElem?_eq_some_iff.mp e).1
  have oi : OwnAt ρ i := by unfold OwnAt; rw [e]; trivial
  have zne : ∀ b o, Z b = some o → b ≠ p := fun b o q => ne_of_none q f.z
  have oth : ∀ j q, j ≠ i → OwnAt ρ j → σ[j]? = some (some (.ref q)) → q ≠ p := fun j q nj oj ej c => by
    subst c
    exact I.dis j i q nj oj oi ej ep
  refine ⟨by rw [List.length_set]; exact I.len, fun b o q => by rw [upd_ne (zne b o q)]; exact I.zh b o q, I.z0, I.zn, fun b o q h1 h2 => ?_, fun q hq => ?_, fun x hx => ?_, fun q hq => ?_, fun j x q => ?_, fun j k q nj oj ok ej => ?_⟩
  · rw [upd_ne (ne_of_none q n)]; exact I.keep b o q h1 h2
  · obtain ⟨st, e1, hA, z1, z2, hd⟩ := I.hnd q hq
    exact ⟨st, e1, ⟨by rw [upd_ne (Ne.symm (f.h q hq).1)]; exact hA.ea, by rw [upd_ne (Ne.symm (f.h q hq).2)]; exact hA.el, hA.ne⟩, z1, z2, hd⟩
  · by_cases c : x = p
    · subst c; rw [upd_same]; exact fun z => nomatch z
    · rw [upd_ne c]; exact I.slf x hx
  · rw [upd_ne (Ne.symm (f.d q hq))]; exact I.hid q hq
  · by_cases c : i = j
    · subst c
      rw [List.getElem?_set_self hi] at q
      cases q
      exact ⟨p, vs', ep, upd_same, f, n, r⟩
    · rw [List.getElem?_set_ne c] at q
      have sl := I.sl j x q
      cases x with
      | own ds => obtain ⟨a, ws, e2, h2, f2, n2, r2⟩ := sl; exact ⟨a, ws, e2, by rw [upd_ne (oth j a (Ne.symm c) (by unfold OwnAt; rw [q]; trivial) e2)]; exact h2, f2, n2, r2⟩
      | ob c2 fs => obtain ⟨a, dx, ws, e2, q2, h2, f2, r2⟩ := sl; exact ⟨a, dx, ws, e2, q2, by rw [upd_ne (oth j a (Ne.symm c) (by unfold OwnAt; rw [q]; trivial) e2)]; exact h2, f2, r2⟩
      | _ => exact sl
  · have ow : ∀ m, OwnAt (ρ.set i (.own ds')) m → OwnAt ρ m := fun m h => by
      by_cases c : m = i
      · rw [c]; exact oi
      · exact ownAt_set h c
    exact I.dis j k q nj (ow j oj) (ow k ok) ej
theorem vs_app (i : Nat) {x m : Str} {f : Ef} {p apos cpos : Pos} (he : VE B u X W e f) (hst : starEach [e] X.env = (false, eval e X.env) :: starEach [] X.env)
    (hp : ∀ {t : TA}, PA X [e] t → PE X (.Call (.Attribute (.Name x p) m apos) [e] [] cpos) (tBM X.K "list" rAppend (tVar i) t))
    (hs : swapsWith (.Call (.Attribute (.Name x p) m apos) [e] [] cpos) none pos.line X.env = pure false := by rfl) : VS B u X W (.Expr (.Call (.Attribute (.Name x p) m apos) [e] [] cpos) pos) (sApp i f) := by
  intro G hG
  refine ps_mono (ps_expr (hp (va_cons he va_nil hst G hG)) hs) fun D' σ H ⟨Z, ρ, s, I, h⟩ => ?_
  cases e2 : ρ[i]? with
  | none => simp only [sApp, e2] at h; exact h.elim
  | some y =>
    cases y with
    | own ds =>
      simp only [sApp, e2] at h
      obtain ⟨p, vs, ep, hp2, f2, n2, r2⟩ := I.sl i _ e2
      refine ⟨.ref p, ep, .inl ⟨rfl, _, .inl (.inl hp2)⟩, Z, ρ, s, I, ?_⟩
      have h1 := SOk.from h σ
      cases ef : f ρ s with
      | bad => rw [ef] at h1; exact h1.elim
      | exc c fs s1 => rw [ef] at h1; simp only [aCons, ef, R.bind]; exact h1
      | ok d s1 =>
        rw [ef] at h1
        simp only [aCons, aNil, ef, R.bind]
        intro ws Z1 H1 I1 z1 r
        have h1 : SOk G W Z D' (if fit ds.length then .nx (ρ.set i (.own (ds ++ [d]))) s1 else .bad) := h1
        cases hf : fit ds.length with
        | false => rw [hf] at h1; exact h1.elim
        | true =>
          rw [hf] at h1
          cases r with
          | @cons v _ _ _ rv rr =>
            cases rr
            obtain ⟨p', vs', ep', hp', f', n', r'⟩ := I1.sl i _ e2
            rw [ep] at ep'; cases ep'
            refine ⟨p, vs', v, rfl, rfl, hp', fit_lt (by rw [r'.len]; exact hf), h1 σ Z1 _ (I1.poke e2 ep (r'.app (.cons rv .nil))) z1⟩
    | _ => simp only [sApp, e2] at h; exact h.elim
end
end Vv

/-! ## defs -/
namespace Vv
/-- a def over things: what its body gives -/
def en0 (n : Nat) (xs : List Sl) : En := xs ++ List.replicate (n - xs.length) .no
def resP : SR → R D
  | .rt d _ => .ok d none
  | .nx _ _ => .ok .non none
  | .exc c fs _ _ => .exc c fs none
  | _ => .bad
/-- a def without a hand: n slots -/
def runP (n : Nat) (g : Sf) (ds : List D) : R D := resP (g (en0 n (ds.map .val)) none)
def resH : SR → R D
  | .rt d s => .ok d s
  | .nx _ s => .ok .non s
  | .exc c fs _ s => .exc c fs s
  | _ => .bad
/-- a def whose first parameter is the hand -/
def runH (n : Nat) (g : Sf) (ds : List D) (st : S) : R D := resH (g (en0 n (.hand :: ds.map .val)) st)
def ExE (B : Tb) (E : XK) (Z H : Hp) (St : Hp → Hp → Prop) (c : Nat) (fs : List D) : Prop :=
  ∀ d vs Z' H', St Z' H' → Z' d = some (.xd ((B.fld c).zip vs)) → vs.length = (B.fld c).length → Rps B Z' vs fs → E (.ref (B.cls c)) (some d) H'
def spP (B : Tb) (k : Nat) (F : List D → R D) : Sp := fun vs H Q E => ∃ Z ds, Same Z H ∧ ds.length = k ∧ Rps B Z vs ds ∧ match F ds with
  | .ok d _ => ∀ v Z' H', Step Z H Z' H' → Rp B Z' v d → Q v H'
  | .exc c fs _ => ExE B E Z H (Step Z H) c fs
  | .bad => False
/-- as Step, but the hand at a has moved -/
structure StepH (a : Addr) (Z H Z' H' : Hp) : Prop where
  hh : ∀ b o, b ≠ a → H b = some o → H' b = some o
  zz : Same Z Z'
  zh : Same Z' H'
  zn : ∀ p o, Z' p = some o → Z p = some o ∨ H p = none
def spH (B : Tb) (k : Nat) (F : List D → S → R D) : Sp := fun vs H Q E => ∃ Z ds a l st ws, vs = .ref a :: ws ∧ Same Z H ∧ ds.length = k ∧ Rps B Z ws ds ∧ HandAt H a l st ∧ Z a = none ∧ Z l = none ∧ match F ds (some st) with
  | .ok d s => ∀ v Z' H' st', s = some st' → StepH a Z H Z' H' → HandAt H' a l st' → Rp B Z' v d → Q v H'
  | .exc c fs s => ExE B E Z H (fun Z' H' => ∃ st', s = some st' ∧ StepH a Z H Z' H' ∧ HandAt H' a l st') c fs
  | .bad => False
theorem en0_at {n : Nat} {xs : List Sl} {i : Nat} {x : Sl} (h : (en0 n xs)[i]? = some x) : xs[i]? = some x ∨ x = .no := by
  unfold en0 at h
  by_cases hi : i < xs.length
  · rw [List.getElem?_append_left hi] at h; exact .inl h
  · rw [List.getElem?_append_right (by omega)] at h
    exact .inr (List.eq_of_mem_replicate (List.mem_of_getElem? h))
theorem start_at {N : List Str} {vs : List V} {i : Nat} {v : V} (h : vs[i]? = some v) : (L2.start N vs)[i]? = some (some v) := by
  have hi : i < vs.length := (List.getElem?_eq_some_iff.mp h).1
  unfold L2.start
  rw [List.getElem?_append_left (by rw [List.length_map]; exact hi), List.getElem?_map, h]
  rfl
section
variable {P : Program} {w : World} {K : PySem.W.Frag} {mg : Str → Option Value} {base : Heap}
variable {x qual : Str} {st : Stmt} {f : Addr} {fd : FuncData} {N ps : List Str} {k n : Nat} {B : Tb} {g : Sf}
theorem fnP (F : Fun K x qual st f fd) (Sc : FnScope N ps (defScope st)) (m : Nat) (hm : ps.length = m := by rfl) (hn : N.length = n := by rfl) (hmn : m ≤ n := by decide)
    (hb : ∀ (cdv : Value) (A : Around) (outer : List Env) (s : Shared) (H : Hp) (E : XK), Room k (A.deeper (envOfC qual (defScope st) s.heap.objs.size f cdv)) →
      VSs B none (cxOf (L2.CX P w) P w K mg base N qual (defScope st) f cdv A outer s H E) (fun cls d _ H => E cls d H) (defBody st) g) :
    FnOk P w K mg base (L2.CX P w) (k + 1) f fd ps (spP B m (runP n g)) := by
  refine F.okX Sc (fun vs H Q E ⟨Z, ds, z, hl, r, _⟩ => by rw [r.len, hl, hm]) fun cdv A outer s H vs Q E hr h => ?_
  obtain ⟨Z, ds, z, hl, r, h⟩ := h
  let G : Gf := ⟨B, Z, H, none, none, [], none⟩
  refine ⟨_, hb cdv A outer s H E hr G ⟨rfl, rfl⟩, Z, en0 n (ds.map .val), none, ?_, ?_⟩
  · refine ⟨?_, z, Same.refl Z, fun p o e => .inl e, fun b o e _ _ => e, (fun _ e => nomatch e), (fun _ e => nomatch e), (fun _ e => nomatch e), fun i x e => ?_, fun i j p _ oi => ?_⟩
    · have hv := r.len
      unfold en0 L2.start
      simp only [List.length_append, List.length_replicate, List.length_map]
      omega
    · rcases en0_at e with q | rfl
      · rw [List.getElem?_map] at q
        obtain ⟨d, e1, rfl⟩ := Option.map_eq_some_iff.mp q
        obtain ⟨v, e2, rv⟩ := r.at e1
        exact ⟨v, start_at e2, rv⟩
      · trivial
    · exfalso
      unfold OwnAt at oi
      cases q : (en0 n (ds.map Sl.val))[i]? with
      | none => rw [q] at oi; exact oi
      | some y =>
        rw [q] at oi
        rcases en0_at q with q2 | rfl
        · rw [List.getElem?_map] at q2
          obtain ⟨d, e1, rfl⟩ := Option.map_eq_some_iff.mp q2
          exact oi
        · exact oi
  · have stp : ∀ {σ ρ s' Z' H'}, VI G Z' H' σ ρ s' → Same Z Z' → Step Z H Z' H' := fun {σ ρ s' Z' H'} I z1 => ⟨fun b o e => I.keep b o e (fun _ e => nomatch e) (fun _ e => nomatch e), z1, I.zh, I.zn⟩
    unfold runP resP at h
    cases eg : g (en0 n (ds.map .val)) none with
    | nx ρ' s' => rw [eg] at h; exact fun σ Z' H' I z1 => h .non Z' H' (stp I z1) .non
    | rt d s' => rw [eg] at h; exact fun v σ ρ Z' H' I z1 rv => h v Z' H' (stp I z1) rv
    | exc c fs ρ' s' => rw [eg] at h; exact fun σ d vs Z' H' I z1 e l rs => h d vs Z' H' (stp I z1) e l rs
    | bk ρ' s' => rw [eg] at h; exact h.elim
    | ct ρ' s' => rw [eg] at h; exact h.elim
    | bad => rw [eg] at h; exact h.elim
theorem fnH (F : Fun K x qual st f fd) (Sc : FnScope N ps (defScope st)) (m : Nat) (hm : ps.length = m + 1 := by rfl) (hn : N.length = n := by rfl) (hmn : m + 1 ≤ n := by decide)
    (hb : ∀ (cdv : Value) (A : Around) (outer : List Env) (s : Shared) (H : Hp) (E : XK), Room k (A.deeper (envOfC qual (defScope st) s.heap.objs.size f cdv)) →
      VSs B none (cxOf (L2.CX P w) P w K mg base N qual (defScope st) f cdv A outer s H E) (fun cls d _ H => E cls d H) (defBody st) g) :
    FnOk P w K mg base (L2.CX P w) (k + 1) f fd ps (spH B m (runH n g)) := by
  refine F.okX Sc (fun vs H Q E ⟨Z, ds, a, l, st, ws, ev, z, hl, r, _⟩ => by rw [ev, List.length_cons, r.len, hl, hm]) fun cdv A outer s H vs Q E hr h => ?_
  obtain ⟨Z, ds, a, l, hs, ws, rfl, z, hl, r, hA, za, zl, h⟩ := h
  let G : Gf := ⟨B, Z, H, some (a, l), none, [], none⟩
  refine ⟨_, hb cdv A outer s H E hr G ⟨rfl, rfl⟩, Z, en0 n (.hand :: ds.map .val), some hs, ?_, ?_⟩
  · have at_ : ∀ {i : Nat} {x : Sl}, (en0 n (.hand :: ds.map Sl.val))[i]? = some x → x = .no ∨ (i = 0 ∧ x = .hand) ∨ ∃ d v, x = .val d ∧ (V.ref a :: ws)[i]? = some v ∧ Rp B Z v d := fun {i x} e => by
      rcases en0_at e with q | rfl
      · cases i with
        | zero => cases q; exact .inr (.inl ⟨rfl, rfl⟩)
        | succ i =>
          rw [List.getElem?_cons_succ, List.getElem?_map] at q
          obtain ⟨d, e1, rfl⟩ := Option.map_eq_some_iff.mp q
          obtain ⟨v, e2, rv⟩ := r.at e1
          exact .inr (.inr ⟨d, v, rfl, e2, rv⟩)
      · exact .inl rfl
    refine ⟨?_, z, Same.refl Z, fun p o e => .inl e, fun b o e _ _ => e, fun q e => ?_, (fun _ e => nomatch e), (fun _ e => nomatch e), fun i x e => ?_, fun i j p _ oi => ?_⟩
    · have hv := r.len
      unfold en0 L2.start
      simp only [List.length_append, List.length_replicate, List.length_map, List.length_cons]
      omega
    · cases e; exact ⟨hs, rfl, hA, za, zl, fun _ e => nomatch e⟩
    · rcases at_ e with rfl | ⟨rfl, rfl⟩ | ⟨d, v, rfl, e2, rv⟩
      · trivial
      · exact ⟨(a, l), rfl, start_at (v := V.ref a) rfl⟩
      · exact ⟨v, start_at e2, rv⟩
    · exfalso
      unfold OwnAt at oi
      cases q : (en0 n (.hand :: ds.map Sl.val))[i]? with
      | none => rw [q] at oi; exact oi
      | some y =>
        rw [q] at oi
        rcases at_ q with rfl | ⟨_, rfl⟩ | ⟨d, v, rfl, _⟩ <;> exact oi
  · have stp : ∀ {σ ρ s' Z' H'}, VI G Z' H' σ ρ s' → Same Z Z' → ∃ st', s' = some st' ∧ StepH a Z H Z' H' ∧ HandAt H' a l st' := fun {σ ρ s' Z' H'} I z1 => by
      obtain ⟨st', e, hA', _⟩ := I.hnd (a, l) rfl
      exact ⟨st', e, ⟨fun b o n e => I.keep b o e (fun q hq => by cases hq; exact n) (fun _ e => nomatch e), z1, I.zh, I.zn⟩, hA'⟩
    unfold runH resH at h
    cases eg : g (en0 n (.hand :: ds.map .val)) (some hs) with
    | nx ρ' s' =>
      rw [eg] at h
      intro σ Z' H' I z1
      obtain ⟨st', e, t, hA'⟩ := stp I z1
      exact h .non Z' H' st' e t hA' .non
    | rt d s' =>
      rw [eg] at h
      intro v σ ρ Z' H' I z1 rv
      obtain ⟨st', e, t, hA'⟩ := stp I z1
      exact h v Z' H' st' e t hA' rv
    | exc c fs ρ' s' => rw [eg] at h; exact fun σ d vs Z' H' I z1 e l rs => h d vs Z' H' (stp I z1) e l rs
    | bk ρ' s' => rw [eg] at h; exact h.elim
    | ct ρ' s' => rw [eg] at h; exact h.elim
    | bad => rw [eg] at h; exact h.elim
end
/-! calls -/
section
variable {B : Tb} {u : Option (Addr × Value × Option Addr)} {X : Cx} {W : WX} {pos : Pos} {e : Expr}
variable {k m : Nat} {f C : Addr} {fd : FuncData} {ps : List Str} {x : Str} {p : Pos} {es : List Expr} {fa : Af}
def pickP (F : List D → R D) (ds : List D) (s : S) : R D := match F ds with
  | .ok d _ => .ok d s
  | .exc c fs _ => .exc c fs s
  | .bad => .bad
def eCall (m : Nat) (F : List D → R D) (fa : Af) : Ef := fun ρ s => (fa ρ s).bind fun ds s1 => if ds.length = m then pickP F ds s1 else .bad
/-- from what is wanted to the callee's promise -/
theorem spP_of {G : Gf} {F : List D → R D} {σ : L2.St} {ρ : En} {s : S} {Z Z1 H1 : Hp} {ds : List D} {vs : List V} {Q : VK} (hl : ds.length = m) (I : VI G Z1 H1 σ ρ s) (z : Same Z Z1) (r : Rps G.B Z1 vs ds)
    (h : ROk G W σ ρ Z (pickP F ds s) fun d s' => ∀ v Z' H', VI G Z' H' σ ρ s' → Same Z Z' → Rp G.B Z' v d → Q v H') : spP G.B m F vs H1 Q (WE W σ) := by
  refine ⟨Z1, ds, I.zh, hl, r, ?_⟩
  unfold pickP at h
  cases ef : F ds with
  | bad => rw [ef] at h; exact h.elim
  | ok d _ => rw [ef] at h; exact fun v Z' H' t rv => h v Z' H' (I.step t) (z.trans t.zz) rv
  | exc c fs _ => rw [ef] at h; exact fun d vs Z' H' t e l rs => h d vs Z' H' (I.step t) (z.trans t.zz) e l rs
theorem ve_call (F : List D → R D) (hF : FnOk X.prog X.w X.K X.mg X.base (L2.CX X.prog X.w) k f fd ps (spP B m F)) (hr : Room k X.A) (hg : Gl X x) (hm : X.mg x = some (.ref f)) (hk : PySem.W.keepIn X.K (.ref f) = true) (hb : Binds X.K fd ps []) (tk : Takes X W)
    (ha : VA B u X W (e :: es) fa) (hdb : (x == ("__debug__" : Str)) = false := by decide) (he : starEach (e :: es) X.env = (false, eval e X.env) :: starEach es X.env := by rfl) (hpl : (backTo pos (starEach es X.env)).any (·.1) = false := by rfl) :
    VE B u X W (.Call (.Name x p) (e :: es) [] pos) (eCall m F fa) := by
  intro G hG
  have h0 := ha G hG
  obtain ⟨rfl, rfl⟩ := hG
  refine pe_mono (pe_callS (E := WE W) hF hr hg hm hk hb (fun σ => passAt tk σ) h0 hdb he hpl) fun σ H Q ⟨Z, ρ, s, I, h⟩ => ?_
  refine ⟨Z, ρ, s, I, h.bind.up (Same.refl Z) fun ds s1 h1 vs Z1 H1 I1 z1 r => ?_⟩
  by_cases hl : ds.length = m
  · rw [if_pos hl] at h1
    exact spP_of hl I1 z1 r h1
  · rw [if_neg hl] at h1
    exact h1.elim
/-- a call with the hand at slot i first -/
def eCallH (i m : Nat) (F : List D → S → R D) (fa : Af) : Ef := fun ρ s => match ρ[i]? with
  | some .hand => (fa ρ s).bind fun ds s1 => if ds.length = m then F ds s1 else .bad
  | _ => .bad
theorem VI.stepH {G : Gf} {Z H Z' H' : Hp} {σ : L2.St} {ρ : En} {s : S} {a l : Addr} {st' : HS} (I : VI G Z H σ ρ s) (hg : G.hand = some (a, l)) (t : StepH a Z H Z' H') (hA : HandAt H' a l st') : VI G Z' H' σ ρ (some st') := by
  have fz : ∀ {p o}, H p = some o → Z p = none → Z' p = none := fun {p o} h z => by
    cases e : Z' p with
    | none => rfl
    | some u =>
      rcases t.zn p u e with q | q
      · rw [z] at q; cases q
      · rw [h] at q; cases q
  obtain ⟨st, es, hA0, za, zl, hd⟩ := I.hnd (a, l) hg
  have ff : ∀ {p o}, H p = some o → G.Free Z p → G.Free Z' p := fun {p o} h f => ⟨fz h f.z, f.h, f.d⟩
  have hx : ∀ x, G.self = some x → True := fun _ _ => trivial
  refine ⟨I.len, t.zh, I.z0.trans t.zz, fun p o e => ?_, fun b o e h1 h2 => t.hh b o (h1 (a, l) hg) (I.keep b o e h1 h2), fun q hq => ?_, fun x hx => ?_, fun q hq => ?_, fun i x e => ?_, I.dis⟩
  · rcases t.zn p o e with q | q
    · exact I.zn p o q
    · exact .inr (I.h0 q)
  · rw [hg] at hq
    cases hq
    exact ⟨st', rfl, hA, fz hA0.ea za, fz hA0.el zl, hd⟩
  · cases e : H x with
    | none => exact absurd e (I.slf x hx)
    | some o =>
      by_cases c : x = a
      · rw [c, hA.ea]; exact fun z => nomatch z
      · rw [t.hh x o c e]; exact fun z => nomatch z
  · have n := (hd q hq).1
    exact ⟨t.hh _ _ n (I.hid q hq).1, fz (I.hid q hq).1 (I.hid q hq).2⟩
  · have sl := I.sl i x e
    cases x with
    | no => trivial
    | val d => obtain ⟨v, e, r⟩ := sl; exact ⟨v, e, r.mono t.zz⟩
    | own ds => obtain ⟨p, vs, e, h, f, n, r⟩ := sl; exact ⟨p, vs, e, t.hh _ _ (f.h (a, l) hg).1 h, ff h f, n, r.mono t.zz⟩
    | ob c fs => obtain ⟨x, dx, vs, e, q, h, f, r⟩ := sl; exact ⟨x, dx, vs, e, q, t.hh _ _ (f.h (a, l) hg).1 h, ff h f, r.mono t.zz⟩
    | hand => exact sl
    | exc c fs => obtain ⟨a2, d, vs, e, x2, h, l2, r⟩ := sl; exact ⟨a2, d, vs, e, x2, t.zz _ _ h, l2, r.mono t.zz⟩
theorem ve_callH (i : Nat) (F : List D → S → R D) (hF : FnOk X.prog X.w X.K X.mg X.base (L2.CX X.prog X.w) k f fd ps (spH B m F)) (hr : Room k X.A) (hg : Gl X x) (hm : X.mg x = some (.ref f)) (hk : PySem.W.keepIn X.K (.ref f) = true) (hb : Binds X.K fd ps []) (tk : Takes X W)
    (hv : PE X e (tVar i)) (ha : VA B u X W es fa) (hdb : (x == ("__debug__" : Str)) = false := by decide) (he : starEach (e :: es) X.env = (false, eval e X.env) :: starEach es X.env := by rfl) (hpl : (backTo pos (starEach es X.env)).any (·.1) = false := by rfl) :
    VE B u X W (.Call (.Name x p) (e :: es) [] pos) (eCallH i m F fa) := by
  intro G hG
  have h0 := ha G hG
  obtain ⟨rfl, rfl⟩ := hG
  refine pe_mono (pe_callS (E := WE W) hF hr hg hm hk hb (fun σ => passAt tk σ) (pa_cons hv h0 he) hdb he hpl) fun σ H Q ⟨Z, ρ, s, I, h⟩ => ?_
  cases e2 : ρ[i]? with
  | none => simp only [eCallH, e2] at h; exact h.elim
  | some y =>
    cases y with
    | hand =>
      simp only [eCallH, e2] at h
      obtain ⟨⟨a, l⟩, hq, ea⟩ := I.sl i _ e2
      refine ⟨.ref a, ea, Z, ρ, s, I, h.bind.up (Same.refl Z) fun ds s1 h1 vs Z1 H1 I1 z1 r => ?_⟩
      by_cases hl : ds.length = m
      · rw [if_pos hl] at h1
        obtain ⟨st, es, hA, za, zl, _⟩ := I1.hnd (a, l) hq
        subst es
        refine ⟨Z1, ds, a, l, st, vs, rfl, I1.zh, hl, r, hA, za, zl, ?_⟩
        cases ef : F ds (some st) with
        | bad => rw [ef] at h1; exact h1.elim
        | ok d s2 => rw [ef] at h1; intro v Z' H' st' e t hA' rv; subst e; exact h1 v Z' H' (I1.stepH hq t hA') (z1.trans t.zz) rv
        | exc c fs s2 =>
          rw [ef] at h1
          rintro d vs Z' H' ⟨st', e, t, hA'⟩ ez l rs
          subst e
          exact h1 d vs Z' H' (I1.stepH hq t hA') (z1.trans t.zz) ez l rs
      · rw [if_neg hl] at h1
        exact h1.elim
    | _ => simp only [eCallH, e2] at h; exact h.elim
end
end Vv

/-! ## objects -/
namespace Vv
section
variable {B : Tb} {u : Option (Addr × Value × Option Addr)} {X : Cx} {W : WX} {pos : Pos} {e o : Expr} {fo : Ef}
theorem pe_or2 {t1 t2 : TE} (h1 : PE X e t1) (h2 : PE X e t2) : PE X e (fun σ H Q => t1 σ H Q ∨ t2 σ H Q) := ⟨fun pins s σ H Q I q => q.elim (fun q => h1.run pins s σ H Q I q) fun q => h2.run pins s σ H Q I q⟩
/-- the first reading that stands -/
def eAlt (f g : Ef) : Ef := fun ρ s => match f ρ s with
  | .bad => g ρ s
  | r => r
theorem ve_alt {f g : Ef} (h1 : VE B u X W e f) (h2 : VE B u X W e g) : VE B u X W e (eAlt f g) := by
  intro G hG
  refine pe_mono (pe_or2 (h1 G hG) (h2 G hG)) fun σ H Q ⟨Z, ρ, s, I, h⟩ => ?_
  unfold eAlt at h
  cases ef : f ρ s with
  | bad => rw [ef] at h; exact .inr ⟨Z, ρ, s, I, h⟩
  | ok d s1 => rw [ef] at h; exact .inl ⟨Z, ρ, s, I, by rw [ef]; exact h⟩
  | exc c fs s1 => rw [ef] at h; exact .inl ⟨Z, ρ, s, I, by rw [ef]; exact h⟩
def fldD (c k : Nat) : D → Option D
  | .obj c' fs => if c' = c then fs[k]? else none
  | _ => none
theorem obj_of {Z : Hp} {v : V} {c : Nat} {fs : List D} (r : Rp B Z v (.obj c fs)) : ∃ a dx vs, v = .ref a ∧ Z a = some (.ins (B.cls c) dx ((B.fld c).zip vs)) ∧ vs.length = (B.fld c).length ∧ Rps B Z vs fs := by
  cases r with
  | obj h hl r => exact ⟨_, _, _, rfl, h, hl, r⟩
def ObjLk (B : Tb) (c : Nat) (f : Str) (k : Nat) : Prop := ∀ vs : List V, vs.length = (B.fld c).length → ((B.fld c).zip vs).lookup f = vs[k]?
/-- o.f, a field -/
theorem ve_fld (c k : Nat) {f : Str} (hK : X.K = B.K) (hc : Cls B.K (B.cls c)) (hn : NoAttr B.K (B.cls c) f) (lk : ObjLk B c f k) (ho : VE B u X W o fo) (hb : attributeBase o f X.env (eval o X.env) = eval o X.env := by rfl) : VE B u X W (.Attribute o f pos) (eOp1 (fldD c k) fo) := by
  intro G hG
  have h0 := ho G hG
  obtain ⟨rfl, rfl⟩ := hG
  refine pe_mono (pe_fldK (K := G.B.K) hK h0 hb) fun σ H Q h => op1_of (r := fun x H Q => ∃ a C dx fs v, x = .ref a ∧ H a = some (.ins C dx fs) ∧ Cls G.B.K C ∧ NoAttr G.B.K C f ∧ fs.lookup f = some v ∧ Q v H) ⟨fun {Z H x dx d Q} z r e q => ?_⟩ h
  cases dx with
  | obj c' fs =>
    by_cases hcc : c' = c
    · subst hcc
      obtain ⟨a, dx, vs, rfl, ha, hl, rs⟩ := obj_of r
      rw [show fldD c' k (.obj c' fs) = if c' = c' then fs[k]? else none from rfl, if_pos rfl] at e
      obtain ⟨v, ev, rv⟩ := rs.at e
      exact ⟨a, _, dx, _, v, rfl, z _ _ ha, hc, hn, by rw [lk vs hl]; exact ev, q v Z H (Step.refl z) rv⟩
    · rw [show fldD c k (.obj c' fs) = if c' = c then fs[k]? else none from rfl, if_neg hcc] at e; cases e
  | _ => cases e
def isC (c : Nat) : D → Bool
  | .obj c' _ => decide (c' = c)
  | _ => false
theorem isC_of {c : Nat} {d : D} (h : isC c d = true) : ∃ fs, d = .obj c fs := by
  cases d with
  | obj c' fs => exact ⟨fs, by rw [of_decide_eq_true h]⟩
  | _ => cases h
/-- o.f, a property -/
def eProp (c : Nat) (F : List D → R D) (fo : Ef) : Ef := fun ρ s => (fo ρ s).bind fun x s1 => if isC c x then (pickP F [x] s1).calm else .bad
theorem ve_prop (c : Nat) {k : Nat} {f : Str} {p g : Addr} {fd : FuncData} {ps : List Str} (F : List D → R D) (hcl : Cls X.K (B.cls c)) (hp : PropOf X.K (B.cls c) f p g) (hF : FnOk X.prog X.w X.K X.mg X.base (L2.CX X.prog X.w) k g fd ps (spP B 1 F)) (hr : Room (k + 1) X.A)
    (hb : Binds X.K fd ps []) (ho : VE B u X W o fo) (hbs : attributeBase o f X.env (eval o X.env) = eval o X.env := by rfl) : VE B u X W (.Attribute o f pos) (eProp c F fo) := by
  intro G hG
  have h0 := ho G hG
  obtain ⟨rfl, rfl⟩ := hG
  refine pe_mono (pe_prop (E := E0) h0 hcl hp hF hr hb .nil passL hbs) fun σ H Q ⟨Z, ρ, s, I, h⟩ => ?_
  refine ⟨Z, ρ, s, I, h.bind.up (Same.refl Z) fun x s1 h1 v Z1 H1 I1 z1 r => ?_⟩
  cases hc : isC c x with
  | false => rw [hc] at h1; exact h1.elim
  | true =>
    rw [hc] at h1
    obtain ⟨fs, rfl⟩ := isC_of hc
    obtain ⟨a, dx, vs, rfl, ha, hl, rs⟩ := obj_of r
    refine ⟨a, dx, _, rfl, I1.zh _ _ ha, spP_of (W := W0) rfl I1 z1 (.cons r .nil) (ROk.calm (show ROk G W σ ρ Z (pickP F [.obj c fs] s1).calm _ from h1))⟩
/-- o.m(e, ..) -/
def eMeth (c m : Nat) (F : List D → R D) (fo : Ef) (fa : Af) : Ef := fun ρ s => (fo ρ s).bind fun x s1 => if isC c x then (fa ρ s1).bind fun ds s2 => if ds.length = m then pickP F (x :: ds) s2 else .bad else .bad
theorem zip_none {f : Str} : ∀ {l : List Str} {vs : List V}, f ∉ l → (l.zip vs).lookup f = none
  | [], _, _ => rfl
  | _ :: _, [], _ => rfl
  | x :: l, v :: vs, h => by
    have hx : (f == x) = false := beq_eq_false_iff_ne.mpr fun e => h (by rw [e]; exact List.mem_cons_self)
    rw [List.zip_cons_cons, List.lookup_cons, hx]
    exact zip_none fun q => h (List.mem_cons_of_mem _ q)
theorem ve_meth (c m : Nat) {k : Nat} {mn : Str} {f : Addr} {fd : FuncData} {ps : List Str} {es : List Expr} {fa : Af} {apos : Pos} (F : List D → R D) (hcl : Cls X.K (B.cls c)) (hm : Meth X.K (B.cls c) mn f) (hF : FnOk X.prog X.w X.K X.mg X.base (L2.CX X.prog X.w) k f fd ps (spP B (m + 1) F)) (hr : Room k X.A)
    (hb : Binds X.K fd ps []) (tk : Takes X W) (nf : mn ∉ B.fld c) (ho : VE B u X W o fo) (ha : VA B u X W (e :: es) fa) {pl : Sem Bool}
    (hst : starEach (e :: es) X.env = (false, eval e X.env) :: starEach es X.env := by rfl) (hpl : (backTo pos (starEach es X.env)).any (·.1) = false := by rfl)
    (ht : eval (.Call (.Attribute o mn apos) (e :: es) [] pos) X.env = (do let y ← eval o X.env; standAt apos.atName; let (g, first) ← holding [y] (getMethod y mn pl); callWith pos g first (backTo pos (starEach (e :: es) X.env)) (backToKw pos (keywordEach [] X.env))) := by rfl) :
    VE B u X W (.Call (.Attribute o mn apos) (e :: es) [] pos) (eMeth c m F fo fa) := by
  intro G hG
  have h0 := ho G hG
  have h1 := ha G hG
  obtain ⟨rfl, rfl⟩ := hG
  refine pe_mono (pe_methW (E := WE W) (pl := pl) h0 hcl hm hF hr hb (fun σ => passAt tk σ) h1 hst hpl ht) fun σ H Q ⟨Z, ρ, s, I, h⟩ => ?_
  refine ⟨Z, ρ, s, I, h.bind.up (Same.refl Z) fun x s1 h1 v Z1 H1 I1 z1 r => ?_⟩
  cases hc : isC c x with
  | false => rw [hc] at h1; exact h1.elim
  | true =>
    rw [hc] at h1
    obtain ⟨fs, rfl⟩ := isC_of hc
    obtain ⟨a, dx, vs, rfl, ha, hl, rs⟩ := obj_of r
    refine ⟨a, dx, _, rfl, I1.zh _ _ ha, zip_none nf, Z1, ρ, s1, I1, (ROk.bind (show ROk G W σ ρ Z ((fa ρ s1).bind _) _ from h1)).up z1 fun ds s2 h2 vs Z2 H2 I2 z2 r2 => ?_⟩
    by_cases hl2 : ds.length = m
    · rw [if_pos hl2] at h2
      exact spP_of (by rw [List.length_cons, hl2]) I2 (z1.trans z2) (.cons (r.mono z2) r2) h2
    · rw [if_neg hl2] at h2
      exact h2.elim
theorem ve_meth0 (c : Nat) {k : Nat} {mn : Str} {f : Addr} {fd : FuncData} {ps : List Str} {apos : Pos} (F : List D → R D) (hcl : Cls X.K (B.cls c)) (hm : Meth X.K (B.cls c) mn f) (hF : FnOk X.prog X.w X.K X.mg X.base (L2.CX X.prog X.w) k f fd ps (spP B 1 F)) (hr : Room k X.A)
    (hb : Binds X.K fd ps []) (tk : Takes X W) (nf : mn ∉ B.fld c) (ho : VE B u X W o fo) {pl : Sem Bool}
    (ht : eval (.Call (.Attribute o mn apos) [] [] pos) X.env = (do let y ← eval o X.env; standAt apos.atName; let (g, first) ← holding [y] (getMethod y mn pl); callWith pos g first (backTo pos (starEach [] X.env)) (backToKw pos (keywordEach [] X.env))) := by rfl) :
    VE B u X W (.Call (.Attribute o mn apos) [] [] pos) (eMeth c 0 F fo aNil) := by
  intro G hG
  have h0 := ho G hG
  obtain ⟨rfl, rfl⟩ := hG
  refine ⟨fun pins s σ H Q J h => PySem.W.methodCall_KW (pl := pl) (thn (h0.run pins s σ H _ J (?_ : tV G W fo σ H fun x H1 => ∃ a dx gs, x = .ref a ∧ H1 a = some (.ins (G.B.cls c) dx gs) ∧ gs.lookup mn = none ∧ spP G.B 1 F [x] H1 Q (WE W σ))) fun u s1 ⟨y, H1, J1, ru, b, dy, gs, ey, eb, lk, q⟩ => ?_) ht⟩
  · obtain ⟨Z, ρ, s, I, h⟩ := h
    refine ⟨Z, ρ, s, I, h.bind.up (Same.refl Z) fun x s1 h1 v Z1 H1 I1 z1 r => ?_⟩
    cases hc : isC c x with
    | false => rw [hc] at h1; exact h1.elim
    | true =>
      rw [hc] at h1
      obtain ⟨fs, rfl⟩ := isC_of hc
      obtain ⟨a, dx, vs, rfl, ha, hl, rs⟩ := obj_of r
      exact ⟨a, dx, _, rfl, I1.zh _ _ ha, zip_none nf, spP_of rfl I1 z1 (.cons r .nil) h1⟩
  · subst ey
    cases ru
    exact getmeth_ok J1 eb hcl hm lk (PySem.W.callWith_K0 (first := [.ref b]) J1.kIn hm.kp (run_fnS (us := [.ref b]) (vs := [.ref b]) hF hr hb (passAt tk σ) J1 (.cons val_ref .nil) q))
/-! the making of objects -/
def resI (c n : Nat) : SR → R D
  | .nx ρ _ => match (ρ[0]? : Option Sl) with
    | some (Sl.ob c' fs) => if decide (c' = c) && decide (fs.length = n) then .ok (.obj c fs) none else .bad
    | _ => .bad
  | .exc c fs _ _ => .exc c fs none
  | _ => .bad
def runI (n c nf : Nat) (g : Sf) (ds : List D) : R D := resI c nf (g (en0 n (.ob c [] :: ds.map .val)) none)
def spI (B : Tb) (k c : Nat) (F : List D → R D) : Sp := fun vs H Q E => ∃ Z ds x dx ws, vs = .ref x :: ws ∧ Same Z H ∧ ds.length = k ∧ Rps B Z ws ds ∧ H x = some (.ins (B.cls c) dx []) ∧ Z x = none ∧ match F ds with
  | .ok d _ => ∀ Z' H' fs vs' dx', d = .obj c fs → StepH x Z H Z' H' → Z' x = none → H' x = some (.ins (B.cls c) dx' ((B.fld c).zip vs')) → vs'.length = (B.fld c).length → Rps B Z' vs' fs → Q .non H'
  | .exc c fs _ => ExE B E Z H (StepH x Z H) c fs
  | .bad => False
end
section
variable {P : Program} {w : World} {K : PySem.W.Frag} {mg : Str → Option Value} {base : Heap}
variable {x qual : Str} {st : Stmt} {f : Addr} {fd : FuncData} {N ps : List Str} {k n : Nat} {B : Tb} {g : Sf}
theorem fnI (F : Fun K x qual st f fd) (Sc : FnScope N ps (defScope st)) (m c : Nat) (hm : ps.length = m + 1 := by rfl) (hn : N.length = n := by rfl) (hmn : m + 1 ≤ n := by decide)
    (hb : ∀ (cdv : Value) (A : Around) (outer : List Env) (s : Shared) (H : Hp) (E : XK), Room k (A.deeper (envOfC qual (defScope st) s.heap.objs.size f cdv)) →
      VSs B none (cxOf (L2.CX P w) P w K mg base N qual (defScope st) f cdv A outer s H E) (fun cls d _ H => E cls d H) (defBody st) g) :
    FnOk P w K mg base (L2.CX P w) (k + 1) f fd ps (spI B m c (runI n c (B.fld c).length g)) := by
  refine F.okX Sc (fun vs H Q E ⟨Z, ds, a, l, ws, ev, z, hl, r, _⟩ => by rw [ev, List.length_cons, r.len, hl, hm]) fun cdv A outer s H vs Q E hr h => ?_
  obtain ⟨Z, ds, a, dx, ws, rfl, z, hl, r, ea, za, h⟩ := h
  let G : Gf := ⟨B, Z, H, none, some a, [], none⟩
  refine ⟨_, hb cdv A outer s H E hr G ⟨rfl, rfl⟩, Z, en0 n (.ob c [] :: ds.map .val), none, ?_, ?_⟩
  · have at_ : ∀ {i : Nat} {x : Sl}, (en0 n (.ob c [] :: ds.map Sl.val))[i]? = some x → x = .no ∨ (i = 0 ∧ x = .ob c []) ∨ ∃ d v, x = .val d ∧ (V.ref a :: ws)[i]? = some v ∧ Rp B Z v d := fun {i x} e => by
      rcases en0_at e with q | rfl
      · cases i with
        | zero => cases q; exact .inr (.inl ⟨rfl, rfl⟩)
        | succ i =>
          rw [List.getElem?_cons_succ, List.getElem?_map] at q
          obtain ⟨d, e1, rfl⟩ := Option.map_eq_some_iff.mp q
          obtain ⟨v, e2, rv⟩ := r.at e1
          exact .inr (.inr ⟨d, v, rfl, e2, rv⟩)
      · exact .inl rfl
    refine ⟨?_, z, Same.refl Z, fun p o e => .inl e, fun b o e _ _ => e, (fun _ e => nomatch e), fun x hx => ?_, (fun _ e => nomatch e), fun i x e => ?_, fun i j p nij oi oj => ?_⟩
    · have hv := r.len
      unfold en0 L2.start
      simp only [List.length_append, List.length_replicate, List.length_map, List.length_cons]
      omega
    · cases hx; rw [ea]; exact fun z => nomatch z
    · rcases at_ e with rfl | ⟨rfl, rfl⟩ | ⟨d, v, rfl, e2, rv⟩
      · trivial
      · exact ⟨a, dx, [], start_at (v := V.ref a) rfl, rfl, by rw [List.zip_nil_right]; exact ea, ⟨za, (fun _ e => nomatch e), (fun _ e => nomatch e)⟩, .nil⟩
      · exact ⟨v, start_at e2, rv⟩
    · exfalso
      have zero : ∀ i, OwnAt (en0 n (.ob c [] :: ds.map Sl.val)) i → i = 0 := fun i oi => by
        unfold OwnAt at oi
        cases q : (en0 n (.ob c [] :: ds.map Sl.val))[i]? with
        | none => rw [q] at oi; exact oi.elim
        | some y =>
          rw [q] at oi
          rcases at_ q with rfl | ⟨e, rfl⟩ | ⟨d, v, rfl, _⟩
          · exact oi.elim
          · exact e
          · exact oi.elim
      exact nij ((zero i oi).trans (zero j oj).symm)
  · have stp : ∀ {σ ρ s' Z' H'}, VI G Z' H' σ ρ s' → Same Z Z' → StepH a Z H Z' H' := fun {σ ρ s' Z' H'} I z1 =>
      ⟨fun b o n e => I.keep b o e (fun _ e => nomatch e) (fun x hx => by cases hx; exact n), z1, I.zh, I.zn⟩
    unfold runI at h
    cases eg : g (en0 n (.ob c [] :: ds.map .val)) none with
    | nx ρ' s' =>
      rw [eg] at h
      intro σ Z' H' I z1
      unfold resI at h
      cases e0 : ρ'[0]? with
      | none => simp only [e0] at h
      | some y =>
        cases y with
        | ob c' fs =>
          simp only [e0] at h
          cases hc : (decide (c' = c) && decide (fs.length = (B.fld c).length)) with
          | false => rw [hc] at h; exact h.elim
          | true =>
            rw [hc] at h
            obtain ⟨h1, h2⟩ := Bool.and_eq_true_iff.mp hc
            obtain rfl := of_decide_eq_true h1
            have h2 := of_decide_eq_true h2
            obtain ⟨x, dx', vs, ex, hx, hH, hf, rs⟩ := I.sl 0 _ e0
            cases hx
            exact h Z' H' fs vs dx' rfl (stp I z1) hf.z hH (by rw [rs.len, h2]) rs
        | _ => simp only [e0] at h
    | rt d s' => rw [eg] at h; exact h.elim
    | exc c fs ρ' s' => rw [eg] at h; exact fun σ d vs Z' H' I z1 e l rs => h d vs Z' H' (stp I z1) e l rs
    | bk ρ' s' => rw [eg] at h; exact h.elim
    | ct ρ' s' => rw [eg] at h; exact h.elim
    | bad => rw [eg] at h; exact h.elim
end
end Vv

/-! ## constructors, fields of one's own, errors -/
namespace Vv
section
variable {B : Tb} {u : Option (Addr × Value × Option Addr)} {X : Cx} {W : WX} {pos : Pos} {e o : Expr} {fo : Ef}
variable {k m : Nat} {f : Addr} {fd : FuncData} {ps : List Str} {x : Str} {p : Pos} {es : List Expr} {fa : Af}
/-- C(e, ..) -/
theorem ve_make (c : Nat) (F : List D → R D) (M : Mk X.K (B.cls c) f) (hF : FnOk X.prog X.w X.K X.mg X.base (L2.CX X.prog X.w) k f fd ps (spI B m c F)) (hr : Room (k + 1) X.A) (hg : Gl X x) (hm : X.mg x = some (.ref (B.cls c))) (hb : Binds X.K fd ps []) (tk : Takes X W)
    (hF2 : ∀ ds d s, F ds = .ok d s → ∃ fs, d = .obj c fs ∧ fs.length = (B.fld c).length)
    (ha : VA B u X W (e :: es) fa) (hdb : (x == ("__debug__" : Str)) = false := by decide) (he : starEach (e :: es) X.env = (false, eval e X.env) :: starEach es X.env := by rfl) (hpl : (backTo pos (starEach es X.env)).any (·.1) = false := by rfl) :
    VE B u X W (.Call (.Name x p) (e :: es) [] pos) (eCall m F fa) := by
  intro G hG
  have h0 := ha G hG
  obtain ⟨rfl, rfl⟩ := hG
  refine pe_mono (pe_makeS (E := WE W) M hF hr hg hm hb (fun σ => passAt tk σ) h0 hdb he hpl) fun σ H Q ⟨Z, ρ, s, I, h⟩ => ?_
  refine ⟨Z, ρ, s, I, h.bind.up (Same.refl Z) fun ds s1 h1 vs Z1 H1 I1 z1 r y dy ny ndy ne => ?_⟩
  by_cases hl : ds.length = m
  · rw [if_pos hl] at h1
    have n2 : upd H1 dy (.own y) y = none := by rw [upd_ne (Ne.symm ne)]; exact ny
    have hs : Same H1 (upd (upd H1 dy (.own y)) y (.ins (G.B.cls c) dy [])) := same_new (same_new (Same.refl H1) ndy) n2
    have zy : Z1 y = none := I1.zh.free ny
    have stp : ∀ {Z' H'}, StepH y Z1 (upd (upd H1 dy (.own y)) y (.ins (G.B.cls c) dy [])) Z' H' → Step Z1 H1 Z' H' := fun {Z' H'} t =>
      ⟨fun b o e => t.hh b o (ne_of_none e ny) (hs b o e), t.zz, t.zh, fun p o e => (t.zn p o e).elim .inl fun q => .inr (hs.free q)⟩
    refine ⟨Z1, ds, y, dy, vs, rfl, I1.zh.trans hs, hl, r, upd_same, zy, ?_⟩
    unfold pickP at h1
    cases ef : F ds with
    | bad => rw [ef] at h1; exact h1.elim
    | ok d s2 =>
      rw [ef] at h1
      intro Z' H' fs vs' dx' ed t zn' hy hl' rs
      subst ed
      have t1 := stp t
      have zz : Same Z' (upd Z' y (.ins (G.B.cls c) dx' ((G.B.fld c).zip vs'))) := same_new (Same.refl Z') zn'
      have t2 : Step Z1 H1 (upd Z' y (.ins (G.B.cls c) dx' ((G.B.fld c).zip vs'))) H' := by
        refine ⟨t1.hh, t1.zz.trans zz, fun b o e => ?_, fun b o e => ?_⟩
        · by_cases q : b = y
          · subst q; rw [upd_same] at e; cases e; exact hy
          · rw [upd_ne q] at e; exact t1.zh b o e
        · by_cases q : b = y
          · subst q; exact .inr ny
          · rw [upd_ne q] at e; exact t1.zn b o e
      exact ⟨rfl, h1 _ _ H' (I1.step t2) (z1.trans t2.zz) (.obj upd_same hl' (rs.mono zz))⟩
    | exc c2 fs s2 =>
      rw [ef] at h1
      exact fun d vs Z' H' t e l rs => h1 d vs Z' H' (I1.step (stp t)) (z1.trans t.zz) e l rs
  · rw [if_neg hl] at h1
    exact h1.elim
/-! self.f = e within __init__ -/
def sSelf (c k : Nat) (fe : Ef) : Sf := fun ρ s => match (ρ[0]? : Option Sl) with
  | some (Sl.ob c' fs) => if decide (c' = c) && decide (fs.length = k) then (fe ρ s).then ρ fun d s1 => .nx (ρ.set 0 (.ob c (fs ++ [d]))) s1 else .bad
  | _ => .bad
def PutAt (B : Tb) (c : Nat) (f : Str) (k : Nat) : Prop := ∀ (vs : List V) (y : V), vs.length = k → putF f y ((B.fld c).zip vs) = (B.fld c).zip (vs ++ [y])
theorem VI.pokeOb {G : Gf} {Z H : Hp} {σ : L2.St} {ρ : En} {s : S} {c : Nat} {x dx : Addr} {fs fs' : List D} {vs' : List V} (I : VI G Z H σ ρ s) (e : ρ[0]? = some (.ob c fs)) (ep : σ[0]? = some (some (.ref x))) (r : Rps G.B Z vs' fs') :
    VI G Z (upd H x (.ins (G.B.cls c) dx ((G.B.fld c).zip vs'))) σ (ρ.set 0 (.ob c fs')) s := by
  obtain ⟨p', dx0, vs0, ep', hs, hp, f, _⟩ := I.sl 0 _ e
  rw [ep] at ep'; cases ep'
  have hi : 0 < ρ.length := (List.getElem?_eq_some_iff.mp e).1
  have oi : OwnAt ρ 0 := by unfold OwnAt; rw [e]; trivial
  have zne : ∀ b o, Z b = some o → b ≠ x := fun b o q => ne_of_none q f.z
  have oth : ∀ j q, j ≠ 0 → OwnAt ρ j → σ[j]? = some (some (.ref q)) → q ≠ x := fun j q nj oj ej c => by
    subst c
    exact I.dis j 0 q nj oj oi ej ep
  refine ⟨by rw [List.length_set]; exact I.len, fun b o q => by rw [upd_ne (zne b o q)]; exact I.zh b o q, I.z0, I.zn, fun b o q h1 h2 => ?_, fun q hq => ?_, fun x2 hx => ?_, fun q hq => ?_, fun j y q => ?_, fun j k q nj oj ok ej => ?_⟩
  · rw [upd_ne (h2 x hs)]; exact I.keep b o q h1 h2
  · obtain ⟨st, e1, hA, z1, z2, hd⟩ := I.hnd q hq
    exact ⟨st, e1, ⟨by rw [upd_ne (Ne.symm (f.h q hq).1)]; exact hA.ea, by rw [upd_ne (Ne.symm (f.h q hq).2)]; exact hA.el, hA.ne⟩, z1, z2, hd⟩
  · rw [hs] at hx; cases hx
    rw [upd_same]; exact fun z => nomatch z
  · rw [upd_ne (Ne.symm (f.d q hq))]; exact I.hid q hq
  · by_cases c2 : 0 = j
    · subst c2
      rw [List.getElem?_set_self hi] at q
      cases q
      exact ⟨x, dx, vs', ep, hs, upd_same, f, r⟩
    · rw [List.getElem?_set_ne c2] at q
      have sl := I.sl j y q
      cases y with
      | own ds => obtain ⟨a, ws, e2, h2, f2, n2, r2⟩ := sl; exact ⟨a, ws, e2, by rw [upd_ne (oth j a (Ne.symm c2) (by unfold OwnAt; rw [q]; trivial) e2)]; exact h2, f2, n2, r2⟩
      | ob c3 fs => obtain ⟨a, dx, ws, e2, q2, h2, f2, r2⟩ := sl; exact ⟨a, dx, ws, e2, q2, by rw [upd_ne (oth j a (Ne.symm c2) (by unfold OwnAt; rw [q]; trivial) e2)]; exact h2, f2, r2⟩
      | _ => exact sl
  · have ow : ∀ m, OwnAt (ρ.set 0 (.ob c fs')) m → OwnAt ρ m := fun m h => by
      by_cases c : m = 0
      · rw [c]; exact oi
      · exact ownAt_set h c
    exact I.dis j k q nj (ow j oj) (ow k ok) ej
theorem zip_len {l : List Str} {vs : List V} : (l.zip vs).length ≤ vs.length := by rw [List.length_zip]; exact Nat.min_le_right _ _
theorem vs_self (c k : Nat) {x fn : Str} {p1 p2 : Pos} {fe : Ef} (hK : X.K = B.K) (hx : PE X (.Name x p1) (tVar 0)) (hc : Cls B.K (B.cls c)) (hn : NoAttr B.K (B.cls c) fn) (pa : PutAt B c fn k) (hk : k < 1000) (he : VE B u X W e fe)
    (hs : swapsWith e (some (.Attribute (.Name x p1) fn p2)) pos.line X.env = pure false) : VS B u X W (.Assign [.Attribute (.Name x p1) fn p2] e pos) (sSelf c k fe) := by
  intro G hG
  have h0 := he G hG
  obtain ⟨rfl, rfl⟩ := hG
  refine ps_mono (ps_fld hx h0 hs) fun D' σ H ⟨Z, ρ, s, I, h⟩ => ?_
  cases e0 : ρ[0]? with
  | none => simp only [sSelf, e0] at h; exact h.elim
  | some y =>
    cases y with
    | ob c' fs =>
      simp only [sSelf, e0] at h
      cases hc2 : (decide (c' = c) && decide (fs.length = k)) with
      | false => rw [hc2] at h; exact h.elim
      | true =>
        rw [hc2] at h
        obtain ⟨h1, h2⟩ := Bool.and_eq_true_iff.mp hc2
        obtain rfl := of_decide_eq_true h1
        have h2 := of_decide_eq_true h2
        refine ⟨Z, ρ, s, I, (SOk.from (show SOk G W Z D' ((fe ρ s).then ρ _) from h) σ).up (Same.refl Z) fun d s1 k1 v Z1 H1 I1 z1 rv => ?_⟩
        obtain ⟨a, dx, vs, ea, hx2, hH, hf, rs⟩ := I1.sl 0 _ e0
        have hl : vs.length = k := by rw [rs.len, h2]
        refine ⟨.ref a, ea, a, _, dx, _, rfl, hH, hK ▸ hc, hK ▸ hn, Nat.lt_of_le_of_lt zip_len (by rw [hl]; exact hk), ?_⟩
        rw [pa vs v hl]
        exact k1 σ Z1 _ (I1.pokeOb e0 ea (rs.app (.cons rv .nil))) z1
    | _ => simp only [sSelf, e0] at h; exact h.elim
/-- self.f, a field that is there already -/
def eOb (c k : Nat) : Ef := fun ρ s => match (ρ[0]? : Option Sl) with
  | some (Sl.ob c' fs) => if c' = c then opt fs[k]? s else .bad
  | _ => .bad
theorem zip_lookup {l : List Str} {f : Str} {k : Nat} (hk : l[k]? = some f) (hn : f ∉ l.take k) : ∀ vs : List V, (l.zip vs).lookup f = vs[k]? := by
  induction l generalizing k with
  | nil => simp at hk
  | cons x l ih =>
    intro vs
    cases vs with
    | nil => simp
    | cons v vs =>
      cases k with
      | zero =>
        simp at hk
        subst hk
        simp
      | succ k =>
        have hx : f ≠ x := fun e => hn (by rw [e]; simp)
        rw [List.zip_cons_cons, List.lookup_cons, beq_eq_false_iff_ne.mpr hx]
        exact ih (by simpa using hk) (fun q => hn (by rw [List.take_succ_cons]; exact List.mem_cons_of_mem _ q)) vs
theorem ve_ob (c k : Nat) {x fn : Str} {p1 : Pos} (hK : X.K = B.K) (hx : PE X (.Name x p1) (tVar 0)) (hc : Cls B.K (B.cls c)) (hn : NoAttr B.K (B.cls c) fn) (lk : (B.fld c)[k]? = some fn ∧ fn ∉ (B.fld c).take k) (hb : attributeBase (.Name x p1) fn X.env (eval (.Name x p1) X.env) = eval (.Name x p1) X.env := by rfl) :
    VE B u X W (.Attribute (.Name x p1) fn pos) (eOb c k) := by
  intro G hG
  obtain ⟨rfl, rfl⟩ := hG
  refine pe_mono (pe_fldK (K := G.B.K) hK hx hb) fun σ H Q ⟨Z, ρ, s, I, h⟩ => ?_
  cases e0 : ρ[0]? with
  | none => simp only [eOb, e0] at h; exact h.elim
  | some y =>
    cases y with
    | ob c' fs =>
      simp only [eOb, e0] at h
      by_cases hcc : c' = c
      · subst hcc
        rw [if_pos rfl] at h
        obtain ⟨d, ed, q⟩ := h.opt
        obtain ⟨a, dx, vs, ea, hx2, hH, hf, rs⟩ := I.sl 0 _ e0
        obtain ⟨v, ev, rv⟩ := rs.at ed
        exact ⟨.ref a, ea, a, _, dx, _, v, rfl, hH, hc, hn, by rw [zip_lookup lk.1 lk.2]; exact ev, q v Z H I (Same.refl Z) rv⟩
      · rw [if_neg hcc] at h; exact h.elim
    | _ => simp only [eOb, e0] at h; exact h.elim
/-! raise C(e, ..) -/
def SpMk (B : Tb) (c m : Nat) (sp : Sp) : Prop := ∀ (vs : List V) (H : Hp) (Q : XK), vs.length = m → (∀ d H', Same H H' → H d = none → H' d = some (.xd ((B.fld c).zip vs.reverse)) → Q (.ref (B.cls c)) (some d) H') →
  vs.length ≤ 1000 ∧ ∀ a, H a = none → sp (.ref a :: (vs ++ [])) (upd H a (exo a (B.cls c) none)) (fun v H2 => v = .non ∧ ∃ (d : Addr) (fs : List (Str × V)), H2 a = some (exo a (B.cls c) (some d)) ∧ H2 d = some (exd d fs) ∧ H d = none ∧ Q (.ref (B.cls c)) (some d) (upd (del H2 a) d (.xd fs))) (fun _ _ _ => False)
theorem spMk1 {c : Nat} {f : Str} (T : OexC B.K (B.cls c)) (hn : PySem.W.findIn B.K (.ref (B.cls c)) f = some none) (hf : B.fld c = [f]) : SpMk B c 1 (spE1 B.K f) := fun vs H Q hl q => by
  match vs, hl, q with
  | [v], _, q =>
    rw [hf] at q
    exact made1 T hn q
theorem spMk2 {c : Nat} {f g : Str} (T : OexC B.K (B.cls c)) (h1 : PySem.W.findIn B.K (.ref (B.cls c)) f = some none) (h2 : PySem.W.findIn B.K (.ref (B.cls c)) g = some none) (hf : B.fld c = [g, f]) : SpMk B c 2 (spE2 B.K f g) := fun vs H Q hl q => by
  match vs, hl, q with
  | [v, w], _, q =>
    rw [hf] at q
    exact made2 T h1 h2 q
def sRaise (c m : Nat) (fa : Af) : Sf := fun ρ s => (fa ρ s).then ρ fun ds s1 => if ds.length = m then .exc c ds.reverse ρ s1 else .bad
theorem vs_raise (c m : Nat) {sp : Sp} (hc : X.calm = true) (tk : Takes X W) (hm : (B.fld c).length = m) (mk : SpMk B c m sp) (hp : ∀ {ta : TA}, PA X es ta → PMk X e (tMkO (B.cls c) sp [] ta)) (ha : VA B u X W es fa) : VS B u X W (.Raise (some e) none pos) (sRaise c m fa) := by
  intro G hG
  have h0 := ha G hG
  obtain ⟨rfl, rfl⟩ := hG
  refine ps_mono (ps_raise hc tk (hp h0)) fun D' σ H ⟨Z, ρ, s, I, h⟩ => ?_
  refine ⟨Z, ρ, s, I, (SOk.from h σ).up (Same.refl Z) fun ds s1 h1 vs Z1 H1 I1 z1 r => ?_⟩
  by_cases hl : ds.length = m
  · rw [if_pos hl] at h1
    refine mk vs H1 (fun cls d H' => W cls d σ H') (by rw [r.len, hl]) fun d H' hs hd ed => ?_
    have zd : Z1 d = none := I1.zh.free hd
    have zz : Same Z1 (upd Z1 d (.xd ((G.B.fld c).zip vs.reverse))) := same_new (Same.refl Z1) zd
    have t : Step Z1 H1 (upd Z1 d (.xd ((G.B.fld c).zip vs.reverse))) H' := by
      refine ⟨hs, zz, fun b o e => ?_, fun b o e => ?_⟩
      · by_cases q : b = d
        · subst q; rw [upd_same] at e; cases e; exact ed
        · rw [upd_ne q] at e; exact hs _ _ (I1.zh b o e)
      · by_cases q : b = d
        · subst q; exact .inr hd
        · rw [upd_ne q] at e; exact .inl e
    exact h1 σ d vs.reverse _ H' (I1.step t) (z1.trans zz) upd_same (by rw [List.length_reverse, r.len, hl, hm]) (r.rev.mono zz)
  · rw [if_neg hl] at h1
    exact h1.elim
/-! try .. except C as n -/
def noX : Sl → Sl
  | .exc _ _ => .no
  | x => x
theorem VI.reux {G : Gf} {Z H : Hp} {σ : L2.St} {ρ : En} {s : S} (I : VI G Z H σ ρ s) (ux : Option (Addr × Value × Option Addr)) : VI { G with ux := ux } Z H σ (ρ.map noX) s := by
  have own : ∀ i, OwnAt (ρ.map noX) i → OwnAt ρ i := fun i h => by
    unfold OwnAt at h ⊢
    rw [List.getElem?_map] at h
    cases q : ρ[i]? with
    | none => rw [q] at h; exact h
    | some y => rw [q] at h; cases y <;> exact h
  refine ⟨by rw [List.length_map]; exact I.len, I.zh, I.z0, I.zn, I.keep, I.hnd, I.slf, I.hid, fun i x e => ?_, fun i j p n oi oj => I.dis i j p n (own i oi) (own j oj)⟩
  rw [List.getElem?_map] at e
  obtain ⟨y, e2, rfl⟩ := Option.map_eq_some_iff.mp e
  have sl := I.sl i y e2
  cases y with
  | exc c fs => trivial
  | no => trivial
  | val d => exact sl
  | own ds => obtain ⟨a, ws, e2, h2, f2, n2, r2⟩ := sl; exact ⟨a, ws, e2, h2, ⟨f2.z, f2.h, f2.d⟩, n2, r2⟩
  | ob c fs => obtain ⟨a, dx, ws, e2, q2, h2, f2, r2⟩ := sl; exact ⟨a, dx, ws, e2, q2, h2, ⟨f2.z, f2.h, f2.d⟩, r2⟩
  | hand => exact sl
/-- behind the suite of except .. as (slot i) -/
def outX (i : Nat) : SR → SR
  | .nx ρ s => .nx ((ρ.map noX).set i .no) s
  | .bk ρ s => .bk ((ρ.map noX).set i .no) s
  | .ct ρ s => .ct ((ρ.map noX).set i .no) s
  | .exc _ _ _ _ => .bad
  | r => r
def sTry (i : Nat) (sub : Nat → Option Bool) (gb gs : Sf) : Sf := fun ρ s => match gb ρ s with
  | .exc c fs ρ1 s1 => match sub c with
    | some true => outX i (gs ((ρ1.map noX).set i (.exc c fs)) s1)
    | some false => .exc c fs ρ1 s1
    | none => .bad
  | r => r
def SubOk (B : Tb) (cv : Value) (sub : Nat → Option Bool) : Prop := ∀ c b, sub c = some b → PySem.W.exmOne B.K (.ref (B.cls c)) cv = some b
theorem try_of {G : Gf} {cv : Value} {i : Nat} {sub : Nat → Option Bool} {gb gs : Sf} (hu : G.ux = none) (hsub : SubOk G.B cv sub) (ts : Addr → Value → Option Addr → TS) (hts : ∀ a cls d D' σ H, (∃ G' : Gf, (G'.B = G.B ∧ G'.ux = some (a, cls, d)) ∧ tVS G' W0 gs D' σ H) → ts a cls d D' σ H)
    {D' : Ends} {Z : Hp} {ρ : En} {s : S} (h : SOk G W Z D' (sTry i sub gb gs ρ s)) : SOk G (wAs G.B.K cv i ts W D') Z D' (gb ρ s) := by
  unfold sTry at h
  cases eb : gb ρ s with
  | nx ρ' s' => rw [eb] at h; exact h
  | rt d s' => rw [eb] at h; exact h
  | bk ρ' s' => rw [eb] at h; exact h
  | ct ρ' s' => rw [eb] at h; exact h
  | bad => rw [eb] at h; exact h.elim
  | exc c fs ρ1 s1 =>
    rw [eb] at h
    intro σ d vs Z' H' I z ez hl rs
    cases es : sub c with
    | none => simp only [es] at h; exact h.elim
    | some b =>
      refine ⟨b, hsub c b es, fun hb a na => ?_, fun hb => ?_⟩
      · subst hb
        simp only [es] at h
        refine hts a _ _ _ _ _ ⟨{ G with ux := some (a, .ref (G.B.cls c), some d) }, ⟨rfl, rfl⟩, Z', (ρ1.map noX).set i (.exc c fs), s1, ?_, ?_⟩
        · have J := I.reux (some (a, .ref (G.B.cls c), some d))
          have J2 := J.setNo (i := i) (v := some (.ref a))
          refine J2.slots (by rw [List.length_set, List.length_set]; exact J.len) (fun j x e => ?_) fun j k p n oj ok e => ?_
          · by_cases q : i = j
            · subst q
              rw [List.getElem?_set_self'] at e
              cases q2 : (ρ1.map noX)[i]? with
              | none => rw [q2] at e; cases e
              | some y =>
                rw [q2] at e
                cases e
                have hi : i < σ.length := by
                  have := (List.getElem?_eq_some_iff.mp q2).1
                  rw [J.len] at this
                  exact this
                exact ⟨a, d, vs, List.getElem?_set_self hi, rfl, ez, hl, rs⟩
            · refine J2.sl j x ?_
              rw [List.getElem?_set_ne q] at e ⊢
              exact e
          · have ow : ∀ m, OwnAt ((ρ1.map noX).set i (.exc c fs)) m → OwnAt ((ρ1.map noX).set i .no) m := fun m h => by
              unfold OwnAt at h ⊢
              by_cases q : i = m
              · subst q
                rw [List.getElem?_set_self'] at h
                cases q2 : (ρ1.map noX)[i]? with
                | none => rw [q2] at h; exact h.elim
                | some y => rw [q2] at h; exact h.elim
              · rw [List.getElem?_set_ne q] at h ⊢; exact h
            exact J2.dis j k p n (ow j oj) (ow k ok) e
        · have back : ∀ {σ2 ρ2 s2 Z2 H2}, VI { G with ux := some (a, .ref (G.B.cls c), some d) } Z2 H2 σ2 ρ2 s2 → VI G Z2 H2 (σ2.set i none) ((ρ2.map noX).set i .no) s2 := fun {σ2 ρ2 s2 Z2 H2} I2 => by
            have := (I2.reux none).setNo (i := i) (v := none)
            have hg : ({ ({ G with ux := some (a, .ref (G.B.cls c), some d) } : Gf) with ux := none } : Gf) = G := by
              cases G
              cases hu
              rfl
            rw [hg] at this
            exact this
          have backR : ∀ {σ2 ρ2 s2 Z2 H2}, VI { G with ux := some (a, .ref (G.B.cls c), some d) } Z2 H2 σ2 ρ2 s2 → VI G Z2 H2 σ2 (ρ2.map noX) s2 := fun {σ2 ρ2 s2 Z2 H2} I2 => by
            have := I2.reux none
            have hg : ({ ({ G with ux := some (a, .ref (G.B.cls c), some d) } : Gf) with ux := none } : Gf) = G := by
              cases G
              cases hu
              rfl
            rw [hg] at this
            exact this
          cases eg : gs ((ρ1.map noX).set i (.exc c fs)) s1 with
          | nx ρ2 s2 => rw [eg] at h; exact fun σ2 Z2 H2 I2 z2 => h _ Z2 H2 (back I2) (z.trans z2)
          | bk ρ2 s2 => rw [eg] at h; exact fun σ2 Z2 H2 I2 z2 => h _ Z2 H2 (back I2) (z.trans z2)
          | ct ρ2 s2 => rw [eg] at h; exact fun σ2 Z2 H2 I2 z2 => h _ Z2 H2 (back I2) (z.trans z2)
          | rt d2 s2 => rw [eg] at h; exact fun v σ2 ρ2 Z2 H2 I2 z2 r => h v σ2 _ Z2 H2 (backR I2) (z.trans z2) r
          | exc c2 fs2 ρ2 s2 => rw [eg] at h; exact h.elim
          | bad => rw [eg] at h; exact h.elim
      · subst hb
        simp only [es] at h
        exact h σ d vs Z' H' I z ez hl rs
theorem vs_try (i : Nat) {x n : Str} {cv : Value} {body suite : List Stmt} {b0 : Stmt} {np pos' : Pos} {gb gs : Sf} {sub : Nat → Option Bool} (hK : X.K = B.K) (hu : u = none) (hs : X.stack = X.env :: X.outer) (hf : X.env.frame = some X.env.locals) (hN : X.N.Nodup) (hi : X.N[i]? = some n) (hln : X.env.kindOf n = some .local) (hc : Names X x cv) (tk : Takes X W)
    (hsub : SubOk B cv sub)
    (hb : ∀ (W' : WX) (pn : List (Addr × Obj)) (xe : Value → Shared → Prop), Takes (X.tr pn xe) W' → PassesOwn (model X.prog X.w) X.A X.env xe → VSs B none (X.tr pn xe) W' body gb)
    (hsu : ∀ (a : Addr) (oe : Obj) (cls : Value) (d : Option Addr) (pn : List (Addr × Obj)), Zc cls d oe → (∃ vs, oe.data = .fields vs) → VSs B (some (a, cls, d)) (X.suite a ((a, oe) :: pn)) W0 (b0 :: suite) gs) :
    VS B u X W (.Try body [.ExceptHandler (some (.Name x np)) (some n) (b0 :: suite) pos'] [] [] pos) (sTry i sub gb gs) := by
  subst hu
  intro G hG
  obtain ⟨rfl, hux⟩ := hG
  refine ps_mono (ps_try_as (i := i) (tb := fun W' => tVS G W' gb) (ts := fun a cls d D' σ H => ∃ G' : Gf, (G'.B = G.B ∧ G'.ux = some (a, cls, d)) ∧ tVS G' W0 gs D' σ H) hs hf hN hi hln hc tk (fun W' pn xe t po => hb W' pn xe t po G ⟨rfl, hux⟩)
    (fun a oe cls d pn hz hf => ⟨fun pins s σ H D' I ⟨G', hG', q⟩ => (hsu a oe cls d pn hz hf G' hG').run pins s σ H D' I q⟩)) fun D' σ H ⟨Z, ρ, s, I, h⟩ => ?_
  rw [hK]
  exact ⟨Z, ρ, s, I, try_of hux hsub _ (fun a cls d D' σ H q => q) h⟩
/-- e.f, e caught (slot i) -/
def eXf (i c k : Nat) : Ef := fun ρ s => match ρ[i]? with
  | some (.exc c' fs) => if c' = c then opt fs[k]? s else .bad
  | _ => .bad
theorem ve_xf (i c k : Nat) {a : Addr} {oe : Obj} {cls : Value} {d : Option Addr} {pn : List (Addr × Obj)} {x n : Str} {p1 : Pos} (hK : X.K = B.K) (T : XfC B.K (B.cls c)) (hno : PySem.W.findIn B.K (.ref (B.cls c)) n = some none) (lk : (B.fld c)[k]? = some n ∧ n ∉ (B.fld c).take k)
    (hz : Zc cls d oe) (hf : ∃ vs, oe.data = .fields vs) (hx : PE (X.suite a ((a, oe) :: pn)) (.Name x p1) (tVar i)) (hb : attributeBase (.Name x p1) n X.env (eval (.Name x p1) X.env) = eval (.Name x p1) X.env := by rfl) :
    VE B (some (a, cls, d)) (X.suite a ((a, oe) :: pn)) W (.Attribute (.Name x p1) n pos) (eXf i c k) := by
  intro G hG
  obtain ⟨rfl, hux⟩ := hG
  refine pe_mono (pe_xf (hK ▸ T) (hK ▸ hno) hz hf hx hb) fun σ H Q ⟨Z, ρ, s, I, h⟩ => ?_
  cases e0 : ρ[i]? with
  | none => simp only [eXf, e0] at h; exact h.elim
  | some y =>
    cases y with
    | exc c' fs =>
      simp only [eXf, e0] at h
      by_cases hcc : c' = c
      · subst hcc
        rw [if_pos rfl] at h
        obtain ⟨d2, ed, q⟩ := h.opt
        obtain ⟨a2, dd, vs, ea, hx2, hH, hl, rs⟩ := I.sl i _ e0
        rw [hux] at hx2
        cases hx2
        obtain ⟨v, ev, rv⟩ := rs.at ed
        exact ⟨_, ea, rfl, rfl, dd, _, v, rfl, I.zh _ _ hH, by rw [zip_lookup lk.1 lk.2]; exact ev, q v Z H I (Same.refl Z) rv⟩
      · rw [if_neg hcc] at h; exact h.elim
    | _ => simp only [eXf, e0] at h; exact h.elim
end
end Vv

/-! ## operators as functions -/
namespace Vv
mutual
def D.eqv : D → D → Bool
  | .non, .non => true
  | .bl a, .bl b => a == b
  | .bl a, .int j => (if a then 1 else 0) == j
  | .int i, .bl b => i == (if b then 1 else 0)
  | .int i, .int j => i == j
  | .str x, .str y => x == y
  | .lst xs, .lst ys => D.eqvs xs ys
  | .tup xs, .tup ys => D.eqvs xs ys
  | _, _ => false
def D.eqvs : List D → List D → Bool
  | [], [] => true
  | x :: xs, y :: ys => D.eqv x y && D.eqvs xs ys
  | _, _ => false
end
/-- data: numbers, truths, None, texts, tuples and lists of data, at most n deep -/
def pl : Nat → D → Bool
  | _, .non => true
  | _, .bl _ => true
  | _, .int _ => true
  | _, .str l => l.all fun c => decide (c < 1114112)
  | n + 1, .tup l => l.all (pl n)
  | n + 1, .lst l => l.all (pl n)
  | _, _ => false
mutual
def toP : D → PyData
  | .bl b => .bool b
  | .int i => .int i
  | .str l => .str (sOf l)
  | .tup l => .tuple (toPs l)
  | .lst l => .list (toPs l)
  | _ => .none
def toPs : List D → List PyData
  | [] => []
  | d :: r => toP d :: toPs r
end
theorem pl_ok : ∀ (n : Nat) (d : D), pl n d = true → okD n (toP d) = true := by
  intro n
  induction n with
  | zero =>
    intro d h
    cases d with
    | str l => exact strOk_of fun c hc => of_decide_eq_true (List.all_eq_true.mp h c hc)
    | non => rfl
    | bl b => rfl
    | int i => rfl
    | _ => cases h
  | succ n ih =>
    have key : ∀ l : List D, l.all (pl n) = true → (toPs l).all (okD n) = true := by
      intro l
      induction l with
      | nil => intro _; rfl
      | cons d r ih2 =>
        intro h
        obtain ⟨h1, h2⟩ := Bool.and_eq_true_iff.mp (show (pl n d && r.all (pl n)) = true from h)
        show (okD n (toP d) && (toPs r).all (okD n)) = true
        rw [ih d h1, ih2 h2]
        rfl
    intro d h
    cases d with
    | str l => exact strOk_of fun c hc => of_decide_eq_true (List.all_eq_true.mp h c hc)
    | non => rfl
    | bl b => rfl
    | int i => rfl
    | tup l => exact key l h
    | lst l => exact key l h
    | _ => cases h
section
variable {B : Tb}
theorem pl_dp {K : PySem.W.Frag} (hK : K = B.K) {Z : Hp} : ∀ (n : Nat) (v : V) (d : D), pl n d = true → Rp B Z v d → Dp K Z v (toP d) := by
  subst hK
  intro n
  induction n with
  | zero =>
    intro v d h r
    cases r with
    | non => exact .non
    | bl b => exact .bl b
    | int i => exact .int i
    | str l => exact .str _
    | _ => cases h
  | succ n ih =>
    have key : ∀ (vs : List V) (ds : List D), ds.all (pl n) = true → Rps B Z vs ds → DpAll B.K Z vs (toPs ds) := by
      intro vs
      induction vs with
      | nil => intro ds _ r; cases r; exact .nil
      | cons v vs ih2 =>
        intro ds h r
        cases r with
        | cons h1 r =>
          obtain ⟨a, b⟩ := Bool.and_eq_true_iff.mp (show (pl n _ && List.all _ (pl n)) = true from h)
          exact .cons (ih _ _ a h1) (ih2 _ b r)
    intro v d h r
    cases r with
    | non => exact .non
    | bl b => exact .bl b
    | int i => exact .int i
    | str l => exact .str _
    | tup hs r => exact .tup hs (key _ _ h r)
    | lst hs r => exact .lst (.inl (.inl hs)) (key _ _ h r)
    | _ => cases h
theorem dp_up {K : PySem.W.Frag} {Z H : Hp} (z : Same Z H) : (∀ (v : V) (d : PyData), Dp K Z v d → Dp K H v d) := fun v d h => dp_mono z d v h
end
mutual
theorem eqv_P : ∀ x y : D, (∃ n, pl n x = true) → (∃ n, pl n y = true) → D.eqv x y = PyData.eqv (toP x) (toP y)
  | .non, y, _, ⟨m, hy⟩ => by cases y <;> simp_all [D.eqv, toP, PyData.eqv, pl]
  | .bl b, y, _, ⟨m, hy⟩ => by cases y <;> simp_all [D.eqv, toP, PyData.eqv, pl]
  | .int i, y, _, ⟨m, hy⟩ => by cases y <;> simp_all [D.eqv, toP, PyData.eqv, pl]
  | .str l, y, _, ⟨m, hy⟩ => by
    cases y with
    | str l' =>
      rw [D.eqv, toP, toP, PyData.eqv]
      by_cases e : l = l'
      · subst e; simp
      · rw [beq_eq_false_iff_ne.mpr e, beq_eq_false_iff_ne.mpr fun q => e (sOf_inj.mp q)]
    | _ => simp_all [D.eqv, toP, PyData.eqv, pl]
  | .tup l, y, ⟨n, hx⟩, ⟨m, hy⟩ => by
    cases y with
    | tup l' =>
      cases n with
      | zero => cases hx
      | succ n => cases m with
        | zero => cases hy
        | succ m =>
          rw [D.eqv, toP, toP, PyData.eqv]
          exact eqv_Ps l l' (fun d hd => ⟨n, List.all_eq_true.mp hx d hd⟩) (fun d hd => ⟨m, List.all_eq_true.mp hy d hd⟩)
    | _ => simp_all [D.eqv, toP, PyData.eqv, pl]
  | .lst l, y, ⟨n, hx⟩, ⟨m, hy⟩ => by
    cases y with
    | lst l' =>
      cases n with
      | zero => cases hx
      | succ n => cases m with
        | zero => cases hy
        | succ m =>
          rw [D.eqv, toP, toP, PyData.eqv]
          exact eqv_Ps l l' (fun d hd => ⟨n, List.all_eq_true.mp hx d hd⟩) (fun d hd => ⟨m, List.all_eq_true.mp hy d hd⟩)
    | _ => simp_all [D.eqv, toP, PyData.eqv, pl]
  | .ty _, _, ⟨n, hx⟩, _ => by cases n <;> cases hx
  | .cl _, _, ⟨n, hx⟩, _ => by cases n <;> cases hx
  | .obj _ _, _, ⟨n, hx⟩, _ => by cases n <;> cases hx
  | .dic _ _, _, ⟨n, hx⟩, _ => by cases n <;> cases hx
  | .set _, _, ⟨n, hx⟩, _ => by cases n <;> cases hx
theorem eqv_Ps : ∀ xs ys : List D, (∀ x ∈ xs, ∃ n, pl n x = true) → (∀ y ∈ ys, ∃ n, pl n y = true) → D.eqvs xs ys = PyData.eqvAll (toPs xs) (toPs ys)
  | [], [], _, _ => by rw [D.eqvs, toPs, PyData.eqvAll]
  | [], _ :: _, _, _ => by simp [D.eqvs, toPs, PyData.eqvAll]
  | _ :: _, [], _, _ => by simp [D.eqvs, toPs, PyData.eqvAll]
  | x :: xs, y :: ys, hx, hy => by
    rw [D.eqvs, toPs, toPs, PyData.eqvAll, eqv_P x y (hx x List.mem_cons_self) (hy y List.mem_cons_self), eqv_Ps xs ys (fun d hd => hx d (List.mem_cons_of_mem _ hd)) fun d hd => hy d (List.mem_cons_of_mem _ hd)]
end
def vEq (x y : D) : Option D := if pl 8 x && pl 8 y then some (.bl (D.eqv x y)) else none
def vNe (x y : D) : Option D := if pl 8 x && pl 8 y then some (.bl (!D.eqv x y)) else none
theorem okD8 {d : D} (h : pl 8 d = true) : SeqAt.shaped (toP d) = true := by
  obtain ⟨a, b, _⟩ := okD_all 8 _ (pl_ok 8 d h)
  unfold SeqAt.shaped
  rw [a, decide_eq_true (by omega)]
  rfl
section
variable {B : Tb} {u : Option (Addr × Value × Option Addr)} {X : Cx} {W : WX} {pos : Pos} {a b e : Expr} {fa fb : Ef}
theorem Op2.eq : Op2 B (rEqD B.K) vEq := ⟨fun {Z H x y dx dy d Q} z rx ry e q => by
  obtain ⟨h, rfl⟩ := ite_some e
  obtain ⟨h1, h2⟩ := Bool.and_eq_true_iff.mp h
  refine ⟨_, _, dp_up z _ _ (pl_dp rfl 8 _ _ h1 rx), dp_up z _ _ (pl_dp rfl 8 _ _ h2 ry), okD8 h1, okD8 h2, ?_⟩
  rw [← eqv_P dx dy ⟨8, h1⟩ ⟨8, h2⟩]
  exact q _ Z H (Step.refl z) (.bl _)⟩
theorem Op2.ne : Op2 B (rNeD B.K) vNe := ⟨fun {Z H x y dx dy d Q} z rx ry e q => by
  obtain ⟨h, rfl⟩ := ite_some e
  obtain ⟨h1, h2⟩ := Bool.and_eq_true_iff.mp h
  refine ⟨_, _, dp_up z _ _ (pl_dp rfl 8 _ _ h1 rx), dp_up z _ _ (pl_dp rfl 8 _ _ h2 ry), okD8 h1, okD8 h2, ?_⟩
  rw [← eqv_P dx dy ⟨8, h1⟩ ⟨8, h2⟩]
  exact q _ Z H (Step.refl z) (.bl _)⟩
theorem op_eqB (hK : X.K = B.K) (hu : X.A.units + 64 < cLine) : OpR X (compareOp .Eq) (rEqD B.K) := hK ▸ op_eqD hu
theorem op_neB (hK : X.K = B.K) (hu : X.A.units + 64 < cLine) : OpR X (compareOp .NotEq) (rNeD B.K) := hK ▸ op_neD hu
/-! sums .. -/
def lim (n : Nat) : Bool := decide (n ≤ 1000)
def vAdd : D → D → Option D
  | .int i, .int j => some (.int (i + j))
  | .str a, .str b => if lim (a.length + b.length) then some (.str (a ++ b)) else none
  | .lst a, .lst b => if fit (a.length + b.length) then some (.lst (a ++ b)) else none
  | .tup a, .tup b => if !a.isEmpty && fit (a.length + b.length) then some (.tup (a ++ b)) else none
  | _, _ => none
def rAddA (K : PySem.W.Frag) : R2 := fun x y H Q => (rI0 (fun i j => .int (i + j)) x y H Q ∨ rAddS x y H Q) ∨ (rCat x y H Q ∨ rCatT K x y H Q)
theorem op_addA (hK : X.K = B.K) : OpR X (binaryOp .Add) (rAddA B.K) := hK ▸ OpR.or (OpR.or op_add op_addS) (OpR.or op_cat op_catT)
theorem Op2.add : Op2 B (rAddA B.K) vAdd := ⟨fun {Z H x y dx dy d Q} z rx ry e q => by
  cases rx with
  | int i =>
    cases ry with
    | int j => cases e; exact .inl (.inl ⟨i, j, rfl, rfl, q _ Z H (Step.refl z) (.int _)⟩)
    | _ => cases e
  | str a =>
    cases ry with
    | str b =>
      obtain ⟨h, rfl⟩ := ite_some (show (if lim (a.length + b.length) then some (D.str (a ++ b)) else none) = some d from e)
      exact .inl (.inr ⟨a, b, rfl, rfl, of_decide_eq_true h, q _ Z H (Step.refl z) (.str _)⟩)
    | _ => cases e
  | @lst p vs ds ha ra =>
    cases ry with
    | @lst p2 vs2 ds2 hb rb =>
      obtain ⟨h, rfl⟩ := ite_some (show (if fit (ds.length + ds2.length) then some (D.lst (ds ++ ds2)) else none) = some d from e)
      exact .inr (.inl ⟨p, p2, vs, vs2, rfl, rfl, z _ _ ha, z _ _ hb, by rw [ra.len, rb.len]; exact fit_le h, fun a n => q _ _ _ (Step.new _ z n) (new_lst z n (ra.app rb))⟩)
    | _ => cases e
  | @tup p vs ds ha ra =>
    cases ry with
    | @tup p2 vs2 ds2 hb rb =>
      obtain ⟨h, rfl⟩ := ite_some (show (if !ds.isEmpty && fit (ds.length + ds2.length) then some (D.tup (ds ++ ds2)) else none) = some d from e)
      obtain ⟨h1, h2⟩ := Bool.and_eq_true_iff.mp h
      refine .inr (.inr ⟨p, p2, vs, vs2, rfl, rfl, seqT_mono z ha, seqT_mono z hb, fun e => ?_, by rw [ra.len, rb.len]; exact fit_le h2, fun e => ?_, fun _ a n => q _ _ _ (Step.new _ z n) (new_tup z n (ra.app rb))⟩)
      · subst e
        cases ra
        cases h1
      · subst e
        cases rb
        exact q _ Z H (Step.refl z) (.tup ha (by rw [List.append_nil]; exact ra))
    | _ => cases e
  | _ => cases e⟩
def vI (g : Int → Int → Option Int) : D → D → Option D
  | .int i, .int j => (g i j).map .int
  | _, _ => none
theorem Op2.int {C : Int → Int → Prop} {f : Int → Int → Int} {g : Int → Int → Option Int} (h : ∀ i j k, g i j = some k → C i j ∧ k = f i j) : Op2 B (rI C fun i j => .int (f i j)) (vI g) := ⟨fun {Z H x y dx dy d Q} z rx ry e q => by
  cases rx with
  | int i =>
    cases ry with
    | int j =>
      obtain ⟨k, e1, rfl⟩ := Option.map_eq_some_iff.mp (show (g i j).map D.int = some d from e)
      obtain ⟨c, rfl⟩ := h i j k e1
      exact ⟨i, j, rfl, rfl, c, q _ Z H (Step.refl z) (.int _)⟩
    | _ => cases e
  | _ => cases e⟩
theorem Op2.int0 {f : Int → Int → Int} : Op2 B (rI0 fun i j => .int (f i j)) (vI fun i j => some (f i j)) := ⟨fun {Z H x y dx dy d Q} z rx ry e q => by
  cases rx with
  | int i =>
    cases ry with
    | int j => cases e; exact ⟨i, j, rfl, rfl, q _ Z H (Step.refl z) (.int _)⟩
    | _ => cases e
  | _ => cases e⟩
def small64 (i : Int) : Bool := decide (-(2 ^ 64) < i) && decide (i < 2 ^ 64)
theorem small64_of {i : Int} (h : small64 i = true) : -(2 ^ 64) < i ∧ i < 2 ^ 64 := by
  obtain ⟨a, b⟩ := Bool.and_eq_true_iff.mp h
  exact ⟨of_decide_eq_true a, of_decide_eq_true b⟩
def gMul (i j : Int) : Option Int := if small64 i || small64 j then some (i * j) else none
theorem Op2.mul : Op2 B (rI CMul fun i j => .int (i * j)) (vI gMul) := Op2.int fun i j k e => by
  obtain ⟨h, rfl⟩ := ite_some e
  refine ⟨?_, rfl⟩
  rcases Bool.or_eq_true_iff.mp h with h | h
  · exact .inl (small64_of h)
  · exact .inr (small64_of h)
def gFdiv (i j : Int) : Option Int := if decide (0 < j) && decide (j < 1152921504606846976) then some (i / j) else none
theorem Op2.fdiv : Op2 B (rI CDivW fun i j => .int (i / j)) (vI gFdiv) := Op2.int fun i j k e => by
  obtain ⟨h, rfl⟩ := ite_some e
  obtain ⟨a, b⟩ := Bool.and_eq_true_iff.mp h
  exact ⟨cdivw (of_decide_eq_true a) (of_decide_eq_true b), rfl⟩
def gMod (i j : Int) : Option Int := if decide (0 < j) then some (i % j) else none
theorem Op2.mod : Op2 B (rI (fun _ j => 0 < j) fun i j => .int (i % j)) (vI gMod) := Op2.int fun i j k e => by
  obtain ⟨h, rfl⟩ := ite_some e
  exact ⟨of_decide_eq_true h, rfl⟩
def gPow (i j : Int) : Option Int := if decide (0 ≤ j) && (decide (j ≤ 1000000) && decide (i.natAbs < 2 ^ 64)) then some (i ^ j.toNat) else none
theorem Op2.pow : Op2 B (rI CPow fun i j => .int (i ^ j.toNat)) (vI gPow) := Op2.int fun i j k e => by
  obtain ⟨h, rfl⟩ := ite_some e
  obtain ⟨a, b⟩ := Bool.and_eq_true_iff.mp h
  obtain ⟨b, c⟩ := Bool.and_eq_true_iff.mp b
  exact ⟨⟨of_decide_eq_true a, of_decide_eq_true b, of_decide_eq_true c⟩, rfl⟩
def negD : D → Option D
  | .int i => some (.int (-i))
  | _ => none
theorem Op1.neg : Op1 B (rU fun i => .int (-i)) negD := ⟨fun {Z H x dx d Q} z rx e q => by
  cases rx with
  | int i => cases e; exact ⟨i, rfl, q _ Z H (Step.refl z) (.int _)⟩
  | _ => cases e⟩
def vCmp (g : Int → Int → Bool) : D → D → Option D
  | .int i, .int j => some (.bl (g i j))
  | _, _ => none
theorem Op2.cmp {g : Int → Int → Bool} : Op2 B (rI0 fun i j => .bl (g i j)) (vCmp g) := ⟨fun {Z H x y dx dy d Q} z rx ry e q => by
  cases rx with
  | int i =>
    cases ry with
    | int j => cases e; exact ⟨i, j, rfl, rfl, q _ Z H (Step.refl z) (.bl _)⟩
    | _ => cases e
  | _ => cases e⟩
abbrev vLt := vCmp fun i j => decide (i < j)
abbrev vLe := vCmp fun i j => decide (i ≤ j)
abbrev vGt := vCmp fun i j => decide (j < i)
abbrev vGe := vCmp fun i j => decide (j ≤ i)
def isNonD : D → Bool
  | .non => true
  | _ => false
def vIsN (neg : Bool) : D → D → Option D
  | x, .non => some (.bl (if neg then !isNonD x else isNonD x))
  | _, _ => none
theorem isNonD_of {Z : Hp} {x : V} {d : D} (r : Rp B Z x d) : decide (x = .non) = isNonD d := by cases r <;> rfl
theorem Op2.isN : Op2 B (fun x y H Q => y = .non ∧ Q (.bl (decide (x = .non))) H) (vIsN false) := ⟨fun {Z H x y dx dy d Q} z rx ry e q => by
  cases ry with
  | non =>
    have e : some (D.bl (isNonD dx)) = some d := by cases dx <;> exact e
    cases e
    exact ⟨rfl, by rw [isNonD_of rx]; exact q _ Z H (Step.refl z) (.bl _)⟩
  | _ => cases dx <;> cases e⟩
theorem Op2.notN : Op2 B (fun x y H Q => y = .non ∧ Q (.bl (!decide (x = .non))) H) (vIsN true) := ⟨fun {Z H x y dx dy d Q} z rx ry e q => by
  cases ry with
  | non =>
    have e : some (D.bl (!isNonD dx)) = some d := by cases dx <;> exact e
    cases e
    exact ⟨rfl, by rw [isNonD_of rx]; exact q _ Z H (Step.refl z) (.bl _)⟩
  | _ => cases dx <;> cases e⟩
def vIsB : D → D → Option D
  | .bl a, .bl b => some (.bl (decide (a = b)))
  | _, _ => none
theorem Op2.isB : Op2 B rIsB vIsB := ⟨fun {Z H x y dx dy d Q} z rx ry e q => by
  cases rx with
  | bl a =>
    cases ry with
    | bl b => cases e; exact ⟨a, b, rfl, rfl, q _ Z H (Step.refl z) (.bl _)⟩
    | _ => cases e
  | _ => cases e⟩
/-! in -/
def inD (x : D) : List D → Bool
  | [] => false
  | y :: ys => D.eqv y x || inD x ys
def vIn (neg : Bool) : D → D → Option D
  | x, .lst l => if pl 8 x && l.all (pl 7) then some (.bl (if neg then !inD x l else inD x l)) else none
  | x, .tup l => if pl 8 x && l.all (pl 7) then some (.bl (if neg then !inD x l else inD x l)) else none
  | _, _ => none
def rInA (K : PySem.W.Frag) (neg : Bool) : R2 := fun x y H Q => (if neg then rNotInD K else rInD K) x y H Q ∨ (if neg then rNotInDT K else rInDT K) x y H Q
theorem op_inA (hK : X.K = B.K) (hu : X.A.units + 65 < cLine) : OpR X (compareOp .In) (rInA B.K false) := OpR.or (op_inDK hK hu) (op_inDT hK hu)
theorem op_notInA (hK : X.K = B.K) (hu : X.A.units + 65 < cLine) : OpR X (compareOp .NotIn) (rInA B.K true) := OpR.or (op_notInDK hK hu) (op_notInDT hK hu)
theorem inD_P {x : D} (hx : ∃ n, pl n x = true) : ∀ {l : List D}, (∀ y ∈ l, ∃ n, pl n y = true) → ((toPs l).any fun z => PyData.eqv z (toP x)) = inD x l
  | [], _ => rfl
  | y :: ys, h => by
    rw [toPs, List.any_cons, inD, inD_P hx fun z hz => h z (List.mem_cons_of_mem _ hz), eqv_P y x (h y List.mem_cons_self) hx]
theorem Op2.inA {neg : Bool} : Op2 B (rInA B.K neg) (vIn neg) := ⟨fun {Z H x y dx dy d Q} z rx ry e q => by
  cases hr : ry with
  | @lst p vs ds hl r =>
    obtain ⟨h, rfl⟩ := ite_some (show (if pl 8 dx && ds.all (pl 7) then some (D.bl (if neg then !inD dx ds else inD dx ds)) else none) = some d by cases dx <;> exact e)
    obtain ⟨h1, h2⟩ := Bool.and_eq_true_iff.mp h
    have h3 : pl 8 (.lst ds) = true := h2
    have k := q _ Z H (Step.refl z) (.bl (if neg then !inD dx ds else inD dx ds))
    refine .inl ?_
    have e3 := inD_P ⟨8, h1⟩ (l := ds) fun y hy => ⟨7, List.all_eq_true.mp h2 y hy⟩
    cases neg with
    | false => exact ⟨_, toPs ds, dp_up z _ _ (pl_dp rfl 8 _ _ h1 rx), dp_up z _ _ (by have := pl_dp (K := B.K) rfl 8 _ _ h3 ry; rw [toP] at this; exact this), okD8 h1, (by have := okD8 h3; rw [toP] at this; exact this), by rw [e3]; exact k⟩
    | true => exact ⟨_, toPs ds, dp_up z _ _ (pl_dp rfl 8 _ _ h1 rx), dp_up z _ _ (by have := pl_dp (K := B.K) rfl 8 _ _ h3 ry; rw [toP] at this; exact this), okD8 h1, (by have := okD8 h3; rw [toP] at this; exact this), by rw [e3]; exact k⟩
  | @tup p vs ds hl r =>
    obtain ⟨h, rfl⟩ := ite_some (show (if pl 8 dx && ds.all (pl 7) then some (D.bl (if neg then !inD dx ds else inD dx ds)) else none) = some d by cases dx <;> exact e)
    obtain ⟨h1, h2⟩ := Bool.and_eq_true_iff.mp h
    have h3 : pl 8 (.tup ds) = true := h2
    have k := q _ Z H (Step.refl z) (.bl (if neg then !inD dx ds else inD dx ds))
    refine .inr ?_
    have e3 := inD_P ⟨8, h1⟩ (l := ds) fun y hy => ⟨7, List.all_eq_true.mp h2 y hy⟩
    cases neg with
    | false => exact ⟨_, toPs ds, dp_up z _ _ (pl_dp rfl 8 _ _ h1 rx), dp_up z _ _ (by have := pl_dp (K := B.K) rfl 8 _ _ h3 ry; rw [toP] at this; exact this), okD8 h1, (by have := okD8 h3; rw [toP] at this; exact this), by rw [e3]; exact k⟩
    | true => exact ⟨_, toPs ds, dp_up z _ _ (pl_dp rfl 8 _ _ h1 rx), dp_up z _ _ (by have := pl_dp (K := B.K) rfl 8 _ _ h3 ry; rw [toP] at this; exact this), okD8 h1, (by have := okD8 h3; rw [toP] at this; exact this), by rw [e3]; exact k⟩
  | _ => subst hr; cases dx <;> cases e⟩
end
end Vv

/-! ## subscripts, slices, built-ins -/
namespace Vv
section
variable {B : Tb} {u : Option (Addr × Value × Option Addr)} {X : Cx} {W : WX} {pos : Pos} {a b e : Expr} {fa fb : Ef}
theorem rp_str {Z : Hp} (x : Str) : Rp B Z (.str x) (.str x.cps.toList) := Rp.str (B := B) (Z := Z) x.cps.toList
theorem Rps.len' {Z : Hp} {vs : List V} {ds : List D} (r : Rps B Z vs ds) : ds.length = vs.length := r.len.symm
/-! o[i] -/
def vIx : D → D → Option D
  | .lst l, .int i => atI l i
  | .tup l, .int i => atI l i
  | .str l, .int i => if lim l.length then (atI l i).map fun c => .str [c] else none
  | _, _ => none
def rIxA (K : PySem.W.Frag) : R2 := fun x y H Q => (rIxL K x y H Q ∨ rIxT K x y H Q) ∨ rIxS2 x y H Q
theorem ix_A (hK : X.K = B.K) : IxR X (rIxA B.K) := hK ▸ IxR.or (IxR.or ix_list ix_tup) ix_S
theorem Rps.atI {Z : Hp} {vs : List V} {ds : List D} {i : Int} {d : D} (r : Rps B Z vs ds) (h : L2.atI ds i = some d) : ∃ v, L2.atI vs i = some v ∧ Rp B Z v d := by
  unfold L2.atI at h ⊢
  obtain ⟨j, e1, e2⟩ := Option.bind_eq_some_iff.mp h
  obtain ⟨v, e3, rv⟩ := r.at e2
  exact ⟨v, Option.bind_eq_some_iff.mpr ⟨j, by rw [r.len]; exact e1, e3⟩, rv⟩
theorem Op2.ix : Op2 B (rIxA B.K) vIx := ⟨fun {Z H x y dx dy d Q} z rx ry e q => by
  cases rx with
  | lst h r =>
    cases ry with
    | int i =>
      obtain ⟨v, ev, rv⟩ := r.atI e
      exact .inl (.inl ⟨_, _, i, v, rfl, rfl, .inl (.inl (z _ _ h)), ev, q v Z H (Step.refl z) rv⟩)
    | _ => cases e
  | tup h r =>
    cases ry with
    | int i =>
      obtain ⟨v, ev, rv⟩ := r.atI e
      exact .inl (.inr ⟨_, _, i, v, rfl, rfl, seqT_mono z h, ev, q v Z H (Step.refl z) rv⟩)
    | _ => cases e
  | str l =>
    cases ry with
    | int i =>
      have e : (if lim l.length then (L2.atI l i).map (fun c => D.str [c]) else none) = some d := e
      cases hl : lim l.length with
      | false => rw [hl] at e; cases e
      | true =>
        rw [hl] at e
        obtain ⟨c, ec, rfl⟩ := Option.map_eq_some_iff.mp e
        exact .inr ⟨l, i, c, rfl, rfl, of_decide_eq_true hl, ec, q _ Z H (Step.refl z) (.str [c])⟩
    | _ => cases e
  | _ => cases ry <;> cases e⟩
/-! o[i:j] -/
def cutL {α : Type} (xs : List α) (lo hi : Option Int) : List α := (xs.drop (HT.sIx xs.length 0 lo)).take (HT.sIx xs.length xs.length hi - HT.sIx xs.length 0 lo)
def vSl (x : D) (lo hi : Option Int) : Option D := match x with
  | .lst l => some (.lst (cutL l lo hi))
  | .tup l => some (.tup (cutL l lo hi))
  | .str l => if lim l.length then some (.str (cutL l lo hi)) else none
  | _ => none
abbrev Of := En → S → R (Option Int)
def tVO (G : Gf) (W : WX) (f : Of) : TO := fun σ H Q => ∃ Z ρ s, VI G Z H σ ρ s ∧ ROk G W σ ρ Z (f ρ s) fun o s' => ∀ Z' H', VI G Z' H' σ ρ s' → Same Z Z' → Q o H'
def VO (B : Tb) (u : Option (Addr × Value × Option Addr)) (X : Cx) (W : WX) (e : Option Expr) (f : Of) : Prop := ∀ G : Gf, G.B = B ∧ G.ux = u → PO X e (tVO G W f)
theorem po_mono {e : Option Expr} {t t' : TO} (h : PO X e t) (m : ∀ σ H Q, t' σ H Q → t σ H Q) : PO X e t' := by
  obtain ⟨h⟩ := h
  exact ⟨by intros; exact h _ _ _ _ _ (by assumption) (m _ _ _ (by assumption))⟩
def oNone : Of := fun _ s => .ok none s
def oSome (f : Ef) : Of := fun ρ s => (f ρ s).bind fun d s1 => match d with
  | .int i => .ok (some i) s1
  | _ => .bad
theorem vo_none : VO B u X W none oNone := fun _ _ => po_mono po_none fun _ _ _ ⟨Z, _, _, I, h⟩ => h Z _ I (Same.refl Z)
theorem vo_some {f : Ef} (h : VE B u X W e f) : VO B u X W (some e) (oSome f) := by
  intro G hG
  refine po_mono (po_some (h G hG)) fun σ H Q ⟨Z, ρ, s, I, h⟩ => ⟨Z, ρ, s, I, h.bind.up (Same.refl Z) fun d s1 h1 v Z1 H1 I1 z1 r => ?_⟩
  cases r with
  | int i => exact ⟨i, rfl, h1 Z1 H1 I1 z1⟩
  | _ => exact h1.elim
def eSl (f : Ef) (fl fh : Of) : Ef := fun ρ s => (f ρ s).bind fun x s1 => (fl ρ s1).bind fun l s2 => (fh ρ s2).bind fun h s3 => opt (vSl x l h) s3
def rSlA (K : PySem.W.Frag) : V → Option Int → Option Int → Hp → VK → Prop := fun x lo hi H Q => (rSlL K x lo hi H Q ∨ L2.rSlA K x lo hi H Q) ∨ rSlS2 x lo hi H Q
theorem sl_A (hK : X.K = B.K) : SlR X (rSlA B.K) := hK ▸ SlR.or (SlR.or sl_list sl_tupA) sl_S
theorem Rps.cut {Z : Hp} {vs : List V} {ds : List D} (r : Rps B Z vs ds) (lo hi : Option Int) : Rps B Z (cutV vs lo hi) (cutL ds lo hi) := by
  unfold cutV cutL
  rw [r.len]
  exact (r.drop _).take _
theorem slice_of {K : PySem.W.Frag} (hK : K = B.K) {Z H : Hp} {x : V} {dx d : D} {lo hi : Option Int} {Q : VK} (z : Same Z H) (rx : Rp B Z x dx) (e : vSl dx lo hi = some d) (q : ∀ v Z' H', Step Z H Z' H' → Rp B Z' v d → Q v H') : rSlA K x lo hi H Q := by
  subst hK
  cases rx with
  | lst h r =>
    cases e
    exact .inl (.inl ⟨_, _, rfl, .inl (.inl (z _ _ h)), fun p n => q _ _ _ (Step.new _ z n) (new_lst z n (r.cut lo hi))⟩)
  | @tup p vs ds h r =>
    cases e
    refine .inl (.inr ⟨_, vs, rfl, seqT_mono z h, fun ⟨h1, h2⟩ => ?_, fun _ p n => q _ _ _ (Step.new _ z n) (new_tup z n (r.cut lo hi))⟩)
    rw [r.len] at h1 h2
    have ec : cutL ds lo hi = ds := by
      unfold cutL
      rw [h1, h2, List.drop_zero, Nat.sub_zero, List.take_length]
    rw [ec] at q
    exact q _ Z H (Step.refl z) (.tup h r)
  | str l =>
    obtain ⟨h, rfl⟩ := ite_some (show (if lim l.length then some (D.str (cutL l lo hi)) else none) = some d from e)
    exact .inr ⟨l, rfl, of_decide_eq_true h, q _ Z H (Step.refl z) (.str _)⟩
  | _ => cases e
theorem ve_sl {lo hi : Option Expr} {p2 : Pos} {fl fh : Of} (hK : X.K = B.K) (ha : VE B u X W a fa) (hl : VO B u X W lo fl) (hh : VO B u X W hi fh) : VE B u X W (.Subscript a (.Slice lo hi none p2) pos) (eSl fa fl fh) := by
  intro G hG
  have h0 := ha G hG
  have h1 := hl G hG
  have h2 := hh G hG
  obtain ⟨rfl, rfl⟩ := hG
  refine pe_mono (pe_slice (sl_A hK) h0 h1 h2) fun σ H Q ⟨Z, ρ, s, I, h⟩ => ?_
  refine ⟨Z, ρ, s, I, h.bind.up (Same.refl Z) fun x s1 h1 v Z1 H1 I1 z1 rv => ?_⟩
  refine ⟨Z1, ρ, s1, I1, (ROk.bind h1).up z1 fun l s2 h2 Z2 H2 I2 z2 => ?_⟩
  refine ⟨Z2, ρ, s2, I2, (ROk.bind h2).up (z1.trans z2) fun h s3 h3 Z3 H3 I3 z3 => ?_⟩
  obtain ⟨d, e, k⟩ := h3.opt
  exact slice_of rfl I3.zh (rv.mono (z2.trans z3)) e fun w Z4 H4 t r => k w Z4 H4 (I3.step t) (z1.trans (z2.trans (z3.trans t.zz))) r
/-! o[::-1] -/
def revD : D → Option D
  | .lst l => some (.lst l.reverse)
  | .tup l => some (.tup l.reverse)
  | .str l => if lim l.length then some (.str l.reverse) else none
  | _ => none
theorem ve_rev {k : Nat} {p1 p2 p3 : Pos} (hK : X.K = B.K) (ha : VE B u X W a fa) : VE B u X W (.Subscript a (.Slice none none (some (.UnaryOp .USub (.Constant (.int 1) k p1) p2)) p3) pos) (eOp1 revD fa) := by
  intro G hG
  have h0 := ha G hG
  obtain ⟨rfl, rfl⟩ := hG
  refine pe_mono (pe_or2 (pe_or2 (pe_revL h0) (pe_revT h0)) (pe_revS h0)) fun σ H Q ⟨Z, ρ, s, I, h⟩ => ?_
  have h := h.bind
  cases ef : fa ρ s with
  | bad => rw [ef] at h; exact h.elim
  | exc c fs s1 => rw [ef] at h; exact .inl (.inl ⟨Z, ρ, s, I, by rw [ef]; exact h⟩)
  | ok d s1 =>
    rw [ef] at h
    obtain ⟨r, er, k⟩ := ROk.opt h
    cases d with
    | lst l =>
      cases er
      refine .inl (.inl ⟨Z, ρ, s, I, ?_⟩)
      rw [ef]
      intro v Z1 H1 I1 z1 rv
      obtain ⟨p, vs, rfl, hp, rs⟩ := rp_lst rv
      refine ⟨p, vs, rfl, .inl (.inl (I1.zh _ _ hp)), fun q n => ?_⟩
      have t := Step.new (.lst vs.reverse) I1.zh n
      exact k _ _ _ (I1.step t) (z1.trans t.zz) (new_lst I1.zh n rs.rev)
    | tup l =>
      cases er
      refine .inl (.inr ⟨Z, ρ, s, I, ?_⟩)
      rw [ef]
      intro v Z1 H1 I1 z1 rv
      cases rv with
      | @tup _ vs2 _ hp rs =>
        refine ⟨_, vs2, rfl, by rw [hK]; exact seqT_mono I1.zh hp, fun q n => ?_⟩
        have t := Step.new (.tup vs2.reverse) I1.zh n
        exact k _ _ _ (I1.step t) (z1.trans t.zz) (new_tup I1.zh n rs.rev)
    | str l =>
      obtain ⟨hl, rfl⟩ := ite_some (show (if lim l.length then some (D.str l.reverse) else none) = some r from er)
      refine .inr ⟨Z, ρ, s, I, ?_⟩
      rw [ef]
      intro v Z1 H1 I1 z1 rv
      cases rv
      exact ⟨l, rfl, of_decide_eq_true hl, k _ Z1 H1 I1 z1 (.str _)⟩
    | _ => cases er
/-! calls of built-ins -/
variable {x : Str} {id T : String} {p : Pos} {es : List Expr} {fs : Af} {r : List V → Hp → VK → Prop} {g : List D → Option D}
theorem ve_b (hc : CallR X (.builtin id) r) (O : OpN B r g) (hg : Gl X x) (hm : X.mg x = none) (hv : bootBuiltins x = some (.builtin id)) (ha : VA B u X W (e :: es) fs) (hn : x ≠ "__name__" := by decide) (hdb : (x == ("__debug__" : Str)) = false := by decide)
    (he : starEach (e :: es) X.env = (false, eval e X.env) :: starEach es X.env := by rfl) (hpl : (backTo pos (starEach es X.env)).any (·.1) = false := by rfl) : VE B u X W (.Call (.Name x p) (e :: es) [] pos) (eOpN g fs) := by
  intro G hG
  have h0 := ha G hG
  obtain ⟨rfl, rfl⟩ := hG
  exact pe_mono (pe_callB hc hg hm hv h0 hn hdb he hpl) fun _ _ _ h => opN_of O h
theorem ve_ty (hc : CallR X (.type T) r) (O : OpN B r g) (hg : Gl X x) (hm : X.mg x = none) (hv : bootBuiltins x = some (.type T)) (ha : VA B u X W (e :: es) fs) (hn : x ≠ "__name__" := by decide) (hdb : (x == ("__debug__" : Str)) = false := by decide)
    (he : starEach (e :: es) X.env = (false, eval e X.env) :: starEach es X.env := by rfl) (hpl : (backTo pos (starEach es X.env)).any (·.1) = false := by rfl) : VE B u X W (.Call (.Name x p) (e :: es) [] pos) (eOpN g fs) := by
  intro G hG
  have h0 := ha G hG
  obtain ⟨rfl, rfl⟩ := hG
  exact pe_mono (pe_callTy hc hg hm hv h0 hn hdb he hpl) fun _ _ _ h => opN_of O h
def lenD : D → Option Nat
  | .str l => if lim l.length then some l.length else none
  | .tup l => some l.length
  | .lst l => some l.length
  | _ => none
def rLenA (K : PySem.W.Frag) : List V → Hp → VK → Prop := fun xs H Q => rLenQ K xs H Q ∨ rLenS1 xs H Q
theorem call_lenA (hK : X.K = B.K) : CallR X (.builtin "len") (rLenA B.K) := CallR.or (call_lenQ hK) call_lenS
theorem OpN.one {r : List V → Hp → VK → Prop} {g : D → Option D} {gl : List D → Option D} (hg : ∀ ds d, gl ds = some d → ∃ x, ds = [x] ∧ g x = some d)
    (h : ∀ {Z H : Hp} {x : V} {dx d : D} {Q : VK}, Same Z H → Rp B Z x dx → g dx = some d → (∀ v Z' H', Step Z H Z' H' → Rp B Z' v d → Q v H') → r [x] H Q) : OpN B r gl := ⟨fun {Z H xs ds d Q} z rs e q => by
  obtain ⟨dx, rfl, e2⟩ := hg _ _ e
  cases rs with
  | cons rx rr =>
    cases rr
    exact h z rx e2 q⟩
def g1 (g : D → Option D) : List D → Option D
  | [x] => g x
  | _ => none
theorem g1_of {g : D → Option D} (ds : List D) (d : D) (h : g1 g ds = some d) : ∃ x, ds = [x] ∧ g x = some d := by
  match ds, h with
  | [x], h => exact ⟨x, rfl, h⟩
def lenV (d : D) : Option D := (lenD d).map fun (n : Nat) => D.int (n : Int)
theorem OpN.len : OpN B (rLenA B.K) (g1 lenV) := OpN.one g1_of fun {Z H x dx d Q} z rx e q => by
  cases rx with
  | lst h r => cases e; exact .inl ⟨_, _, rfl, .inl (.inl (.inl (z _ _ h))), by rw [r.len]; exact q _ Z H (Step.refl z) (.int _)⟩
  | tup h r => cases e; exact .inl ⟨_, _, rfl, .inr (seqT_mono z h), by rw [r.len]; exact q _ Z H (Step.refl z) (.int _)⟩
  | str l =>
    obtain ⟨n, e1, rfl⟩ := Option.map_eq_some_iff.mp e
    obtain ⟨hl, rfl⟩ := ite_some (show (if lim l.length then some l.length else none) = some n from e1)
    exact .inr ⟨l, rfl, of_decide_eq_true hl, q _ Z H (Step.refl z) (.int _)⟩
  | _ => cases e
def absD : D → Option D
  | .int i => some (.int (if i < 0 then -i else i))
  | _ => none
def rAbs : List V → Hp → VK → Prop := fun xs H Q => ∃ i, xs = [.int i] ∧ Q (.int (if i < 0 then -i else i)) H
theorem call_absA : CallR X (.builtin "abs") rAbs := call_abs
theorem OpN.abs : OpN B rAbs (g1 absD) := OpN.one g1_of fun {Z H x dx d Q} z rx e q => by
  cases rx with
  | int i => cases e; exact ⟨i, rfl, q _ Z H (Step.refl z) (.int _)⟩
  | _ => cases e
def intD : D → Option D
  | .int i => some (.int i)
  | .bl k => some (.int (if k then 1 else 0))
  | _ => none
def rInt1 : List V → Hp → VK → Prop := fun xs H Q => (∃ i, xs = [.int i] ∧ Q (.int i) H) ∨ ∃ k, xs = [.bl k] ∧ Q (.int (if k then 1 else 0)) H
theorem call_intA : CallR X (.type "int") rInt1 := call_int1
theorem OpN.int1 : OpN B rInt1 (g1 intD) := OpN.one g1_of fun {Z H x dx d Q} z rx e q => by
  cases rx with
  | int i => cases e; exact .inl ⟨i, rfl, q _ Z H (Step.refl z) (.int _)⟩
  | bl k => cases e; exact .inr ⟨k, rfl, q _ Z H (Step.refl z) (.int _)⟩
  | _ => cases e
def two (g : Int → Int → Int) : List D → Option D
  | [.int i, .int j] => some (.int (g i j))
  | _ => none
def rTwo (g : Int → Int → Int) : List V → Hp → VK → Prop := fun xs H Q => ∃ i j, xs = [.int i, .int j] ∧ Q (.int (g i j)) H
theorem OpN.two {g : Int → Int → Int} : OpN B (rTwo g) (Vv.two g) := ⟨fun {Z H xs ds d Q} z rs e q => by
  match ds, rs, e with
  | [.int i, .int j], rs, e =>
    cases e
    cases rs with
    | cons r1 rs =>
      cases rs with
      | cons r2 rs =>
        cases rs
        cases r1
        cases r2
        exact ⟨i, j, rfl, q _ Z H (Step.refl z) (.int _)⟩⟩
theorem call_max2A (hc : X.calm = true) : CallR X (.builtin "max") (rTwo fun i j => if j > i then j else i) := call_max2 hc
theorem call_min2A (hc : X.calm = true) : CallR X (.builtin "min") (rTwo fun i j => if j < i then j else i) := call_min2 hc
def seqI : D → Option (List Int)
  | .lst l => dInts l
  | _ => none
def sumD (d : D) : Option D := (seqI d).map fun l => .int l.sum
theorem OpN.sum : OpN B (rSum B.K) (g1 sumD) := OpN.one g1_of fun {Z H x dx d Q} z rx e q => by
  obtain ⟨is, e1, rfl⟩ := Option.map_eq_some_iff.mp e
  cases rx with
  | lst h r =>
    have ev := dInts_of r e1
    subst ev
    exact ⟨_, is, rfl, .inl (.inl (z _ _ h)), q _ Z H (Step.refl z) (.int _)⟩
  | _ => cases e1
theorem cr_sumA (hK : X.K = B.K) (hc : X.calm = true) : CallR X (.builtin "sum") (rSum B.K) := hK ▸ cr_sum hc
def maxL : List Int → Int
  | [] => 0
  | [x] => x
  | x :: r => if maxL r > x then maxL r else x
def minL : List Int → Int
  | [] => 0
  | [x] => x
  | x :: r => if minL r < x then minL r else x
theorem maxL_of : ∀ l : List Int, l ≠ [] → maxL l ∈ l ∧ ∀ y ∈ l, y ≤ maxL l
  | [], h => absurd rfl h
  | [x], _ => ⟨List.mem_cons_self, fun y hy => by rw [List.mem_singleton.mp hy]; exact Int.le_refl _⟩
  | x :: z :: r, _ => by
    obtain ⟨a, b⟩ := maxL_of (z :: r) (by simp)
    show (if maxL (z :: r) > x then maxL (z :: r) else x) ∈ x :: z :: r ∧ ∀ y ∈ x :: z :: r, y ≤ (if maxL (z :: r) > x then maxL (z :: r) else x)
    split
    · exact ⟨List.mem_cons_of_mem _ a, fun y hy => (List.mem_cons.mp hy).elim (fun e => by rw [e]; omega) (b y)⟩
    · exact ⟨List.mem_cons_self, fun y hy => (List.mem_cons.mp hy).elim (fun e => by rw [e]; exact Int.le_refl _) fun h => by have := b y h; omega⟩
theorem minL_of : ∀ l : List Int, l ≠ [] → minL l ∈ l ∧ ∀ y ∈ l, minL l ≤ y
  | [], h => absurd rfl h
  | [x], _ => ⟨List.mem_cons_self, fun y hy => by rw [List.mem_singleton.mp hy]; exact Int.le_refl _⟩
  | x :: z :: r, _ => by
    obtain ⟨a, b⟩ := minL_of (z :: r) (by simp)
    show (if minL (z :: r) < x then minL (z :: r) else x) ∈ x :: z :: r ∧ ∀ y ∈ x :: z :: r, (if minL (z :: r) < x then minL (z :: r) else x) ≤ y
    split
    · exact ⟨List.mem_cons_of_mem _ a, fun y hy => (List.mem_cons.mp hy).elim (fun e => by rw [e]; omega) (b y)⟩
    · exact ⟨List.mem_cons_self, fun y hy => (List.mem_cons.mp hy).elim (fun e => by rw [e]; exact Int.le_refl _) fun h => by have := b y h; omega⟩
def extD (f : List Int → Int) (d : D) : Option D := (seqI d).bind fun l => if l.isEmpty then none else some (.int (f l))
theorem OpN.maxS : OpN B (rMax B.K) (g1 (extD maxL)) := OpN.one g1_of fun {Z H x dx d Q} z rx e q => by
  obtain ⟨is, e1, e2⟩ := Option.bind_eq_some_iff.mp e
  cases rx with
  | lst h r =>
    have ev := dInts_of r e1
    subst ev
    cases is with
    | nil => cases e2
    | cons i is =>
      cases e2
      refine ⟨_, i :: is, rfl, .inl (.inl (z _ _ h)), Nat.succ_pos _, fun m hm hall => ?_⟩
      obtain ⟨a, b⟩ := maxL_of (i :: is) (by simp)
      have : m = maxL (i :: is) := by have := b m hm; have := hall _ a; omega
      rw [this]
      exact q _ Z H (Step.refl z) (.int _)
  | _ => cases e1
theorem OpN.minS : OpN B (rMin B.K) (g1 (extD minL)) := OpN.one g1_of fun {Z H x dx d Q} z rx e q => by
  obtain ⟨is, e1, e2⟩ := Option.bind_eq_some_iff.mp e
  cases rx with
  | lst h r =>
    have ev := dInts_of r e1
    subst ev
    cases is with
    | nil => cases e2
    | cons i is =>
      cases e2
      refine ⟨_, i :: is, rfl, .inl (.inl (z _ _ h)), Nat.succ_pos _, fun m hm hall => ?_⟩
      obtain ⟨a, b⟩ := minL_of (i :: is) (by simp)
      have : m = minL (i :: is) := by have := b m hm; have := hall _ a; omega
      rw [this]
      exact q _ Z H (Step.refl z) (.int _)
  | _ => cases e1
theorem cr_maxA (hK : X.K = B.K) (hc : X.calm = true) : CallR X (.builtin "max") (fun xs H Q => rTwo (fun i j => if j > i then j else i) xs H Q ∨ rMax B.K xs H Q) := CallR.or (call_max2 hc) (hK ▸ cr_max hc)
theorem cr_minA (hK : X.K = B.K) (hc : X.calm = true) : CallR X (.builtin "min") (fun xs H Q => rTwo (fun i j => if j < i then j else i) xs H Q ∨ rMin B.K xs H Q) := CallR.or (call_min2 hc) (hK ▸ cr_min hc)
theorem OpN.or {r1 r2 : List V → Hp → VK → Prop} {g1 g2 : List D → Option D} (h1 : OpN B r1 g1) (h2 : OpN B r2 g2) : OpN B (fun xs H Q => r1 xs H Q ∨ r2 xs H Q) (fun ds => (g1 ds).or (g2 ds)) := ⟨fun {Z H xs ds d Q} z rs e q => by
  cases e1 : g1 ds with
  | some d1 => rw [e1] at e; cases e; exact .inl (h1.run z rs e1 q)
  | none => rw [e1] at e; exact .inr (h2.run z rs e q)⟩
/-! all, any -/
def dBls : List D → Option (List Bool)
  | [] => some []
  | .bl i :: r => (dBls r).map (i :: ·)
  | _ => none
theorem dBls_of {Z : Hp} : ∀ {vs : List V} {ds : List D} {is : List Bool}, Rps B Z vs ds → dBls ds = some is → vs = is.map V.bl
  | _, _, _, .nil, e => by cases e; rfl
  | _, _, _, .cons h r, e => by
    cases h with
    | bl i =>
      obtain ⟨js, e1, rfl⟩ := Option.map_eq_some_iff.mp (show (dBls _).map (i :: ·) = some _ from e)
      rw [dBls_of r e1]
      rfl
    | _ => cases e
def seqB : D → Option (List Bool)
  | .lst l => dBls l
  | _ => none
def allD (d : D) : Option D := (seqB d).map fun l => .bl (l.all _root_.id)
def anyD (d : D) : Option D := (seqB d).map fun l => .bl (l.any _root_.id)
theorem OpN.allB : OpN B (rAll B.K) (g1 allD) := OpN.one g1_of fun {Z H x dx d Q} z rx e q => by
  obtain ⟨is, e1, rfl⟩ := Option.map_eq_some_iff.mp e
  cases rx with
  | lst h r =>
    have ev := dBls_of r e1
    subst ev
    exact ⟨_, is, rfl, .inl (.inl (z _ _ h)), q _ Z H (Step.refl z) (.bl _)⟩
  | _ => cases e1
theorem OpN.anyB : OpN B (rAny B.K) (g1 anyD) := OpN.one g1_of fun {Z H x dx d Q} z rx e q => by
  obtain ⟨is, e1, rfl⟩ := Option.map_eq_some_iff.mp e
  cases rx with
  | lst h r =>
    have ev := dBls_of r e1
    subst ev
    exact ⟨_, is, rfl, .inl (.inl (z _ _ h)), q _ Z H (Step.refl z) (.bl _)⟩
  | _ => cases e1
theorem cr_allA (hK : X.K = B.K) (hc : X.calm = true) : CallR X (.builtin "all") (rAll B.K) := hK ▸ cr_all hc
theorem cr_anyA (hK : X.K = B.K) (hc : X.calm = true) : CallR X (.builtin "any") (rAny B.K) := hK ▸ cr_any hc
/-! list, tuple -/
def tupD : D → Option D
  | .lst l => some (.tup l)
  | .tup l => some (.tup l)
  | _ => none
def rTupleQ (K : PySem.W.Frag) : List V → Hp → VK → Prop := fun xs H Q => ∃ p ys, xs = [.ref p] ∧ ((SqL K H p ys ∧ ∀ l, H l = none → Q (.ref l) (upd H l (.tup ys))) ∨ (SqT K H p ys ∧ Q (.ref p) H))
theorem call_tupA (hK : X.K = B.K) : CallR X (.type "tuple") (rTupleQ B.K) := hK ▸ call_tuple_of
theorem OpN.tup : OpN B (rTupleQ B.K) (g1 tupD) := OpN.one g1_of fun {Z H x dx d Q} z rx e q => by
  cases rx with
  | lst h r => cases e; exact ⟨_, _, rfl, .inl ⟨.inl (.inl (z _ _ h)), fun p n => q _ _ _ (Step.new _ z n) (new_tup z n r)⟩⟩
  | tup h r => cases e; exact ⟨_, _, rfl, .inr ⟨seqT_mono z h, q _ Z H (Step.refl z) (.tup h r)⟩⟩
  | _ => cases e
/-- list(e), a new list -/
def lLst (f : Af) : Lf := fun ρ s => (f ρ s).bind fun ds s1 => match ds with
  | [.lst l] => .ok l s1
  | [.tup l] => .ok l s1
  | _ => .bad
theorem vf_list (hK : X.K = B.K) (hg : Gl X "list") (hm : X.mg "list" = none) (hv : bootBuiltins "list" = some (.type "list")) (ha : VA B u X W [e] fs)
    (he : starEach [e] X.env = (false, eval e X.env) :: starEach [] X.env := by rfl) (hpl : (backTo pos (starEach [] X.env)).any (·.1) = false := by rfl) : VF B u X W (.Call (.Name "list" p) [e] [] pos) (lLst fs) := by
  intro G hG
  have h0 := ha G hG
  obtain ⟨rfl, rfl⟩ := hG
  refine pe_mono (pe_callTy (call_listQ (K := G.B.K) hK) hg hm hv h0 (by decide) (by decide) he hpl) fun σ H Q ⟨Z, ρ, s, I, h⟩ => ?_
  refine ⟨Z, ρ, s, I, h.bind.up (Same.refl Z) fun ds s1 h1 vs Z1 H1 I1 z1 r => ?_⟩
  match ds, h1, r with
  | [.lst l], h1, .cons r2 .nil =>
      obtain ⟨p, vs, rfl, hp, rs⟩ := rp_lst r2
      exact ⟨p, vs, rfl, .inl (.inl (.inl (I1.zh _ _ hp))), fun q n => h1 q vs Z1 _ (I1.step (Step.newH _ I1.zh n)) z1 upd_same (I1.own1 n) rs⟩
  | [.tup l], h1, .cons r2 .nil =>
      obtain ⟨p, vs, rfl, hp, rs⟩ := rp_tup r2
      exact ⟨p, vs, rfl, .inr (seqT_mono I1.zh hp), fun q n => h1 q vs Z1 _ (I1.step (Step.newH _ I1.zh n)) z1 upd_same (I1.own1 n) rs⟩
/-! methods of texts -/
def eM1 (g : D → D → Option D) (fo fa : Ef) : Ef := fun ρ s => (fo ρ s).bind fun x s1 => match x with
  | .str _ => (fa ρ s1).bind fun y s2 => opt (g x y) s2
  | _ => .bad
theorem ve_m1 {id : String} {name : Str} {apos : Pos} {o : Expr} {fo : Ef} {r : V → List V → Hp → VK → Prop} {g : D → D → Option D} (slot : Slot "str" name id) (ty : typeOf (.builtin id) = pure (.type "method_descriptor")) (rule : MtR X id r)
    (O : ∀ {Z H : Hp} {x y : V} {dx dy d : D} {Q : VK}, Same Z H → Rp B Z x dx → Rp B Z y dy → g dx dy = some d → (∀ v Z' H', Step Z H Z' H' → Rp B Z' v d → Q v H') → r x [y] H Q) (ho : VE B u X W o fo) (he : VE B u X W e fa)
    (hs : starEach [e] X.env = [(false, eval e X.env)] := by rfl) (hbase : attributeBase o name X.env (eval o X.env) = eval o X.env := by rfl) (hline : (apos.endLine == pos.line) = true := by rfl) :
    VE B u X W (.Call (.Attribute o name apos) [e] [] pos) (eM1 g fo fa) := by
  intro G hG
  have h0 := ho G hG
  have h1 := he G hG
  obtain ⟨rfl, rfl⟩ := hG
  refine pe_mono (pe_m1 slot ty rule h0 h1 hs hbase hline) fun σ H Q ⟨Z, ρ, s, I, h⟩ => ?_
  refine ⟨Z, ρ, s, I, h.bind.up (Same.refl Z) fun x s1 h1 v Z1 H1 I1 z1 rv => ?_⟩
  cases rv with
  | str l =>
    refine ⟨⟨_, rfl⟩, Z1, ρ, s1, I1, (ROk.bind (show ROk G W σ ρ Z ((fa ρ s1).bind _) _ from h1)).up z1 fun y s2 h2 w Z2 H2 I2 z2 rw' => ?_⟩
    obtain ⟨d, e, k⟩ := h2.opt
    exact O I2.zh (.str l) rw' e fun v Z3 H3 t r => k v Z3 H3 (I2.step t) (z1.trans (z2.trans t.zz)) r
  | _ => exact h1.elim
def countD : D → D → Option D
  | .str l, .str [c] => some (.int (l.count c : Nat))
  | _, _ => none
theorem count_ok {Z H : Hp} {x y : V} {dx dy d : D} {Q : VK} (z : Same Z H) (rx : Rp B Z x dx) (ry : Rp B Z y dy) (e : countD dx dy = some d) (q : ∀ v Z' H', Step Z H Z' H' → Rp B Z' v d → Q v H') : rCountS x [y] H Q := by
  match dx, dy, rx, ry, e with
  | .str l, .str [c], rx, ry, e =>
    cases rx
    cases ry
    cases e
    exact ⟨l, c, rfl, rfl, q _ Z H (Step.refl z) (.int _)⟩
def splitD : D → D → Option D
  | .str a, .str b => if decide (b.length ≠ 0) && lim a.length then some (.lst ((Txt.split (sOf a) (sOf b)).map fun x => .str x.cps.toList)) else none
  | _, _ => none
theorem rps_strs {Z : Hp} : ∀ l : List Str, Rps B Z (l.map V.str) (l.map fun x => .str x.cps.toList)
  | [] => .nil
  | x :: r => .cons (rp_str x) (rps_strs r)
def rSplit1 : V → List V → Hp → VK → Prop := fun x xs H Q => ∃ a b, x = .str a ∧ xs = [.str b] ∧ (b.length == 0) = false ∧ a.length + 2 ≤ sizeLine ∧ rNewStrs (Txt.split a b) H Q
theorem split_ok {Z H : Hp} {x y : V} {dx dy d : D} {Q : VK} (z : Same Z H) (rx : Rp B Z x dx) (ry : Rp B Z y dy) (e : splitD dx dy = some d) (q : ∀ v Z' H', Step Z H Z' H' → Rp B Z' v d → Q v H') : rSplit1 x [y] H Q := by
  match dx, dy, rx, ry, e with
  | .str a, .str b, rx, ry, e =>
    cases rx
    cases ry
    obtain ⟨h, rfl⟩ := ite_some (show (if decide (b.length ≠ 0) && lim a.length then some (D.lst ((Txt.split (sOf a) (sOf b)).map fun x => .str x.cps.toList)) else none) = some d from e)
    obtain ⟨h1, h2⟩ := Bool.and_eq_true_iff.mp h
    have h1 := of_decide_eq_true h1
    refine ⟨_, _, rfl, rfl, by rw [sOf_len]; simpa using h1, by rw [sOf_len, sizeLine_eq]; have := of_decide_eq_true h2; omega, fun p n => q _ _ _ (Step.new _ z n) (new_lst z n (rps_strs _))⟩
def dStrs : List D → Option (List Str)
  | [] => some []
  | .str i :: r => (dStrs r).map (sOf i :: ·)
  | _ => none
theorem dStrs_of {Z : Hp} : ∀ {vs : List V} {ds : List D} {is : List Str}, Rps B Z vs ds → dStrs ds = some is → vs = is.map V.str
  | _, _, _, .nil, e => by cases e; rfl
  | _, _, _, .cons h r, e => by
    cases h with
    | str i =>
      obtain ⟨js, e1, rfl⟩ := Option.map_eq_some_iff.mp (show (dStrs _).map (sOf i :: ·) = some _ from e)
      rw [dStrs_of r e1]
      rfl
    | _ => cases e
def joinD : D → D → Option D
  | .str a, .lst l => (dStrs l).bind fun ys => if decide ((ys.map (·.length)).sum + ys.length * a.length ≤ 16777216) then some (.str (Txt.join (sOf a) ys).cps.toList) else none
  | .str a, .tup l => (dStrs l).bind fun ys => if decide ((ys.map (·.length)).sum + ys.length * a.length ≤ 16777216) then some (.str (Txt.join (sOf a) ys).cps.toList) else none
  | _, _ => none
def rJoin1 (K : PySem.W.Frag) : V → List V → Hp → VK → Prop := fun x xs H Q => ∃ a p, ∃ ys : List Str, x = .str a ∧ xs = [.ref p] ∧ (SqL K H p (ys.map V.str) ∨ SqT K H p (ys.map V.str)) ∧
      (ys.map (·.length)).sum + ys.length * a.length ≤ 16777216 ∧ Q (.str (Txt.join a ys)) H
theorem join_ok {Z H : Hp} {x y : V} {dx dy d : D} {Q : VK} (z : Same Z H) (rx : Rp B Z x dx) (ry : Rp B Z y dy) (e : joinD dx dy = some d) (q : ∀ v Z' H', Step Z H Z' H' → Rp B Z' v d → Q v H') : rJoin1 B.K x [y] H Q := by
  match dx, dy, rx, ry, e with
  | .str a, .lst l, rx, ry, e =>
    cases rx
    obtain ⟨p, vs, rfl, hp, rs⟩ := rp_lst ry
    obtain ⟨ys, e1, e2⟩ := Option.bind_eq_some_iff.mp e
    obtain ⟨h, rfl⟩ := ite_some e2
    have ev := dStrs_of rs e1
    subst ev
    exact ⟨_, p, ys, rfl, rfl, .inl (.inl (.inl (z _ _ hp))), by rw [sOf_len]; exact of_decide_eq_true h, q _ Z H (Step.refl z) (rp_str _)⟩
  | .str a, .tup l, rx, ry, e =>
    cases rx
    obtain ⟨p, vs, rfl, hp, rs⟩ := rp_tup ry
    obtain ⟨ys, e1, e2⟩ := Option.bind_eq_some_iff.mp e
    obtain ⟨h, rfl⟩ := ite_some e2
    have ev := dStrs_of rs e1
    subst ev
    exact ⟨_, p, ys, rfl, rfl, .inr (seqT_mono z hp), by rw [sOf_len]; exact of_decide_eq_true h, q _ Z H (Step.refl z) (rp_str _)⟩
end
end Vv

/-! ## isinstance -/
namespace Vv
inductive Tg where
  | b (n : String) | c (k : Nat)
def tgV (B : Tb) : Tg → Value
  | .b n => .type n
  | .c k => .ref (B.cls k)
def tgOf : D → Option Tg
  | .non => some (.b "NoneType")
  | .bl _ => some (.b "bool")
  | .int _ => some (.b "int")
  | .str _ => some (.b "str")
  | .tup _ => some (.b "tuple")
  | .lst _ => some (.b "list")
  | .obj c _ => some (.c c)
  | .dic [] [] => some (.b "dict")
  | _ => none
def kinds : List String := ["NoneType", "bool", "int", "str", "tuple", "list", "dict"]
def asks : List String := ["int", "bool", "str", "list", "tuple"]
def subB (a b : String) : Bool := a == b || (a == "bool" && b == "int")
theorem kitB_sub : kinds.all (fun a => asks.all fun b => decide (kitB a b = some (subB a b))) = true := by decide +kernel
/-- what is known of the classes cs -/
structure KitOk (B : Tb) (cs : List Nat) : Prop where
  obj : ∀ c ∈ cs, ∀ (H : Hp) (a dx : Addr) (fs : List (Str × V)), H a = some (.ins (B.cls c) dx fs) → TyX B.K H (.ref a) (.ref (B.cls c))
  ti : ∀ c ∈ cs, ∀ b ∈ asks, PySem.W.kitOne B.K (.ref (B.cls c)) (.type b) = some false
  it : ∀ c ∈ cs, ∀ a ∈ kinds, PySem.W.kitOne B.K (.type a) (.ref (B.cls c)) = some false
  cc : ∀ c ∈ cs, ∀ d ∈ cs, PySem.W.kitOne B.K (.ref (B.cls c)) (.ref (B.cls d)) = some (decide (c = d))
def isi1 (cs : List Nat) : Tg → D → Option Bool
  | .b a, .ty n => if asks.contains n && kinds.contains a then some (subB a n) else none
  | .c c, .ty n => if cs.contains c && asks.contains n then some false else none
  | .b a, .cl d => if cs.contains d && kinds.contains a then some false else none
  | .c c, .cl d => if cs.contains c && cs.contains d then some (decide (c = d)) else none
  | _, _ => none
def isiL (cs : List Nat) (t : Tg) : List D → Option Bool
  | [] => some false
  | x :: xs => (isi1 cs t x).bind fun a => (isiL cs t xs).map fun b => a || b
def knownT (cs : List Nat) : Tg → Bool
  | .b _ => true
  | .c c => cs.contains c
def isiD (cs : List Nat) : List D → Option D
  | [x, c] => (tgOf x).bind fun t => if knownT cs t then (isi1 cs t c).map D.bl else none
  | _ => none
def isiT (cs : List Nat) (x : D) (ts : List D) : Option D := if fit ts.length then (tgOf x).bind fun t => if knownT cs t then (isiL cs t ts).map D.bl else none else none
section
variable {B : Tb} {cs : List Nat}
theorem ty_of (k : KitOk B cs) {Z H : Hp} {x : V} {d : D} {t : Tg} (z : Same Z H) (r : Rp B Z x d) (e : tgOf d = some t) (hc : ∀ c, t = .c c → c ∈ cs) : TyX B.K H x (tgV B t) := by
  cases r with
  | non => cases e; exact .base .non
  | bl b => cases e; exact .base (.bl b)
  | int i => cases e; exact .base (.int i)
  | str l => cases e; exact .base (.str _)
  | tup h r =>
    cases e
    rcases seqT_mono z h with (h | ⟨o, h⟩) | ⟨o, its, n, h1, h2, _⟩
    · exact .base (.tup h)
    · exact .fTuple h
    · exact .kTuple h1 h2
  | lst h r => cases e; exact .base (.lst (z _ _ h))
  | dic0 h => cases e; exact .base (.dK (z _ _ h))
  | @obj a dx c vs ds h hl r => cases e; exact k.obj c (hc c rfl) H a dx _ (z _ _ h)
  | _ => cases e
theorem mem_of_contains {α : Type} [BEq α] [LawfulBEq α] {l : List α} {x : α} (h : l.contains x = true) : x ∈ l := List.contains_iff_mem.mp h
theorem isi1_of (k : KitOk B cs) {t : Tg} {x : D} {b : Bool} (h : isi1 cs t x = some b) : ∃ u, (∀ (Z : Hp) (v : V), Rp B Z v x → ClsV v u) ∧ PySem.W.kitOne B.K (tgV B t) u = some b ∧ ∀ c, t = .c c → c ∈ cs := by
  cases t with
  | b a =>
    cases x with
    | ty n =>
      obtain ⟨h1, rfl⟩ := ite_some (show (if asks.contains n && kinds.contains a then some (subB a n) else none) = some b from h)
      obtain ⟨h2, h3⟩ := Bool.and_eq_true_iff.mp h1
      refine ⟨.type n, fun Z v r => by cases r; exact .ty n, kit_ty ?_, fun c e => nomatch e⟩
      have := List.all_eq_true.mp (List.all_eq_true.mp kitB_sub a (mem_of_contains h3)) n (mem_of_contains h2)
      exact of_decide_eq_true this
    | cl d =>
      obtain ⟨h1, rfl⟩ := ite_some (show (if cs.contains d && kinds.contains a then some false else none) = some b from h)
      obtain ⟨h2, h3⟩ := Bool.and_eq_true_iff.mp h1
      exact ⟨.ref (B.cls d), fun Z v r => by cases r; exact .own _, k.it d (mem_of_contains h2) a (mem_of_contains h3), fun c e => nomatch e⟩
    | _ => cases h
  | c c =>
    cases x with
    | ty n =>
      obtain ⟨h1, rfl⟩ := ite_some (show (if cs.contains c && asks.contains n then some false else none) = some b from h)
      obtain ⟨h2, h3⟩ := Bool.and_eq_true_iff.mp h1
      exact ⟨.type n, fun Z v r => by cases r; exact .ty n, k.ti c (mem_of_contains h2) n (mem_of_contains h3), fun c' e => by cases e; exact mem_of_contains h2⟩
    | cl d =>
      obtain ⟨h1, rfl⟩ := ite_some (show (if cs.contains c && cs.contains d then some (decide (c = d)) else none) = some b from h)
      obtain ⟨h2, h3⟩ := Bool.and_eq_true_iff.mp h1
      exact ⟨.ref (B.cls d), fun Z v r => by cases r; exact .own _, k.cc c (mem_of_contains h2) d (mem_of_contains h3), fun c' e => by cases e; exact mem_of_contains h2⟩
    | _ => cases h
theorem isiL_of (k : KitOk B cs) {t : Tg} {Z : Hp} : ∀ {xs : List D} {vs : List V} {b : Bool}, Rps B Z vs xs → isiL cs t xs = some b → ∃ us, Paired ClsV vs us ∧ PySem.W.kitAny B.K (tgV B t) us = some b
  | [], _, b, .nil, h => by cases h; exact ⟨[], .nil, any_nil⟩
  | x :: xs, _, b, .cons hv r, h => by
    obtain ⟨c, e, h2⟩ := Option.bind_eq_some_iff.mp h
    obtain ⟨c2, e2, rfl⟩ := Option.map_eq_some_iff.mp h2
    obtain ⟨u, hu, ho, _⟩ := isi1_of k e
    obtain ⟨us, p, q⟩ := isiL_of k r e2
    cases c with
    | false => exact ⟨u :: us, .cons (hu Z _ hv) p, any_tl ho q⟩
    | true => exact ⟨u :: us, .cons (hu Z _ hv) p, any_hd ho⟩
theorem knownT_of {t : Tg} (h : knownT cs t = true) : ∀ c, t = .c c → c ∈ cs := fun c e => by
  subst e
  exact mem_of_contains h
theorem call_isiA {X : Cx} (hK : X.K = B.K) : CallR X (.builtin "isinstance") (rIsi B.K) := call_isiK' hK
theorem OpN.isi (k : KitOk B cs) : OpN B (rIsi B.K) (isiD cs) := ⟨fun {Z H xs ds d Q} z rs e q => by
  match ds, rs, e with
  | [x, c], .cons rx (.cons rc .nil), e =>
    obtain ⟨t, et, e⟩ := Option.bind_eq_some_iff.mp e
    cases kt : knownT cs t with
    | false => rw [kt] at e; cases e
    | true =>
      rw [kt] at e
      have ty := ty_of k z rx et (knownT_of kt)
      obtain ⟨b, eb, rfl⟩ := Option.map_eq_some_iff.mp (show (isi1 cs t c).map D.bl = some d from e)
      obtain ⟨u, hu, ho, _⟩ := isi1_of k eb
      exact ⟨_, _, _, u, b, rfl, hu Z _ rc, ty, ho, q _ Z H (Step.refl z) (.bl _)⟩⟩
def eIsiT (cs : List Nat) (fx : Ef) (fc : Af) : Ef := fun ρ s => (fx ρ s).bind fun x s1 => (fc ρ s1).bind fun ts s2 => opt (isiT cs x ts) s2
/-- isinstance(x, (A, B)) -/
theorem ve_isiT {u : Option (Addr × Value × Option Addr)} {X : Cx} {W : WX} {pos tpos p : Pos} {e : Expr} {es : List Expr} {kk : Nat} {fx : Ef} {fc : Af} (k : KitOk B cs) (hK : X.K = B.K) (hg : Gl X "isinstance") (hm : X.mg "isinstance" = none) (hv : bootBuiltins "isinstance" = some (.builtin "isinstance")) (hx : VE B u X W e fx) (hc : VA B u X W es fc)
    (hs1 : starEach [.Tuple es kk tpos] X.env = (false, eval (.Tuple es kk tpos) X.env) :: starEach [] X.env := by rfl)
    (he : starEach [e, .Tuple es kk tpos] X.env = (false, eval e X.env) :: starEach [.Tuple es kk tpos] X.env := by rfl) (hpl : (backTo pos (starEach [.Tuple es kk tpos] X.env)).any (·.1) = false := by rfl) :
    VE B u X W (.Call (.Name "isinstance" p) [e, .Tuple es kk tpos] [] pos) (eIsiT cs fx fc) := by
  intro G hG
  have h0 := hx G hG
  have h1 := hc G hG
  obtain ⟨rfl, rfl⟩ := hG
  refine pe_mono (pe_callB (call_isiTK (K := G.B.K) hK) hg hm hv (pa_cons h0 (pa_cons (pe_tup h1) pa_nil hs1) he) (by decide) (by decide) he hpl) fun σ H Q ⟨Z, ρ, s, I, h⟩ => ?_
  refine ⟨Z, ρ, s, I, h.bind.up (Same.refl Z) fun x s1 h1 v Z1 H1 I1 z1 rx => ?_⟩
  refine ⟨Z1, ρ, s1, I1, (ROk.bind h1).up z1 fun ts s2 h2 vs Z2 H2 I2 z2 rs => ?_⟩
  obtain ⟨d, e, q⟩ := h2.opt
  obtain ⟨hf, e⟩ : fit ts.length = true ∧ ((tgOf x).bind fun t => if knownT cs t then (isiL cs t ts).map D.bl else none) = some d := by
    unfold isiT at e
    cases hf : fit ts.length with
    | true => rw [hf] at e; exact ⟨rfl, e⟩
    | false => rw [hf] at e; cases e
  refine ⟨fit_le (by rw [rs.len]; exact hf), fun p n => ?_⟩
  obtain ⟨t, et, e⟩ := Option.bind_eq_some_iff.mp e
  cases kt : knownT cs t with
  | false => rw [kt] at e; cases e
  | true =>
    rw [kt] at e
    obtain ⟨b, eb, rfl⟩ := Option.map_eq_some_iff.mp (show (isiL cs t ts).map D.bl = some d from e)
    have st := Step.newH (.tup vs) I2.zh n
    have ty := ty_of k (I2.zh.trans st.hh) (rx.mono z2) et (knownT_of kt)
    obtain ⟨us, pr, ka⟩ := isiL_of k rs eb
    exact ⟨v, p, vs, _, us, b, rfl, upd_same, pr, ty, ka, q _ Z2 _ (I2.step st) (z1.trans z2) (.bl _)⟩
/-- classes as values -/
theorem ve_tyv {u : Option (Addr × Value × Option Addr)} {X : Cx} {W : WX} {x : Str} {n : String} {pos : Pos} (hg : Gl X x) (hm : X.mg x = none) (hv : bootBuiltins x = some (.type n)) (hn : x ≠ "__name__" := by decide) (hd : (x == ("__debug__" : Str)) = false := by decide) : VE B u X W (.Name x pos) (eC (.ty n)) :=
  ve_c (pe_bltn (v := .ty n) hg hm hv rfl hn hd) fun _ => .ty n
theorem ve_clv {u : Option (Addr × Value × Option Addr)} {X : Cx} {W : WX} {x : Str} (c : Nat) {pos : Pos} (hg : Gl X x) (hm : X.mg x = some (.ref (B.cls c))) (hd : (x == ("__debug__" : Str)) = false := by decide) : VE B u X W (.Name x pos) (eC (.cl c)) :=
  ve_c (pe_glob (v := .ref (B.cls c)) hg hm rfl hd) fun _ => .cl c
end
end Vv

/-! ## more statements -/
namespace Vv
section
variable {B : Tb} {u : Option (Addr × Value × Option Addr)} {X : Cx} {W : WX} {pos : Pos} {e a b c : Expr} {fa fb fc : Ef}
abbrev vSub := vI fun i j => some (i - j)
theorem Op2.sub : Op2 B (rI0 fun i j => .int (i - j)) vSub := Op2.int0
def eChain (g g' : D → D → Option D) (fa fb fc : Ef) : Ef := fun ρ s => (fa ρ s).bind fun x s1 => (fb ρ s1).bind fun y s2 => (opt (g x y) s2).bind fun z s2 => match z with
  | .bl true => (fc ρ s2).bind fun w s3 => opt (g' y w) s3
  | .bl false => .ok (.bl false) s2
  | _ => .bad
theorem chain_of {G : Gf} {r r' : R2} {g g' : D → D → Option D} (O : Op2 G.B r g) (O' : Op2 G.B r' g') {σ : L2.St} {H : Hp} {Q : VK} (h : tV G W (eChain g g' fa fb fc) σ H Q) : tChain r r' (tV G W fa) (tV G W fb) (tV G W fc) σ H Q := by
  obtain ⟨Z, ρ, s, I, h⟩ := h
  refine ⟨Z, ρ, s, I, h.bind.up (Same.refl Z) fun x s1 h1 v Z1 H1 I1 z1 rv => ?_⟩
  refine ⟨Z1, ρ, s1, I1, (ROk.bind h1).up z1 fun y s2 h2 w Z2 H2 I2 z2 rw' => ?_⟩
  obtain ⟨d, e, k⟩ := (ROk.bind h2).opt
  refine O.run I2.zh (rv.mono z2) rw' e fun z Z3 H3 t r3 => ?_
  have zz := z1.trans (z2.trans t.zz)
  cases d with
  | bl bb =>
    cases r3
    cases bb with
    | false => exact ⟨false, rfl, by rw [if_neg Bool.false_ne_true]; exact k _ Z3 H3 (I2.step t) zz (.bl false)⟩
    | true =>
      refine ⟨true, rfl, ?_⟩
      rw [if_pos rfl]
      refine ⟨Z3, ρ, s2, I2.step t, (ROk.bind (show ROk G W σ ρ Z ((fc ρ s2).bind _) _ from k)).up zz fun w3 s3 h3 v3 Z4 H4 I4 z4 rv4 => ?_⟩
      obtain ⟨d4, e4, k4⟩ := h3.opt
      exact O'.run I4.zh (rw'.mono (t.zz.trans z4)) rv4 e4 fun v5 Z5 H5 t5 r5 => k4 v5 Z5 H5 (I4.step t5) (zz.trans (z4.trans t5.zz)) r5
  | _ => exact k.elim
theorem vs_lc (i : Nat) {is : List Nat} {y : Str} {py spos : Pos} {elt tg iter : Expr} {ifs : List Expr} {scope : Scope} {own : List (Str × Nat)} {fi : Af} {gt : D → En → Option En} {ft : Tf} {fe : Ef} (hc : X.calm = true) (hN : X.N.Nodup) (hy : X.N[i]? = some y) (hyl : X.env.scope.names.lookup y = some .local)
    (hsw : swapsWith (.ListComp elt [⟨tg, iter, ifs, 0⟩] scope pos) (some (.Name y py)) spos.line X.env = pure true) (hi : VIt B u X W tg iter fi) (ok : BlkOk X.N X.env.scope scope own) (hs : own.map (·.2) = is)
    (hg : ∃ g, (∀ (s : Shared) (H : Hp) (C : Addr) (cl : List (Str × Addr)) (fp : List Addr), PG (X.blk s H scope (compEnvC scope cl C X.env) fp) tg g) ∧ VGok B is g gt)
    (ht : ∀ (s : Shared) (H : Hp) (C : Addr) (cl : List (Str × Addr)) (fp : List Addr), VTs B u (X.blk s H scope (compEnvC scope cl C X.env) fp) W0 ifs ft)
    (he : ∀ (s : Shared) (H : Hp) (C : Addr) (cl : List (Str × Addr)) (fp : List Addr), VE B u (X.blk s H scope (compEnvC scope cl C X.env) fp) W0 elt fe) (hx : ∀ x, foldedSetIterable iter X.env x = pure x := by intro _; rfl) :
    VS B u X W (.Assign [.Name y py] (.ListComp elt [⟨tg, iter, ifs, 0⟩] scope pos) spos) (sOwn i (lLc is fi gt ft fe)) := by
  intro G hG
  obtain ⟨rfl, rfl⟩ := hG
  exact ps_mono (ps_lcA hc hN hy hyl hsw hi ok hs hg ht he hx) fun D' σ H h => own_of h
theorem vs_lcF (i : Nat) {is : List Nat} {y : Str} {py spos : Pos} {elt tg iter : Expr} {ifs : List Expr} {scope : Scope} {own : List (Str × Nat)} {fi : Af} {gt : D → En → Option En} {ft : Tf} {fe : Ef} (hc : X.calm = true) (hN : X.N.Nodup) (hy : X.N[i]? = some y) (hyl : X.env.scope.names.lookup y = some .local)
    (hsw : swapsWith (.ListComp elt [⟨tg, iter, ifs, 0⟩] scope pos) (some (.Name y py)) spos.line X.env = pure true) (hi : VIt B u X W tg iter fi) (ok : BlkOk X.N X.env.scope scope own) (hs : own.map (·.2) = is)
    (hg : ∃ g, (∀ (s : Shared) (H : Hp) (C : Addr) (cl : List (Str × Addr)) (fp : List Addr), PG (X.blk s H scope (compEnvC scope cl C X.env) fp) tg g) ∧ VGok B is g gt)
    (ht : ∀ (s : Shared) (H : Hp) (C : Addr) (cl : List (Str × Addr)) (fp : List Addr), VTs B u (X.blk s H scope (compEnvC scope cl C X.env) fp) W0 ifs ft)
    (he : ∀ (s : Shared) (H : Hp) (C : Addr) (cl : List (Str × Addr)) (fp : List Addr), VE B u (X.blk s H scope (compEnvC scope cl C X.env) fp) W0 elt fe) (hx : ∀ x, foldedSetIterable iter X.env x = pure x := by intro _; rfl) :
    VS B u X W (.Assign [.Name y py] (.ListComp elt [⟨tg, iter, ifs, 0⟩] scope pos) spos) (sAsg (eOf (lLc is fi gt ft fe)) (gtN i)) := by
  intro G hG
  obtain ⟨rfl, rfl⟩ := hG
  refine ps_mono (ps_lcA hc hN hy hyl hsw hi ok hs hg ht he hx) fun D' σ H h => ?_
  obtain ⟨Z, ρ, s, I, h⟩ := asg_of (is := [i]) gtN_ok h
  exact vf_ve ⟨Z, ρ, s, I, h⟩
/-- a, b = x, y -/
def sPar (i j : Nat) (fa : Af) : Sf := fun ρ s => (fa ρ s).then ρ fun ds s1 => match ds with
  | [x, y] => .nx ((ρ.set i (.val x)).set j (.val y)) s1
  | _ => .bad
theorem vs_par (i j : Nat) {x y : Str} {fs : Af} {px py pt : Pos} {kt k2 pt2} (hc : X.calm = true) (hN : X.N.Nodup) (hi : X.N[i]? = some x) (hj : X.N[j]? = some y) (hij : i ≠ j)
    (hx : X.env.scope.names.lookup x = some .local) (hy : X.env.scope.names.lookup y = some .local) (ha : VA B u X W [a, b] fs)
    (hw : swappedStores [.Tuple [.Name x px, .Name y py] kt pt] (.Tuple [a, b] k2 pt2) X.env = pure (some [x, y]))
    (hs : swapsWithSole [.Tuple [.Name x px, .Name y py] kt pt] (.Tuple [a, b] k2 pt2) pos.line X.env = pure false := by rfl) :
    VS B u X W (.Assign [.Tuple [.Name x px, .Name y py] kt pt] (.Tuple [a, b] k2 pt2) pos) (sPar i j fs) := by
  intro G hG
  have h0 := ha G hG
  obtain ⟨rfl, rfl⟩ := hG
  refine ps_mono (ps_par (i := i) (j := j) hc hN hi hj hij hx hy h0 hw hs) fun D' σ H ⟨Z, ρ, s, I, h⟩ => ?_
  refine ⟨Z, ρ, s, I, (SOk.from h σ).up (Same.refl Z) fun ds s1 h1 vs Z1 H1 I1 z1 r => ?_⟩
  match ds, r, h1 with
  | [d1, d2], .cons r1 (.cons r2 .nil), h1 => exact ⟨_, _, rfl, h1 _ Z1 H1 ((I1.setVal r1).setVal r2) z1⟩
/-- x op= e, numbers and texts -/
def sAug (i : Nat) (g : D → D → Option D) (fe : Ef) : Sf := fun ρ s => match ρ[i]? with
  | some (.val x) => (fe ρ s).then ρ fun y s1 => match g x y with
    | some d => .nx (ρ.set i (.val d)) s1
    | none => .bad
  | _ => .bad
theorem vs_aug (i : Nat) {x : Str} {op : Operator} {r : TIp} {g : D → D → Option D} {fe : Ef} {pos' : Pos} (hN : X.N.Nodup) (hi : X.N[i]? = some x) (hx : Loc X.env.scope x) (ho : PIp X op r) (O : Op2 B r g) (he : VE B u X W e fe) (hf : X.fn x = true ∨ X.env.scope.names.lookup x = some .local := by first | exact .inl rfl | exact .inr rfl | assumption) :
    VS B u X W (.AugAssign (.Name x pos') op e pos) (sAug i g fe) := by
  intro G hG
  have h0 := he G hG
  obtain ⟨rfl, rfl⟩ := hG
  refine ps_mono (ps_aug (i := i) hN hi hx h0 ho hf) fun D' σ H ⟨Z, ρ, s, I, h⟩ => ?_
  cases e0 : ρ[i]? with
  | none => simp only [sAug, e0] at h; exact h.elim
  | some y =>
    cases y with
    | val d =>
      simp only [sAug, e0] at h
      obtain ⟨v, ev, rv⟩ := I.sl i _ e0
      refine ⟨v, ev, Z, ρ, s, I, (SOk.from h σ).up (Same.refl Z) fun d2 s1 h1 w Z1 H1 I1 z1 rw' => ?_⟩
      cases eg : g d d2 with
      | none => simp only [eg] at h1; exact h1.elim
      | some d3 =>
        simp only [eg] at h1
        exact O.run I1.zh (rv.mono z1) rw' eg fun v3 Z2 H2 t r3 => h1 _ Z2 H2 ((I1.step t).setVal r3) (z1.trans t.zz)
    | _ => simp only [sAug, e0] at h; exact h.elim
theorem Op2.ipA {f : Int → Int → Int} : Op2 B (ipI f) (vI fun i j => some (f i j)) := ⟨fun {Z H x y dx dy d Q} z rx ry e q => by
  cases rx with
  | int i =>
    cases ry with
    | int j => cases e; exact ⟨i, j, rfl, rfl, q _ Z H (Step.refl z) (.int _)⟩
    | _ => cases e
  | _ => cases e⟩
theorem runI_obj {n c nf : Nat} {g : Sf} (ds : List D) (d : D) (s : S) (h : runI n c nf g ds = .ok d s) : ∃ fs, d = .obj c fs ∧ fs.length = nf := by
  unfold runI resI at h
  cases eg : g (en0 n (.ob c [] :: ds.map .val)) none with
  | nx ρ s' =>
    rw [eg] at h
    cases e0 : (ρ[0]? : Option Sl) with
    | none => simp only [e0] at h; cases h
    | some y =>
      cases y with
      | ob c' fs =>
        simp only [e0] at h
        cases hc : (decide (c' = c) && decide (fs.length = nf)) with
        | false => rw [hc] at h; cases h
        | true =>
          rw [hc] at h
          cases h
          exact ⟨fs, rfl, of_decide_eq_true (Bool.and_eq_true_iff.mp hc).2⟩
      | _ => simp only [e0] at h; cases h
  | _ => rw [eg] at h; cases h
end
end Vv

/-! ## the law's own def -/
namespace Vv
theorem pss_any {B : Tb} {X : Cx} {W : WX} {ss : List Stmt} {g : Sf} (h : VSs B none X W ss g) : PSs X ss (fun D' σ H => ∃ G : Gf, (G.B = B ∧ G.ux = none) ∧ tVS G W g D' σ H) :=
  ⟨fun pins s σ H D' I ⟨G, hG, q⟩ => (h G hG).run pins s σ H D' I q⟩
theorem law_go {B : Tb} {W : WX} {Z H : Hp} {p l : Addr} {st : HS} {n : Nat} {g : Sf} {D' : Ends} {σ : L2.St} {s' : S} (hn : 2 ≤ n) (hl : σ.length = n) (h1 : σ[1]? = some (some (.ref p))) (hA : HandAt H p l st) (z : Same Z H) (zp : Z p = none) (zl : Z l = none)
    (h : resH (g (en0 n [.no, .hand]) (some st)) = .ok (.bl true) s') (q : ∀ H', D'.rt (.bl true) H') : ∃ G : Gf, (G.B = B ∧ G.ux = none) ∧ tVS G W g D' σ H := by
  refine ⟨⟨B, Z, H, some (p, l), none, [], none⟩, ⟨rfl, rfl⟩, Z, en0 n [.no, .hand], some st, ?_, ?_⟩
  · have at_ : ∀ {i : Nat} {x : Sl}, (en0 n [.no, .hand])[i]? = some x → x = .no ∨ (i = 1 ∧ x = .hand) := fun {i x} e => by
      rcases en0_at e with q | rfl
      · match i, q with
        | 0, q => cases q; exact .inl rfl
        | 1, q => cases q; exact .inr ⟨rfl, rfl⟩
      · exact .inl rfl
    refine ⟨?_, z, Same.refl Z, fun p o e => .inl e, fun b o e _ _ => e, fun q e => ?_, (fun _ e => nomatch e), (fun _ e => nomatch e), fun i x e => ?_, fun i j p _ oi => ?_⟩
    · unfold en0
      simp only [List.length_append, List.length_replicate, List.length_cons, List.length_nil]
      omega
    · cases e; exact ⟨st, rfl, hA, zp, zl, fun _ e => nomatch e⟩
    · rcases at_ e with rfl | ⟨rfl, rfl⟩
      · trivial
      · exact ⟨(p, l), rfl, h1⟩
    · exfalso
      unfold OwnAt at oi
      cases q : (en0 n [.no, .hand])[i]? with
      | none => rw [q] at oi; exact oi
      | some y =>
        rw [q] at oi
        rcases at_ q with rfl | ⟨_, rfl⟩ <;> exact oi
  · unfold resH at h
    cases eg : g (en0 n [.no, .hand]) (some st) with
    | rt d s2 =>
      rw [eg] at h
      cases h
      intro v σ' ρ Z' H' I z1 rv
      cases rv
      exact q H'
    | nx ρ' s2 => rw [eg] at h; cases h
    | exc c fs ρ' s2 => rw [eg] at h; cases h
    | bk ρ' s2 => rw [eg] at h; cases h
    | ct ρ' s2 => rw [eg] at h; cases h
    | bad => rw [eg] at h; cases h
end Vv

/-! ## more rules -/
namespace Vv
section
variable {B : Tb} {u : Option (Addr × Value × Option Addr)} {X : Cx} {W : WX} {pos : Pos} {e a b c : Expr} {fa fb fc : Ef}
theorem ve_chain {op op' : CmpOp} {r r' : R2} {g g' : D → D → Option D} (ho : OpR X (compareOp op) r) (ho' : OpR X (compareOp op') r') (O : Op2 B r g) (O' : Op2 B r' g') (ha : VE B u X W a fa) (hb : VE B u X W b fb) (hc : VE B u X W c fc)
    (hm : lastMarks [op, op'] [b, c] = false := by with_unfolding_all rfl) : VE B u X W (.Compare a [op, op'] [b, c] pos) (eChain g g' fa fb fc) := by
  intro G hG
  obtain ⟨rfl, rfl⟩ := hG
  exact pe_mono (pe_chain ho ho' (ha G ⟨rfl, rfl⟩) (hb G ⟨rfl, rfl⟩) (hc G ⟨rfl, rfl⟩) hm) fun _ _ _ h => chain_of O O' h
theorem vt_chain {op op' : CmpOp} {r r' : R2} {g g' : D → D → Option D} (ho : OpR X (compareOp op) r) (ho' : OpR X (compareOp op') r') (O : Op2 B r g) (O' : Op2 B r' g') (ha : VE B u X W a fa) (hb : VE B u X W b fb) (hc : VE B u X W c fc)
    (hm : lastMarks [op, op'] [b, c] = false := by with_unfolding_all rfl) : VT B u X W (.Compare a [op, op'] [b, c] pos) (tB2 (eChain g g' fa fb fc)) := by
  intro G hG
  obtain ⟨rfl, rfl⟩ := hG
  refine pt_mono (pt_chain ho ho' (ha G ⟨rfl, rfl⟩) (hb G ⟨rfl, rfl⟩) (hc G ⟨rfl, rfl⟩) hm) fun σ H Q ⟨Z, ρ, s, I, h⟩ => ?_
  refine chain_of (Q := fun x H' => ∃ k, x = .bl k ∧ Q k H') O O' ⟨Z, ρ, s, I, h.bind.up (Same.refl Z) fun x s1 h1 v Z1 H1 I1 z1 rv => ?_⟩
  obtain ⟨k, e, q⟩ := h1.opt
  exact ⟨k, (blD_of rv e).1, q Z1 H1 I1 z1⟩
theorem gtT_ok {K : PySem.W.Frag} {n : Nat} {is : List Nat} {g : TGs} {gt : List D → En → Option En} (hK : K = B.K) (o : VGsok B is g gt) : VGok B is (gTup K n g) (gtT n gt) := fun G Z H σ ρ s v d ρ' Q hB I r e k => by
  subst hK
  cases d with
  | tup ds =>
    obtain ⟨a, vs, rfl, ht, rs⟩ := rp_tup r
    by_cases hl : ds.length = n
    · rw [show gtT n gt (.tup ds) ρ = if ds.length = n then gt ds ρ else none from rfl, if_pos hl] at e
      exact ⟨a, vs, rfl, seqT_mono I.zh ht, rs.len.trans hl, o G Z H σ ρ s vs ds ρ' Q hB I rs e k⟩
    · rw [show gtT n gt (.tup ds) ρ = if ds.length = n then gt ds ρ else none from rfl, if_neg hl] at e
      cases e
  | _ => cases e
def chars (s : String) : List Nat := s.toList.map Char.toNat
theorem chars_of (s : String) : sOf (chars s) = Str.ofString s := by
  unfold sOf chars
  exact (Str.ofString_eq_toList s).symm
def strI : D → Option D
  | .int i => if decide (i.natAbs < 18446744073709551616) then some (.str (chars (toString i))) else none
  | _ => none
theorem call_strA : CallR X (.type "str") (fun xs H Q => ∃ i, xs = [.int i] ∧ i.natAbs.log2 < 1920 ∧ Q (.str (toString i)) H) := call_str_int
theorem OpN.strI : OpN B (fun xs H Q => ∃ i : Int, xs = [.int i] ∧ i.natAbs.log2 < 1920 ∧ Q (.str (toString i)) H) (g1 Vv.strI) := OpN.one g1_of fun {Z H x dx d Q} z rx e q => by
  cases rx with
  | int i =>
    obtain ⟨h, rfl⟩ := ite_some e
    have h1 := of_decide_eq_true h
    refine ⟨i, rfl, ?_, ?_⟩
    · exact Nat.lt_trans (PySem.Flt.log2_lt_of (k := 64) (by decide) h1) (by decide)
    · rw [← chars_of]
      exact q _ Z H (Step.refl z) (.str _)
  | _ => cases e
theorem cr_max1A (hK : X.K = B.K) (hc : X.calm = true) : CallR X (.builtin "max") (rMax B.K) := hK ▸ cr_max hc
theorem cr_min1A (hK : X.K = B.K) (hc : X.calm = true) : CallR X (.builtin "min") (rMin B.K) := hK ▸ cr_min hc
end
section
variable {P : Program} {w : World} {K : PySem.W.Frag} {mg : Str → Option Value} {base : Heap}
variable {x qual : Str} {st : Stmt} {f : Addr} {fd : FuncData} {N ps : List Str} {k n : Nat} {B : Tb} {g : Sf}
theorem fnPV (F : FunV K x qual st f fd) (Sc : FnScope N ps (defScope st)) (m : Nat) (hm : ps.length = m := by rfl) (hn : N.length = n := by rfl) (hmn : m ≤ n := by decide)
    (hb : ∀ (cdv : Value) (A : Around) (outer : List Env) (s : Shared) (H : Hp) (E : XK), Room k (A.deeper (envOfC qual (defScope st) s.heap.objs.size f cdv)) →
      VSs B none (cxOf (L2.CX P w) P w K mg base N qual (defScope st) f cdv A outer s H E) (fun cls d _ H => E cls d H) (defBody st) g) :
    FnOk P w K mg base (L2.CX P w) (k + 1) f fd ps (spP B m (runP n g)) := by
  refine F.okX Sc (fun vs H Q E ⟨Z, ds, z, hl, r, _⟩ => by rw [r.len, hl, hm]) fun cdv A outer s H vs Q E hr h => ?_
  obtain ⟨Z, ds, z, hl, r, h⟩ := h
  let G : Gf := ⟨B, Z, H, none, none, [], none⟩
  refine ⟨_, hb cdv A outer s H E hr G ⟨rfl, rfl⟩, Z, en0 n (ds.map .val), none, ?_, ?_⟩
  · refine ⟨?_, z, Same.refl Z, fun p o e => .inl e, fun b o e _ _ => e, (fun _ e => nomatch e), (fun _ e => nomatch e), (fun _ e => nomatch e), fun i x e => ?_, fun i j p _ oi => ?_⟩
    · have hv := r.len
      unfold en0 L2.start
      simp only [List.length_append, List.length_replicate, List.length_map]
      omega
    · rcases en0_at e with q | rfl
      · rw [List.getElem?_map] at q
        obtain ⟨d, e1, rfl⟩ := Option.map_eq_some_iff.mp q
        obtain ⟨v, e2, rv⟩ := r.at e1
        exact ⟨v, start_at e2, rv⟩
      · trivial
    · exfalso
      unfold OwnAt at oi
      cases q : (en0 n (ds.map Sl.val))[i]? with
      | none => rw [q] at oi; exact oi
      | some y =>
        rw [q] at oi
        rcases en0_at q with q2 | rfl
        · rw [List.getElem?_map] at q2
          obtain ⟨d, e1, rfl⟩ := Option.map_eq_some_iff.mp q2
          exact oi
        · exact oi
  · have stp : ∀ {σ ρ s' Z' H'}, VI G Z' H' σ ρ s' → Same Z Z' → Step Z H Z' H' := fun {σ ρ s' Z' H'} I z1 => ⟨fun b o e => I.keep b o e (fun _ e => nomatch e) (fun _ e => nomatch e), z1, I.zh, I.zn⟩
    unfold runP resP at h
    cases eg : g (en0 n (ds.map .val)) none with
    | nx ρ' s' => rw [eg] at h; exact fun σ Z' H' I z1 => h .non Z' H' (stp I z1) .non
    | rt d s' => rw [eg] at h; exact fun v σ ρ Z' H' I z1 rv => h v Z' H' (stp I z1) rv
    | exc c fs ρ' s' => rw [eg] at h; exact fun σ d vs Z' H' I z1 e l rs => h d vs Z' H' (stp I z1) e l rs
    | bk ρ' s' => rw [eg] at h; exact h.elim
    | ct ρ' s' => rw [eg] at h; exact h.elim
    | bad => rw [eg] at h; exact h.elim
theorem fnIV (F : FunV K x qual st f fd) (Sc : FnScope N ps (defScope st)) (m c : Nat) (hm : ps.length = m + 1 := by rfl) (hn : N.length = n := by rfl) (hmn : m + 1 ≤ n := by decide)
    (hb : ∀ (cdv : Value) (A : Around) (outer : List Env) (s : Shared) (H : Hp) (E : XK), Room k (A.deeper (envOfC qual (defScope st) s.heap.objs.size f cdv)) →
      VSs B none (cxOf (L2.CX P w) P w K mg base N qual (defScope st) f cdv A outer s H E) (fun cls d _ H => E cls d H) (defBody st) g) :
    FnOk P w K mg base (L2.CX P w) (k + 1) f fd ps (spI B m c (runI n c (B.fld c).length g)) := by
  refine F.okX Sc (fun vs H Q E ⟨Z, ds, a, l, ws, ev, z, hl, r, _⟩ => by rw [ev, List.length_cons, r.len, hl, hm]) fun cdv A outer s H vs Q E hr h => ?_
  obtain ⟨Z, ds, a, dx, ws, rfl, z, hl, r, ea, za, h⟩ := h
  let G : Gf := ⟨B, Z, H, none, some a, [], none⟩
  refine ⟨_, hb cdv A outer s H E hr G ⟨rfl, rfl⟩, Z, en0 n (.ob c [] :: ds.map .val), none, ?_, ?_⟩
  · have at_ : ∀ {i : Nat} {x : Sl}, (en0 n (.ob c [] :: ds.map Sl.val))[i]? = some x → x = .no ∨ (i = 0 ∧ x = .ob c []) ∨ ∃ d v, x = .val d ∧ (V.ref a :: ws)[i]? = some v ∧ Rp B Z v d := fun {i x} e => by
      rcases en0_at e with q | rfl
      · cases i with
        | zero => cases q; exact .inr (.inl ⟨rfl, rfl⟩)
        | succ i =>
          rw [List.getElem?_cons_succ, List.getElem?_map] at q
          obtain ⟨d, e1, rfl⟩ := Option.map_eq_some_iff.mp q
          obtain ⟨v, e2, rv⟩ := r.at e1
          exact .inr (.inr ⟨d, v, rfl, e2, rv⟩)
      · exact .inl rfl
    refine ⟨?_, z, Same.refl Z, fun p o e => .inl e, fun b o e _ _ => e, (fun _ e => nomatch e), fun x hx => ?_, (fun _ e => nomatch e), fun i x e => ?_, fun i j p nij oi oj => ?_⟩
    · have hv := r.len
      unfold en0 L2.start
      simp only [List.length_append, List.length_replicate, List.length_map, List.length_cons]
      omega
    · cases hx; rw [ea]; exact fun z => nomatch z
    · rcases at_ e with rfl | ⟨rfl, rfl⟩ | ⟨d, v, rfl, e2, rv⟩
      · trivial
      · exact ⟨a, dx, [], start_at (v := V.ref a) rfl, rfl, by rw [List.zip_nil_right]; exact ea, ⟨za, (fun _ e => nomatch e), (fun _ e => nomatch e)⟩, .nil⟩
      · exact ⟨v, start_at e2, rv⟩
    · exfalso
      have zero : ∀ i, OwnAt (en0 n (.ob c [] :: ds.map Sl.val)) i → i = 0 := fun i oi => by
        unfold OwnAt at oi
        cases q : (en0 n (.ob c [] :: ds.map Sl.val))[i]? with
        | none => rw [q] at oi; exact oi.elim
        | some y =>
          rw [q] at oi
          rcases at_ q with rfl | ⟨e, rfl⟩ | ⟨d, v, rfl, _⟩
          · exact oi.elim
          · exact e
          · exact oi.elim
      exact nij ((zero i oi).trans (zero j oj).symm)
  · have stp : ∀ {σ ρ s' Z' H'}, VI G Z' H' σ ρ s' → Same Z Z' → StepH a Z H Z' H' := fun {σ ρ s' Z' H'} I z1 =>
      ⟨fun b o n e => I.keep b o e (fun _ e => nomatch e) (fun x hx => by cases hx; exact n), z1, I.zh, I.zn⟩
    unfold runI at h
    cases eg : g (en0 n (.ob c [] :: ds.map .val)) none with
    | nx ρ' s' =>
      rw [eg] at h
      intro σ Z' H' I z1
      unfold resI at h
      cases e0 : ρ'[0]? with
      | none => simp only [e0] at h
      | some y =>
        cases y with
        | ob c' fs =>
          simp only [e0] at h
          cases hc : (decide (c' = c) && decide (fs.length = (B.fld c).length)) with
          | false => rw [hc] at h; exact h.elim
          | true =>
            rw [hc] at h
            obtain ⟨h1, h2⟩ := Bool.and_eq_true_iff.mp hc
            obtain rfl := of_decide_eq_true h1
            have h2 := of_decide_eq_true h2
            obtain ⟨x, dx', vs, ex, hx, hH, hf, rs⟩ := I.sl 0 _ e0
            cases hx
            exact h Z' H' fs vs dx' rfl (stp I z1) hf.z hH (by rw [rs.len, h2]) rs
        | _ => simp only [e0] at h
    | rt d s' => rw [eg] at h; exact h.elim
    | exc c fs ρ' s' => rw [eg] at h; exact fun σ d vs Z' H' I z1 e l rs => h d vs Z' H' (stp I z1) e l rs
    | bk ρ' s' => rw [eg] at h; exact h.elim
    | ct ρ' s' => rw [eg] at h; exact h.elim
    | bad => rw [eg] at h; exact h.elim
end
end Vv

/-! ## text * int, list * int -/
namespace Vv
theorem foldl_repN (l : List Nat) : ∀ (k : Nat) (acc : List Nat), List.foldl (fun x1 x2 => x1 ++ x2) acc.toArray (List.replicate k l.toArray) = (acc ++ (List.replicate k l).flatten).toArray
  | 0, acc => by simp
  | k + 1, acc => by
    have e : acc.toArray ++ l.toArray = (acc ++ l).toArray := by simp
    have e2 : (acc ++ l) ++ (List.replicate k l).flatten = acc ++ (List.replicate (k + 1) l).flatten := by
      rw [List.replicate_succ, List.flatten_cons, List.append_assoc]
    rw [← e2, ← foldl_repN l k (acc ++ l), ← e, List.replicate_succ, List.foldl_cons]
theorem flat_len (l : List Nat) : ∀ k : Nat, (List.replicate k l).flatten.length = k * l.length
  | 0 => by simp
  | k + 1 => by rw [List.replicate_succ, List.flatten_cons, List.length_append, flat_len l k, Nat.add_mul, Nat.one_mul, Nat.add_comm]
section
variable {X : Cx} {B : Tb}
def rRepS2 : R2 := fun x y H Q => ∃ (l : List Nat) (k : Int), x = .str (sOf l) ∧ y = .int k ∧ -1000 ≤ k ∧ k ≤ 1000 ∧ l.length ≤ 1000 ∧ Q (.str (sOf (List.replicate k.toNat l).flatten)) H
theorem op_repS2 : OpR X (binaryOp .Mult) rRepS2 := by
  intro pins s σ H x y v u Q I rx ry h
  obtain ⟨l, k, rfl, rfl, h1, h2, hl, q⟩ := h
  obtain ⟨t, rfl⟩ := rx
  obtain ⟨t2, rfl⟩ := ry
  have hlen : (sOf l).length = l.length := by show l.toArray.size = _; simp
  have big : l.length * k.toNat ≤ 1000000 := Nat.le_trans (Nat.mul_le_mul hl (show k.toNat ≤ 1000 by omega)) (by decide)
  have e0 : ⟨(List.replicate k.toNat (sOf l).cps).foldl (· ++ ·) #[]⟩ = sOf (List.replicate k.toNat l).flatten := by
    have := foldl_repN l k.toNat []
    rw [List.nil_append] at this
    exact congrArg Str.mk this
  refine PySem.P.mul_str (by rw [decide_eq_false (by omega), decide_eq_false (by omega)]; rfl) (fun a b => ?_) (fun a b => ?_) ?_
  · rw [hlen]
    have hk : 0 < k := by omega
    intro hgt
    have : (1000 : Int) ≤ (2 ^ 63 - 1) / k := by
      refine (Int.le_ediv_iff_mul_le hk).mpr ?_
      omega
    omega
  · rw [hlen]
    exact PyProof.Rows.short24 (by omega)
  · by_cases c1 : k < 1
    · rw [if_pos c1]
      refine ⟨by decide, .str _, H, I.tok _, ⟨_, rfl⟩, ?_⟩
      rw [show k.toNat = 0 by omega] at q
      exact q
    · rw [if_neg c1]
      by_cases c2 : (k == 1 || (sOf l).length == 0) = true
      · rw [if_pos c2]
        have e1 : (List.replicate k.toNat l).flatten = l := by
          rcases Bool.or_eq_true_iff.mp c2 with c | c
          · have : k = 1 := by simpa using c
            subst this
            simp
          · have : l.length = 0 := by rw [← hlen]; simpa using c
            have : l = [] := List.length_eq_zero_iff.mp this
            subst this
            simp
        rw [e1] at q
        exact ⟨.str _, H, I, ⟨_, rfl⟩, q⟩
      · rw [if_neg c2, e0]
        refine ⟨?_, .str _, H, I.tok _, ⟨_, rfl⟩, q⟩
        show (List.replicate k.toNat l).flatten.toArray.size ≤ sizeLine
        rw [List.size_toArray, flat_len, Nat.mul_comm, sizeLine_eq]
        omega
def vRepS : D → D → Option D
  | .str l, .int k => if decide (-1000 ≤ k) && (decide (k ≤ 1000) && decide (l.length ≤ 1000)) then some (.str (List.replicate k.toNat l).flatten) else none
  | _, _ => none
theorem Op2.repS : Op2 B rRepS2 vRepS := ⟨fun {Z H x y dx dy d Q} z rx ry e q => by
  cases rx with
  | str l =>
    cases ry with
    | int k =>
      obtain ⟨h, rfl⟩ := ite_some e
      simp only [Bool.and_eq_true, decide_eq_true_eq] at h
      exact ⟨l, k, rfl, rfl, h.1, h.2.1, h.2.2, q _ Z H (Step.refl z) (.str _)⟩
    | _ => cases e
  | _ => cases e⟩
def vRepL : D → D → Option D
  | .lst l, .int k => if decide (-1000 ≤ k) && (decide (k ≤ 1000) && decide (l.length * k.toNat ≤ 100000)) then some (.lst (List.replicate k.toNat l).flatten) else none
  | _, _ => none
theorem rps_rep {Z : Hp} {vs : List V} {ds : List D} (r : Rps B Z vs ds) : ∀ k : Nat, Rps B Z (List.replicate k vs).flatten (List.replicate k ds).flatten
  | 0 => .nil
  | k + 1 => by
    rw [List.replicate_succ, List.flatten_cons, List.replicate_succ, List.flatten_cons]
    exact r.app (rps_rep r k)
theorem Op2.repL : Op2 B rRep vRepL := ⟨fun {Z H x y dx dy d Q} z rx ry e q => by
  cases rx with
  | @lst a0 vs ds h r =>
    cases ry with
    | int k =>
      obtain ⟨hh, rfl⟩ := ite_some e
      simp only [Bool.and_eq_true, decide_eq_true_eq] at hh
      refine ⟨_, k, _, rfl, rfl, z _ _ h, by omega, by omega, ?_, fun p hp => ?_⟩
      · rw [r.len, sizeLine_eq]; omega
      · have t := Step.new (.lst (List.replicate k.toNat vs).flatten) z hp
        exact q _ _ _ t (.lst upd_same ((rps_rep r _).mono t.zz))
    | _ => cases e
  | _ => cases e⟩
end
end Vv

/-! ## sorted -/
namespace Vv
def insL {α : Type} (le : α → α → Bool) (x : α) : List α → List α
  | [] => [x]
  | y :: r => if le x y then x :: y :: r else y :: insL le x r
def isort {α : Type} (le : α → α → Bool) : List α → List α
  | [] => []
  | x :: r => insL le x (isort le r)
section
variable {α : Type} {le : α → α → Bool}
theorem insL_perm (x : α) : ∀ l : List α, (insL le x l).Perm (x :: l)
  | [] => List.Perm.refl _
  | y :: r => by
    unfold insL
    split
    · exact List.Perm.refl _
    · exact ((insL_perm x r).cons y).trans (List.Perm.swap x y r)
theorem isort_perm : ∀ l : List α, (isort le l).Perm l
  | [] => List.Perm.refl _
  | x :: r => (insL_perm x (isort le r)).trans ((isort_perm r).cons x)
theorem insL_srt (tr : ∀ a b c : α, le a b = true → le b c = true → le a c = true) (to : ∀ a b : α, le a b = true ∨ le b a = true) (x : α) : ∀ l : List α, l.Pairwise (fun a b => le a b = true) → (insL le x l).Pairwise (fun a b => le a b = true)
  | [], _ => by unfold insL; exact List.pairwise_singleton _ _
  | y :: r, h => by
    have h2 := List.pairwise_cons.mp h
    unfold insL
    split
    · rename_i e
      refine List.pairwise_cons.mpr ⟨fun z hz => ?_, h⟩
      rcases List.mem_cons.mp hz with q | q
      · rw [q]; exact e
      · exact tr _ _ _ e (h2.1 z q)
    · rename_i e
      refine List.pairwise_cons.mpr ⟨fun z hz => ?_, insL_srt tr to x r h2.2⟩
      rcases List.mem_cons.mp ((insL_perm x r).mem_iff.mp hz) with q | q
      · rw [q]; exact (to x y).resolve_left e
      · exact h2.1 z q
theorem isort_srt (tr : ∀ a b c : α, le a b = true → le b c = true → le a c = true) (to : ∀ a b : α, le a b = true ∨ le b a = true) : ∀ l : List α, (isort le l).Pairwise (fun a b => le a b = true)
  | [] => List.Pairwise.nil
  | x :: r => insL_srt tr to x _ (isort_srt tr to r)
/-- two sorted lists of the same things -/
theorem srt_eq (an : ∀ a b : α, le a b = true → le b a = true → a = b) {l m : List α} (hl : l.Pairwise (fun a b => le a b = true)) (hm : m.Pairwise (fun a b => le a b = true)) (p : l.Perm m) : l = m :=
  List.Perm.eq_of_pairwise (le := fun a b => le a b = true) (fun a b _ _ h1 h2 => an a b h1 h2) hl hm p
theorem isort_eq (tr : ∀ a b c : α, le a b = true → le b c = true → le a c = true) (to : ∀ a b : α, le a b = true ∨ le b a = true) (an : ∀ a b : α, le a b = true → le b a = true → a = b) (l : List α) : l.mergeSort le = isort le l :=
  srt_eq an (List.pairwise_mergeSort tr (fun a b => by rw [Bool.or_eq_true]; exact to a b) l) (isort_srt tr to l) ((List.mergeSort_perm l le).trans (isort_perm l).symm)
end
/-- the rule: a list of data -/
def rSortA (K : PySem.W.Frag) (γ : Type) (enc : γ → PyData) : List V → Hp → VK → Prop := fun vs H Q => ∃ (a : Addr) (bs : List (V × γ)), vs = [V.ref a] ∧ SqL K H a (bs.map (·.1)) ∧ (∀ b ∈ bs, Dp K H b.1 (enc b.2)) ∧ PySem.W.AllAlike (bs.map fun b => enc b.2) ∧ PySem.W.Sortable (bs.map fun b => enc b.2) ∧
  (∀ b ∈ bs, (enc b.2).depth ≤ 9) ∧ ∀ p, H p = none → Q (.ref p) (upd H p (.lst ((bs.mergeSort (PySem.W.dataLe false fun b => enc b.2)).map (·.1))))
section
variable {X : Cx}
theorem each_zip {γ : Type} {R : Value → V × γ → Prop} : ∀ {bs : List (V × γ)} {its : List Value}, Vals (bs.map (·.1)) its → (∀ b ∈ bs, ∀ u, RelV b.1 u → R u b) → PySem.W.EachIs R its bs
  | [], _, r, _ => by cases r; exact .nil
  | b :: bs, _, r, h => by
    cases r with
    | cons r1 r2 => exact .cons (h b List.mem_cons_self _ r1) (each_zip r2 fun c hc => h c (List.mem_cons_of_mem _ hc))
theorem each_vals {γ : Type} : ∀ {bs : List (V × γ)} {its : List Value}, PySem.W.EachIs (fun u b => RelV b.1 u) its bs → Vals (bs.map (·.1)) its
  | _, _, .nil => .nil
  | _, _, .cons r1 r2 => .cons r1 (each_vals r2)
theorem cr_sortG {γ : Type} {enc : γ → PyData} (hu : X.A.units + 64 < cLine) : CallR X (.builtin "sorted") (rSortA X.K γ enc) := by
  intro pins s σ H vs us Q I r h
  obtain ⟨a, bs, rfl, hs, hd, hal, hsb, hdp, q⟩ := h
  obtain ⟨its, rv, hl, hz⟩ := I.list hs
  obtain rfl := Vals.ref1 r
  have hb : bs.length ≤ sizeLine := by rw [List.length_map] at hz; exact hz
  refine PySem.W.sorted_data (R := fun u b => RelV b.1 u) (enc := fun b : V × γ => enc b.2) hl.isList (each_zip rv fun _ _ _ r => r) (each_zip rv fun b hb u ru => Dp.reads I (enc b.2) b.1 u (hd b hb) ru) hal hsb hb (fun b hb => ?_) fun out ho eo => ?_
  · have := hdp b hb
    omega
  · obtain ⟨ep, he'⟩ := PyProof.Rows.sortedAll_at s.heap its out.toArray
    have hlen : ((bs.mergeSort (PySem.W.dataLe false fun b => enc b.2)).map (·.1)).length ≤ sizeLine := by
      rw [List.length_map, List.length_mergeSort]
      exact hb
    exact ⟨.ref _, upd H (s.heap.objs.size + 1) (.lst ((bs.mergeSort (PySem.W.dataLe false fun b => enc b.2)).map (·.1))), I.laid (t' := s.toks) (fun _ _ => PyProof.Rows.sortedAll_old) (Nat.le_succ _) ⟨hlen, out, ep, each_vals eo, he'⟩, rfl, q _ (I.hok.fresh (Nat.le_succ _))⟩
end
abbrev eI : Int → PyData := fun i => .int i
abbrev eP : Int × Int → PyData := fun p => .tuple [.int p.1, .int p.2]
abbrev eS : List Nat → PyData := fun l => .str (sOf l)
def leI (a b : Int) : Bool := decide (a ≤ b)
def leP (a b : Int × Int) : Bool := decide (a.1 < b.1 ∨ (a.1 = b.1 ∧ a.2 ≤ b.2))
def leS (a b : List Nat) : Bool := decide (a ≤ b)
def dPair : D → Option (Int × Int)
  | .tup [.int i, .int j] => some (i, j)
  | _ => none
def dOne : D → Option Int
  | .int i => some i
  | _ => none
def dTxt : D → Option (List Nat)
  | .str l => some l
  | _ => none
def allD2 {γ : Type} (f : D → Option γ) : List D → Option (List γ)
  | [] => some []
  | d :: r => (f d).bind fun x => (allD2 f r).map fun xs => x :: xs
def srt {γ : Type} (f : D → Option γ) (le : γ → γ → Bool) (g : γ → D) (ds : List D) : Option D := (allD2 f ds).map fun xs => .lst ((isort le xs).map g)
def sortD : D → Option D
  | .lst ds => if fit ds.length then ((srt dOne leI .int ds).or (srt dPair leP (fun p => .tup [.int p.1, .int p.2]) ds)).or (srt dTxt leS .str ds) else none
  | _ => none
def rSortD (K : PySem.W.Frag) : List V → Hp → VK → Prop := fun vs H Q => (rSortA K Int eI vs H Q ∨ rSortA K (Int × Int) eP vs H Q) ∨ rSortA K (List Nat) eS vs H Q
theorem cr_sortD {X : Cx} {B : Tb} (hK : X.K = B.K) (hu : X.A.units + 64 < cLine) : CallR X (.builtin "sorted") (rSortD B.K) := by
  rw [← hK]
  exact CallR.or (CallR.or (cr_sortG hu) (cr_sortG hu)) (cr_sortG hu)
section
variable {B : Tb}
theorem srt_of {γ : Type} {f : D → Option γ} {le : γ → γ → Bool} {g : γ → D} {enc : γ → PyData} (hle : (PySem.W.dataLe false fun b : V × γ => enc b.2) = fun a b => le a.2 b.2) (tr : ∀ a b c : γ, le a b = true → le b c = true → le a c = true) (to : ∀ a b : γ, le a b = true ∨ le b a = true) (an : ∀ a b : γ, le a b = true → le b a = true → a = b)
    (hal : ∀ bs : List (V × γ), PySem.W.AllAlike (bs.map fun b => enc b.2)) (hsb : ∀ bs : List (V × γ), PySem.W.Sortable (bs.map fun b => enc b.2)) (hdp : ∀ x, (enc x).depth ≤ 9) (hf : ∀ d x, f d = some x → d = g x) (hd : ∀ Z v x, Rp B Z v (g x) → Dp B.K Z v (enc x))
    {Z H : Hp} {a : Addr} {vs : List V} {ds : List D} {d : D} {Q : VK} (z : Same Z H) (ha : Z a = some (.lst vs)) (r : Rps B Z vs ds) (e : srt f le g ds = some d) (q : ∀ v Z' H', Step Z H Z' H' → Rp B Z' v d → Q v H') : rSortA B.K γ enc [.ref a] H Q := by
  obtain ⟨xs, e1, rfl⟩ := Option.map_eq_some_iff.mp e
  obtain ⟨bs, b1, b2, b3⟩ : ∃ bs : List (V × γ), bs.map (·.1) = vs ∧ bs.map (·.2) = xs ∧ ∀ b ∈ bs, Rp B Z b.1 (g b.2) := by
    clear q e ha
    induction vs generalizing ds xs with
    | nil => cases r; cases e1; exact ⟨[], rfl, rfl, fun _ h => nomatch h⟩
    | cons v vs ih =>
      cases r with
      | @cons _ d0 _ ds0 h r =>
        obtain ⟨x, ex, e2⟩ := Option.bind_eq_some_iff.mp (show (f d0).bind (fun x => (allD2 f ds0).map fun xs => x :: xs) = some xs from e1)
        obtain ⟨ys, ey, rfl⟩ := Option.map_eq_some_iff.mp e2
        obtain ⟨bs, c1, c2, c3⟩ := ih r _ ey
        refine ⟨(v, x) :: bs, by rw [List.map_cons, c1], by rw [List.map_cons, c2], fun b hb => ?_⟩
        rcases List.mem_cons.mp hb with h1 | h1
        · rw [h1, ← hf d0 x ex]; exact h
        · exact c3 b h1
  refine ⟨a, bs, rfl, by rw [b1]; exact .inl (.inl (z _ _ ha)), fun b hb => ?_, hal bs, hsb bs, fun b _ => hdp b.2, fun p hp => ?_⟩
  · exact dp_up z _ _ (hd Z b.1 b.2 (b3 b hb))
  · have t := Step.new (.lst ((bs.mergeSort (PySem.W.dataLe false fun b => enc b.2)).map (·.1))) z hp
    refine q _ _ _ t (.lst upd_same ?_)
    have hm : (bs.mergeSort (PySem.W.dataLe false fun b : V × γ => enc b.2)).map (·.2) = isort le xs := by
      rw [hle, List.map_mergeSort (s := le) (f := fun b : V × γ => b.2) (fun _ _ _ _ => rfl), b2, isort_eq tr to an]
    rw [← hm, List.map_map]
    have : ∀ cs : List (V × γ), (∀ b ∈ cs, Rp B Z b.1 (g b.2)) → Rps B (upd Z p (.lst ((bs.mergeSort (PySem.W.dataLe false fun b => enc b.2)).map (·.1)))) (cs.map (·.1)) (cs.map (g ∘ fun b => b.2)) := fun cs => by
      induction cs with
      | nil => exact fun _ => .nil
      | cons c cs ih => exact fun h => .cons ((h c List.mem_cons_self).mono t.zz) (ih fun b hb => h b (List.mem_cons_of_mem _ hb))
    exact this _ fun b hb => b3 b ((List.mergeSort_perm bs _).mem_iff.mp hb)
theorem ite_some' {α : Type} {c : Bool} {x : Option α} {y : α} (h : (if c then x else none) = some y) : c = true ∧ x = some y := by
  cases c with
  | true => exact ⟨rfl, h⟩
  | false => cases h
theorem OpN.sort : OpN B (rSortD B.K) (g1 sortD) := OpN.one g1_of fun {Z H x dx d Q} z rx e q => by
  cases rx with
  | @lst a vs ds h r =>
    obtain ⟨hf, e⟩ := ite_some' e
    rcases Option.or_eq_some_iff.mp e with e | ⟨_, e⟩
    · rcases Option.or_eq_some_iff.mp e with e | ⟨_, e⟩
      · refine .inl (.inl (srt_of (g := .int) (PySem.W.dataLe_int fun b : V × Int => b.2) (fun a b c h1 h2 => ?_) (fun a b => ?_) (fun a b h1 h2 => ?_) (fun bs => PySem.W.AllAlike.of fun _ _ => rfl) (fun bs => PySem.W.Sortable.others fun _ => ⟨(by intro h; cases h), (by intro _ h; cases h)⟩) (fun _ => Nat.zero_le _) (fun d x h => ?_) (fun Z v x r => ?_) z h r e q))
        · exact decide_eq_true (Int.le_trans (of_decide_eq_true h1) (of_decide_eq_true h2))
        · exact (Int.le_total a b).imp decide_eq_true decide_eq_true
        · exact Int.le_antisymm (of_decide_eq_true h1) (of_decide_eq_true h2)
        · cases d <;> cases h; rfl
        · cases r; exact .int _
      · refine .inl (.inr (srt_of (g := fun p => .tup [.int p.1, .int p.2]) (PySem.W.dataLe_ii (fun b : V × Int × Int => b.2.1) fun b => b.2.2) (fun a b c h1 h2 => ?_) (fun a b => ?_) (fun a b h1 h2 => ?_) (fun bs => PySem.W.AllAlike.of fun _ _ => by simp [PySem.W.alike, PySem.W.alikeAll]) (fun bs => PySem.W.Sortable.tuples fun _ => ⟨_, _, rfl⟩) (fun _ => by simp [PyData.depth, PyData.depthAll]) (fun d x h => ?_) (fun Z v x r => ?_) z h r e q))
        · have h1 := of_decide_eq_true h1
          have h2 := of_decide_eq_true h2
          exact decide_eq_true (by omega)
        · unfold leP
          simp only [decide_eq_true_eq]
          omega
        · have h1 := of_decide_eq_true h1
          have h2 := of_decide_eq_true h2
          exact Prod.ext (by omega) (by omega)
        · unfold dPair at h
          split at h
          · cases h; rfl
          · cases h
        · obtain ⟨a, vs, rfl, ht, rs⟩ := rp_tup r
          cases rs with
          | cons r1 r2 =>
            cases r2 with
            | cons r2 r3 =>
              cases r3
              cases r1
              cases r2
              exact .tup ht (.cons (.int _) (.cons (.int _) .nil))
    · refine .inr (srt_of (g := .str) ((PySem.W.dataLe_str fun b : V × List Nat => sOf b.2).trans (by funext a b; simp only [sOf, List.toList_toArray]; rfl)) (fun a b c h1 h2 => ?_) (fun a b => ?_) (fun a b h1 h2 => ?_) (fun bs => PySem.W.AllAlike.of fun _ _ => rfl) (fun bs => PySem.W.Sortable.others fun _ => ⟨(by intro h; cases h), (by intro _ h; cases h)⟩) (fun _ => Nat.zero_le _) (fun d x h => ?_) (fun Z v x r => ?_) z h r e q)
      · exact decide_eq_true (List.le_trans (of_decide_eq_true h1) (of_decide_eq_true h2))
      · exact (List.le_total a b).imp decide_eq_true decide_eq_true
      · exact List.le_antisymm (of_decide_eq_true h1) (of_decide_eq_true h2)
      · cases d <;> cases h; rfl
      · cases r; exact .str _
  | _ => cases e
end
end Vv

/-! ## several except clauses, each with a name -/
namespace Vv
/-- a clause: what it catches, its name's slot, its suite -/
abbrev Cl := Value × Nat × (Addr → Value → Option Addr → TS)
/-- the ends of a suite behind which the name in slot i is unbound -/
def gone (i : Nat) (D' : Ends) : Ends := { nx := fun σ H => D'.nx (σ.set i none) H, rt := D'.rt, bk := fun σ H => D'.bk (σ.set i none) H, ct := fun σ H => D'.ct (σ.set i none) H }
def wMs (K : PySem.W.Frag) (Wo : WX) (D' : Ends) : List Cl → WX
  | [] => Wo
  | c :: r => wAs K c.1 c.2.1 c.2.2 (wMs K Wo D' r) D'
inductive Hs (X : Cx) : List ExceptHandler → List Cl → Prop
  | nil : Hs X [] []
  | as {x n : Str} {c : Value} {i : Nat} {ts : Addr → Value → Option Addr → TS} {b0 : Stmt} {su : List Stmt} {np ps : Pos} {hs : List ExceptHandler} {l : List Cl} (nm : Names X x c) (hi : X.N[i]? = some n) (lc : X.env.kindOf n = some .local)
      (sk : ∀ (a : Addr) (oe : Obj) (cls : Value) (d : Option Addr) (pn : List (Addr × Obj)), Zc cls d oe → (∃ vs, oe.data = .fields vs) → PSs (X.suite a ((a, oe) :: pn)) (b0 :: su) (ts a cls d)) (r : Hs X hs l) :
      Hs X (.ExceptHandler (some (.Name x np)) (some n) (b0 :: su) ps :: hs) ((c, i, ts) :: l)
section
variable {X : Cx} {body : List Stmt} {h0 : ExceptHandler} {hs : List ExceptHandler} {l : List Cl} {pos : Pos} {tb : WX → TS} {Wo : WX}
theorem ps_try_ms (st : X.stack = X.env :: X.outer) (fr : X.env.frame = some X.env.locals) (nd : X.N.Nodup) (tk : Takes X Wo)
    (hb : ∀ (W : WX) (pn : List (Addr × Obj)) (xe : Value → Shared → Prop), Takes (X.tr pn xe) W → PassesOwn (model X.prog X.w) X.A X.env xe → PSs (X.tr pn xe) body (tb W))
    (hh : Hs X (h0 :: hs) l) : PS X (.Try body (h0 :: hs) [] [] pos) (fun D' σ H => tb (wMs X.K Wo D' l) D' σ H) := by
  refine ⟨fun pins s σ H D' I h => ?_⟩
  have ok := I.ok
  have frames : X.A.frames = some (X.env :: X.outer) := ok.frames.trans (congrArg some st)
  refine wpAny_Try_except (wpAny_mono ((hb (wMs X.K Wo D' l) (X.pn ++ pins) (fun e s₁ => wpAny (model X.prog X.w) X.A (noteFrame e X.env) (fun _ s₂ => wpAny (model X.prog X.w) X.A (setFlight e none) (fun _ s₃ =>
    wpAny (model X.prog X.w) X.A (handleBy e X.env (h0 :: hs)) (SP X pins D') X.xe s₃) X.xe s₂) X.xe s₁) (fun u s' xx => ?_) PassesOwn.looking).run [] s σ H D' (I.toTry _) h) (fun f s1 q => ?_) fun e s1 q => q)
  rotate_left
  · cases f with
    | next => obtain ⟨σ1, H1, J, q⟩ := q; exact wpAny_execs_nil ⟨σ1, H1, J.ofTry ok, q⟩
    | brk => obtain ⟨σ1, H1, J, q⟩ := q; exact ⟨σ1, H1, J.ofTry ok, q⟩
    | cont => obtain ⟨σ1, H1, J, q⟩ := q; exact ⟨σ1, H1, J.ofTry ok, q⟩
    | ret u => obtain ⟨v, σ1, H1, J, r, q⟩ := q; exact ⟨v, σ1, H1, J.ofTry ok, r, q⟩
  obtain ⟨a, B, sI, p1, σ1, H1, cls, d, rfl, J0, nb, up, sky, na, os, ag, w⟩ := xx
  have J : Inv X pins σ1 H1 sI := J0.ofTry ok
  show wpAny (model X.prog X.w) X.A (noteFrame (.ref a) X.env) _ _ _
  refine Sky.land Zc.steady frames fr (st ▸ sky) fun h3 fl up3 => ?_
  have J3 : Inv X pins σ1 H1 { s' with heap := h3 } := J.landed nb fl.1 (up.trans up3) os ag
  obtain ⟨oe, vs, he, hz, hd⟩ := fl.there
  have out : a ∉ frs (X.env :: X.outer) := fun hm => by
    obtain ⟨_, o, e, nf⟩ := fl.2.2.1.mem hm
    rw [he] at e
    cases e
    exact nf _ hd
  have nL : a ≠ X.env.locals := fun z => out (List.mem_filterMap.mpr ⟨X.env, List.mem_cons_self, by rw [fr, z]⟩)
  have nF : a ∉ X.fs := fun hm => by
    obtain ⟨e, h1, q⟩ := List.mem_filterMap.mp hm
    exact out (List.mem_filterMap.mpr ⟨e, List.mem_cons_of_mem _ h1, q⟩)
  have S3 := J3.suite he hd na nL nF
  suffices go : ∀ {hs' : List ExceptHandler} {l' : List Cl}, Hs X hs' l' → wMs X.K Wo D' l' cls d σ1 H1 → wpAny (model X.prog X.w) X.A (handleBy (.ref a) X.env hs') (SP X pins D') X.xe { s' with heap := h3 } from go hh w
  intro hs' l' hk
  induction hk with
  | nil =>
    intro w
    refine wpAny_handleBy_nil ?_
    obtain ⟨_, _, _, oe1, vs1, T, oT, ts1, e1, _, d1, x1, _⟩ := id fl
    unfold PySem.passOn
    refine wpAny_bind (wpAny_field e1 d1 x1 ?_)
    rw [if_neg (show ¬ ((Value.ref T == Value.none) = true) from by simp)]
    have fin : wpAny (model X.prog X.w) X.A (setFlight (.ref a) X.env.frame) (fun _ s4 => wpAny (model X.prog X.w) X.A (throw (.ref a) : Sem Flow) (SP X pins D') X.xe s4) X.xe { s' with heap := h3 } := by
      rw [fr]
      exact HandSPX.setFlight_upZ fl fun h4 hh4 up4 => wpAny_throw (tk _ _ ⟨a, B, sI, pins, σ1, H1, cls, d, rfl, J, nb, (up.trans up3).trans up4, .inr (.inr (by rw [st]; exact hh4)), na, os, ag, w⟩)
    first
      | exact wpAny_bind (wpAny_pure (wpAny_bind fin))
      | exact wpAny_bind fin
  | @as x n c i ts b0 su np ps hs2 l2 nm hi lc sk r ih =>
    rintro ⟨b, eb, yes, no⟩
    refine wpAny_handleBy_cons (codeAny_handlers_test ?_) (by intro q; cases q)
    have LT : PySem.W.Looks (model X.prog X.w) h3 (typeOf (.ref a)) cls := fun A Q E s k q => wpAny_typeOf_ref (k _ _ he) (by rw [hz.1]; exact q)
    have LM := PySem.W.exm_one (M := model X.prog X.w) (J3.kIn) LT eb
    have look : ∀ {Q : Value → Shared → Prop} {E : Value → Shared → Prop}, Q c { s' with heap := h3 } → wpAny (model X.prog X.w) (X.A.mark (some (.ref a))) (eval (.Name x np) X.env) Q E { s' with heap := h3 } := fun {Q E} q => by
      obtain ⟨hg, hdb, hm | ⟨hm, hv, hn⟩⟩ := nm
      · exact ld_glob (X := X.suite a ((a, oe) :: (X.pn ++ pins))) S3 hg hm q hdb
      · exact ld_blt (X := X.suite a ((a, oe) :: (X.pn ++ pins))) S3 hg hm hv q hn hdb
    refine look (LM.here ?_)
    cases b with
    | false => exact ih (no rfl)
    | true =>
      refine codeAny_handlers_suite_as (HandSPX.lands_againZ fl fun h4 fl4 up4 => ?_)
      have J4 : Inv X pins σ1 H1 { s' with heap := h4 } := J.landed nb fl4.1 ((up.trans up3).trans up4) os ag
      obtain ⟨o4, v4, e4, z4, d4⟩ := fl4.there
      have S4 := J4.suite e4 d4 na nL nF
      refine store_ok (X := X.suite a ((a, o4) :: (X.pn ++ pins))) (v := .ref a) S4 nd hi (.inl lc) rfl (fun s5 S5 => ?_) (.inr lc)
      refine wpAny_mono ((sk a o4 cls d (X.pn ++ pins) z4 ⟨_, d4⟩).run [] s5 _ H1 _ S5 (yes rfl a na)) (fun f s6 q => ?_) fun _ _ z => False.elim z
      have clear_ : ∀ {σ6 : L2.St} {H6 : Hp} {Q : Shared → Prop}, Inv (X.suite a ((a, o4) :: (X.pn ++ pins))) [] σ6 H6 s6 → (∀ s7, Inv X pins (σ6.set i none) H6 s7 → Q s7) →
          wpAny (model X.prog X.w) X.A (do bindName X.env n .none; unbindBehindTheSuite X.env n ps) (fun _ s7 => Q s7) X.xe s6 := fun {σ6 H6 Q} S6 k => gone_ok (S6.unsuite ok) nd hi lc k
      cases f with
      | next => obtain ⟨_, _, S6, q⟩ := q; exact clear_ S6 fun _ J7 => ⟨_, _, J7, q⟩
      | brk => obtain ⟨_, _, S6, q⟩ := q; exact clear_ S6 fun _ J7 => ⟨_, _, J7, q⟩
      | cont => obtain ⟨_, _, S6, q⟩ := q; exact clear_ S6 fun _ J7 => ⟨_, _, J7, q⟩
      | ret u => obtain ⟨_, _, _, S6, r6, q⟩ := q; exact clear_ S6 fun _ J7 => ⟨_, _, _, J7, r6, q⟩
end
/-- a clause: the name's slot, what it catches, its suite -/
abbrev Cf := Nat × (Nat → Option Bool) × Sf
def handL : List Cf → Nat → List D → En → S → SR
  | [], c, fs, ρ, s => .exc c fs ρ s
  | h :: r, c, fs, ρ, s => match h.2.1 c with
    | some true => outX h.1 (h.2.2 ((ρ.map noX).set h.1 (.exc c fs)) s)
    | some false => handL r c fs ρ s
    | none => .bad
def sTryM (hs : List Cf) (gb : Sf) : Sf := fun ρ s => match gb ρ s with
  | .exc c fs ρ1 s1 => handL hs c fs ρ1 s1
  | r => r
theorem sok_outX {G : Gf} {W W' : WX} {Z : Hp} {D' : Ends} {i : Nat} {r : SR} (h : SOk G W Z D' (outX i r)) : SOk G W' Z D' (outX i r) := by
  cases r <;> exact h
/-- the clauses and the judgements of their suites -/
inductive Hv (B : Tb) (X : Cx) : List ExceptHandler → List Value → List Cf → Prop
  | nil : Hv B X [] [] []
  | as {x n : Str} {cv : Value} {i : Nat} {sub : Nat → Option Bool} {gs : Sf} {b0 : Stmt} {su : List Stmt} {np ps : Pos} {hs : List ExceptHandler} {cs : List Value} {l : List Cf} (hi : X.N[i]? = some n) (lc : X.env.kindOf n = some .local) (nm : Names X x cv) (ok : SubOk B cv sub)
      (sk : ∀ (a : Addr) (oe : Obj) (cls : Value) (d : Option Addr) (pn : List (Addr × Obj)), Zc cls d oe → (∃ vs, oe.data = .fields vs) → VSs B (some (a, cls, d)) (X.suite a ((a, oe) :: pn)) W0 (b0 :: su) gs) (r : Hv B X hs cs l) :
      Hv B X (.ExceptHandler (some (.Name x np)) (some n) (b0 :: su) ps :: hs) (cv :: cs) ((i, sub, gs) :: l)
def clsOf (B : Tb) : List Value → List Cf → List Cl
  | cv :: cs, h :: l => (cv, h.1, fun a cls d D' σ H => ∃ G' : Gf, (G'.B = B ∧ G'.ux = some (a, cls, d)) ∧ tVS G' W0 h.2.2 D' σ H) :: clsOf B cs l
  | _, _ => []
theorem Hv.hs {B : Tb} {X : Cx} {hs : List ExceptHandler} {cs : List Value} {l : List Cf} (h : Hv B X hs cs l) : Hs X hs (clsOf B cs l) := by
  induction h with
  | nil => exact .nil
  | as hi lc nm ok sk r ih => exact .as nm hi lc (fun a oe cls d pn hz hf => ⟨fun pins s σ H D' I ⟨G', hG', q⟩ => (sk a oe cls d pn hz hf G' hG').run pins s σ H D' I q⟩) ih
theorem many_of {G : Gf} {X : Cx} {W : WX} (hu : G.ux = none) {hs : List ExceptHandler} {cs : List Value} {l : List Cf} (h : Hv G.B X hs cs l) {D' : Ends} {Z : Hp} {c : Nat} {fs : List D} {ρ : En} {s : S} (k : SOk G W Z D' (handL l c fs ρ s)) :
    SOk G (wMs G.B.K W D' (clsOf G.B cs l)) Z D' (.exc c fs ρ s) := by
  induction h with
  | nil => exact k
  | @as x n cv i sub gs b0 su np ps hs cs l hi lc nm ok sk r ih =>
    refine try_of (W := wMs G.B.K W D' (clsOf G.B cs l)) (cv := cv) (i := i) (sub := sub) (gb := fun _ _ => .exc c fs ρ s) (gs := gs) (ρ := ρ) (s := s) hu ok _ (fun a cls d D' σ H q => q) ?_
    show SOk G _ Z D' (match sub c with
      | some true => outX i (gs ((ρ.map noX).set i (.exc c fs)) s)
      | some false => .exc c fs ρ s
      | none => .bad)
    have k' : SOk G W Z D' (match sub c with
      | some true => outX i (gs ((ρ.map noX).set i (.exc c fs)) s)
      | some false => handL l c fs ρ s
      | none => .bad) := k
    cases e : sub c with
    | none => rw [e] at k'; exact k'.elim
    | some b =>
      rw [e] at k'
      cases b with
      | true => exact sok_outX k'
      | false => exact ih k'
theorem vs_tryM {B : Tb} {u : Option (Addr × Value × Option Addr)} {X : Cx} {W : WX} {pos : Pos} {body : List Stmt} {h0 : ExceptHandler} {hs : List ExceptHandler} {cs : List Value} {l : List Cf} {gb : Sf} (hK : X.K = B.K) (hu : u = none) (st : X.stack = X.env :: X.outer) (fr : X.env.frame = some X.env.locals) (nd : X.N.Nodup) (tk : Takes X W)
    (hv : Hv B X (h0 :: hs) cs l)
    (hb : ∀ (W' : WX) (pn : List (Addr × Obj)) (xe : Value → Shared → Prop), Takes (X.tr pn xe) W' → PassesOwn (model X.prog X.w) X.A X.env xe → VSs B none (X.tr pn xe) W' body gb) :
    VS B u X W (.Try body (h0 :: hs) [] [] pos) (sTryM l gb) := by
  subst hu
  intro G hG
  obtain ⟨rfl, hux⟩ := hG
  refine ps_mono (ps_try_ms (tb := fun W' => tVS G W' gb) st fr nd tk (fun W' pn xe t po => hb W' pn xe t po G ⟨rfl, hux⟩) hv.hs) fun D' σ H ⟨Z, ρ, s, I, h⟩ => ?_
  rw [hK]
  refine ⟨Z, ρ, s, I, ?_⟩
  unfold sTryM at h
  cases eb : gb ρ s with
  | exc c fs ρ1 s1 => rw [eb] at h; exact many_of hux hv h
  | nx ρ' s' => rw [eb] at h; exact h
  | rt d s' => rw [eb] at h; exact h
  | bk ρ' s' => rw [eb] at h; exact h
  | ct ρ' s' => rw [eb] at h; exact h
  | bad => rw [eb] at h; exact h.elim
end Vv

/-! ## isinstance of a caught error; except classes that don't catch -/
theorem exm_any {K : PySem.W.Frag} {S B : Addr} {b : Bool} (h1 : PySem.W.subIn K (.ref B) (.type "BaseException") = some true) (h2 : PySem.W.isClsIn K B = true) (h3 : PySem.W.typeIn K (.ref B) = some (.type "type")) (h4 : PySem.W.subIn K (.ref S) (.ref B) = some b) : PySem.W.exmOne K (.ref S) (.ref B) = some b := by
  unfold PySem.W.exmOne
  rw [h1, cls_in h2 h3 h4]
  rfl
namespace Vv
def eIsX (i : Nat) (tab : Nat → Option Bool) : Ef := fun ρ s => match ρ[i]? with
  | some (.exc c _) => opt ((tab c).map D.bl) s
  | _ => .bad
def uOf (B : Tb) : D → Option Value
  | .ty n => some (.type n)
  | .cl k => some (.ref (B.cls k))
  | _ => none
theorem ve_isX (i : Nat) {B : Tb} {X : Cx} {W : WX} {a : Addr} {oe : Obj} {cls : Value} {d : Option Addr} {pn : List (Addr × Obj)} {tab : Nat → Option Bool} {d2 : D} {u : Value} {e1 e2 : Expr} {p pos : Pos} (hK : X.K = B.K) (hz : Zc cls d oe) (hf : ∃ vs, oe.data = .fields vs)
    (h1 : PE (X.suite a ((a, oe) :: pn)) e1 (tVar i)) (h2 : VE B (some (a, cls, d)) (X.suite a ((a, oe) :: pn)) W e2 (eC d2)) (hu : uOf B d2 = some u) (ok : ∀ c b, tab c = some b → ExcC B.K (B.cls c) ∧ PySem.W.kitOne B.K (.ref (B.cls c)) u = some b)
    (hg : Gl (X.suite a ((a, oe) :: pn)) "isinstance") (hm : X.mg "isinstance" = none) (hbt : PySem.bootBuiltins "isinstance" = some (.builtin "isinstance"))
    (he : starEach [e1, e2] (X.suite a ((a, oe) :: pn)).env = (false, eval e1 (X.suite a ((a, oe) :: pn)).env) :: starEach [e2] (X.suite a ((a, oe) :: pn)).env := by rfl) (he2 : starEach [e2] (X.suite a ((a, oe) :: pn)).env = (false, eval e2 (X.suite a ((a, oe) :: pn)).env) :: starEach [] (X.suite a ((a, oe) :: pn)).env := by rfl)
    (hpl : (backTo pos (starEach [e2] (X.suite a ((a, oe) :: pn)).env)).any (·.1) = false := by rfl) :
    VE B (some (a, cls, d)) (X.suite a ((a, oe) :: pn)) W (.Call (.Name "isinstance" p) [e1, e2] [] pos) (eIsX i tab) := by
  intro G hG
  have h20 := h2 G hG
  obtain ⟨rfl, hux⟩ := hG
  refine pe_mono (pe_callB (call_isX hK hz hf) hg hm hbt (pa_cons h1 (pa_cons h20 pa_nil he2) he) (by decide) (by decide) he hpl) fun σ H Q ⟨Z, ρ, s, I, h⟩ => ?_
  cases e0 : ρ[i]? with
  | none => simp only [eIsX, e0] at h; exact h.elim
  | some y =>
    cases y with
    | exc c fs =>
      simp only [eIsX, e0] at h
      obtain ⟨r, er, q⟩ := h.opt
      obtain ⟨b, eb, rfl⟩ := Option.map_eq_some_iff.mp er
      obtain ⟨a2, dd, vs, ea, hx2, hH, hl, rs⟩ := I.sl i _ e0
      rw [hux] at hx2
      cases hx2
      obtain ⟨k1, k2⟩ := ok c b eb
      refine ⟨_, ea, Z, ρ, s, I, fun v Z' H' I' z rv => ?_⟩
      have cv : ClsV v u := by
        cases d2 with
        | ty n => cases hu; cases rv; exact .ty n
        | cl k => cases hu; cases rv; exact .own _
        | _ => cases hu
      exact ⟨v, u, _, dd, _, b, rfl, cv, rfl, k1, rfl, I'.zh _ _ (z _ _ hH), k2, q _ Z' H' I' z (.bl b)⟩
    | _ => simp only [eIsX, e0] at h; exact h.elim
end Vv

/-! ## a list of ours gets an item; a, b = new lists and values -/
namespace Vv
section
variable {B : Tb} {u : Option (Addr × Value × Option Addr)} {X : Cx} {W : WX} {pos : Pos} {e k : Expr} {es : List Expr} {fe fk : Ef}
/-- x[k] = e, x a list of ours -/
def sSetI (i : Nat) (fe fk : Ef) : Sf := fun ρ s => match ρ[i]? with
  | some (.own ds) => (fe ρ s).then ρ fun d s1 => (fk ρ s1).then ρ fun z s2 => match z with
    | .int n => match ixN ds.length n with
      | some j => .nx (ρ.set i (.own (ds.set j d))) s2
      | none => .bad
    | _ => .bad
  | _ => .bad
theorem Rps.set {Z : Hp} {v : V} {d : D} (r1 : Rp B Z v d) : ∀ {vs : List V} {ds : List D} (j : Nat), Rps B Z vs ds → Rps B Z (vs.set j v) (ds.set j d)
  | _, _, _, .nil => .nil
  | _, _, 0, .cons _ r => .cons r1 r
  | _, _, j + 1, .cons h r => .cons h (Rps.set r1 j r)
theorem vs_setI (i : Nat) {x : Str} {p kp : Pos} (he : VE B u X W e fe) (hx : PE X (.Name x p) (tVar i)) (hk : VE B u X W k fk) (hs : swapsWithSole [.Subscript (.Name x p) k kp] e pos.line X.env = pure false := by rfl) (hw : swappedStores [.Subscript (.Name x p) k kp] e X.env = pure none := by rfl)
    (h1 : (assignEach [.Subscript (.Name x p) k kp] X.env).map (·.2) = [assign (.Subscript (.Name x p) k kp) X.env] := by rfl)
    (ha : ∀ v, assign (.Subscript (.Name x p) k kp) X.env v = (do
      let ov ← holding [v] (eval (.Name x p) X.env)
      let iv ← holding [v, ov] (eval k X.env)
      standAt kp
      holding [v, ov, iv] (setItem ov iv v)
      release [v, ov, iv] []) := by intro _; rfl) : VS B u X W (.Assign [.Subscript (.Name x p) k kp] e pos) (sSetI i fe fk) := by
  intro G hG
  refine ps_mono (ps_asg (he G hG) (pg_sub hx (hk G hG) set_list ha) hs hw h1) fun D' σ H ⟨Z, ρ, s, I, h⟩ => ?_
  cases e2 : ρ[i]? with
  | none => simp only [sSetI, e2] at h; exact h.elim
  | some y =>
    cases y with
    | own ds =>
      simp only [sSetI, e2] at h
      refine ⟨Z, ρ, s, I, (SOk.from h σ).up (Same.refl Z) fun d s1 h1 v Z1 H1 I1 z1 rv => ?_⟩
      obtain ⟨p1, vs1, ep1, _⟩ := I1.sl i _ e2
      refine ⟨.ref p1, ep1, Z1, ρ, s1, I1, (SOk.from h1 σ).up z1 fun d2 s2 h2 v2 Z2 H2 I2 z2 rv2 => ?_⟩
      cases d2 with
      | int n =>
        cases rv2
        obtain ⟨p2, vs2, ep2, hp2, f2, n2, r2⟩ := I2.sl i _ e2
        rw [ep1] at ep2; cases ep2
        cases ej : ixN ds.length n with
        | none => simp only [ej] at h2; exact h2.elim
        | some j =>
          simp only [ej] at h2
          exact ⟨p1, vs2, n, j, rfl, rfl, hp2, by rw [r2.len]; exact ej, h2 σ Z2 _ (I2.poke e2 ep1 (Rps.set (rv.mono z2) j r2)) (z1.trans z2)⟩
      | _ => exact h2.elim
    | _ => simp only [sSetI, e2] at h; exact h.elim
/-! hidden, and seen again -/
theorem VI.hideOwn {G : Gf} {Z H : Hp} {σ : L2.St} {ρ : En} {s : S} {p : Addr} {o : HO} (I : VI G Z H σ ρ s) (e : H p = some o) (w : Own1 G Z σ ρ p) : VI (G.hide p o) Z H σ ρ s := by
  have fr : ∀ i a, OwnAt ρ i → σ[i]? = some (some (.ref a)) → G.Free Z a → (G.hide p o).Free Z a := fun i a oi ea f => ⟨f.z, f.h, fun q hq => by
    rcases List.mem_cons.mp hq with h | h
    · rw [h]
      intro c
      exact w.d i oi (by rw [ea, c])
    · exact f.d q h⟩
  refine ⟨I.len, I.zh, I.z0, I.zn, I.keep, fun q hq => ?_, I.slf, fun q hq => ?_, fun i x ei => ?_, I.dis⟩
  · obtain ⟨st, e1, hA, z1, z2, hd⟩ := I.hnd q hq
    refine ⟨st, e1, hA, z1, z2, fun c hc => ?_⟩
    rcases List.mem_cons.mp hc with h | h
    · rw [h]; exact w.f.h q hq
    · exact hd c h
  · rcases List.mem_cons.mp hq with h | h
    · rw [h]; exact ⟨e, w.f.z⟩
    · exact I.hid q h
  · have sl := I.sl i x ei
    cases x with
    | no => trivial
    | val d => exact sl
    | own ds => obtain ⟨a, ws, e2, h2, f2, n2, r2⟩ := sl; exact ⟨a, ws, e2, h2, fr i a (by unfold OwnAt; rw [ei]; trivial) e2 f2, n2, r2⟩
    | ob c fs => obtain ⟨a, dx, ws, e2, q2, h2, f2, r2⟩ := sl; exact ⟨a, dx, ws, e2, q2, h2, fr i a (by unfold OwnAt; rw [ei]; trivial) e2 f2, r2⟩
    | hand => exact sl
    | exc c fs => exact sl
theorem VI.seen {G : Gf} {Z H : Hp} {σ : L2.St} {ρ : En} {s : S} {p : Addr} {o : HO} (I : VI (G.hide p o) Z H σ ρ s) : VI G Z H σ ρ s := by
  have fr : ∀ a, (G.hide p o).Free Z a → G.Free Z a := fun a f => ⟨f.z, f.h, fun q hq => f.d q (List.mem_cons_of_mem _ hq)⟩
  refine ⟨I.len, I.zh, I.z0, I.zn, I.keep, fun q hq => ?_, I.slf, fun q hq => I.hid q (List.mem_cons_of_mem _ hq), fun i x e => ?_, I.dis⟩
  · obtain ⟨st, e1, hA, z1, z2, hd⟩ := I.hnd q hq
    exact ⟨st, e1, hA, z1, z2, fun e he => hd e (List.mem_cons_of_mem _ he)⟩
  · have sl := I.sl i x e
    cases x with
    | no => trivial
    | val d => exact sl
    | own ds => obtain ⟨a, ws, e2, h2, f2, n2, r2⟩ := sl; exact ⟨a, ws, e2, h2, fr a f2, n2, r2⟩
    | ob c fs => obtain ⟨a, dx, ws, e2, q2, h2, f2, r2⟩ := sl; exact ⟨a, dx, ws, e2, q2, h2, fr a f2, r2⟩
    | hand => exact sl
    | exc c fs => exact sl
theorem Own1.hidden {G : Gf} {Z H : Hp} {σ : L2.St} {ρ : En} {s : S} {p : Addr} {o : HO} (I : VI (G.hide p o) Z H σ ρ s) (w : G.H0 p = none) (hh : ∀ q, G.hand = some q → p ≠ q.1 ∧ p ≠ q.2) (hd : ∀ q ∈ G.hid, p ≠ q.1) : Own1 G Z σ ρ p :=
  ⟨⟨(I.hid (p, o) List.mem_cons_self).2, hh, hd⟩, w, fun i oi ei => by
    unfold OwnAt at oi
    cases e : ρ[i]? with
    | none => rw [e] at oi; exact oi
    | some y =>
      rw [e] at oi
      have sl := I.sl i y e
      cases y with
      | own ds => obtain ⟨a, ws, e2, h2, f2, n2, r2⟩ := sl; rw [ei] at e2; cases e2; exact f2.d (p, o) List.mem_cons_self rfl
      | ob c fs => obtain ⟨a, dx, ws, e2, q2, h2, f2, r2⟩ := sl; rw [ei] at e2; cases e2; exact f2.d (p, o) List.mem_cons_self rfl
      | _ => exact oi⟩
/-! values and new lists, one after the other -/
abbrev Mf := En → S → R (List Sl)
inductive Ms (G : Gf) (Z H : Hp) (σ : L2.St) (ρ : En) : List V → List Sl → List Addr → Prop
  | nil : Ms G Z H σ ρ [] [] []
  | val {v : V} {d : D} {vs : List V} {ls : List Sl} {ps : List Addr} (r : Rp G.B Z v d) (m : Ms G Z H σ ρ vs ls ps) : Ms G Z H σ ρ (v :: vs) (.val d :: ls) ps
  | own {p : Addr} {ws : List V} {ds : List D} {vs : List V} {ls : List Sl} {ps : List Addr} (e : H p = some (.lst ws)) (o : Own1 G Z σ ρ p) (r : Rps G.B Z ws ds) (n : p ∉ ps) (m : Ms G Z H σ ρ vs ls ps) : Ms G Z H σ ρ (.ref p :: vs) (.own ds :: ls) (p :: ps)
theorem Own1.seen {G : Gf} {Z : Hp} {σ : L2.St} {ρ : En} {p q : Addr} {o : HO} (w : Own1 (G.hide p o) Z σ ρ q) : Own1 G Z σ ρ q ∧ q ≠ p :=
  ⟨⟨⟨w.f.z, w.f.h, fun c hc => w.f.d c (List.mem_cons_of_mem _ hc)⟩, w.h, w.d⟩, w.f.d (p, o) List.mem_cons_self⟩
theorem Ms.seen {G : Gf} {Z H : Hp} {σ : L2.St} {ρ : En} {p : Addr} {o : HO} : ∀ {vs : List V} {ls : List Sl} {ps : List Addr}, Ms (G.hide p o) Z H σ ρ vs ls ps → Ms G Z H σ ρ vs ls ps ∧ p ∉ ps
  | _, _, _, .nil => ⟨.nil, fun h => nomatch h⟩
  | _, _, _, .val r m => ⟨.val r (Ms.seen m).1, (Ms.seen m).2⟩
  | _, _, _, .own e w r n m => ⟨.own e w.seen.1 r n (Ms.seen m).1, fun h => by
    rcases List.mem_cons.mp h with h | h
    · exact w.seen.2 h.symm
    · exact (Ms.seen m).2 h⟩
def tVM (G : Gf) (W : WX) (f : Mf) : TA := fun σ H Q => ∃ Z ρ s, VI G Z H σ ρ s ∧ ROk G W σ ρ Z (f ρ s) fun ls s' => ∀ vs ps Z' H', VI G Z' H' σ ρ s' → Same Z Z' → Ms G Z' H' σ ρ vs ls ps → Q vs H'
def VM (B : Tb) (u : Option (Addr × Value × Option Addr)) (X : Cx) (W : WX) (es : List Expr) (f : Mf) : Prop := ∀ G : Gf, G.B = B ∧ G.ux = u → PA X es (tVM G W f)
def mNil : Mf := fun _ s => .ok [] s
def mVal (fe : Ef) (fr : Mf) : Mf := fun ρ s => (fe ρ s).bind fun d s1 => (fr ρ s1).bind fun ls s2 => .ok (.val d :: ls) s2
def mOwn (fe : Lf) (fr : Mf) : Mf := fun ρ s => (fe ρ s).bind fun ds s1 => (fr ρ s1).bind fun ls s2 => .ok (.own ds :: ls) s2
theorem vm_nil : VM B u X W [] mNil := fun G hG => pa_mono pa_nil fun σ H Q ⟨Z, ρ, s, I, h⟩ => h [] [] Z H I (Same.refl Z) .nil
theorem vm_val {fr : Mf} (he : VE B u X W e fe) (hr : VM B u X W es fr) (hs : starEach (e :: es) X.env = (false, eval e X.env) :: starEach es X.env := by rfl) : VM B u X W (e :: es) (mVal fe fr) := by
  intro G hG
  refine pa_mono (pa_cons (he G hG) (hr G hG) hs) fun σ H Q ⟨Z, ρ, s, I, h⟩ => ?_
  refine ⟨Z, ρ, s, I, h.bind.up (Same.refl Z) fun d s1 h1 v Z1 H1 I1 z1 rv => ?_⟩
  exact ⟨Z1, ρ, s1, I1, (ROk.bind h1).up z1 fun ls s2 h2 vs ps Z2 H2 I2 z2 m => h2 (v :: vs) ps Z2 H2 I2 (z1.trans z2) (.val (rv.mono z2) m)⟩
theorem ROk.hide {G : Gf} {σ : L2.St} {ρ : En} {Z : Hp} {p : Addr} {o : HO} {α : Type} {r : R α} {k : α → S → Prop} (h : ROk G W σ ρ Z r k) : ROk (G.hide p o) W σ ρ Z r k := by
  cases r with
  | ok x s => exact h
  | bad => exact h
  | exc c fs s => exact fun d vs Z' H' I z e l rs => h d vs Z' H' I.seen z e l rs
theorem vm_own {fe : Lf} {fr : Mf} (he : VF B u X W e fe) (hr : VM B u X W es fr) (hs : starEach (e :: es) X.env = (false, eval e X.env) :: starEach es X.env := by rfl) : VM B u X W (e :: es) (mOwn fe fr) := by
  intro G hG
  have any : PA X es (fun σ H Q => ∃ G : Gf, (G.B = B ∧ G.ux = u) ∧ tVM G W fr σ H Q) := ⟨fun pos pins s σ H Q I ⟨G, hG, q⟩ => (hr G hG).run pos pins s σ H Q I q⟩
  refine pa_mono (pa_cons (he G hG) any hs) fun σ H Q ⟨Z, ρ, s, I, h⟩ => ?_
  refine ⟨Z, ρ, s, I, h.bind.up (Same.refl Z) fun ds s1 h1 p ws Z1 H1 I1 z1 ep w r => ?_⟩
  refine ⟨G.hide p (.lst ws), hG, Z1, ρ, s1, I1.hideOwn ep w, (ROk.hide (ROk.bind h1)).up z1 fun ls s2 h2 vs ps Z2 H2 I2 z2 m => ?_⟩
  exact h2 (.ref p :: vs) (p :: ps) Z2 H2 I2.seen (z1.trans z2) (.own (I2.hid (p, .lst ws) List.mem_cons_self).1 (Own1.hidden I2 w.h w.f.h w.f.d) (r.mono z2) m.seen.2 m.seen.1)
/-! into the slots -/
theorem Own1.setVal {G : Gf} {Z : Hp} {σ : L2.St} {ρ : En} {p : Addr} {i : Nat} {v : V} {d : D} (w : Own1 G Z σ ρ p) : Own1 G Z (σ.set i (some v)) (ρ.set i (.val d)) p :=
  ⟨w.f, w.h, fun j oj => by
    obtain ⟨n, o⟩ := ownAt_set_val oj
    rw [List.getElem?_set_ne (Ne.symm n)]
    exact w.d j o⟩
theorem Own1.setOwn {G : Gf} {Z : Hp} {σ : L2.St} {ρ : En} {p q : Addr} {i : Nat} {ds : List D} (w : Own1 G Z σ ρ p) (n : p ≠ q) : Own1 G Z (σ.set i (some (.ref q))) (ρ.set i (.own ds)) p :=
  ⟨w.f, w.h, fun j oj ej => by
    by_cases c : j = i
    · subst c
      rw [List.getElem?_set_self'] at ej
      cases z : σ[j]? with
      | none => rw [z] at ej; cases ej
      | some y => rw [z] at ej; cases ej; exact n rfl
    · rw [List.getElem?_set_ne (Ne.symm c)] at ej
      exact w.d j (ownAt_set oj c) ej⟩
theorem Ms.setVal {G : Gf} {Z H : Hp} {σ : L2.St} {ρ : En} {i : Nat} {v : V} {d : D} : ∀ {vs : List V} {ls : List Sl} {ps : List Addr}, Ms G Z H σ ρ vs ls ps → Ms G Z H (σ.set i (some v)) (ρ.set i (.val d)) vs ls ps
  | _, _, _, .nil => .nil
  | _, _, _, .val r m => .val r m.setVal
  | _, _, _, .own e w r n m => .own e w.setVal r n m.setVal
theorem Ms.setOwn {G : Gf} {Z H : Hp} {σ : L2.St} {ρ : En} {i : Nat} {q : Addr} {ds : List D} : ∀ {vs : List V} {ls : List Sl} {ps : List Addr}, Ms G Z H σ ρ vs ls ps → q ∉ ps → Ms G Z H (σ.set i (some (.ref q))) (ρ.set i (.own ds)) vs ls ps
  | _, _, _, .nil, _ => .nil
  | _, _, _, .val r m, h => .val r (m.setOwn h)
  | _, _, _, .own e w r n m, h => .own e (w.setOwn fun c => h (by rw [c]; exact List.mem_cons_self)) r n (m.setOwn fun c => h (List.mem_cons_of_mem _ c))
theorem Ms.one {G : Gf} {Z H : Hp} {σ : L2.St} {ρ : En} {s : S} {v : V} {x : Sl} {vs : List V} {ls : List Sl} {ps : List Addr} (I : VI G Z H σ ρ s) (i : Nat) (m : Ms G Z H σ ρ (v :: vs) (x :: ls) ps) :
    VI G Z H (σ.set i (some v)) (ρ.set i x) s ∧ ∃ ps', Ms G Z H (σ.set i (some v)) (ρ.set i x) vs ls ps' := by
  cases m with
  | val r m => exact ⟨I.setVal r, _, m.setVal⟩
  | own e w r n m => exact ⟨I.setOwn e w r, _, m.setOwn n⟩
def sParM (i j : Nat) (f : Mf) : Sf := fun ρ s => (f ρ s).then ρ fun ls s1 => match ls with
  | [x, y] => .nx ((ρ.set i x).set j y) s1
  | _ => .bad
def sPar3M (i j l : Nat) (f : Mf) : Sf := fun ρ s => (f ρ s).then ρ fun ls s1 => match ls with
  | [x, y, z] => .nx (((ρ.set i x).set j y).set l z) s1
  | _ => .bad
theorem ms2 {G : Gf} {Z H : Hp} {σ : L2.St} {ρ : En} {vs : List V} {x y : Sl} {ps : List Addr} (m : Ms G Z H σ ρ vs [x, y] ps) : ∃ v w, vs = [v, w] := by
  cases m with
  | val r m => cases m with
    | val r m => cases m; exact ⟨_, _, rfl⟩
    | own e w r n m => cases m; exact ⟨_, _, rfl⟩
  | own e w r n m => cases m with
    | val r m => cases m; exact ⟨_, _, rfl⟩
    | own e w r n m => cases m; exact ⟨_, _, rfl⟩
theorem vs_parM (i j : Nat) {a b : Expr} {x y : Str} {f : Mf} {px py pt : Pos} {kt k2 pt2} (hc : X.calm = true) (hN : X.N.Nodup) (hi : X.N[i]? = some x) (hj : X.N[j]? = some y) (hij : i ≠ j)
    (hx : X.env.scope.names.lookup x = some .local) (hy : X.env.scope.names.lookup y = some .local) (ha : VM B u X W [a, b] f)
    (hw : swappedStores [.Tuple [.Name x px, .Name y py] kt pt] (.Tuple [a, b] k2 pt2) X.env = pure (some [x, y]))
    (hs : swapsWithSole [.Tuple [.Name x px, .Name y py] kt pt] (.Tuple [a, b] k2 pt2) pos.line X.env = pure false := by rfl) :
    VS B u X W (.Assign [.Tuple [.Name x px, .Name y py] kt pt] (.Tuple [a, b] k2 pt2) pos) (sParM i j f) := by
  intro G hG
  refine ps_mono (ps_par (i := i) (j := j) hc hN hi hj hij hx hy (ha G hG) hw hs) fun D' σ H ⟨Z, ρ, s, I, h⟩ => ?_
  refine ⟨Z, ρ, s, I, (SOk.from h σ).up (Same.refl Z) fun ls s1 h1 vs ps Z1 H1 I1 z1 m => ?_⟩
  match ls, m, h1 with
  | [s1, s2], m, h1 =>
    obtain ⟨v, w, rfl⟩ := ms2 m
    obtain ⟨I2, ps2, m2⟩ := Ms.one I1 i m
    obtain ⟨I3, _, _⟩ := Ms.one I2 j m2
    exact ⟨v, w, rfl, h1 _ Z1 H1 I3 z1⟩
theorem vs_par3M (i j l : Nat) {a b c : Expr} {x y z : Str} {f : Mf} {px py pz pt : Pos} {kt k2 pt2} (hc : X.calm = true) (hN : X.N.Nodup) (hi : X.N[i]? = some x) (hj : X.N[j]? = some y) (hl : X.N[l]? = some z) (hij : i ≠ j) (hil : i ≠ l) (hjl : j ≠ l)
    (hx : X.env.scope.names.lookup x = some .local) (hy : X.env.scope.names.lookup y = some .local) (hz : X.env.scope.names.lookup z = some .local) (ha : VM B u X W [a, b, c] f)
    (hw : swappedStores [.Tuple [.Name x px, .Name y py, .Name z pz] kt pt] (.Tuple [a, b, c] k2 pt2) X.env = pure (some [x, y, z]))
    (hs : swapsWithSole [.Tuple [.Name x px, .Name y py, .Name z pz] kt pt] (.Tuple [a, b, c] k2 pt2) pos.line X.env = pure false := by rfl) :
    VS B u X W (.Assign [.Tuple [.Name x px, .Name y py, .Name z pz] kt pt] (.Tuple [a, b, c] k2 pt2) pos) (sPar3M i j l f) := by
  intro G hG
  refine ps_mono (ps_par3 (i := i) (j := j) (l := l) hc hN hi hj hl hij hil hjl hx hy hz (ha G hG) hw hs) fun D' σ H ⟨Z, ρ, s, I, h⟩ => ?_
  refine ⟨Z, ρ, s, I, (SOk.from h σ).up (Same.refl Z) fun ls s1 h1 vs ps Z1 H1 I1 z1 m => ?_⟩
  match ls, m, h1 with
  | [s1, s2, s3], m, h1 =>
    obtain ⟨v, vs', e1⟩ : ∃ v vs', vs = v :: vs' := by cases m <;> exact ⟨_, _, rfl⟩
    subst e1
    obtain ⟨I2, ps2, m2⟩ := Ms.one I1 i m
    obtain ⟨w, t, rfl⟩ := ms2 m2
    obtain ⟨I3, ps3, m3⟩ := Ms.one I2 j m2
    obtain ⟨I4, _, _⟩ := Ms.one I3 l m3
    exact ⟨v, w, t, rfl, h1 _ Z1 H1 I4 z1⟩
end
end Vv

/-! ### zip(tuple, list) -/
/-- the tuple at a and the list at b as they stand at each turn, the items in new pairs -/
def IteZ (K : PySem.W.Frag) (a b : Addr) : It :=
  ⟨fun i H => ∃ (xs ys : List V) (x y : V), SqT K H a xs ∧ SqL K H b ys ∧ xs[i]? = some x ∧ ys[i]? = some y,
    fun i H v H' => ∃ T x y, v = .ref T ∧ H T = none ∧ H' = L2.upd H T (.tup [x, y]) ∧ (∀ xs, SqT K H a xs → xs[i]? = some x) ∧ ∀ ys, SqL K H b ys → ys[i]? = some y,
    fun i H => ∃ xs ys : List V, SqT K H a xs ∧ SqL K H b ys ∧ i = xs.length ∧ i = ys.length⟩
theorem tl_ne {h : Heap} {a b : Addr} {c d : String} {o p : Obj} (e : h.get? a = some o) (f : h.get? b = some p) (ec : o.cls = .type c) (fc : p.cls = .type d) (n : c ≠ d) : a ≠ b := fun z => by
  subst z
  rw [e] at f
  cases f
  exact n (Value.type.inj (ec.symm.trans fc))
theorem turn_zipX {P : Program} {w : World} {K : PySem.W.Frag} {elts : List Expr} {kk : Nat} {tpos : Pos} {a b z TI TO i1 i2 : Addr} (S : PySem.ZipSep2 z TI TO i1 i2 [i1, a] [i2, b]) :
    Turn P w K (.Tuple elts kk tpos) (IteZ K a b) [z, TI, TO, i1, i2] z (fun i h => IsZip h z TI TO .none ∧ PySem.IsTupOf2 h TI (.ref i1) (.ref i2) ∧ (∃ x y, PySem.IsTupOf2 h TO x y) ∧ h.IsTupleIter i1 a i ∧ h.IsListIter i2 b i) where
  mem := by simp
  obj := fun i h st c hc => by
    obtain ⟨hz, hTI, ⟨x, y, hTO⟩, ⟨o1, e1, _, d1⟩, ⟨o2, e2, _, d2⟩⟩ := st
    have e' : c = z ∨ c = TI ∨ c = TO ∨ c = i1 ∨ c = i2 := by simpa using hc
    rcases e' with q | q | q | q | q
    · rw [q]; exact ⟨_, hz, fun v q => nomatch q⟩
    · rw [q]; exact ⟨_, hTI, fun v q => nomatch q⟩
    · rw [q]; exact ⟨_, hTO, fun v q => nomatch q⟩
    · rw [q]; exact ⟨o1, e1, fun v q => by rw [d1] at q; cases q⟩
    · rw [q]; exact ⟨o2, e2, fun v q => by rw [d2] at q; cases q⟩
  keep := fun i h h' st k => by
    obtain ⟨hz, hTI, ⟨x, y, hTO⟩, h1, h2⟩ := st
    exact ⟨k z (by simp) _ hz, k TI (by simp) _ hTI, ⟨x, y, k TO (by simp) _ hTO⟩, h1.at fun o q => k i1 (by simp) o q, h2.at fun o q => k i2 (by simp) o q⟩
  item := by
    intro X hP hw hK hc i pins s σ H E I hf st hg
    subst hP hw hK
    obtain ⟨hz, hTI, ⟨x0, y0, hTO⟩, h1, h2⟩ := st
    obtain ⟨xs, ys, x, y, hqx, hqy, hx, hy⟩ := hg
    obtain ⟨its, rv, p, _⟩ := I.tuple hqx
    obtain ⟨its2, rv2, p2, _⟩ := I.list hqy
    obtain ⟨u, hu, ru⟩ := rv.get hx
    obtain ⟨u2, hu2, ru2⟩ := rv2.get hy
    have hzl : z < s.heap.objs.size := Heap.lt_size hz
    have pt : s.heap.IsTuple a its.toArray := p
    have pl : s.heap.IsList b its2.toArray := p2.isList
    have D1 := PySem.Draws.tuple (prog := X.prog) (w := X.w) (A := X.A.in1) (I.ok.hd hc) i1 a (tup_ne pt h1) its.toArray
    have D2 := PySem.Draws.list (prog := X.prog) (w := X.w) (A := X.A.in1) (I.ok.hd hc) i2 b (by
      obtain ⟨o1, q1, c1, _⟩ := pl
      obtain ⟨o2, q2, c2, _⟩ := h2
      exact tl_ne q1 q2 c1 c2 (by decide)) its2.toArray
    have l1 : i < its.toArray.size := by
      obtain ⟨h1, _⟩ := List.getElem?_eq_some_iff.mp hu
      simpa using h1
    have l2 : i < its2.toArray.size := by
      obtain ⟨h1, _⟩ := List.getElem?_eq_some_iff.mp hu2
      simpa using h1
    refine PySem.wpAny_pyNext_zipD2_item S D1 D2 hz hTI hTO ⟨h1, pt⟩ ⟨h2, pl⟩ l1 l2 fun x1 x2 h' tk y1 y2 z' TO' d1 d2 hT hsz hk => ?_
    obtain rfl : u = x1 := by
      rw [List.getElem?_toArray, hu] at y1
      exact Option.some.inj y1
    obtain rfl : u2 = x2 := by
      rw [List.getElem?_toArray, hu2] at y2
      exact Option.some.inj y2
    refine ⟨_, rfl, wpAny_letOwnedTupleGo_zip (s := { s with heap := h', toks := tk }) z' fun h'' z'' sb => ?_⟩
    have hT2 : h''.get? s.heap.objs.size = some { cls := .type "tuple", data := .seq #[u, u2] } := (sb.2 _ (Nat.ne_of_gt hzl)).trans hT
    have new : ObjOk X.prog X.w (L2.upd H s.heap.objs.size (.tup [x, y])) h'' s.heap.objs.size (.tup [x, y]) :=
      ⟨by show 2 ≤ sizeLine; decide, [u, u2], .cons ru (.cons ru2 .nil), ⟨_, hT2, rfl, _, rfl⟩⟩
    have I1 : L2.Inv X pins σ (L2.upd H s.heap.objs.size (.tup [x, y])) { s with heap := h'', toks := tk } :=
      I.turnedNew (ch := [z, TI, TO, i1, i2]) (fun c o hb q => (sb.2 c (fun q' => hb (by simp [q']))).trans (hk c o (fun q' => hb (by simp [q'])) (fun q' => hb (by simp [q'])) (fun q' => hb (by simp [q'])) (fun q' => hb (by simp [q'])) q)) hf (Nat.le_refl _) new
    refine ⟨.ref s.heap.objs.size, _, I1, rfl, ⟨_, x, y, rfl, I.hok.fresh (Nat.le_refl _), rfl, fun l hl => by rw [I.tuple_inj hl hqx]; exact hx, fun l hl => by rw [I.list_inj hl hqy]; exact hy⟩, ⟨z'', ?_, ⟨u, u2, ?_⟩, ?_, ?_⟩, fun c hcm => ?_⟩
    · exact (sb.2 _ S.TIz).trans (hk _ _ S.TIz S.TITO S.TIi1 S.TIi2 hTI)
    · exact (sb.2 _ S.TOz).trans TO'
    · exact d1.1.at fun o q => (sb.2 _ (Ne.symm S.zi1)).trans q
    · exact d2.1.at fun o q => (sb.2 _ (Ne.symm S.zi2)).trans q
    · have hlt : c < s.heap.objs.size := by
        have e' : c = z ∨ c = TI ∨ c = TO ∨ c = i1 ∨ c = i2 := by simpa using hcm
        rcases e' with q | q | q | q | q
        · rw [q]; exact hzl
        · rw [q]; exact Heap.lt_size hTI
        · rw [q]; exact Heap.lt_size hTO
        · rw [q]; obtain ⟨_, e1, _⟩ := h1; exact Heap.lt_size e1
        · rw [q]; obtain ⟨_, e2, _⟩ := h2; exact Heap.lt_size e2
      rw [upd_ne (Nat.ne_of_lt hlt)]
      exact (hf c hcm).1
  done := by
    intro X hP hw hK hc i pins s σ H E I hf st hg
    subst hP hw hK
    obtain ⟨hz, hTI, ⟨x0, y0, hTO⟩, h1, h2⟩ := st
    obtain ⟨xs, ys, hqx, hqy, en1, en2⟩ := hg
    obtain ⟨its, rv, p, _⟩ := I.tuple hqx
    obtain ⟨its2, rv2, p2, _⟩ := I.list hqy
    have l1 := rv.length
    have l2 := rv2.length
    have pt : s.heap.IsTuple a its.toArray := p
    have pl : s.heap.IsList b its2.toArray := p2.isList
    have D1 := PySem.Draws.tuple (prog := X.prog) (w := X.w) (A := X.A.in1) (I.ok.hd hc) i1 a (tup_ne pt h1) its.toArray
    have D2 := PySem.Draws.list (prog := X.prog) (w := X.w) (A := X.A.in1) (I.ok.hd hc) i2 b (by
      obtain ⟨o1, q1, c1, _⟩ := pl
      obtain ⟨o2, q2, c2, _⟩ := h2
      exact tl_ne q1 q2 c1 c2 (by decide)) its2.toArray
    exact PySem.wpAny_pyNext_zipD2_end S D1 D2 hz hTI hTO ⟨h1, pt⟩ ⟨h2, pl⟩ (by simp; omega) (by simp; omega) (.inl (by simp; omega)) fun h' tk hk => ⟨rfl, I.turnedL (t' := tk) (ch := [z, TI, TO, i1, i2]) (fun c o hb q =>
      hk c o (fun q' => hb (by simp [q'])) (fun q' => hb (by simp [q'])) (fun q' => hb (by simp [q'])) (fun q' => hb (by simp [q'])) q) hf⟩
  self := fun A i s Q E st h => wpAny_pyIter_zip st.1 h
theorem nmem2 {x i a : Nat} (h1 : x ≠ i) (h2 : x ≠ a) : (x : Addr) ∉ ([i, a] : List Addr) := fun hm => by
  rcases (show (x : Addr) = i ∨ (x : Addr) = a by simpa using hm) with z | z
  · exact h1 z
  · exact h2 z
theorem sep_new {N a b : Nat} (la : a < N) (lb : b < N) : PySem.ZipSep2 (N + 4 : Nat) (N + 2 : Nat) (N + 3 : Nat) N (N + 1 : Nat) [N, a] [(N + 1 : Nat), b] :=
  { TIz := show (N + 2 : Nat) ≠ N + 4 by omega, TOz := show (N + 3 : Nat) ≠ N + 4 by omega, TITO := show (N + 2 : Nat) ≠ N + 3 by omega,
    TIi1 := show (N + 2 : Nat) ≠ N by omega, mem1 := List.mem_cons_self .., zf1 := nmem2 (by omega) (by omega), Tf1 := nmem2 (by omega) (by omega),
    TIi2 := show (N + 2 : Nat) ≠ N + 1 by omega, mem2 := List.mem_cons_self .., zf2 := nmem2 (by omega) (by omega), Tf2 := nmem2 (by omega) (by omega),
    sep1_2 := nmem2 (by omega) (by omega), sep2_1 := nmem2 (by omega) (by omega) }
/-- zip(e, e2), e a tuple, e2 a list -/
def iZipX (K : PySem.W.Frag) (ta : TA) : TI := fun σ H R => ta σ H fun vs H1 => ∃ a b xs ys, vs = [.ref a, .ref b] ∧ SqT K H1 a xs ∧ SqL K H1 b ys ∧ R (IteZ K a b) H1
theorem pi_zipX {X : Cx} {K : PySem.W.Frag} {e e2 : Expr} {ta : TA} {p pos tpos : Pos} {elts : List Expr} {kk : Nat} (hK : X.K = K) (hg : Gl X "zip") (hm : X.mg "zip" = none) (ha : PA X [e, e2] ta)
    (hs : starEach [e, e2] X.env = (false, eval e X.env) :: starEach [e2] X.env := by rfl) (hpl : (backTo pos (starEach [e2] X.env)).any (·.1) = false := by rfl) :
    PI X (.Tuple elts kk tpos) (.Call (.Name "zip" p) [e, e2] [] pos) (iZipX K ta) := by
  subst hK
  refine ⟨fun pins s σ H R I h => ?_⟩
  refine Call_ (ld_blt I hg hm PyProof.Rows.boot_zip (PyProof.Rows.callWith_type1 (thn (ha.run pos pins s σ H _ I h) fun us s1 ⟨vs, H1, I1, r1, q1⟩ => ?_) hs hpl))
  obtain ⟨a, b, xs, ys, ex, hqx, hqy, q⟩ := q1
  subst ex
  cases r1 with
  | cons r rr =>
    cases rr with
    | cons r' rr =>
      cases rr
      cases r
      cases r'
      have fresh5 : ∀ c, c ∈ [s1.heap.objs.size + 4, s1.heap.objs.size + 2, s1.heap.objs.size + 3, s1.heap.objs.size, s1.heap.objs.size + 1] → FpOk X pins H1 c := fun c hcm => by
        have e' : c = s1.heap.objs.size + 4 ∨ c = s1.heap.objs.size + 2 ∨ c = s1.heap.objs.size + 3 ∨ c = s1.heap.objs.size ∨ c = s1.heap.objs.size + 1 := by simpa using hcm
        have hle : s1.heap.objs.size ≤ c := by
          rcases e' with z | z | z | z | z
          · rw [z]; exact Nat.le_add_right _ _
          · rw [z]; exact Nat.le_add_right _ _
          · rw [z]; exact Nat.le_add_right _ _
          · rw [z]; exact Nat.le_refl _
          · rw [z]; exact Nat.le_add_right _ _
        exact I1.fpOk hle (I1.hok.fresh hle)
      obtain ⟨its, rv, p1, _⟩ := I1.tuple hqx
      obtain ⟨its2, rv2, p2, _⟩ := I1.list hqy
      have pt : s1.heap.IsTuple a its.toArray := p1
      have pl : s1.heap.IsList b its2.toArray := p2.isList
      have la : a < s1.heap.objs.size := by obtain ⟨_, q, _⟩ := pt; exact Heap.lt_size q
      have lb : b < s1.heap.objs.size := by obtain ⟨_, q, _⟩ := pl; exact Heap.lt_size q
      refine PySem.zip_begins2 (PySem.begins_tuple a its.toArray) (PySem.begins_list b its2.toArray) pt pl fun h' hz hTI hTO g1 g2 hsz hk => wpAny_pyIter_zip hz ?_
      have I2 : L2.Inv X pins σ H1 { s1 with heap := h' } := I1.kept (t' := s1.toks) hk
      exact ⟨s1.heap.objs.size + 4, [s1.heap.objs.size + 4, s1.heap.objs.size + 2, s1.heap.objs.size + 3, s1.heap.objs.size, s1.heap.objs.size + 1], _, _, H1, rfl, I2, turn_zipX (sep_new la lb), ⟨hz, hTI, ⟨_, _, hTO⟩, ⟨_, g1, rfl, rfl⟩, ⟨_, g2, rfl, rfl⟩⟩, fresh5, q⟩
theorem walk_zipX {K : PySem.W.Frag} {a b : Addr} {xs ys : List V} (hl : xs.length = ys.length) : Walk (IteZ K a b) xs.length (fun H => SqT K H a xs ∧ SqL K H b ys) (YPair (fun i => xs[i]?) (fun i => ys[i]?)) := by
  refine ⟨fun i _ hi q => ⟨xs, ys, xs[i], ys[i]'(hl ▸ hi), q.1, q.2, by simp [hi], by simp [hl ▸ hi]⟩, fun _ q => ⟨xs, ys, q.1, q.2, rfl, hl⟩, fun i H v H' _ q y => ?_⟩
  obtain ⟨T, x, z, e1, e2, e3, e4, e5⟩ := y
  exact ⟨T, x, z, e1, e2, e3, e4 xs q.1, e5 ys q.2⟩
/-! ## zip -/
namespace Vv
theorem walk_zipT {K : PySem.W.Frag} {a b : Addr} {xs ys : List V} (hl : xs.length = ys.length) : Walk (RZ.ItzT K a b) xs.length (fun H => SqT K H a xs ∧ SqT K H b ys) (YPair (fun i => xs[i]?) (fun i => ys[i]?)) := by
  refine ⟨fun i _ hi q => ⟨xs, ys, xs[i], ys[i]'(hl ▸ hi), q.1, q.2, by simp [hi], by simp [hl ▸ hi]⟩, fun _ q => ⟨xs, ys, q.1, q.2, .inl (Nat.le_refl _)⟩, fun i H v H' _ q y => ?_⟩
  obtain ⟨T, x, z, e1, e2, e3, e4, e5⟩ := y
  exact ⟨T, x, z, e1, e2, e3, e4 xs q.1, e5 ys q.2⟩
def zipD : List D → List D → List D
  | x :: xs, y :: ys => .tup [x, y] :: zipD xs ys
  | _, _ => []
theorem zipD_len : ∀ (xs ys : List D), xs.length = ys.length → (zipD xs ys).length = xs.length
  | [], [], _ => rfl
  | [], _ :: _, h => by simp at h
  | _ :: _, [], h => by simp at h
  | _ :: xs, _ :: ys, h => congrArg Nat.succ (zipD_len xs ys (by simpa using h))
theorem zipD_at : ∀ (xs ys : List D) (i : Nat) (x y : D), xs[i]? = some x → ys[i]? = some y → (zipD xs ys)[i]? = some (.tup [x, y])
  | _ :: _, _ :: _, 0, _, _, h1, h2 => by cases h1; cases h2; rfl
  | _ :: xs, _ :: ys, i + 1, x, y, h1, h2 => zipD_at xs ys i x y h1 h2
  | [], _, i, _, _, h1, _ => by simp at h1
  | _ :: _, [], i, _, _, _, h2 => by simp at h2
/-- a list or tuple -/
def seqD : D → Option (Bool × List D)
  | .lst l => some (true, l)
  | .tup l => some (false, l)
  | _ => none
def iZp (fa : Af) : Af := fun ρ s => (fa ρ s).bind fun ds s1 => match ds with
  | [x, y] => match seqD x, seqD y with
    | some (b, l), some (c, m) => if decide (l.length = m.length) && (b == c || (!b && c)) then .ok (zipD l m) s1 else .bad
    | _, _ => .bad
  | _ => .bad
theorem seqD_of {B : Tb} {Z : Hp} {v : V} {d : D} {b : Bool} {l : List D} (r : Rp B Z v d) (e : seqD d = some (b, l)) : ∃ a vs, v = .ref a ∧ Rps B Z vs l ∧ (b = true → Z a = some (.lst vs)) ∧ (b = false → SqT B.K Z a vs) := by
  cases r with
  | tup h r => cases e; exact ⟨_, _, rfl, r, (fun h => nomatch h), fun _ => h⟩
  | lst h r => cases e; exact ⟨_, _, rfl, r, (fun _ => h), fun h => nomatch h⟩
  | _ => cases e
section
variable {B : Tb} {u : Option (Addr × Value × Option Addr)} {X : Cx} {W : WX} {pos : Pos}
theorem vi_zip {e e2 : Expr} {fa : Af} {p pos tpos : Pos} {elts : List Expr} {kk : Nat} (hK : X.K = B.K) (hg : Gl X "zip") (hm : X.mg "zip" = none) (ha : VA B u X W [e, e2] fa)
    (hs : starEach [e, e2] X.env = (false, eval e X.env) :: starEach [e2] X.env := by rfl) (hpl : (backTo pos (starEach [e2] X.env)).any (·.1) = false := by rfl) :
    VIt B u X W (.Tuple elts kk tpos) (.Call (.Name "zip" p) [e, e2] [] pos) (iZp fa) := by
  intro G hG
  have h0 := ha G hG
  obtain ⟨rfl, rfl⟩ := hG
  refine pi_mono (pi_or (RZ.pi_zipA hg hm h0 hs hpl) (pi_zipX (K := G.B.K) hK hg hm h0 hs hpl)) fun σ H Rr ⟨Z, ρ, s, I, h⟩ => ?_
  have h := h.bind
  cases ef : fa ρ s with
  | bad => rw [ef] at h; exact h.elim
  | exc c fs s1 => rw [ef] at h; exact .inl ⟨Z, ρ, s, I, by rw [ef]; exact h⟩
  | ok ds s1 =>
    rw [ef] at h
    match ds, h, ef with
    | [], h, _ => exact h.elim
    | [_], h, _ => exact h.elim
    | _ :: _ :: _ :: _, h, _ => exact h.elim
    | [x, y], h, ef =>
      have h : ROk G W σ ρ Z (match seqD x, seqD y with
        | some (b, l), some (c, m) => if decide (l.length = m.length) && (b == c || (!b && c)) then .ok (zipD l m) s1 else .bad
        | _, _ => .bad) _ := h
      cases ex : seqD x with
      | none => rw [ex] at h; exact h.elim
      | some bl =>
        cases ey : seqD y with
        | none => rw [ex, ey] at h; exact h.elim
        | some cm =>
          obtain ⟨b, l⟩ := bl
          obtain ⟨c, m⟩ := cm
          rw [ex, ey] at h
          cases hk : (decide (l.length = m.length) && (b == c || (!b && c))) with
          | false => simp only [hk] at h; exact h.elim
          | true =>
            simp only [hk, if_true] at h
            obtain ⟨hl, hbc⟩ := Bool.and_eq_true_iff.mp hk
            have hl := of_decide_eq_true hl
            have key : ∀ {Z1 : Hp} {vs ws : List V}, Rps G.B Z1 vs l → Rps G.B Z1 ws m → ∀ i x y, vs[i]? = some x → ws[i]? = some y → ∃ dx dy : D, (zipD l m)[i]? = some (D.tup [dx, dy]) ∧ Rp G.B Z1 x dx ∧ Rp G.B Z1 y dy := fun r1 r2 i x y e1 e2 => by
              obtain ⟨d1, ed1, rd1⟩ := r1.at2 e1
              obtain ⟨d2, ed2, rd2⟩ := r2.at2 e2
              exact ⟨d1, d2, zipD_at _ _ _ _ _ ed1 ed2, rd1, rd2⟩
            cases b with
            | true =>
              cases c with
              | false => cases hbc
              | true =>
                refine .inl ⟨Z, ρ, s, I, ?_⟩
                rw [ef]
                intro vs Z1 H1 I1 z1 r
                match vs, r with
                | [v, w], .cons rv (.cons rw' .nil) =>
                  obtain ⟨a, xs, rfl, r1, ha, _⟩ := seqD_of rv ex
                  obtain ⟨b, ys, rfl, r2, hb, _⟩ := seqD_of rw' ey
                  have ha := ha rfl
                  have hb := hb rfl
                  exact ⟨a, b, xs, ys, rfl, .inl ⟨.inl (.inl (I1.zh _ _ ha)), .inl (.inl (I1.zh _ _ hb)), h _ Z1 H1 I1 z1 (walkD_pair (walk_zip (n := xs.length) (by rw [r1.len, r2.len, hl, Nat.min_self])) (by rw [zipD_len _ _ hl, r1.len]) (fun H z => ⟨.inl (.inl (z _ _ ha)), .inl (.inl (z _ _ hb))⟩) (key r1 r2))⟩⟩
            | false =>
              cases c with
              | false =>
                refine .inl ⟨Z, ρ, s, I, ?_⟩
                rw [ef]
                intro vs Z1 H1 I1 z1 r
                match vs, r with
                | [v, w], .cons rv (.cons rw' .nil) =>
                  obtain ⟨a, xs, rfl, r1, _, ha⟩ := seqD_of rv ex
                  obtain ⟨b, ys, rfl, r2, _, hb⟩ := seqD_of rw' ey
                  have ha := ha rfl
                  have hb := hb rfl
                  rw [hK]
                  exact ⟨a, b, xs, ys, rfl, .inr ⟨seqT_mono I1.zh ha, seqT_mono I1.zh hb, h _ Z1 H1 I1 z1 (walkD_pair (walk_zipT (by rw [r1.len, r2.len, hl])) (by rw [zipD_len _ _ hl, r1.len]) (fun H z => ⟨seqT_mono z ha, seqT_mono z hb⟩) (key r1 r2))⟩⟩
              | true =>
                refine .inr ⟨Z, ρ, s, I, ?_⟩
                rw [ef]
                intro vs Z1 H1 I1 z1 r
                match vs, r with
                | [v, w], .cons rv (.cons rw' .nil) =>
                  obtain ⟨a, xs, rfl, r1, _, ha⟩ := seqD_of rv ex
                  obtain ⟨b, ys, rfl, r2, hb, _⟩ := seqD_of rw' ey
                  have ha := ha rfl
                  have hb := hb rfl
                  exact ⟨a, b, xs, ys, rfl, seqT_mono I1.zh ha, .inl (.inl (I1.zh _ _ hb)), h _ Z1 H1 I1 z1 (walkD_pair (walk_zipX (by rw [r1.len, r2.len, hl])) (by rw [zipD_len _ _ hl, r1.len]) (fun H z => ⟨seqT_mono z ha, .inl (.inl (z _ _ hb))⟩) (key r1 r2))⟩
end
end Vv

/-! ## stars: in argument lists and displays, in defs -/
namespace Vv
def aStar (fe : Ef) (fr : Af) : Af := fun ρ s => (fe ρ s).bind fun d s1 => match seqD d with
  | some (_, l) => (fr ρ s1).bind fun xs s2 => .ok (l ++ xs) s2
  | none => .bad
section
variable {B : Tb} {u : Option (Addr × Value × Option Addr)} {X : Cx} {W : WX} {pos : Pos} {e : Expr} {es : List Expr} {fe : Ef} {fr fa : Af}
theorem va_star {p : Pos} (hK : X.K = B.K) (he : VE B u X W e fe) (hr : VA B u X W es fr) (hs : starEach (.Starred e p :: es) X.env = (true, eval e X.env) :: starEach es X.env := by rfl) : VA B u X W (.Starred e p :: es) (aStar fe fr) := by
  intro G hG
  have h1 := he G hG
  have h2 := hr G hG
  obtain ⟨rfl, rfl⟩ := hG
  refine pa_mono (StX.pa_star h1 h2 hs) fun σ H Q ⟨Z, ρ, s, I, h⟩ => ?_
  refine ⟨Z, ρ, s, I, h.bind.up (Same.refl Z) fun d s1 k v Z1 H1 I1 z1 rv => ?_⟩
  cases ed : seqD d with
  | none => simp only [ed] at k; exact k.elim
  | some bl =>
    obtain ⟨b, l⟩ := bl
    simp only [ed] at k
    obtain ⟨a, xs, rfl, rl, hl, ht⟩ := seqD_of rv ed
    refine ⟨a, xs, rfl, ?_, Z1, ρ, s1, I1, (ROk.bind k).up z1 fun ys s2 k2 ws Z2 H2 I2 z2 r2 => ?_⟩
    · cases b with
      | true => exact .inr (.inl (.inl (I1.zh _ _ (hl rfl))))
      | false => rw [hK]; exact .inl (seqT_mono I1.zh (ht rfl))
    · exact k2 (xs ++ ws) Z2 H2 I2 (z1.trans z2) ((Rps.mono z2 rl).app r2)
end
/-! a def with a star parameter: m before it -/
structure StarAt (K : PySem.W.Frag) (mg : Str → Option Value) (x : Str) (st : Stmt) (f : Addr) (fd : FuncData) : Prop where
  F : Fun K x x st f fd
  g : mg x = some (.ref f)
/-- what a def with m parameters and a star does with these -/
def runS (m n : Nat) (g : Sf) (ds : List D) : R D := if decide (m ≤ ds.length) && fit ds.length then runP n g (ds.take m ++ [.tup (ds.drop m)]) else .bad
def spS (B : Tb) (F : List D → R D) : Sp := fun vs H Q E => ∃ Z ds, Same Z H ∧ Rps B Z vs ds ∧ match F ds with
  | .ok d _ => ∀ v Z' H', Step Z H Z' H' → Rp B Z' v d → Q v H'
  | .exc c fs _ => ExE B E Z H (Step Z H) c fs
  | .bad => False
section
variable {P : Program} {w : World} {K : PySem.W.Frag} {mg : Str → Option Value} {base : Heap}
variable {x qual pv : Str} {st : Stmt} {f : Addr} {fd : FuncData} {N ps : List Str} {k n : Nat} {B : Tb} {g : Sf}
theorem fnS (F : Fun K x qual st f fd) (m : Nat) (Sc : FnScope N (ps ++ [pv]) (defScope st)) (hm : ps.length = m) (hn : N.length = n) (hmn : m + 1 ≤ n)
    (hbd : ∀ (kV doc pm : Value) (an : Option Addr) (cdv ct : Value) (us rest : List Value), us.length = ps.length → bindArgs (PySem.W.fnOf x qual (defArgs st) (defBody st) (defScope st) .none kV doc pm an cdv ct) ⟨us ++ rest, []⟩ = (newTuple rest >>= fun t => pure (ps.zip us ++ [(pv, t)])))
    (hb : ∀ (cdv : Value) (A : Around) (outer : List Env) (s : Shared) (H : Hp) (E : XK), Room k (A.deeper (envOfC qual (defScope st) s.heap.objs.size f cdv)) →
      VSs B none (cxOf (L2.CX P w) P w K mg base N qual (defScope st) f cdv A outer s H E) (fun cls d _ H => E cls d H) (defBody st) g) :
    FnR P w K mg base (L2.CX P w) (k + 1) f (spS B (runS m n g)) := by
  obtain ⟨oc, od, kV, doc, pm, an, cdv, ct, osl, rfl, lk, hcd⟩ := F.ex
  refine (StX.fn_star (sp := spP B (m + 1) (runP n g)) lk hcd Sc StX.cxUp (hbd _ _ _ _ _ _) fun A outer s H vs Q E hr h => ?_).imp fun vs H Q E h => ?_
  · obtain ⟨Z, ds, z, hl, r, h⟩ := h
    let G : Gf := ⟨B, Z, H, none, none, [], none⟩
    refine ⟨_, hb cdv A outer s H E hr G ⟨rfl, rfl⟩, Z, en0 n (ds.map .val), none, ?_, ?_⟩
    · refine ⟨?_, z, Same.refl Z, fun p o e => .inl e, fun b o e _ _ => e, (fun _ e => nomatch e), (fun _ e => nomatch e), (fun _ e => nomatch e), fun i x e => ?_, fun i j p _ oi => ?_⟩
      · have hv := r.len
        unfold en0 L2.start
        simp only [List.length_append, List.length_replicate, List.length_map]
        omega
      · rcases en0_at e with q | rfl
        · rw [List.getElem?_map] at q
          obtain ⟨d, e1, rfl⟩ := Option.map_eq_some_iff.mp q
          obtain ⟨v, e2, rv⟩ := r.at e1
          exact ⟨v, start_at e2, rv⟩
        · trivial
      · exfalso
        unfold OwnAt at oi
        cases q : (en0 n (ds.map Sl.val))[i]? with
        | none => rw [q] at oi; exact oi
        | some y =>
          rw [q] at oi
          rcases en0_at q with q2 | rfl
          · rw [List.getElem?_map] at q2
            obtain ⟨d, e1, rfl⟩ := Option.map_eq_some_iff.mp q2
            exact oi
          · exact oi
    · have stp : ∀ {σ ρ s' Z' H'}, VI G Z' H' σ ρ s' → Same Z Z' → Step Z H Z' H' := fun {σ ρ s' Z' H'} I z1 => ⟨fun b o e => I.keep b o e (fun _ e => nomatch e) (fun _ e => nomatch e), z1, I.zh, I.zn⟩
      unfold runP resP at h
      cases eg : g (en0 n (ds.map .val)) none with
      | nx ρ' s' => rw [eg] at h; exact fun σ Z' H' I z1 => h .non Z' H' (stp I z1) .non
      | rt d s' => rw [eg] at h; exact fun v σ ρ Z' H' I z1 rv => h v Z' H' (stp I z1) rv
      | exc c fs ρ' s' => rw [eg] at h; exact fun σ d vs Z' H' I z1 e l rs => h d vs Z' H' (stp I z1) e l rs
      | bk ρ' s' => rw [eg] at h; exact h.elim
      | ct ρ' s' => rw [eg] at h; exact h.elim
      | bad => rw [eg] at h; exact h.elim
  · obtain ⟨Z, ds, z, r, h⟩ := h
    unfold runS at h
    cases hk : (decide (m ≤ ds.length) && fit ds.length) with
    | false => simp only [hk] at h; exact h.elim
    | true =>
      simp only [hk, if_true] at h
      obtain ⟨h1, h2⟩ := Bool.and_eq_true_iff.mp hk
      have h1 := of_decide_eq_true h1
      have hlv := r.len
      refine ⟨vs.take m, vs.drop m, (List.take_append_drop m vs).symm, by rw [List.length_take, hm]; omega, ?_, fun p hp => ?_⟩
      · exact Nat.le_trans (by rw [List.length_drop]; omega) (fit_le h2)
      · have t := Step.new (.tup (vs.drop m)) z hp
        refine ⟨upd Z p (.tup (vs.drop m)), ds.take m ++ [.tup (ds.drop m)], t.zh, by rw [List.length_append, List.length_take, List.length_singleton]; omega, ((r.take m).mono t.zz).app (Rps.one (.tup (.inl (.inl upd_same)) ((r.drop m).mono t.zz))), ?_⟩
        cases er : runP n g (ds.take m ++ [.tup (ds.drop m)]) with
        | bad => rw [er] at h; exact h.elim
        | ok d s' => rw [er] at h; exact fun v Z' H' t2 rv => h v Z' H' (t.trans t2) rv
        | exc c fs s' => rw [er] at h; exact fun d vs Z' H' t2 e l rs => h d vs Z' H' (t.trans t2) e l rs
end
/-! its calls -/
section
variable {B : Tb} {u : Option (Addr × Value × Option Addr)} {X : Cx} {W : WX} {pos : Pos} {e : Expr}
variable {k : Nat} {f : Addr} {x : Str} {p : Pos} {es : List Expr} {fa : Af}
theorem run_fnRS {pins : List (Addr × Obj)} {σ : L2.St} {H : Hp} {s : Shared} {Q : VK} {us : List Value} {vs : List V} {sp : Sp} {E : XK} (F : FnR X.prog X.w X.K X.mg X.base (L2.CX X.prog X.w) k f sp) (hr : Room k X.A) (hx : PassesAt (L2.CX X.prog X.w) X σ E)
    (I : Inv X pins σ H s) (r : Vals vs us) (h : sp vs H Q E) : wpAny (model X.prog X.w) X.A (call (.ref f) us) (EP X pins σ Q) X.xe s := by
  refine wpAny_call (codeAny_mono (F X.A X.stack s H us vs Q E hr I.env0 r h) fun r s' hq => ?_)
  cases r with
  | error e => exact hx pins H s e s' I hq
  | ok fl =>
    cases fl with
    | ret u => exact I.after hq
    | next => exact False.elim hq
    | brk => exact False.elim hq
    | cont => exact False.elim hq
def eCallS (F : List D → R D) (fa : Af) : Ef := fun ρ s => (fa ρ s).bind fun ds s1 => pickP F ds s1
theorem callS_of {G : Gf} {F : List D → R D} {σ : L2.St} {H : Hp} {Q : VK} (h : tV G W (eCallS F fa) σ H Q) : tVA G W fa σ H fun vs H1 => spS G.B F vs H1 Q (WE W σ) := by
  obtain ⟨Z, ρ, s, I, h⟩ := h
  refine ⟨Z, ρ, s, I, h.bind.up (Same.refl Z) fun ds s1 h1 vs Z1 H1 I1 z1 r => ?_⟩
  obtain ⟨Z2, ds2, a, _, b, c⟩ := spP_of (m := ds.length) rfl I1 z1 r h1
  exact ⟨Z1, ds, I1.zh, r, by
    unfold pickP at h1
    cases ef : F ds with
    | bad => rw [ef] at h1; exact h1.elim
    | ok d _ => rw [ef] at h1; exact fun v Z' H' t rv => h1 v Z' H' (I1.step t) (z1.trans t.zz) rv
    | exc c fs _ => rw [ef] at h1; exact fun d vs Z' H' t e l rs => h1 d vs Z' H' (I1.step t) (z1.trans t.zz) e l rs⟩
theorem ve_callS (F : List D → R D) (hF : FnR X.prog X.w X.K X.mg X.base (L2.CX X.prog X.w) k f (spS B F)) (hr : Room k X.A) (hg : Gl X x) (hm : X.mg x = some (.ref f)) (hk : PySem.W.keepIn X.K (.ref f) = true) (tk : Takes X W)
    (ha : VA B u X W (e :: es) fa) (hdb : (x == ("__debug__" : Str)) = false := by decide) (he : starEach (e :: es) X.env = (false, eval e X.env) :: starEach es X.env := by rfl) (hpl : (backTo pos (starEach es X.env)).any (·.1) = false := by rfl) :
    VE B u X W (.Call (.Name x p) (e :: es) [] pos) (eCallS F fa) := by
  intro G hG
  have h0 := ha G hG
  obtain ⟨rfl, rfl⟩ := hG
  refine ⟨fun pins s σ H Q I h => ?_⟩
  refine wpAny_Call_Name_kw (ld_glob I hg hm ?_ hdb)
  refine PySem.W.callWith_K (h₀ := X.base) I.ok.mod.kin hk (thn (h0.run pos pins s σ H _ I (callS_of h)) fun us s1 ⟨vs, H1, I1, r, q⟩ => ⟨I1.kIn, ?_⟩) he hpl
  exact run_fnRS hF hr (passAt tk σ) I1 r q
theorem ve_callS0 (F : List D → R D) (hF : FnR X.prog X.w X.K X.mg X.base (L2.CX X.prog X.w) k f (spS B F)) (hr : Room k X.A) (hg : Gl X x) (hm : X.mg x = some (.ref f)) (hk : PySem.W.keepIn X.K (.ref f) = true) (tk : Takes X W) (hdb : (x == ("__debug__" : Str)) = false := by decide) :
    VE B u X W (.Call (.Name x p) [] [] pos) (eCallS F aNil) := by
  intro G hG
  obtain ⟨rfl, rfl⟩ := hG
  refine ⟨fun pins s σ H Q I h => ?_⟩
  refine wpAny_Call_Name_kw (ld_glob I hg hm ?_ hdb)
  obtain ⟨Z, ρ, s', I', k⟩ := callS_of h
  exact PySem.W.callWith_K0 I.kIn hk (run_fnRS (us := []) (vs := []) hF hr (passAt tk σ) I .nil (k [] Z H I' (Same.refl Z) .nil))
end
end Vv

/-! ## static methods -/
namespace Vv
section
variable {B : Tb} {u : Option (Addr × Value × Option Addr)} {X : Cx} {W : WX} {pos : Pos} {e o : Expr} {es : List Expr} {fa : Af} {k : Nat} {f : Addr} {fd : FuncData} {ps : List Str} {mn : Str} {apos : Pos} {C p : Addr} {mc : Value}
theorem ve_stat {pl : Sem Bool} {m : Nat} (F : List D → R D) (cls : PE X o (tC (.ref C))) (r : ClX.CRead X.K C mc) (M : SMet X.K C mc mn p f) (hF : FnOk X.prog X.w X.K X.mg X.base (L2.CX X.prog X.w) k f fd ps (spP B m F)) (hr : Room k X.A) (hb : L2.Binds X.K fd ps []) (tk : Takes X W) (ha : VA B u X W (e :: es) fa)
    (hst : starEach (e :: es) X.env = (false, eval e X.env) :: starEach es X.env := by rfl) (hpl : (backTo pos (starEach es X.env)).any (·.1) = false := by rfl)
    (ht : eval (.Call (.Attribute o mn apos) (e :: es) [] pos) X.env = (do let y ← eval o X.env; standAt apos.atName; let (g, first) ← holding [y] (getMethod y mn pl); callWith pos g first (backTo pos (starEach (e :: es) X.env)) (backToKw pos (keywordEach [] X.env))) := by rfl) :
    VE B u X W (.Call (.Attribute o mn apos) (e :: es) [] pos) (eCall m F fa) := by
  intro G hG
  have h0 := ha G hG
  obtain ⟨rfl, rfl⟩ := hG
  refine pe_mono (pe_statS (E := WE W) (pl := pl) cls r M hF hr hb (fun σ => passAt tk σ) h0 hst hpl ht) fun σ H Q ⟨Z, ρ, s, I, h⟩ => ?_
  refine ⟨rfl, Z, ρ, s, I, h.bind.up (Same.refl Z) fun ds s1 h1 vs Z1 H1 I1 z1 r => ?_⟩
  by_cases hl : ds.length = m
  · rw [if_pos hl] at h1
    exact spP_of hl I1 z1 r h1
  · rw [if_neg hl] at h1
    exact h1.elim
end
end Vv

/-! ## list(range(..)) -/
namespace Vv
def lRg (f : Af) : Lf := fun ρ s => (f ρ s).bind fun ds s1 => match ds with
  | [.int n] => if decide (0 ≤ n) && decide (n ≤ 100000) then .ok (rangeL 0 n.toNat) s1 else .bad
  | [.int a, .int b] => if decide (-100000 ≤ a) && (decide (a ≤ 100000) && (decide (-100000 ≤ b) && decide (b ≤ 100000))) then .ok (rangeL a (b - a).toNat) s1 else .bad
  | _ => .bad
section
variable {B : Tb} {u : Option (Addr × Value × Option Addr)} {X : Cx} {W : WX} {pos pos2 p p2 : Pos} {e e2 : Expr} {fe fe2 : Ef}
theorem rps_ints {Z : Hp} (f : Nat → Int) : ∀ l : List Nat, Rps B Z (l.map fun i => V.int (f i)) (l.map fun i => D.int (f i))
  | [] => .nil
  | _ :: l => .cons (.int _) (rps_ints f l)
theorem vf_rg1 (hc : X.calm = true) (hg : Gl X "list") (hm : X.mg "list" = none) (hg2 : Gl X "range") (hm2 : X.mg "range" = none) (he : VE B u X W e fe) (n1 : starEach [e] X.env = (false, eval e X.env) :: starEach [] X.env := by rfl)
    (na : starEach [.Call (.Name "range" p2) [e] [] pos2] X.env = (false, eval (.Call (.Name "range" p2) [e] [] pos2) X.env) :: starEach [] X.env := by rfl) : VF B u X W (.Call (.Name "list" p) [.Call (.Name "range" p2) [e] [] pos2] [] pos) (lRg (aCons fe aNil)) := by
  intro G hG
  have h0 := he G hG
  obtain ⟨rfl, rfl⟩ := hG
  refine pe_mono (pe_listRg hc hg hm (prg_1 hg2 hm2 h0 n1) na) fun σ H Q ⟨Z, ρ, s, I, h⟩ => ?_
  have h := h.bind
  have h : ROk G W σ ρ Z ((fe ρ s).bind fun x s1 => .ok [x] s1) _ := h
  refine ⟨Z, ρ, s, I, (ROk.bind h).up (Same.refl Z) fun d s1 h1 v Z1 H1 I1 z1 rv => ?_⟩
  cases d with
  | int n =>
    cases rv
    have h1 : ROk G W σ ρ Z (if decide (0 ≤ n) && decide (n ≤ 100000) then .ok (rangeL 0 n.toNat) s1 else .bad) _ := h1
    cases hk : (decide (0 ≤ n) && decide (n ≤ 100000)) with
    | false => simp only [hk] at h1; exact h1.elim
    | true =>
      simp only [hk, if_true] at h1
      simp only [Bool.and_eq_true, decide_eq_true_eq] at hk
      refine ⟨n, rfl, RgOk.of_le (by omega) (by omega) (by omega) (by omega), fun q hq => ?_⟩
      refine h1 q _ Z1 _ (I1.step (Step.newH _ I1.zh hq)) z1 upd_same (I1.own1 hq) ?_
      have e : (n - 0).toNat = n.toNat := by omega
      unfold rgV rangeL
      rw [e]
      exact rps_ints _ _
  | _ => exact h1.elim
theorem vf_rg2 (hc : X.calm = true) (hg : Gl X "list") (hm : X.mg "list" = none) (hg2 : Gl X "range") (hm2 : X.mg "range" = none) (he : VE B u X W e fe) (he2 : VE B u X W e2 fe2) (n1 : starEach [e, e2] X.env = (false, eval e X.env) :: starEach [e2] X.env := by rfl) (n2 : starEach [e2] X.env = (false, eval e2 X.env) :: starEach [] X.env := by rfl) (n3 : ((backTo pos2 (starEach [e2] X.env)).any fun x => x.fst) = false := by rfl)
    (na : starEach [.Call (.Name "range" p2) [e, e2] [] pos2] X.env = (false, eval (.Call (.Name "range" p2) [e, e2] [] pos2) X.env) :: starEach [] X.env := by rfl) : VF B u X W (.Call (.Name "list" p) [.Call (.Name "range" p2) [e, e2] [] pos2] [] pos) (lRg (aCons fe (aCons fe2 aNil))) := by
  intro G hG
  have h0 := he G hG
  have h02 := he2 G hG
  obtain ⟨rfl, rfl⟩ := hG
  refine pe_mono (pe_listRg hc hg hm (prg_2 hg2 hm2 h0 h02 n1 n2 n3) na) fun σ H Q ⟨Z, ρ, s, I, h⟩ => ?_
  have h := h.bind
  have h : ROk G W σ ρ Z ((fe ρ s).bind fun x s1 => ((fe2 ρ s1).bind fun y s2 => .ok [y] s2).bind fun xs s2 => .ok (x :: xs) s2) _ := h
  refine ⟨Z, ρ, s, I, (ROk.bind h).up (Same.refl Z) fun d s1 h1 v Z1 H1 I1 z1 rv => ?_⟩
  have h1 := ROk.bind h1
  refine ⟨Z1, ρ, s1, I1, (ROk.bind h1).up z1 fun d2 s2 h2 v2 Z2 H2 I2 z2 rv2 => ?_⟩
  cases d with
  | int a =>
    cases d2 with
    | int b =>
      cases rv
      cases rv2
      have h2 : ROk G W σ ρ Z (if decide (-100000 ≤ a) && (decide (a ≤ 100000) && (decide (-100000 ≤ b) && decide (b ≤ 100000))) then .ok (rangeL a (b - a).toNat) s2 else .bad) _ := h2
      cases hk : (decide (-100000 ≤ a) && (decide (a ≤ 100000) && (decide (-100000 ≤ b) && decide (b ≤ 100000)))) with
      | false => simp only [hk] at h2; exact h2.elim
      | true =>
        simp only [hk, if_true] at h2
        simp only [Bool.and_eq_true, decide_eq_true_eq] at hk
        refine ⟨a, b, rfl, rfl, ⟨by omega, by omega, by omega, by omega, by omega⟩, fun q hq => ?_⟩
        exact h2 q _ Z2 _ (I2.step (Step.newH _ I2.zh hq)) (z1.trans z2) upd_same (I2.own1 hq) (rps_ints _ _)
    | _ => exact h2.elim
  | _ => cases d2 <;> exact h2.elim
end
end Vv

/-! ## a new list of atoms from what reads our own lists -/
namespace Vv
def lU (f : Lf) : Lf := fun ρ s => if noOb ρ then (f (ρ.map frzS) s).calm.bind fun ds s1 => if ds.all atomD then .ok ds s1 else .bad else .bad
section
variable {B : Tb} {u : Option (Addr × Value × Option Addr)} {X : Cx} {W : WX} {pos : Pos}
theorem atoms_any {Z Z' : Hp} : ∀ {vs : List V} {ds : List D}, Rps B Z vs ds → ds.all atomD = true → Rps B Z' vs ds
  | _, _, .nil, _ => .nil
  | _, _, .cons h r, a => by
    rw [List.all_cons, Bool.and_eq_true] at a
    exact .cons (atom_any h a.1) (atoms_any r a.2)
theorem vf_u0 {G : Gf} {f : Lf} {σ : L2.St} {H : Hp} {Q : VK} (h : tVF G W (lU f) σ H Q) : tVF G W f σ H Q := by
  obtain ⟨Z, ρ, s, I, h⟩ := h
  unfold lU at h
  cases no : noOb ρ with
  | false => rw [no] at h; exact h.elim
  | true =>
    rw [no] at h
    have zz := (I.frzA no).2
    refine ⟨_, _, s, (I.frzA no).1, (ROk.calm ((show ROk G W σ ρ Z ((f (ρ.map frzS) s).calm.bind fun ds s1 => if ds.all atomD then .ok ds s1 else .bad) _ from h).bind)).up (Same.refl _) fun ds s1 h1 p vs Z1 H1 J z e o r => ?_⟩
    cases a : ds.all atomD with
    | false => rw [a] at h1; exact h1.elim
    | true =>
      rw [a] at h1
      refine h1 p vs Z H1 (I.unfrz no J z) (Same.refl Z) e ⟨⟨?_, o.f.h, o.f.d⟩, o.h, fun i oi ei => ?_⟩ (atoms_any r a)
      · cases q : Z p with
        | none => rfl
        | some x =>
          have := z _ _ (zz _ _ q)
          rw [o.f.z] at this
          cases this
      · unfold OwnAt at oi
        cases q : ρ[i]? with
        | none => rw [q] at oi; exact oi
        | some y =>
          rw [q] at oi
          cases y with
          | own ds2 =>
            obtain ⟨p2, vs2, ep, hp, _⟩ := I.sl i _ q
            rw [ei] at ep
            cases ep
            have h2 : frzZ Z H σ ρ p = H p := if_pos ⟨i, by unfold OwnL; rw [q]; trivial, ei⟩
            have := z p _ (h2.trans hp)
            rw [o.f.z] at this
            cases this
          | ob c fs =>
            have := List.all_eq_true.mp no _ (List.mem_of_getElem? q)
            cases this
          | _ => exact oi
theorem vf_u {e : Expr} {f : Lf} (h : VF B u X W e f) : VF B u X W e (lU f) := fun G hG => pe_mono (h G hG) fun _ _ _ q => vf_u0 q
theorem vs_lcU (i : Nat) {is : List Nat} {y : Str} {py spos : Pos} {elt tg iter : Expr} {ifs : List Expr} {scope : Scope} {own : List (Str × Nat)} {fi : Af} {gt : D → En → Option En} {ft : Tf} {fe : Ef} (hc : X.calm = true) (hN : X.N.Nodup) (hy : X.N[i]? = some y) (hyl : X.env.scope.names.lookup y = some .local)
    (hsw : swapsWith (.ListComp elt [⟨tg, iter, ifs, 0⟩] scope pos) (some (.Name y py)) spos.line X.env = pure true) (hi : VIt B u X W tg iter fi) (ok : BlkOk X.N X.env.scope scope own) (hs : own.map (·.2) = is)
    (hg : ∃ g, (∀ (s : Shared) (H : Hp) (C : Addr) (cl : List (Str × Addr)) (fp : List Addr), PG (X.blk s H scope (compEnvC scope cl C X.env) fp) tg g) ∧ VGok B is g gt)
    (ht : ∀ (s : Shared) (H : Hp) (C : Addr) (cl : List (Str × Addr)) (fp : List Addr), VTs B u (X.blk s H scope (compEnvC scope cl C X.env) fp) W0 ifs ft)
    (he : ∀ (s : Shared) (H : Hp) (C : Addr) (cl : List (Str × Addr)) (fp : List Addr), VE B u (X.blk s H scope (compEnvC scope cl C X.env) fp) W0 elt fe) (hx : ∀ x, foldedSetIterable iter X.env x = pure x := by intro _; rfl) :
    VS B u X W (.Assign [.Name y py] (.ListComp elt [⟨tg, iter, ifs, 0⟩] scope pos) spos) (sAsg (eOf (lU (lLc is fi gt ft fe))) (gtN i)) := by
  intro G hG
  obtain ⟨rfl, rfl⟩ := hG
  refine ps_mono (ps_lcA hc hN hy hyl hsw hi ok hs hg ht he hx) fun D' σ H h => ?_
  obtain ⟨Z, ρ, s, I, h⟩ := asg_of (is := [i]) gtN_ok h
  exact vf_u0 (vf_ve0 ⟨Z, ρ, s, I, h⟩)
theorem vs_lcUO (i : Nat) {is : List Nat} {y : Str} {py spos : Pos} {elt tg iter : Expr} {ifs : List Expr} {scope : Scope} {own : List (Str × Nat)} {fi : Af} {gt : D → En → Option En} {ft : Tf} {fe : Ef} (hc : X.calm = true) (hN : X.N.Nodup) (hy : X.N[i]? = some y) (hyl : X.env.scope.names.lookup y = some .local)
    (hsw : swapsWith (.ListComp elt [⟨tg, iter, ifs, 0⟩] scope pos) (some (.Name y py)) spos.line X.env = pure true) (hi : VIt B u X W tg iter fi) (ok : BlkOk X.N X.env.scope scope own) (hs : own.map (·.2) = is)
    (hg : ∃ g, (∀ (s : Shared) (H : Hp) (C : Addr) (cl : List (Str × Addr)) (fp : List Addr), PG (X.blk s H scope (compEnvC scope cl C X.env) fp) tg g) ∧ VGok B is g gt)
    (ht : ∀ (s : Shared) (H : Hp) (C : Addr) (cl : List (Str × Addr)) (fp : List Addr), VTs B u (X.blk s H scope (compEnvC scope cl C X.env) fp) W0 ifs ft)
    (he : ∀ (s : Shared) (H : Hp) (C : Addr) (cl : List (Str × Addr)) (fp : List Addr), VE B u (X.blk s H scope (compEnvC scope cl C X.env) fp) W0 elt fe) (hx : ∀ x, foldedSetIterable iter X.env x = pure x := by intro _; rfl) :
    VS B u X W (.Assign [.Name y py] (.ListComp elt [⟨tg, iter, ifs, 0⟩] scope pos) spos) (sOwn i (lU (lLc is fi gt ft fe))) := by
  intro G hG
  obtain ⟨rfl, rfl⟩ := hG
  refine ps_mono (ps_lcA hc hN hy hyl hsw hi ok hs hg ht he hx) fun D' σ H h => ?_
  exact vf_u0 (own_of h)
end
end Vv

/-! ## defaults that are empty tuples -/
namespace Vv
/-- a constant empty tuple -/
def EmpT (K : PySem.W.Frag) (t : Addr) : Prop := ∃ (o : Obj) (n : Nat), K.lookup t = some o ∧ o.cls = .type "tuple" ∧ o.data = .seq #[] n
theorem EmpT.sq {K : PySem.W.Frag} {t : Addr} (e : EmpT K t) (H : Hp) : SqT K H t [] := let ⟨o, n, a, b, c⟩ := e; .inr ⟨o, #[], n, a, b, c, Nat.zero_le _, .nil⟩
/-- the last parameter's default is an empty tuple -/
def Dflt0 (K : PySem.W.Frag) (fd : FuncData) (ps : List Str) : Prop := ∃ ed, EmpT K ed ∧ Binds K fd ps [.ref ed]
theorem binds0 {K : PySem.W.Frag} {fd : FuncData} {ps : List Str} {T : Addr} {o : Obj} {v : Value} {n : Nat} (lT : K.lookup T = some o) (oT : o.data = .seq #[v] n)
    (h : ∀ us : List Value, us.length + 1 = ps.length → ∃ k, bindArgs fd ⟨us, []⟩ = seqItems? (.ref T) >>= k ∧ k (some #[v]) = pure (ps.zip (us ++ [v]))) : Binds K fd ps [v] := fun s us X hl => by
  obtain ⟨k, e1, e2⟩ := h us (by rw [List.length_append] at hl; exact hl)
  refine BindsTo.of_looks fun M => ?_
  rw [e1]
  exact looks_items X lT oT (.of_pure e2)
theorem mt_joinA {X : Cx} {B : Tb} (hK : X.K = B.K) : MtR X "str.join" (rJoin1 B.K) := hK ▸ mt_join
section
variable {X : Cx} {CX : CXT} {n : Nat} {f C : Addr} {sp : Sp} {E : L2.St → XK} {x : Str} {p pos : Pos} {e : Expr} {es : List Expr} {t : TA}
theorem run_makeRS {E : XK} {Q : VK} {us : List Value} {vs : List V} {pins : List (Addr × Obj)} {σ : L2.St} {H : Hp} {s : Shared} (M : Mk X.K C f) (F : FnR X.prog X.w X.K X.mg X.base CX n f sp) (room : Room (n + 1) X.A)
    (esc : PassesAt CX X σ E) (J : L2.Inv X pins σ H s) (rs : Vals vs us) (h : ∀ y dy, H y = none → H dy = none → dy ≠ y → sp (.ref y :: vs) (L2.upd (L2.upd H dy (.own y)) y (.ins C dy [])) (fun v H2 => v = .non ∧ Q (.ref y) H2) E) :
    wpAny (model X.prog X.w) X.A (call (.ref C) us) (EP X pins σ Q) X.xe s := by
  have wish := h (s.heap.objs.size + 1) s.heap.objs.size (J.hok.fresh (Nat.le_succ _)) (J.hok.fresh (Nat.le_refl _)) (Nat.ne_of_lt (Nat.lt_succ_self _))
  have J2 := L2.Inv.made (C := C) J
  refine wpAny_call (make_map (f := f) J.kIn M.makes M.init (beq_iff_eq.mp M.fn) (codeAny_mono (F _ X.stack _ _ (Value.ref (s.heap.objs.size + 1) :: us) (V.ref (s.heap.objs.size + 1) :: vs) _ E (room.make C us []) (J2.env0.make C us []) (.cons val_ref rs) wish) fun res s' post => ?_))
  cases res with
  | error er => exact esc pins _ _ er s' J2 post
  | ok fl =>
    cases fl with
    | ret u =>
      obtain ⟨v, H', J3, rv, ev, w⟩ := J2.after post
      subst ev
      exact ⟨rv, ⟨V.ref (s.heap.objs.size + 1), H', J3, val_ref, w⟩⟩
    | next => exact post.elim
    | brk => exact post.elim
    | cont => exact post.elim
theorem pe_makeRS (M : Mk X.K C f) (F : FnR X.prog X.w X.K X.mg X.base CX n f sp) (room : Room (n + 1) X.A) (hg : Gl X x) (hm : X.mg x = some (.ref C)) (esc : ∀ σ, PassesAt CX X σ (E σ)) (ha : PA X (e :: es) t)
    (hdb : (x == ("__debug__" : Str)) = false := by decide) (he : starEach (e :: es) X.env = (false, eval e X.env) :: starEach es X.env := by rfl) (hpl : (backTo pos (starEach es X.env)).any (·.1) = false := by rfl) : PE X (.Call (.Name x p) (e :: es) [] pos) (tMakeS C sp E t) := by
  refine ⟨fun pins s σ H Q J h => wpAny_Call_Name_kw (ld_glob J hg hm ?_ hdb)⟩
  exact PySem.W.callWith_K (h₀ := X.base) J.ok.mod.kin M.kp (thn (ha.run pos pins s σ H _ J h) fun us s1 ⟨vs, H1, J1, r, q⟩ => ⟨J1.kIn, run_makeRS M F room (esc σ) J1 r q⟩) he hpl
end
/-- a call with the default in the last place -/
def eCallD (m : Nat) (F : List D → R D) (fa : Af) : Ef := fun ρ s => (fa ρ s).bind fun ds s1 => if ds.length = m then pickP F (ds ++ [.tup []]) s1 else .bad
section
variable {B : Tb} {u : Option (Addr × Value × Option Addr)} {X : Cx} {W : WX} {pos : Pos} {e o : Expr} {fo : Ef}
variable {k m : Nat} {f : Addr} {fd : FuncData} {ps : List Str} {x : Str} {p : Pos} {es : List Expr} {fa : Af}
theorem ve_makeD (c : Nat) {ed : Addr} (F : List D → R D) (M : Mk X.K (B.cls c) f) (hF : FnOk X.prog X.w X.K X.mg X.base (L2.CX X.prog X.w) k f fd ps (spI B (m + 1) c F)) (hr : Room (k + 1) X.A) (hg : Gl X x) (hm : X.mg x = some (.ref (B.cls c))) (hb : Binds X.K fd ps [.ref ed]) (hem : EmpT B.K ed) (tk : Takes X W)
    (hF2 : ∀ ds d s, F ds = .ok d s → ∃ fs, d = .obj c fs ∧ fs.length = (B.fld c).length)
    (ha : VA B u X W (e :: es) fa) (hdb : (x == ("__debug__" : Str)) = false := by decide) (he : starEach (e :: es) X.env = (false, eval e X.env) :: starEach es X.env := by rfl) (hpl : (backTo pos (starEach es X.env)).any (·.1) = false := by rfl) :
    VE B u X W (.Call (.Name x p) (e :: es) [] pos) (eCallD m F fa) := by
  intro G hG
  have h0 := ha G hG
  obtain ⟨rfl, rfl⟩ := hG
  refine pe_mono (pe_makeRS (E := WE W) M (hF.raw hb (dvs := [V.ref ed]) (.cons rfl .nil)) hr hg hm (fun σ => passAt tk σ) h0 hdb he hpl) fun σ H Q ⟨Z, ρ, s, I, h⟩ => ?_
  refine ⟨Z, ρ, s, I, h.bind.up (Same.refl Z) fun ds s1 h1 vs Z1 H1 I1 z1 r y dy ny ndy ne => ?_⟩
  by_cases hl : ds.length = m
  · rw [if_pos hl] at h1
    have n2 : upd H1 dy (.own y) y = none := by rw [upd_ne (Ne.symm ne)]; exact ny
    have hs : Same H1 (upd (upd H1 dy (.own y)) y (.ins (G.B.cls c) dy [])) := same_new (same_new (Same.refl H1) ndy) n2
    have zy : Z1 y = none := I1.zh.free ny
    have stp : ∀ {Z' H'}, StepH y Z1 (upd (upd H1 dy (.own y)) y (.ins (G.B.cls c) dy [])) Z' H' → Step Z1 H1 Z' H' := fun {Z' H'} t =>
      ⟨fun b o e => t.hh b o (ne_of_none e ny) (hs b o e), t.zz, t.zh, fun p o e => (t.zn p o e).elim .inl fun q => .inr (hs.free q)⟩
    refine ⟨Z1, ds ++ [.tup []], y, dy, vs ++ [V.ref ed], rfl, I1.zh.trans hs, by rw [List.length_append, hl]; rfl, r.app (Rps.one (.tup (hem.sq Z1) .nil)), upd_same, zy, ?_⟩
    unfold pickP at h1
    cases ef : F (ds ++ [.tup []]) with
    | bad => rw [ef] at h1; exact h1.elim
    | ok d s2 =>
      rw [ef] at h1
      intro Z' H' fs vs' dx' ed t zn' hy hl' rs
      subst ed
      have t1 := stp t
      have zz : Same Z' (upd Z' y (.ins (G.B.cls c) dx' ((G.B.fld c).zip vs'))) := same_new (Same.refl Z') zn'
      have t2 : Step Z1 H1 (upd Z' y (.ins (G.B.cls c) dx' ((G.B.fld c).zip vs'))) H' := by
        refine ⟨t1.hh, t1.zz.trans zz, fun b o e => ?_, fun b o e => ?_⟩
        · by_cases q : b = y
          · subst q; rw [upd_same] at e; cases e; exact hy
          · rw [upd_ne q] at e; exact t1.zh b o e
        · by_cases q : b = y
          · subst q; exact .inr ny
          · rw [upd_ne q] at e; exact t1.zn b o e
      exact ⟨rfl, h1 _ _ H' (I1.step t2) (z1.trans t2.zz) (.obj upd_same hl' (rs.mono zz))⟩
    | exc c2 fs s2 =>
      rw [ef] at h1
      exact fun d vs Z' H' t e l rs => h1 d vs Z' H' (I1.step (stp t)) (z1.trans t.zz) e l rs
  · rw [if_neg hl] at h1
    exact h1.elim
end
end Vv

/-! ## for x in an object: its __iter__ gives the iterator of a field's tuple -/
namespace Vv
def itC (c k : Nat) : D → Option (List D)
  | .obj c' fs => if c' = c then (match fs[k]? with
    | some (.tup ds) => some ds
    | _ => none) else none
  | d => itD d
def iItC (c k : Nat) (f : Ef) : Af := fun ρ s => (f ρ s).bind fun d s1 => opt (itC c k d) s1
section
variable {B : Tb} {u : Option (Addr × Value × Option Addr)} {X : Cx} {W : WX} {pos : Pos}
theorem itC_obj {c k : Nat} {d : D} {ds : List D} (e : itC c k d = some ds) : itD d = some ds ∨ ∃ fs, d = .obj c fs ∧ fs[k]? = some (.tup ds) := by
  cases d with
  | obj c' fs =>
    replace e : (if c' = c then (match fs[k]? with
      | some (.tup ds) => some ds
      | _ => none) else none) = some ds := e
    by_cases h : c' = c
    · rw [if_pos h] at e
      subst h
      cases q : fs[k]? with
      | none => rw [q] at e; cases e
      | some x =>
        rw [q] at e
        cases x with
        | tup l => cases e; exact .inr ⟨fs, rfl, q⟩
        | _ => cases e
    · rw [if_neg h] at e
      cases e
  | _ => exact .inl e
theorem vi_anyC (c k : Nat) {n : Nat} {f : Addr} {fd : FuncData} {ps : List Str} {fld : Str} {tg e : Expr} {fe : Ef} (hK : X.K = B.K) (M : OwnM X.K (B.cls c) "__iter__" f) (hr : Room n X.A) (F : ∀ base : Heap, FnOk X.prog X.w X.K X.mg base CX0 n f fd ps (spItT X.K (B.cls c) fld base.objs.size)) (hb : Binds X.K fd ps [])
    (lk : ObjLk B c fld k) (he : VE B u X W e fe) : VIt B u X W tg e (iItC c k fe) := by
  intro G hG
  have h0 := he G hG
  obtain ⟨rfl, rfl⟩ := hG
  refine pi_mono (pi_or (pi_or (pi_seqQ (K := G.B.K) hK h0) (pi_str h0)) (pi_ownT (fld := fld) (E := E0) M hr F hb pass0 h0)) fun σ H Rr ⟨Z, ρ, s, I, h⟩ => ?_
  have h := h.bind
  cases ef : fe ρ s with
  | bad => rw [ef] at h; exact h.elim
  | exc c fs s1 => rw [ef] at h; exact .inl (.inl ⟨Z, ρ, s, I, by rw [ef]; exact h⟩)
  | ok d s1 =>
    rw [ef] at h
    obtain ⟨ds, e1, kk⟩ := ROk.opt h
    rcases itC_obj e1 with e1 | ⟨fs, rfl, e2⟩
    · by_cases hs : ∃ l, d = .str l
      · obtain ⟨l, rfl⟩ := hs
        cases e1
        refine .inl (.inr ⟨Z, ρ, s, I, ?_⟩)
        rw [ef]
        intro v Z1 H1 I1 z1 r
        cases r
        exact ⟨_, rfl, kk _ Z1 H1 I1 z1 walkD_str⟩
      · refine .inl (.inl ⟨Z, ρ, s, I, ?_⟩)
        rw [ef]
        intro v Z1 H1 I1 z1 r
        rcases itD_len (K := G.B.K) r e1 with q | ⟨a, vs, rfl, rs, ⟨_, q⟩ | ⟨_, q⟩⟩
        · exact absurd q hs
        · exact ⟨a, vs, rfl, .inl ⟨.inl (.inl (I1.zh _ _ q)), kk _ Z1 H1 I1 z1 (walkD_lst q rs)⟩⟩
        · exact ⟨a, vs, rfl, .inr ⟨seqT_mono I1.zh q, kk _ Z1 H1 I1 z1 (walkD_tup q rs)⟩⟩
    · refine .inr ⟨Z, ρ, s, I, ?_⟩
      rw [ef]
      intro v Z1 H1 I1 z1 r
      obtain ⟨a, dx, vs, rfl, ha, hl, rs⟩ := obj_of r
      obtain ⟨x, ex, rx⟩ := rs.at e2
      obtain ⟨l, zs, rfl, hq, rq⟩ := rp_tup rx
      refine ⟨a, dx, l, _, zs, rfl, I1.zh _ _ ha, (lk vs hl).trans ex, by rw [hK]; exact seqT_mono I1.zh hq, ?_⟩
      rw [hK]
      exact kk _ Z1 H1 I1 z1 (walkD_tup hq rq)
end
end Vv

/-! ## the sum of a tuple -/
namespace Vv
section
variable {prog : Program} {w : World} {A : Around} {E : Value → Shared → Prop} {s : Shared} {l : Addr} {its : List Value} {ns : List Int} {Q : Value → Shared → Prop}
theorem sum_rawT (hh : A.handled = none) (hl : s.heap.IsTuple l its.toArray) (hi : IntsAre its ns)
    (h : ∀ h' tk t', (∀ b o, s.heap.get? b = some o → h'.get? b = some o) → Q (.int ns.sum t') { s with heap := h', toks := tk }) : wpAny (model prog w) A (call (.builtin "sum") [.ref l]) Q E s := by
  obtain ⟨xs, e⟩ := hi.allInts.items
  have hn : numsOf (intItems xs).toList = ns := by rw [← e]; exact hi.numsOf
  rw [nums_intItems] at hn
  rw [e] at hl
  have hlt : l < s.heap.objs.size := by obtain ⟨_, e, _⟩ := id hl; exact Heap.lt_size e
  refine call_sum_walkG (wpAny_pyIter_tuple hl ?_)
  refine ⟨_, _, _, _, _, _, numAt xs, rfl, Walks.tuple (A := A.in1) hh s.heap.objs.size l (Nat.ne_of_lt hlt) (intItems xs), ⟨⟨_, Heap.get?_push_size _ rfl, rfl, rfl⟩, hl.at fun o e => Heap.get?_push_of_some _ e⟩, fun b hb => ?_, (fun _ _ => intItems_at), fun h' tk t' hk => ?_⟩
  · show b < (s.heap.push _).objs.size
    rw [Heap.size_push]
    rcases List.mem_cons.mp hb with rfl | hb
    · exact Nat.lt_succ_self _
    · rw [List.mem_singleton.mp hb]; exact Nat.lt_succ_of_lt hlt
  · have k := h h' tk t' (fun b o e => hk b o (fun hm => by
      rw [List.mem_singleton.mp hm] at e
      exact absurd (Heap.lt_size e) (Nat.lt_irrefl _)) (Heap.get?_push_of_some _ e))
    have z : preSum (numAt xs) (intItems xs).size = ns.sum := by
      rw [show (intItems xs).size = xs.size by simp [intItems], preSum_eq, List.take_of_length_le (by simp), hn]
    rw [z]
    exact k
end
def rSumT (K : PySem.W.Frag) : List V → Hp → VK → Prop := fun vs H Q => ∃ (a : Addr) (ns : List Int), vs = [V.ref a] ∧ SqT K H a (ns.map V.int) ∧ Q (.int ns.sum) H
def rSumA (K : PySem.W.Frag) : List V → Hp → VK → Prop := fun vs H Q => rSum K vs H Q ∨ rSumT K vs H Q
theorem cr_sumT {X : Cx} (hc : X.calm = true) : CallR X (.builtin "sum") (rSumT X.K) := by
  intro pins s σ H vs us Q I r h
  obtain ⟨a, ns, rfl, hs, q⟩ := h
  obtain ⟨its, rv, hl, _⟩ := I.tuple hs
  rw [Vals.ref1 r]
  exact sum_rawT (I.ok.hd hc) hl rv.ints fun h' tk t' hk => ⟨.int _, H, I.kept hk, ⟨_, rfl⟩, q⟩
theorem cr_sumTA {X : Cx} {B : Tb} (hK : X.K = B.K) (hc : X.calm = true) : CallR X (.builtin "sum") (rSumA B.K) := hK ▸ CallR.or (cr_sum hc) (cr_sumT hc)
def sumT : D → Option D
  | .tup l => (dInts l).map fun l => .int l.sum
  | d => sumD d
theorem OpN.sumT {B : Tb} : OpN B (rSumA B.K) (g1 sumT) := OpN.one g1_of fun {Z H x dx d Q} z rx e q => by
  by_cases h : ∃ l, dx = .tup l
  · obtain ⟨l, rfl⟩ := h
    obtain ⟨is, e1, rfl⟩ := Option.map_eq_some_iff.mp (show (dInts l).map (fun l => D.int l.sum) = some d from e)
    cases rx with
    | tup hq r =>
      have ev := dInts_of r e1
      subst ev
      exact .inr ⟨_, is, rfl, seqT_mono z hq, q _ Z H (Step.refl z) (.int _)⟩
  · have e2 : sumD dx = some d := by
      cases dx with
      | tup l => exact absurd ⟨l, rfl⟩ h
      | _ => exact e
    obtain ⟨is, e1, rfl⟩ := Option.map_eq_some_iff.mp e2
    cases rx with
    | lst hq r =>
      have ev := dInts_of r e1
      subst ev
      exact .inl ⟨_, is, rfl, .inl (.inl (z _ _ hq)), q _ Z H (Step.refl z) (.int _)⟩
    | _ => cases e1
end Vv

/-! ## x[k], x a list of ours -/
namespace Vv
section
variable {B : Tb} {u : Option (Addr × Value × Option Addr)} {X : Cx} {W : WX} {pos : Pos} {k : Expr} {fk : Ef}
def eIxO (i : Nat) (fk : Ef) : Ef := fun ρ s => match ρ[i]? with
  | some (.own ds) => (fk ρ s).bind fun z s1 => match z with
    | .int n => opt (atI ds n) s1
    | _ => .bad
  | _ => .bad
theorem ve_ixO (i : Nat) {x : Str} {p : Pos} (hx : PE X (.Name x p) (tVar i)) (hk : VE B u X W k fk) (hs : PlainIx k) : VE B u X W (.Subscript (.Name x p) k pos) (eIxO i fk) := by
  intro G hG
  have h0 := hk G hG
  obtain ⟨rfl, rfl⟩ := hG
  refine pe_mono (pe_ix ix_list hx h0 hs) fun σ H Q ⟨Z, ρ, s, I, h⟩ => ?_
  cases e2 : ρ[i]? with
  | none => simp only [eIxO, e2] at h; exact h.elim
  | some y =>
    cases y with
    | own ds =>
      simp only [eIxO, e2] at h
      obtain ⟨p1, vs1, ep1, _⟩ := I.sl i _ e2
      refine ⟨.ref p1, ep1, Z, ρ, s, I, h.bind.up (Same.refl Z) fun z s1 h1 v Z1 H1 I1 z1 rv => ?_⟩
      cases z with
      | int n =>
        cases rv
        obtain ⟨d, e3, k3⟩ := ROk.opt h1
        obtain ⟨p2, vs2, ep2, hp2, f2, n2, r2⟩ := I1.sl i _ e2
        rw [ep1] at ep2; cases ep2
        obtain ⟨j, ej, ed⟩ := Option.bind_eq_some_iff.mp e3
        obtain ⟨w, ew, rw'⟩ := r2.at ed
        refine ⟨p1, vs2, n, w, rfl, rfl, .inl (.inl hp2), ?_, k3 w Z1 H1 I1 z1 rw'⟩
        exact Option.bind_eq_some_iff.mpr ⟨j, by rw [r2.len]; exact ej, ew⟩
      | _ => exact h1.elim
    | _ => simp only [eIxO, e2] at h; exact h.elim
end
end Vv

/-! ## text.lstrip(letters), text.rstrip(letters) -/
namespace Vv
section
variable {B : Tb}
def lstripD : D → D → Option D
  | .str a, .str b => if lim a.length then some (.str (Txt.lstripChars (sOf a) (sOf b)).cps.toList) else none
  | _, _ => none
def rstripD : D → D → Option D
  | .str a, .str b => if lim a.length then some (.str (Txt.rstripChars (sOf a) (sOf b)).cps.toList) else none
  | _, _ => none
def rLstripV : V → List V → Hp → VK → Prop := fun x xs H Q => ∃ a b, x = .str a ∧ xs = [.str b] ∧ a.length ≤ sizeLine ∧ Q (.str (Txt.lstripChars a b)) H
def rRstripV : V → List V → Hp → VK → Prop := fun x xs H Q => ∃ a b, x = .str a ∧ xs = [.str b] ∧ a.length ≤ sizeLine ∧ Q (.str (Txt.rstripChars a b)) H
theorem mt_lstripV {X : Cx} : MtR X "str.lstrip" rLstripV := mt_lstripChars
theorem mt_rstripV {X : Cx} : MtR X "str.rstrip" rRstripV := mt_rstripChars
theorem lim_line {n : Nat} (h : lim n = true) : n ≤ sizeLine := by
  have := of_decide_eq_true h
  rw [sizeLine_eq]
  omega
theorem lstrip_ok {Z H : Hp} {x y : V} {dx dy d : D} {Q : VK} (z : Same Z H) (rx : Rp B Z x dx) (ry : Rp B Z y dy) (e : lstripD dx dy = some d) (q : ∀ v Z' H', Step Z H Z' H' → Rp B Z' v d → Q v H') : rLstripV x [y] H Q := by
  cases rx with
  | str a =>
    cases ry with
    | str b =>
      obtain ⟨h, rfl⟩ := ite_some e
      exact ⟨_, _, rfl, rfl, by show (sOf a).length ≤ _; rw [show (sOf a).length = a.length from rfl]; exact lim_line h, q _ Z H (Step.refl z) (rp_str _)⟩
    | _ => cases e
  | _ => cases e
theorem rstrip_ok {Z H : Hp} {x y : V} {dx dy d : D} {Q : VK} (z : Same Z H) (rx : Rp B Z x dx) (ry : Rp B Z y dy) (e : rstripD dx dy = some d) (q : ∀ v Z' H', Step Z H Z' H' → Rp B Z' v d → Q v H') : rRstripV x [y] H Q := by
  cases rx with
  | str a =>
    cases ry with
    | str b =>
      obtain ⟨h, rfl⟩ := ite_some e
      exact ⟨_, _, rfl, rfl, by show (sOf a).length ≤ _; rw [show (sOf a).length = a.length from rfl]; exact lim_line h, q _ Z H (Step.refl z) (rp_str _)⟩
    | _ => cases e
  | _ => cases e
end
end Vv

/-! ### == and != of an own class with things of other kinds -/
section
variable {X : Cx} {pins : List (Addr × Obj)} {σ : L2.St} {H : Hp} {s : Shared} {CX : CXT} {n : Nat} {f C : Addr} {fd : FuncData} {ps : List Str} {sp : Sp} {E : XK} {vs : List V} {us : List Value} {Q : VK} {A1 : Around}
/-- what may stand at the right of an own ==: an instance of the same class, a thing of a built-in type -/
inductive Oth2 (K : PySem.W.Frag) (C : Addr) (H : Hp) : V → Prop where
  | kind {y : V} (T : String) (h : TyX K H y (.type T)) (hs : PySem.W.subIn K (.type T) (.ref C) = some false) : Oth2 K C H y
  | ins {b dx : Addr} {fs : List (Str × V)} (h : H b = some (.ins C dx fs)) : Oth2 K C H (.ref b)
theorem Oth2.typ {y : V} {u : Value} (I : Inv X pins σ H s) (oth : Oth2 X.K C H y) (ry : RelV y u) : ∃ tb, PySem.W.Looks (model X.prog X.w) s.heap (typeOf u) tb ∧ (tb = .ref C ∨ ∃ T, tb = .type T ∧ PySem.W.subIn X.K (.type T) (.ref C) = some false) := by
  cases oth with
  | kind T h hs =>
    obtain ⟨P, k, p, _⟩ := kit_of I ry h
    exact ⟨_, k.1 _ _ I.kIn p, .inr ⟨T, rfl, hs⟩⟩
  | ins hb2 =>
    cases ry
    obtain ⟨mB, J', _⟩ := ins_get I.hok hb2
    obtain ⟨od', J', _⟩ := J'.look
    exact ⟨_, J'.type, .inl rfl⟩
def rEqOwn2 (K : PySem.W.Frag) (neg : Bool) (C : Addr) (sp : Sp) (E : XK) : R2 := fun x y H Q => ∃ a dx fs, x = .ref a ∧ H a = some (.ins C dx fs) ∧ Oth2 K C H y ∧ sp [.ref a, y] H (fun v H' => ∃ b : Bool, v = .bl b ∧ Q (.bl (if neg then !b else b)) H') E
theorem op_eqOwn2 (M : OwnM X.K C "__eq__" f) (F : FnOk X.prog X.w X.K X.mg X.base CX n f fd ps sp) (hb : L2.Binds X.K fd ps []) (hx : Passes CX X E) (hr : Room n X.A) :
    OpR X (compareOp .Eq) (rEqOwn2 X.K false C sp E) := by
  intro pins s σ H x y v u Q I rx ry h
  obtain ⟨a, dx, fs, rfl, ha, oth, h⟩ := h
  cases rx
  obtain ⟨mA, J, _⟩ := ins_get I.hok ha
  obtain ⟨od, J, _⟩ := J.look
  obtain ⟨m, hF⟩ := I.fr
  have back : wpAny (model X.prog X.w) X.A (call (.ref f) [.ref a, u]) (PySem.W.CmpBack (EP X pins σ Q)) X.xe s := by
    refine wpAny_mono (run_own (⟨hr, rfl⟩ : Sub X n X.A) F hb hx I (.cons val_ref (.cons ry .nil)) h) (fun w s' q => ?_) fun _ _ z => z
    obtain ⟨z, H', I', rz, b, rfl, q⟩ := q
    cases rz
    exact ⟨.bl b, H', I', rfl, q⟩
  show wpAny (model X.prog X.w) X.A (richCompare .Eq (.ref a) u) (EP X pins σ Q) X.xe s
  obtain ⟨tb, hT, e | ⟨T, e, hs⟩⟩ := oth.typ I ry
  · subst e
    exact PySem.W.cmp_K (op := .Eq) (tb := .ref C) hr.units0 hF I.ok.mod.kin J hT (by simp [PySem.W.notFirst]) M.at_ M.fn back
  · subst e
    exact PySem.W.cmp_K (op := .Eq) (tb := .type T) hr.units0 hF I.ok.mod.kin J hT (by simp [PySem.W.notFirst, hs]) M.at_ M.fn back
theorem op_neOwn2 (M : OwnM X.K C "__eq__" f) (N : NeC X.K C) (F : FnOk X.prog X.w X.K X.mg X.base CX n f fd ps sp) (hb : L2.Binds X.K fd ps []) (hx : Passes CX X E) (hr : Room (n + 1) X.A) :
    OpR X (compareOp .NotEq) (rEqOwn2 X.K true C sp E) := by
  intro pins s σ H x y v u Q I rx ry h
  obtain ⟨a, dx, fs, rfl, ha, oth, h⟩ := h
  cases rx
  obtain ⟨mA, J, _⟩ := ins_get I.hok ha
  obtain ⟨od, J, _⟩ := J.look
  obtain ⟨m, hF⟩ := I.fr
  have sb : Sub X n X.A.in1 := Sub.in1 ⟨hr, rfl⟩
  have back : wpAny (model X.prog X.w) X.A.in1 (call (.ref f) [.ref a, u]) (fun v s' => ∃ b, v = .bool b ∧ EP X pins σ Q (.bool (!b)) s') X.xe s := by
    refine wpAny_mono (run_own sb F hb hx I (.cons val_ref (.cons ry .nil)) h) (fun w s' q => ?_) fun _ _ z => z
    obtain ⟨z, H', I', rz, b, rfl, q⟩ := q
    cases rz
    exact ⟨b, rfl, .bl (!b), H', I', rfl, q⟩
  have one : wpAny (model X.prog X.w) X.A (tryCompare (.ref a) "__ne__" u) (fun r s' => ∃ v, r = some v ∧ EP X pins σ Q v s') X.xe s := by
    unfold tryCompare
    refine wpAny_bind (ne_here N I.kIn J (wpAny_call (codeAny_call_builtin PySem.F.slot_object_ne.plain PySem.F.cmpEntry_ne (PySem.W.check_slot PySem.F.cmpKind_ne PySem.F.cmpSplit_ne (J.type.andThen (PySem.W.looks_mroIn I.kIn N.up)) (PySem.F.cmpArgs_ne _ _) ?_))))
    unfold Builtin.«object.__ne__»
    refine wpAny_bind (m := slotArgs "__ne__" 1 _) (wpAny_pure ?_)
    refine wpAny_bind (wpAny_cRoomFor sb.room.units0 ?_)
    refine wpAny_bind (m := callSpecialIfBound? (.ref a) (Str.ofString "__eq__") [u]) (PySem.W.ifBound_K I.kIn J M.at_ M.fn (wpAny_mono back (fun r s' q => ?_) fun _ _ z => z))
    obtain ⟨b, rfl, q⟩ := q
    exact wpAny_bind (wpAny_truthy_bool (wpAny_pure (wpAny_pure ⟨_, rfl, q⟩)))
  obtain ⟨tb, hT, hn⟩ := oth.typ I ry
  show wpAny (model X.prog X.w) X.A (richCompare .NotEq (.ref a) u) (EP X pins σ Q) X.xe s
  unfold richCompare
  simp only [oneThing_ref]
  refine wpAny_holding (wpAny_bind (wpAny_cRoomFor (hr.mono (Nat.le_succ n)).units0 ?_))
  refine wpAny_bind (J.type.here (wpAny_bind (hT.here ?_)))
  rcases hn with rfl | ⟨T, rfl, hs⟩
  · rw [if_neg (by simp)]
    refine wpAny_bind (wpAny_pure ?_)
    simp only [Bool.false_eq_true, if_false]
    refine wpAny_bind (wpAny_mono one (fun r s' ⟨v, e, q⟩ => ?_) fun _ _ z => z)
    subst e
    exact wpAny_pure q
  · rw [if_pos (by rfl)]
    refine wpAny_bind ((PySem.W.looks_subIn I.kIn hs).here ?_)
    simp only [Bool.false_eq_true, if_false]
    refine wpAny_bind (wpAny_mono one (fun r s' ⟨v, e, q⟩ => ?_) fun _ _ z => z)
    subst e
    exact wpAny_pure q
end

/-! ## == and != of two objects of one class; the greatest and the least of a tuple -/
namespace Vv
section
variable {B : Tb} {X : Cx} {n : Nat} {f : Addr} {fd : FuncData} {ps : List Str}
abbrev EF : XK := fun _ _ _ => False
theorem passF : Passes (L2.CX X.prog X.w) X EF := fun pins σ H s e s' I c => by
  obtain ⟨a, B, H', cls, d, rfl, fl, hok, ub, na, os, ag, hE⟩ := c
  exact hE.elim
def eqO (neg : Bool) (c : Nat) (F : List D → R D) : D → D → Option D
  | .obj a fs, .obj b gs => if a = c ∧ b = c then match F [.obj a fs, .obj b gs] with
    | .ok (.bl r) _ => some (.bl (if neg then !r else r))
    | _ => none else none
  | _, _ => none
theorem Op2.eqO {K : PySem.W.Frag} (hK : K = B.K) (neg : Bool) (c : Nat) (F : List D → R D) : Op2 B (rEqOwn2 K neg (B.cls c) (spP B 2 F) EF) (eqO neg c F) := ⟨fun {Z H x y dx dy d Q} z rx ry e q => by
  cases dx with
  | obj a fs =>
    cases dy with
    | obj b gs =>
      replace e : (if a = c ∧ b = c then match F [.obj a fs, .obj b gs] with
        | .ok (.bl r) _ => some (D.bl (if neg then !r else r))
        | _ => none else none) = some d := e
      by_cases h : a = c ∧ b = c
      · rw [if_pos h] at e
        obtain ⟨rfl, rfl⟩ := h
        cases eF : F [.obj b fs, .obj b gs] with
        | ok v t =>
          rw [eF] at e
          cases v with
          | bl r =>
            cases e
            have r2 : Rps B Z [x, y] [.obj b fs, .obj b gs] := .cons rx (.cons ry .nil)
            obtain ⟨p, dx, vs, rfl, ha, hl, rs⟩ := obj_of rx
            obtain ⟨p2, dx2, vs2, rfl, ha2, hl2, rs2⟩ := obj_of ry
            refine ⟨p, dx, _, rfl, z _ _ ha, .ins (z _ _ ha2), Z, _, z, rfl, r2, ?_⟩
            rw [eF]
            intro v Z' H' st rv
            cases rv
            exact ⟨r, rfl, q _ Z' H' st (.bl _)⟩
          | _ => cases e
        | exc _ _ _ => rw [eF] at e; cases e
        | bad => rw [eF] at e; cases e
      · rw [if_neg h] at e
        cases e
    | _ => cases e
  | _ => cases e⟩
end
section
variable {prog : Program} {w : World} {A : Around} {E : Value → Shared → Prop} {s : Shared} {l : Addr} {its : List Value} {ns : List Int} {xs : Array (Int × Tok)} {Q : Value → Shared → Prop}
theorem iter_intTup {Q : Value → Shared → Prop} (hh : A.handled = none) (hl : s.heap.IsTuple l (intItems xs))
    (h : ∀ s2 : Shared, s2 = { s with heap := s.heap.push { cls := .type "tuple_iterator", data := .fields #[.ref l, .int 0 0] } } → Walks prog w A.in1 s.heap.objs.size [s.heap.objs.size, l] [s.heap.objs.size] (intItems xs).size (fun i v => (intItems xs)[i]? = some v) (fun i h => h.IsTupleIter s.heap.objs.size l i ∧ h.IsTuple l (intItems xs)) →
      (s2.heap.IsTupleIter s.heap.objs.size l 0 ∧ s2.heap.IsTuple l (intItems xs)) → (∀ b ∈ [s.heap.objs.size, l], b < s2.heap.objs.size) → (∀ h' : Heap, (∀ b o, b ∉ [s.heap.objs.size] → s2.heap.get? b = some o → h'.get? b = some o) → ∀ b o, s.heap.get? b = some o → h'.get? b = some o) → Q (.ref s.heap.objs.size) s2) :
    wpAny (model prog w) A.in1 (pyIter (.ref l)) Q E s := by
  have hlt : l < s.heap.objs.size := by obtain ⟨_, e, _⟩ := id hl; exact Heap.lt_size e
  refine wpAny_pyIter_tuple hl (h _ rfl (Walks.tuple (A := A.in1) hh s.heap.objs.size l (Nat.ne_of_lt hlt) (intItems xs)) ⟨⟨_, Heap.get?_push_size _ rfl, rfl, rfl⟩, hl.at fun o e => Heap.get?_push_of_some _ e⟩ (fun b hb => ?_) (fun h' hk b o e => hk b o (fun hm => ?_) (Heap.get?_push_of_some _ e)))
  · show b < (s.heap.push _).objs.size
    rw [Heap.size_push]
    rcases List.mem_cons.mp hb with rfl | hb
    · exact Nat.lt_succ_self _
    · rw [List.mem_singleton.mp hb]; exact Nat.lt_succ_of_lt hlt
  · rw [List.mem_singleton.mp hm] at e
    exact absurd (Heap.lt_size e) (Nat.lt_irrefl _)
theorem max_rawT (hh : A.handled = none) (hl : s.heap.IsTuple l its.toArray) (hi : IntsAre its ns) (hne : 0 < ns.length)
    (h : ∀ h' tk M t', (∀ b o, s.heap.get? b = some o → h'.get? b = some o) → M ∈ ns → (∀ a, a ∈ ns → a ≤ M) → Q (.int M t') { s with heap := h', toks := tk }) : wpAny (model prog w) A (call (.builtin "max") [.ref l]) Q E s := by
  obtain ⟨xs, e⟩ := hi.allInts.items
  have hn : numsOf (intItems xs).toList = ns := by rw [← e]; exact hi.numsOf
  rw [nums_intItems] at hn
  subst hn
  rw [e] at hl
  have hsz : 0 < xs.size := by simpa using hne
  refine call_max_walk (iter_intTup hh hl fun s2 e2 W st hfp old => ?_)
  subst e2
  refine ⟨_, _, _, _, _, _, _, rfl, W, st, hfp, by simpa [intItems] using hsz, CmpOf.ints_gt (numAt xs) (fun _ _ => intItems_at), fun v h' tk hP hk => ?_⟩
  obtain ⟨t, rfl⟩ := intItems_at hP
  have hs2 : (intItems xs).size = xs.size := by simp [intItems]
  obtain ⟨h1, h2⟩ := argBest_gt (numAt xs) (xs.size - 1)
  rw [hs2]
  refine h h' tk _ t (old h' hk) ?_ fun a ha => ?_
  · rw [numAt_eq]; exact PySem.getD_mem (by rw [List.length_map, Array.length_toList]; omega)
  · obtain ⟨j, hj, rfl⟩ := mem_getD ha
    rw [List.length_map, Array.length_toList] at hj
    rw [← numAt_eq]; exact h2 j (by omega)
theorem min_rawT (hh : A.handled = none) (hl : s.heap.IsTuple l its.toArray) (hi : IntsAre its ns) (hne : 0 < ns.length)
    (h : ∀ h' tk M t', (∀ b o, s.heap.get? b = some o → h'.get? b = some o) → M ∈ ns → (∀ a, a ∈ ns → M ≤ a) → Q (.int M t') { s with heap := h', toks := tk }) : wpAny (model prog w) A (call (.builtin "min") [.ref l]) Q E s := by
  obtain ⟨xs, e⟩ := hi.allInts.items
  have hn : numsOf (intItems xs).toList = ns := by rw [← e]; exact hi.numsOf
  rw [nums_intItems] at hn
  subst hn
  rw [e] at hl
  have hsz : 0 < xs.size := by simpa using hne
  refine call_min_walk (iter_intTup hh hl fun s2 e2 W st hfp old => ?_)
  subst e2
  refine ⟨_, _, _, _, _, _, _, rfl, W, st, hfp, by simpa [intItems] using hsz, CmpOf.ints_lt (numAt xs) (fun _ _ => intItems_at), fun v h' tk hP hk => ?_⟩
  obtain ⟨t, rfl⟩ := intItems_at hP
  have hs2 : (intItems xs).size = xs.size := by simp [intItems]
  obtain ⟨h1, h2⟩ := argBest_lt (numAt xs) (xs.size - 1)
  rw [hs2]
  refine h h' tk _ t (old h' hk) ?_ fun a ha => ?_
  · rw [numAt_eq]; exact PySem.getD_mem (by rw [List.length_map, Array.length_toList]; omega)
  · obtain ⟨j, hj, rfl⟩ := mem_getD ha
    rw [List.length_map, Array.length_toList] at hj
    rw [← numAt_eq]; exact h2 j (by omega)
end
def rMaxT (K : PySem.W.Frag) : List V → Hp → VK → Prop := fun vs H Q => ∃ (a : Addr) (ns : List Int), vs = [V.ref a] ∧ SqT K H a (ns.map V.int) ∧ 0 < ns.length ∧ ∀ m, m ∈ ns → (∀ y, y ∈ ns → y ≤ m) → Q (.int m) H
def rMinT (K : PySem.W.Frag) : List V → Hp → VK → Prop := fun vs H Q => ∃ (a : Addr) (ns : List Int), vs = [V.ref a] ∧ SqT K H a (ns.map V.int) ∧ 0 < ns.length ∧ ∀ m, m ∈ ns → (∀ y, y ∈ ns → m ≤ y) → Q (.int m) H
theorem cr_maxT {X : Cx} (hc : X.calm = true) : CallR X (.builtin "max") (rMaxT X.K) := by
  intro pins s σ H vs us Q I r h
  obtain ⟨a, ns, rfl, hs, hne, q⟩ := h
  obtain ⟨its, rv, hl, _⟩ := I.tuple hs
  rw [Vals.ref1 r]
  exact max_rawT (I.ok.hd hc) hl rv.ints hne fun h' tk m t' hk h1 h2 => ⟨.int _, H, I.kept hk, ⟨_, rfl⟩, q m h1 h2⟩
theorem cr_minT {X : Cx} (hc : X.calm = true) : CallR X (.builtin "min") (rMinT X.K) := by
  intro pins s σ H vs us Q I r h
  obtain ⟨a, ns, rfl, hs, hne, q⟩ := h
  obtain ⟨its, rv, hl, _⟩ := I.tuple hs
  rw [Vals.ref1 r]
  exact min_rawT (I.ok.hd hc) hl rv.ints hne fun h' tk m t' hk h1 h2 => ⟨.int _, H, I.kept hk, ⟨_, rfl⟩, q m h1 h2⟩
def rMaxTA (K : PySem.W.Frag) : List V → Hp → VK → Prop := fun vs H Q => rMax K vs H Q ∨ rMaxT K vs H Q
def rMinTA (K : PySem.W.Frag) : List V → Hp → VK → Prop := fun vs H Q => rMin K vs H Q ∨ rMinT K vs H Q
theorem cr_maxTA {X : Cx} {B : Tb} (hK : X.K = B.K) (hc : X.calm = true) : CallR X (.builtin "max") (rMaxTA B.K) := hK ▸ CallR.or (cr_max hc) (cr_maxT hc)
theorem cr_minTA {X : Cx} {B : Tb} (hK : X.K = B.K) (hc : X.calm = true) : CallR X (.builtin "min") (rMinTA B.K) := hK ▸ CallR.or (cr_min hc) (cr_minT hc)
def extT (f : List Int → Int) : D → Option D
  | .tup l => (dInts l).bind fun l => if l.isEmpty then none else some (.int (f l))
  | .lst l => (dInts l).bind fun l => if l.isEmpty then none else some (.int (f l))
  | _ => none
theorem extT_ne {f : List Int → Int} {l : List D} {d : D} (e : ((dInts l).bind fun l => if l.isEmpty then none else some (D.int (f l))) = some d) : ∃ is, dInts l = some is ∧ is ≠ [] ∧ d = .int (f is) := by
  obtain ⟨is, e1, e2⟩ := Option.bind_eq_some_iff.mp e
  refine ⟨is, e1, ?_⟩
  cases is with
  | nil => cases e2
  | cons a r => cases e2; exact ⟨by simp, rfl⟩
theorem OpN.maxT {B : Tb} : OpN B (rMaxTA B.K) (g1 (extT maxL)) := OpN.one g1_of fun {Z H x dx d Q} z rx e q => by
  cases rx with
  | tup hq r =>
    obtain ⟨is, e1, hne, rfl⟩ := extT_ne e
    have ev := dInts_of r e1
    subst ev
    obtain ⟨m1, m2⟩ := maxL_of is hne
    refine .inr ⟨_, is, rfl, seqT_mono z hq, List.length_pos_iff.mpr hne, fun m h1 h2 => ?_⟩
    have em : m = maxL is := Int.le_antisymm (m2 m h1) (h2 _ m1)
    rw [em]
    exact q _ Z H (Step.refl z) (.int _)
  | lst hq r =>
    obtain ⟨is, e1, hne, rfl⟩ := extT_ne e
    have ev := dInts_of r e1
    subst ev
    obtain ⟨m1, m2⟩ := maxL_of is hne
    refine .inl ⟨_, is, rfl, .inl (.inl (z _ _ hq)), List.length_pos_iff.mpr hne, fun m h1 h2 => ?_⟩
    have em : m = maxL is := Int.le_antisymm (m2 m h1) (h2 _ m1)
    rw [em]
    exact q _ Z H (Step.refl z) (.int _)
  | _ => cases e
theorem OpN.minT {B : Tb} : OpN B (rMinTA B.K) (g1 (extT minL)) := OpN.one g1_of fun {Z H x dx d Q} z rx e q => by
  cases rx with
  | tup hq r =>
    obtain ⟨is, e1, hne, rfl⟩ := extT_ne e
    have ev := dInts_of r e1
    subst ev
    obtain ⟨m1, m2⟩ := minL_of is hne
    refine .inr ⟨_, is, rfl, seqT_mono z hq, List.length_pos_iff.mpr hne, fun m h1 h2 => ?_⟩
    have em : m = minL is := Int.le_antisymm (h2 _ m1) (m2 m h1)
    rw [em]
    exact q _ Z H (Step.refl z) (.int _)
  | lst hq r =>
    obtain ⟨is, e1, hne, rfl⟩ := extT_ne e
    have ev := dInts_of r e1
    subst ev
    obtain ⟨m1, m2⟩ := minL_of is hne
    refine .inl ⟨_, is, rfl, .inl (.inl (z _ _ hq)), List.length_pos_iff.mpr hne, fun m h1 h2 => ?_⟩
    have em : m = minL is := Int.le_antisymm (h2 _ m1) (m2 m h1)
    rw [em]
    exact q _ Z H (Step.refl z) (.int _)
  | _ => cases e
end Vv

/-! ## (a, b, ..) = a tuple or a list of that length -/
namespace Vv
section
variable {B : Tb} {X : Cx} {pos : Pos}
def gtTL (n : Nat) (gt : List D → En → Option En) : D → En → Option En
  | .tup ds, ρ => if ds.length = n then gt ds ρ else none
  | .lst ds, ρ => if ds.length = n then gt ds ρ else none
  | _, _ => none
def gTL (K : PySem.W.Frag) (n : Nat) (t : TGs) : TG := fun v σ H Q => gTup K n t v σ H Q ∨ gUnl K n t v σ H Q
theorem pg_tl {es : List Expr} {k : Nat} {t : TGs} {n : Nat} (hc : X.calm = true) (h : PGs X es t)
    (hn : (assignEach es X.env).length = n := by rfl) (hst : (assignEach es X.env).findIdx? (·.1) = none := by rfl) : PG X (.Tuple es k pos) (gTL X.K n t) :=
  ⟨fun pins s σ H v u Q I r hw => hw.elim (fun hw => (pg_tup hc h hn hst).run pins s σ H v u Q I r hw) fun hw => (pg_unl hc h hn hst).run pins s σ H v u Q I r hw⟩
theorem vg_tl {is : List Nat} {es : List Expr} {k n : Nat} {gt : List D → En → Option En} (hK : X.K = B.K) (hc : X.calm = true) (h : VGs B X is es gt)
    (hn : (assignEach es X.env).length = n := by rfl) (hst : (assignEach es X.env).findIdx? (·.1) = none := by rfl) : VG B X is (.Tuple es k pos) (gtTL n gt) := by
  obtain ⟨g, p, o⟩ := h
  refine ⟨_, pg_tl hc p hn hst, fun G Z H σ ρ s v d ρ' Q hB I r e k => ?_⟩
  cases d with
  | tup ds =>
    obtain ⟨a, vs, rfl, ht, rs⟩ := rp_tup r
    by_cases hl : ds.length = n
    · rw [show gtTL n gt (.tup ds) ρ = if ds.length = n then gt ds ρ else none from rfl, if_pos hl] at e
      exact .inl ⟨a, vs, rfl, by rw [hK]; exact seqT_mono I.zh ht, rs.len.trans hl, o G Z H σ ρ s vs ds ρ' Q hB I rs e k⟩
    · rw [show gtTL n gt (.tup ds) ρ = if ds.length = n then gt ds ρ else none from rfl, if_neg hl] at e
      cases e
  | lst ds =>
    obtain ⟨a, vs, rfl, ht, rs⟩ := rp_lst r
    by_cases hl : ds.length = n
    · rw [show gtTL n gt (.lst ds) ρ = if ds.length = n then gt ds ρ else none from rfl, if_pos hl] at e
      exact .inr ⟨a, vs, rfl, .inl (.inl (I.zh _ _ ht)), rs.len.trans hl, o G Z H σ ρ s vs ds ρ' Q hB I rs e k⟩
    · rw [show gtTL n gt (.lst ds) ρ = if ds.length = n then gt ds ρ else none from rfl, if_neg hl] at e
      cases e
  | _ => cases e
end
end Vv

/-! ## comprehensions of two clauses -/
namespace Vv
theorem walk_any {J : It} {n : Nat} {Gd : Hp → Prop} {Y : Nat → Hp → V → Hp → Prop} (w : Walk J n Gd Y) {H0 : Hp} {Qd : Hp → Prop} {Body : (Hp → Prop) → V → Hp → Prop} (Pv : Nat → Hp → Prop) (h0 : Pv 0 H0) (hG : ∀ i H, i ≤ n → Pv i H → Gd H)
    (hs : ∀ i x H H', i < n → Pv i H → Y i H x H' → Body (Pv (i + 1)) x H') (hd : ∀ H, Pv n H → Qd H) :
    ∃ W : Nat → Nat → Hp → Prop, (∃ m, W 0 m H0) ∧ ∀ i m H, W i m H → (J.stop i H ∧ Qd H) ∨ (J.go i H ∧ ∃ Nx : Hp → Prop, (∀ H', Nx H' → ∃ m', m' < m ∧ W (i + 1) m' H') ∧ ∀ x H', J.yld i H x H' → Body Nx x H') := by
  refine ⟨fun i m H => m = n - i ∧ i ≤ n ∧ Pv i H, ⟨n, by simp, Nat.zero_le _, h0⟩, ?_⟩
  rintro i m H ⟨rfl, hi, p⟩
  have q := hG i H hi p
  by_cases hlt : i < n
  · refine .inr ⟨w.goes i H hlt q, Pv (i + 1), fun H' p' => ⟨n - (i + 1), by omega, rfl, hlt, p'⟩, fun x H' y => hs i x H H' hlt p (w.yields i H x H' hlt q y)⟩
  · have e : i = n := by omega
    subst e
    exact .inl ⟨w.stops H q, hd H p⟩
section
variable {B : Tb} {u : Option (Addr × Value × Option Addr)} {X : Cx} {W : WX} {pos : Pos} {e : Expr}
def lcD2 (gt : D → En → Option En) (ft : Tf) (fi1 : Af) (is1 : List Nat) (gt1 : D → En → Option En) (ft1 : Tf) (fe : Ef) (ρ : En) : List D → List D → S → R (List D)
  | [], acc, s => .ok acc s
  | d :: ds, acc, s => (opt (gt d ρ) s).bind fun ρ1 s => (ft ρ1 s).calm.bind fun b s1 => if b then (fi1 ρ1 s1).calm.bind fun es s2 => (lcD gt1 ft1 fe (wipeE ρ1 is1) es acc s2).bind fun acc2 s3 => lcD2 gt ft fi1 is1 gt1 ft1 fe ρ ds acc2 s3 else lcD2 gt ft fi1 is1 gt1 ft1 fe ρ ds acc s1
def lLc2 (is : List Nat) (fi : Af) (gt : D → En → Option En) (ft : Tf) (fi1 : Af) (is1 : List Nat) (gt1 : D → En → Option En) (ft1 : Tf) (fe : Ef) : Lf := fun ρ s => if is.all (plainAt ρ) then (fi ρ s).bind fun ds s1 => lcD2 gt ft fi1 is1 gt1 ft1 fe (wipeE ρ is) ds [] s1 else .bad
def xVI (B : Tb) (u : Option (Addr × Value × Option Addr)) (W : WX) (fi : Af) : TI := fun σ H Rr => ∃ G : Gf, (G.B = B ∧ G.ux = u) ∧ tVI G W fi σ H Rr
theorem VIt.x {tg iter : Expr} {fi : Af} (h : VIt B u X W tg iter fi) : PI X tg iter (xVI B u W fi) := ⟨fun pins s σ H Q I ⟨G, hG, q⟩ => (h G hG).run pins s σ H Q I q⟩
theorem ROk.unbind {G : Gf} {W : WX} {σ : L2.St} {ρ : En} {Z : Hp} {α β : Type} {r : R α} {k : α → S → R β} {P : β → S → Prop} (h : ROk G W σ ρ Z r fun x s => ROk G W σ ρ Z (k x s) P) : ROk G W σ ρ Z (r.bind k) P := by
  cases r with
  | ok x s => exact h
  | exc c fs s => exact h
  | bad => exact h
theorem lc2_of {is is1 : List Nat} (sub : ∀ i ∈ is1, i ∈ is) {G : Gf} {J : It} {Z0 H1 : Hp} {ds : List D} {gt gt1 : D → En → Option En} {ft ft1 : Tf} {fi1 : Af} {fe : Ef} {g g1 : TG} (w : WalkD G.B J Z0 ds) (o : VGok G.B is g gt) (og : VGok G.B is1 g1 gt1) {σ : L2.St} {ρ : En} {s : S} (I : VI G Z0 H1 σ ρ s) (pl : is.all (plainAt ρ) = true)
    {Wx : WX} {Q : VK} {Zb : Hp} (h : ROk G Wx σ ρ Zb (lcD2 gt ft fi1 is1 gt1 ft1 fe (wipeE ρ is) ds [] s) fun ds s' => ∀ p vs Z' H', VI G Z' H' σ ρ s' → Same Z0 Z' → H' p = some (.lst vs) → Own1 G Z' σ ρ p → Rps G.B Z' vs ds → Q (.ref p) H') :
    ∀ D, H1 D = none → ∃ Wv : Nat → Nat → Hp → Prop, (∃ m, Wv 0 m (upd H1 D (.lst []))) ∧ ∀ i m H, Wv i m H →
  (J.stop i H ∧ Q (.ref D) H) ∨ (J.go i H ∧ ∃ Nx : Hp → Prop, (∀ H', Nx H' → ∃ m', m' < m ∧ Wv (i + 1) m' H') ∧ ∀ x H', J.yld i H x H' → g x (L2.wipe σ is) H' fun σ2 H2 => L2.wipe σ2 is = L2.wipe σ is ∧ xVT G.B G.ux W0 ft σ2 H2 fun b H3 =>
    if b = true then xVI G.B G.ux W0 fi1 σ2 H3 fun J1 H4 => ∃ W1 : Nat → Nat → Hp → Prop, (∃ m, W1 0 m H4) ∧ ∀ j k H, W1 j k H →
      (J1.stop j H ∧ Nx H) ∨ (J1.go j H ∧ ∃ Nx1 : Hp → Prop, (∀ H', Nx1 H' → ∃ k', k' < k ∧ W1 (j + 1) k' H') ∧ ∀ x H', J1.yld j H x H' → g1 x (L2.wipe σ2 is1) H' fun σ3 H5 => L2.wipe σ3 is1 = L2.wipe σ2 is1 ∧ xVT G.B G.ux W0 ft1 σ3 H5 fun b H6 =>
        if b = true then xV G.B G.ux W0 fe σ3 H6 fun y H7 => ∃ acc, H7 D = some (.lst acc) ∧ acc.length < sizeLine ∧ Nx1 (upd H7 D (.lst (acc ++ [y]))) else Nx1 H6)
    else Nx H3) := by
  intro D hD
  obtain ⟨Y, wk, y⟩ := w
  have o1 := I.own1 hD
  have sx : ∀ x, G.self = some x → x ≠ D := fun x hx e => I.slf x hx (by rw [e]; exact hD)
  refine walk_any wk (Body := fun Nx x H' => g x (L2.wipe σ is) H' fun σ2 H2 => L2.wipe σ2 is = L2.wipe σ is ∧ xVT G.B G.ux W0 ft σ2 H2 fun b H3 =>
    if b = true then xVI G.B G.ux W0 fi1 σ2 H3 fun J1 H4 => ∃ W1 : Nat → Nat → Hp → Prop, (∃ m, W1 0 m H4) ∧ ∀ j k H, W1 j k H →
      (J1.stop j H ∧ Nx H) ∨ (J1.go j H ∧ ∃ Nx1 : Hp → Prop, (∀ H', Nx1 H' → ∃ k', k' < k ∧ W1 (j + 1) k' H') ∧ ∀ x H', J1.yld j H x H' → g1 x (L2.wipe σ2 is1) H' fun σ3 H5 => L2.wipe σ3 is1 = L2.wipe σ2 is1 ∧ xVT G.B G.ux W0 ft1 σ3 H5 fun b H6 =>
        if b = true then xV G.B G.ux W0 fe σ3 H6 fun y H7 => ∃ acc, H7 D = some (.lst acc) ∧ acc.length < sizeLine ∧ Nx1 (upd H7 D (.lst (acc ++ [y]))) else Nx1 H6)
    else Nx H3)
    (fun i H => ∃ Z s acc dacc, VI (G.hide D (.lst acc)) Z H (L2.wipe σ is) (wipeE ρ is) s ∧ Same Z0 Z ∧ Rps G.B Z acc dacc ∧ ROk G Wx σ ρ Zb (lcD2 gt ft fi1 is1 gt1 ft1 fe (wipeE ρ is) (ds.drop i) dacc s) _)
    ⟨Z0, s, [], [], (I.wipe is).hide hD, Same.refl Z0, .nil, h⟩ (fun i H _ ⟨Z, s, acc, dacc, I', z, _⟩ => z.trans I'.zh) ?_ ?_
  · rintro i x H H' hi ⟨Z, s, acc, dacc, I', z, ra, h⟩ hy
    obtain ⟨d, Z', ed, t, r⟩ := y i H x H' hy Z z I'.zh
    rw [drop_cons ed] at h
    obtain ⟨ρ1, e, h⟩ := (ROk.bind (show ROk G Wx σ ρ Zb ((opt (gt d (wipeE ρ is)) s).bind _) _ from h)).opt
    refine o (G.hide D (.lst acc)) Z' H' (L2.wipe σ is) (wipeE ρ is) s x d ρ1 _ rfl (I'.step t) r e fun σ' I2 wp wpe => ?_
    have e1 : L2.wipe σ' is = L2.wipe σ is := (wp is fun _ h => h).trans (wipe_sub is fun _ h => h)
    have e2 : wipeE ρ1 is = wipeE ρ is := (wpe is fun _ h => h).trans (wipeE_sub is fun _ h => h)
    refine ⟨e1, G.hide D (.lst acc), ⟨rfl, rfl⟩, Z', ρ1, s, I2, (ROk.calm (ROk.bind h)).up (Same.refl Z') fun b s1 h1 Z2 H2 I3 z2 => ?_⟩
    cases b with
    | false =>
      rw [if_neg Bool.false_ne_true]
      have I4 := I3.wipe is
      rw [e1, e2] at I4
      exact ⟨Z2, s1, acc, dacc, I4, z.trans (t.zz.trans z2), ra.mono (t.zz.trans z2), h1⟩
    | true =>
      rw [if_pos rfl]
      refine ⟨G.hide D (.lst acc), ⟨rfl, rfl⟩, Z2, ρ1, s1, I3, (ROk.calm (ROk.bind (show ROk G Wx σ ρ Zb ((fi1 ρ1 s1).calm.bind _) _ from h1))).up (Same.refl Z2) fun es s2 h2 J1 Z3 H3 I4 z3 w1 => ?_⟩
      obtain ⟨Y1, wk1, y1⟩ := w1
      refine walk_any wk1 (Body := fun Nx1 x H' => g1 x (L2.wipe σ' is1) H' fun σ3 H5 => L2.wipe σ3 is1 = L2.wipe σ' is1 ∧ xVT G.B G.ux W0 ft1 σ3 H5 fun b H6 =>
        if b = true then xV G.B G.ux W0 fe σ3 H6 fun y H7 => ∃ acc, H7 D = some (.lst acc) ∧ acc.length < sizeLine ∧ Nx1 (upd H7 D (.lst (acc ++ [y]))) else Nx1 H6)
        (fun j H => ∃ Z s acc dacc, VI (G.hide D (.lst acc)) Z H (L2.wipe σ' is1) (wipeE ρ1 is1) s ∧ Same Z3 Z ∧ Rps G.B Z acc dacc ∧ ROk G Wx σ ρ Zb ((lcD gt1 ft1 fe (wipeE ρ1 is1) (es.drop j) dacc s).bind fun acc2 s3 => lcD2 gt ft fi1 is1 gt1 ft1 fe (wipeE ρ is) (ds.drop (i + 1)) acc2 s3) _)
        ⟨Z3, s2, acc, dacc, I4.wipe is1, Same.refl Z3, ra.mono (t.zz.trans (z2.trans z3)), h2⟩ (fun i H _ ⟨Z, s, acc, dacc, I', z, _⟩ => z.trans I'.zh) ?_ ?_
      · rintro j x2 Ha Hb hj ⟨Za, sa, acc2, dacc2, Ia, za, ra2, ha⟩ hy2
        obtain ⟨d2, Zc, ed2, t2, r2⟩ := y1 j Ha x2 Hb hy2 Za za Ia.zh
        rw [drop_cons ed2] at ha
        have ha : ROk G Wx σ ρ Zb (((opt (gt1 d2 (wipeE ρ1 is1)) sa).bind fun ρ2 s => (ft1 ρ2 s).calm.bind fun b s1 => if b then (fe ρ2 s1).calm.bind fun y s2 => if fit dacc2.length then lcD gt1 ft1 fe (wipeE ρ1 is1) (es.drop (j + 1)) (dacc2 ++ [y]) s2 else .bad else lcD gt1 ft1 fe (wipeE ρ1 is1) (es.drop (j + 1)) dacc2 s1).bind fun acc2 s3 => lcD2 gt ft fi1 is1 gt1 ft1 fe (wipeE ρ is) (ds.drop (i + 1)) acc2 s3) _ := ha
        obtain ⟨ρ2, e3, ha⟩ := (ROk.bind (ROk.bind ha)).opt
        refine og (G.hide D (.lst acc2)) Zc Hb (L2.wipe σ' is1) (wipeE ρ1 is1) sa x2 d2 ρ2 _ rfl (Ia.step t2) r2 e3 fun σ3 Ib wp2 wpe2 => ?_
        have e4 : L2.wipe σ3 is1 = L2.wipe σ' is1 := (wp2 is1 fun _ h => h).trans (wipe_sub is1 fun _ h => h)
        have e5 : wipeE ρ2 is1 = wipeE ρ1 is1 := (wpe2 is1 fun _ h => h).trans (wipeE_sub is1 fun _ h => h)
        refine ⟨e4, G.hide D (.lst acc2), ⟨rfl, rfl⟩, Zc, ρ2, sa, Ib, (ROk.calm (ROk.bind ha)).up (Same.refl Zc) fun b sb hb Zd Hd Id zd => ?_⟩
        cases b with
        | false =>
          rw [if_neg Bool.false_ne_true]
          have I6 := Id.wipe is1
          rw [e4, e5] at I6
          refine ⟨Zd, sb, acc2, dacc2, I6, za.trans (t2.zz.trans zd), ra2.mono (t2.zz.trans zd), ?_⟩
          have hb : ROk G Wx σ ρ Zb (lcD gt1 ft1 fe (wipeE ρ1 is1) (es.drop (j + 1)) dacc2 sb) _ := hb
          exact ROk.unbind hb
        | true =>
          rw [if_pos rfl]
          refine ⟨G.hide D (.lst acc2), ⟨rfl, rfl⟩, Zd, ρ2, sb, Id, (ROk.calm (ROk.bind (show ROk G Wx σ ρ Zb ((fe ρ2 sb).calm.bind _) _ from hb))).up (Same.refl Zd) fun yv sc hc v Ze He Ie ze rv => ?_⟩
          have hz := (Ie.hid (D, .lst acc2) List.mem_cons_self).1
          cases hf : fit dacc2.length with
          | false =>
            rw [hf] at hc
            exact hc.elim
          | true =>
            rw [hf] at hc
            have I7 := Ie.wipe is1
            rw [e4, e5] at I7
            have hc : ROk G Wx σ ρ Zb (lcD gt1 ft1 fe (wipeE ρ1 is1) (es.drop (j + 1)) (dacc2 ++ [yv]) sc) _ := hc
            refine ⟨acc2, hz, fit_lt (by rw [ra2.len]; exact hf), Ze, sc, acc2 ++ [v], dacc2 ++ [yv], I7.rehide o1.h (fun q hq e => o1.f.d q hq e.symm) sx, za.trans (t2.zz.trans (zd.trans ze)), (ra2.mono (t2.zz.trans (zd.trans ze))).app (.cons rv .nil), ?_⟩
            exact ROk.unbind hc
      · rintro Ha ⟨Za, sa, acc2, dacc2, Ia, za, ra2, ha⟩
        rw [List.drop_length] at ha
        have I6 := Ia.wipe is
        rw [wipe_sub is1 sub, wipeE_sub is1 sub, e1, e2] at I6
        exact ⟨Za, sa, acc2, dacc2, I6, z.trans (t.zz.trans (z2.trans (z3.trans za))), ra2, ha⟩
  · rintro H ⟨Z, s, acc, dacc, I', z, ra, h⟩
    rw [List.drop_length] at h
    have hz := (I'.hid (D, .lst acc) List.mem_cons_self).1
    obtain ⟨I2, o2⟩ := I'.unhide I hD z pl
    exact h D acc Z H I2 z hz o2 ra
section
variable {is is1 : List Nat} {elt tg iter tg1 iter1 : Expr} {ifs ifs1 : List Expr} {scope : Scope} {own : List (Str × Nat)} {fi fi1 : Af} {gt gt1 : D → En → Option En} {ft ft1 : Tf} {fe : Ef}
theorem lcT2 {G : Gf} {g g1 : TG} (hs : own.map (·.2) = is) (sub : ∀ i ∈ is1, i ∈ is) (o : VGok G.B is g gt) (og : VGok G.B is1 g1 gt1) {σ : L2.St} {H : Hp} {Q : VK} (h : tVF G W (lLc2 is fi gt ft fi1 is1 gt1 ft1 fe) σ H Q) : tLc2 (tVI G W fi) g (xVT G.B G.ux W0 ft) (xVI G.B G.ux W0 fi1) g1 (xVT G.B G.ux W0 ft1) (xV G.B G.ux W0 fe) (own.map (·.2)) is1 σ H Q := by
  subst hs
  obtain ⟨Z, ρ, s, I, h⟩ := h
  unfold lLc2 at h
  cases pl : (own.map (·.2)).all (plainAt ρ) with
  | false => rw [pl] at h; exact h.elim
  | true =>
    rw [pl] at h
    have h : ROk G W σ ρ Z ((fi ρ s).bind _) _ := h
    refine ⟨Z, ρ, s, I, h.bind.up (Same.refl Z) fun ds s1 h1 J Z' H' I' z w => ?_⟩
    exact lc2_of sub w o og I' pl (h1.up (Same.refl Z) fun es s2 k p vs Z2 H2 I2 z2 => k p vs Z2 H2 I2 (z.trans z2))
theorem vf_lc2 (hc : X.calm = true) (hN : X.N.Nodup) (hi : VIt B u X W tg iter fi) (ok : BlkOk X.N X.env.scope scope own) (hs : own.map (·.2) = is) (sub : ∀ i ∈ is1, i ∈ is)
    (hg : ∃ g, (∀ (s : Shared) (H : Hp) (C : Addr) (cl : List (Str × Addr)) (fp : List Addr), PG (X.blk s H scope (compEnvC scope cl C X.env) fp) tg g) ∧ VGok B is g gt)
    (ht : ∀ (s : Shared) (H : Hp) (C : Addr) (cl : List (Str × Addr)) (fp : List Addr), VTs B u (X.blk s H scope (compEnvC scope cl C X.env) fp) W0 ifs ft)
    (hi1 : ∀ (s : Shared) (H : Hp) (C : Addr) (cl : List (Str × Addr)) (fp : List Addr), VIt B u (X.blk s H scope (compEnvC scope cl C X.env) fp) W0 tg1 iter1 fi1)
    (hg1 : ∃ g, (∀ (s : Shared) (H : Hp) (C : Addr) (cl : List (Str × Addr)) (fp : List Addr), PG (X.blk s H scope (compEnvC scope cl C X.env) fp) tg1 g) ∧ VGok B is1 g gt1)
    (ht1 : ∀ (s : Shared) (H : Hp) (C : Addr) (cl : List (Str × Addr)) (fp : List Addr), VTs B u (X.blk s H scope (compEnvC scope cl C X.env) fp) W0 ifs1 ft1)
    (he : ∀ (s : Shared) (H : Hp) (C : Addr) (cl : List (Str × Addr)) (fp : List Addr), VE B u (X.blk s H scope (compEnvC scope cl C X.env) fp) W0 elt fe) (hx : ∀ x, foldedSetIterable iter X.env x = pure x := by intro _; rfl) (hx1 : ∀ env x, foldedSetIterable iter1 env x = pure x := by intro _ _; rfl) :
    VF B u X W (.ListComp elt [⟨tg, iter, ifs, 0⟩, ⟨tg1, iter1, ifs1, 0⟩] scope pos) (lLc2 is fi gt ft fi1 is1 gt1 ft1 fe) := by
  intro G hG
  obtain ⟨g, hg, o⟩ := hg
  obtain ⟨g1, hg1, og⟩ := hg1
  have h0 := hi G hG
  obtain ⟨rfl, rfl⟩ := hG
  exact pe_mono (pe_lc2 hc hN h0 ok (by rw [hs]; exact sub) hg ht (fun s H C cl fp => (hi1 s H C cl fp).x) hg1 ht1 (fun s H C cl fp => (he s H C cl fp).x) hx hx1) fun σ H Q h => lcT2 hs sub o og h
theorem vs_lc2F (i : Nat) {y : Str} {py spos : Pos} (hc : X.calm = true) (hN : X.N.Nodup) (hy : X.N[i]? = some y) (hyl : X.env.scope.names.lookup y = some .local)
    (hsw : swapsWith (.ListComp elt [⟨tg, iter, ifs, 0⟩, ⟨tg1, iter1, ifs1, 0⟩] scope pos) (some (.Name y py)) spos.line X.env = pure true) (hi : VIt B u X W tg iter fi) (ok : BlkOk X.N X.env.scope scope own) (hs : own.map (·.2) = is) (sub : ∀ i ∈ is1, i ∈ is)
    (hg : ∃ g, (∀ (s : Shared) (H : Hp) (C : Addr) (cl : List (Str × Addr)) (fp : List Addr), PG (X.blk s H scope (compEnvC scope cl C X.env) fp) tg g) ∧ VGok B is g gt)
    (ht : ∀ (s : Shared) (H : Hp) (C : Addr) (cl : List (Str × Addr)) (fp : List Addr), VTs B u (X.blk s H scope (compEnvC scope cl C X.env) fp) W0 ifs ft)
    (hi1 : ∀ (s : Shared) (H : Hp) (C : Addr) (cl : List (Str × Addr)) (fp : List Addr), VIt B u (X.blk s H scope (compEnvC scope cl C X.env) fp) W0 tg1 iter1 fi1)
    (hg1 : ∃ g, (∀ (s : Shared) (H : Hp) (C : Addr) (cl : List (Str × Addr)) (fp : List Addr), PG (X.blk s H scope (compEnvC scope cl C X.env) fp) tg1 g) ∧ VGok B is1 g gt1)
    (ht1 : ∀ (s : Shared) (H : Hp) (C : Addr) (cl : List (Str × Addr)) (fp : List Addr), VTs B u (X.blk s H scope (compEnvC scope cl C X.env) fp) W0 ifs1 ft1)
    (he : ∀ (s : Shared) (H : Hp) (C : Addr) (cl : List (Str × Addr)) (fp : List Addr), VE B u (X.blk s H scope (compEnvC scope cl C X.env) fp) W0 elt fe) (hx : ∀ x, foldedSetIterable iter X.env x = pure x := by intro _; rfl) (hx1 : ∀ env x, foldedSetIterable iter1 env x = pure x := by intro _ _; rfl) :
    VS B u X W (.Assign [.Name y py] (.ListComp elt [⟨tg, iter, ifs, 0⟩, ⟨tg1, iter1, ifs1, 0⟩] scope pos) spos) (sAsg (eOf (lLc2 is fi gt ft fi1 is1 gt1 ft1 fe)) (gtN i)) := by
  intro G hG
  obtain ⟨g, hg, o⟩ := hg
  obtain ⟨g1, hg1, og⟩ := hg1
  have h0 := hi G hG
  obtain ⟨rfl, rfl⟩ := hG
  refine ps_mono (ps_setLc2 hc hN hy hyl hsw h0 ok (by rw [hs]; exact sub) hg ht (fun s H C cl fp => (hi1 s H C cl fp).x) hg1 ht1 (fun s H C cl fp => (he s H C cl fp).x) hx hx1) fun D' σ H h => ?_
  obtain ⟨Z, ρ, s, I, h⟩ := asg_of (is := [i]) gtN_ok h
  exact lcT2 hs sub o og (vf_ve ⟨Z, ρ, s, I, h⟩)
end
end
end Vv

/-! ## is not True, is not False -/
namespace Vv
section
variable {B : Tb}
def vNotB : D → D → Option D
  | .bl a, .bl b => some (.bl (!decide (a = b)))
  | _, _ => none
theorem Op2.notB : Op2 B rNotB vNotB := ⟨fun {Z H x y dx dy d Q} z rx ry e q => by
  cases rx with
  | bl a =>
    cases ry with
    | bl b => cases e; exact ⟨a, b, rfl, rfl, q _ Z H (Step.refl z) (.bl _)⟩
    | _ => cases e
  | _ => cases e⟩
end
end Vv
namespace Vv
theorem VGok.sub {B : Tb} {is js : List Nat} {g : TG} {gt : D → En → Option En} (h : ∀ i ∈ is, i ∈ js) (o : VGok B is g gt) : VGok B js g gt := fun G Z H σ ρ s v d ρ' Q hB I r e k =>
  o G Z H σ ρ s v d ρ' Q hB I r e fun σ' I' w1 w2 => k σ' I' (fun ks hk => w1 ks fun i hi => hk i (h i hi)) (fun ks hk => w2 ks fun i hi => hk i (h i hi))
end Vv

/-! ## {} -/
namespace Vv
section
variable {B : Tb} {u : Option (Addr × Value × Option Addr)} {X : Cx} {W : WX} {pos : Pos}
theorem ve_dic0 : VE B u X W (.Dict [] [] pos) (eC (.dic [] [])) := by
  intro G hG
  obtain ⟨rfl, rfl⟩ := hG
  refine pe_mono pe_dnewK fun σ H Q ⟨Z, ρ, s, I, h⟩ p n => ?_
  have t := Step.new (.dK []) I.zh n
  exact h _ _ _ (I.step t) t.zz (.dic0 upd_same)
end
end Vv

/-! ## reading lists of ours, what is read may be a tuple, a list, an object -/
namespace Vv
open Classical in
noncomputable def frzN (Z1 : Hp) (σ : L2.St) (ρ : En) : Hp := fun b => if ∃ i, OwnL ρ i ∧ σ[i]? = some (some (.ref b)) then none else Z1 b
theorem VI.unfrz2 {G : Gf} {Z Z1 H H1 : Hp} {σ : L2.St} {ρ : En} {s s1 : S} (I : VI G Z H σ ρ s) (no : noOb ρ = true) (J : VI G Z1 H1 σ (ρ.map frzS) s1) (z : Same (frzZ Z H σ ρ) Z1) : VI G (frzN Z1 σ ρ) H1 σ ρ s1 ∧ Same Z (frzN Z1 σ ρ) := by
  have yes : ∀ b, (∃ i, OwnL ρ i ∧ σ[i]? = some (some (.ref b))) → frzN Z1 σ ρ b = none := fun b h => if_pos h
  have nn : ∀ b, (¬ ∃ i, OwnL ρ i ∧ σ[i]? = some (some (.ref b))) → frzN Z1 σ ρ b = Z1 b := fun b h => if_neg h
  have own : ∀ b, (∃ i, OwnL ρ i ∧ σ[i]? = some (some (.ref b))) → Z b = none := fun b ⟨i, o, e⟩ => by
    obtain ⟨ds, e2⟩ := o.at
    obtain ⟨p, vs, ep, hp, f, n, r⟩ := I.sl i _ e2
    rw [e] at ep; cases ep
    exact f.z
  have none_ : ∀ b, Z1 b = none → frzN Z1 σ ρ b = none := fun b e => by
    by_cases h : ∃ i, OwnL ρ i ∧ σ[i]? = some (some (.ref b))
    · exact yes b h
    · rw [nn b h]; exact e
  have some_ : ∀ b o, frzN Z1 σ ρ b = some o → Z1 b = some o := fun b o e => by
    by_cases h : ∃ i, OwnL ρ i ∧ σ[i]? = some (some (.ref b))
    · rw [yes b h] at e; cases e
    · rwa [nn b h] at e
  have zz : Same Z (frzN Z1 σ ρ) := fun b o e => by
    have h : ¬ ∃ i, OwnL ρ i ∧ σ[i]? = some (some (.ref b)) := fun h => by rw [own b h] at e; cases e
    rw [nn b h]
    exact z b o (by rw [show frzZ Z H σ ρ b = Z b from if_neg h]; exact e)
  refine ⟨⟨I.len, fun b u e => J.zh b u (some_ b u e), I.z0.trans zz, fun b o e => J.zn b o (some_ b o e), J.keep, fun q hq => ?_, J.slf, fun q hq => ⟨(J.hid q hq).1, none_ _ (J.hid q hq).2⟩, fun i x e => ?_, I.dis⟩, zz⟩
  · obtain ⟨st, e1, hA, z1, z2, hd⟩ := J.hnd q hq
    exact ⟨st, e1, hA, none_ _ z1, none_ _ z2, hd⟩
  · have sl := I.sl i x e
    cases x with
    | no => trivial
    | val d => obtain ⟨v, e2, r⟩ := sl; exact ⟨v, e2, r.mono zz⟩
    | own ds =>
      obtain ⟨p, vs, ep, hp, f, n, r⟩ := sl
      have op : ∃ i, OwnL ρ i ∧ σ[i]? = some (some (.ref p)) := ⟨i, by unfold OwnL; rw [e]; trivial, ep⟩
      refine ⟨p, vs, ep, J.zh _ _ (z _ _ ?_), ⟨yes p op, f.h, f.d⟩, n, r.mono zz⟩
      rw [show frzZ Z H σ ρ p = H p from if_pos op]
      exact hp
    | ob c fs =>
      have := List.all_eq_true.mp no _ (List.mem_of_getElem? e)
      cases this
    | hand => exact sl
    | exc c fs => obtain ⟨a, d, ws, e3, x3, h3, l3, r3⟩ := sl; exact ⟨a, d, ws, e3, x3, zz _ _ h3, l3, r3.mono zz⟩
/-- two lists that are surely not one -/
def clashL (l m : List D) : Bool := decide (l.length ≠ m.length) || (match l, m with
  | .int _ :: _, x :: _ => (match x with
    | .int _ => false
    | _ => true)
  | _, _ => false)
mutual
def keepD (os : List (List D)) : D → Bool
  | .tup l => keepL os l
  | .lst l => keepL os l && os.all (clashL l)
  | .obj _ l => keepL os l
  | .set _ => false
  | .dic ks vs => ks.isEmpty && vs.isEmpty
  | _ => true
def keepL (os : List (List D)) : List D → Bool
  | [] => true
  | d :: l => keepD os d && keepL os l
end
theorem clash_ne {B : Tb} {Z : Hp} {vs : List V} {l m : List D} (r : Rps B Z vs l) (q : Rps B Z vs m) (h : clashL l m = true) : False := by
  have e1 := r.len
  have e2 := q.len
  unfold clashL at h
  rw [decide_eq_false (by omega), Bool.false_or] at h
  cases r with
  | nil => cases h
  | cons a r =>
    cases q with
    | cons b q =>
      cases a with
      | int i =>
        cases b with
        | int j => cases h
      | _ => cases h
section
variable {B : Tb} {Z1 Zn : Hp} {os : List (List D)}
theorem sqT_of {a : Addr} {vs : List V} (hz : ∀ b o, Z1 b = some o → Zn b = some o ∨ ∃ ws ds, o = .lst ws ∧ Rps B Z1 ws ds ∧ ds ∈ os) (h : SqT B.K Z1 a vs) : SqT B.K Zn a vs := by
  rcases h with (h | ⟨o, h⟩) | h
  · rcases hz _ _ h with e | ⟨ws, ds, e, _⟩
    · exact .inl (.inl e)
    · cases e
  · rcases hz _ _ h with e | ⟨ws, ds, e, _⟩
    · exact .inl (.inr ⟨o, e⟩)
    · cases e
  · exact .inr h
mutual
theorem keep_of (hz : ∀ b o, Z1 b = some o → Zn b = some o ∨ ∃ ws ds, o = .lst ws ∧ Rps B Z1 ws ds ∧ ds ∈ os) : ∀ {v : V} {d : D}, Rp B Z1 v d → keepD os d = true → Rp B Zn v d
  | _, _, .non, _ => .non
  | _, _, .bl b, _ => .bl b
  | _, _, .int i, _ => .int i
  | _, _, .str l, _ => .str l
  | _, _, .ty n, _ => .ty n
  | _, _, .cl c, _ => .cl c
  | _, _, .tup h r, k => .tup (sqT_of hz h) (keeps_of hz r (by unfold keepD at k; exact k))
  | _, _, .lst (ds := ds) h r, k => by
    unfold keepD at k
    rw [Bool.and_eq_true] at k
    rcases hz _ _ h with e | ⟨ws, es, e, q, m⟩
    · exact .lst e (keeps_of hz r k.1)
    · cases e
      exact (clash_ne r q (List.all_eq_true.mp k.2 _ m)).elim
  | _, _, .obj h hl r, k => by
    unfold keepD at k
    rcases hz _ _ h with e | ⟨ws, es, e, _⟩
    · exact .obj e hl (keeps_of hz r k)
    · cases e
  | _, _, .dic0 h, _ => by
    rcases hz _ _ h with e | ⟨ws, es, e, _⟩
    · exact .dic0 e
    · cases e
theorem keeps_of (hz : ∀ b o, Z1 b = some o → Zn b = some o ∨ ∃ ws ds, o = .lst ws ∧ Rps B Z1 ws ds ∧ ds ∈ os) : ∀ {vs : List V} {ds : List D}, Rps B Z1 vs ds → keepL os ds = true → Rps B Zn vs ds
  | _, _, .nil, _ => .nil
  | _, _, .cons h r, k => by
    unfold keepL at k
    rw [Bool.and_eq_true] at k
    exact .cons (keep_of hz h k.1) (keeps_of hz r k.2)
end
end
def ownsOf (ρ : En) : List (List D) := ρ.filterMap fun x => match x with
  | .own ds => some ds
  | _ => none
section
variable {B : Tb} {u : Option (Addr × Value × Option Addr)} {X : Cx} {W : WX} {e : Expr}
def eU2 (f : Ef) : Ef := fun ρ s => if noOb ρ then (f (ρ.map frzS) s).calm.bind fun d s1 => if keepD (ownsOf ρ) d then .ok d s1 else .bad else .bad
theorem ve_u2 {f : Ef} (h : VE B u X W e f) : VE B u X W e (eU2 f) := by
  intro G hG
  refine pe_mono (h G hG) fun σ H Q ⟨Z, ρ, s, I, h⟩ => ?_
  unfold eU2 at h
  cases no : noOb ρ with
  | false => rw [no] at h; exact h.elim
  | true =>
    rw [no] at h
    have h : ROk G W σ ρ Z ((f (ρ.map frzS) s).calm.bind _) _ := h
    refine ⟨_, _, s, (I.frzA no).1, (ROk.calm h.bind).up (Same.refl _) fun d s1 h1 v Z1 H1 J z r => ?_⟩
    cases a : keepD (ownsOf ρ) d with
    | false => rw [a] at h1; exact h1.elim
    | true =>
      rw [a] at h1
      obtain ⟨I2, z2⟩ := I.unfrz2 no J z
      refine h1 v (frzN Z1 σ ρ) H1 I2 z2 (keep_of (os := ownsOf ρ) (fun b o eb => ?_) r a)
      by_cases hb : ∃ i, OwnL ρ i ∧ σ[i]? = some (some (.ref b))
      · right
        obtain ⟨i, oi, ei⟩ := hb
        obtain ⟨ds, e2⟩ := oi.at
        obtain ⟨p, vs, ep, hp, f, n, rr⟩ := I.sl i _ e2
        rw [ei] at ep
        cases ep
        have zb : Z1 b = some (.lst vs) := z b _ (by rw [show frzZ Z H σ ρ b = H b from if_pos ⟨i, oi, ei⟩]; exact hp)
        rw [eb] at zb
        refine ⟨vs, ds, Option.some.inj zb, rr.mono ((I.frzA no).2.trans z), ?_⟩
        exact List.mem_filterMap.mpr ⟨.own ds, List.mem_of_getElem? e2, rfl⟩
      · left
        rw [show frzN Z1 σ ρ b = Z1 b from if_neg hb]
        exact eb
end
end Vv

/-! ### enumerate(e, start=1) -/
section
variable {prog : Program} {w : World} {A : Around} {E : Value → Shared → Prop} {s : Shared}
theorem typeCall_enum1 (a v : Value) : checkTypeCall "enumerate" ⟨[a], [("start", v)]⟩ = pure () := by kernel_rfl
theorem newCall_enum1 (a v : Value) : checkBuiltinCall "enumerate.__new__" ⟨[.type "enumerate", a], [("start", v)]⟩ = pure () := by kernel_rfl
theorem meets_enum1 (l : Addr) (items : Array Value) (n : Nat) (dct : Option Addr) (sl : Array (Option Value)) (t : Tok) :
    Meets (Builtin.«enumerate.__new__» ⟨[.type "enumerate", .ref l], [("start", .int 1 t)]⟩) (fun _ R s => s.heap.get? l = some { cls := .type "list", dict := dct, data := .seq items n, slots := sl } ∧
      R (.ok (.ret (.ref (s.heap.push { cls := .type "list_iterator", data := .fields #[.ref l, .int 0 0] }).objs.size)))
        { s with heap := (s.heap.push { cls := .type "list_iterator", data := .fields #[.ref l, .int 0 0] }).push { cls := .type "enumerate", data := .fields #[.none, .bool false, .ref s.heap.objs.size, rawInt 1, .none, .none] } }) :=
  .of_wp fun prog w A R s h => by
    obtain ⟨hp, g, d, tk, os⟩ := s; obtain ⟨hl, h⟩ := h
    have hsub := sub_enumerate
    have hL : Heap.IsList (Shared.heap ⟨hp, g, d, tk, os⟩) l items := ⟨_, hl, rfl, n, rfl⟩
    wp_walk using AutoSeq1.wpAny_loadPart' hl
    refine wpAny_stack_any fun st => wpAny_pure ?_
    split
    · rename_i c _ _ _ _ _
      cases (c == Value.type "enumerate")
      · wp_walk using AutoSeq1.wpAny_loadPart' hl, wpAny_pyIter_list hL
        exact ⟨_, rfl, h⟩
      · wp_walk using AutoSeq1.wpAny_loadPart' hl, wpAny_pyIter_list hL
        exact ⟨_, rfl, h⟩
    · wp_walk using AutoSeq1.wpAny_loadPart' hl, wpAny_pyIter_list hL
      exact ⟨_, rfl, h⟩
theorem callType_meetsK {T newId initId : String} {Bn Bi : Builtin} {args : List Value} {kw : List (Str × Value)} {S : PySem.Spec} {Q Q₁ : Value → Shared → Prop} (ft : TypeCalled T newId initId)
    (hct : checkTypeCall T ⟨args, kw⟩ = pure ()) (hcn : checkBuiltinCall newId ⟨.type T :: args, kw⟩ = pure ())
    (entryN : entryFor table newId = some Bn) (entryI : entryFor table initId = some Bi) (g : Meets (Bn ⟨.type T :: args, kw⟩) S)
    (h : S A.in1 (wants Q₁ E) s)
    (hnext : ∀ obj s₁, Q₁ obj s₁ → s₁.TypeIs obj T ∧ argsOk initId ⟨obj :: args, kw⟩ ∧ ∃ Si, Meets (Bi ⟨obj :: args, kw⟩) Si ∧ Si A.in1 (wants (fun r s₂ => r = .none ∧ Q obj s₂) E) s₁) :
    wpAny (model prog w) A (call (.type T) args kw) Q E s := by
  obtain ⟨c, tl, hmro⟩ := ft.mro
  have hmade := ft.made
  have hsub := ft.sub
  refine wpAny_call (codeAny_of_tree ?_)
  show wpAny _ _ (callAny (.type T) _) _ _ _
  refine wpAny_pure ⟨Code.quiet_builtin _ (by decide +kernel), codeAny_builtin F.entry_type_call ?_⟩
  rw [Around.under_plain (weight_type_call_type T args kw) (units_type_call_type T args kw)]
  have h1 := ft.notType
  have h2 := ft.canCreate
  repeat (any_goals (first | assumption | wp_step))
  refine codeAny_mono (codeAny_call_builtin ft.plain entryN (wpAny_of_eq hcn (g prog w A.in1 _ s h))) fun r s₁ hr => ?_
  cases r with
  | error e => exact hr
  | ok fl =>
    cases fl with
    | ret obj =>
      obtain ⟨hT, hok, Si, gi, hsi⟩ := hnext _ _ hr
      have hli := ft.init.lookup
      have hbi := ft.init.bind obj
      repeat (any_goals (first | assumption | wp_step))
      refine codeAny_mono (codeAny_call_builtin ft.init.plain entryI (ft.init.check _ _ _ _ _ _ _ _ hT hok (gi prog w A.in1 _ s₁ hsi))) fun r₂ s₂ hr₂ => ?_
      cases r₂ with
      | error e => exact hr₂
      | ok fl₂ =>
        cases fl₂ with
        | ret r =>
          obtain ⟨rfl, hq⟩ := hr₂
          repeat (any_goals (first | assumption | wp_step))
        | _ => exact hr₂.elim
    | _ => exact hr.elim
theorem args_init_enum1 (o a v : Value) : argsOk "object.__init__" ⟨[o, a], [("start", v)]⟩ := by
  unfold argsOk
  kernel_rfl
theorem object_init_meetsK {T newId : String} {self a v : Value} (hl : typeLookup (.type T) "__init__" = pure (some (.builtin "object.__init__")))
    (hm : Bind.madeBy (.type T) = pure (some newId)) (hne : (some newId != some "object.__new__") = true) :
    Meets (Builtin.«object.__init__» ⟨[self, a], [("start", v)]⟩) (fun _ R s => s.TypeIs self T ∧ R (.ok (.ret .none)) s) := by
  refine Meets.of_wp fun prog w A R s hs => ?_
  obtain ⟨hT, hq⟩ := hs
  repeat (any_goals (first | assumption | wp_step))
  exact ⟨_, rfl, hq⟩
theorem call_enum1 {l : Addr} {items : Array Value} {t : Tok} {Q : Value → Shared → Prop} (hL : s.heap.IsList l items)
    (h : ∀ h', IsEnum h' (s.heap.objs.size + 1) s.heap.objs.size 1 .none → h'.IsListIter s.heap.objs.size l 0 → h'.objs.size = s.heap.objs.size + 2 →
      (∀ b o, s.heap.get? b = some o → h'.get? b = some o) → Q (.ref (s.heap.objs.size + 1)) { s with heap := h' }) :
    wpAny (model prog w) A (call (.type "enumerate") [.ref l] [("start", .int 1 t)]) Q E s := by
  obtain ⟨⟨c, dct, dt, sl⟩, hl, hc, n, hd⟩ := hL
  replace hc : c = .type "list" := hc
  replace hd : dt = .seq items n := hd
  subst hc hd
  refine callType_meetsK (Q₁ := fun obj s₁ => s₁.TypeIs obj "enumerate" ∧ Q obj s₁) F.called_enumerate (typeCall_enum1 _ _) (newCall_enum1 _ _) F.entry_enumerate_new F.entry_object_init (meets_enum1 l items n dct sl t) ⟨hl, ?_⟩ fun obj _ hq =>
    ⟨hq.1, args_init_enum1 obj _ _, _, object_init_meetsK F.called_enumerate.init.lookup F.called_enumerate.made (by decide), hq.1, rfl, hq.2⟩
  have hz : (s.heap.push { cls := .type "list_iterator", data := .fields #[.ref l, .int 0 0] }).objs.size = s.heap.objs.size + 1 := Heap.size_push ..
  show _ ∧ _
  rw [hz]
  have he : IsEnum ((s.heap.push { cls := .type "list_iterator", data := .fields #[.ref l, .int 0 0] }).push
      { cls := .type "enumerate", data := .fields #[.none, .bool false, .ref s.heap.objs.size, rawInt 1, .none, .none] }) (s.heap.objs.size + 1) s.heap.objs.size 1 .none := by
    have := Heap.get?_push_size (s.heap.push { cls := .type "list_iterator", data := .fields #[.ref l, .int 0 0] })
      (o := { cls := .type "enumerate", data := .fields #[.none, .bool false, .ref s.heap.objs.size, rawInt 1, .none, .none] }) rfl
    rw [hz] at this; exact this
  refine ⟨⟨_, he, rfl⟩, h _ he ⟨_, Heap.get?_push_of_some _ (Heap.get?_push_size _ rfl), rfl, rfl⟩ (by rw [Heap.size_push, hz]) fun b o x => Heap.get?_push_of_some _ (Heap.get?_push_of_some _ x)⟩
end

/-! ### for i, x in enumerate(e, start=1), e a list -/
theorem draws_up {prog : Program} {w : World} {A : Around} {it : Addr} {fp : List Addr} {n : Nat} {P : Nat → Value → Prop} {St : Nat → Heap → Prop} (D : Draws prog w A it fp n P St) :
    Draws prog w A it fp (n + 1) (fun j v => 1 ≤ j ∧ P (j - 1) v) (fun j h => 1 ≤ j ∧ St (j - 1) h) where
  live := fun j h st => D.live _ h st.2
  frame := fun j h h' st hk => ⟨st.1, D.frame _ h h' st.2 hk⟩
  item := fun j s Q E hj st hQ => D.item (j - 1) s Q E (by have := st.1; omega) st.2 fun x h' tk hp hs k => hQ x h' tk ⟨st.1, hp⟩ ⟨by omega, by rw [show j + 1 - 1 = j - 1 + 1 by have := st.1; omega]; exact hs⟩ k
  done := fun s Q E st hE => D.done s Q E st.2 hE
/-- the list at a as it stands at each turn, each item in a new pair, counted from 1 -/
def Ite1 (K : PySem.W.Frag) (a : Addr) : It :=
  ⟨fun i H => ∃ (xs : List V) (x : V), SqL K H a xs ∧ xs[i]? = some x, fun i H v H' => ∃ T x, v = .ref T ∧ H T = none ∧ H' = L2.upd H T (.tup [.int (i + 1 : Nat), x]) ∧ (∀ ys, SqL K H a ys → ys[i]? = some x), fun i H => ∃ xs : List V, SqL K H a xs ∧ xs.length ≤ i⟩
theorem lst_ne {h : Heap} {l it : Addr} {xs : Array Value} {n : Nat} (p : h.IsList l xs) (q : h.IsListIter it l n) : l ≠ it := fun z => by
  obtain ⟨o, e, c, _⟩ := p
  obtain ⟨o2, e2, c2, _⟩ := q
  rw [z, e2] at e
  cases e
  exact absurd (Value.type.inj (c2.symm.trans c)) (by decide)
theorem lst_ne2 {h : Heap} {l en it : Addr} {xs : Array Value} {i : Int} {old : Value} (p : h.IsList l xs) (q : IsEnum h en it i old) : en ≠ l := fun z => by
  obtain ⟨o, e, c, _⟩ := p
  have q' : h.get? en = some _ := q
  rw [z, e] at q'
  cases q'
  exact absurd (Value.type.inj c) (by decide)
theorem turn_enum1 {P : Program} {w : World} {K : PySem.W.Frag} {elts : List Expr} {kk : Nat} {tpos : Pos} (a e it : Addr) :
    Turn P w K (.Tuple elts kk tpos) (Ite1 K a) [e, it] e (fun i h => (∃ old, IsEnum h e it ((i + 1 : Nat) : Int) old) ∧ h.IsListIter it a i ∧ e ≠ it) where
  mem := by simp
  obj := fun i h ⟨⟨old, he⟩, ⟨o, ho, hc, hd⟩, _⟩ b hb => by
    rcases (show b = e ∨ b = it by simpa using hb) with z | z
    · rw [z]
      exact ⟨_, he, fun v q => nomatch q⟩
    · rw [z]
      exact ⟨o, ho, fun v q => by rw [hd] at q; cases q⟩
  keep := fun i h h' ⟨⟨old, he⟩, hi, ne⟩ k => ⟨⟨old, k e (by simp) _ he⟩, hi.at fun o q => k it (by simp) o q, ne⟩
  item := by
    intro X hP hw hK calm i pins s σ H E I hf ⟨⟨old, he⟩, hit, ne⟩ ⟨xs, x, hq, hx⟩
    subst hP hw hK
    obtain ⟨its, rv, p, hz⟩ := I.list hq
    have pt : s.heap.IsList a its.toArray := p.isList
    obtain ⟨u, hu, ru⟩ := rv.get hx
    have hlt : i + 1 < its.toArray.size + 1 := by
      have := List.getElem?_eq_some_iff.mp hu
      obtain ⟨h1, _⟩ := this
      simpa using h1
    have el := Heap.lt_size he
    have il : it < s.heap.objs.size := by obtain ⟨_, q, _⟩ := hit; exact Heap.lt_size q
    have D := draws_up (Draws.list (prog := X.prog) (w := X.w) (A := X.A.in1) (I.ok.hd calm) it a (lst_ne pt hit) its.toArray)
    refine wpAny_pyNext_enum_itemD D he ⟨by omega, hit, pt⟩ hlt ne (by simp [ne, lst_ne2 pt he]) fun v h' tk hv ho ⟨_, hit', pt'⟩ hT hsz hk => ?_
    obtain rfl : u = v := by
      have h2 := hv.2
      rw [Nat.add_sub_cancel, List.getElem?_toArray, hu] at h2
      exact Option.some.inj h2
    refine ⟨_, rfl, wpAny_letOwnedTupleGo_enum (s := { s with heap := h', toks := tk + 1 }) ho fun h2 he2 sb => ?_⟩
    have hT2 : h2.get? s.heap.objs.size = some { cls := .type "tuple", data := .seq #[.int (i + 1 : Nat) tk, u] } := (sb.2 _ (Nat.ne_of_gt el)).trans hT
    have new : ObjOk X.prog X.w (L2.upd H s.heap.objs.size (.tup [.int (i + 1 : Nat), x])) h2 s.heap.objs.size (.tup [.int (i + 1 : Nat), x]) :=
      ⟨by show 2 ≤ sizeLine; decide, [.int (i + 1 : Nat) tk, u], .cons ⟨_, rfl⟩ (.cons ru .nil), ⟨_, hT2, rfl, _, rfl⟩⟩
    have I1 : L2.Inv X pins σ (L2.upd H s.heap.objs.size (.tup [.int (i + 1 : Nat), x])) { s with heap := h2, toks := tk + 1 } :=
      I.turnedNew (ch := [e, it]) (fun b ob hb q => (sb.2 b (fun z => hb (by simp [z]))).trans (hk b ob (fun z => hb (by simp [z])) (fun z => hb (by simp [z])) q)) hf (Nat.le_refl _) new
    refine ⟨.ref s.heap.objs.size, _, I1, rfl, ⟨_, x, rfl, I.hok.fresh (Nat.le_refl _), rfl, fun ys hy => by rw [I.list_inj hy hq]; exact hx⟩, ⟨⟨u, ?_⟩, (show h'.IsListIter it a (i + 1) from by simpa using hit').at fun o q => (sb.2 it (Ne.symm ne)).trans q, ne⟩, fun b hb => ?_⟩
    · rw [show ((i + 1 + 1 : Nat) : Int) = ((i + 1 : Nat) : Int) + 1 by omega]
      exact he2
    · have lt : b < s.heap.objs.size := by
        rcases (show b = e ∨ b = it by simpa using hb) with z | z
        · exact z ▸ el
        · exact z ▸ il
      exact (upd_ne (Nat.ne_of_lt lt)).trans (hf b hb).1
  done := by
    intro X hP hw hK calm i pins s σ H E I hf ⟨⟨old, he⟩, hit, ne⟩ ⟨xs, hq, hx⟩
    subst hP hw hK
    obtain ⟨its, rv, p, hz⟩ := I.list hq
    have pt : s.heap.IsList a its.toArray := p.isList
    obtain ⟨f0, f1, f2, f3, f4, f5⟩ := hf it (by simp)
    have many := rv.length
    have eT : s.TypeIs (.ref e) "enumerate" := ⟨_, he, rfl⟩
    unfold pyNext
    refine wpAny_bind (wpAny_attempt (wpAny_callSpecial?_slot (name := Str.ofString "__next__") eT F.slot_enumerate_next (wpAny_call_entry F.slot_enumerate_next eT F.entry_enumerate_next ?_ (F.args_enumerate_next_1 _))))
    show wpAny _ _ (field (.ref e) 2 >>= _) _ _ _
    refine wpAny_bind (wpAny_field he rfl (x := .ref it) rfl (wpAny_bind (wpAny_nextOf_list_end (I.ok.hd calm) hit pt (by simp; omega) fun h' er eb ⟨o, ho, hc⟩ => ?_)))
    exact wpAny_bind (wpAny_isInstance (T := "StopIteration") (b := true) ⟨o, ho, hc⟩ isSubtype_stop (wpAny_pure ⟨rfl, I.turned (t' := s.toks) (fun b o hb q => eb b o hb q) f0 f1 f3 f4 f5⟩))
  self := fun A i s Q E ⟨⟨_, he⟩, _⟩ h => wpAny_pyIter_enum he h
theorem walk_enum1 {K : PySem.W.Frag} {a : Addr} {xs : List V} : Walk (Ite1 K a) xs.length (fun H => SqL K H a xs) (YPair (fun i => some (.int (i + 1 : Nat))) (fun i => xs[i]?)) := by
  refine ⟨fun i _ hi q => ⟨xs, xs[i], q, by simp [hi]⟩, fun _ q => ⟨xs, q, Nat.le_refl _⟩, fun i H v H' _ q y => ?_⟩
  obtain ⟨T, x, e1, e2, e3, e4⟩ := y
  exact ⟨T, .int (i + 1 : Nat), x, e1, e2, e3, rfl, e4 xs q⟩
theorem callWith_typeK {M : Model} {A : Around} {E : Value → Shared → Prop} {s : Shared} {pos : Pos} {T : String} {args : List (Bool × Sem Value)} {kws : List (Option Str × Sem Value)} {Q : Value → Shared → Prop}
    (hplain : (args.any (·.1) || kws.any (·.1.isNone)) = false)
    (h : wpAny M A (evalArgs (.type T) true args kws) (fun a s₁ => wpAny M A (call (.type T) ([] ++ a.pos) a.kw) Q E s₁) E s) : wpAny M A (callWith pos (.type T) [] args kws) Q E s := by
  unfold callWith
  refine wpAny_bind (wpAny_holding (wpAny_mono h (fun a s1 h1 => wpAny_bind (wpAny_standAt ?_)) fun _ _ x => x))
  simp only [hplain]
  refine wpAny_bind (wpAny_pure ?_)
  exact wpAny_bind (wpAny_mono h1 (fun r s2 hr => wpAny_bind (wpAny_holding (wpAny_point (wpAny_pure hr)))) fun _ _ x => x)
def iEnum1 (K : PySem.W.Frag) (ta tk : TA) : TI := fun σ H R => ta σ H fun vs H1 => tk σ H1 fun zs H2 => ∃ a xs, vs = [.ref a] ∧ zs = [.int 1] ∧ SqL K H2 a xs ∧ R (Ite1 K a) H2
theorem pi_enum1 {X : Cx} {K : PySem.W.Frag} {e ke : Expr} {ta tk : TA} {p pos tpos kp : Pos} {elts : List Expr} {kk : Nat} (hK : X.K = K) (hg : Gl X "enumerate") (hm : X.mg "enumerate" = none) (ha : PA X [e] ta) (hkw : PK X [⟨some "start", ke, kp⟩] tk)
    (he : starEach [e] X.env = (false, eval e X.env) :: starEach [] X.env := by rfl) (hall : (backToKw pos (keywordEach [⟨some "start", ke, kp⟩] X.env)).all (·.1.isSome) = true := by rfl)
    (hks : (backToKw pos (keywordEach [⟨some "start", ke, kp⟩] X.env)).filterMap (·.1) = [Str.ofString "start"] := by rfl)
    (hpl : ((backTo pos (starEach [e] X.env)).any (·.1) || (backToKw pos (keywordEach [⟨some "start", ke, kp⟩] X.env)).any (·.1.isNone)) = false := by rfl) :
    PI X (.Tuple elts kk tpos) (.Call (.Name "enumerate" p) [e] [⟨some "start", ke, kp⟩] pos) (iEnum1 K ta tk) := by
  subst hK
  refine ⟨fun pins s σ H R I h => ?_⟩
  refine wpAny_Call_Name_kw (ld_blt I hg hm boot_enumerate ?_)
  refine callWith_typeK hpl (evalArgs_kw2 hall (thn (ha.run pos pins s σ H _ I h) fun us s1 ⟨vs, H1, I1, r1, q1⟩ => thn (hkw.run pos pins s1 σ H1 _ I1 q1) fun ws s2 ⟨zs, H2, I2, rz, a, xs, ex, ez, hq, q⟩ => ?_) he)
  rw [hks]
  subst ex ez
  obtain ⟨u, rfl, ru⟩ := r1.one
  obtain ⟨u2, rfl, ru2⟩ := rz.one
  cases ru
  obtain ⟨t, rfl⟩ := ru2
  obtain ⟨its, rv, p', hz⟩ := I2.list hq
  have foot : ∀ b, b ∈ [s2.heap.objs.size + 1, s2.heap.objs.size] → FpOk X pins H2 b := fun b hb => by
    have le : s2.heap.objs.size ≤ b := by
      rcases (show b = s2.heap.objs.size + 1 ∨ b = s2.heap.objs.size by simpa using hb) with z | z
      · exact z ▸ Nat.le_succ _
      · exact z ▸ Nat.le_refl _
    exact I2.fpOk le (I2.hok.fresh le)
  exact call_enum1 p'.isList fun h' he hit hsz hk => wpAny_pyIter_enum he ⟨_, _, _, _, H2, rfl, I2.kept (t' := s2.toks) hk, turn_enum1 a (s2.heap.objs.size + 1) s2.heap.objs.size, ⟨⟨.none, he⟩, hit, Nat.succ_ne_self _⟩, foot, q⟩

/-! ## f-strings; enumerate from 1 -/
namespace Vv
abbrev Jf := En → S → List Nat → R (List Nat)
def jNil : Jf := fun _ s acc => .ok acc s
def jLit (l : List Nat) (fr : Jf) : Jf := fun ρ s acc => if lim (acc.length + l.length) then fr ρ s (acc ++ l) else .bad
def strT : D → Option (List Nat)
  | .str l => some l
  | .int i => if decide (i.natAbs < 18446744073709551616) then some (chars (toString i)) else none
  | _ => none
def jEx (fe : Ef) (fr : Jf) : Jf := fun ρ s acc => (fe ρ s).bind fun d s1 => match strT d with
  | some l => if lim (acc.length + l.length) then fr ρ s1 (acc ++ l) else .bad
  | none => .bad
def eJs (f : Jf) : Ef := fun ρ s => (f ρ s []).bind fun l s1 => .ok (.str l) s1
def tVJ (G : Gf) (W : WX) (f : Jf) (acc : List Nat) : L2.St → Hp → (Str → Hp → Prop) → Prop := fun σ H Q => ∃ Z ρ s, VI G Z H σ ρ s ∧ ROk G W σ ρ Z (f ρ s acc) fun l s' => ∀ Z' H', VI G Z' H' σ ρ s' → Same Z Z' → Q (sOf l) H'
def VJ (B : Tb) (u : Option (Addr × Value × Option Addr)) (X : Cx) (W : WX) (es : List Expr) (f : Jf) : Prop := ∀ G : Gf, G.B = B ∧ G.ux = u → ∃ ts, PJ X es ts ∧ ∀ acc σ H Q, tVJ G W f acc σ H Q → tJs ts (sOf acc) σ H Q
theorem lim_size {a b : List Nat} (h : lim (a.length + b.length) = true) : (sOf a ++ sOf b).length ≤ sizeLine := by
  rw [sOf_app, sOf_len, List.length_append]
  have h1 := of_decide_eq_true h
  exact Nat.le_trans h1 (by decide)
section
variable {B : Tb} {u : Option (Addr × Value × Option Addr)} {X : Cx} {W : WX} {pos : Pos}
theorem vj_nil : VJ B u X W [] jNil := by
  intro G hG
  exact ⟨[], .nil, fun acc σ H Q ⟨Z, ρ, s, I, h⟩ => h Z H I (Same.refl Z)⟩
theorem vj_lit (l : List Nat) {x : Str} {j : Nat} {es : List Expr} {f : Jf} (h : x = sOf l) (hr : VJ B u X W es f) : VJ B u X W (.Constant (.str x) j pos :: es) (jLit l f) := by
  intro G hG
  obtain ⟨ts, pj, k⟩ := hr G hG
  refine ⟨_, .cons (pe_s l h) pj, fun acc σ H Q ⟨Z, ρ, s, I, q⟩ => ?_⟩
  unfold jLit at q
  cases e : lim (acc.length + l.length) with
  | false => simp only [e] at q; exact q.elim
  | true =>
    simp only [e, if_true] at q
    refine ⟨sOf l, rfl, lim_size e, ?_⟩
    rw [sOf_app]
    exact k _ σ H Q ⟨Z, ρ, s, I, q⟩
theorem vj_ex {e : Expr} {es : List Expr} {fe : Ef} {f : Jf} (he : VE B u X W e fe) (hr : VJ B u X W es f) : VJ B u X W (.FormattedValue e (-1) none pos :: es) (jEx fe f) := by
  intro G hG
  obtain ⟨ts, pj, k⟩ := hr G hG
  refine ⟨_, .cons (pe_fmt (he G hG)) pj, fun acc σ H Q ⟨Z, ρ, s, I, q⟩ => ?_⟩
  refine ⟨Z, ρ, s, I, q.bind.up (Same.refl Z) fun d s1 q1 v Z1 H1 I1 z1 rv => ?_⟩
  cases rv with
  | str l =>
    refine .inl ⟨sOf l, rfl, ?_⟩
    cases e : lim (acc.length + l.length) with
    | false => simp only [strT, e] at q1; exact q1.elim
    | true =>
      simp only [strT, e, if_true] at q1
      have h1 := of_decide_eq_true e
      refine ⟨by rw [sOf_len]; exact Nat.le_trans (by omega : l.length ≤ 1000) (by decide), sOf l, rfl, lim_size e, ?_⟩
      rw [sOf_app]
      exact k _ σ H1 Q ⟨Z1, ρ, s1, I1, q1.up z1 fun l s2 q2 Z2 H2 I2 z2 => q2 Z2 H2 I2 (z1.trans z2)⟩
  | int i =>
    refine .inr ⟨i, rfl, ?_⟩
    cases e0 : decide (i.natAbs < 18446744073709551616) with
    | false => simp only [strT, e0] at q1; exact q1.elim
    | true =>
      simp only [strT, e0, if_true] at q1
      have h0 := of_decide_eq_true e0
      refine ⟨Nat.lt_trans (PySem.Flt.log2_lt_of (k := 64) (by decide) h0) (by decide), Str.ofString (toString i), rfl, ?_⟩
      cases e : lim (acc.length + (chars (toString i)).length) with
      | false => simp only [e] at q1; exact q1.elim
      | true =>
        simp only [e, if_true] at q1
        rw [← chars_of]
        refine ⟨lim_size e, ?_⟩
        rw [sOf_app]
        exact k _ σ H1 Q ⟨Z1, ρ, s1, I1, q1.up z1 fun l s2 q2 Z2 H2 I2 z2 => q2 Z2 H2 I2 (z1.trans z2)⟩
  | _ => exact q1.elim
theorem ve_js {v1 v2 : Expr} {rest : List Expr} {f : Jf} (h : VJ B u X W (v1 :: v2 :: rest) f) : VE B u X W (.JoinedStr (v1 :: v2 :: rest) pos) (eJs f) := by
  intro G hG
  obtain ⟨ts, pj, k⟩ := h G hG
  refine pe_mono (pe_joined pj) fun σ H Q ⟨Z, ρ, s, I, q⟩ => ?_
  exact k [] σ H _ ⟨Z, ρ, s, I, q.bind.up (Same.refl Z) fun l s1 q1 Z1 H1 I1 z1 => q1 _ Z1 H1 I1 z1 (.str l)⟩
end
def iEnum1 (fa : Af) : Af := fun ρ s => (fa ρ s).bind fun ds s1 => match ds with
  | [.lst l] => .ok (enumF 1 l) s1
  | _ => .bad
section
variable {B : Tb} {u : Option (Addr × Value × Option Addr)} {X : Cx} {W : WX} {pos : Pos}
theorem vi_enum1 {e : Expr} {fa : Af} {p pos tpos kp cp : Pos} {j : Nat} {elts : List Expr} {kk : Nat} (hK : X.K = B.K) (hg : Gl X "enumerate") (hm : X.mg "enumerate" = none) (ha : VA B u X W [e] fa)
    (he : starEach [e] X.env = (false, eval e X.env) :: starEach [] X.env := by rfl) (hall : (backToKw pos (keywordEach [⟨some "start", .Constant (.int 1) j cp, kp⟩] X.env)).all (·.1.isSome) = true := by rfl)
    (hks : (backToKw pos (keywordEach [⟨some "start", .Constant (.int 1) j cp, kp⟩] X.env)).filterMap (·.1) = [Str.ofString "start"] := by rfl)
    (hpl : ((backTo pos (starEach [e] X.env)).any (·.1) || (backToKw pos (keywordEach [⟨some "start", .Constant (.int 1) j cp, kp⟩] X.env)).any (·.1.isNone)) = false := by rfl) :
    VIt B u X W (.Tuple elts kk tpos) (.Call (.Name "enumerate" p) [e] [⟨some "start", .Constant (.int 1) j cp, kp⟩] pos) (iEnum1 fa) := by
  intro G hG
  have h0 := ha G hG
  obtain ⟨rfl, rfl⟩ := hG
  refine pi_mono (pi_enum1 (K := G.B.K) hK hg hm h0 (L2.pk_cons pe_int L2.pk_nil) he hall hks hpl) fun σ H Rr ⟨Z, ρ, s, I, h⟩ => ?_
  refine ⟨Z, ρ, s, I, h.bind.up (Same.refl Z) fun ds s1 h1 vs Z1 H1 I1 z1 r => ?_⟩
  match ds, h1, r with
  | [.lst l], h1, .cons (v := v) r .nil =>
    cases r with
    | lst q rs =>
      refine ⟨_, _, rfl, rfl, .inl (.inl (I1.zh _ _ q)), h1 _ Z1 H1 I1 z1 (walkD_pair walk_enum1 (by rw [enumF_len, rs.len]) (fun H z => .inl (.inl (z _ _ q))) fun i x y e1 e2 => ?_)⟩
      obtain ⟨d, ed, rd⟩ := rs.at2 e2
      cases e1
      refine ⟨.int ((i + 1 : Nat) : Int), d, ?_, .int _, rd⟩
      rw [enumF_at, ed, Nat.add_comm 1 i]
      rfl
end
end Vv

/-! ## pairs of ints, one at most the other -/
namespace Vv
def vLeT : D → D → Option D
  | .tup [.int a, .int b], .tup [.int c, .int d] => some (.bl (leP (a, b) (c, d)))
  | _, _ => none
section
variable {B : Tb}
theorem rp_pairI {Z : Hp} {v : V} {a b : Int} (r : Rp B Z v (.tup [.int a, .int b])) : ∃ p, v = .ref p ∧ SqT B.K Z p (([a, b] : List Int).map V.int) := by
  cases r with
  | tup h rs =>
    cases rs with
    | cons r1 rs =>
      cases r1
      cases rs with
      | cons r2 rs =>
        cases r2
        cases rs
        exact ⟨_, rfl, h⟩
theorem Op2.leT : Op2 B (rLeT B.K) vLeT := ⟨fun {Z H x y dx dy d Q} z rx ry e q => by
  unfold vLeT at e
  split at e
  · rename_i a b c d
    cases e
    obtain ⟨p, rfl, h1⟩ := rp_pairI rx
    obtain ⟨p2, rfl, h2⟩ := rp_pairI ry
    refine ⟨p, p2, [a, b], [c, d], rfl, rfl, seqT_mono z h1, seqT_mono z h2, ?_⟩
    have e0 : Ob.lexAt (fun j => decide (([a, b] : List Int).getD j 0 = ([c, d] : List Int).getD j 0)) (fun j => decide (([a, b] : List Int).getD j 0 ≤ ([c, d] : List Int).getD j 0)) (decide (([a, b] : List Int).length ≤ ([c, d] : List Int).length)) 0 (min ([a, b] : List Int).length ([c, d] : List Int).length) = leP (a, b) (c, d) := by
      show Ob.lexAt _ _ _ 0 2 = _
      rw [Ob.lexAt_succ, Ob.lexAt_succ, Ob.lexAt_zero]
      show (if decide (a = c) = true then (if decide (b = d) = true then decide (2 ≤ 2) else decide (b ≤ d)) else decide (a ≤ c)) = decide (a < c ∨ (a = c ∧ b ≤ d))
      by_cases h : a = c
      · subst h
        rw [decide_eq_true rfl, if_pos rfl]
        by_cases h2 : b = d
        · subst h2
          rw [decide_eq_true rfl, if_pos rfl]
          simp
        · rw [decide_eq_false h2, if_neg Bool.false_ne_true]
          refine decide_eq_decide.mpr ⟨fun h => .inr ⟨rfl, h⟩, fun h => ?_⟩
          rcases h with h | ⟨_, h⟩
          · omega
          · exact h
      · rw [decide_eq_false h, if_neg Bool.false_ne_true]
        refine decide_eq_decide.mpr ⟨fun h2 => .inl (by omega), fun h2 => ?_⟩
        rcases h2 with h2 | ⟨h2, _⟩
        · omega
        · exact absurd h2 h
    rw [e0]
    exact q _ Z H (Step.refl z) (.bl _)
  · cases e⟩
end
end Vv

/-! ## signs in a text; not of any truth; numbers of short texts -/
namespace Vv
def vInC (neg : Bool) : D → D → Option D
  | .str [c], .str l => some (.bl (if neg then !decide (c ∈ l) else decide (c ∈ l)))
  | _, _ => none
def notT (d : D) : Option D := (truD d).map fun b => .bl (!b)
def valL (l : List Nat) : Nat := l.foldl (fun n c => n * 10 + (c - 48)) 0
def isDig (c : Nat) : Bool := decide (48 ≤ c) && decide (c ≤ 57)
def intS : D → Option D
  | .str [a] => if isDig a then some (.int (valL [a] : Nat)) else none
  | .str [a, b] => if isDig a && isDig b then some (.int (valL [a, b] : Nat)) else none
  | .str [a, b, c] => if isDig a && (isDig b && isDig c) then some (.int (valL [a, b, c] : Nat)) else none
  | _ => none
theorem num1 : (List.range 10).all (fun a => decide (PySem.intText? (sOf [48 + a]) = some (valL [48 + a] : Int))) = true := by decide +kernel
theorem num2 : (List.range 10).all (fun a => (List.range 10).all fun b => decide (PySem.intText? (sOf [48 + a, 48 + b]) = some (valL [48 + a, 48 + b] : Int))) = true := by decide +kernel
theorem num3 : (List.range 10).all (fun a => (List.range 10).all fun b => (List.range 10).all fun c => decide (PySem.intText? (sOf [48 + a, 48 + b, 48 + c]) = some (valL [48 + a, 48 + b, 48 + c] : Int))) = true := by decide +kernel
theorem dig_at {c : Nat} (h : isDig c = true) : ∃ a, a ∈ List.range 10 ∧ c = 48 + a := by
  unfold isDig at h
  rw [Bool.and_eq_true] at h
  have h1 := of_decide_eq_true h.1
  have h2 := of_decide_eq_true h.2
  exact ⟨c - 48, List.mem_range.mpr (by omega), by omega⟩
theorem intS_of : ∀ {l : List Nat} {d : D}, intS (.str l) = some d → ∃ n : Int, PySem.intText? (sOf l) = some n ∧ l.length ≤ 640 ∧ d = .int n
  | [], _, e => nomatch e
  | [a], d, e => by
    cases h : isDig a with
    | false => simp only [intS, h] at e; cases e
    | true =>
      simp only [intS, h, if_true] at e
      cases e
      obtain ⟨x, hx, rfl⟩ := dig_at h
      exact ⟨_, of_decide_eq_true (List.all_eq_true.mp num1 x hx), by simp, rfl⟩
  | [a, b], d, e => by
    cases h : isDig a && isDig b with
    | false => simp only [intS, h] at e; cases e
    | true =>
      simp only [intS, h, if_true] at e
      cases e
      rw [Bool.and_eq_true] at h
      obtain ⟨x, hx, rfl⟩ := dig_at h.1
      obtain ⟨y, hy, rfl⟩ := dig_at h.2
      exact ⟨_, of_decide_eq_true (List.all_eq_true.mp (List.all_eq_true.mp num2 x hx) y hy), by simp, rfl⟩
  | [a, b, c], d, e => by
    cases h : isDig a && (isDig b && isDig c) with
    | false => simp only [intS, h] at e; cases e
    | true =>
      simp only [intS, h, if_true] at e
      cases e
      rw [Bool.and_eq_true, Bool.and_eq_true] at h
      obtain ⟨x, hx, rfl⟩ := dig_at h.1
      obtain ⟨y, hy, rfl⟩ := dig_at h.2.1
      obtain ⟨z, hz, rfl⟩ := dig_at h.2.2
      exact ⟨_, of_decide_eq_true (List.all_eq_true.mp (List.all_eq_true.mp (List.all_eq_true.mp num3 x hx) y hy) z hz), by simp, rfl⟩
  | _ :: _ :: _ :: _ :: _, _, e => nomatch e
section
variable {B : Tb} {u : Option (Addr × Value × Option Addr)} {X : Cx} {W : WX} {pos : Pos} {a : Expr} {fa : Ef}
theorem ve_notT (hK : X.K = B.K) (ha : VE B u X W a fa) : VE B u X W (.UnaryOp .Not a pos) (eOp1 notT fa) := by
  intro G hG
  obtain ⟨rfl, rfl⟩ := hG
  refine pe_mono (pe_notT (ha G ⟨rfl, rfl⟩)) fun σ H Q ⟨Z, ρ, s, I, h⟩ => ?_
  refine ⟨Z, ρ, s, I, h.bind.up (Same.refl Z) fun x s1 h1 v Z1 H1 I1 z1 rv => ?_⟩
  obtain ⟨d, e, q⟩ := h1.opt
  obtain ⟨k, ek, rfl⟩ := Option.map_eq_some_iff.mp e
  exact ⟨k, tru_of hK I1.zh rv ek, q _ Z1 H1 I1 z1 (.bl _)⟩
theorem sOf_one (c : Nat) : sOf [c] = ⟨#[c]⟩ := rfl
theorem sOf_list (l : List Nat) : (sOf l).cps.toList = l := by simp [sOf]
def rInC : R2 := fun x y H Q => ∃ (c : Nat) (z : Str), x = .str ⟨#[c]⟩ ∧ y = .str z ∧ Q (.bl (decide (c ∈ z.cps.toList))) H
def rNotInC : R2 := fun x y H Q => ∃ (c : Nat) (z : Str), x = .str ⟨#[c]⟩ ∧ y = .str z ∧ Q (.bl (!decide (c ∈ z.cps.toList))) H
theorem op_inC : OpR X (compareOp .In) rInC := op_in_sign
theorem op_notInC : OpR X (compareOp .NotIn) rNotInC := op_notIn_sign
theorem Op2.inC : Op2 B rInC (vInC false) := ⟨fun {Z H x y dx dy d Q} z rx ry e q => by
  unfold vInC at e
  split at e
  · rename_i c l
    cases e
    cases rx
    cases ry
    refine ⟨c, sOf l, rfl, rfl, ?_⟩
    rw [sOf_list]
    exact q _ Z H (Step.refl z) (.bl _)
  · cases e⟩
theorem Op2.notInC : Op2 B rNotInC (vInC true) := ⟨fun {Z H x y dx dy d Q} z rx ry e q => by
  unfold vInC at e
  split at e
  · rename_i c l
    cases e
    cases rx
    cases ry
    refine ⟨c, sOf l, rfl, rfl, ?_⟩
    rw [sOf_list]
    exact q _ Z H (Step.refl z) (.bl _)
  · cases e⟩
def rIntS : List V → Hp → VK → Prop := fun xs H Q => ∃ a n, xs = [.str a] ∧ PySem.intText? a = some n ∧ a.length ≤ 640 ∧ Q (.int n) H
theorem call_intS : CallR X (.type "int") rIntS := call_int_str
theorem OpN.intS : OpN B rIntS (g1 Vv.intS) := OpN.one g1_of fun {Z H x dx d Q} z rx e q => by
  cases rx with
  | str l =>
    obtain ⟨n, e1, e2, rfl⟩ := intS_of e
    exact ⟨sOf l, n, rfl, e1, by rw [sOf_len]; exact e2, q _ Z H (Step.refl z) (.int _)⟩
  | _ => cases e
end
end Vv

/-! ## for in a generator's body -/
namespace Gn
open PySem PySem.Spec PyProof.Rows GenW
section
variable {M : Model} {A : Around} {R : GenEnd} {Y : Protocol} {n : Nat} {s₀ : Shared} {c : Code} {fs : List Frame} {s : Shared} {env : Env}
  {K : Flow → Sem PySem.Fin} {J : Value → Sem PySem.Fin} {gd : Bool → Bool} {lv : List Value → List Value}
theorem seg_For {tg iter : Expr} {body orelse : List Stmt} {pos : Pos}
    (h : wpAny M (A.over c fs) (eval iter env) (fun x s1 => wpAny M (A.over c fs) (pyIter x) (fun it s2 => ∀ p, Seg M A R Y n s₀ (.forLoop tg it body orelse env) (M.den (.forLoop tg it body orelse env))
      (.ret (fun r => ((match r with | .ok f => (.pure f : Sem Flow) | .error e => .raise e).onRaise (cameBack env)).wrap K J gd lv) none (gd false) (lv []) c p [] :: fs) s2)
        (fun x s' => Seg M A R Y n s₀ c (J x) fs s') s1) (fun x s' => Seg M A R Y n s₀ c (J x) fs s') s)
    (hs : ∀ x, foldedSetIterable iter env x = pure x := by intro _; rfl) :
    Seg M A R Y n s₀ c ((exec (.For tg iter body orelse pos) env).wrap K J gd lv) fs s := by
  rw [exec_For]
  refine seg_bind_wrap (wpAny_standAt (seg_bind_wrap (wpAny_mono h (fun x s1 h1 => ?_) fun _ _ h' => h')))
  refine seg_bind_wrap (wpAny_of_eq (hs x) (seg_bind_wrap (wpAny_standAt (seg_bind_wrap (wpAny_holding (wpAny_mono h1 (fun it s2 h2 => ?_) fun _ _ h' => h'))))))
  exact seg_call h2
end
section
variable {prog : Program} {w : World} {A : Around} {R : GenEnd} {Y : Protocol} {n : Nat} {s₀ : Shared} {fs : List Frame} {s : Shared} {env : Env}
/-- what a loop's code does with an exception of its own -/
abbrev leaves (env : Env) (x : Value) : Sem PySem.Fin := (do noteFrame x env; theTreesLotGoes x : Sem Unit).wrap (fun _ => .raise x) .raise id id
theorem seg_forLoop {tg : Expr} {it : Value} {body : List Stmt}
    (h : wpAny (model prog w) (A.over (.forLoop tg it body [] env) fs) (pyNext it) (fun r s1 => match r with
        | none => Seg (model prog w) A R Y n s₀ (.forLoop tg it body [] env) (.pure (.again (.block [] env))) fs s1
        | some v => wpAny (model prog w) (A.over (.forLoop tg it body [] env) fs) (letOwnedTupleGo tg it v) (fun _ s2 => wpAny (model prog w) (A.over (.forLoop tg it body [] env) fs) (assign tg env v) (fun _ s3 =>
          Seg (model prog w) A R Y n s₀ (.forLoop tg it body [] env) ((execs body env).wrap (fun f => match f with
            | .next | .cont => .pure (.again (.forLoop tg it body [] env))
            | .brk => .pure (.done .next)
            | .ret v => .pure (.done (.ret v))) (leaves env) id id) fs s3)
          (fun x s' => Seg (model prog w) A R Y n s₀ (.forLoop tg it body [] env) (leaves env x) fs s') s2) (fun x s' => Seg (model prog w) A R Y n s₀ (.forLoop tg it body [] env) (leaves env x) fs s') s1)
      (fun x s' => Seg (model prog w) A R Y n s₀ (.forLoop tg it body [] env) (leaves env x) fs s') s) :
    Seg (model prog w) A R Y n s₀ (.forLoop tg it body [] env) ((model prog w).den (.forLoop tg it body [] env)) fs s := by
  show Seg _ A R Y n s₀ _ ((forTurn tg it body [] env).onRaise (fun x => do noteFrame x env; theTreesLotGoes x)) fs s
  unfold forTurn
  rw [Sem.onRaise_eq_wrap]
  rw [Sem.wrap_congr _ _ _ (K' := fun f => .pure f) (H' := leaves env) (fun f => by rfl) (fun e => by first | exact Sem.bind_eq_wrap _ _ | (show (do noteFrame e env; theTreesLotGoes e : Sem Unit).bind (fun _ => .raise e) = _; rw [Sem.bind_eq_wrap]))]
  refine seg_bind_wrap (wpAny_standAt (seg_bind_wrap (wpAny_onRaise (wpAny_mono h (fun r s1 h1 => ?_) fun _ _ h' => wpAny_standAt h'))))
  cases r with
  | none => exact h1
  | some v =>
    refine seg_bind_wrap (wpAny_mono h1 (fun _ s2 h2 => ?_) fun _ _ h' => h')
    refine seg_bind_wrap (wpAny_mono h2 (fun _ s3 h3 => ?_) fun _ _ h' => h')
    rw [Sem.bind_eq_wrap', Sem.wrap_wrap]
    rw [Sem.wrap_congr (execs body env) _ _ (K' := fun f => match f with
            | .next | .cont => .pure (.again (.forLoop tg it body [] env))
            | .brk => .pure (.done .next)
            | .ret v => .pure (.done (.ret v))) (H' := leaves env) (fun f => by cases f <;> rfl) (fun e => by rfl)]
    exact h3
end
end Gn
namespace Gn
open PySem PySem.Spec PyProof.Rows GenW
section
variable {X : Cx} {S : Addr} {ip : List (Addr × Obj)}
theorem gi_unpin {pl : List (Addr × Obj)} {ys : List V} {σ : L2.St} {H : Hp} {s : Shared} (h : GI X S (ip ++ pl) ys σ H s) : GI X S ip ys σ H s := by
  obtain ⟨acc, c, r, I⟩ := h
  exact ⟨acc, c, r, Inv.unpinned (pins := (S, lstObj acc c) :: ip) (pl := pl) I⟩
def tGFor (wi : TI) (g : TG) (tb : TGn) : TGn := fun D ys σ H => wi σ H fun J H1 => ∃ W : Nat → Nat → List V → L2.St → Hp → Prop, (∃ m, W 0 m ys σ H1) ∧ ∀ i m ys σ H, W i m ys σ H →
  (J.stop i H ∧ D.nx ys σ H) ∨ (J.go i H ∧ ∃ N : List V → L2.St → Hp → Prop, (∀ ys' σ' H', N ys' σ' H' → ∃ m', m' < m ∧ W (i + 1) m' ys' σ' H') ∧ ∀ x H', J.yld i H x H' → g x σ H' fun σ2 H2 => tb { D with nx := N, ct := N, bk := D.nx } ys σ2 H2)
theorem gs_for {tg iter : Expr} {body : List Stmt} {wi : TI} {g : TG} {tb : TGn} {pos : Pos} (hp : PassesOwn (model X.prog X.w) X.A X.env X.xe) (hc : X.calm = true) (hi : PI X tg iter wi) (hg : PG X tg g) (hb : GSs X body tb)
    (hs : ∀ x, foldedSetIterable iter X.env x = pure x := by intro _; rfl) : GS X (.For tg iter body [] pos) (tGFor wi g tb) := by
  refine ⟨fun A S ip R n ys s₀ c fs K J gd lv s σ H D G hn k hI ht => ?_⟩
  obtain ⟨acc, cc, r, I⟩ := hI
  refine seg_For ?_ hs
  rw [G.over]
  refine wpAny_mono (hi.run _ s σ H _ I ht) (fun v s1 h1 => wpAny_mono h1 (fun itv s2 h2 p => ?_) fun x s' hx => k.exc n s₀ x s' hx) fun x s' hx => k.exc n s₀ x s' hx
  obtain ⟨it, fp, tn, Jt, H2, e, I2, T, st2, f2, W, ⟨m0, w0⟩, turn⟩ := h2
  subst e
  have stat : ∀ {acc' : Array Value} {c' : Nat} {H' : Hp}, (∀ b ∈ fp, H' b = none) → ∀ b ∈ fp, FpOk X ((S, lstObj acc' c') :: ip) H' b := fun hn b hb => by
    obtain ⟨f0, f1, f2, f3, f4, f5⟩ := f2 b hb
    refine ⟨hn b hb, f1, f2, f3, f4, fun q hq => ?_⟩
    rcases List.mem_append.mp hq with z | z
    · exact f5 q (List.mem_append_left _ z)
    · rcases List.mem_cons.mp z with z | z
      · rw [z]; exact f5 (S, lstObj acc cc) (List.mem_append_right _ List.mem_cons_self)
      · exact f5 q (List.mem_append_right _ (List.mem_cons_of_mem _ z))
  have fpS : ∀ b ∈ fp, b ≠ S := fun b hb z => (f2 b hb).2.2.2.2.2 (S, lstObj acc cc) (List.mem_append_right _ List.mem_cons_self) z.symm
  have gl := fun (kk : Result → Sem PySem.Fin) => gc_loop (k := kk) (c' := .forLoop tg (.ref it) body [] X.env) (l := lv []) (kp := []) (p := p) G rfl rfl
  have glb := fun (kk : Result → Sem PySem.Fin) => gc_loop (k := kk) (c' := .block [] X.env) (l := lv []) (kp := []) (p := p) G rfl rfl
  have loop : ∀ (m i n : Nat) (ys : List V) (s₀ s : Shared) (σ : L2.St) (H : Hp), n + ys.length = sizeLine → W i m ys σ H → GI X S ip ys σ H s → tn i s.heap → (∀ b ∈ fp, H b = none) →
      Seg (model X.prog X.w) A R (GY X S) n s₀ (.forLoop tg (.ref it) body [] X.env) ((model X.prog X.w).den (.forLoop tg (.ref it) body [] X.env))
        (.ret (fun r => ((match r with | .ok f => (.pure f : Sem Flow) | .error e => .raise e).onRaise (cameBack X.env)).wrap K J gd lv) none (gd false) (lv []) c p [] :: fs) s := by
    intro m
    induction m using Nat.strongRecOn with
    | ind m ih =>
      intro i n ys s₀ s σ H hn w hI st fr
      have ee : ∀ (n : Nat) (s₀ : Shared) (x : Value) (s' : Shared), X.xe x s' → Seg (model X.prog X.w) A R (GY X S) n s₀ (.forLoop tg (.ref it) body [] X.env) (leaves X.env x)
          (.ret (fun r => ((match r with | .ok f => (.pure f : Sem Flow) | .error e => .raise e).onRaise (cameBack X.env)).wrap K J gd lv) none (gd false) (lv []) c p [] :: fs) s' := fun n s₀ x s' hx => by
        refine seg_wrap ?_
        rw [(gl _).over]
        refine wpAny_bind (wpAny_mono (hp x s' hx) (fun _ s'' hcb => wpAny_theTreesLotGoes ?_) fun y s'' hcb => ?_)
        · exact seg_leaf (.error x) (seg_cameBack G k hcb)
        · exact seg_leaf (.error y) (seg_cameBack G k hcb)
      obtain ⟨acc, cc, r, I⟩ := hI
      refine seg_forLoop ?_
      rw [(gl _).over]
      rcases turn i m ys σ H w with ⟨stop, qn⟩ | ⟨go, N, hN, step⟩
      · refine wpAny_mono (T.done X rfl rfl rfl hc i _ s σ H X.xe I (stat fr) st stop) (fun r2 s2 ⟨hr, I2⟩ => ?_) fun x s' hx => ee n s₀ x s' hx
        subst hr
        refine seg_again rfl ?_
        show Seg _ A R _ n s₀ _ (((execs [] X.env).onRaise (fun x => do noteFrame x X.env; theTreesLotGoes x)) >>= fun f => pure (.done f)) _ _
        exact seg_leaf (.ok .next) (k.ok n ys s₀ s2 .next hn ⟨σ, H, ⟨acc, cc, r, I2⟩, qn⟩)
      · refine wpAny_mono (T.item X rfl rfl rfl hc i _ s σ H X.xe I (stat fr) st go) (fun r2 s2 ⟨u, hr, h4⟩ => ?_) fun x s' hx => ee n s₀ x s' hx
        subst hr
        refine wpAny_mono h4 (fun _ s3 ⟨x, H5, I5, r5, y5, st5, fr5⟩ => ?_) fun x s' hx => ee n s₀ x s' hx
        have I5' := I5.pinned (stat fr5) (T.obj _ _ st5)
        refine wpAny_mono (hg.run _ s3 σ H5 x u _ I5' r5 (step x H5 y5)) (fun _ s6 ⟨σ6, H6, I6, q6⟩ => ?_) fun x s' hx => ee n s₀ x s' hx
        have ipS : ∀ q ∈ ip ++ pinsAt fp s3.heap, q.1 ≠ S := fun q hq => (List.mem_append.mp hq).elim (G.ip q) fun z => fpS q.1 (of_pinsAt z).1
        have G2 : GC X S (ip ++ pinsAt fp s3.heap) A (.forLoop tg (.ref it) body [] X.env) _ id := { gl (fun r => ((match r with | .ok f => (.pure f : Sem Flow) | .error e => .raise e).onRaise (cameBack X.env)).wrap K J gd lv) with ip := ipS }
        refine hb.run A S (ip ++ pinsAt fp s3.heap) R n ys s₀ _ _ _ _ id id s6 σ6 H6 { D with nx := N, ct := N, bk := D.nx } G2 hn ⟨fun n' ys' s₀' s7 f hn' q7 => ?_, fun n' s₀' x s3 hx => ee n' s₀' x s3 hx⟩ ⟨acc, cc, r, I6⟩ q6
        have again : ∀ {σ7 : L2.St} {H7 : Hp}, GI X S (ip ++ pinsAt fp s3.heap) ys' σ7 H7 s7 → N ys' σ7 H7 → Seg (model X.prog X.w) A R (GY X S) n' s₀' (.forLoop tg (.ref it) body [] X.env) (.pure (.again (.forLoop tg (.ref it) body [] X.env)))
            (.ret (fun r => ((match r with | .ok f => (.pure f : Sem Flow) | .error e => .raise e).onRaise (cameBack X.env)).wrap K J gd lv) none (gd false) (lv []) c p [] :: fs) s7 := fun {σ7 H7} I7 n7 => by
          obtain ⟨m', hm, w7⟩ := hN ys' σ7 H7 n7
          have pin7 : ∀ b ∈ fp, ∀ o, s3.heap.get? b = some o → s7.heap.get? b = some o ∧ H7 b = none := fun b hb o e => by
            obtain ⟨acc7, c7, r7, J7⟩ := I7
            have q := J7.pin (b, o) (List.mem_append_right _ (List.mem_cons_of_mem _ (List.mem_append_right _ (mem_pinsAt hb e))))
            exact ⟨q.1, q.2.1⟩
          refine seg_again rfl (ih m' hm (i + 1) n' ys' s₀' s7 σ7 H7 hn' w7 (gi_unpin I7) (T.keep _ _ _ st5 fun b hb o e => (pin7 b hb o e).1) fun b hb => ?_)
          obtain ⟨o, e, d⟩ := T.obj _ _ st5 b hb
          exact (pin7 b hb o e).2
        cases f with
        | next => obtain ⟨σ7, H7, I7, n7⟩ := q7; exact again I7 n7
        | cont => obtain ⟨σ7, H7, I7, n7⟩ := q7; exact again I7 n7
        | brk => obtain ⟨σ7, H7, I7, q7⟩ := q7; exact seg_leaf (.ok .next) (k.ok n' ys' s₀' s7 .next hn' ⟨σ7, H7, (gi_unpin I7), q7⟩)
        | ret v => obtain ⟨x7, σ7, H7, I7, r7, q7⟩ := q7; exact seg_leaf (.ok (.ret v)) (k.ok n' ys' s₀' s7 (.ret v) hn' ⟨x7, σ7, H7, (gi_unpin I7), r7, q7⟩)
  exact loop m0 0 n ys s₀ s2 σ H2 hn w0 ⟨acc, cc, r, I2⟩ st2 fun b hb => (f2 b hb).1
end
end Gn

/-! ## generators -/
namespace Vv
open GenW Gn
abbrev GR := List D × SR
abbrev Gy := En → S → List D → GR
def GOk (G : Gf) (W : WX) (Z : Hp) (D1 : GEnds) (r : GR) : Prop := match r.2 with
  | .nx ρ s => ∀ ys σ Z' H, VI G Z' H σ ρ s → Same Z Z' → Rps G.B Z' ys r.1 → D1.nx ys σ H
  | .bk ρ s => ∀ ys σ Z' H, VI G Z' H σ ρ s → Same Z Z' → Rps G.B Z' ys r.1 → D1.bk ys σ H
  | .ct ρ s => ∀ ys σ Z' H, VI G Z' H σ ρ s → Same Z Z' → Rps G.B Z' ys r.1 → D1.ct ys σ H
  | .rt d s => ∀ ys v σ ρ Z' H, VI G Z' H σ ρ s → Same Z Z' → Rps G.B Z' ys r.1 → Rp G.B Z' v d → D1.rt ys v H
  | .exc c fs ρ s => ∀ σ, ExOk G W σ ρ Z c fs s
  | .bad => False
def tVY (G : Gf) (W : WX) (g : Gy) : TGn := fun D' ys σ H => ∃ Z ρ s out, VI G Z H σ ρ s ∧ Rps G.B Z ys out ∧ GOk G W Z D' (g ρ s out)
def VY (B : Tb) (u : Option (Addr × Value × Option Addr)) (X : Cx) (W : WX) (st : Stmt) (g : Gy) : Prop := ∀ G : Gf, G.B = B ∧ G.ux = u → GS X st (tVY G W g)
def VYs (B : Tb) (u : Option (Addr × Value × Option Addr)) (X : Cx) (W : WX) (st : List Stmt) (g : Gy) : Prop := ∀ G : Gf, G.B = B ∧ G.ux = u → GSs X st (tVY G W g)
theorem gs_mono {X : Cx} {st : Stmt} {t t' : TGn} (h : GS X st t) (m : ∀ D' ys σ H, t' D' ys σ H → t D' ys σ H) : GS X st t' := ⟨fun A S ip R n ys s₀ c fs K J gd lv s σ H D' a b k I q => h.run A S ip R n ys s₀ c fs K J gd lv s σ H D' a b k I (m D' ys σ H q)⟩
theorem gss_mono {X : Cx} {st : List Stmt} {t t' : TGn} (h : GSs X st t) (m : ∀ D' ys σ H, t' D' ys σ H → t D' ys σ H) : GSs X st t' := ⟨fun A S ip R n ys s₀ c fs K J gd lv s σ H D' a b k I q => h.run A S ip R n ys s₀ c fs K J gd lv s σ H D' a b k I (m D' ys σ H q)⟩
section
variable {G : Gf} {W : WX} {Z Z1 : Hp} {D1 D2 : GEnds}
theorem GOk.up {r : GR} (z : Same Z Z1) (h : GOk G W Z D1 r) : GOk G W Z1 D1 r := by
  obtain ⟨o, r⟩ := r
  cases r with
  | nx ρ s => exact fun ys σ Z' H I z1 => h ys σ Z' H I (z.trans z1)
  | bk ρ s => exact fun ys σ Z' H I z1 => h ys σ Z' H I (z.trans z1)
  | ct ρ s => exact fun ys σ Z' H I z1 => h ys σ Z' H I (z.trans z1)
  | rt d s => exact fun ys v σ ρ Z' H I z1 => h ys v σ ρ Z' H I (z.trans z1)
  | exc c fs ρ s => exact fun σ => (h σ).up z
  | bad => exact h
/-- a plain statement's end -/
theorem GOk.plain {out : List D} {r : SR} {ys : List V} (rs : Rps G.B Z ys out) (h : GOk G W Z D1 (out, r)) : SOk G W Z (D1.at ys) r := by
  cases r with
  | nx ρ s => exact fun σ Z' H I z => h ys σ Z' H I z (rs.mono z)
  | bk ρ s => exact fun σ Z' H I z => h ys σ Z' H I z (rs.mono z)
  | ct ρ s => exact fun σ Z' H I z => h ys σ Z' H I z (rs.mono z)
  | rt d s => exact fun v σ ρ Z' H I z => h ys v σ ρ Z' H I z (rs.mono z)
  | exc c fs ρ s => exact h
  | bad => exact h
end
def gThen (r : GR) (k : En → S → List D → GR) : GR := match r with
  | (o, .nx ρ s) => k ρ s o
  | r => r
def gPlain (g : Sf) : Gy := fun ρ s out => (out, g ρ s)
def gNilY : Gy := fun ρ s out => (out, .nx ρ s)
def gSeq (a b : Gy) : Gy := fun ρ s out => gThen (a ρ s out) b
def gYield (f : Ef) : Gy := fun ρ s out => if fit out.length then (match f ρ s with
  | .ok d s1 => (out ++ [d], .nx ρ s1)
  | .exc c fs s1 => (out, .exc c fs ρ s1)
  | .bad => (out, .bad)) else (out, .bad)
def loopG (gt : D → En → Option En) (gb : Gy) : List D → En → S → List D → GR
  | [], ρ, s, out => (out, .nx ρ s)
  | d :: ds, ρ, s, out => match gt d ρ with
    | none => (out, .bad)
    | some ρ1 => match gb ρ1 s out with
      | (o, .nx ρ2 s2) => loopG gt gb ds ρ2 s2 o
      | (o, .ct ρ2 s2) => loopG gt gb ds ρ2 s2 o
      | (o, .bk ρ2 s2) => (o, .nx ρ2 s2)
      | r => r
def gFor (fi : Af) (gt : D → En → Option En) (gb : Gy) : Gy := fun ρ s out => match fi ρ s with
  | .ok ds s1 => loopG gt gb ds ρ s1 out
  | .exc c fs s1 => (out, .exc c fs ρ s1)
  | .bad => (out, .bad)
section
variable {B : Tb} {u : Option (Addr × Value × Option Addr)} {X : Cx} {W : WX} {st : Stmt} {rest : List Stmt} {g : Sf} {a b : Gy} {e : Expr} {f : Ef} {pos yp : Pos}
theorem vy_plain (h : VS B u X W st g) : VY B u X W st (gPlain g) := fun G hG =>
  gs_mono (gs_ps (h G hG)) fun D' ys σ H ⟨Z, ρ, s, out, I, r, h⟩ => ⟨Z, ρ, s, I, h.plain (hG.1 ▸ r)⟩
theorem vys_plain (h : VSs B u X W rest g) : VYs B u X W rest (gPlain g) := fun G hG =>
  gss_mono (gss_pss (h G hG)) fun D' ys σ H ⟨Z, ρ, s, out, I, r, h⟩ => ⟨Z, ρ, s, I, h.plain (hG.1 ▸ r)⟩
theorem vys_nil : VYs B u X W [] gNilY := fun G hG => gss_mono gss_nil fun D' ys σ H ⟨Z, ρ, s, out, I, r, h⟩ => h ys σ Z H I (Same.refl Z) r
theorem vys_cons (h1 : VY B u X W st a) (h2 : VYs B u X W rest b) : VYs B u X W (st :: rest) (gSeq a b) := by
  intro G hG
  refine gss_mono (gss_cons (h1 G hG) (h2 G hG)) fun D' ys σ H ⟨Z, ρ, s, out, I, r, h⟩ => ?_
  refine ⟨Z, ρ, s, out, I, r, ?_⟩
  replace h : GOk G W Z D' (gThen (a ρ s out) b) := h
  generalize a ρ s out = x at h
  obtain ⟨o, x⟩ := x
  cases x with
  | nx ρ1 s1 => exact fun ys1 σ1 Z1 H1 I1 z1 r1 => ⟨Z1, ρ1, s1, o, I1, r1, GOk.up z1 h⟩
  | _ => exact h
theorem vys_one (h : VY B u X W st a) : VYs B u X W [st] (gSeq a gNilY) := vys_cons h vys_nil
theorem vy_yield (h : VE B u X W e f) (hco : X.env.scope.isCoroutine = false := by rfl) (hi : interactive X.env = false := by rfl) : VY B u X W (.Expr (.Yield (some e) yp) pos) (gYield f) := by
  intro G hG
  refine gs_mono (gs_yield (h G hG) hco hi) fun D' ys σ H ⟨Z, ρ, s, out, I, r, h⟩ => ?_
  unfold gYield at h
  cases hf : fit out.length with
  | false => rw [hf] at h; exact h.elim
  | true =>
    rw [hf, if_pos rfl] at h
    refine ⟨fit_lt (by rw [r.len]; exact hf), Z, ρ, s, I, ?_⟩
    cases ef : f ρ s with
    | bad => rw [ef] at h; exact h.elim
    | exc c fs s1 => rw [ef] at h; exact h σ
    | ok d s1 =>
      rw [ef] at h
      exact fun v Z' H' I' z rv => h (ys ++ [v]) σ Z' H' I' z ((r.mono z).app (.cons rv .nil))
/-- by the walk of an iterator, for a generator -/
theorem for_itG {n : Nat} {J : It} {P : Hp → Prop} {Y : Nat → Hp → V → Hp → Prop} (w : Walk J n P Y) {g : TG} {tb : TGn} {D' : GEnds} {ys : List V} {σ : L2.St} {H : Hp} (Pv : Nat → List V → L2.St → Hp → Prop) (h0 : Pv 0 ys σ H) (hl : ∀ i ys σ H, i ≤ n → Pv i ys σ H → P H)
    (hs : ∀ i x ys σ H H', i < n → Pv i ys σ H → Y i H x H' → g x σ H' fun σ2 H2 => tb { D' with nx := Pv (i + 1), ct := Pv (i + 1), bk := D'.nx } ys σ2 H2) (hd : ∀ ys σ H, Pv n ys σ H → D'.nx ys σ H) :
    ∃ W : Nat → Nat → List V → L2.St → Hp → Prop, (∃ m, W 0 m ys σ H) ∧ ∀ i m ys σ H, W i m ys σ H →
      (J.stop i H ∧ D'.nx ys σ H) ∨ (J.go i H ∧ ∃ N : List V → L2.St → Hp → Prop, (∀ ys' σ' H', N ys' σ' H' → ∃ m', m' < m ∧ W (i + 1) m' ys' σ' H') ∧ ∀ x H', J.yld i H x H' → g x σ H' fun σ2 H2 => tb { D' with nx := N, ct := N, bk := D'.nx } ys σ2 H2) := by
  refine ⟨fun i m ys σ H => m = n - i ∧ i ≤ n ∧ Pv i ys σ H, ⟨n, by simp, Nat.zero_le _, h0⟩, ?_⟩
  rintro i m ys σ H ⟨rfl, hi, p⟩
  have q := hl i ys σ H hi p
  by_cases hlt : i < n
  · exact .inr ⟨w.goes i H hlt q, Pv (i + 1), fun ys' σ' H' p' => ⟨n - (i + 1), by omega, rfl, hlt, p'⟩, fun x H' y => hs i x ys σ H H' hlt p (w.yields i H x H' hlt q y)⟩
  · have e : i = n := by omega
    subst e
    exact .inl ⟨w.stops H q, hd ys σ H p⟩
theorem vy_for {is : List Nat} {tg iter : Expr} {body : List Stmt} {fi : Af} {gt : D → En → Option En} {gb : Gy} (hp : PassesOwn (model X.prog X.w) X.A X.env X.xe) (hc : X.calm = true) (hi : VIt B u X W tg iter fi) (hg : VG B X is tg gt) (hb : VYs B u X W body gb)
    (hs : ∀ x, foldedSetIterable iter X.env x = pure x := by intro _; rfl) : VY B u X W (.For tg iter body [] pos) (gFor fi gt gb) := by
  intro G hG
  obtain ⟨g, p, o⟩ := hg
  obtain ⟨rfl, rfl⟩ := hG
  refine gs_mono (gs_for hp hc (hi G ⟨rfl, rfl⟩) p (hb G ⟨rfl, rfl⟩) hs) fun D' ys σ H ⟨Z, ρ, s, out, I, r, h⟩ => ?_
  refine ⟨Z, ρ, s, I, ?_⟩
  unfold gFor at h
  cases ef : fi ρ s with
  | bad => rw [ef] at h; exact h.elim
  | exc c fs s1 => rw [ef] at h; exact h σ
  | ok ds s1 =>
    rw [ef] at h
    intro J Z0 H1 I1 z1 w
    replace h : GOk G W Z0 D' (loopG gt gb ds ρ s1 out) := GOk.up z1 h
    have r1 : Rps G.B Z0 ys out := r.mono z1
    obtain ⟨Y, wk, y⟩ := w
    refine for_itG wk (fun i ys σ H => ∃ Z ρ s out, VI G Z H σ ρ s ∧ Same Z0 Z ∧ Rps G.B Z ys out ∧ GOk G W Z D' (loopG gt gb (ds.drop i) ρ s out)) ⟨Z0, ρ, s1, out, I1, Same.refl Z0, r1, h⟩ (fun i ys σ H _ ⟨Z, ρ, s, out, I, z, _⟩ => z.trans I.zh) ?_ ?_
    · rintro i x ys σ H H' hi ⟨Z, ρ, s, out, I, z, rs, h⟩ hy
      obtain ⟨d, Z', ed, t, rx⟩ := y i H x H' hy Z z I.zh
      rw [drop_cons ed] at h
      show g x σ H' _
      cases e : gt d ρ with
      | none => simp only [loopG, e] at h; exact h.elim
      | some ρ1 =>
        simp only [loopG, e] at h
        refine o G Z' H' σ ρ s x d ρ1 _ rfl (I.step t) rx e fun σ' I' _ _ => ⟨Z', ρ1, s, out, I', rs.mono t.zz, ?_⟩
        generalize gb ρ1 s out = q at h
        obtain ⟨o2, q⟩ := q
        cases q with
        | nx ρ2 s2 => exact fun ys2 σ2 Z2 H2 I2 z2 r2 => ⟨Z2, ρ2, s2, o2, I2, z.trans (t.zz.trans z2), r2, GOk.up (t.zz.trans z2) h⟩
        | ct ρ2 s2 => exact fun ys2 σ2 Z2 H2 I2 z2 r2 => ⟨Z2, ρ2, s2, o2, I2, z.trans (t.zz.trans z2), r2, GOk.up (t.zz.trans z2) h⟩
        | bk ρ2 s2 => exact fun ys2 σ2 Z2 H2 I2 z2 r2 => h ys2 σ2 Z2 H2 I2 (t.zz.trans z2) r2
        | rt d2 s2 => exact fun ys2 v σ2 ρ2 Z2 H2 I2 z2 r2 => h ys2 v σ2 ρ2 Z2 H2 I2 (t.zz.trans z2) r2
        | exc c fs ρ2 s2 => exact fun σ2 => (h σ2).up t.zz
        | bad => exact h
    · rintro ys σ H ⟨Z, ρ, s, out, I, z, rs, h⟩
      rw [List.drop_length] at h
      exact h ys σ Z H I (Same.refl Z) rs
end
/-! its def -/
def resG : GR → R D
  | (o, .nx _ _) => .ok (.lst o) none
  | (o, .rt .non _) => .ok (.lst o) none
  | (_, .exc c fs _ _) => .exc c fs none
  | _ => .bad
def runG (n : Nat) (g : Gy) (ds : List D) : R D := resG (g (en0 n (ds.map .val)) none [])
def spG (B : Tb) (k : Nat) (F : List D → R D) : SpG := fun vs H Q E => ∃ Z ds, Same Z H ∧ ds.length = k ∧ Rps B Z vs ds ∧ match F ds with
  | .ok (.lst out) _ => ∀ ys Z' H', Step Z H Z' H' → Rps B Z' ys out → Q ys H'
  | .exc c fs _ => ExE B E Z H (Step Z H) c fs
  | _ => False
section
variable {P : Program} {w : World} {K : PySem.W.Frag} {mg : Str → Option Value} {base : Heap}
variable {x qual : Str} {st : Stmt} {f : Addr} {fd : FuncData} {N ps : List Str} {k n : Nat} {B : Tb} {g : Gy}
theorem fnY (F : Fun K x qual st f fd) (Sc : GScope N ps (defScope st)) (m : Nat) (hm : ps.length = m := by rfl) (hn : N.length = n := by rfl) (hmn : m ≤ n := by decide)
    (hb : ∀ (cdv : Value) (A : Around) (outer : List Env) (s : Shared) (H : Hp) (E : XK) (pn : List (Addr × Obj)), Room k (A.deeper (envOfC qual (defScope st) s.heap.objs.size f cdv)) →
      VYs B none (gcxOf P w K mg base N qual (defScope st) f cdv A outer s H E pn) (fun cls d _ H => E cls d H) (defBody st) g) :
    GFn P w K mg base (k + 1) f fd ps (spG B m (runG n g)) := by
  obtain ⟨oc, od, kV, doc, pm, an, cdv, ct, osl, rfl, lk, hcd⟩ := F.ex
  refine gfn_of lk hcd Sc (fun vs H Q E ⟨Z, ds, z, hl, r, _⟩ => by rw [r.len, hl, hm]) fun A outer s H vs Q E pn hr h => ?_
  obtain ⟨Z, ds, z, hl, r, h⟩ := h
  let G : Gf := ⟨B, Z, H, none, none, [], none⟩
  refine ⟨_, hb cdv A outer s H E pn hr G ⟨rfl, rfl⟩, Z, en0 n (ds.map .val), none, [], ?_, .nil, ?_⟩
  · refine ⟨?_, z, Same.refl Z, fun p o e => .inl e, fun b o e _ _ => e, (fun _ e => nomatch e), (fun _ e => nomatch e), (fun _ e => nomatch e), fun i x e => ?_, fun i j p _ oi => ?_⟩
    · have hv := r.len
      unfold en0 L2.start
      simp only [List.length_append, List.length_replicate, List.length_map]
      omega
    · rcases en0_at e with q | rfl
      · rw [List.getElem?_map] at q
        obtain ⟨d, e1, rfl⟩ := Option.map_eq_some_iff.mp q
        obtain ⟨v, e2, rv⟩ := r.at e1
        exact ⟨v, start_at e2, rv⟩
      · trivial
    · exfalso
      unfold OwnAt at oi
      cases q : (en0 n (ds.map Sl.val))[i]? with
      | none => rw [q] at oi; exact oi
      | some y =>
        rw [q] at oi
        rcases en0_at q with q2 | rfl
        · rw [List.getElem?_map] at q2
          obtain ⟨d, e1, rfl⟩ := Option.map_eq_some_iff.mp q2
          exact oi
        · exact oi
  · have stp : ∀ {σ ρ s' Z' H'}, VI G Z' H' σ ρ s' → Same Z Z' → Step Z H Z' H' := fun {σ ρ s' Z' H'} I z1 => ⟨fun b o e => I.keep b o e (fun _ e => nomatch e) (fun _ e => nomatch e), z1, I.zh, I.zn⟩
    unfold runG at h
    generalize g (en0 n (ds.map .val)) none [] = q at h
    obtain ⟨o, q⟩ := q
    cases q with
    | nx ρ' s' => exact fun ys σ Z' H' I z1 rs => h ys Z' H' (stp I z1) rs
    | rt d s' =>
      cases d with
      | non => exact fun ys v σ ρ Z' H' I z1 rs rv => ⟨by cases rv; rfl, h ys Z' H' (stp I z1) rs⟩
      | _ => exact h.elim
    | exc c fs ρ' s' => exact fun σ d vs Z' H' I z1 e l rs => h d vs Z' H' (stp I z1) e l rs
    | bk ρ' s' => exact h.elim
    | ct ρ' s' => exact h.elim
    | bad => exact h.elim
end
/-! list(f(..)) -/
theorem passAt_sub {X : Cx} {σ : L2.St} {E E' : XK} (h : PassesAt (L2.CX X.prog X.w) X σ E) (m : ∀ cls d H, E' cls d H → E cls d H) : PassesAt (L2.CX X.prog X.w) X σ E' := fun pins H s e s' I c => h pins H s e s' I (by
  obtain ⟨a, B, H', cls, d, z1, fl, z2, ub, z3, z4, z5, z6⟩ := c
  exact ⟨a, B, H', cls, d, z1, fl, z2, ub, z3, z4, z5, m _ _ _ z6⟩)
section
variable {X : Cx} {k : Nat} {p pos : Pos}
theorem pe_listGS {e : Expr} {tg : L2.St → TGen} {E : L2.St → XK} {nm : Str} (h : ∀ σ, PGen X k e (tg σ) (E σ)) (hx : ∀ σ, PassesAt (L2.CX X.prog X.w) X σ (E σ)) (hns : ∀ σ, NoStop X.K (E σ)) (hr : Room (k + 3) X.A) (hg : Gl X nm) (hmg : X.mg nm = none) (hv : bootBuiltins nm = some (.type "list")) (hnm : nm ≠ "__name__" := by decide) (hdb : (nm == ("__debug__" : Str)) = false := by decide)
    (he : starEach [e] X.env = (false, eval e X.env) :: starEach [] X.env := by rfl) : PE X (.Call (.Name nm p) [e] [] pos) (fun σ H Q => tListG (tg σ) σ H Q) := by
  refine ⟨fun pins s σ H Q I hq => ?_⟩
  refine wpAny_Call_Name_kw (ld_blt I hg hmg hv ?_ hnm hdb)
  refine PyProof.Rows.callWith_type1 ?_ he rfl
  rw [he]
  show wpAny _ _ (spliced ((false, eval e X.env) :: backTo pos (starEach [] X.env))) _ _ s
  refine Calls.spliced_cons (thn ((h σ).run pins s σ H _ I hq) fun u s1 ⟨H1, sc, ex, I1, hex, hG⟩ => ?_)
  refine Calls.spliced_nil ?_
  have hsz : sc.heap.objs.size ≤ s1.heap.objs.size := by
    obtain ⟨a, g, c, _, h1, h2, _⟩ := hG
    exact Nat.le_trans h1 (Nat.le_of_lt h2)
  refine call_list_new hr I1.ok.frames hG (fun S s' acc c H' ys q0 q1 q2 hl q3 q4 q5 q6 q7 q8 => ?_) fun e s' g hc => ?_
  · exact ⟨.ref S, upd H' S (.lst ys), I1.drained (Nat.le_trans hsz q0) hl q1 q2 hex q3 q4 q5 q6 q7, rfl, q8 S q7⟩
  · have kin : X.K.In s'.heap := by
      obtain ⟨a, B, H', cls, d, _, fl, _, ub, _⟩ := id hc
      refine I1.ok.mod.kin.keeps fun b o eb => fl.1 b o (ub.keep b o (I1.bs b o eb).1 (I1.bs b o eb).2 fun hm => ?_)
      rcases List.mem_cons.mp (I1.stkSub b hm) with z | z
      · have h1 := Heap.lt_size eb
        have h2 := Nat.le_trans I1.ok.bsz I1.ok.above
        rw [z] at h1
        exact absurd (Nat.lt_of_lt_of_le h1 h2) (Nat.lt_irrefl _)
      · exact I1.ok.nofr eb z
    refine ⟨notStop_of (hns σ) kin hc, hx σ pins H1 sc e _ I1 ?_⟩
    · obtain ⟨a, B, H', cls, d, z1, fl, z2, ub, z3, z4, z5, z6⟩ := hc
      exact ⟨a, B, H', cls, d, z1, fl, z2, ub, z3, z4, allBare_setGen z5 rfl, z6⟩
end
def pickG (cs : List Nat) (F : List D → R D) (ds : List D) (s : S) : R D := match F ds with
  | .ok (.lst o) _ => if lim o.length then .ok (.lst o) s else .bad
  | .exc c fs _ => if cs.contains c then .exc c fs s else .bad
  | _ => .bad
def eListG (cs : List Nat) (m : Nat) (F : List D → R D) (fa : Af) : Ef := fun ρ s => (fa ρ s).bind fun ds s1 => if ds.length = m then pickG cs F ds s1 else .bad
def NsE (K : PySem.W.Frag) (E : XK) : XK := fun cls d H => E cls d H ∧ PySem.W.subIn K cls (.type "StopIteration") = some false
section
variable {B : Tb} {u : Option (Addr × Value × Option Addr)} {X : Cx} {W : WX} {pos pos2 : Pos} {e : Expr}
variable {k m : Nat} {f : Addr} {fd : FuncData} {ps : List Str} {x : Str} {p p2 : Pos} {es : List Expr} {fa : Af}
theorem ve_listG (cs : List Nat) (F : List D → R D) (hF : GFn X.prog X.w X.K X.mg X.base k f fd ps (spG B m F)) (hr : Room (k + 3) X.A) (hr0 : Room k X.A) (hK : ∀ c ∈ cs, PySem.W.subIn X.K (.ref (B.cls c)) (.type "StopIteration") = some false)
    (hgl : Gl X "list") (hml : X.mg "list" = none) (hvl : bootBuiltins "list" = some (.type "list"))
    (hg : Gl X x) (hm : X.mg x = some (.ref f)) (hk : PySem.W.keepIn X.K (.ref f) = true) (hb : Binds X.K fd ps []) (tk : Takes X W)
    (ha : VA B u X W (e :: es) fa) (hdb : (x == ("__debug__" : Str)) = false := by decide) (he : starEach (e :: es) X.env = (false, eval e X.env) :: starEach es X.env := by rfl) (hpl : (backTo pos2 (starEach es X.env)).any (·.1) = false := by rfl)
    (he2 : starEach [.Call (.Name x p2) (e :: es) [] pos2] X.env = (false, eval (.Call (.Name x p2) (e :: es) [] pos2) X.env) :: starEach [] X.env := by rfl) :
    VE B u X W (.Call (.Name "list" p) [.Call (.Name x p2) (e :: es) [] pos2] [] pos) (eListG cs m F fa) := by
  intro G hG
  have h0 := ha G hG
  obtain ⟨rfl, rfl⟩ := hG
  refine pe_mono (pe_listGS (E := fun σ => NsE X.K (WE W σ)) (fun σ => pgen_call (E := NsE X.K (WE W σ)) hF hr0 hg hm hk hb .nil h0 hdb he hpl) (fun σ => passAt_sub (passAt tk σ) fun _ _ _ h => h.1) (fun σ cls d H h => h.2) hr hgl hml hvl (by decide) (by decide) he2) fun σ H Q ⟨Z, ρ, s, I, h⟩ => ?_
  refine ⟨Z, ρ, s, I, h.bind.up (Same.refl Z) fun ds s1 h1 vs Z1 H1 I1 z1 r => ?_⟩
  by_cases hl : ds.length = m
  · rw [if_pos hl] at h1
    rw [List.append_nil]
    refine ⟨Z1, ds, I1.zh, hl, r, ?_⟩
    unfold pickG at h1
    cases ef : F ds with
    | bad => rw [ef] at h1; exact h1.elim
    | exc c fs s2 =>
      rw [ef] at h1
      cases hc : cs.contains c with
      | false => simp only [hc] at h1; exact h1.elim
      | true =>
        simp only [hc, if_true] at h1
        exact fun d vs Z' H' t e l rs => ⟨h1 d vs Z' H' (I1.step t) (z1.trans t.zz) e l rs, hK c (mem_of_contains hc)⟩
    | ok d s2 =>
      rw [ef] at h1
      cases d with
      | lst o =>
        cases ho : lim o.length with
        | false => simp only [ho] at h1; exact h1.elim
        | true =>
          simp only [ho, if_true] at h1
          intro ys Z' H' t rs q nq
          have t2 : Step Z' H' (upd Z' q (.lst ys)) (upd H' q (.lst ys)) := Step.new _ t.zh nq
          exact h1 (.ref q) _ _ (I1.step (t.trans t2)) (z1.trans (t.zz.trans t2.zz)) (.lst upd_same (rs.mono t2.zz))
      | _ => exact h1.elim
  · rw [if_neg hl] at h1
    exact h1.elim
end
end Vv

/-! ## math.comb -/
namespace Vv
open PySem.Calls PySem.W
namespace Cmb
theorem entry : entryFor table "math.comb" = some Builtin.«math.comb» := entryFor_of_tree (by kernel_rfl)
theorem kind : builtinKind "math.comb" = none := by kernel_rfl
theorem plain : plainId "math.comb" = true := by decide +kernel
theorem args (a b : Value) : argsOk "math.comb" ⟨[a, b], []⟩ := by unfold argsOk; kernel_rfl
end Cmb
def fallP (n : Int) (k : Nat) : Int := (List.range k).foldl (fun (p : Int) (i : Nat) => p * (n - (i : Int))) 1
def combQ (n k : Int) : Int := fallP n (min k (n - k)).toNat / fallP (min k (n - k)) (min k (n - k)).toNat
theorem combQ_small : (List.range 31).all (fun n => (List.range (n + 1)).all fun k => decide ((combQ (n : Int) (k : Int)).natAbs < 2 ^ 64)) = true := by decide +kernel
theorem comb_run (a : Int) (t : Tok) (b : Int) (u : Tok) (h0 : 0 ≤ b) (h1 : b ≤ a) (h2 : a ≤ 30) : Gives (Builtin.«math.comb» ⟨[.int a t, .int b u], []⟩) (.int (combQ a b)) := by
  have c0 : ¬ a < 0 := by omega
  have c1 : ¬ b < 0 := by omega
  have c2 : ¬ b > a := by omega
  have c3 : ¬ min b (a - b) > Builtin.Math.maxSsize := by unfold Builtin.Math.maxSsize; omega
  have c4 : ¬ min b (a - b) > Builtin.Math.manyFactors := by unfold Builtin.Math.manyFactors; omega
  have c5 : ¬ min b (a - b) > 9000 := by omega
  have hsz : (combQ a b).natAbs.log2 < bitsLine := by
    have e := List.all_eq_true.mp (List.all_eq_true.mp combQ_small a.toNat (List.mem_range.mpr (by omega))) b.toNat (List.mem_range.mpr (by omega))
    have e := of_decide_eq_true e
    rw [show ((a.toNat : Nat) : Int) = a by omega, show ((b.toNat : Nat) : Int) = b by omega] at e
    exact Nat.lt_of_le_of_lt (mg_log e) (by unfold bitsLine; decide)
  exact .of_wp fun M A E s Q h => by
    obtain ⟨hp, g, d, tk, os⟩ := s
    wp_walk
    refine wpAny_ite_false (decide_eq_false (Nat.not_le.mpr hsz)) ?_
    wp_walk
    exact ⟨_, rfl, h⟩
theorem comb_run0 (a : Int) (t : Tok) (b : Int) (u : Tok) (h0 : 0 ≤ a) (h1 : a < b) : Gives (Builtin.«math.comb» ⟨[.int a t, .int b u], []⟩) (.int 0) := by
  have c0 : ¬ a < 0 := by omega
  have c1 : ¬ b < 0 := by omega
  exact .of_wp fun M A E s Q h => by
    obtain ⟨hp, g, d, tk, os⟩ := s
    wp_walk
    exact ⟨_, rfl, h⟩
def combI (a b : Int) : Option Int := if decide (0 ≤ a) && decide (0 ≤ b) then (if a < b then some 0 else if a ≤ 30 then some (combQ a b) else none) else none
def combD : List D → Option D
  | [.int a, .int b] => (combI a b).map D.int
  | _ => none
def rComb : List V → Hp → VK → Prop := fun vs H Q => ∃ a b c : Int, vs = [.int a, .int b] ∧ combI a b = some c ∧ Q (.int c) H
theorem cr_comb {X : Cx} : CallR X (.builtin "math.comb") rComb := by
  intro pins s σ H vs us Q I r h
  obtain ⟨a, b, c, rfl, e, q⟩ := h
  obtain ⟨t, u, rfl⟩ := Vals.int2 r
  unfold combI at e
  cases hp : decide (0 ≤ a) && decide (0 ≤ b) with
  | false => rw [hp] at e; cases e
  | true =>
    obtain ⟨h0, h1⟩ := Bool.and_eq_true_iff.mp hp
    have h0 := of_decide_eq_true h0
    have h1 := of_decide_eq_true h1
    rw [hp, if_pos rfl] at e
    by_cases hl : a < b
    · rw [if_pos hl] at e
      cases e
      exact call_function_meets Cmb.kind Cmb.plain Cmb.entry (Cmb.args _ _) (comb_run0 a t b u h0 hl).meets ⟨.int _, H, I.tok _, ⟨_, rfl⟩, q⟩
    · rw [if_neg hl] at e
      by_cases h3 : a ≤ 30
      · rw [if_pos h3] at e
        cases e
        exact call_function_meets Cmb.kind Cmb.plain Cmb.entry (Cmb.args _ _) (comb_run a t b u h1 (by omega) h3).meets ⟨.int _, H, I.tok _, ⟨_, rfl⟩, q⟩
      · rw [if_neg h3] at e
        cases e
theorem OpN.comb {B : Tb} : OpN B rComb combD := ⟨fun {Z H xs ds d Q} z rs e q => by
  match ds, rs, e with
  | [.int a, .int b], .cons (.int _) (.cons (.int _) .nil), e =>
    obtain ⟨c, e1, rfl⟩ := Option.map_eq_some_iff.mp e
    exact ⟨a, b, c, rfl, e1, q _ Z H (Step.refl z) (.int _)⟩⟩
/-- a module's name for a built-in function -/
theorem ve_bf {B : Tb} {u : Option (Addr × Value × Option Addr)} {X : Cx} {W : WX} {x : Str} {p pos : Pos} {e : Expr} {es : List Expr} {id : String} {r : List V → Hp → VK → Prop} {fa : Af} {o : List D → Option D} (hc : CallR X (.builtin id) r) (ok : OpN B r o) (hg : Gl X x) (hm : X.mg x = some (.builtin id)) (ha : VA B u X W (e :: es) fa)
    (hdb : (x == ("__debug__" : Str)) = false := by decide) (he : starEach (e :: es) X.env = (false, eval e X.env) :: starEach es X.env := by rfl) (hpl : (backTo pos (starEach es X.env)).any (·.1) = false := by rfl) : VE B u X W (.Call (.Name x p) (e :: es) [] pos) (eOpN o fa) := by
  intro G hG
  have h0 := ha G hG
  obtain ⟨rfl, rfl⟩ := hG
  exact pe_mono (pe_callBfun hc hg hm h0 hdb he hpl) fun _ _ _ h => opN_of ok h
end Vv

/-! ## the iteration of an object of ours over a text -/
namespace Vv
def itS (c k : Nat) : D → Option (List D)
  | .obj c' fs => if c' = c then (match fs[k]? with
    | some (.str l) => some (l.map fun c => .str [c])
    | _ => none) else none
  | d => itD d
def iItS (c k : Nat) (f : Ef) : Af := fun ρ s => (f ρ s).bind fun d s1 => opt (itS c k d) s1
section
variable {B : Tb} {u : Option (Addr × Value × Option Addr)} {X : Cx} {W : WX} {pos : Pos}
theorem itS_obj {c k : Nat} {d : D} {ds : List D} (e : itS c k d = some ds) : itD d = some ds ∨ ∃ fs l, d = .obj c fs ∧ fs[k]? = some (.str l) ∧ ds = l.map fun c => .str [c] := by
  cases d with
  | obj c' fs =>
    replace e : (if c' = c then (match fs[k]? with
      | some (.str l) => some (l.map fun c => .str [c])
      | _ => none) else none) = some ds := e
    by_cases h : c' = c
    · rw [if_pos h] at e
      subst h
      cases q : fs[k]? with
      | none => rw [q] at e; cases e
      | some x =>
        rw [q] at e
        cases x with
        | str l => cases e; exact .inr ⟨fs, l, rfl, q, rfl⟩
        | _ => cases e
    · rw [if_neg h] at e
      cases e
  | _ => exact .inl e
theorem vi_anyS (c k : Nat) {n : Nat} {f : Addr} {fd : FuncData} {ps : List Str} {fld : Str} {tg e : Expr} {fe : Ef} (hK : X.K = B.K) (M : OwnM X.K (B.cls c) "__iter__" f) (hr : Room n X.A) (F : ∀ base : Heap, FnOk X.prog X.w X.K X.mg base CX0 n f fd ps (spItS (B.cls c) fld base.objs.size)) (hb : Binds X.K fd ps [])
    (lk : ObjLk B c fld k) (he : VE B u X W e fe) : VIt B u X W tg e (iItS c k fe) := by
  intro G hG
  have h0 := he G hG
  obtain ⟨rfl, rfl⟩ := hG
  refine pi_mono (pi_or (pi_or (pi_seqQ (K := G.B.K) hK h0) (pi_str h0)) (pi_ownS (fld := fld) (E := E0) M hr F hb pass0 h0)) fun σ H Rr ⟨Z, ρ, s, I, h⟩ => ?_
  have h := h.bind
  cases ef : fe ρ s with
  | bad => rw [ef] at h; exact h.elim
  | exc c fs s1 => rw [ef] at h; exact .inl (.inl ⟨Z, ρ, s, I, by rw [ef]; exact h⟩)
  | ok d s1 =>
    rw [ef] at h
    obtain ⟨ds, e1, kk⟩ := ROk.opt h
    rcases itS_obj e1 with e1 | ⟨fs, l0, rfl, e2, rfl⟩
    · by_cases hs : ∃ l, d = .str l
      · obtain ⟨l, rfl⟩ := hs
        cases e1
        refine .inl (.inr ⟨Z, ρ, s, I, ?_⟩)
        rw [ef]
        intro v Z1 H1 I1 z1 r
        cases r
        exact ⟨_, rfl, kk _ Z1 H1 I1 z1 walkD_str⟩
      · refine .inl (.inl ⟨Z, ρ, s, I, ?_⟩)
        rw [ef]
        intro v Z1 H1 I1 z1 r
        rcases itD_len (K := G.B.K) r e1 with q | ⟨a, vs, rfl, rs, ⟨_, q⟩ | ⟨_, q⟩⟩
        · exact absurd q hs
        · exact ⟨a, vs, rfl, .inl ⟨.inl (.inl (I1.zh _ _ q)), kk _ Z1 H1 I1 z1 (walkD_lst q rs)⟩⟩
        · exact ⟨a, vs, rfl, .inr ⟨seqT_mono I1.zh q, kk _ Z1 H1 I1 z1 (walkD_tup q rs)⟩⟩
    · refine .inr ⟨Z, ρ, s, I, ?_⟩
      rw [ef]
      intro v Z1 H1 I1 z1 r
      obtain ⟨a, dx, vs, rfl, ha, hl, rs⟩ := obj_of r
      obtain ⟨x, ex, rx⟩ := rs.at e2
      cases rx
      exact ⟨a, dx, _, sOf l0, rfl, I1.zh _ _ ha, (lk vs hl).trans ex, kk _ Z1 H1 I1 z1 walkD_str⟩
end
end Vv
/-! len of an object of ours -/
namespace Vv
def lenO (c : Nat) (F : List D → R D) (d : D) : Option D := if isC c d then (match F [d] with
  | .ok (.int n) _ => if decide (0 ≤ n) && decide (n < 1000000) then some (.int n) else none
  | _ => none) else none
theorem OpN.lenO {B : Tb} {c : Nat} {F : List D → R D} : OpN B (rLenOwn (B.cls c) (spP B 1 F) EF) (g1 (Vv.lenO c F)) := OpN.one g1_of fun {Z H x dx d Q} z rx e q => by
  unfold Vv.lenO at e
  cases hc : isC c dx with
  | false => rw [hc] at e; cases e
  | true =>
    rw [hc, if_pos rfl] at e
    obtain ⟨fs, rfl⟩ := isC_of hc
    obtain ⟨a, d2, vs, rfl, ha, hl, rs⟩ := obj_of rx
    refine ⟨a, d2, _, rfl, z _ _ ha, Z, [.obj c fs], z, rfl, .cons rx .nil, ?_⟩
    cases ef : F [.obj c fs] with
    | bad => rw [ef] at e; cases e
    | exc c2 fs2 s2 => rw [ef] at e; cases e
    | ok d3 s3 =>
      rw [ef] at e
      cases d3 with
      | int n =>
        obtain ⟨h, rfl⟩ := ite_some (show (if decide (0 ≤ n) && decide (n < 1000000) then some (D.int n) else none) = some d from e)
        obtain ⟨h1, h2⟩ := Bool.and_eq_true_iff.mp h
        have h1 := of_decide_eq_true h1
        have h2 := of_decide_eq_true h2
        obtain ⟨k, rfl⟩ := Int.eq_ofNat_of_zero_le h1
        intro v Z' H' t rv
        cases rv
        exact ⟨k, rfl, by omega, q (.int k) Z' H' t (.int _)⟩
      | _ => cases e
def lenVO (c : Nat) (F : List D → R D) : List D → Option D := fun ds => (g1 lenV ds).or (g1 (lenO c F) ds)
end Vv

local macro_rules | `(tactic| walk_at "num") => `(tactic| first
  | omega
  | (with_reducible exact True.intro)
  | (show (0 : Int) < _; omega)
  | (refine cmul_r ?_; omega)
  | (refine cmul_l ?_; omega)
  | (refine cdiv ?_ ?_ <;> omega)
  | (refine cpow ?_ ?_ ?_ <;> decide)
  | (simp only [List.length_cons, List.length_nil, List.length_append, List.length_take, List.length_drop, List.length_map]; omega))
local macro_rules | `(tactic| walk_at "look") => `(tactic| first
  | assumption
  | exact upd_same
  | (rw [upd_ne (by assumption)]; assumption)
  | (rw [upd_ne (by first | assumption | (apply Ne.symm; assumption))]; first | assumption | exact upd_same))
local macro_rules | `(tactic| walk_at "go") => `(tactic| repeat (first
  | (refine ⟨_, rfl, ?_⟩)
  | (refine ⟨_, _, rfl, rfl, ?_⟩)
  | (refine ⟨_, _, _, _, rfl, rfl, SqL.of (by walk_at "look"), rfl, ?_⟩)
  | (refine ⟨_, _, _, _, rfl, rfl, by walk_at "look", rfl, ?_⟩)
  | (refine ⟨_, _, rfl, .inl (SqL.of (by walk_at "look")), ?_⟩)
  | (refine ⟨rfl, _, rfl, ?_⟩)
  | (refine ⟨_, _, _, _, _, rfl, by walk_at "look", by assumption, by assumption, rfl, ?_⟩)
  | (refine And.intro (Or.inl ⟨rfl, _, SqL.of (by walk_at "look")⟩) ?_)
  | (refine And.intro ⟨_, rfl⟩ ?_)
  | (refine Or.inl ⟨_, rfl, ?_⟩)
  | (refine And.intro (by walk_at "num") ?_)))
def topS (i : Nat) : Stmt := PySem.Challenge.pw_slitstairs_k04_whole_all_columns_counted.main.body.getD i (.Pass ⟨0, 0, 0, 0⟩)
/-! ### o.m(*e, k = v), m a classmethod -/
section
variable {M : Model} {A : Around} {E : Value → Shared → Prop} {s : Shared}
theorem ks_loneK {f : Value} {x y : Sem Value} {k : Str} {pos : Pos} {Q : Args → Shared → Prop}
    (h : wpAny M A x (fun v s₁ => wpAny M A y (fun u s₂ => PySem.W.StarOf M A E v (fun vs s₃ => Q ⟨vs, [(k, u)]⟩ s₃) s₂) E s₁) E s) :
    wpAny M A (evalArgs f true [(true, (do let v ← x; standAt pos; pure v))] [(some k, (do let v ← y; standAt pos; pure v))]) Q E s := by
  unfold evalArgs
  refine wpAny_bind (wpAny_bind (wpAny_mono h (fun v s₁ h₁ => wpAny_bind (wpAny_standAt (wpAny_pure ?_))) fun _ _ x => x))
  refine wpAny_holding ?_
  have ev : wpAny M A (evalAll [(do let v ← y; standAt pos; pure v)]) (fun ks s2 => ∃ u, ks = [u] ∧ PySem.W.StarOf M A E v (fun vs s₃ => Q ⟨vs, [(k, u)]⟩ s₃) s2) E s₁ := by
    unfold evalAll
    refine wpAny_bind (wpAny_bind (wpAny_mono h₁ (fun u s2 h2 => wpAny_bind (wpAny_standAt (wpAny_pure ?_))) fun _ _ x => x))
    refine wpAny_bind (wpAny_holding ?_)
    unfold evalAll
    exact wpAny_pure (wpAny_pure ⟨u, rfl, h2⟩)
  refine wpAny_bind (wpAny_mono ev (fun ks s2 ⟨u, e, h2⟩ => ?_) fun _ _ x => x)
  subst e
  unfold PySem.W.StarOf at h2
  refine wpAny_bind (wpAny_bind (wpAny_mono h2 (fun b s3 h3 => ?_) fun _ _ x => x))
  obtain ⟨rfl, h3⟩ := h3
  rw [if_neg Bool.false_ne_true]
  exact wpAny_holding (wpAny_mono h3 (fun vs s4 h4 => wpAny_pure h4) fun _ _ x => x)
theorem ks_callK {f : Value} {first : List Value} {pos : Pos} {Q : Value → Shared → Prop} {P : Heap → Prop} {args : List (Bool × Sem Value)} {kws : List (Option Str × Sem Value)} (hst : args.any (·.1) = true)
    (hk : ∀ h, P h → ∃ k, (k = Keeper.frame ∨ k = Keeper.machine ∨ k = Keeper.boundFrame) ∧ PySem.W.Looks M h (keeperOf f) k)
    (h : wpAny M A (evalArgs f true args kws) (fun a s₁ => P s₁.heap ∧ wpAny M A (call f (first ++ a.pos) a.kw) Q E s₁) E s) : wpAny M A (callWith pos f first args kws) Q E s := by
  unfold callWith
  refine wpAny_bind (wpAny_holding (wpAny_mono h (fun a s₁ h₁ => wpAny_bind (wpAny_standAt ?_)) fun _ _ x => x))
  obtain ⟨k, hk', L⟩ := hk _ h₁.1
  simp only [hst, Bool.true_or]
  refine wpAny_bind (L.here ?_)
  have tail : ∀ {t : Sem Value}, wpAny M A t Q E s₁ → wpAny M A (t >>= fun r => holding [r] point >>= fun _ => pure r) Q E s₁ :=
    fun ht => wpAny_bind (wpAny_mono ht (fun r s₂ hr => wpAny_bind (wpAny_holding (wpAny_point (wpAny_pure hr)))) fun _ _ x => x)
  have marked (mk : Value) : wpAny M A (callMarked mk f (first ++ a.pos) a.kw) Q E s₁ := by unfold callMarked; exact Calls.wpAny_keep h₁.2
  rcases hk' with rfl | rfl | rfl <;> dsimp only <;> first | exact tail (marked _) | exact tail (wpAny_operating h₁.2)
theorem starcallK_of {env : Env} {o e : Expr} {m : Str} {kws : List Keyword} {p apos pos : Pos} {Q : Value → Shared → Prop} (hbase : attributeBase o m env (eval o env) = eval o env)
    (hst : starEach [.Starred e p] env = [(true, eval e env)])
    (h : wpAny M A (eval o env) (fun ov s₁ => wpAny M A (getAttr ov m true) (fun f s₂ => wpAny M A (callWith pos f [] (backTo pos [(true, eval e env)]) (backToKw pos (keywordEach kws env))) Q E s₂) E s₁) E s) :
    wpAny M A (eval (.Call (.Attribute o m apos) [.Starred e p] kws pos) env) Q E s := by
  have hform : methodCallForm ([Expr.Starred e p].length + kws.length) (backTo pos [(true, eval e env)]) (backToKw pos (keywordEach kws env)) = false := rfl
  have hpos : methodCallPos false o env apos pos = pure pos := rfl
  have hcal : ∀ ov, calleeOf false o env ov m = (getAttr ov m true >>= fun v => pure (v, [])) := fun _ => rfl
  rw [arm_eval_Call, hbase, hst]
  refine wpAny_bind (wpAny_mono h (fun ov s₁ h₁ => ?_) fun _ _ x => x)
  refine wpAny_bind (wpAny_standAt ?_)
  unfold methodCall
  rw [hform, hpos, hcal]
  refine wpAny_bind (wpAny_holding (wpAny_bind (wpAny_mono h₁ (fun f s₂ h₂ => wpAny_pure ?_) fun _ _ x => x)))
  exact wpAny_bind (wpAny_pure h₂)
end
section
variable {P : Program} {w : World} {K : PySem.W.Frag} {mg : Str → Option Value} {base : Heap} {CX : CXT} {k : Nat} {f : Addr}
/-- what the def at f does when it is called with one keyword -/
def FnK1 (P : Program) (w : World) (K : PySem.W.Frag) (mg : Str → Option Value) (base : Heap) (CX : CXT) (k : Nat) (f : Addr) (kn : Str) (sp : V → Sp) : Prop :=
  ∀ (A : Around) (outer : List Env) (s : Shared) (H : Hp) (us : List Value) (u : Value) (vs : List V) (v : V) (Q : VK) (E : XK), Room k A → Env0 P w K mg base A outer s H → Vals vs us → RelV v u → sp v vs H Q E →
    codeAny (model P w) A (.call (.ref f) ⟨us, [(kn, u)]⟩) (CR CX outer P w H s Q E) s
end
section
variable {X : Cx} {pins : List (Addr × Obj)} {σ : L2.St} {H : Hp} {s : Shared} {CX : CXT} {k : Nat} {f : Addr} {kn : Str} {sp : V → Sp} {E : XK} {Q : VK}
theorem run_fnK1 {us : List Value} {u : Value} {vs : List V} {v : V} (F : FnK1 X.prog X.w X.K X.mg X.base CX k f kn sp) (hr : Room k X.A) (hx : Passes CX X E) (I : Inv X pins σ H s) (r : Vals vs us) (ru : RelV v u) (h : sp v vs H Q E) :
    codeAny (model X.prog X.w) X.A (.call (.ref f) ⟨us, [(kn, u)]⟩) (fun r s' => match r with | .ok (.ret v) => EP X pins σ Q v s' | .ok _ => False | .error e => X.xe e s') s := by
  refine codeAny_mono (F X.A X.stack s H us u vs v Q E hr I.env0 r ru h) fun r s' hq => ?_
  cases r with
  | error e => exact hx pins σ H s e s' I hq
  | ok fl =>
    cases fl with
    | ret u => exact I.after hq
    | next => exact False.elim hq
    | brk => exact False.elim hq
    | cont => exact False.elim hq
/-- C.m(*e, k = v), m a classmethod of C -/
def tCMethSK (K : PySem.W.Frag) (C : Addr) (sp : V → Sp) (E : XK) (ta te tv : TE) : TE := fun σ H Q => ta σ H fun x H1 => x = .ref C ∧ te σ H1 fun y H2 => tv σ H2 fun z H3 => ∃ p ys, y = .ref p ∧ (SqT K H3 p ys ∨ SqL K H3 p ys) ∧ sp z (.ref C :: ys) H3 Q E
theorem pe_cmethSK {C pp g : Addr} {mc : Value} {o e ke : Expr} {m : Str} {p apos pos kpos : Pos} {ta te tv : TE} (he : PE X o ta) (r : ClX.CRead X.K C mc) (c : ClX.CMet X.K C mc m pp g) (F : FnK1 X.prog X.w X.K X.mg X.base CX k g kn sp) (hr : Room k X.A) (hx : Passes CX X E)
    (h1 : PE X e te) (h2 : PE X ke tv) (hbase : attributeBase o m X.env (eval o X.env) = eval o X.env := by rfl)
    (hst : starEach [.Starred e p] X.env = [(true, eval e X.env)] := by rfl) : PE X (.Call (.Attribute o m apos) [.Starred e p] [⟨some kn, ke, kpos⟩] pos) (tCMethSK X.K C sp E ta te tv) := by
  refine ⟨fun pins s σ H Q I h => ?_⟩
  refine starcallK_of hbase hst (thn (he.run pins s σ H _ I h) fun u s1 ⟨x, H1, I1, rx, ex, q⟩ => ?_)
  subst ex
  obtain rfl : u = Value.ref C := rx
  refine ClX.getcmet_ok I1 r c fun s2 I2 => ?_
  refine ks_callK (P := PySem.W.MethP X.K s1.heap.objs.size g (.ref C)) rfl (PySem.W.keeps_M c.fi) ?_
  refine ks_loneK (thn (h1.run _ s2 σ H1 _ I2 q) fun v1 s3 ⟨y, H2, I3, ry, q2⟩ => thn (h2.run _ s3 σ H2 _ I3 q2) fun v2 s4 ⟨z, H3, I4, rz, a, ys, ey, ht, hsp⟩ => ?_)
  subst ey
  obtain rfl : v1 = Value.ref a := ry
  refine StX.star_any I4 ht fun us s5 I5 rv => ⟨⟨ClX.pin_at I5, I5.kIn⟩, ?_⟩
  have zz : wpAny (model X.prog X.w) X.A (call (.ref s1.heap.objs.size) us [(kn, v2)]) (EP X ((s1.heap.objs.size, PySem.W.methodObj (.ref g) (.ref C)) :: pins) σ Q) X.xe s5 :=
    wpAny_call (PySem.W.method_call (ClX.pin_at I5) (run_fnK1 (us := .ref C :: us) (vs := .ref C :: ys) F hr hx I5 (.cons rfl rv) rz hsp))
  exact thn zz fun _ _ y => ClX.unpinE y
end
/-- a classmethod def m(cls, *ws, k=()) as it stands -/
structure CmAt (K : PySem.W.Frag) (x qual : Str) (st : Stmt) (kn : Str) (f te : Addr) : Prop where
  ex : ∃ (oc : Value) (od : Option Addr) (D : Addr) (doc pm : Value) (an : Option Addr) (cdv ct : Value) (osl : Array (Option Value)),
    K.lookup f = some ⟨oc, od, .func (PySem.W.fnOf x qual (defArgs st) (defBody st) (defScope st) .none (.ref D) doc pm an cdv ct), osl⟩ ∧ PySem.W.codeIn K cdv qual = true ∧ PySem.W.nsIn K D kn = some (some (.ref te))
  emp : ∃ (o : Obj) (n : Nat), K.lookup te = some o ∧ o.cls = .type "tuple" ∧ o.data = .seq #[] n
theorem CmAt.sq {K : PySem.W.Frag} {x qual : Str} {st : Stmt} {kn : Str} {f te : Addr} (F : CmAt K x qual st kn f te) (H : Hp) : SqT K H te [] := let ⟨o, n, a, b, c⟩ := F.emp; .inr ⟨o, #[], n, a, b, c, Nat.zero_le _, .nil⟩
section
variable {P : Program} {w : World} {K : PySem.W.Frag} {mg : Str → Option Value} {base : Heap} {CX : CXT} {k : Nat} {f te : Addr} {x qual : Str} {st : Stmt} {a kn pv : Str} {N : List Str} {sp : Sp}
theorem CmAt.fnK (F : CmAt K x qual st kn f te) (S : FnScope N [a, kn, pv] (defScope st)) (hCX : StX.CXUp CX)
    (hb : ∀ (D : Addr) (doc pm : Value) (an : Option Addr) (cdv ct c m : Value) (rest : List Value), bindArgs (PySem.W.fnOf x qual (defArgs st) (defBody st) (defScope st) .none (.ref D) doc pm an cdv ct) ⟨c :: rest, [(kn, m)]⟩ = (newTuple rest >>= fun t => pure [(a, c), (kn, m), (pv, t)]))
    (hbody : ∀ (cdv : Value) (A : Around) (outer : List Env) (s : Shared) (H : Hp) (vs : List V) (Q : VK) (E : XK), Room k (A.deeper (envOfC qual (defScope st) s.heap.objs.size f cdv)) → sp vs H Q E →
      ∃ t, PSs (cxOf CX P w K mg base N qual (defScope st) f cdv A outer s H E) (defBody st) t ∧ t { nx := fun _ H' => Q .non H', rt := Q } (start N vs) H) :
    FnK1 P w K mg base CX (k + 1) f kn (fun v vs H Q E => ∃ c rest, vs = c :: rest ∧ rest.length ≤ sizeLine ∧ ∀ p, H p = Option.none → sp [c, v, V.ref p] (upd H p (.tup rest)) Q E) := by
  obtain ⟨oc, od, D, doc, pm, an, cdv, ct, osl, lk, hcd, hk⟩ := F.ex
  intro A outer s H us u vs v Q E hr e0 r ru hsp
  obtain ⟨c, rest, ev, hz, hq⟩ := hsp
  subst ev
  cases r with
  | @cons _ uc _ u2 rc r2 =>
  have hn : H s.heap.objs.size = Option.none := e0.hok.fresh (Nat.le_refl _)
  have hl2 : u2.length ≤ sizeLine := by rw [← r2.length]; exact hz
  refine StX.run_bnd lk hcd S hr e0 (G := fun xs H2 => ∃ p, H p = Option.none ∧ xs = [c, v, V.ref p] ∧ H2 = upd H p (.tup rest)) (fun A' Ex Q' h => ?_) fun s2 H2 xs ⟨p, hp, ex, eH⟩ hr' => ?_
  · rw [hb]
    refine wpAny_bind (wpAny_newTuple (wpAny_pure ?_) hl2)
    have new : ObjOk P w (upd H s.heap.objs.size (.tup rest)) (s.heap.push ({ cls := .type "tuple", data := .seq u2.toArray } : Obj)) s.heap.objs.size (.tup rest) := ⟨hz, u2, r2, ⟨_, Heap.get?_push_size _ rfl, rfl, _, rfl⟩⟩
    have un := StX.un_laid (fs := frs outer) (s := s) (o := ({ cls := .type "tuple", data := .seq u2.toArray } : Obj)) (u := .tup rest) hn
    exact h _ _ [c, v, V.ref s.heap.objs.size] [uc, u, Value.ref s.heap.objs.size] (StX.env0_laid e0 new) un rfl (fun e s' => hCX outer s H _ _ E e s' un (fun b o q => Heap.get?_push_of_some _ q) rfl) (.cons rc (.cons ru (.cons rfl .nil)))
      rfl ⟨_, hn, rfl, rfl⟩
  · subst ex eH
    exact hbody cdv A outer s2 _ _ Q E hr' (hq p hp)
theorem CmAt.fnR (F : CmAt K x qual st kn f te) (S : FnScope N [a, kn, pv] (defScope st)) (hCX : StX.CXUp CX)
    (hb : ∀ (D : Addr) (doc pm : Value) (an : Option Addr) (cdv ct c m : Value) (rest : List Value), ∃ (β γ : Type) (k1 : Option Value → Sem β) (k2 : β → Sem γ) (k3 : γ → Sem (List (Str × Value))) (b : β),
      bindArgs (PySem.W.fnOf x qual (defArgs st) (defBody st) (defScope st) .none (.ref D) doc pm an cdv ct) ⟨c :: rest, []⟩ = ((nsGet D kn >>= k1) >>= k2) >>= k3 ∧ k1 (some m) = pure b ∧ (k2 b >>= k3) = (newTuple rest >>= fun t => pure [(a, c), (kn, m), (pv, t)]))
    (hbody : ∀ (cdv : Value) (A : Around) (outer : List Env) (s : Shared) (H : Hp) (vs : List V) (Q : VK) (E : XK), Room k (A.deeper (envOfC qual (defScope st) s.heap.objs.size f cdv)) → sp vs H Q E →
      ∃ t, PSs (cxOf CX P w K mg base N qual (defScope st) f cdv A outer s H E) (defBody st) t ∧ t { nx := fun _ H' => Q .non H', rt := Q } (start N vs) H) :
    FnR P w K mg base CX (k + 1) f (fun vs H Q E => ∃ c rest, vs = c :: rest ∧ rest.length ≤ sizeLine ∧ ∀ p, H p = Option.none → sp [c, V.ref te, V.ref p] (upd H p (.tup rest)) Q E) := by
  obtain ⟨oc, od, D, doc, pm, an, cdv, ct, osl, lk, hcd, hk⟩ := F.ex
  intro A outer s H us vs Q E hr e0 r hsp
  obtain ⟨c, rest, ev, hz, hq⟩ := hsp
  subst ev
  cases r with
  | @cons _ uc _ u2 rc r2 =>
  have hn : H s.heap.objs.size = Option.none := e0.hok.fresh (Nat.le_refl _)
  have hl2 : u2.length ≤ sizeLine := by rw [← r2.length]; exact hz
  have KX : K.In s.heap := e0.mod.kin.keeps fun b o e => (e0.bs b o e).1
  refine StX.run_bnd lk hcd S hr e0 (G := fun xs H2 => ∃ p, H p = Option.none ∧ xs = [c, V.ref te, V.ref p] ∧ H2 = upd H p (.tup rest)) (fun A' Ex Q' h => ?_) fun s2 H2 xs ⟨p, hp, ex, eH⟩ hr' => ?_
  · obtain ⟨β, γ, k1, k2, k3, b, e1, e2, e3⟩ := hb D doc pm an cdv ct uc (.ref te) u2
    have l1 : PySem.W.Looks (model P w) s.heap (nsGet D kn >>= k1) b := (PySem.W.looks_nsIn KX hk).andThen (PySem.W.Looks.of_pure e2)
    rw [e1, bind_assoc]
    refine wpAny_bind (l1.here ?_)
    rw [e3]
    refine wpAny_bind (wpAny_newTuple (wpAny_pure ?_) hl2)
    have new : ObjOk P w (upd H s.heap.objs.size (.tup rest)) (s.heap.push ({ cls := .type "tuple", data := .seq u2.toArray } : Obj)) s.heap.objs.size (.tup rest) := ⟨hz, u2, r2, ⟨_, Heap.get?_push_size _ rfl, rfl, _, rfl⟩⟩
    have un := StX.un_laid (fs := frs outer) (s := s) (o := ({ cls := .type "tuple", data := .seq u2.toArray } : Obj)) (u := .tup rest) hn
    exact h _ _ [c, V.ref te, V.ref s.heap.objs.size] [uc, .ref te, Value.ref s.heap.objs.size] (StX.env0_laid e0 new) un rfl (fun e s' => hCX outer s H _ _ E e s' un (fun b o q => Heap.get?_push_of_some _ q) rfl) (.cons rc (.cons rfl (.cons rfl .nil)))
      rfl ⟨_, hn, rfl, rfl⟩
  · subst ex eH
    exact hbody cdv A outer s2 _ _ Q E hr' (hq p hp)
end
/-! ### cls(e, ..) in a classmethod: the i-th slot holds the class -/
def tMakeL (i : Nat) (C : Addr) (sp : Sp) (dvs : List V) (E : XK) (t : TA) : TE := fun σ H Q => σ[i]? = some (some (.ref C)) ∧ tMake C sp dvs E t σ H Q
section
variable {X : Cx} {CX : CXT} {k i : Nat} {f C : Addr} {fd : FuncData} {ps : List Str} {sp : Sp} {dvs : List V} {ds : List Value} {E : XK} {x : Str} {p pos : Pos} {e : Expr} {es : List Expr} {t : TA}
theorem pe_makeL (M : Mk X.K C f) (F : FnOk X.prog X.w X.K X.mg X.base CX k f fd ps sp) (hr : Room (k + 1) X.A) (hN : X.N[i]? = some x) (hv : Vis X.env.scope x) (hb : Binds X.K fd ps ds) (hd : Vals dvs ds) (hx : Passes CX X E) (ha : PA X (e :: es) t)
    (hdb : (x == ("__debug__" : Str)) = false := by decide) (hcd : (x == ("__classdict__" : Str)) = false := by decide)
    (he : starEach (e :: es) X.env = (false, eval e X.env) :: starEach es X.env := by rfl) (hpl : (backTo pos (starEach es X.env)).any (·.1) = false := by rfl) : PE X (.Call (.Name x p) (e :: es) [] pos) (tMakeL i C sp dvs E t) := by
  refine ⟨fun pins s σ H Q I h => ?_⟩
  obtain ⟨hs, ht⟩ := h
  refine wpAny_Call_Name_kw (thn ((pe_var (pos := p) hN hv hdb hcd).run pins s σ H (fun v H1 => v = .ref C ∧ H1 = H) I ⟨.ref C, hs, rfl, rfl⟩) fun u s1 ⟨v, H1, I1, r1, q1⟩ => ?_)
  obtain ⟨rfl, rfl⟩ := q1
  cases r1
  refine PySem.W.callWith_K (h₀ := X.base) I.ok.mod.kin M.kp (thn (ha.run pos pins s1 σ _ _ I1 ht) fun us s2 ⟨vs, H2, I2, r, q⟩ => ⟨I2.kIn, ?_⟩) he hpl
  exact run_make M F hr hb hd hx I2 r q
end
theorem cmet_of {K : PySem.W.Frag} {C p g : Addr} {m : Str} {r : List Value} (h0 : PySem.W.findIn K (.type "type") m = some none) (h1 : PySem.W.findIn K (.ref C) m = some (some (.ref p))) (h2 : PySem.W.typeIn K (.ref p) = some (.type "classmethod"))
    (h3 : PySem.W.specialIn K (.ref p) "__get__" = some (some (.builtin "classmethod.__get__"))) (h4 : PySem.W.recIn K p "classmethod" = some (.ref g :: r)) (h5 : PySem.W.fnIn K g = true) : ClX.CMet K C (.type "type") m p g := by
  refine ⟨?_, ⟨r, h4⟩, h5⟩
  unfold PySem.W.findCls
  rw [h0]
  simp only [Option.bind_some]
  rw [h1]
  simp only [Option.bind_some]
  rw [if_neg (by intro h; cases h), h2]
  simp only [Option.bind_some]
  rw [if_neg (by decide +kernel), h3]
  rfl
def tMakeLS (i : Nat) (C : Addr) (sp : Sp) (E : L2.St → XK) (t : TA) : TE := fun σ H Q => σ[i]? = some (some (.ref C)) ∧ tMakeS C sp E t σ H Q
section
variable {X : Cx} {CX : CXT} {n : Nat} {f C : Addr} {fd : FuncData} {ps : List Str} {sp : Sp} {E : L2.St → XK} {x : Str} {p pos : Pos} {e : Expr} {es : List Expr} {t : TA}
theorem pe_makeLS (i : Nat) (M : Mk X.K C f) (F : FnOk X.prog X.w X.K X.mg X.base CX n f fd ps sp) (room : Room (n + 1) X.A) (hb : L2.Binds X.K fd ps []) (esc : ∀ σ, PassesAt CX X σ (E σ)) (ha : PA X (e :: es) t) (hN : X.N[i]? = some x := by rfl)
    (hv : Vis X.env.scope x := by first | exact Or.inl rfl | exact Or.inr (Or.inl rfl) | exact Or.inr (Or.inr rfl)) (hdb : (x == ("__debug__" : Str)) = false := by decide) (hcd : (x == ("__classdict__" : Str)) = false := by decide)
    (he : starEach (e :: es) X.env = (false, eval e X.env) :: starEach es X.env := by rfl) (hpl : (backTo pos (starEach es X.env)).any (·.1) = false := by rfl) : PE X (.Call (.Name x p) (e :: es) [] pos) (tMakeLS i C sp E t) := by
  refine ⟨fun pins s σ H Q I h => ?_⟩
  obtain ⟨hs, ht⟩ := h
  refine wpAny_Call_Name_kw (thn ((pe_var (pos := p) hN hv hdb hcd).run pins s σ H (fun v H1 => v = .ref C ∧ H1 = H) I ⟨.ref C, hs, rfl, rfl⟩) fun u s1 ⟨v, H1, I1, r1, q1⟩ => ?_)
  obtain ⟨rfl, rfl⟩ := q1
  cases r1
  exact PySem.W.callWith_K (h₀ := X.base) I.ok.mod.kin M.kp (thn (ha.run pos pins s1 σ _ _ I1 ht) fun us s2 ⟨vs, H2, I2, r, q⟩ => ⟨I2.kIn, makeS_run M F room hb (esc σ) I2 r q⟩) he hpl
end

/-! ## classmethods with a star, keyword-only parameters: things -/
namespace Vv
def Out (B : Tb) (E : XK) (Q : VK) (Z H : Hp) (r : R D) : Prop := match r with
  | .ok d _ => ∀ v Z' H', Step Z H Z' H' → Rp B Z' v d → Q v H'
  | .exc c fs _ => ExE B E Z H (Step Z H) c fs
  | .bad => False
theorem Out.step {B : Tb} {E : XK} {Q : VK} {Z H Z1 H1 : Hp} {r : R D} (h : Out B E Q Z H r) (t : Step Z H Z1 H1) : Out B E Q Z1 H1 r := by
  cases r with
  | bad => exact h
  | ok d _ => exact fun v Z' H' t2 rv => h v Z' H' (t.trans t2) rv
  | exc c fs _ => exact fun d vs Z' H' t2 e l rs => h d vs Z' H' (t.trans t2) e l rs
/-- m(cls, *ws, k): from k and the words -/
def runC (c n : Nat) (g : Sf) (m : D) (ds : List D) : R D := if fit ds.length then runP n g [.cl c, m, .tup ds] else .bad
def spC (B : Tb) (c : Nat) (F : D → List D → R D) : Sp := fun vs H Q E => ∃ Z ds ws, vs = .ref (B.cls c) :: ws ∧ Same Z H ∧ Rps B Z ws ds ∧ Out B E Q Z H (F (.tup []) ds)
def spCK (B : Tb) (c : Nat) (F : D → List D → R D) : V → Sp := fun v vs H Q E => ∃ Z m ds ws, vs = .ref (B.cls c) :: ws ∧ Same Z H ∧ Rp B Z v m ∧ Rps B Z ws ds ∧ Out B E Q Z H (F m ds)
/-- m(a, .., *, k): from the places and k -/
def runK (m n : Nat) (g : Sf) (k : D) (ds : List D) : R D := if ds.length = m then runP n g (ds ++ [k]) else .bad
def spK0 (B : Tb) (F : D → List D → R D) : Sp := fun vs H Q E => ∃ Z ds, Same Z H ∧ Rps B Z vs ds ∧ Out B E Q Z H (F (.tup []) ds)
def spK1 (B : Tb) (F : D → List D → R D) : V → Sp := fun v vs H Q E => ∃ Z m ds, Same Z H ∧ Rp B Z v m ∧ Rps B Z vs ds ∧ Out B E Q Z H (F m ds)
theorem spP_out {B : Tb} {E : XK} {Q : VK} {Z H : Hp} {m : Nat} {F : List D → R D} {vs : List V} {ds : List D} (z : Same Z H) (hl : ds.length = m) (r : Rps B Z vs ds) (h : Out B E Q Z H (F ds)) : spP B m F vs H Q E := by
  refine ⟨Z, ds, z, hl, r, ?_⟩
  cases e : F ds with
  | bad => rw [e] at h; exact h
  | ok d s => rw [e] at h; exact h
  | exc c fs s => rw [e] at h; exact h
section
variable {P : Program} {w : World} {K : PySem.W.Frag} {mg : Str → Option Value} {base : Heap}
variable {x qual : Str} {st : Stmt} {f te : Addr} {N ps : List Str} {k n : Nat} {B : Tb} {g : Sf} {a kn pv : Str}
theorem body_P (m : Nat) (hn : N.length = n) (hmn : m ≤ n)
    (hb : ∀ (cdv : Value) (A : Around) (outer : List Env) (s : Shared) (H : Hp) (E : XK), Room k (A.deeper (envOfC qual (defScope st) s.heap.objs.size f cdv)) →
      VSs B none (cxOf (L2.CX P w) P w K mg base N qual (defScope st) f cdv A outer s H E) (fun cls d _ H => E cls d H) (defBody st) g)
    (cdv : Value) (A : Around) (outer : List Env) (s : Shared) (H : Hp) (vs : List V) (Q : VK) (E : XK) (hr : Room k (A.deeper (envOfC qual (defScope st) s.heap.objs.size f cdv))) (h : spP B m (runP n g) vs H Q E) :
    ∃ t, PSs (cxOf (L2.CX P w) P w K mg base N qual (defScope st) f cdv A outer s H E) (defBody st) t ∧ t { nx := fun _ H' => Q .non H', rt := Q } (L2.start N vs) H := by
  obtain ⟨Z, ds, z, hl, r, h⟩ := h
  let G : Gf := ⟨B, Z, H, none, none, [], none⟩
  refine ⟨_, hb cdv A outer s H E hr G ⟨rfl, rfl⟩, Z, en0 n (ds.map .val), none, ?_, ?_⟩
  · refine ⟨?_, z, Same.refl Z, fun p o e => .inl e, fun b o e _ _ => e, (fun _ e => nomatch e), (fun _ e => nomatch e), (fun _ e => nomatch e), fun i x e => ?_, fun i j p _ oi => ?_⟩
    · have hv := r.len
      unfold en0 L2.start
      simp only [List.length_append, List.length_replicate, List.length_map]
      omega
    · rcases en0_at e with q | rfl
      · rw [List.getElem?_map] at q
        obtain ⟨d, e1, rfl⟩ := Option.map_eq_some_iff.mp q
        obtain ⟨v, e2, rv⟩ := r.at e1
        exact ⟨v, start_at e2, rv⟩
      · trivial
    · exfalso
      unfold OwnAt at oi
      cases q : (en0 n (ds.map Sl.val))[i]? with
      | none => rw [q] at oi; exact oi
      | some y =>
        rw [q] at oi
        rcases en0_at q with q2 | rfl
        · rw [List.getElem?_map] at q2
          obtain ⟨d, e1, rfl⟩ := Option.map_eq_some_iff.mp q2
          exact oi
        · exact oi
  · have stp : ∀ {σ ρ s' Z' H'}, VI G Z' H' σ ρ s' → Same Z Z' → Step Z H Z' H' := fun {σ ρ s' Z' H'} I z1 => ⟨fun b o e => I.keep b o e (fun _ e => nomatch e) (fun _ e => nomatch e), z1, I.zh, I.zn⟩
    unfold runP resP at h
    cases eg : g (en0 n (ds.map .val)) none with
    | nx ρ' s' => rw [eg] at h; exact fun σ Z' H' I z1 => h .non Z' H' (stp I z1) .non
    | rt d s' => rw [eg] at h; exact fun v σ ρ Z' H' I z1 rv => h v Z' H' (stp I z1) rv
    | exc c fs ρ' s' => rw [eg] at h; exact fun σ d vs Z' H' I z1 e l rs => h d vs Z' H' (stp I z1) e l rs
    | bk ρ' s' => rw [eg] at h; exact h.elim
    | ct ρ' s' => rw [eg] at h; exact h.elim
    | bad => rw [eg] at h; exact h.elim
theorem fnC (F : CmAt B.K x qual st kn f te) (c : Nat) (S : FnScope N [a, kn, pv] (defScope st)) (hn : N.length = n) (h3 : 3 ≤ n)
    (hbd : ∀ (D : Addr) (doc pm : Value) (an : Option Addr) (cdv ct c m : Value) (rest : List Value), ∃ (β γ : Type) (k1 : Option Value → Sem β) (k2 : β → Sem γ) (k3 : γ → Sem (List (Str × Value))) (b : β),
      bindArgs (PySem.W.fnOf x qual (defArgs st) (defBody st) (defScope st) .none (.ref D) doc pm an cdv ct) ⟨c :: rest, []⟩ = ((nsGet D kn >>= k1) >>= k2) >>= k3 ∧ k1 (some m) = pure b ∧ (k2 b >>= k3) = (newTuple rest >>= fun t => pure [(a, c), (kn, m), (pv, t)]))
    (hb : ∀ (cdv : Value) (A : Around) (outer : List Env) (s : Shared) (H : Hp) (E : XK), Room k (A.deeper (envOfC qual (defScope st) s.heap.objs.size f cdv)) →
      VSs B none (cxOf (L2.CX P w) P w B.K mg base N qual (defScope st) f cdv A outer s H E) (fun cls d _ H => E cls d H) (defBody st) g) :
    FnR P w B.K mg base (L2.CX P w) (k + 1) f (spC B c (runC c n g)) := by
  refine (F.fnR (sp := spP B 3 (runP n g)) S StX.cxUp hbd (body_P 3 hn h3 hb)).imp fun vs H Q E h => ?_
  obtain ⟨Z, ds, ws, rfl, z, r, h⟩ := h
  unfold runC at h
  cases hf : fit ds.length with
  | false => rw [hf] at h; exact h.elim
  | true =>
    rw [hf] at h
    refine ⟨_, ws, rfl, by rw [r.len]; exact fit_le hf, fun p hp => ?_⟩
    have t := Step.new (.tup ws) z hp
    exact spP_out t.zh rfl (.cons (.cl c) (.cons (.tup (F.sq _) .nil) (Rps.one (.tup (.inl (.inl upd_same)) (r.mono t.zz))))) (Out.step h t)
theorem fnCK (F : CmAt B.K x qual st kn f te) (c : Nat) (S : FnScope N [a, kn, pv] (defScope st)) (hn : N.length = n) (h3 : 3 ≤ n)
    (hbd : ∀ (D : Addr) (doc pm : Value) (an : Option Addr) (cdv ct c m : Value) (rest : List Value), bindArgs (PySem.W.fnOf x qual (defArgs st) (defBody st) (defScope st) .none (.ref D) doc pm an cdv ct) ⟨c :: rest, [(kn, m)]⟩ = (newTuple rest >>= fun t => pure [(a, c), (kn, m), (pv, t)]))
    (hb : ∀ (cdv : Value) (A : Around) (outer : List Env) (s : Shared) (H : Hp) (E : XK), Room k (A.deeper (envOfC qual (defScope st) s.heap.objs.size f cdv)) →
      VSs B none (cxOf (L2.CX P w) P w B.K mg base N qual (defScope st) f cdv A outer s H E) (fun cls d _ H => E cls d H) (defBody st) g) :
    FnK1 P w B.K mg base (L2.CX P w) (k + 1) f kn (spCK B c (runC c n g)) := by
  intro A outer s H us u vs v Q E hr e0 r ru h
  refine F.fnK (sp := spP B 3 (runP n g)) S StX.cxUp hbd (body_P 3 hn h3 hb) A outer s H us u vs v Q E hr e0 r ru ?_
  obtain ⟨Z, m, ds, ws, rfl, z, rm, r, h⟩ := h
  unfold runC at h
  cases hf : fit ds.length with
  | false => rw [hf] at h; exact h.elim
  | true =>
    rw [hf] at h
    refine ⟨_, ws, rfl, by rw [r.len]; exact fit_le hf, fun p hp => ?_⟩
    have t := Step.new (.tup ws) z hp
    exact spP_out t.zh rfl (.cons (.cl c) (.cons (rm.mono t.zz) (Rps.one (.tup (.inl (.inl upd_same)) (r.mono t.zz))))) (Out.step h t)
/-! def m(a, .., *, k=()) -/
theorem fnKO (F : CmAt B.K x qual st kn f te) (m : Nat) (S : FnScope N (ps ++ [kn]) (defScope st)) (hm : ps.length = m) (hn : N.length = n) (h3 : m + 1 ≤ n)
    (hbd : ∀ (D : Addr) (doc pm : Value) (an : Option Addr) (cdv ct m : Value) (us : List Value), us.length = ps.length → ∃ (β γ : Type) (k1 : Option Value → Sem β) (k2 : β → Sem γ) (k3 : γ → Sem (List (Str × Value))) (b : β),
      bindArgs (PySem.W.fnOf x qual (defArgs st) (defBody st) (defScope st) .none (.ref D) doc pm an cdv ct) ⟨us, []⟩ = ((nsGet D kn >>= k1) >>= k2) >>= k3 ∧ k1 (some m) = pure b ∧ (k2 b >>= k3) = pure (ps.zip us ++ [(kn, m)]))
    (hb : ∀ (cdv : Value) (A : Around) (outer : List Env) (s : Shared) (H : Hp) (E : XK), Room k (A.deeper (envOfC qual (defScope st) s.heap.objs.size f cdv)) →
      VSs B none (cxOf (L2.CX P w) P w B.K mg base N qual (defScope st) f cdv A outer s H E) (fun cls d _ H => E cls d H) (defBody st) g) :
    FnR P w B.K mg base (L2.CX P w) (k + 1) f (spK0 B (runK m n g)) := by
  obtain ⟨oc, od, D, doc, pm, an, cdv, ct, osl, lk, hcd, hk⟩ := F.ex
  intro A outer s H us vs Q E hr e0 r h
  obtain ⟨Z, ds, z, rd, h⟩ := h
  unfold runK at h
  by_cases hl : ds.length = m
  · rw [if_pos hl] at h
    have hu : us.length = ps.length := by rw [← r.length, rd.len, hl, hm]
    have KX : B.K.In s.heap := e0.mod.kin.keeps fun b o e => (e0.bs b o e).1
    refine StX.run_bnd lk hcd S hr e0 (G := fun xs H2 => xs = vs ++ [V.ref te] ∧ H2 = H) (fun A' Ex Q' h => ?_) fun s2 H2 xs ⟨ex, eH⟩ hr' => ?_
    · obtain ⟨β, γ, k1, k2, k3, b, e1, e2, e3⟩ := hbd D doc pm an cdv ct (.ref te) us hu
      have l1 : PySem.W.Looks (model P w) s.heap (nsGet D kn >>= k1) b := (PySem.W.looks_nsIn KX hk).andThen (PySem.W.Looks.of_pure e2)
      rw [e1, bind_assoc]
      refine wpAny_bind (l1.here ?_)
      rw [e3]
      refine wpAny_pure ?_
      have := h s H (vs ++ [V.ref te]) (us ++ [Value.ref te]) e0 Un.refl rfl (fun _ _ z => z) (r.append (.cons rfl .nil)) (by rw [List.length_append, List.length_append, rd.len, hl, hm]; rfl) ⟨rfl, rfl⟩
      rw [List.zip_append hu.symm] at this
      exact this
    · subst ex eH
      exact body_P (m + 1) hn h3 hb cdv A outer s2 _ _ Q E hr' (spP_out z (by rw [List.length_append, hl]; rfl) (rd.app (Rps.one (.tup (F.sq _) .nil))) h)
  · rw [if_neg hl] at h; exact h.elim
theorem fnKO1 (F : CmAt B.K x qual st kn f te) (m : Nat) (S : FnScope N (ps ++ [kn]) (defScope st)) (hm : ps.length = m) (hn : N.length = n) (h3 : m + 1 ≤ n)
    (hbd : ∀ (D : Addr) (doc pm : Value) (an : Option Addr) (cdv ct m : Value) (us : List Value), us.length = ps.length → bindArgs (PySem.W.fnOf x qual (defArgs st) (defBody st) (defScope st) .none (.ref D) doc pm an cdv ct) ⟨us, [(kn, m)]⟩ = pure (ps.zip us ++ [(kn, m)]))
    (hb : ∀ (cdv : Value) (A : Around) (outer : List Env) (s : Shared) (H : Hp) (E : XK), Room k (A.deeper (envOfC qual (defScope st) s.heap.objs.size f cdv)) →
      VSs B none (cxOf (L2.CX P w) P w B.K mg base N qual (defScope st) f cdv A outer s H E) (fun cls d _ H => E cls d H) (defBody st) g) :
    FnK1 P w B.K mg base (L2.CX P w) (k + 1) f kn (spK1 B (runK m n g)) := by
  obtain ⟨oc, od, D, doc, pm, an, cdv, ct, osl, lk, hcd, hk⟩ := F.ex
  intro A outer s H us u vs v Q E hr e0 r ru h
  obtain ⟨Z, d, ds, z, rm, rd, h⟩ := h
  unfold runK at h
  by_cases hl : ds.length = m
  · rw [if_pos hl] at h
    have hu : us.length = ps.length := by rw [← r.length, rd.len, hl, hm]
    refine StX.run_bnd lk hcd S hr e0 (G := fun xs H2 => xs = vs ++ [v] ∧ H2 = H) (fun A' Ex Q' h => ?_) fun s2 H2 xs ⟨ex, eH⟩ hr' => ?_
    · rw [hbd D doc pm an cdv ct u us hu]
      refine wpAny_pure ?_
      have := h s H (vs ++ [v]) (us ++ [u]) e0 Un.refl rfl (fun _ _ z => z) (r.append (.cons ru .nil)) (by rw [List.length_append, List.length_append, rd.len, hl, hm]; rfl) ⟨rfl, rfl⟩
      rw [List.zip_append hu.symm] at this
      exact this
    · subst ex eH
      exact body_P (m + 1) hn h3 hb cdv A outer s2 _ _ Q E hr' (spP_out z (by rw [List.length_append, hl]; rfl) (rd.app (Rps.one rm)) h)
  · rw [if_neg hl] at h; exact h.elim
end
end Vv

abbrev s_is_number : Stmt := topS 10
abbrev N_is_number : List Str := ["thing"]
abbrev P_is_number : List Str := ["thing"]
theorem sc_is_number : FnScope N_is_number P_is_number (defScope s_is_number) := ⟨rfl, rfl, rfl, by decide +kernel, rfl, by decide +kernel, by decide +kernel⟩
abbrev s_is_whole : Stmt := topS 11
abbrev N_is_whole : List Str := ["thing", "low", "high"]
abbrev P_is_whole : List Str := ["thing", "low", "high"]
theorem sc_is_whole : FnScope N_is_whole P_is_whole (defScope s_is_whole) := ⟨rfl, rfl, rfl, by decide +kernel, rfl, by decide +kernel, by decide +kernel⟩
abbrev s_word_fault : Stmt := topS 12
abbrev N_word_fault : List Str := ["thing", "boundary", "ahead", "letter"]
abbrev P_word_fault : List Str := ["thing"]
theorem sc_word_fault : FnScope N_word_fault P_word_fault (defScope s_word_fault) := ⟨rfl, rfl, rfl, by decide +kernel, rfl, by decide +kernel, by decide +kernel⟩
abbrev s_check_size : Stmt := topS 15
abbrev N_check_size : List Str := ["size"]
abbrev P_check_size : List Str := ["size"]
theorem sc_check_size : FnScope N_check_size P_check_size (defScope s_check_size) := ⟨rfl, rfl, rfl, by decide +kernel, rfl, by decide +kernel, by decide +kernel⟩
abbrev s_ways_home : Stmt := topS 16
abbrev N_ways_home : List Str := ["height", "steps", "ups"]
abbrev P_ways_home : List Str := ["height", "steps"]
theorem sc_ways_home : FnScope N_ways_home P_ways_home (defScope s_ways_home) := ⟨rfl, rfl, rfl, by decide +kernel, rfl, by decide +kernel, by decide +kernel⟩
abbrev s_how_many_columns : Stmt := topS 17
abbrev N_how_many_columns : List Str := ["size"]
abbrev P_how_many_columns : List Str := ["size"]
theorem sc_how_many_columns : FnScope N_how_many_columns P_how_many_columns (defScope s_how_many_columns) := ⟨rfl, rfl, rfl, by decide +kernel, rfl, by decide +kernel, by decide +kernel⟩
abbrev s_all_columns : Stmt := topS 18
abbrev N_all_columns : List Str := ["size", "number"]
abbrev P_all_columns : List Str := ["size"]
theorem sc_all_columns : GScope N_all_columns P_all_columns (defScope s_all_columns) := ⟨rfl, rfl, rfl, by decide +kernel, rfl, by decide +kernel, by decide +kernel⟩
abbrev s_column_index : Stmt := topS 19
abbrev N_column_index : List Str := ["column", "index", "height", "left", "letter"]
abbrev P_column_index : List Str := ["column"]
theorem sc_column_index : FnScope N_column_index P_column_index (defScope s_column_index) := ⟨rfl, rfl, rfl, by decide +kernel, rfl, by decide +kernel, by decide +kernel⟩
abbrev s_column_at : Stmt := topS 20
abbrev N_column_at : List Str := ["size", "number", "letters", "height", "ahead", "left", "down_first"]
abbrev P_column_at : List Str := ["size", "number"]
theorem sc_column_at : FnScope N_column_at P_column_at (defScope s_column_at) := ⟨rfl, rfl, rfl, by decide +kernel, rfl, by decide +kernel, by decide +kernel⟩
abbrev s_plain_column : Stmt := topS 21
abbrev N_plain_column : List Str := ["size"]
abbrev P_plain_column : List Str := ["size"]
theorem sc_plain_column : FnScope N_plain_column P_plain_column (defScope s_plain_column) := ⟨rfl, rfl, rfl, by decide +kernel, rfl, by decide +kernel, by decide +kernel⟩
abbrev s_steep_column : Stmt := topS 22
abbrev N_steep_column : List Str := ["size"]
abbrev P_steep_column : List Str := ["size"]
theorem sc_steep_column : FnScope N_steep_column P_steep_column (defScope s_steep_column) := ⟨rfl, rfl, rfl, by decide +kernel, rfl, by decide +kernel, by decide +kernel⟩
abbrev s_l_mix : Stmt := topS 24
abbrev N_l_mix : List Str := ["_law_number", "_law_turn", "_law_once", "_law_twice"]
abbrev P_l_mix : List Str := ["_law_number", "_law_turn"]
theorem sc_l_mix : FnScope N_l_mix P_l_mix (defScope s_l_mix) := ⟨rfl, rfl, rfl, by decide +kernel, rfl, by decide +kernel, by decide +kernel⟩
abbrev s_l_hand : Stmt := topS 25
abbrev N_l_hand : List Str := ["_law_script", "_law_total", "_law_k", "_law_cell"]
abbrev P_l_hand : List Str := ["_law_script"]
theorem sc_l_hand : FnScope N_l_hand P_l_hand (defScope s_l_hand) := ⟨rfl, rfl, rfl, by decide +kernel, rfl, by decide +kernel, by decide +kernel⟩
abbrev s_l_draw : Stmt := topS 26
abbrev N_l_draw : List Str := ["_law_hand_here", "_law_many", "_law_cell", "_law_rest"]
abbrev P_l_draw : List Str := ["_law_hand_here", "_law_many"]
theorem sc_l_draw : FnScope N_l_draw P_l_draw (defScope s_l_draw) := ⟨rfl, rfl, rfl, by decide +kernel, rfl, by decide +kernel, by decide +kernel⟩
abbrev s_l_word : Stmt := topS 27
abbrev N_l_word : List Str := ["_law_hand_here", "_law_size", "_law_word_here", "_law_height", "_law_t", "_law_may_out", "_law_may_down"]
abbrev P_l_word : List Str := ["_law_hand_here", "_law_size"]
theorem sc_l_word : FnScope N_l_word P_l_word (defScope s_l_word) := ⟨rfl, rfl, rfl, by decide +kernel, rfl, by decide +kernel, by decide +kernel⟩
abbrev s_l_all_words : Stmt := topS 28
abbrev N_l_all_words : List Str := ["_law_size", "_law_words", "_law_t", "_law_longer", "_law_word_here"]
abbrev P_l_all_words : List Str := ["_law_size"]
theorem sc_l_all_words : FnScope N_l_all_words P_l_all_words (defScope s_l_all_words) := ⟨rfl, rfl, rfl, by decide +kernel, rfl, by decide +kernel, by decide +kernel⟩
abbrev s_l_refused : Stmt := topS 29
abbrev N_l_refused : List Str := ["_law_way", "_law_size", "_law_number", "_law_told", "e"]
abbrev P_l_refused : List Str := ["_law_way", "_law_size", "_law_number"]
theorem sc_l_refused : FnScope N_l_refused P_l_refused (defScope s_l_refused) := ⟨rfl, rfl, rfl, by decide +kernel, rfl, by decide +kernel, by decide +kernel⟩
abbrev s_law : Stmt := topS 30
abbrev N_law : List Str := ["_law_script", "_law_hand_here", "_law_size", "_law_words", "_law_drawn", "_law_turn", "_law_told", "_law_many", "_law_number", "_law_far", "_law_odd", "_law_way", "_law_column", "_law_k"]
abbrev P_law : List Str := ["_law_script"]
theorem sc_law : FnScope N_law P_law (defScope s_law) := ⟨rfl, rfl, rfl, by decide +kernel, rfl, by decide +kernel, by decide +kernel⟩
abbrev s_NoSuch___init__ : Stmt := inClass (topS 4) 0
abbrev N_NoSuch___init__ : List Str := ["self", "number"]
abbrev P_NoSuch___init__ : List Str := ["self", "number"]
theorem sc_NoSuch___init__ : FnScope N_NoSuch___init__ P_NoSuch___init__ (defScope s_NoSuch___init__) := ⟨rfl, rfl, rfl, by decide +kernel, rfl, by decide +kernel, by decide +kernel⟩
abbrev s_BadSize___init__ : Stmt := inClass (topS 5) 0
abbrev N_BadSize___init__ : List Str := ["self", "size"]
abbrev P_BadSize___init__ : List Str := ["self", "size"]
theorem sc_BadSize___init__ : FnScope N_BadSize___init__ P_BadSize___init__ (defScope s_BadSize___init__) := ⟨rfl, rfl, rfl, by decide +kernel, rfl, by decide +kernel, by decide +kernel⟩
abbrev s_BadColumn___init__ : Stmt := inClass (topS 6) 0
abbrev N_BadColumn___init__ : List Str := ["self", "what"]
abbrev P_BadColumn___init__ : List Str := ["self", "what"]
theorem sc_BadColumn___init__ : FnScope N_BadColumn___init__ P_BadColumn___init__ (defScope s_BadColumn___init__) := ⟨rfl, rfl, rfl, by decide +kernel, rfl, by decide +kernel, by decide +kernel⟩
abbrev s_BadBoundary___init__ : Stmt := inClass (topS 7) 0
abbrev N_BadBoundary___init__ : List Str := ["self", "boundary"]
abbrev P_BadBoundary___init__ : List Str := ["self", "boundary"]
theorem sc_BadBoundary___init__ : FnScope N_BadBoundary___init__ P_BadBoundary___init__ (defScope s_BadBoundary___init__) := ⟨rfl, rfl, rfl, by decide +kernel, rfl, by decide +kernel, by decide +kernel⟩
abbrev s_Column___init__ : Stmt := inClass (topS 13) 0
abbrev N_Column___init__ : List Str := ["self", "word", "fault"]
abbrev P_Column___init__ : List Str := ["self", "word"]
theorem sc_Column___init__ : FnScope N_Column___init__ P_Column___init__ (defScope s_Column___init__) := ⟨rfl, rfl, rfl, by decide +kernel, rfl, by decide +kernel, by decide +kernel⟩
abbrev s_Column_many : Stmt := inClass (topS 13) 2
abbrev N_Column_many : List Str := ["self", "letter", "boundary"]
abbrev P_Column_many : List Str := ["self", "letter", "boundary"]
theorem sc_Column_many : FnScope N_Column_many P_Column_many (defScope s_Column_many) := ⟨rfl, rfl, rfl, by decide +kernel, rfl, by decide +kernel, by decide +kernel⟩
abbrev s_Column_height : Stmt := inClass (topS 13) 4
abbrev N_Column_height : List Str := ["self", "boundary"]
abbrev P_Column_height : List Str := ["self", "boundary"]
theorem sc_Column_height : FnScope N_Column_height P_Column_height (defScope s_Column_height) := ⟨rfl, rfl, rfl, by decide +kernel, rfl, by decide +kernel, by decide +kernel⟩
abbrev s_Column___eq__ : Stmt := inClass (topS 13) 12
abbrev N_Column___eq__ : List Str := ["self", "other"]
abbrev P_Column___eq__ : List Str := ["self", "other"]
theorem sc_Column___eq__ : FnScope N_Column___eq__ P_Column___eq__ (defScope s_Column___eq__) := ⟨rfl, rfl, rfl, by decide +kernel, rfl, by decide +kernel, by decide +kernel⟩
abbrev s_Column___str__ : Stmt := inClass (topS 13) 13
abbrev N_Column___str__ : List Str := ["self"]
abbrev P_Column___str__ : List Str := ["self"]
theorem sc_Column___str__ : FnScope N_Column___str__ P_Column___str__ (defScope s_Column___str__) := ⟨rfl, rfl, rfl, by decide +kernel, rfl, by decide +kernel, by decide +kernel⟩
abbrev s_Column___len__ : Stmt := inClass (topS 13) 14
abbrev N_Column___len__ : List Str := ["self"]
abbrev P_Column___len__ : List Str := ["self"]
theorem sc_Column___len__ : FnScope N_Column___len__ P_Column___len__ (defScope s_Column___len__) := ⟨rfl, rfl, rfl, by decide +kernel, rfl, by decide +kernel, by decide +kernel⟩
abbrev s_Column___iter__ : Stmt := inClass (topS 13) 15
abbrev N_Column___iter__ : List Str := ["self"]
abbrev P_Column___iter__ : List Str := ["self"]
theorem sc_Column___iter__ : FnScope N_Column___iter__ P_Column___iter__ (defScope s_Column___iter__) := ⟨rfl, rfl, rfl, by decide +kernel, rfl, by decide +kernel, by decide +kernel⟩
structure Ads where
  f_is_number : Addr
  d_is_number : FuncData
  f_is_whole : Addr
  d_is_whole : FuncData
  f_word_fault : Addr
  d_word_fault : FuncData
  f_check_size : Addr
  d_check_size : FuncData
  f_ways_home : Addr
  d_ways_home : FuncData
  f_how_many_columns : Addr
  d_how_many_columns : FuncData
  f_all_columns : Addr
  d_all_columns : FuncData
  f_column_index : Addr
  d_column_index : FuncData
  f_column_at : Addr
  d_column_at : FuncData
  f_plain_column : Addr
  d_plain_column : FuncData
  f_steep_column : Addr
  d_steep_column : FuncData
  f_l_mix : Addr
  d_l_mix : FuncData
  f_l_hand : Addr
  d_l_hand : FuncData
  f_l_draw : Addr
  d_l_draw : FuncData
  f_l_word : Addr
  d_l_word : FuncData
  f_l_all_words : Addr
  d_l_all_words : FuncData
  f_l_refused : Addr
  d_l_refused : FuncData
  f_law : Addr
  d_law : FuncData
  f_NoSuch___init__ : Addr
  d_NoSuch___init__ : FuncData
  f_BadSize___init__ : Addr
  d_BadSize___init__ : FuncData
  f_BadColumn___init__ : Addr
  d_BadColumn___init__ : FuncData
  f_BadBoundary___init__ : Addr
  d_BadBoundary___init__ : FuncData
  f_Column___init__ : Addr
  d_Column___init__ : FuncData
  f_Column_many : Addr
  d_Column_many : FuncData
  f_Column_height : Addr
  d_Column_height : FuncData
  f_Column___eq__ : Addr
  d_Column___eq__ : FuncData
  f_Column___str__ : Addr
  d_Column___str__ : FuncData
  f_Column___len__ : Addr
  d_Column___len__ : FuncData
  f_Column___iter__ : Addr
  d_Column___iter__ : FuncData
  C_CardError : Addr
  C_NoSuch : Addr
  C_BadSize : Addr
  C_BadColumn : Addr
  C_BadBoundary : Addr
  C_Column : Addr
structure Top (K : PySem.W.Frag) (mg : Str → Option Value) (A : Ads) : Prop where
  D_is_number : DefAt K mg "is_number" s_is_number P_is_number A.f_is_number A.d_is_number
  D_is_whole : DefAt K mg "is_whole" s_is_whole P_is_whole A.f_is_whole A.d_is_whole
  D_word_fault : DefAt K mg "word_fault" s_word_fault P_word_fault A.f_word_fault A.d_word_fault
  D_check_size : DefAt K mg "check_size" s_check_size P_check_size A.f_check_size A.d_check_size
  D_ways_home : DefAt K mg "ways_home" s_ways_home P_ways_home A.f_ways_home A.d_ways_home
  D_how_many_columns : DefAt K mg "how_many_columns" s_how_many_columns P_how_many_columns A.f_how_many_columns A.d_how_many_columns
  D_all_columns : DefAt K mg "all_columns" s_all_columns P_all_columns A.f_all_columns A.d_all_columns
  D_column_index : DefAt K mg "column_index" s_column_index P_column_index A.f_column_index A.d_column_index
  D_column_at : DefAt K mg "column_at" s_column_at P_column_at A.f_column_at A.d_column_at
  D_plain_column : DefAt K mg "plain_column" s_plain_column P_plain_column A.f_plain_column A.d_plain_column
  D_steep_column : DefAt K mg "steep_column" s_steep_column P_steep_column A.f_steep_column A.d_steep_column
  D_l_mix : DefAt K mg "_law_mix" s_l_mix P_l_mix A.f_l_mix A.d_l_mix
  D_l_hand : DefAt K mg "_law_hand" s_l_hand P_l_hand A.f_l_hand A.d_l_hand
  D_l_draw : DefAt K mg "_law_draw" s_l_draw P_l_draw A.f_l_draw A.d_l_draw
  D_l_word : DefAt K mg "_law_word" s_l_word P_l_word A.f_l_word A.d_l_word
  D_l_all_words : DefAt K mg "_law_all_words" s_l_all_words P_l_all_words A.f_l_all_words A.d_l_all_words
  D_l_refused : DefAt K mg "_law_refused" s_l_refused P_l_refused A.f_l_refused A.d_l_refused
  D_law : DefAt K mg "law" s_law P_law A.f_law A.d_law
  D_NoSuch___init__ : MetAt K "__init__" "NoSuch.__init__" s_NoSuch___init__ P_NoSuch___init__ A.f_NoSuch___init__ A.d_NoSuch___init__
  D_BadSize___init__ : MetAt K "__init__" "BadSize.__init__" s_BadSize___init__ P_BadSize___init__ A.f_BadSize___init__ A.d_BadSize___init__
  D_BadColumn___init__ : MetAt K "__init__" "BadColumn.__init__" s_BadColumn___init__ P_BadColumn___init__ A.f_BadColumn___init__ A.d_BadColumn___init__
  D_BadBoundary___init__ : MetAt K "__init__" "BadBoundary.__init__" s_BadBoundary___init__ P_BadBoundary___init__ A.f_BadBoundary___init__ A.d_BadBoundary___init__
  D_Column___init__ : MetAt K "__init__" "Column.__init__" s_Column___init__ P_Column___init__ A.f_Column___init__ A.d_Column___init__
  D_Column_many : MetAt K "many" "Column.many" s_Column_many P_Column_many A.f_Column_many A.d_Column_many
  D_Column_height : MetAt K "height" "Column.height" s_Column_height P_Column_height A.f_Column_height A.d_Column_height
  D_Column___eq__ : MetAt K "__eq__" "Column.__eq__" s_Column___eq__ P_Column___eq__ A.f_Column___eq__ A.d_Column___eq__
  D_Column___str__ : MetAt K "__str__" "Column.__str__" s_Column___str__ P_Column___str__ A.f_Column___str__ A.d_Column___str__
  D_Column___len__ : MetAt K "__len__" "Column.__len__" s_Column___len__ P_Column___len__ A.f_Column___len__ A.d_Column___len__
  D_Column___iter__ : MetAt K "__iter__" "Column.__iter__" s_Column___iter__ P_Column___iter__ A.f_Column___iter__ A.d_Column___iter__
  g_CardError : mg "CardError" = some (.ref A.C_CardError)
  ns_CardError : PySem.W.subIn K (.ref A.C_CardError) (.type "StopIteration") = some false
  x_NoSuch : ExC K mg "NoSuch" A.C_NoSuch A.f_NoSuch___init__
  g_NoSuch : mg "NoSuch" = some (.ref A.C_NoSuch)
  n_NoSuch_number : PySem.W.findIn K (.ref A.C_NoSuch) "number" = some none
  ns_NoSuch : PySem.W.subIn K (.ref A.C_NoSuch) (.type "StopIteration") = some false
  ex_NoSuch_BadSize : PySem.W.exmOne K (.ref A.C_NoSuch) (.ref A.C_BadSize) = some false
  ex_NoSuch_NoSuch : PySem.W.exmOne K (.ref A.C_NoSuch) (.ref A.C_NoSuch) = some true
  up_NoSuch_CardError : PySem.W.exmOne K (.ref A.C_NoSuch) (.ref A.C_CardError) = some true
  x_BadSize : ExC K mg "BadSize" A.C_BadSize A.f_BadSize___init__
  g_BadSize : mg "BadSize" = some (.ref A.C_BadSize)
  n_BadSize_size : PySem.W.findIn K (.ref A.C_BadSize) "size" = some none
  ns_BadSize : PySem.W.subIn K (.ref A.C_BadSize) (.type "StopIteration") = some false
  ex_BadSize_BadSize : PySem.W.exmOne K (.ref A.C_BadSize) (.ref A.C_BadSize) = some true
  ex_BadSize_NoSuch : PySem.W.exmOne K (.ref A.C_BadSize) (.ref A.C_NoSuch) = some false
  up_BadSize_CardError : PySem.W.exmOne K (.ref A.C_BadSize) (.ref A.C_CardError) = some true
  x_BadColumn : ExC K mg "BadColumn" A.C_BadColumn A.f_BadColumn___init__
  g_BadColumn : mg "BadColumn" = some (.ref A.C_BadColumn)
  n_BadColumn_what : PySem.W.findIn K (.ref A.C_BadColumn) "what" = some none
  ns_BadColumn : PySem.W.subIn K (.ref A.C_BadColumn) (.type "StopIteration") = some false
  ex_BadColumn_BadSize : PySem.W.exmOne K (.ref A.C_BadColumn) (.ref A.C_BadSize) = some false
  ex_BadColumn_NoSuch : PySem.W.exmOne K (.ref A.C_BadColumn) (.ref A.C_NoSuch) = some false
  up_BadColumn_CardError : PySem.W.exmOne K (.ref A.C_BadColumn) (.ref A.C_CardError) = some true
  x_BadBoundary : ExC K mg "BadBoundary" A.C_BadBoundary A.f_BadBoundary___init__
  g_BadBoundary : mg "BadBoundary" = some (.ref A.C_BadBoundary)
  n_BadBoundary_boundary : PySem.W.findIn K (.ref A.C_BadBoundary) "boundary" = some none
  ns_BadBoundary : PySem.W.subIn K (.ref A.C_BadBoundary) (.type "StopIteration") = some false
  ex_BadBoundary_BadSize : PySem.W.exmOne K (.ref A.C_BadBoundary) (.ref A.C_BadSize) = some false
  ex_BadBoundary_NoSuch : PySem.W.exmOne K (.ref A.C_BadBoundary) (.ref A.C_NoSuch) = some false
  up_BadBoundary_CardError : PySem.W.exmOne K (.ref A.C_BadBoundary) (.ref A.C_CardError) = some true
  g_Column : mg "Column" = some (.ref A.C_Column)
  cl_Column : Cls K A.C_Column
  i1_Column : PySem.W.findIn K (.ref A.C_Column) "__class__" = some (some (.builtin "object.__class__"))
  i4_Column : PySem.W.mroIn K A.C_Column (.type "object") = some true
  ii_Column : PySem.W.kitOne K (.ref A.C_Column) (.ref A.C_Column) = some true
  it_str_Column : PySem.W.kitOne K (.type "str") (.ref A.C_Column) = some false
  it_int_Column : PySem.W.kitOne K (.type "int") (.ref A.C_Column) = some false
  it_bool_Column : PySem.W.kitOne K (.type "bool") (.ref A.C_Column) = some false
  it_NoneType_Column : PySem.W.kitOne K (.type "NoneType") (.ref A.C_Column) = some false
  it_list_Column : PySem.W.kitOne K (.type "list") (.ref A.C_Column) = some false
  it_tuple_Column : PySem.W.kitOne K (.type "tuple") (.ref A.C_Column) = some false
  it_dict_Column : PySem.W.kitOne K (.type "dict") (.ref A.C_Column) = some false
  ti_Column_str : PySem.W.kitOne K (.ref A.C_Column) (.type "str") = some false
  ti_Column_int : PySem.W.kitOne K (.ref A.C_Column) (.type "int") = some false
  ti_Column_bool : PySem.W.kitOne K (.ref A.C_Column) (.type "bool") = some false
  ti_Column_list : PySem.W.kitOne K (.ref A.C_Column) (.type "list") = some false
  ti_Column_tuple : PySem.W.kitOne K (.ref A.C_Column) (.type "tuple") = some false
  subt_Column : PySem.W.subIn K (.type "tuple") (.ref A.C_Column) = some false
  subl_Column : PySem.W.subIn K (.type "list") (.ref A.C_Column) = some false
  sub_Column : PySem.W.subIn K (.type "str") (.ref A.C_Column) = some false
  ne_Column : NeC K A.C_Column
  mk_Column : Mk K A.C_Column A.f_Column___init__
  n_Column_word : NoAttr K A.C_Column "word"
  n_Column_size : NoAttr K A.C_Column "size"
  o_Column_many : OwnM K A.C_Column "many" A.f_Column_many
  m_Column_many : Meth K A.C_Column "many" A.f_Column_many
  o_Column_height : OwnM K A.C_Column "height" A.f_Column_height
  m_Column_height : Meth K A.C_Column "height" A.f_Column_height
  o_Column___eq__ : OwnM K A.C_Column "__eq__" A.f_Column___eq__
  m_Column___eq__ : Meth K A.C_Column "__eq__" A.f_Column___eq__
  o_Column___str__ : OwnM K A.C_Column "__str__" A.f_Column___str__
  m_Column___str__ : Meth K A.C_Column "__str__" A.f_Column___str__
  o_Column___len__ : OwnM K A.C_Column "__len__" A.f_Column___len__
  m_Column___len__ : Meth K A.C_Column "__len__" A.f_Column___len__
  o_Column___iter__ : OwnM K A.C_Column "__iter__" A.f_Column___iter__
  m_Column___iter__ : Meth K A.C_Column "__iter__" A.f_Column___iter__
  c_MOST_SIZE : ∃ t, mg "MOST_SIZE" = some (.int 6 t)
  i2 : PySem.W.specialIn K (.builtin "object.__class__") "__get__" = some (some (.builtin "getset_descriptor.__get__"))
  i3 : PySem.W.takesIn K (.builtin "object.__class__") = some true
  b_ValueError : mg "ValueError" = none
  b_abs : mg "abs" = none
  b_all : mg "all" = none
  b_bool : mg "bool" = none
  b_enumerate : mg "enumerate" = none
  b_int : mg "int" = none
  b_isinstance : mg "isinstance" = none
  b_iter : mg "iter" = none
  b_len : mg "len" = none
  b_list : mg "list" = none
  b_property : mg "property" = none
  b_range : mg "range" = none
  b_staticmethod : mg "staticmethod" = none
  b_str : mg "str" = none
  im_comb : mg "comb" = some (.builtin "math.comb")


namespace Vv
/-! the hand's draws -/
def mixI (n t : Int) : Int :=
  let a := (n * 48271 + t * 16807 + 11) % 2147483647
  let b := (a * a + a / 127 * 40692 + t * 69621) % 2147483399
  (b * b / 1009 + a) % 2147483563 / 16
def hsOk (st : HS) : Bool := decide (st.pos ≤ 63) && (decide (st.cells.length ≤ 63) && (st.cells.all (fun c => decide (0 ≤ c)) && (decide (0 ≤ st.pend) && (decide (0 ≤ st.tot) && decide (st.tot < 2147483629)))))
theorem hsOk_iff {st : HS} : hsOk st = true ↔ st.pos ≤ 63 ∧ st.cells.length ≤ 63 ∧ (∀ c ∈ st.cells, 0 ≤ c) ∧ 0 ≤ st.pend ∧ 0 ≤ st.tot ∧ st.tot < 2147483629 := by
  unfold hsOk
  simp only [Bool.and_eq_true, decide_eq_true_eq, List.all_eq_true]
def tailF (m : Int) (st : HS) : Int × HS :=
  if 0 < st.pend then (st.pend % m, { st with pend := st.pend / m })
  else (mixI ((st.tot + 1) % 2147483629) st.pos % m, { st with tot := (st.tot + 1) % 2147483629 })
theorem tail_pos {m : Int} {st : HS} (h : 0 < st.pend) : tailF m st = (st.pend % m, { st with pend := st.pend / m }) := if_pos h
theorem tail_neg {m : Int} {st : HS} (h : ¬ 0 < st.pend) : tailF m st = (mixI ((st.tot + 1) % 2147483629) st.pos % m, { st with tot := (st.tot + 1) % 2147483629 }) := if_neg h
def drawF (m : Int) (st : HS) : Int × HS :=
  if st.pend = 0 then match st.cells[st.pos]? with
    | some c => if c < 10 ^ 18 then (mixI (c % 2147483647) ((st.pos : Int) + 1) % m, { st with pos := st.pos + 1 }) else tailF m { st with pos := st.pos + 1, pend := c }
    | none => tailF m st
  else tailF m st
def F_l_draw : List D → S → R D
  | [.int m], some st => if hsOk st && (decide (0 < m) && decide (m < 1152921504606846976)) then .ok (.int (drawF m st).1) (some (drawF m st).2) else .bad
  | _, _ => .bad
theorem tail_ok {m : Int} {st : HS} (h : hsOk st = true) (hm : 0 < m) : (0 ≤ (tailF m st).1 ∧ (tailF m st).1 < m) ∧ hsOk (tailF m st).2 = true := by
  rw [hsOk_iff] at h
  obtain ⟨h1, h2, h3, h4, h5, h6⟩ := h
  unfold tailF
  split
  · refine ⟨⟨Int.emod_nonneg _ (by omega), Int.emod_lt_of_pos _ hm⟩, hsOk_iff.mpr ⟨h1, h2, h3, Int.ediv_nonneg (by omega) (by omega), h5, h6⟩⟩
  · refine ⟨⟨Int.emod_nonneg _ (by omega), Int.emod_lt_of_pos _ hm⟩, hsOk_iff.mpr ⟨h1, h2, h3, h4, Int.emod_nonneg _ (by omega), Int.emod_lt_of_pos _ (by omega)⟩⟩
theorem draw_ok {m : Int} {st : HS} (h : hsOk st = true) (hm : 0 < m) (hl : m < 1152921504606846976) : ∃ d st', F_l_draw [.int m] (some st) = .ok (.int d) (some st') ∧ 0 ≤ d ∧ d < m ∧ hsOk st' = true := by
  refine ⟨(drawF m st).1, (drawF m st).2, if_pos (by rw [h, decide_eq_true hm, decide_eq_true hl]; rfl), ?_⟩
  unfold drawF
  have h' := h
  rw [hsOk_iff] at h'
  obtain ⟨h1, h2, h3, h4, h5, h6⟩ := h'
  split
  · split
    · rename_i c e
      have hp := (List.getElem?_eq_some_iff.mp e).1
      split
      · exact ⟨Int.emod_nonneg _ (by omega), Int.emod_lt_of_pos _ hm, hsOk_iff.mpr ⟨by dsimp only; omega, h2, h3, h4, h5, h6⟩⟩
      · have hc := h3 c (List.mem_of_getElem? e)
        have z := tail_ok (m := m) (st := { st with pos := st.pos + 1, pend := c }) (hsOk_iff.mpr ⟨by dsimp only; omega, h2, h3, hc, h5, h6⟩) hm
        exact ⟨z.1.1, z.1.2, z.2⟩
    · have z := tail_ok h hm
      exact ⟨z.1.1, z.1.2, z.2⟩
  · have z := tail_ok h hm
    exact ⟨z.1.1, z.1.2, z.2⟩
end Vv
section
open Vv
variable {P : Program} {w : World} {K : PySem.W.Frag} {mg : Str → Option Value} {base : Heap} {AD : Ads}
def spMixX : Sp := fun vs H Q _ => ∃ n t : Int, vs = [.int n, .int t] ∧ (0 ≤ n ∧ n < 2147483648) ∧ (0 ≤ t ∧ t < 1000) ∧ Q (.int (mixI n t)) H
theorem okx_l_mix (T : Top K mg AD) : FnOk P w K mg base CX0 1 AD.f_l_mix AD.d_l_mix P_l_mix spMixX := by
  refine T.D_l_mix.F.ok sc_l_mix (fun vs H Q E h => ?_) (fun cdv A outer s H vs Q E hr h => ?_)
  · obtain ⟨n, t, rfl, _⟩ := h
    rfl
  · obtain ⟨n, t, rfl, hn, ht, q⟩ := h
    refine ⟨_, (pss_cons (ps_set (i := 2) sc_l_mix.nd rfl (Or.inl rfl) (pe_op op_mod (pe_callTy call_int1 (by rfl) T.b_int (by decide +kernel) (pa_cons (pe_op op_add (pe_op op_add (pe_op op_mul (pv 0) pe_int) (pe_op op_mul (pv 1) pe_int)) pe_int) pa_nil)) pe_int))
    (pss_cons (ps_set (i := 3) sc_l_mix.nd rfl (Or.inl rfl) (pe_op op_mod (pe_callTy call_int1 (by rfl) T.b_int (by decide +kernel) (pa_cons (pe_op op_add (pe_op op_add (pe_op op_mul (pv 2) (pv 2)) (pe_op op_mul (pe_op op_fdiv (pv 2) pe_int) pe_int)) (pe_op op_mul (pv 1) pe_int)) pa_nil)) pe_int))
    (pss_one (ps_ret (pe_op op_fdiv (pe_op op_mod (pe_callTy call_int1 (by rfl) T.b_int (by decide +kernel) (pa_cons (pe_op op_add (pe_op op_fdiv (pe_op op_mul (pv 3) (pv 3)) pe_int) (pv 2)) pa_nil)) pe_int) pe_int))))), ?_⟩
    walk_at "go"
    exact q
/-- as StepH, at the heap's own level -/
def spDrawX : Sp := fun vs H Q _ => ∃ (a l : Addr) (m : Int) (st : HS), vs = [.ref a, .int m] ∧ HandAt H a l st ∧ hsOk st = true ∧ (0 < m ∧ m < 1152921504606846976) ∧ ∀ H', But a H H' → (∀ b, H b = none → H' b = none) → HandAt H' a l (drawF m st).2 → Q (.int (drawF m st).1) H'
theorem handBut {H H' : Hp} {a l : Addr} {st st' : HS} (h : HandAt H a l st) (b : But a H H') (ea : H' a = some (.lst [.ref l, .int st'.pos, .int st'.pend, .int st'.tot])) (ec : st'.cells = st.cells) : HandAt H' a l st' := ⟨ea, by rw [ec]; exact b l _ (Ne.symm h.ne) h.el, h.ne⟩
theorem upd_gone {H H1 : Hp} {a : Addr} {o u : HO} (ea : H a = some u) (n : ∀ b, H b = none → H1 b = none) : ∀ b, H b = none → upd H1 a o b = none := fun b e => by
  rw [upd_ne (fun z => by rw [z, ea] at e; cases e)]
  exact n b e
theorem okx_l_draw (T : Top K mg AD) : FnOk P w K mg base (L2.CX P w) 2 AD.f_l_draw AD.d_l_draw P_l_draw spDrawX := by
  refine T.D_l_draw.F.okX sc_l_draw (fun vs H Q E h => ?_) (fun cdv A outer s H vs Q E hr h => ?_)
  · obtain ⟨n, l, t, st, rfl, _⟩ := h
    rfl
  · obtain ⟨a, l, m, st, rfl, hA, hok, ⟨hm, hml⟩, q⟩ := h
    refine ⟨_, (pss_cons (ps_if (PW.pt (pw_and (pt_cmpR op_eq (pe_ix (ix_listK (K := K) rfl) (pv 0) pe_int (fun _ _ => rfl)) pe_int (nomark _)) (pw_and1 (pt_cmpR op_lt (pe_ix (ix_listK (K := K) rfl) (pv 0) pe_int (fun _ _ => rfl)) (pe_callB (call_lenQ (K := K) rfl) (by rfl) T.b_len (by decide +kernel) (pa_cons (pe_ix (ix_listK (K := K) rfl) (pv 0) pe_int (fun _ _ => rfl)) pa_nil)) (nomark _)))))
    (pss_cons (ps_set (i := 2) sc_l_draw.nd rfl (Or.inl rfl) (pe_ix (ix_listK (K := K) rfl) (pe_ix (ix_listK (K := K) rfl) (pv 0) pe_int (fun _ _ => rfl)) (pe_ix (ix_listK (K := K) rfl) (pv 0) pe_int (fun _ _ => rfl)) (fun _ _ => rfl)))
    (pss_cons (ps_asg (pe_op op_add (pe_ix (ix_listK (K := K) rfl) (pv 0) pe_int (fun _ _ => rfl)) pe_int) (pg_sub (pv 0) pe_int set_list))
    (pss_cons (ps_if (pt_cmpR op_lt (pv 2) (pe_op op_pow pe_int pe_int) (nomark _))
    (pss_one (ps_ret (pe_op op_mod (pe_callTy call_int1 (by rfl) T.b_int (by decide +kernel) (pa_cons (callD T.D_l_mix (okx_l_mix T) hr (pa_cons (pe_op op_mod (pe_callTy call_int1 (by rfl) T.b_int (by decide +kernel) (pa_cons (pv 2) pa_nil)) pe_int) (pa_cons (pe_ix (ix_listK (K := K) rfl) (pv 0) pe_int (fun _ _ => rfl)) pa_nil))) pa_nil)) (pv 1))))
    pss_nil)
    (pss_one (ps_asg (pv 2) (pg_sub (pv 0) pe_int set_list))))))
    pss_nil)
    (pss_cons (ps_if (pt_cmpR op_gt (pe_ix (ix_listK (K := K) rfl) (pv 0) pe_int (fun _ _ => rfl)) pe_int (nomark _))
    (pss_cons (ps_set (i := 3) sc_l_draw.nd rfl (Or.inl rfl) (pe_ix (ix_listK (K := K) rfl) (pv 0) pe_int (fun _ _ => rfl)))
    (pss_cons (ps_asg (pe_op op_fdivW (pv 3) (pv 1)) (pg_sub (pv 0) pe_int set_list))
    (pss_one (ps_ret (pe_op op_mod (pe_callTy call_int1 (by rfl) T.b_int (by decide +kernel) (pa_cons (pv 3) pa_nil)) (pv 1))))))
    pss_nil)
    (pss_cons (ps_asg (pe_op op_mod (pe_callTy call_int1 (by rfl) T.b_int (by decide +kernel) (pa_cons (pe_op op_add (pe_ix (ix_listK (K := K) rfl) (pv 0) pe_int (fun _ _ => rfl)) pe_int) pa_nil)) pe_int) (pg_sub (pv 0) pe_int set_list))
    (pss_one (ps_ret (pe_op op_mod (pe_callTy call_int1 (by rfl) T.b_int (by decide +kernel) (pa_cons (callD T.D_l_mix (okx_l_mix T) hr (pa_cons (pe_ix (ix_listK (K := K) rfl) (pv 0) pe_int (fun _ _ => rfl)) (pa_cons (pe_ix (ix_listK (K := K) rfl) (pv 0) pe_int (fun _ _ => rfl)) pa_nil))) pa_nil)) (pv 1))))))), ?_⟩
    have ea := hA.ea
    have el := hA.el
    have hal := hA.ne
    obtain ⟨hp, hl, hc, hpe, ht0, ht1⟩ := hsOk_iff.mp hok
    walk_at "go"
    refine ite2 (fun e => ?_) (fun e => ?_)
    · have e0 : st.pend = 0 := V.int.inj (of_decide_eq_true e)
      walk_at "go"
      refine ite2 (fun e2 => ?_) (fun e2 => ?_)
      · have e3 := of_decide_eq_true e2
        rw [List.length_map] at e3
        have e4 : st.pos < st.cells.length := by omega
        have hce : 0 ≤ st.cells[st.pos] := hc _ (List.getElem_mem e4)
        have e6 : st.cells[st.pos]? = some st.cells[st.pos] := List.getElem?_eq_getElem e4
        walk_at "go"
        refine ⟨_, _, _, _, rfl, rfl, SqL.of el, atI_nat (j := st.pos) (v := .int st.cells[st.pos]) (by simp [e4]), ?_⟩
        walk_at "go"
        refine ite2 (fun e5 => ?_) (fun e5 => ?_)
        · walk_at "go"
          refine ⟨_, _, rfl, ⟨by omega, by omega⟩, ⟨by omega, by omega⟩, ?_⟩
          walk_at "go"
          have e7 : drawF m st = (mixI (st.cells[st.pos] % 2147483647) ((st.pos : Int) + 1) % m, { st with pos := st.pos + 1 }) := by
            unfold drawF
            rw [if_pos e0, e6]
            exact if_pos (of_decide_eq_true e5)
          rw [e7] at q
          exact q _ (by repeat (first | exact But.refl a _ | refine But.upd ?_)) (by repeat (first | exact fun _ z => z | refine upd_gone ea ?_)) (handBut hA (by repeat (first | exact But.refl a _ | refine But.upd ?_)) upd_same rfl)
        · walk_at "go"
          have e7 : drawF m st = tailF m { st with pos := st.pos + 1, pend := st.cells[st.pos] } := by
            unfold drawF
            rw [if_pos e0, e6]
            exact if_neg (fun z => e5 (decide_eq_true z))
          rw [e7] at q
          walk_at "go"
          refine ite2 (fun e => ?_) (fun e => ?_)
          · have e0 := of_decide_eq_true e
            walk_at "go"
            try refine And.intro (cdivw hm hml) ?_
            walk_at "go"
            rw [tail_pos e0] at q
            exact q _ (by repeat (first | exact But.refl a _ | refine But.upd ?_)) (by repeat (first | exact fun _ z => z | refine upd_gone ea ?_)) (handBut hA (by repeat (first | exact But.refl a _ | refine But.upd ?_)) upd_same rfl)
          · have e0 : ¬ 0 < ({ st with pos := st.pos + 1, pend := st.cells[st.pos] } : HS).pend := fun z => e (decide_eq_true z)
            walk_at "go"
            refine ⟨_, _, rfl, ⟨by omega, by omega⟩, ⟨by omega, by omega⟩, ?_⟩
            walk_at "go"
            rw [tail_neg e0] at q
            exact q _ (by repeat (first | exact But.refl a _ | refine But.upd ?_)) (by repeat (first | exact fun _ z => z | refine upd_gone ea ?_)) (handBut hA (by repeat (first | exact But.refl a _ | refine But.upd ?_)) upd_same rfl)
      · have e3 : ¬ st.pos < st.cells.length := fun z => e2 (decide_eq_true (by rw [List.length_map]; omega))
        have e7 : drawF m st = tailF m st := by
          unfold drawF
          rw [if_pos e0, List.getElem?_eq_none (by omega)]
        rw [e7] at q
        walk_at "go"
        refine ite2 (fun e => ?_) (fun e => ?_)
        · have e0 := of_decide_eq_true e
          walk_at "go"
          try refine And.intro (cdivw hm hml) ?_
          walk_at "go"
          rw [tail_pos e0] at q
          exact q _ (by repeat (first | exact But.refl a _ | refine But.upd ?_)) (by repeat (first | exact fun _ z => z | refine upd_gone ea ?_)) (handBut hA (by repeat (first | exact But.refl a _ | refine But.upd ?_)) upd_same rfl)
        · have e0 : ¬ 0 < st.pend := fun z => e (decide_eq_true z)
          walk_at "go"
          refine ⟨_, _, rfl, ⟨by omega, by omega⟩, ⟨by omega, by omega⟩, ?_⟩
          walk_at "go"
          rw [tail_neg e0] at q
          exact q _ (by repeat (first | exact But.refl a _ | refine But.upd ?_)) (by repeat (first | exact fun _ z => z | refine upd_gone ea ?_)) (handBut hA (by repeat (first | exact But.refl a _ | refine But.upd ?_)) upd_same rfl)
    · have e0 : ¬ st.pend = 0 := fun z => e (decide_eq_true (congrArg V.int z))
      have e7 : drawF m st = tailF m st := by
        unfold drawF
        rw [if_neg e0]
      rw [e7] at q
      walk_at "go"
      refine ite2 (fun e => ?_) (fun e => ?_)
      · have e0 := of_decide_eq_true e
        walk_at "go"
        try refine And.intro (cdivw hm hml) ?_
        walk_at "go"
        rw [tail_pos e0] at q
        exact q _ (by repeat (first | exact But.refl a _ | refine But.upd ?_)) (by repeat (first | exact fun _ z => z | refine upd_gone ea ?_)) (handBut hA (by repeat (first | exact But.refl a _ | refine But.upd ?_)) upd_same rfl)
      · have e0 : ¬ 0 < st.pend := fun z => e (decide_eq_true z)
        walk_at "go"
        refine ⟨_, _, rfl, ⟨by omega, by omega⟩, ⟨by omega, by omega⟩, ?_⟩
        walk_at "go"
        rw [tail_neg e0] at q
        exact q _ (by repeat (first | exact But.refl a _ | refine But.upd ?_)) (by repeat (first | exact fun _ z => z | refine upd_gone ea ?_)) (handBut hA (by repeat (first | exact But.refl a _ | refine But.upd ?_)) upd_same rfl)
end

namespace Vv
def BT (K : PySem.W.Frag) (AD : Ads) : Tb where
  K := K
  cls := fun c => match c with
    | 2 => AD.C_CardError
    | 70 => AD.C_NoSuch
    | 29 => AD.C_BadSize
    | 4 => AD.C_BadColumn
    | 5 => AD.C_BadBoundary
    | 0 => AD.C_Column
    | _ => 0
  fld := fun c => match c with
    | 2 => []
    | 70 => ["number"]
    | 29 => ["size"]
    | 4 => ["what"]
    | 5 => ["boundary"]
    | 0 => ["word", "size"]
    | _ => []
def CS : List Nat := [0]
theorem kit {K : PySem.W.Frag} {mg : Str → Option Value} {AD : Ads} (T : Top K mg AD) : KitOk (BT K AD) CS := by
  have mem : ∀ c ∈ CS, c = 0 := fun c h => by simpa [CS] using h
  have kn : ∀ a ∈ kinds, a = "NoneType" ∨ a = "bool" ∨ a = "int" ∨ a = "str" ∨ a = "tuple" ∨ a = "list" ∨ a = "dict" := fun a h => by simpa [kinds] using h
  have as_ : ∀ a ∈ asks, a = "int" ∨ a = "bool" ∨ a = "str" ∨ a = "list" ∨ a = "tuple" := fun a h => by simpa [asks] using h
  refine ⟨fun c hc H a dx fs e => ?_, fun c hc b hb => ?_, fun c hc a ha => ?_, fun c hc d hd => ?_⟩
  · rcases mem c hc with rfl
    · exact .base (.ins e T.cl_Column T.i1_Column T.i2 T.i3 T.i4_Column)
  · rcases mem c hc with rfl
    · rcases as_ b hb with rfl | rfl | rfl | rfl | rfl
      · exact T.ti_Column_int
      · exact T.ti_Column_bool
      · exact T.ti_Column_str
      · exact T.ti_Column_list
      · exact T.ti_Column_tuple
  · rcases mem c hc with rfl
    · rcases kn a ha with rfl | rfl | rfl | rfl | rfl | rfl | rfl
      · exact T.it_NoneType_Column
      · exact T.it_bool_Column
      · exact T.it_int_Column
      · exact T.it_str_Column
      · exact T.it_tuple_Column
      · exact T.it_list_Column
      · exact T.it_dict_Column
  · rcases mem c hc with rfl
    · rcases mem d hd with rfl
      · exact T.ii_Column

end Vv

section
open Vv
variable {P : Program} {w : World} {K : PySem.W.Frag} {mg : Str → Option Value} {base : Heap} {AD : Ads}
theorem v_l_draw (T : Top K mg AD) : FnOk P w K mg base (L2.CX P w) 2 AD.f_l_draw AD.d_l_draw P_l_draw (spH (BT K AD) 1 F_l_draw) := by
  refine (okx_l_draw T).imp fun vs H Q E h => ?_
  obtain ⟨Z, ds, a, l, st, ws, rfl, z, hl, r, hA, za, zl, h⟩ := h
  match ds, hl, r, h with
  | [d], _, .cons (v := v) r .nil, h =>
    cases d with
    | int m =>
      cases r
      unfold F_l_draw at h
      cases hk : (hsOk st && (decide (0 < m) && decide (m < 1152921504606846976))) with
      | false => simp only [hk] at h; exact h.elim
      | true =>
        simp only [hk, if_true] at h
        simp only [Bool.and_eq_true, decide_eq_true_eq] at hk
        refine ⟨a, l, m, st, rfl, hA, hk.1, hk.2, fun H' b n hA' => ?_⟩
        refine h _ Z H' _ rfl ⟨fun b' o hb e => b b' o hb e, Same.refl Z, fun b' o e => ?_, fun _ _ e => .inl e⟩ hA' (.int _)
        exact b b' o (fun q => by rw [q, za] at e; cases e) (z b' o e)
    | _ => exact h.elim
def spHandX (K : PySem.W.Frag) : Sp := fun vs H Q _ => ∃ (a : Addr) (ns : List Int), vs = [.ref a] ∧ SqL K H a (ns.map V.int) ∧ ns.length ≤ 63 ∧ ∀ p l H' st, Same H H' → H p = none → H l = none → HandAt H' p l st → hsOk st = true → Q (.ref p) H'
theorem okx_l_hand (T : Top K mg AD) : FnOk P w K mg base CX0 1 AD.f_l_hand AD.d_l_hand P_l_hand (spHandX K) := by
  refine T.D_l_hand.F.ok sc_l_hand (fun vs H Q E h => ?_) (fun cdv A outer s H vs Q E hr h => ?_)
  · obtain ⟨n, t, rfl, _⟩ := h
    rfl
  · obtain ⟨a, ns, rfl, hS, hlen, q⟩ := h
    refine ⟨_, (pss_cons (ps_set (i := 1) sc_l_hand.nd rfl (Or.inl rfl) pe_int)
    (pss_cons (ps_for PassesOwn.never rfl (pi_enum (by rfl) T.b_enumerate (pa_cons (pv 0) pa_nil)) (pg_tup (by rfl) (pgs_cons (pg_name (i := 2) sc_l_hand.nd rfl (Or.inl rfl)) (pgs_cons (pg_name (i := 3) sc_l_hand.nd rfl (Or.inl rfl)) pgs_nil)))
    (pss_one (ps_set (i := 1) sc_l_hand.nd rfl (Or.inl rfl) (pe_op op_mod (pe_callTy call_int1 (by rfl) T.b_int (by decide +kernel) (pa_cons (pe_op op_add (pe_op op_mul (pv 1) pe_int) (pe_op op_mul (pe_callTy call_int1 (by rfl) T.b_int (by decide +kernel) (pa_cons (pv 3) pa_nil)) (pe_op op_add (pv 2) pe_int))) pa_nil)) pe_int))))
    (pss_one (ps_ret (pe_lst (pa_cons (pe_lc (own := [("_law_cell", 3)]) (g := (gName 3)) (tt := tYes) rfl sc_l_hand.nd (pi_list (pv 0)) (blkOk_by (N := N_l_hand) (sc := defScope s_l_hand) (by decide +kernel)) (fun _ _ _ _ _ => (pg_name (i := 3) sc_l_hand.nd rfl (by first | exact Or.inl rfl | exact Or.inr rfl))) (fun _ _ _ _ _ => pts_nil) (fun _ _ _ _ _ => (pe_callB call_abs (by rfl) T.b_abs (by decide +kernel) (pa_cons (pe_callTy call_int1 (by rfl) T.b_int (by decide +kernel) (pa_cons (pv 3) pa_nil)) pa_nil)))) (pa_cons pe_int (pa_cons pe_int (pa_cons (pv 1) pa_nil))))))))), ?_⟩
    walk_at "go"
    refine ⟨_, _, rfl, hS, ?_⟩
    refine for_it walk_enum (fun i σ H' => ∃ tot o2 o3, σ = [some (.ref a), some (.int tot), o2, o3] ∧ (0 ≤ tot ∧ tot < 2147483629) ∧ Same H H') ⟨0, none, none, rfl, by omega, Same.refl H⟩ (fun i σ H' hi ⟨_, _, _, _, _, s2⟩ => s2.seq hS) ?_ ?_
    · rintro i x σ H1 H2 hi ⟨tot, o2, o3, rfl, ht, s1⟩ ⟨T', x1, x2, rfl, hT, rfl, e1, e2⟩
      rw [List.length_map] at hi
      obtain rfl := Option.some.inj e1
      obtain rfl : V.int ns[i] = x2 := by simpa [hi] using e2
      refine ⟨T', [.int i, .int ns[i]], rfl, .inl (.inl upd_same), rfl, .int i, [.int ns[i]], rfl, .int ns[i], [], rfl, rfl, ?_⟩
      walk_at "go"
      exact ⟨_, _, _, rfl, ⟨by omega, by omega⟩, same_new s1 hT⟩
    · rintro σ H1 ⟨tot, o2, o3, rfl, ht, s1⟩
      walk_at "go"
      refine ⟨⟨_, s1.seq hS⟩, ?_⟩
      intro Dl hD
      refine lc_it (walk_list (xs := ns.map V.int)) (fun i H' => But Dl H1 H' ∧ H' Dl = some (.lst ((ns.take i).map fun z => V.int (if z < 0 then -z else z)))) ⟨But.upd (But.refl _ _), upd_same⟩ (fun i H' hi h => (s1.trans (same_but (Same.refl _) hD h.1)).seq hS) ?_ ?_
      · rintro i x H2 H3 hi ⟨b2, e2⟩ ⟨rfl, ex⟩
        rw [List.length_map] at hi
        obtain rfl : V.int ns[i] = x := by simpa [hi] using ex
        refine ⟨rfl, ?_⟩
        walk_at "go"
        refine ⟨_, e2, ?_, But.upd b2, ?_⟩
        · rw [List.length_map]
          exact small1000 (by have := List.length_take_le i ns; omega)
        · rw [upd_same, List.take_add_one, List.getElem?_eq_getElem hi, List.map_append]
          rfl
      · rintro H2 ⟨b2, e2⟩
        rw [List.length_map, List.take_length] at e2
        have s2 : Same H H2 := s1.trans (same_but (Same.refl _) hD b2)
        walk_at "go"
        refine ⟨(by show 4 ≤ sizeLine; decide), fun p hp => ?_⟩
        have hpd : Dl ≠ p := ne_of_none e2 hp
        refine q p Dl _ ⟨ns.map fun z => if z < 0 then -z else z, 0, 0, tot⟩ (same_new s2 hp) (same_free s2 hp) (same_free s1 hD) ⟨upd_same, ?_, Ne.symm hpd⟩ (hsOk_iff.mpr ⟨by show 0 ≤ 63; decide, by rw [List.length_map]; exact hlen, ?_, Int.le_refl 0, ht⟩)
        · rw [upd_ne hpd, e2, List.map_map]
          rfl
        · intro c hc
          obtain ⟨z, _, rfl⟩ := List.mem_map.mp hc
          split <;> omega
def spLaw (K : PySem.W.Frag) : Sp := fun vs H Q _ => ∃ (a : Addr) (ns : List Int), vs = [.ref a] ∧ SqL K H a (ns.map V.int) ∧ ns.length ≤ 63 ∧ ∀ H', Q (.bl true) H'
end

section
open Vv
variable {P : Program} {w : World} {K : PySem.W.Frag} {mg : Str → Option Value} {base : Heap} {AD : Ads}
theorem oi_Column (T : Top K mg AD) : FnOk P w K mg base CX0 1 AD.f_Column___iter__ AD.d_Column___iter__ P_Column___iter__ (spItS AD.C_Column "word" base.objs.size) := by
  refine T.D_Column___iter__.F.ok sc_Column___iter__ (fun vs H Q E h => ?_) (fun cdv A outer s H vs Q E hr h => ?_)
  · obtain ⟨a, dx, fs, x, rfl, _⟩ := h
    rfl
  · obtain ⟨a, dx, fs, x, rfl, ha, hl, q⟩ := h
    refine ⟨_, (pss_one (ps_ret (pe_callB call_iterS (by rfl) T.b_iter (by decide +kernel) (pa_cons (pe_fld (pv 0) rfl) pa_nil)))), ?_⟩
    walk_at "go"
    refine ⟨a, _, dx, fs, _, rfl, ha, T.cl_Column, T.n_Column_word, hl, ?_⟩
    walk_at "go"
    exact fun it n1 n2 => q it n1 n2
end

namespace Vv
section
variable {P : Program} {w : World} {K : PySem.W.Frag} {mg : Str → Option Value} {base : Heap} {AD : Ads}
theorem ok_NoSuch___init__ (T : Top K mg AD) : FnOk P w K mg base CX0 1 AD.f_NoSuch___init__ AD.d_NoSuch___init__ P_NoSuch___init__ (spE1 K "number") := by
  refine T.D_NoSuch___init__.F.ok sc_NoSuch___init__ (fun vs H Q E h => ?_) (fun cdv A outer s H vs Q E hr h => ?_)
  · obtain ⟨a, C, v, rfl, _⟩ := h
    rfl
  · obtain ⟨a, C, v, rfl, ho, hn, ha, q⟩ := h
    refine ⟨_, (pss_one (ps_ost (pv 0) (pv 1))), ?_⟩
    walk_at "go"
    exact ⟨a, C, rfl, ho, hn, .inl ⟨ha, fun dx n ne => q dx n ne⟩⟩

theorem ok_BadSize___init__ (T : Top K mg AD) : FnOk P w K mg base CX0 1 AD.f_BadSize___init__ AD.d_BadSize___init__ P_BadSize___init__ (spE1 K "size") := by
  refine T.D_BadSize___init__.F.ok sc_BadSize___init__ (fun vs H Q E h => ?_) (fun cdv A outer s H vs Q E hr h => ?_)
  · obtain ⟨a, C, v, rfl, _⟩ := h
    rfl
  · obtain ⟨a, C, v, rfl, ho, hn, ha, q⟩ := h
    refine ⟨_, (pss_one (ps_ost (pv 0) (pv 1))), ?_⟩
    walk_at "go"
    exact ⟨a, C, rfl, ho, hn, .inl ⟨ha, fun dx n ne => q dx n ne⟩⟩

theorem ok_BadColumn___init__ (T : Top K mg AD) : FnOk P w K mg base CX0 1 AD.f_BadColumn___init__ AD.d_BadColumn___init__ P_BadColumn___init__ (spE1 K "what") := by
  refine T.D_BadColumn___init__.F.ok sc_BadColumn___init__ (fun vs H Q E h => ?_) (fun cdv A outer s H vs Q E hr h => ?_)
  · obtain ⟨a, C, v, rfl, _⟩ := h
    rfl
  · obtain ⟨a, C, v, rfl, ho, hn, ha, q⟩ := h
    refine ⟨_, (pss_one (ps_ost (pv 0) (pv 1))), ?_⟩
    walk_at "go"
    exact ⟨a, C, rfl, ho, hn, .inl ⟨ha, fun dx n ne => q dx n ne⟩⟩

theorem ok_BadBoundary___init__ (T : Top K mg AD) : FnOk P w K mg base CX0 1 AD.f_BadBoundary___init__ AD.d_BadBoundary___init__ P_BadBoundary___init__ (spE1 K "boundary") := by
  refine T.D_BadBoundary___init__.F.ok sc_BadBoundary___init__ (fun vs H Q E h => ?_) (fun cdv A outer s H vs Q E hr h => ?_)
  · obtain ⟨a, C, v, rfl, _⟩ := h
    rfl
  · obtain ⟨a, C, v, rfl, ho, hn, ha, q⟩ := h
    refine ⟨_, (pss_one (ps_ost (pv 0) (pv 1))), ?_⟩
    walk_at "go"
    exact ⟨a, C, rfl, ho, hn, .inl ⟨ha, fun dx n ne => q dx n ne⟩⟩

def b_is_number : Sf := (sRet (eAnd (eOpN (isiD CS) (aCons (eN 0) (aCons (eC (.ty "int")) aNil))) (eOp1 notD (eOpN (isiD CS) (aCons (eN 0) (aCons (eC (.ty "bool")) aNil))))))
def F_is_number : List D → R D := runP 1 b_is_number
theorem v_is_number (T : Top K mg AD) : FnOk P w K mg base (L2.CX P w) 1 AD.f_is_number AD.d_is_number P_is_number (spP (BT K AD) 1 F_is_number) := by
  exact fnP T.D_is_number.F sc_is_number 1 rfl rfl (by decide) fun cdv A outer s H E hr =>
  (vss_one (vs_ret (ve_and (ve_b (call_isiA rfl) (OpN.isi (kit T)) (by rfl) T.b_isinstance (by decide +kernel) (va_cons (ve_n 0) (va_cons (ve_tyv (by rfl) T.b_int (by decide +kernel)) va_nil))) (ve_one (ve_not (ve_b (call_isiA rfl) (OpN.isi (kit T)) (by rfl) T.b_isinstance (by decide +kernel) (va_cons (ve_n 0) (va_cons (ve_tyv (by rfl) T.b_bool (by decide +kernel)) va_nil))))))))

def b_is_whole : Sf := (sRet (eAnd (eCall 1 F_is_number (aCons (eN 0) aNil)) (eChain vLe vLe (eN 1) (eN 0) (eN 2))))
def F_is_whole : List D → R D := runP 3 b_is_whole
theorem v_is_whole (T : Top K mg AD) : FnOk P w K mg base (L2.CX P w) 2 AD.f_is_whole AD.d_is_whole P_is_whole (spP (BT K AD) 3 F_is_whole) := by
  exact fnP T.D_is_whole.F sc_is_whole 3 rfl rfl (by decide) fun cdv A outer s H E hr =>
  (vss_one (vs_ret (ve_and (ve_call F_is_number (v_is_number T) (hr.mono (by decide)) rfl T.D_is_number.g T.D_is_number.F.kp T.D_is_number.b (takes_of rfl rfl rfl rfl) (va_cons (ve_n 0) va_nil)) (ve_one (ve_chain op_le op_le Op2.cmp Op2.cmp (ve_n 1) (ve_n 0) (ve_n 2))))))

def b_Column___eq__ : Sf := (sRet (eAnd (eOpN (isiD CS) (aCons (eN 1) (aCons (eC (.cl 0)) aNil))) (eOp2 vEq (eOp1 (fldD 0 0) (eN 0)) (eOp1 (fldD 0 0) (eN 1)))))
def F_Column___eq__ : List D → R D := runP 2 b_Column___eq__
theorem v_Column___eq__ (T : Top K mg AD) : FnOk P w K mg base (L2.CX P w) 1 AD.f_Column___eq__ AD.d_Column___eq__ P_Column___eq__ (spP (BT K AD) 2 F_Column___eq__) := by
  exact fnP T.D_Column___eq__.F sc_Column___eq__ 2 rfl rfl (by decide) fun cdv A outer s H E hr =>
  (vss_one (vs_ret (ve_and (ve_b (call_isiA rfl) (OpN.isi (kit T)) (by rfl) T.b_isinstance (by decide +kernel) (va_cons (ve_n 1) (va_cons (ve_clv 0 rfl T.g_Column) va_nil))) (ve_one (ve_cmp (op_eqB rfl hr.units) Op2.eq (ve_fld 0 0 rfl T.cl_Column T.n_Column_word (fun vs h => match vs, h with | [_, _], _ => rfl) (ve_n 0)) (ve_fld 0 0 rfl T.cl_Column T.n_Column_word (fun vs h => match vs, h with | [_, _], _ => rfl) (ve_n 1)) (nomark _))))))

def b_word_fault_1 : Sf := (sSeq (sAsg (eSl (eN 0) oNone (oSome (eN 1))) (gtN 2))
  (sIf (tB2 (eOp2 vGt (eM1 countD (eN 2) (eC (.str [111]))) (eM1 countD (eN 2) (eC (.str [100]))))) (sRet (eC (.str [98, 101, 108, 111, 119]))) sNil))
def b_word_fault : Sf := (sSeq (sIf (tOrD (tNotD (tT (eOpN (isiD CS) (aCons (eN 0) (aCons (eC (.ty "str")) aNil))))) (tNotD (tB2 (eChain vLe vLe (eC (.int 2)) (eOpN (g1 lenV) (aCons (eN 0) aNil)) (eOp2 (vI gMul) (eC (.int 2)) (eC (.int 6))))))) (sRet (eC (.str [119, 111, 114, 100]))) sNil)
  (sSeq (sIf (tNotD (tT (eOpN (g1 allD) (aCons (eOf (lLc [3] (iIt (eN 0)) (gtN 3) tTrue (eOp2 (vIn false) (eN 3) (eOpN gTupD (aCons (eC (.str [100])) (aCons (eC (.str [111])) aNil)))))) aNil)))) (sRet (eC (.str [119, 111, 114, 100]))) sNil)
  (sSeq (sIf (tB2 (eOp2 vNe (eM1 countD (eN 0) (eC (.str [100]))) (eM1 countD (eN 0) (eC (.str [111]))))) (sRet (eC (.str [99, 111, 117, 110, 116]))) sNil)
  (sSeq (sFor (iRange rg1 (aCons (eOpN (g1 lenV) (aCons (eN 0) aNil)) aNil)) (gtN 1)
  b_word_fault_1)
  (sRet (eC .non))))))
def F_word_fault : List D → R D := runP 4 b_word_fault
theorem v_word_fault (T : Top K mg AD) : FnOk P w K mg base (L2.CX P w) 1 AD.f_word_fault AD.d_word_fault P_word_fault (spP (BT K AD) 1 F_word_fault) := by
  obtain ⟨_, hc_MOST_SIZE⟩ := T.c_MOST_SIZE
  exact fnP T.D_word_fault.F sc_word_fault 1 rfl rfl (by decide) fun cdv A outer s H E hr =>
  (vss_cons (vs_if (VW.vt (vw_or (vt_not (vt_val rfl (ve_b (call_isiA rfl) (OpN.isi (kit T)) (by rfl) T.b_isinstance (by decide +kernel) (va_cons (ve_n 0) (va_cons (ve_tyv (by rfl) T.b_str (by decide +kernel)) va_nil))) (by intro _; rfl))) (vw_or1 (vt_not (vt_chain op_le op_le Op2.cmp Op2.cmp ve_int (ve_b (call_lenA rfl) OpN.len (by rfl) T.b_len (by decide +kernel) (va_cons (ve_n 0) va_nil)) (ve_op op_mul Op2.mul ve_int (ve_c (pe_glob (v := .int 6) rfl hc_MOST_SIZE ⟨_, rfl⟩) fun _ => .int _)))))))
  (vss_one (vs_ret (ve_s [119, 111, 114, 100] (by decide +kernel))))
  vss_nil)
  (vss_cons (vs_if (vt_not (vt_val rfl (ve_b (cr_allA rfl (by rfl)) OpN.allB (by rfl) T.b_all (by decide +kernel) (va_cons (VF.ve (vf_lc (own := [("letter", 3)]) (by rfl) sc_word_fault.nd (vi_any rfl (ve_n 0)) (blkOk_by (N := N_word_fault) (sc := defScope s_word_fault) (by decide +kernel)) rfl ⟨(gName 3), (fun _ _ _ _ _ => (pg_name (i := 3) sc_word_fault.nd rfl (by first | exact Or.inl rfl | exact Or.inr rfl))), gtN_ok⟩ (fun _ _ _ _ _ => vts_nil) (fun _ _ _ _ _ => (ve_cmp (op_inA rfl (Sl.Room.units65 hr)) Op2.inA (ve_n 3) (ve_tup (va_cons (ve_s [100] (by decide +kernel)) (va_cons (ve_s [111] (by decide +kernel)) va_nil))) (by rfl))))) va_nil)) (by intro _; rfl)))
  (vss_one (vs_ret (ve_s [119, 111, 114, 100] (by decide +kernel))))
  vss_nil)
  (vss_cons (vs_if (vt_cmp (op_neB rfl hr.units) Op2.ne (ve_m1 PySem.F.slot_str_count PySem.F.type_str_count mt_countS count_ok (ve_n 0) (ve_s [100] (by decide +kernel))) (ve_m1 PySem.F.slot_str_count PySem.F.type_str_count mt_countS count_ok (ve_n 0) (ve_s [111] (by decide +kernel))) (nomark _))
  (vss_one (vs_ret (ve_s [99, 111, 117, 110, 116] (by decide +kernel))))
  vss_nil)
  (vss_cons (vs_for (passes_of rfl) (by rfl) (vi_range1 (by rfl) T.b_range (va_cons (ve_b (call_lenA rfl) OpN.len (by rfl) T.b_len (by decide +kernel) (va_cons (ve_n 0) va_nil)) va_nil)) (vg_n 1 sc_word_fault.nd)
  (vss_cons (vs_set 2 sc_word_fault.nd (ve_sl rfl (ve_n 0) vo_none (vo_some (ve_n 1))))
  (vss_one (vs_if (vt_cmp op_gt Op2.cmp (ve_m1 PySem.F.slot_str_count PySem.F.type_str_count mt_countS count_ok (ve_n 2) (ve_s [111] (by decide +kernel))) (ve_m1 PySem.F.slot_str_count PySem.F.type_str_count mt_countS count_ok (ve_n 2) (ve_s [100] (by decide +kernel))) (nomark _))
  (vss_one (vs_ret (ve_s [98, 101, 108, 111, 119] (by decide +kernel))))
  vss_nil))))
  (vss_one (vs_ret ve_non))))))

def b_Column___init__ : Sf := (sSeq (sAsg (eCall 1 F_word_fault (aCons (eN 1) aNil)) (gtN 2))
  (sSeq (sIf (tB2 (eOp2 (vIsN true) (eN 2) (eC .non))) (sRaise 4 1 (aCons (eN 2) aNil)) sNil)
  (sSeq (sSelf 0 0 (eN 1))
  (sSelf 0 1 (eM1 countD (eN 1) (eC (.str [100])))))))
def F_Column___init__ : List D → R D := runI 3 0 2 b_Column___init__
theorem v_Column___init__ (T : Top K mg AD) : FnOk P w K mg base (L2.CX P w) 3 AD.f_Column___init__ AD.d_Column___init__ P_Column___init__ (spI (BT K AD) 1 0 F_Column___init__) := by
  exact fnI (B := BT K AD) T.D_Column___init__.F sc_Column___init__ 1 0 rfl rfl (by decide) fun cdv A outer s H E hr =>
  (vss_cons (vs_set 2 sc_Column___init__.nd (ve_call F_word_fault (v_word_fault T) (hr.mono (by decide)) rfl T.D_word_fault.g T.D_word_fault.F.kp T.D_word_fault.b (takes_of rfl rfl rfl rfl) (va_cons (ve_n 1) va_nil)))
  (vss_cons (vs_if (vt_cmp op_notN Op2.notN (ve_n 2) ve_non (nomark _))
  (vss_one (vs_raise 4 1 (by rfl) (takes_of rfl rfl rfl rfl) rfl (spMk1 T.x_BadColumn.oex T.n_BadColumn_what rfl) (fun h => pmk_oex T.x_BadColumn.oex T.x_BadColumn.ini T.x_BadColumn.tI (ok_BadColumn___init__ T) (hr.mono (by decide)) T.D_BadColumn___init__.b .nil pass0 (by rfl) T.x_BadColumn.g h) (va_cons (ve_n 2) va_nil)))
  vss_nil)
  (vss_cons (vs_self 0 0 rfl (pv 0) T.cl_Column T.n_Column_word (fun vs y h => match vs, h with | [], _ => rfl) (by decide) (ve_n 1) rfl)
  (vss_one (vs_self 0 1 rfl (pv 0) T.cl_Column T.n_Column_size (fun vs y h => match vs, h with | [_], _ => rfl) (by decide) (ve_m1 PySem.F.slot_str_count PySem.F.type_str_count mt_countS count_ok (ve_n 1) (ve_s [100] (by decide +kernel))) rfl)))))

def b_Column_many : Sf := (sSeq (sIf (tNotD (tT (eCall 3 F_is_whole (aCons (eN 2) (aCons (eC (.int 0)) (aCons (eOpN (g1 lenV) (aCons (eOp1 (fldD 0 0) (eN 0)) aNil)) aNil)))))) (sRaise 5 1 (aCons (eN 2) aNil)) sNil)
  (sRet (eM1 countD (eSl (eOp1 (fldD 0 0) (eN 0)) oNone (oSome (eN 2))) (eN 1))))
def F_Column_many : List D → R D := runP 3 b_Column_many
theorem v_Column_many (T : Top K mg AD) : FnOk P w K mg base (L2.CX P w) 3 AD.f_Column_many AD.d_Column_many P_Column_many (spP (BT K AD) 3 F_Column_many) := by
  exact fnP T.D_Column_many.F sc_Column_many 3 rfl rfl (by decide) fun cdv A outer s H E hr =>
  (vss_cons (vs_if (vt_not (vt_val rfl (ve_call F_is_whole (v_is_whole T) (hr.mono (by decide)) rfl T.D_is_whole.g T.D_is_whole.F.kp T.D_is_whole.b (takes_of rfl rfl rfl rfl) (va_cons (ve_n 2) (va_cons ve_int (va_cons (ve_b (call_lenA rfl) OpN.len (by rfl) T.b_len (by decide +kernel) (va_cons (ve_fld 0 0 rfl T.cl_Column T.n_Column_word (fun vs h => match vs, h with | [_, _], _ => rfl) (ve_n 0)) va_nil)) va_nil)))) (by intro _; rfl)))
  (vss_one (vs_raise 5 1 (by rfl) (takes_of rfl rfl rfl rfl) rfl (spMk1 T.x_BadBoundary.oex T.n_BadBoundary_boundary rfl) (fun h => pmk_oex T.x_BadBoundary.oex T.x_BadBoundary.ini T.x_BadBoundary.tI (ok_BadBoundary___init__ T) (hr.mono (by decide)) T.D_BadBoundary___init__.b .nil pass0 (by rfl) T.x_BadBoundary.g h) (va_cons (ve_n 2) va_nil)))
  vss_nil)
  (vss_one (vs_ret (ve_m1 PySem.F.slot_str_count PySem.F.type_str_count mt_countS count_ok (ve_sl rfl (ve_fld 0 0 rfl T.cl_Column T.n_Column_word (fun vs h => match vs, h with | [_, _], _ => rfl) (ve_n 0)) vo_none (vo_some (ve_n 2))) (ve_n 1)))))

def b_Column_height : Sf := (sRet (eOp2 vSub (eMeth 0 2 F_Column_many (eN 0) (aCons (eC (.str [100])) (aCons (eN 1) aNil))) (eMeth 0 2 F_Column_many (eN 0) (aCons (eC (.str [111])) (aCons (eN 1) aNil)))))
def F_Column_height : List D → R D := runP 2 b_Column_height
theorem v_Column_height (T : Top K mg AD) : FnOk P w K mg base (L2.CX P w) 4 AD.f_Column_height AD.d_Column_height P_Column_height (spP (BT K AD) 2 F_Column_height) := by
  exact fnP T.D_Column_height.F sc_Column_height 2 rfl rfl (by decide) fun cdv A outer s H E hr =>
  (vss_one (vs_ret (ve_op op_sub Op2.sub (ve_meth 0 2 F_Column_many T.cl_Column T.m_Column_many (v_Column_many T) (hr.mono (by decide)) T.D_Column_many.b (takes_of rfl rfl rfl rfl) (show ¬ (("many" : Str) ∈ (["word", "size"] : List Str)) from by decide) (ve_n 0) (va_cons (ve_s [100] (by decide +kernel)) (va_cons (ve_n 1) va_nil))) (ve_meth 0 2 F_Column_many T.cl_Column T.m_Column_many (v_Column_many T) (hr.mono (by decide)) T.D_Column_many.b (takes_of rfl rfl rfl rfl) (show ¬ (("many" : Str) ∈ (["word", "size"] : List Str)) from by decide) (ve_n 0) (va_cons (ve_s [111] (by decide +kernel)) (va_cons (ve_n 1) va_nil))))))

def b_Column___str__ : Sf := (sRet (eOpN (g1 strI) (aCons (eOp1 (fldD 0 0) (eN 0)) aNil)))
def F_Column___str__ : List D → R D := runP 1 b_Column___str__
theorem v_Column___str__ (T : Top K mg AD) : FnOk P w K mg base (L2.CX P w) 1 AD.f_Column___str__ AD.d_Column___str__ P_Column___str__ (spP (BT K AD) 1 F_Column___str__) := by
  exact fnP T.D_Column___str__.F sc_Column___str__ 1 rfl rfl (by decide) fun cdv A outer s H E hr =>
  (vss_one (vs_ret (ve_ty call_strA OpN.strI (by rfl) T.b_str (by decide +kernel) (va_cons (ve_fld 0 0 rfl T.cl_Column T.n_Column_word (fun vs h => match vs, h with | [_, _], _ => rfl) (ve_n 0)) va_nil))))

def b_Column___len__ : Sf := (sRet (eOpN (g1 lenV) (aCons (eOp1 (fldD 0 0) (eN 0)) aNil)))
def F_Column___len__ : List D → R D := runP 1 b_Column___len__
theorem v_Column___len__ (T : Top K mg AD) : FnOk P w K mg base (L2.CX P w) 1 AD.f_Column___len__ AD.d_Column___len__ P_Column___len__ (spP (BT K AD) 1 F_Column___len__) := by
  exact fnP T.D_Column___len__.F sc_Column___len__ 1 rfl rfl (by decide) fun cdv A outer s H E hr =>
  (vss_one (vs_ret (ve_b (call_lenA rfl) OpN.len (by rfl) T.b_len (by decide +kernel) (va_cons (ve_fld 0 0 rfl T.cl_Column T.n_Column_word (fun vs h => match vs, h with | [_, _], _ => rfl) (ve_n 0)) va_nil))))

def b_check_size : Sf := (sIf (tNotD (tT (eCall 3 F_is_whole (aCons (eN 0) (aCons (eC (.int 1)) (aCons (eC (.int 6)) aNil)))))) (sRaise 29 1 (aCons (eN 0) aNil)) sNil)
def F_check_size : List D → R D := runP 1 b_check_size
theorem v_check_size (T : Top K mg AD) : FnOk P w K mg base (L2.CX P w) 3 AD.f_check_size AD.d_check_size P_check_size (spP (BT K AD) 1 F_check_size) := by
  obtain ⟨_, hc_MOST_SIZE⟩ := T.c_MOST_SIZE
  exact fnP T.D_check_size.F sc_check_size 1 rfl rfl (by decide) fun cdv A outer s H E hr =>
  (vss_one (vs_if (vt_not (vt_val rfl (ve_call F_is_whole (v_is_whole T) (hr.mono (by decide)) rfl T.D_is_whole.g T.D_is_whole.F.kp T.D_is_whole.b (takes_of rfl rfl rfl rfl) (va_cons (ve_n 0) (va_cons ve_int (va_cons (ve_c (pe_glob (v := .int 6) rfl hc_MOST_SIZE ⟨_, rfl⟩) fun _ => .int _) va_nil)))) (by intro _; rfl)))
  (vss_one (vs_raise 29 1 (by rfl) (takes_of rfl rfl rfl rfl) rfl (spMk1 T.x_BadSize.oex T.n_BadSize_size rfl) (fun h => pmk_oex T.x_BadSize.oex T.x_BadSize.ini T.x_BadSize.tI (ok_BadSize___init__ T) (hr.mono (by decide)) T.D_BadSize___init__.b .nil pass0 (by rfl) T.x_BadSize.g h) (va_cons (ve_n 0) va_nil)))
  vss_nil))

def b_ways_home : Sf := (sSeq (sAsg (eOp2 (vI gFdiv) (eOp2 vSub (eN 1) (eN 0)) (eC (.int 2))) (gtN 2))
  (sSeq (sIf (tB2 (eOp2 vLt (eN 2) (eC (.int 0)))) (sRet (eC (.int 0))) sNil)
  (sSeq (sIf (tB2 (eOp2 vEq (eN 2) (eC (.int 0)))) (sRet (eC (.int 1))) sNil)
  (sRet (eOp2 vSub (eOpN combD (aCons (eN 1) (aCons (eN 2) aNil))) (eOpN combD (aCons (eN 1) (aCons (eOp2 vSub (eN 2) (eC (.int 1))) aNil))))))))
def F_ways_home : List D → R D := runP 3 b_ways_home
theorem v_ways_home (T : Top K mg AD) : FnOk P w K mg base (L2.CX P w) 1 AD.f_ways_home AD.d_ways_home P_ways_home (spP (BT K AD) 2 F_ways_home) := by
  exact fnP T.D_ways_home.F sc_ways_home 2 rfl rfl (by decide) fun cdv A outer s H E hr =>
  (vss_cons (vs_set 2 sc_ways_home.nd (ve_op op_fdivW Op2.fdiv (ve_op op_sub Op2.sub (ve_n 1) (ve_n 0)) ve_int))
  (vss_cons (vs_if (vt_cmp op_lt Op2.cmp (ve_n 2) ve_int (nomark _))
  (vss_one (vs_ret ve_int))
  vss_nil)
  (vss_cons (vs_if (vt_cmp (op_eqB rfl hr.units) Op2.eq (ve_n 2) ve_int (nomark _))
  (vss_one (vs_ret ve_int))
  vss_nil)
  (vss_one (vs_ret (ve_op op_sub Op2.sub (ve_bf cr_comb OpN.comb rfl T.im_comb (va_cons (ve_n 1) (va_cons (ve_n 2) va_nil))) (ve_bf cr_comb OpN.comb rfl T.im_comb (va_cons (ve_n 1) (va_cons (ve_op op_sub Op2.sub (ve_n 2) ve_int) va_nil)))))))))

def b_how_many_columns : Sf := (sSeq (sExpr (eCall 1 F_check_size (aCons (eN 0) aNil)))
  (sRet (eCall 2 F_ways_home (aCons (eC (.int 0)) (aCons (eOp2 (vI gMul) (eC (.int 2)) (eN 0)) aNil)))))
def F_how_many_columns : List D → R D := runP 1 b_how_many_columns
theorem v_how_many_columns (T : Top K mg AD) : FnOk P w K mg base (L2.CX P w) 4 AD.f_how_many_columns AD.d_how_many_columns P_how_many_columns (spP (BT K AD) 1 F_how_many_columns) := by
  exact fnP T.D_how_many_columns.F sc_how_many_columns 1 rfl rfl (by decide) fun cdv A outer s H E hr =>
  (vss_cons (vs_expr (ve_call F_check_size (v_check_size T) (hr.mono (by decide)) rfl T.D_check_size.g T.D_check_size.F.kp T.D_check_size.b (takes_of rfl rfl rfl rfl) (va_cons (ve_n 0) va_nil)))
  (vss_one (vs_ret (ve_call F_ways_home (v_ways_home T) (hr.mono (by decide)) rfl T.D_ways_home.g T.D_ways_home.F.kp T.D_ways_home.b (takes_of rfl rfl rfl rfl) (va_cons ve_int (va_cons (ve_op op_mul Op2.mul ve_int (ve_n 0)) va_nil))))))

def b_column_at_1 : Sf := (sSeq (sAsg (eCall 2 F_ways_home (aCons (eOp2 vAdd (eN 3) (eC (.int 1))) (aCons (eN 5) aNil))) (gtN 6))
  (sIf (tB2 (eOp2 vLt (eN 4) (eN 6))) (sSeq (sApp 2 (eC (.str [100])))
  (sAug 3 (vI fun i j => some (i + j)) (eC (.int 1)))) (sSeq (sAug 4 (vI fun i j => some (i - j)) (eN 6))
  (sSeq (sApp 2 (eC (.str [111])))
  (sAug 3 (vI fun i j => some (i - j)) (eC (.int 1)))))))
def b_column_at : Sf := (sSeq (sIf (tNotD (tT (eCall 3 F_is_whole (aCons (eN 1) (aCons (eC (.int 0)) (aCons (eOp2 vSub (eCall 1 F_how_many_columns (aCons (eN 0) aNil)) (eC (.int 1))) aNil)))))) (sRaise 70 1 (aCons (eN 1) aNil)) sNil)
  (sSeq (sOwn 2 (fun ρ s => (aNil ρ s).bind fun ds s1 => opt (fitL ds) s1))
  (sSeq (sAsg (eC (.int 0)) (gtN 3))
  (sSeq (sAsg (eN 1) (gtN 4))
  (sSeq (sFor (iRange rg3 (aCons (eOp2 vSub (eOp2 (vI gMul) (eC (.int 2)) (eN 0)) (eC (.int 1))) (aCons (eOp1 negD (eC (.int 1))) (aCons (eOp1 negD (eC (.int 1))) aNil)))) (gtN 5)
  b_column_at_1)
  (sFrz 2 (sRet (eCall 1 F_Column___init__ (aCons (eM1 joinD (eC (.str [])) (eN 2)) aNil)))))))))
def F_column_at : List D → R D := runP 7 b_column_at
theorem v_column_at (T : Top K mg AD) : FnOk P w K mg base (L2.CX P w) 5 AD.f_column_at AD.d_column_at P_column_at (spP (BT K AD) 2 F_column_at) := by
  exact fnP T.D_column_at.F sc_column_at 2 rfl rfl (by decide) fun cdv A outer s H E hr =>
  (vss_cons (vs_if (vt_not (vt_val rfl (ve_call F_is_whole (v_is_whole T) (hr.mono (by decide)) rfl T.D_is_whole.g T.D_is_whole.F.kp T.D_is_whole.b (takes_of rfl rfl rfl rfl) (va_cons (ve_n 1) (va_cons ve_int (va_cons (ve_op op_sub Op2.sub (ve_call F_how_many_columns (v_how_many_columns T) (hr.mono (by decide)) rfl T.D_how_many_columns.g T.D_how_many_columns.F.kp T.D_how_many_columns.b (takes_of rfl rfl rfl rfl) (va_cons (ve_n 0) va_nil)) ve_int) va_nil)))) (by intro _; rfl)))
  (vss_one (vs_raise 70 1 (by rfl) (takes_of rfl rfl rfl rfl) rfl (spMk1 T.x_NoSuch.oex T.n_NoSuch_number rfl) (fun h => pmk_oex T.x_NoSuch.oex T.x_NoSuch.ini T.x_NoSuch.tI (ok_NoSuch___init__ T) (hr.mono (by decide)) T.D_NoSuch___init__.b .nil pass0 (by rfl) T.x_NoSuch.g h) (va_cons (ve_n 1) va_nil)))
  vss_nil)
  (vss_cons (vs_own 2 sc_column_at.nd (vf_lst va_nil))
  (vss_cons (vs_set 3 sc_column_at.nd ve_int)
  (vss_cons (vs_set 4 sc_column_at.nd (ve_n 1))
  (vss_cons (vs_for (passes_of rfl) (by rfl) (vi_range3 (by rfl) T.b_range (va_cons (ve_op op_sub Op2.sub (ve_op op_mul Op2.mul ve_int (ve_n 0)) ve_int) (va_cons (ve_un un_neg Op1.neg ve_int) (va_cons (ve_un un_neg Op1.neg ve_int) va_nil)))) (vg_n 5 sc_column_at.nd)
  (vss_cons (vs_set 6 sc_column_at.nd (ve_call F_ways_home (v_ways_home T) (hr.mono (by decide)) rfl T.D_ways_home.g T.D_ways_home.F.kp T.D_ways_home.b (takes_of rfl rfl rfl rfl) (va_cons (ve_op (op_addA rfl) Op2.add (ve_n 3) ve_int) (va_cons (ve_n 5) va_nil))))
  (vss_one (vs_if (vt_cmp op_lt Op2.cmp (ve_n 4) (ve_n 6) (nomark _))
  (vss_cons (vs_app 2 (ve_s [100] (by decide +kernel)) rfl (fun h => pe_bm PySem.F.plainAttrs_list PySem.F.slot_list_append PySem.F.type_list_append mt_append (pv 2) h))
  (vss_one (vs_aug 3 sc_column_at.nd rfl (Or.inl rfl) ip_add Op2.ipA ve_int)))
  (vss_cons (vs_aug 4 sc_column_at.nd rfl (Or.inl rfl) ip_sub Op2.ipA (ve_n 6))
  (vss_cons (vs_app 2 (ve_s [111] (by decide +kernel)) rfl (fun h => pe_bm PySem.F.plainAttrs_list PySem.F.slot_list_append PySem.F.type_list_append mt_append (pv 2) h))
  (vss_one (vs_aug 3 sc_column_at.nd rfl (Or.inl rfl) ip_sub Op2.ipA ve_int))))))))
  (vss_one (vs_frz 2 (vs_ret (ve_make 0 F_Column___init__ T.mk_Column (v_Column___init__ T) (hr.mono (by decide)) rfl T.g_Column T.D_Column___init__.b (takes_of rfl rfl rfl rfl) runI_obj (va_cons (ve_m1 PySem.F.slot_str_join PySem.F.type_str_join (mt_joinA rfl) join_ok (ve_s [] (by decide +kernel)) (ve_n 2)) va_nil))))))))))

def b_all_columns : Gy := (gSeq (gFor (iRange rg1 (aCons (eCall 1 F_how_many_columns (aCons (eN 0) aNil)) aNil)) (gtN 1)
  (gSeq (gYield (eCall 2 F_column_at (aCons (eN 0) (aCons (eN 1) aNil))))
  gNilY))
  gNilY)
def F_all_columns : List D → R D := runG 2 b_all_columns
theorem v_all_columns (T : Top K mg AD) : GFn P w K mg base 6 AD.f_all_columns AD.d_all_columns P_all_columns (spG (BT K AD) 1 F_all_columns) := by
  exact fnY T.D_all_columns.F sc_all_columns 1 rfl rfl (by decide) fun cdv A outer s H E pn hr =>
  (vys_cons (vy_for owns_gcx (by rfl) (vi_range1 (by rfl) T.b_range (va_cons (ve_call F_how_many_columns (v_how_many_columns T) (hr.mono (by decide)) rfl T.D_how_many_columns.g T.D_how_many_columns.F.kp T.D_how_many_columns.b takes_gcx (va_cons (ve_n 0) va_nil)) va_nil)) (vg_n 1 sc_all_columns.nd)
  (vys_cons (vy_yield (ve_call F_column_at (v_column_at T) (hr.mono (by decide)) rfl T.D_column_at.g T.D_column_at.F.kp T.D_column_at.b takes_gcx (va_cons (ve_n 0) (va_cons (ve_n 1) va_nil))))
  vys_nil))
  vys_nil)

def b_column_index_1 : Sf := (sSeq (sAug 3 (vI fun i j => some (i - j)) (eC (.int 1)))
  (sIf (tB2 (eOp2 vEq (eN 4) (eC (.str [111])))) (sSeq (sAug 1 (vI fun i j => some (i + j)) (eCall 2 F_ways_home (aCons (eOp2 vAdd (eN 2) (eC (.int 1))) (aCons (eN 3) aNil))))
  (sAug 2 (vI fun i j => some (i - j)) (eC (.int 1)))) (sAug 2 (vI fun i j => some (i + j)) (eC (.int 1)))))
def b_column_index : Sf := (sSeq (sAsg (eC (.int 0)) (gtN 1))
  (sSeq (sAsg (eC (.int 0)) (gtN 2))
  (sSeq (sAsg (eOpN (lenVO 0 F_Column___len__) (aCons (eN 0) aNil)) (gtN 3))
  (sSeq (sFor (iItS 0 0 (eN 0)) (gtN 4)
  b_column_index_1)
  (sRet (eN 1))))))
def F_column_index : List D → R D := runP 5 b_column_index
theorem v_column_index (T : Top K mg AD) : FnOk P w K mg base (L2.CX P w) 3 AD.f_column_index AD.d_column_index P_column_index (spP (BT K AD) 1 F_column_index) := by
  exact fnP T.D_column_index.F sc_column_index 1 rfl rfl (by decide) fun cdv A outer s H E hr =>
  (vss_cons (vs_set 1 sc_column_index.nd ve_int)
  (vss_cons (vs_set 2 sc_column_index.nd ve_int)
  (vss_cons (vs_set 3 sc_column_index.nd (ve_b (CallR.or (call_lenA rfl) (call_lenOwn T.o_Column___len__ (v_Column___len__ T) T.D_Column___len__.b passF (hr.mono (by decide)))) (OpN.or OpN.len (OpN.lenO (B := BT K AD) (c := 0) (F := F_Column___len__))) (by rfl) T.b_len (by decide +kernel) (va_cons (ve_n 0) va_nil)))
  (vss_cons (vs_for (passes_of rfl) (by rfl) (vi_anyS 0 0 rfl T.o_Column___iter__ (hr.mono (by decide)) (fun _ => oi_Column T) T.D_Column___iter__.b (fun vs h => match vs, h with | [_, _], _ => rfl) (ve_n 0)) (vg_n 4 sc_column_index.nd)
  (vss_cons (vs_aug 3 sc_column_index.nd rfl (Or.inl rfl) ip_sub Op2.ipA ve_int)
  (vss_one (vs_if (vt_cmp (op_eqB rfl hr.units) Op2.eq (ve_n 4) (ve_s [111] (by decide +kernel)) (nomark _))
  (vss_cons (vs_aug 1 sc_column_index.nd rfl (Or.inl rfl) ip_add Op2.ipA (ve_call F_ways_home (v_ways_home T) (hr.mono (by decide)) rfl T.D_ways_home.g T.D_ways_home.F.kp T.D_ways_home.b (takes_of rfl rfl rfl rfl) (va_cons (ve_op (op_addA rfl) Op2.add (ve_n 2) ve_int) (va_cons (ve_n 3) va_nil))))
  (vss_one (vs_aug 2 sc_column_index.nd rfl (Or.inl rfl) ip_sub Op2.ipA ve_int)))
  (vss_one (vs_aug 2 sc_column_index.nd rfl (Or.inl rfl) ip_add Op2.ipA ve_int))))))
  (vss_one (vs_ret (ve_n 1)))))))

def b_plain_column : Sf := (sSeq (sExpr (eCall 1 F_check_size (aCons (eN 0) aNil)))
  (sRet (eCall 1 F_Column___init__ (aCons (eOp2 vAdd (eOp2 vRepS (eC (.str [100])) (eN 0)) (eOp2 vRepS (eC (.str [111])) (eN 0))) aNil))))
def F_plain_column : List D → R D := runP 1 b_plain_column
theorem v_plain_column (T : Top K mg AD) : FnOk P w K mg base (L2.CX P w) 5 AD.f_plain_column AD.d_plain_column P_plain_column (spP (BT K AD) 1 F_plain_column) := by
  exact fnP T.D_plain_column.F sc_plain_column 1 rfl rfl (by decide) fun cdv A outer s H E hr =>
  (vss_cons (vs_expr (ve_call F_check_size (v_check_size T) (hr.mono (by decide)) rfl T.D_check_size.g T.D_check_size.F.kp T.D_check_size.b (takes_of rfl rfl rfl rfl) (va_cons (ve_n 0) va_nil)))
  (vss_one (vs_ret (ve_make 0 F_Column___init__ T.mk_Column (v_Column___init__ T) (hr.mono (by decide)) rfl T.g_Column T.D_Column___init__.b (takes_of rfl rfl rfl rfl) runI_obj (va_cons (ve_op (op_addA rfl) Op2.add (ve_op op_repS2 Op2.repS (ve_s [100] (by decide +kernel)) (ve_n 0)) (ve_op op_repS2 Op2.repS (ve_s [111] (by decide +kernel)) (ve_n 0))) va_nil)))))

def b_steep_column : Sf := (sSeq (sExpr (eCall 1 F_check_size (aCons (eN 0) aNil)))
  (sRet (eCall 1 F_Column___init__ (aCons (eOp2 vRepS (eC (.str [100, 111])) (eN 0)) aNil))))
def F_steep_column : List D → R D := runP 1 b_steep_column
theorem v_steep_column (T : Top K mg AD) : FnOk P w K mg base (L2.CX P w) 5 AD.f_steep_column AD.d_steep_column P_steep_column (spP (BT K AD) 1 F_steep_column) := by
  exact fnP T.D_steep_column.F sc_steep_column 1 rfl rfl (by decide) fun cdv A outer s H E hr =>
  (vss_cons (vs_expr (ve_call F_check_size (v_check_size T) (hr.mono (by decide)) rfl T.D_check_size.g T.D_check_size.F.kp T.D_check_size.b (takes_of rfl rfl rfl rfl) (va_cons (ve_n 0) va_nil)))
  (vss_one (vs_ret (ve_make 0 F_Column___init__ T.mk_Column (v_Column___init__ T) (hr.mono (by decide)) rfl T.g_Column T.D_Column___init__.b (takes_of rfl rfl rfl rfl) runI_obj (va_cons (ve_op op_repS2 Op2.repS (ve_s [100, 111] (by decide +kernel)) (ve_n 0)) va_nil)))))

def b_l_word_1 : Sf := (sSeq (sAsg (eOp2 vGt (eN 3) (eC (.int 0))) (gtN 5))
  (sSeq (sAsg (eOp2 vLt (eM1 countD (eN 2) (eC (.str [100]))) (eN 1)) (gtN 6))
  (sIf (tAndD (tT (eN 6)) (tOrD (tNotD (tT (eN 5))) (tB2 (eOp2 vEq (eCallH 0 1 F_l_draw (aCons (eC (.int 2)) aNil)) (eC (.int 0)))))) (sSeq (sAsg (eOp2 vAdd (eN 2) (eC (.str [100]))) (gtN 2))
  (sAsg (eOp2 vAdd (eN 3) (eC (.int 1))) (gtN 3))) (sSeq (sAsg (eOp2 vAdd (eN 2) (eC (.str [111]))) (gtN 2))
  (sAsg (eOp2 vSub (eN 3) (eC (.int 1))) (gtN 3))))))
def b_l_word : Sf := (sSeq (sAsg (eC (.str [])) (gtN 2))
  (sSeq (sAsg (eC (.int 0)) (gtN 3))
  (sSeq (sFor (iRange rg1 (aCons (eOp2 (vI gMul) (eC (.int 2)) (eN 1)) aNil)) (gtN 4)
  b_l_word_1)
  (sRet (eN 2)))))
def F_l_word : List D → S → R D := runH 7 b_l_word
theorem v_l_word (T : Top K mg AD) : FnOk P w K mg base (L2.CX P w) 3 AD.f_l_word AD.d_l_word P_l_word (spH (BT K AD) 1 F_l_word) := by
  exact fnH T.D_l_word.F sc_l_word 1 rfl rfl (by decide) fun cdv A outer s H E hr =>
  (vss_cons (vs_set 2 sc_l_word.nd (ve_s [] (by decide +kernel)))
  (vss_cons (vs_set 3 sc_l_word.nd ve_int)
  (vss_cons (vs_for (passes_of rfl) (by rfl) (vi_range1 (by rfl) T.b_range (va_cons (ve_op op_mul Op2.mul ve_int (ve_n 1)) va_nil)) (vg_n 4 sc_l_word.nd)
  (vss_cons (vs_set 5 sc_l_word.nd (ve_cmp op_gt Op2.cmp (ve_n 3) ve_int (nomark _)))
  (vss_cons (vs_set 6 sc_l_word.nd (ve_cmp op_lt Op2.cmp (ve_m1 PySem.F.slot_str_count PySem.F.type_str_count mt_countS count_ok (ve_n 2) (ve_s [100] (by decide +kernel))) (ve_n 1) (nomark _)))
  (vss_one (vs_if (VW.vt (vw_and (vt_val rfl (ve_n 6) (by intro _; rfl)) (vw_and1 (VW.vt (vw_or (vt_not (vt_val rfl (ve_n 5) (by intro _; rfl))) (vw_or1 (vt_cmp (op_eqB rfl hr.units) Op2.eq (ve_callH 0 F_l_draw (v_l_draw T) (hr.mono (by decide)) rfl T.D_l_draw.g T.D_l_draw.F.kp T.D_l_draw.b (takes_of rfl rfl rfl rfl) (pv 0) (va_cons ve_int va_nil)) ve_int (nomark _))))))))
  (vss_cons (vs_set 2 sc_l_word.nd (ve_op (op_addA rfl) Op2.add (ve_n 2) (ve_s [100] (by decide +kernel))))
  (vss_one (vs_set 3 sc_l_word.nd (ve_op (op_addA rfl) Op2.add (ve_n 3) ve_int))))
  (vss_cons (vs_set 2 sc_l_word.nd (ve_op (op_addA rfl) Op2.add (ve_n 2) (ve_s [111] (by decide +kernel))))
  (vss_one (vs_set 3 sc_l_word.nd (ve_op op_sub Op2.sub (ve_n 3) ve_int)))))))))
  (vss_one (vs_ret (ve_n 2))))))

def b_l_all_words_1 : Sf := (sSeq (sIf (tB2 (eOp2 vLt (eM1 countD (eN 4) (eC (.str [100]))) (eN 0))) (sApp 3 (eOp2 vAdd (eN 4) (eC (.str [100])))) sNil)
  (sIf (tB2 (eOp2 vGt (eM1 countD (eN 4) (eC (.str [100]))) (eM1 countD (eN 4) (eC (.str [111]))))) (sApp 3 (eOp2 vAdd (eN 4) (eC (.str [111])))) sNil))
def b_l_all_words_2 : Sf := (sSeq (sOwn 3 (fun ρ s => (aNil ρ s).bind fun ds s1 => opt (fitL ds) s1))
  (sSeq (sFor (iIt (eOf (lLst (aCons (eN 1) aNil)))) (gtN 4)
  b_l_all_words_1)
  (sFrz 3 (sAsg (eN 3) (gtN 1)))))
def b_l_all_words : Sf := (sSeq (sAsg (eOpN gLstD (aCons (eC (.str [])) aNil)) (gtN 1))
  (sSeq (sFor (iRange rg1 (aCons (eOp2 (vI gMul) (eC (.int 2)) (eN 0)) aNil)) (gtN 2)
  b_l_all_words_2)
  (sRet (eN 1))))
def F_l_all_words : List D → R D := runP 5 b_l_all_words
theorem v_l_all_words (T : Top K mg AD) : FnOk P w K mg base (L2.CX P w) 1 AD.f_l_all_words AD.d_l_all_words P_l_all_words (spP (BT K AD) 1 F_l_all_words) := by
  exact fnP T.D_l_all_words.F sc_l_all_words 1 rfl rfl (by decide) fun cdv A outer s H E hr =>
  (vss_cons (vs_set 1 sc_l_all_words.nd (ve_lst (va_cons (ve_s [] (by decide +kernel)) va_nil)))
  (vss_cons (vs_for (passes_of rfl) (by rfl) (vi_range1 (by rfl) T.b_range (va_cons (ve_op op_mul Op2.mul ve_int (ve_n 0)) va_nil)) (vg_n 2 sc_l_all_words.nd)
  (vss_cons (vs_own 3 sc_l_all_words.nd (vf_lst va_nil))
  (vss_cons (vs_for (passes_of rfl) (by rfl) (vi_any rfl (VF.ve (vf_list rfl (by rfl) T.b_list (by decide +kernel) (va_cons (ve_n 1) va_nil)))) (vg_n 4 sc_l_all_words.nd)
  (vss_cons (vs_if (vt_cmp op_lt Op2.cmp (ve_m1 PySem.F.slot_str_count PySem.F.type_str_count mt_countS count_ok (ve_n 4) (ve_s [100] (by decide +kernel))) (ve_n 0) (nomark _))
  (vss_one (vs_app 3 (ve_op (op_addA rfl) Op2.add (ve_n 4) (ve_s [100] (by decide +kernel))) rfl (fun h => pe_bm PySem.F.plainAttrs_list PySem.F.slot_list_append PySem.F.type_list_append mt_append (pv 3) h)))
  vss_nil)
  (vss_one (vs_if (vt_cmp op_gt Op2.cmp (ve_m1 PySem.F.slot_str_count PySem.F.type_str_count mt_countS count_ok (ve_n 4) (ve_s [100] (by decide +kernel))) (ve_m1 PySem.F.slot_str_count PySem.F.type_str_count mt_countS count_ok (ve_n 4) (ve_s [111] (by decide +kernel))) (nomark _))
  (vss_one (vs_app 3 (ve_op (op_addA rfl) Op2.add (ve_n 4) (ve_s [111] (by decide +kernel))) rfl (fun h => pe_bm PySem.F.plainAttrs_list PySem.F.slot_list_append PySem.F.type_list_append mt_append (pv 3) h)))
  vss_nil))))
  (vss_one (vs_frz 3 (vs_set 1 sc_l_all_words.nd (ve_n 3)))))))
  (vss_one (vs_ret (ve_n 1)))))

def b_l_refused : Sf := (sSeq (sTryM [(4, (fun c => match c with | 70 => some false | 29 => some true | 4 => some false | 5 => some false | _ => none), (sRet (eOpN gTupD (aCons (eC (.str [115, 105, 122, 101])) (aCons (eXf 4 29 0) aNil))))), (4, (fun c => match c with | 70 => some true | 29 => some false | 4 => some false | 5 => some false | _ => none), (sRet (eOpN gTupD (aCons (eC (.str [110, 117, 109, 98, 101, 114])) (aCons (eXf 4 70 0) aNil)))))]
  (sIf (tB2 (eOp2 vEq (eN 0) (eC (.int 0)))) (sAsg (eOpN (g1 lenV) (aCons (eListG [70, 29, 4, 5] 1 F_all_columns (aCons (eN 1) aNil)) aNil)) (gtN 3)) (sIf (tB2 (eOp2 vEq (eN 0) (eC (.int 1)))) (sAsg (eCall 1 F_how_many_columns (aCons (eN 1) aNil)) (gtN 3)) (sIf (tB2 (eOp2 vEq (eN 0) (eC (.int 2)))) (sAsg (eOp1 (fldD 0 0) (eCall 1 F_plain_column (aCons (eN 1) aNil))) (gtN 3)) (sIf (tB2 (eOp2 vEq (eN 0) (eC (.int 3)))) (sAsg (eOp1 (fldD 0 0) (eCall 1 F_steep_column (aCons (eN 1) aNil))) (gtN 3)) (sAsg (eOp1 (fldD 0 0) (eCall 2 F_column_at (aCons (eN 1) (aCons (eN 2) aNil)))) (gtN 3)))))))
  (sRet (eOpN gTupD (aCons (eC (.str [116, 111, 108, 100])) (aCons (eN 3) aNil)))))
def F_l_refused : List D → R D := runP 5 b_l_refused
theorem v_l_refused (T : Top K mg AD) : FnOk P w K mg base (L2.CX P w) 10 AD.f_l_refused AD.d_l_refused P_l_refused (spP (BT K AD) 3 F_l_refused) := by
  exact fnP T.D_l_refused.F sc_l_refused 3 rfl rfl (by decide) fun cdv A outer s H E hr =>
  (vss_cons (vs_tryM rfl rfl rfl rfl sc_l_refused.nd (takes_of rfl rfl rfl rfl) (Hv.as rfl rfl ⟨rfl, by decide, Or.inl T.g_BadSize⟩ (fun c b e => match c, e with | 70, rfl => T.ex_NoSuch_BadSize | 29, rfl => T.ex_BadSize_BadSize | 4, rfl => T.ex_BadColumn_BadSize | 5, rfl => T.ex_BadBoundary_BadSize) (fun a oe cls d pn hz hf => (vss_one (vs_ret (ve_tup (va_cons (ve_s [115, 105, 122, 101] (by decide +kernel)) (va_cons (ve_xf 4 29 0 rfl T.x_BadSize.xf T.n_BadSize_size ⟨rfl, (show ¬ (("size" : Str) ∈ ([] : List Str)) from by decide)⟩ hz hf (pv 4)) va_nil)))))) (Hv.as rfl rfl ⟨rfl, by decide, Or.inl T.g_NoSuch⟩ (fun c b e => match c, e with | 70, rfl => T.ex_NoSuch_NoSuch | 29, rfl => T.ex_BadSize_NoSuch | 4, rfl => T.ex_BadColumn_NoSuch | 5, rfl => T.ex_BadBoundary_NoSuch) (fun a oe cls d pn hz hf => (vss_one (vs_ret (ve_tup (va_cons (ve_s [110, 117, 109, 98, 101, 114] (by decide +kernel)) (va_cons (ve_xf 4 70 0 rfl T.x_NoSuch.xf T.n_NoSuch_number ⟨rfl, (show ¬ (("number" : Str) ∈ ([] : List Str)) from by decide)⟩ hz hf (pv 4)) va_nil)))))) Hv.nil))
  (fun W' pn xe tk po => (vss_one (vs_if (vt_cmp (op_eqB rfl hr.units) Op2.eq (ve_n 0) ve_int (nomark _))
  (vss_one (vs_set 3 sc_l_refused.nd (ve_b (call_lenA rfl) OpN.len (by rfl) T.b_len (by decide +kernel) (va_cons (ve_listG [70, 29, 4, 5] F_all_columns (v_all_columns T) (hr.mono (by decide)) (hr.mono (by decide)) (List.forall_mem_cons.mpr ⟨T.ns_NoSuch, (List.forall_mem_cons.mpr ⟨T.ns_BadSize, (List.forall_mem_cons.mpr ⟨T.ns_BadColumn, (List.forall_mem_cons.mpr ⟨T.ns_BadBoundary, (fun _ h => nomatch h)⟩)⟩)⟩)⟩) rfl T.b_list (by rfl) rfl T.D_all_columns.g T.D_all_columns.F.kp T.D_all_columns.b tk (va_cons (ve_n 1) va_nil)) va_nil))))
  (vss_one (vs_if (vt_cmp (op_eqB rfl hr.units) Op2.eq (ve_n 0) ve_int (nomark _))
  (vss_one (vs_set 3 sc_l_refused.nd (ve_call F_how_many_columns (v_how_many_columns T) (hr.mono (by decide)) rfl T.D_how_many_columns.g T.D_how_many_columns.F.kp T.D_how_many_columns.b tk (va_cons (ve_n 1) va_nil))))
  (vss_one (vs_if (vt_cmp (op_eqB rfl hr.units) Op2.eq (ve_n 0) ve_int (nomark _))
  (vss_one (vs_set 3 sc_l_refused.nd (ve_fld 0 0 rfl T.cl_Column T.n_Column_word (fun vs h => match vs, h with | [_, _], _ => rfl) (ve_call F_plain_column (v_plain_column T) (hr.mono (by decide)) rfl T.D_plain_column.g T.D_plain_column.F.kp T.D_plain_column.b tk (va_cons (ve_n 1) va_nil)))))
  (vss_one (vs_if (vt_cmp (op_eqB rfl hr.units) Op2.eq (ve_n 0) ve_int (nomark _))
  (vss_one (vs_set 3 sc_l_refused.nd (ve_fld 0 0 rfl T.cl_Column T.n_Column_word (fun vs h => match vs, h with | [_, _], _ => rfl) (ve_call F_steep_column (v_steep_column T) (hr.mono (by decide)) rfl T.D_steep_column.g T.D_steep_column.F.kp T.D_steep_column.b tk (va_cons (ve_n 1) va_nil)))))
  (vss_one (vs_set 3 sc_l_refused.nd (ve_fld 0 0 rfl T.cl_Column T.n_Column_word (fun vs h => match vs, h with | [_, _], _ => rfl) (ve_call F_column_at (v_column_at T) (hr.mono (by decide)) rfl T.D_column_at.g T.D_column_at.F.kp T.D_column_at.b tk (va_cons (ve_n 1) (va_cons (ve_n 2) va_nil))))))))))))))))
  (vss_one (vs_ret (ve_tup (va_cons (ve_s [116, 111, 108, 100] (by decide +kernel)) (va_cons (ve_n 3) va_nil))))))

end
end Vv


namespace Vv
def b_law_1 : Sf := (sSeq (sAsg (eListG [70, 29, 4, 5] 1 F_all_columns (aCons (eN 2) aNil)) (gtN 6))
  (sSeq (sIf (tOrD (tNotD (tT (eOpN (g1 allD) (aCons (eOf (lLc [12] (iIt (eN 6)) (gtN 12) tTrue (eOpN (isiD CS) (aCons (eN 12) (aCons (eC (.cl 0)) aNil))))) aNil)))) (tB2 (eOp2 vNe (eOf (lLc [12] (iIt (eN 6)) (gtN 12) tTrue (eOp1 (fldD 0 0) (eN 12)))) (eN 3)))) (sRet (eC (.bl false))) sNil)
  (sSeq (sAsg (eCall 1 F_how_many_columns (aCons (eN 2) aNil)) (gtN 7))
  (sSeq (sIf (tOrD (tNotD (tT (eOpN (isiD CS) (aCons (eN 7) (aCons (eC (.ty "int")) aNil))))) (tOrD (tT (eOpN (isiD CS) (aCons (eN 7) (aCons (eC (.ty "bool")) aNil)))) (tB2 (eOp2 vNe (eN 7) (eOpN (g1 lenV) (aCons (eN 3) aNil)))))) (sRet (eC (.bl false))) sNil)
  (sSeq (sIf (tB2 (eOp2 vNe (eOf (lLc [12] (iIt (eN 6)) (gtN 12) tTrue (eCall 1 F_column_index (aCons (eN 12) aNil)))) (eOf (lRg (aCons (eOpN (g1 lenV) (aCons (eN 3) aNil)) aNil))))) (sRet (eC (.bl false))) sNil)
  (sIf (tB2 (eOp2 vNe (eOf (lLc [13] (iRange rg1 (aCons (eOpN (g1 lenV) (aCons (eN 3) aNil)) aNil)) (gtN 13) tTrue (eOp1 (fldD 0 0) (eCall 2 F_column_at (aCons (eN 2) (aCons (eN 13) aNil)))))) (eN 3))) (sRet (eC (.bl false))) sNil))))))
def b_law : Sf := (sSeq (sAsg (eOp2 vAdd (eC (.int 1)) (eCallH 1 1 F_l_draw (aCons (eC (.int 6)) aNil))) (gtN 2))
  (sSeq (sAsg (eCall 1 F_l_all_words (aCons (eN 2) aNil)) (gtN 3))
  (sSeq (sAsg (eCallH 1 1 F_l_word (aCons (eN 2) aNil)) (gtN 4))
  (sSeq (sFor (iRange rg1 (aCons (eC (.int 2)) aNil)) (gtN 5)
  b_law_1)
  (sSeq (sAsg (eCall 1 F_column_index (aCons (eCall 1 F_Column___init__ (aCons (eN 4) aNil)) aNil)) (gtN 8))
  (sSeq (sIf (tOrD (tT (eOpN (isiD CS) (aCons (eN 8) (aCons (eC (.ty "bool")) aNil)))) (tOrD (tB2 (eOp2 vNe (eOp2 vIx (eN 3) (eN 8)) (eN 4))) (tB2 (eOp2 (eqO true 0 F_Column___eq__) (eCall 2 F_column_at (aCons (eN 2) (aCons (eN 8) aNil))) (eCall 1 F_Column___init__ (aCons (eN 4) aNil)))))) (sRet (eC (.bl false))) sNil)
  (sSeq (sIf (tOrD (tB2 (eOp2 (eqO true 0 F_Column___eq__) (eCall 1 F_plain_column (aCons (eN 2) aNil)) (eCall 1 F_Column___init__ (aCons (eOp2 vAdd (eOp2 vRepS (eC (.str [100])) (eN 2)) (eOp2 vRepS (eC (.str [111])) (eN 2))) aNil)))) (tB2 (eOp2 (eqO true 0 F_Column___eq__) (eCall 1 F_steep_column (aCons (eN 2) aNil)) (eCall 1 F_Column___init__ (aCons (eOp2 vRepS (eC (.str [100, 111])) (eN 2)) aNil))))) (sRet (eC (.bl false))) sNil)
  (sSeq (sIf (tOrD (tB2 (eOp2 vNe (eOp1 (fldD 0 0) (eCall 1 F_plain_column (aCons (eN 2) aNil))) (eOp2 vIx (eN 3) (eC (.int 0))))) (tB2 (eOp2 vNe (eOp1 (fldD 0 0) (eCall 1 F_steep_column (aCons (eN 2) aNil))) (eOp2 vIx (eN 3) (eOp1 negD (eC (.int 1))))))) (sRet (eC (.bl false))) sNil)
  (sSeq (sAsg (eOp2 vIx (eOpN gLstD (aCons (eOp1 negD (eC (.int 1))) (aCons (eOpN (g1 lenV) (aCons (eN 3) aNil)) (aCons (eC .non) (aCons (eC (.bl true)) (aCons (eC (.str [48])) (aCons (eOp2 vAdd (eOpN (g1 lenV) (aCons (eN 3) aNil)) (eOp2 (vI gPow) (eC (.int 10)) (eC (.int 20)))) (aCons (eOp1 negD (eOp2 (vI gPow) (eC (.int 10)) (eC (.int 20)))) (aCons (eC (.bl false)) aNil))))))))) (eCallH 1 1 F_l_draw (aCons (eC (.int 8)) aNil))) (gtN 9))
  (sSeq (sAsg (eCall 3 F_l_refused (aCons (eC (.int 4)) (aCons (eN 2) (aCons (eN 9) aNil)))) (gtN 6))
  (sSeq (sIf (tOrD (tB2 (eOp2 vNe (eN 6) (eOpN gTupD (aCons (eC (.str [110, 117, 109, 98, 101, 114])) (aCons (eN 9) aNil))))) (tB2 (eOp2 vNe (eOpN (isiD CS) (aCons (eOp2 vIx (eN 6) (eC (.int 1))) (aCons (eC (.ty "bool")) aNil))) (eOpN (isiD CS) (aCons (eN 9) (aCons (eC (.ty "bool")) aNil)))))) (sRet (eC (.bl false))) sNil)
  (sSeq (sAsg (eOp2 vIx (eOpN gLstD (aCons (eC (.int 0)) (aCons (eC (.int 7)) (aCons (eOp1 negD (eC (.int 1))) (aCons (eC .non) (aCons (eC (.bl true)) (aCons (eC (.str [50])) (aCons (eOp2 (vI gPow) (eC (.int 10)) (eC (.int 20))) (aCons (eOpN gLstD (aCons (eC (.int 2)) aNil)) (aCons (eC (.bl false)) aNil)))))))))) (eCallH 1 1 F_l_draw (aCons (eC (.int 9)) aNil))) (gtN 10))
  (sSeq (sAsg (eCallH 1 1 F_l_draw (aCons (eC (.int 5)) aNil)) (gtN 11))
  (sSeq (sAsg (eCall 3 F_l_refused (aCons (eN 11) (aCons (eN 10) (aCons (eIf (tB2 (eOp2 vEq (eCallH 1 1 F_l_draw (aCons (eC (.int 2)) aNil)) (eC (.int 0)))) (eN 9) (eC (.int 0))) aNil)))) (gtN 6))
  (sSeq (sIf (tOrD (tB2 (eOp2 vNe (eN 6) (eOpN gTupD (aCons (eC (.str [115, 105, 122, 101])) (aCons (eN 10) aNil))))) (tB2 (eOp2 vNe (eOpN (isiD CS) (aCons (eOp2 vIx (eN 6) (eC (.int 1))) (aCons (eC (.ty "bool")) aNil))) (eOpN (isiD CS) (aCons (eN 10) (aCons (eC (.ty "bool")) aNil)))))) (sRet (eC (.bl false))) sNil)
  (sRet (eOp2 vEq (eOp2 vIx (eCall 3 F_l_refused (aCons (eN 11) (aCons (eN 2) (aCons (eC (.int 0)) aNil)))) (eC (.int 0))) (eC (.str [116, 111, 108, 100])))))))))))))))))))
end Vv


namespace Vv
theorem gMul2 (n : Int) : gMul 2 n = some (2 * n) := by
  unfold gMul small64
  rw [if_pos (by simp)]
/-- all words with a d's and a + h o's, in order -/
def genW : Nat → Nat → Nat → List (List Nat)
  | 0, _, _ => [[]]
  | _ + 1, 0, 0 => [[]]
  | k + 1, 0, h + 1 => (genW k 0 h).map (111 :: ·)
  | k + 1, a + 1, 0 => (genW k a 1).map (100 :: ·)
  | k + 1, a + 1, h + 1 => (genW k a (h + 2)).map (100 :: ·) ++ (genW k (a + 1) h).map (111 :: ·)
theorem genW_all : ∀ (l : List Nat) (a h : Nat), l.count 100 = a → l.count 111 = a + h → (∀ c ∈ l, c = 100 ∨ c = 111) → (∀ k, k ≤ l.length → (l.take k).count 111 ≤ (l.take k).count 100 + h) → l ∈ genW l.length a h
  | [], a, h, _, _, _, _ => List.mem_singleton.mpr rfl
  | x :: r, a, h, h1, h2, h3, h4 => by
    have l3 : ∀ c ∈ r, c = 100 ∨ c = 111 := fun c hc => h3 c (List.mem_cons_of_mem _ hc)
    rcases h3 x List.mem_cons_self with rfl | rfl
    · rw [List.count_cons_self] at h1
      rw [List.count_cons_of_ne (by decide)] at h2
      obtain ⟨a, rfl⟩ : ∃ b, a = b + 1 := ⟨a - 1, by omega⟩
      have ih := genW_all r a (h + 1) (by omega) (by omega) l3 fun k hk => by
        have q := h4 (k + 1) (by rw [List.length_cons]; omega)
        rw [List.take_succ_cons, List.count_cons_self, List.count_cons_of_ne (by decide)] at q
        omega
      cases h with
      | zero => exact List.mem_map.mpr ⟨r, ih, rfl⟩
      | succ h => exact List.mem_append_left _ (List.mem_map.mpr ⟨r, ih, rfl⟩)
    · rw [List.count_cons_of_ne (by decide)] at h1
      rw [List.count_cons_self] at h2
      have q0 := h4 1 (by rw [List.length_cons]; omega)
      rw [List.take_succ_cons, List.take_zero, List.count_cons_self, List.count_cons_of_ne (by decide), List.count_nil, List.count_nil] at q0
      obtain ⟨h, rfl⟩ : ∃ b, h = b + 1 := ⟨h - 1, by omega⟩
      have ih := genW_all r a h h1 (by omega) l3 fun k hk => by
        have q := h4 (k + 1) (by rw [List.length_cons]; omega)
        rw [List.take_succ_cons, List.count_cons_self, List.count_cons_of_ne (by decide)] at q
        omega
      cases a with
      | zero => exact List.mem_map.mpr ⟨r, ih, rfl⟩
      | succ a => exact List.mem_append_right _ (List.mem_map.mpr ⟨r, ih, rfl⟩)
def WX (n : Nat) : List (List Nat) := genW (2 * n) n 0
theorem good_WX {l : List Nat} {n : Nat} (g : Good l n) : l ∈ WX n := by
  have c := ltr_count g.ltr
  have h := genW_all l n 0 g.cnt (by have := g.cnt; have := g.len; omega) g.ltr fun k hk => by rw [Nat.add_zero]; exact g.ahead k hk
  rw [g.len] at h
  exact h
end Vv

namespace Vv
/-! steps, one by one -/
theorem seq_asg {f : Ef} {i : Nat} {g : Sf} {ρ : En} {s s1 : S} {d : D} (h : f ρ s = .ok d s1) : sSeq (sAsg f (gtN i)) g ρ s = g (ρ.set i (.val d)) s1 := by
  unfold sSeq sAsg
  rw [h]
  rfl
theorem seq_for {it : Af} {gt : D → En → Option En} {b g : Sf} {ρ ρ' : En} {s s1 s' : S} {ds : List D} (h1 : it ρ s = .ok ds s1) (h2 : loopD gt b ds ρ s1 = .nx ρ' s') : sSeq (sFor it gt b) g ρ s = g ρ' s' := by
  unfold sSeq sFor
  rw [h1]
  show (loopD gt b ds ρ s1).then g = _
  rw [h2]
  rfl
theorem ret_of {f : Ef} {ρ : En} {s s1 : S} {d : D} (h : f ρ s = .ok d s1) : sRet f ρ s = .rt d s1 := by
  unfold sRet
  rw [h]
  rfl
abbrev envW (n : Nat) (l : List Nat) (h : Int) (k x y : Sl) : En := [.hand, .val (.int n), .val (.str l), .val (.int h), k, x, y]
theorem word_d {n : Nat} {l : List Nat} {h : Int} {st : HS} (k x y : Sl) (hl2 : l.length + 1 ≤ 1000) (h1 : l.count 100 < n) (h2 : h ≤ 0) : b_l_word_1 (envW n l h k x y) (some st) = .nx (envW n (l ++ [100]) (h + 1) k (.val (.bl false)) (.val (.bl true))) (some st) := by
  have h2' : ¬ 0 < h := by omega
  unfold b_l_word_1
  simp [sSeq, sAsg, sIf, tAndD, tOrD, tNotD, tT, tB2, eOp2, eM1, eCallH, eN, eC, aCons, aNil, R.bind, R.then, SR.then, opt, truD, blD, vCmp, vEq, pl, D.eqv, vAdd, vI, countD, lim, gtN, h1, h2', hl2]
theorem word_o {n : Nat} {l : List Nat} {h : Int} {st : HS} (k x y : Sl) (hl2 : l.length + 1 ≤ 1000) (h1 : ¬ l.count 100 < n) : b_l_word_1 (envW n l h k x y) (some st) = .nx (envW n (l ++ [111]) (h - 1) k (.val (.bl (decide (0 < h)))) (.val (.bl false))) (some st) := by
  unfold b_l_word_1
  simp [sSeq, sAsg, sIf, tAndD, tOrD, tNotD, tT, tB2, eOp2, eM1, eCallH, eN, eC, aCons, aNil, R.bind, R.then, SR.then, opt, truD, blD, vCmp, vEq, pl, D.eqv, vAdd, vI, countD, lim, gtN, h1, hl2]
theorem word_c {n : Nat} {l : List Nat} {h d : Int} {st st' : HS} (k x y : Sl) (hl2 : l.length + 1 ≤ 1000) (h1 : l.count 100 < n) (h2 : 0 < h) (e : F_l_draw [.int 2] (some st) = .ok (.int d) (some st')) :
    b_l_word_1 (envW n l h k x y) (some st) = .nx (envW n (l ++ [if d = 0 then 100 else 111]) (if d = 0 then h + 1 else h - 1) k (.val (.bl true)) (.val (.bl true))) (some st') := by
  unfold b_l_word_1
  by_cases h3 : d = 0
  · subst h3
    simp [sSeq, sAsg, sIf, tAndD, tOrD, tNotD, tT, tB2, eOp2, eM1, eCallH, eN, eC, aCons, aNil, R.bind, R.then, SR.then, opt, truD, blD, vCmp, vEq, pl, D.eqv, vAdd, vI, countD, lim, gtN, e, h1, h2, hl2]
  · simp [sSeq, sAsg, sIf, tAndD, tOrD, tNotD, tT, tB2, eOp2, eM1, eCallH, eN, eC, aCons, aNil, R.bind, R.then, SR.then, opt, truD, blD, vCmp, vEq, pl, D.eqv, vAdd, vI, countD, lim, gtN, e, h1, h2, h3, hl2]
theorem body_word {n : Nat} {l : List Nat} {st : HS} (k x y : Sl) (hn : n ≤ 6) (p : Part l n) (hl : l.length < 2 * n) (hs : hsOk st = true) :
    ∃ c st' x' y', b_l_word_1 (envW n l ((l.count 100 : Int) - l.count 111) k x y) (some st) = .nx (envW n (l ++ [c]) (((l ++ [c]).count 100 : Nat) - ((l ++ [c]).count 111 : Nat) : Int) k x' y') (some st') ∧ Part (l ++ [c]) n ∧ hsOk st' = true := by
  have c2 := ltr_count p.ltr
  have c1 := p.cnt
  have le := p.le
  have hl3 : l.length + 1 ≤ 1000 := by omega
  have cd := cnt_d l
  have co := cnt_o l
  by_cases h1 : l.count 100 < n
  · by_cases h2 : (0 : Int) < (l.count 100 : Int) - l.count 111
    · obtain ⟨d, st', e, d0, d1, hs'⟩ := draw_ok hs (m := 2) (by decide) (by decide)
      have w := word_c k x y hl3 h1 h2 e
      by_cases h3 : d = 0
      · rw [if_pos h3, if_pos h3, ← cd] at w
        exact ⟨100, st', _, _, w, p.snoc (.inl ⟨rfl, h1⟩), hs'⟩
      · rw [if_neg h3, if_neg h3, ← co] at w
        exact ⟨111, st', _, _, w, p.snoc (.inr ⟨rfl, by omega⟩), hs'⟩
    · have w := word_d (st := st) k x y hl3 h1 (Int.not_lt.mp h2)
      rw [← cd] at w
      exact ⟨100, st, _, _, w, p.snoc (.inl ⟨rfl, h1⟩), hs⟩
  · have w := word_o (st := st) (h := (l.count 100 : Int) - l.count 111) k x y hl3 h1
    rw [← co] at w
    exact ⟨111, st, _, _, w, p.snoc (.inr ⟨rfl, by omega⟩), hs⟩
theorem loop_word {n : Nat} (hn : n ≤ 6) : ∀ (ds : List D) (l : List Nat) (st : HS) (k x y : Sl), Part l n → l.length + ds.length = 2 * n → hsOk st = true →
    ∃ l' st' k' x' y', loopD (gtN 4) b_l_word_1 ds (envW n l ((l.count 100 : Int) - l.count 111) k x y) (some st) = .nx (envW n l' ((l'.count 100 : Int) - l'.count 111) k' x' y') (some st') ∧ Good l' n ∧ hsOk st' = true
  | [], l, st, k, x, y, p, hl, hs => ⟨l, st, k, x, y, rfl, p.good (by simpa using hl), hs⟩
  | d :: ds, l, st, k, x, y, p, hl, hs => by
    rw [List.length_cons] at hl
    obtain ⟨c, st1, x1, y1, e, p1, hs1⟩ := body_word (.val d) x y hn p (by omega) hs
    obtain ⟨l', st', k', x', y', e2, g, hs'⟩ := loop_word hn ds (l ++ [c]) st1 (.val d) x1 y1 p1 (by rw [List.length_append, List.length_singleton]; omega) hs1
    refine ⟨l', st', k', x', y', ?_, g, hs'⟩
    rw [← e2]
    show (match b_l_word_1 (envW n l ((l.count 100 : Int) - l.count 111) (.val d) x y) (some st) with
      | .nx ρ2 s2 => loopD (gtN 4) b_l_word_1 ds ρ2 s2
      | .ct ρ2 s2 => loopD (gtN 4) b_l_word_1 ds ρ2 s2
      | .bk ρ2 s2 => .nx ρ2 s2
      | r => r) = _
    rw [e]
theorem rg1_ok {n : Nat} (hn : n ≤ 100) : rg1 [2 * (n : Int)] = some (rangeL 0 (2 * n)) := by
  have b : big (2 * (n : Int)) = true := by
    unfold big
    rw [Bool.and_eq_true]
    exact ⟨decide_eq_true (by omega), decide_eq_true (by omega)⟩
  have e : (2 * (n : Int)).toNat = 2 * n := by omega
  unfold rg1
  simp only [b, e, if_true]
theorem range_len (n : Nat) : (rangeL 0 n).length = n := by
  unfold rangeL
  rw [List.length_map, List.length_range]
theorem op2_ok {g : D → D → Option D} {fa fb : Ef} {ρ : En} {s s1 s2 : S} {x y d : D} (h1 : fa ρ s = .ok x s1) (h2 : fb ρ s1 = .ok y s2) (h3 : g x y = some d) : eOp2 g fa fb ρ s = .ok d s2 := by
  unfold eOp2
  rw [h1]
  show (fb ρ s1).bind _ = _
  rw [h2]
  show opt (g x y) s2 = _
  rw [h3]
  rfl
theorem cons_ok {fa : Ef} {fr : Af} {ρ : En} {s s1 s2 : S} {x : D} {xs : List D} (h1 : fa ρ s = .ok x s1) (h2 : fr ρ s1 = .ok xs s2) : aCons fa fr ρ s = .ok (x :: xs) s2 := by
  unfold aCons
  rw [h1]
  show (fr ρ s1).bind _ = _
  rw [h2]
  rfl
theorem range_ok {rg : List Int → Option (List D)} {fa : Af} {ρ : En} {s s1 : S} {ds es : List D} {is : List Int} (h1 : fa ρ s = .ok ds s1) (h2 : dInts ds = some is) (h3 : rg is = some es) : iRange rg fa ρ s = .ok es s1 := by
  unfold iRange
  rw [h1]
  show opt ((dInts ds).bind rg) s1 = _
  rw [h2]
  show opt (rg is) s1 = _
  rw [h3]
  rfl
theorem word_f1 {n : Nat} (st : S) (hn : n ≤ 6) : iRange rg1 (aCons (eOp2 (vI gMul) (eC (.int 2)) (eN 1)) aNil) [.hand, .val (.int n), .val (.str []), .val (.int 0), .no, .no, .no] st = .ok (rangeL 0 (2 * n)) st := by
  have g2 : vI gMul (.int 2) (.int (n : Int)) = some (.int (2 * (n : Int))) := by
    show (gMul 2 (n : Int)).map D.int = _
    rw [gMul2 n]
    rfl
  exact range_ok (cons_ok (op2_ok (x := .int 2) (y := .int n) (s1 := st) (s2 := st) rfl rfl g2) (xs := []) rfl) (is := [2 * (n : Int)]) rfl (rg1_ok (by omega))
theorem word_f0 (n : Int) (st : S) : F_l_word [.int n] st = resH (b_l_word [.hand, .val (.int n), .no, .no, .no, .no, .no] st) := by
  unfold F_l_word
  generalize b_l_word = g
  rfl
theorem word_f2 (n : Int) (st : S) : b_l_word [.hand, .val (.int n), .no, .no, .no, .no, .no] st = sSeq (sFor (iRange rg1 (aCons (eOp2 (vI gMul) (eC (.int 2)) (eN 1)) aNil)) (gtN 4) b_l_word_1) (sRet (eN 2)) [.hand, .val (.int n), .val (.str []), .val (.int 0), .no, .no, .no] st := by
  unfold b_l_word
  rw [seq_asg (d := .str []) (s1 := st) rfl, seq_asg (d := .int 0) (s1 := st) rfl]
  rfl
/-- a word is drawn -/
theorem word_ok {n : Nat} {st : HS} (hn : n ≤ 6) (hs : hsOk st = true) : ∃ l st', F_l_word [.int n] (some st) = .ok (.str l) (some st') ∧ Good l n ∧ hsOk st' = true := by
  obtain ⟨l, st', k', x', y', e, g, hs'⟩ := loop_word hn (rangeL 0 (2 * n)) [] st .no .no .no (Part.nil n) (by rw [range_len, List.length_nil, Nat.zero_add]) hs
  refine ⟨l, st', ?_, g, hs'⟩
  have z : (((List.count 100 ([] : List Nat) : Nat) : Int) - ((List.count 111 ([] : List Nat) : Nat) : Int)) = 0 := rfl
  rw [z] at e
  have f1 := word_f1 (some st) hn
  rw [word_f0, word_f2]
  generalize iRange rg1 (aCons (eOp2 (vI gMul) (eC (.int 2)) (eN 1)) aNil) = it at f1 ⊢
  rw [seq_for f1 e, ret_of (d := .str l) (s1 := some st') rfl]
  rfl
end Vv

namespace Vv
def lw_0 : Sf := (sAsg (eOp2 vAdd (eC (.int 1)) (eCallH 1 1 F_l_draw (aCons (eC (.int 6)) aNil))) (gtN 2))
def lw_1 : Sf := (sAsg (eCall 1 F_l_all_words (aCons (eN 2) aNil)) (gtN 3))
def lw_2 : Sf := (sAsg (eCallH 1 1 F_l_word (aCons (eN 2) aNil)) (gtN 4))
def lw_3 : Sf := (sFor (iRange rg1 (aCons (eC (.int 2)) aNil)) (gtN 5)
  b_law_1)
def lw_4 : Sf := (sAsg (eCall 1 F_column_index (aCons (eCall 1 F_Column___init__ (aCons (eN 4) aNil)) aNil)) (gtN 8))
def lw_5 : Sf := (sIf (tOrD (tT (eOpN (isiD CS) (aCons (eN 8) (aCons (eC (.ty "bool")) aNil)))) (tOrD (tB2 (eOp2 vNe (eOp2 vIx (eN 3) (eN 8)) (eN 4))) (tB2 (eOp2 (eqO true 0 F_Column___eq__) (eCall 2 F_column_at (aCons (eN 2) (aCons (eN 8) aNil))) (eCall 1 F_Column___init__ (aCons (eN 4) aNil)))))) (sRet (eC (.bl false))) sNil)
def lw_6 : Sf := (sIf (tOrD (tB2 (eOp2 (eqO true 0 F_Column___eq__) (eCall 1 F_plain_column (aCons (eN 2) aNil)) (eCall 1 F_Column___init__ (aCons (eOp2 vAdd (eOp2 vRepS (eC (.str [100])) (eN 2)) (eOp2 vRepS (eC (.str [111])) (eN 2))) aNil)))) (tB2 (eOp2 (eqO true 0 F_Column___eq__) (eCall 1 F_steep_column (aCons (eN 2) aNil)) (eCall 1 F_Column___init__ (aCons (eOp2 vRepS (eC (.str [100, 111])) (eN 2)) aNil))))) (sRet (eC (.bl false))) sNil)
def lw_7 : Sf := (sIf (tOrD (tB2 (eOp2 vNe (eOp1 (fldD 0 0) (eCall 1 F_plain_column (aCons (eN 2) aNil))) (eOp2 vIx (eN 3) (eC (.int 0))))) (tB2 (eOp2 vNe (eOp1 (fldD 0 0) (eCall 1 F_steep_column (aCons (eN 2) aNil))) (eOp2 vIx (eN 3) (eOp1 negD (eC (.int 1))))))) (sRet (eC (.bl false))) sNil)
def lw_8 : Sf := (sAsg (eOp2 vIx (eOpN gLstD (aCons (eOp1 negD (eC (.int 1))) (aCons (eOpN (g1 lenV) (aCons (eN 3) aNil)) (aCons (eC .non) (aCons (eC (.bl true)) (aCons (eC (.str [48])) (aCons (eOp2 vAdd (eOpN (g1 lenV) (aCons (eN 3) aNil)) (eOp2 (vI gPow) (eC (.int 10)) (eC (.int 20)))) (aCons (eOp1 negD (eOp2 (vI gPow) (eC (.int 10)) (eC (.int 20)))) (aCons (eC (.bl false)) aNil))))))))) (eCallH 1 1 F_l_draw (aCons (eC (.int 8)) aNil))) (gtN 9))
def lw_9 : Sf := (sAsg (eCall 3 F_l_refused (aCons (eC (.int 4)) (aCons (eN 2) (aCons (eN 9) aNil)))) (gtN 6))
def lw_10 : Sf := (sIf (tOrD (tB2 (eOp2 vNe (eN 6) (eOpN gTupD (aCons (eC (.str [110, 117, 109, 98, 101, 114])) (aCons (eN 9) aNil))))) (tB2 (eOp2 vNe (eOpN (isiD CS) (aCons (eOp2 vIx (eN 6) (eC (.int 1))) (aCons (eC (.ty "bool")) aNil))) (eOpN (isiD CS) (aCons (eN 9) (aCons (eC (.ty "bool")) aNil)))))) (sRet (eC (.bl false))) sNil)
def lw_11 : Sf := (sAsg (eOp2 vIx (eOpN gLstD (aCons (eC (.int 0)) (aCons (eC (.int 7)) (aCons (eOp1 negD (eC (.int 1))) (aCons (eC .non) (aCons (eC (.bl true)) (aCons (eC (.str [50])) (aCons (eOp2 (vI gPow) (eC (.int 10)) (eC (.int 20))) (aCons (eOpN gLstD (aCons (eC (.int 2)) aNil)) (aCons (eC (.bl false)) aNil)))))))))) (eCallH 1 1 F_l_draw (aCons (eC (.int 9)) aNil))) (gtN 10))
def lw_12 : Sf := (sAsg (eCallH 1 1 F_l_draw (aCons (eC (.int 5)) aNil)) (gtN 11))
def lw_13 : Sf := (sAsg (eCall 3 F_l_refused (aCons (eN 11) (aCons (eN 10) (aCons (eIf (tB2 (eOp2 vEq (eCallH 1 1 F_l_draw (aCons (eC (.int 2)) aNil)) (eC (.int 0)))) (eN 9) (eC (.int 0))) aNil)))) (gtN 6))
def lw_14 : Sf := (sIf (tOrD (tB2 (eOp2 vNe (eN 6) (eOpN gTupD (aCons (eC (.str [115, 105, 122, 101])) (aCons (eN 10) aNil))))) (tB2 (eOp2 vNe (eOpN (isiD CS) (aCons (eOp2 vIx (eN 6) (eC (.int 1))) (aCons (eC (.ty "bool")) aNil))) (eOpN (isiD CS) (aCons (eN 10) (aCons (eC (.ty "bool")) aNil)))))) (sRet (eC (.bl false))) sNil)
def lw_15 : Sf := (sRet (eOp2 vEq (eOp2 vIx (eCall 3 F_l_refused (aCons (eN 11) (aCons (eN 2) (aCons (eC (.int 0)) aNil)))) (eC (.int 0))) (eC (.str [116, 111, 108, 100]))))
theorem lw_split : b_law = (sSeq lw_0 (sSeq lw_1 (sSeq lw_2 (sSeq lw_3 (sSeq lw_4 (sSeq lw_5 (sSeq lw_6 (sSeq lw_7 (sSeq lw_8 (sSeq lw_9 (sSeq lw_10 (sSeq lw_11 (sSeq lw_12 (sSeq lw_13 (sSeq lw_14 lw_15))))))))))))))) := rfl
end Vv

namespace Vv
def lp_0 : Sf := (sAsg (eListG [70, 29, 4, 5] 1 F_all_columns (aCons (eN 2) aNil)) (gtN 6))
def lp_1 : Sf := (sIf (tOrD (tNotD (tT (eOpN (g1 allD) (aCons (eOf (lLc [12] (iIt (eN 6)) (gtN 12) tTrue (eOpN (isiD CS) (aCons (eN 12) (aCons (eC (.cl 0)) aNil))))) aNil)))) (tB2 (eOp2 vNe (eOf (lLc [12] (iIt (eN 6)) (gtN 12) tTrue (eOp1 (fldD 0 0) (eN 12)))) (eN 3)))) (sRet (eC (.bl false))) sNil)
def lp_2 : Sf := (sAsg (eCall 1 F_how_many_columns (aCons (eN 2) aNil)) (gtN 7))
def lp_3 : Sf := (sIf (tOrD (tNotD (tT (eOpN (isiD CS) (aCons (eN 7) (aCons (eC (.ty "int")) aNil))))) (tOrD (tT (eOpN (isiD CS) (aCons (eN 7) (aCons (eC (.ty "bool")) aNil)))) (tB2 (eOp2 vNe (eN 7) (eOpN (g1 lenV) (aCons (eN 3) aNil)))))) (sRet (eC (.bl false))) sNil)
def lp_4 : Sf := (sIf (tB2 (eOp2 vNe (eOf (lLc [12] (iIt (eN 6)) (gtN 12) tTrue (eCall 1 F_column_index (aCons (eN 12) aNil)))) (eOf (lRg (aCons (eOpN (g1 lenV) (aCons (eN 3) aNil)) aNil))))) (sRet (eC (.bl false))) sNil)
def lp_5 : Sf := (sIf (tB2 (eOp2 vNe (eOf (lLc [13] (iRange rg1 (aCons (eOpN (g1 lenV) (aCons (eN 3) aNil)) aNil)) (gtN 13) tTrue (eOp1 (fldD 0 0) (eCall 2 F_column_at (aCons (eN 2) (aCons (eN 13) aNil)))))) (eN 3))) (sRet (eC (.bl false))) sNil)
theorem lp_split : b_law_1 = (sSeq lp_0 (sSeq lp_1 (sSeq lp_2 (sSeq lp_3 (sSeq lp_4 lp_5))))) := rfl
end Vv

namespace Vv
theorem seq_of {a g : Sf} {ρ ρ' : En} {s s' : S} (h : a ρ s = .nx ρ' s') : sSeq a g ρ s = g ρ' s' := by
  unfold sSeq
  rw [h]
  rfl
def colX (n : Nat) (l : List Nat) : D := .obj 0 [.str l, .int (n : Nat)]
abbrev E4 (n : Nat) (dw : D) (t x6 x7 x8 x9 x10 x11 : Sl) : En := [.no, .hand, .val (.int n), .val (.lst ((WX n).map .str)), .val dw, t, x6, x7, x8, x9, x10, x11, .no, .no]
abbrev E4w (n : Nat) (w : Sl) (dw : Sl) : En := [.no, .hand, .val (.int n), w, dw, .no, .no, .no, .no, .no, .no, .no, .no, .no]
def farL (n : Nat) : List D := [.int (-1), .int (((WX n).map D.str).length : Nat), .non, .bl true, .str [48], .int ((((WX n).map D.str).length : Nat) + 10 ^ 20), .int (-(10 ^ 20)), .bl false]
def oddL : List D := [.int 0, .int 7, .int (-1), .non, .bl true, .str [50], .int (10 ^ 20), .lst [.int 2], .bl false]
def wayL : List Int := [0, 1, 2, 3, 4]
def refN (f : D) : D := .tup [.str [110, 117, 109, 98, 101, 114], f]
def refS (f : D) : D := .tup [.str [115, 105, 122, 101], f]
structure K4 (n : Nat) : Prop where
  s1 : ∀ s, lw_1 (E4w n .no .no) s = .nx (E4w n (.val (.lst ((WX n).map .str))) .no) s
  lp : ∀ (dw : D) (t x6 x7 : Sl) (s : S), b_law_1 (E4 n dw t x6 x7 .no .no .no .no) s = .nx (E4 n dw t (.val (.lst ((WX n).map (colX n)))) (.val (.int ((WX n).length : Nat))) .no .no .no .no) s
  s4 : ∀ (t x6 x7 : Sl) (s : S), (WX n).map (fun l => lw_4 (E4 n (.str l) t x6 x7 .no .no .no .no) s) = (WX n).zipIdx.map (fun p => .nx (E4 n (.str p.1) t x6 x7 (.val (.int (p.2 : Nat))) .no .no .no) s)
  s5 : ∀ (t x6 x7 : Sl) (s : S), (WX n).zipIdx.map (fun p => lw_5 (E4 n (.str p.1) t x6 x7 (.val (.int (p.2 : Nat))) .no .no .no) s) = (WX n).zipIdx.map (fun p => .nx (E4 n (.str p.1) t x6 x7 (.val (.int (p.2 : Nat))) .no .no .no) s)
  s6 : ∀ (dw : D) (t x6 x7 x8 : Sl) (s : S), lw_6 (E4 n dw t x6 x7 x8 .no .no .no) s = .nx (E4 n dw t x6 x7 x8 .no .no .no) s
  s7 : ∀ (dw : D) (t x6 x7 x8 : Sl) (s : S), lw_7 (E4 n dw t x6 x7 x8 .no .no .no) s = .nx (E4 n dw t x6 x7 x8 .no .no .no) s
  s9 : ∀ f ∈ farL n, ∀ (dw : D) (t x6 x7 x8 : Sl) (s : S), lw_9 (E4 n dw t x6 x7 x8 (.val f) .no .no) s = .nx (E4 n dw t (.val (refN f)) x7 x8 (.val f) .no .no) s
  s10 : ∀ f ∈ farL n, ∀ (dw : D) (t x7 x8 : Sl) (s : S), lw_10 (E4 n dw t (.val (refN f)) x7 x8 (.val f) .no .no) s = .nx (E4 n dw t (.val (refN f)) x7 x8 (.val f) .no .no) s
  s15 : ∀ w ∈ wayL, ∀ (dw : D) (t x6 x7 x8 x9 x10 : Sl) (s : S), lw_15 (E4 n dw t x6 x7 x8 x9 x10 (.val (.int w))) s = .rt (.bl true) s
abbrev colsL (n : Nat) : Sl := .val (.lst ((WX n).map (colX n)))
abbrev manyL (n : Nat) : Sl := .val (.int ((WX n).length : Nat))
theorem p1_0 (dw : D) (t x6 x7 : Sl) (s : S) : lp_0 (E4 1 dw t x6 x7 .no .no .no .no) s = .nx (E4 1 dw t (colsL 1) x7 .no .no .no .no) s := by kernel_rfl
theorem p1_1 (dw : D) (t x6 x7 : Sl) (s : S) : lp_1 (E4 1 dw t (colsL 1) x7 .no .no .no .no) s = .nx (E4 1 dw t (colsL 1) x7 .no .no .no .no) s := by kernel_rfl
theorem p1_2 (dw : D) (t x6 x7 : Sl) (s : S) : lp_2 (E4 1 dw t (colsL 1) x7 .no .no .no .no) s = .nx (E4 1 dw t (colsL 1) (manyL 1) .no .no .no .no) s := by kernel_rfl
theorem p1_3 (dw : D) (t x6 x7 : Sl) (s : S) : lp_3 (E4 1 dw t (colsL 1) (manyL 1) .no .no .no .no) s = .nx (E4 1 dw t (colsL 1) (manyL 1) .no .no .no .no) s := by kernel_rfl
theorem p1_4 (dw : D) (t x6 x7 : Sl) (s : S) : lp_4 (E4 1 dw t (colsL 1) (manyL 1) .no .no .no .no) s = .nx (E4 1 dw t (colsL 1) (manyL 1) .no .no .no .no) s := by kernel_rfl
theorem p1_5 (dw : D) (t x6 x7 : Sl) (s : S) : lp_5 (E4 1 dw t (colsL 1) (manyL 1) .no .no .no .no) s = .nx (E4 1 dw t (colsL 1) (manyL 1) .no .no .no .no) s := by kernel_rfl
theorem k1_s1 (s : S) : lw_1 (E4w 1 .no .no) s = .nx (E4w 1 (.val (.lst ((WX 1).map .str))) .no) s := by kernel_rfl
theorem k1_s4 (t x6 x7 : Sl) (s : S) : (WX 1).map (fun l => lw_4 (E4 1 (.str l) t x6 x7 .no .no .no .no) s) = (WX 1).zipIdx.map (fun p => .nx (E4 1 (.str p.1) t x6 x7 (.val (.int (p.2 : Nat))) .no .no .no) s) := by kernel_rfl
theorem k1_s5 (t x6 x7 : Sl) (s : S) : (WX 1).zipIdx.map (fun p => lw_5 (E4 1 (.str p.1) t x6 x7 (.val (.int (p.2 : Nat))) .no .no .no) s) = (WX 1).zipIdx.map (fun p => .nx (E4 1 (.str p.1) t x6 x7 (.val (.int (p.2 : Nat))) .no .no .no) s) := by kernel_rfl
theorem k1_s6 (dw : D) (t x6 x7 x8 : Sl) (s : S) : lw_6 (E4 1 dw t x6 x7 x8 .no .no .no) s = .nx (E4 1 dw t x6 x7 x8 .no .no .no) s := by kernel_rfl
theorem k1_s7 (dw : D) (t x6 x7 x8 : Sl) (s : S) : lw_7 (E4 1 dw t x6 x7 x8 .no .no .no) s = .nx (E4 1 dw t x6 x7 x8 .no .no .no) s := by kernel_rfl
theorem k1_s9 : ∀ f ∈ farL 1, ∀ (dw : D) (t x6 x7 x8 : Sl) (s : S), lw_9 (E4 1 dw t x6 x7 x8 (.val f) .no .no) s = .nx (E4 1 dw t (.val (refN f)) x7 x8 (.val f) .no .no) s := by
  unfold farL
  exact List.forall_mem_cons.mpr ⟨by intros; kernel_rfl, List.forall_mem_cons.mpr ⟨by intros; kernel_rfl, List.forall_mem_cons.mpr ⟨by intros; kernel_rfl, List.forall_mem_cons.mpr ⟨by intros; kernel_rfl, List.forall_mem_cons.mpr ⟨by intros; kernel_rfl, List.forall_mem_cons.mpr ⟨by intros; kernel_rfl, List.forall_mem_cons.mpr ⟨by intros; kernel_rfl, List.forall_mem_cons.mpr ⟨by intros; kernel_rfl, fun _ h => nomatch h⟩⟩⟩⟩⟩⟩⟩⟩
theorem k1_s10 : ∀ f ∈ farL 1, ∀ (dw : D) (t x7 x8 : Sl) (s : S), lw_10 (E4 1 dw t (.val (refN f)) x7 x8 (.val f) .no .no) s = .nx (E4 1 dw t (.val (refN f)) x7 x8 (.val f) .no .no) s := by
  unfold farL
  exact List.forall_mem_cons.mpr ⟨by intros; kernel_rfl, List.forall_mem_cons.mpr ⟨by intros; kernel_rfl, List.forall_mem_cons.mpr ⟨by intros; kernel_rfl, List.forall_mem_cons.mpr ⟨by intros; kernel_rfl, List.forall_mem_cons.mpr ⟨by intros; kernel_rfl, List.forall_mem_cons.mpr ⟨by intros; kernel_rfl, List.forall_mem_cons.mpr ⟨by intros; kernel_rfl, List.forall_mem_cons.mpr ⟨by intros; kernel_rfl, fun _ h => nomatch h⟩⟩⟩⟩⟩⟩⟩⟩
theorem k1_w0 (dw : D) (t x6 x7 x8 x9 x10 : Sl) (s : S) : lw_15 (E4 1 dw t x6 x7 x8 x9 x10 (.val (.int 0))) s = .rt (.bl true) s := by kernel_rfl
theorem k1_w1 (dw : D) (t x6 x7 x8 x9 x10 : Sl) (s : S) : lw_15 (E4 1 dw t x6 x7 x8 x9 x10 (.val (.int 1))) s = .rt (.bl true) s := by kernel_rfl
theorem k1_w2 (dw : D) (t x6 x7 x8 x9 x10 : Sl) (s : S) : lw_15 (E4 1 dw t x6 x7 x8 x9 x10 (.val (.int 2))) s = .rt (.bl true) s := by kernel_rfl
theorem k1_w3 (dw : D) (t x6 x7 x8 x9 x10 : Sl) (s : S) : lw_15 (E4 1 dw t x6 x7 x8 x9 x10 (.val (.int 3))) s = .rt (.bl true) s := by kernel_rfl
theorem k1_w4 (dw : D) (t x6 x7 x8 x9 x10 : Sl) (s : S) : lw_15 (E4 1 dw t x6 x7 x8 x9 x10 (.val (.int 4))) s = .rt (.bl true) s := by kernel_rfl
theorem k4_1 : K4 1 where
  s1 := k1_s1
  lp := fun dw t x6 x7 s => by
    rw [lp_split]
    exact (seq_of (p1_0 dw t x6 x7 s)).trans ((seq_of (p1_1 dw t x6 x7 s)).trans ((seq_of (p1_2 dw t x6 x7 s)).trans ((seq_of (p1_3 dw t x6 x7 s)).trans ((seq_of (p1_4 dw t x6 x7 s)).trans (p1_5 dw t x6 x7 s)))))
  s4 := k1_s4
  s5 := k1_s5
  s6 := k1_s6
  s7 := k1_s7
  s9 := k1_s9
  s10 := k1_s10
  s15 := by
    unfold wayL
    exact List.forall_mem_cons.mpr ⟨k1_w0, List.forall_mem_cons.mpr ⟨k1_w1, List.forall_mem_cons.mpr ⟨k1_w2, List.forall_mem_cons.mpr ⟨k1_w3, List.forall_mem_cons.mpr ⟨k1_w4, fun _ h => nomatch h⟩⟩⟩⟩⟩
theorem p2_0 (dw : D) (t x6 x7 : Sl) (s : S) : lp_0 (E4 2 dw t x6 x7 .no .no .no .no) s = .nx (E4 2 dw t (colsL 2) x7 .no .no .no .no) s := by kernel_rfl
theorem p2_1 (dw : D) (t x6 x7 : Sl) (s : S) : lp_1 (E4 2 dw t (colsL 2) x7 .no .no .no .no) s = .nx (E4 2 dw t (colsL 2) x7 .no .no .no .no) s := by kernel_rfl
theorem p2_2 (dw : D) (t x6 x7 : Sl) (s : S) : lp_2 (E4 2 dw t (colsL 2) x7 .no .no .no .no) s = .nx (E4 2 dw t (colsL 2) (manyL 2) .no .no .no .no) s := by kernel_rfl
theorem p2_3 (dw : D) (t x6 x7 : Sl) (s : S) : lp_3 (E4 2 dw t (colsL 2) (manyL 2) .no .no .no .no) s = .nx (E4 2 dw t (colsL 2) (manyL 2) .no .no .no .no) s := by kernel_rfl
theorem p2_4 (dw : D) (t x6 x7 : Sl) (s : S) : lp_4 (E4 2 dw t (colsL 2) (manyL 2) .no .no .no .no) s = .nx (E4 2 dw t (colsL 2) (manyL 2) .no .no .no .no) s := by kernel_rfl
theorem p2_5 (dw : D) (t x6 x7 : Sl) (s : S) : lp_5 (E4 2 dw t (colsL 2) (manyL 2) .no .no .no .no) s = .nx (E4 2 dw t (colsL 2) (manyL 2) .no .no .no .no) s := by kernel_rfl
theorem k2_s1 (s : S) : lw_1 (E4w 2 .no .no) s = .nx (E4w 2 (.val (.lst ((WX 2).map .str))) .no) s := by kernel_rfl
theorem k2_s4 (t x6 x7 : Sl) (s : S) : (WX 2).map (fun l => lw_4 (E4 2 (.str l) t x6 x7 .no .no .no .no) s) = (WX 2).zipIdx.map (fun p => .nx (E4 2 (.str p.1) t x6 x7 (.val (.int (p.2 : Nat))) .no .no .no) s) := by kernel_rfl
theorem k2_s5 (t x6 x7 : Sl) (s : S) : (WX 2).zipIdx.map (fun p => lw_5 (E4 2 (.str p.1) t x6 x7 (.val (.int (p.2 : Nat))) .no .no .no) s) = (WX 2).zipIdx.map (fun p => .nx (E4 2 (.str p.1) t x6 x7 (.val (.int (p.2 : Nat))) .no .no .no) s) := by kernel_rfl
theorem k2_s6 (dw : D) (t x6 x7 x8 : Sl) (s : S) : lw_6 (E4 2 dw t x6 x7 x8 .no .no .no) s = .nx (E4 2 dw t x6 x7 x8 .no .no .no) s := by kernel_rfl
theorem k2_s7 (dw : D) (t x6 x7 x8 : Sl) (s : S) : lw_7 (E4 2 dw t x6 x7 x8 .no .no .no) s = .nx (E4 2 dw t x6 x7 x8 .no .no .no) s := by kernel_rfl
theorem k2_s9 : ∀ f ∈ farL 2, ∀ (dw : D) (t x6 x7 x8 : Sl) (s : S), lw_9 (E4 2 dw t x6 x7 x8 (.val f) .no .no) s = .nx (E4 2 dw t (.val (refN f)) x7 x8 (.val f) .no .no) s := by
  unfold farL
  exact List.forall_mem_cons.mpr ⟨by intros; kernel_rfl, List.forall_mem_cons.mpr ⟨by intros; kernel_rfl, List.forall_mem_cons.mpr ⟨by intros; kernel_rfl, List.forall_mem_cons.mpr ⟨by intros; kernel_rfl, List.forall_mem_cons.mpr ⟨by intros; kernel_rfl, List.forall_mem_cons.mpr ⟨by intros; kernel_rfl, List.forall_mem_cons.mpr ⟨by intros; kernel_rfl, List.forall_mem_cons.mpr ⟨by intros; kernel_rfl, fun _ h => nomatch h⟩⟩⟩⟩⟩⟩⟩⟩
theorem k2_s10 : ∀ f ∈ farL 2, ∀ (dw : D) (t x7 x8 : Sl) (s : S), lw_10 (E4 2 dw t (.val (refN f)) x7 x8 (.val f) .no .no) s = .nx (E4 2 dw t (.val (refN f)) x7 x8 (.val f) .no .no) s := by
  unfold farL
  exact List.forall_mem_cons.mpr ⟨by intros; kernel_rfl, List.forall_mem_cons.mpr ⟨by intros; kernel_rfl, List.forall_mem_cons.mpr ⟨by intros; kernel_rfl, List.forall_mem_cons.mpr ⟨by intros; kernel_rfl, List.forall_mem_cons.mpr ⟨by intros; kernel_rfl, List.forall_mem_cons.mpr ⟨by intros; kernel_rfl, List.forall_mem_cons.mpr ⟨by intros; kernel_rfl, List.forall_mem_cons.mpr ⟨by intros; kernel_rfl, fun _ h => nomatch h⟩⟩⟩⟩⟩⟩⟩⟩
theorem k2_w0 (dw : D) (t x6 x7 x8 x9 x10 : Sl) (s : S) : lw_15 (E4 2 dw t x6 x7 x8 x9 x10 (.val (.int 0))) s = .rt (.bl true) s := by kernel_rfl
theorem k2_w1 (dw : D) (t x6 x7 x8 x9 x10 : Sl) (s : S) : lw_15 (E4 2 dw t x6 x7 x8 x9 x10 (.val (.int 1))) s = .rt (.bl true) s := by kernel_rfl
theorem k2_w2 (dw : D) (t x6 x7 x8 x9 x10 : Sl) (s : S) : lw_15 (E4 2 dw t x6 x7 x8 x9 x10 (.val (.int 2))) s = .rt (.bl true) s := by kernel_rfl
theorem k2_w3 (dw : D) (t x6 x7 x8 x9 x10 : Sl) (s : S) : lw_15 (E4 2 dw t x6 x7 x8 x9 x10 (.val (.int 3))) s = .rt (.bl true) s := by kernel_rfl
theorem k2_w4 (dw : D) (t x6 x7 x8 x9 x10 : Sl) (s : S) : lw_15 (E4 2 dw t x6 x7 x8 x9 x10 (.val (.int 4))) s = .rt (.bl true) s := by kernel_rfl
theorem k4_2 : K4 2 where
  s1 := k2_s1
  lp := fun dw t x6 x7 s => by
    rw [lp_split]
    exact (seq_of (p2_0 dw t x6 x7 s)).trans ((seq_of (p2_1 dw t x6 x7 s)).trans ((seq_of (p2_2 dw t x6 x7 s)).trans ((seq_of (p2_3 dw t x6 x7 s)).trans ((seq_of (p2_4 dw t x6 x7 s)).trans (p2_5 dw t x6 x7 s)))))
  s4 := k2_s4
  s5 := k2_s5
  s6 := k2_s6
  s7 := k2_s7
  s9 := k2_s9
  s10 := k2_s10
  s15 := by
    unfold wayL
    exact List.forall_mem_cons.mpr ⟨k2_w0, List.forall_mem_cons.mpr ⟨k2_w1, List.forall_mem_cons.mpr ⟨k2_w2, List.forall_mem_cons.mpr ⟨k2_w3, List.forall_mem_cons.mpr ⟨k2_w4, fun _ h => nomatch h⟩⟩⟩⟩⟩
theorem p3_0 (dw : D) (t x6 x7 : Sl) (s : S) : lp_0 (E4 3 dw t x6 x7 .no .no .no .no) s = .nx (E4 3 dw t (colsL 3) x7 .no .no .no .no) s := by kernel_rfl
theorem p3_1 (dw : D) (t x6 x7 : Sl) (s : S) : lp_1 (E4 3 dw t (colsL 3) x7 .no .no .no .no) s = .nx (E4 3 dw t (colsL 3) x7 .no .no .no .no) s := by kernel_rfl
theorem p3_2 (dw : D) (t x6 x7 : Sl) (s : S) : lp_2 (E4 3 dw t (colsL 3) x7 .no .no .no .no) s = .nx (E4 3 dw t (colsL 3) (manyL 3) .no .no .no .no) s := by kernel_rfl
theorem p3_3 (dw : D) (t x6 x7 : Sl) (s : S) : lp_3 (E4 3 dw t (colsL 3) (manyL 3) .no .no .no .no) s = .nx (E4 3 dw t (colsL 3) (manyL 3) .no .no .no .no) s := by kernel_rfl
theorem p3_4 (dw : D) (t x6 x7 : Sl) (s : S) : lp_4 (E4 3 dw t (colsL 3) (manyL 3) .no .no .no .no) s = .nx (E4 3 dw t (colsL 3) (manyL 3) .no .no .no .no) s := by kernel_rfl
theorem p3_5 (dw : D) (t x6 x7 : Sl) (s : S) : lp_5 (E4 3 dw t (colsL 3) (manyL 3) .no .no .no .no) s = .nx (E4 3 dw t (colsL 3) (manyL 3) .no .no .no .no) s := by kernel_rfl
theorem k3_s1 (s : S) : lw_1 (E4w 3 .no .no) s = .nx (E4w 3 (.val (.lst ((WX 3).map .str))) .no) s := by kernel_rfl
theorem k3_s4 (t x6 x7 : Sl) (s : S) : (WX 3).map (fun l => lw_4 (E4 3 (.str l) t x6 x7 .no .no .no .no) s) = (WX 3).zipIdx.map (fun p => .nx (E4 3 (.str p.1) t x6 x7 (.val (.int (p.2 : Nat))) .no .no .no) s) := by kernel_rfl
theorem k3_s5 (t x6 x7 : Sl) (s : S) : (WX 3).zipIdx.map (fun p => lw_5 (E4 3 (.str p.1) t x6 x7 (.val (.int (p.2 : Nat))) .no .no .no) s) = (WX 3).zipIdx.map (fun p => .nx (E4 3 (.str p.1) t x6 x7 (.val (.int (p.2 : Nat))) .no .no .no) s) := by kernel_rfl
theorem k3_s6 (dw : D) (t x6 x7 x8 : Sl) (s : S) : lw_6 (E4 3 dw t x6 x7 x8 .no .no .no) s = .nx (E4 3 dw t x6 x7 x8 .no .no .no) s := by kernel_rfl
theorem k3_s7 (dw : D) (t x6 x7 x8 : Sl) (s : S) : lw_7 (E4 3 dw t x6 x7 x8 .no .no .no) s = .nx (E4 3 dw t x6 x7 x8 .no .no .no) s := by kernel_rfl
theorem k3_s9 : ∀ f ∈ farL 3, ∀ (dw : D) (t x6 x7 x8 : Sl) (s : S), lw_9 (E4 3 dw t x6 x7 x8 (.val f) .no .no) s = .nx (E4 3 dw t (.val (refN f)) x7 x8 (.val f) .no .no) s := by
  unfold farL
  exact List.forall_mem_cons.mpr ⟨by intros; kernel_rfl, List.forall_mem_cons.mpr ⟨by intros; kernel_rfl, List.forall_mem_cons.mpr ⟨by intros; kernel_rfl, List.forall_mem_cons.mpr ⟨by intros; kernel_rfl, List.forall_mem_cons.mpr ⟨by intros; kernel_rfl, List.forall_mem_cons.mpr ⟨by intros; kernel_rfl, List.forall_mem_cons.mpr ⟨by intros; kernel_rfl, List.forall_mem_cons.mpr ⟨by intros; kernel_rfl, fun _ h => nomatch h⟩⟩⟩⟩⟩⟩⟩⟩
theorem k3_s10 : ∀ f ∈ farL 3, ∀ (dw : D) (t x7 x8 : Sl) (s : S), lw_10 (E4 3 dw t (.val (refN f)) x7 x8 (.val f) .no .no) s = .nx (E4 3 dw t (.val (refN f)) x7 x8 (.val f) .no .no) s := by
  unfold farL
  exact List.forall_mem_cons.mpr ⟨by intros; kernel_rfl, List.forall_mem_cons.mpr ⟨by intros; kernel_rfl, List.forall_mem_cons.mpr ⟨by intros; kernel_rfl, List.forall_mem_cons.mpr ⟨by intros; kernel_rfl, List.forall_mem_cons.mpr ⟨by intros; kernel_rfl, List.forall_mem_cons.mpr ⟨by intros; kernel_rfl, List.forall_mem_cons.mpr ⟨by intros; kernel_rfl, List.forall_mem_cons.mpr ⟨by intros; kernel_rfl, fun _ h => nomatch h⟩⟩⟩⟩⟩⟩⟩⟩
theorem k3_w0 (dw : D) (t x6 x7 x8 x9 x10 : Sl) (s : S) : lw_15 (E4 3 dw t x6 x7 x8 x9 x10 (.val (.int 0))) s = .rt (.bl true) s := by kernel_rfl
theorem k3_w1 (dw : D) (t x6 x7 x8 x9 x10 : Sl) (s : S) : lw_15 (E4 3 dw t x6 x7 x8 x9 x10 (.val (.int 1))) s = .rt (.bl true) s := by kernel_rfl
theorem k3_w2 (dw : D) (t x6 x7 x8 x9 x10 : Sl) (s : S) : lw_15 (E4 3 dw t x6 x7 x8 x9 x10 (.val (.int 2))) s = .rt (.bl true) s := by kernel_rfl
theorem k3_w3 (dw : D) (t x6 x7 x8 x9 x10 : Sl) (s : S) : lw_15 (E4 3 dw t x6 x7 x8 x9 x10 (.val (.int 3))) s = .rt (.bl true) s := by kernel_rfl
theorem k3_w4 (dw : D) (t x6 x7 x8 x9 x10 : Sl) (s : S) : lw_15 (E4 3 dw t x6 x7 x8 x9 x10 (.val (.int 4))) s = .rt (.bl true) s := by kernel_rfl
theorem k4_3 : K4 3 where
  s1 := k3_s1
  lp := fun dw t x6 x7 s => by
    rw [lp_split]
    exact (seq_of (p3_0 dw t x6 x7 s)).trans ((seq_of (p3_1 dw t x6 x7 s)).trans ((seq_of (p3_2 dw t x6 x7 s)).trans ((seq_of (p3_3 dw t x6 x7 s)).trans ((seq_of (p3_4 dw t x6 x7 s)).trans (p3_5 dw t x6 x7 s)))))
  s4 := k3_s4
  s5 := k3_s5
  s6 := k3_s6
  s7 := k3_s7
  s9 := k3_s9
  s10 := k3_s10
  s15 := by
    unfold wayL
    exact List.forall_mem_cons.mpr ⟨k3_w0, List.forall_mem_cons.mpr ⟨k3_w1, List.forall_mem_cons.mpr ⟨k3_w2, List.forall_mem_cons.mpr ⟨k3_w3, List.forall_mem_cons.mpr ⟨k3_w4, fun _ h => nomatch h⟩⟩⟩⟩⟩
theorem p4_0 (dw : D) (t x6 x7 : Sl) (s : S) : lp_0 (E4 4 dw t x6 x7 .no .no .no .no) s = .nx (E4 4 dw t (colsL 4) x7 .no .no .no .no) s := by kernel_rfl
theorem p4_1 (dw : D) (t x6 x7 : Sl) (s : S) : lp_1 (E4 4 dw t (colsL 4) x7 .no .no .no .no) s = .nx (E4 4 dw t (colsL 4) x7 .no .no .no .no) s := by kernel_rfl
theorem p4_2 (dw : D) (t x6 x7 : Sl) (s : S) : lp_2 (E4 4 dw t (colsL 4) x7 .no .no .no .no) s = .nx (E4 4 dw t (colsL 4) (manyL 4) .no .no .no .no) s := by kernel_rfl
theorem p4_3 (dw : D) (t x6 x7 : Sl) (s : S) : lp_3 (E4 4 dw t (colsL 4) (manyL 4) .no .no .no .no) s = .nx (E4 4 dw t (colsL 4) (manyL 4) .no .no .no .no) s := by kernel_rfl
theorem p4_4 (dw : D) (t x6 x7 : Sl) (s : S) : lp_4 (E4 4 dw t (colsL 4) (manyL 4) .no .no .no .no) s = .nx (E4 4 dw t (colsL 4) (manyL 4) .no .no .no .no) s := by kernel_rfl
theorem p4_5 (dw : D) (t x6 x7 : Sl) (s : S) : lp_5 (E4 4 dw t (colsL 4) (manyL 4) .no .no .no .no) s = .nx (E4 4 dw t (colsL 4) (manyL 4) .no .no .no .no) s := by kernel_rfl
theorem k4_s1 (s : S) : lw_1 (E4w 4 .no .no) s = .nx (E4w 4 (.val (.lst ((WX 4).map .str))) .no) s := by kernel_rfl
theorem k4_s4 (t x6 x7 : Sl) (s : S) : (WX 4).map (fun l => lw_4 (E4 4 (.str l) t x6 x7 .no .no .no .no) s) = (WX 4).zipIdx.map (fun p => .nx (E4 4 (.str p.1) t x6 x7 (.val (.int (p.2 : Nat))) .no .no .no) s) := by kernel_rfl
theorem k4_s5 (t x6 x7 : Sl) (s : S) : (WX 4).zipIdx.map (fun p => lw_5 (E4 4 (.str p.1) t x6 x7 (.val (.int (p.2 : Nat))) .no .no .no) s) = (WX 4).zipIdx.map (fun p => .nx (E4 4 (.str p.1) t x6 x7 (.val (.int (p.2 : Nat))) .no .no .no) s) := by kernel_rfl
theorem k4_s6 (dw : D) (t x6 x7 x8 : Sl) (s : S) : lw_6 (E4 4 dw t x6 x7 x8 .no .no .no) s = .nx (E4 4 dw t x6 x7 x8 .no .no .no) s := by kernel_rfl
theorem k4_s7 (dw : D) (t x6 x7 x8 : Sl) (s : S) : lw_7 (E4 4 dw t x6 x7 x8 .no .no .no) s = .nx (E4 4 dw t x6 x7 x8 .no .no .no) s := by kernel_rfl
theorem k4_s9 : ∀ f ∈ farL 4, ∀ (dw : D) (t x6 x7 x8 : Sl) (s : S), lw_9 (E4 4 dw t x6 x7 x8 (.val f) .no .no) s = .nx (E4 4 dw t (.val (refN f)) x7 x8 (.val f) .no .no) s := by
  unfold farL
  exact List.forall_mem_cons.mpr ⟨by intros; kernel_rfl, List.forall_mem_cons.mpr ⟨by intros; kernel_rfl, List.forall_mem_cons.mpr ⟨by intros; kernel_rfl, List.forall_mem_cons.mpr ⟨by intros; kernel_rfl, List.forall_mem_cons.mpr ⟨by intros; kernel_rfl, List.forall_mem_cons.mpr ⟨by intros; kernel_rfl, List.forall_mem_cons.mpr ⟨by intros; kernel_rfl, List.forall_mem_cons.mpr ⟨by intros; kernel_rfl, fun _ h => nomatch h⟩⟩⟩⟩⟩⟩⟩⟩
theorem k4_s10 : ∀ f ∈ farL 4, ∀ (dw : D) (t x7 x8 : Sl) (s : S), lw_10 (E4 4 dw t (.val (refN f)) x7 x8 (.val f) .no .no) s = .nx (E4 4 dw t (.val (refN f)) x7 x8 (.val f) .no .no) s := by
  unfold farL
  exact List.forall_mem_cons.mpr ⟨by intros; kernel_rfl, List.forall_mem_cons.mpr ⟨by intros; kernel_rfl, List.forall_mem_cons.mpr ⟨by intros; kernel_rfl, List.forall_mem_cons.mpr ⟨by intros; kernel_rfl, List.forall_mem_cons.mpr ⟨by intros; kernel_rfl, List.forall_mem_cons.mpr ⟨by intros; kernel_rfl, List.forall_mem_cons.mpr ⟨by intros; kernel_rfl, List.forall_mem_cons.mpr ⟨by intros; kernel_rfl, fun _ h => nomatch h⟩⟩⟩⟩⟩⟩⟩⟩
theorem k4_w0 (dw : D) (t x6 x7 x8 x9 x10 : Sl) (s : S) : lw_15 (E4 4 dw t x6 x7 x8 x9 x10 (.val (.int 0))) s = .rt (.bl true) s := by kernel_rfl
theorem k4_w1 (dw : D) (t x6 x7 x8 x9 x10 : Sl) (s : S) : lw_15 (E4 4 dw t x6 x7 x8 x9 x10 (.val (.int 1))) s = .rt (.bl true) s := by kernel_rfl
theorem k4_w2 (dw : D) (t x6 x7 x8 x9 x10 : Sl) (s : S) : lw_15 (E4 4 dw t x6 x7 x8 x9 x10 (.val (.int 2))) s = .rt (.bl true) s := by kernel_rfl
theorem k4_w3 (dw : D) (t x6 x7 x8 x9 x10 : Sl) (s : S) : lw_15 (E4 4 dw t x6 x7 x8 x9 x10 (.val (.int 3))) s = .rt (.bl true) s := by kernel_rfl
theorem k4_w4 (dw : D) (t x6 x7 x8 x9 x10 : Sl) (s : S) : lw_15 (E4 4 dw t x6 x7 x8 x9 x10 (.val (.int 4))) s = .rt (.bl true) s := by kernel_rfl
theorem k4_4 : K4 4 where
  s1 := k4_s1
  lp := fun dw t x6 x7 s => by
    rw [lp_split]
    exact (seq_of (p4_0 dw t x6 x7 s)).trans ((seq_of (p4_1 dw t x6 x7 s)).trans ((seq_of (p4_2 dw t x6 x7 s)).trans ((seq_of (p4_3 dw t x6 x7 s)).trans ((seq_of (p4_4 dw t x6 x7 s)).trans (p4_5 dw t x6 x7 s)))))
  s4 := k4_s4
  s5 := k4_s5
  s6 := k4_s6
  s7 := k4_s7
  s9 := k4_s9
  s10 := k4_s10
  s15 := by
    unfold wayL
    exact List.forall_mem_cons.mpr ⟨k4_w0, List.forall_mem_cons.mpr ⟨k4_w1, List.forall_mem_cons.mpr ⟨k4_w2, List.forall_mem_cons.mpr ⟨k4_w3, List.forall_mem_cons.mpr ⟨k4_w4, fun _ h => nomatch h⟩⟩⟩⟩⟩
theorem p5_0 (dw : D) (t x6 x7 : Sl) (s : S) : lp_0 (E4 5 dw t x6 x7 .no .no .no .no) s = .nx (E4 5 dw t (colsL 5) x7 .no .no .no .no) s := by kernel_rfl
theorem p5_1 (dw : D) (t x6 x7 : Sl) (s : S) : lp_1 (E4 5 dw t (colsL 5) x7 .no .no .no .no) s = .nx (E4 5 dw t (colsL 5) x7 .no .no .no .no) s := by kernel_rfl
theorem p5_2 (dw : D) (t x6 x7 : Sl) (s : S) : lp_2 (E4 5 dw t (colsL 5) x7 .no .no .no .no) s = .nx (E4 5 dw t (colsL 5) (manyL 5) .no .no .no .no) s := by kernel_rfl
theorem p5_3 (dw : D) (t x6 x7 : Sl) (s : S) : lp_3 (E4 5 dw t (colsL 5) (manyL 5) .no .no .no .no) s = .nx (E4 5 dw t (colsL 5) (manyL 5) .no .no .no .no) s := by kernel_rfl
theorem p5_4 (dw : D) (t x6 x7 : Sl) (s : S) : lp_4 (E4 5 dw t (colsL 5) (manyL 5) .no .no .no .no) s = .nx (E4 5 dw t (colsL 5) (manyL 5) .no .no .no .no) s := by kernel_rfl
theorem p5_5 (dw : D) (t x6 x7 : Sl) (s : S) : lp_5 (E4 5 dw t (colsL 5) (manyL 5) .no .no .no .no) s = .nx (E4 5 dw t (colsL 5) (manyL 5) .no .no .no .no) s := by kernel_rfl
theorem k5_s1 (s : S) : lw_1 (E4w 5 .no .no) s = .nx (E4w 5 (.val (.lst ((WX 5).map .str))) .no) s := by kernel_rfl
theorem k5_s4 (t x6 x7 : Sl) (s : S) : (WX 5).map (fun l => lw_4 (E4 5 (.str l) t x6 x7 .no .no .no .no) s) = (WX 5).zipIdx.map (fun p => .nx (E4 5 (.str p.1) t x6 x7 (.val (.int (p.2 : Nat))) .no .no .no) s) := by kernel_rfl
theorem k5_s5 (t x6 x7 : Sl) (s : S) : (WX 5).zipIdx.map (fun p => lw_5 (E4 5 (.str p.1) t x6 x7 (.val (.int (p.2 : Nat))) .no .no .no) s) = (WX 5).zipIdx.map (fun p => .nx (E4 5 (.str p.1) t x6 x7 (.val (.int (p.2 : Nat))) .no .no .no) s) := by kernel_rfl
theorem k5_s6 (dw : D) (t x6 x7 x8 : Sl) (s : S) : lw_6 (E4 5 dw t x6 x7 x8 .no .no .no) s = .nx (E4 5 dw t x6 x7 x8 .no .no .no) s := by kernel_rfl
theorem k5_s7 (dw : D) (t x6 x7 x8 : Sl) (s : S) : lw_7 (E4 5 dw t x6 x7 x8 .no .no .no) s = .nx (E4 5 dw t x6 x7 x8 .no .no .no) s := by kernel_rfl
theorem k5_s9 : ∀ f ∈ farL 5, ∀ (dw : D) (t x6 x7 x8 : Sl) (s : S), lw_9 (E4 5 dw t x6 x7 x8 (.val f) .no .no) s = .nx (E4 5 dw t (.val (refN f)) x7 x8 (.val f) .no .no) s := by
  unfold farL
  exact List.forall_mem_cons.mpr ⟨by intros; kernel_rfl, List.forall_mem_cons.mpr ⟨by intros; kernel_rfl, List.forall_mem_cons.mpr ⟨by intros; kernel_rfl, List.forall_mem_cons.mpr ⟨by intros; kernel_rfl, List.forall_mem_cons.mpr ⟨by intros; kernel_rfl, List.forall_mem_cons.mpr ⟨by intros; kernel_rfl, List.forall_mem_cons.mpr ⟨by intros; kernel_rfl, List.forall_mem_cons.mpr ⟨by intros; kernel_rfl, fun _ h => nomatch h⟩⟩⟩⟩⟩⟩⟩⟩
theorem k5_s10 : ∀ f ∈ farL 5, ∀ (dw : D) (t x7 x8 : Sl) (s : S), lw_10 (E4 5 dw t (.val (refN f)) x7 x8 (.val f) .no .no) s = .nx (E4 5 dw t (.val (refN f)) x7 x8 (.val f) .no .no) s := by
  unfold farL
  exact List.forall_mem_cons.mpr ⟨by intros; kernel_rfl, List.forall_mem_cons.mpr ⟨by intros; kernel_rfl, List.forall_mem_cons.mpr ⟨by intros; kernel_rfl, List.forall_mem_cons.mpr ⟨by intros; kernel_rfl, List.forall_mem_cons.mpr ⟨by intros; kernel_rfl, List.forall_mem_cons.mpr ⟨by intros; kernel_rfl, List.forall_mem_cons.mpr ⟨by intros; kernel_rfl, List.forall_mem_cons.mpr ⟨by intros; kernel_rfl, fun _ h => nomatch h⟩⟩⟩⟩⟩⟩⟩⟩
theorem k5_w0 (dw : D) (t x6 x7 x8 x9 x10 : Sl) (s : S) : lw_15 (E4 5 dw t x6 x7 x8 x9 x10 (.val (.int 0))) s = .rt (.bl true) s := by kernel_rfl
theorem k5_w1 (dw : D) (t x6 x7 x8 x9 x10 : Sl) (s : S) : lw_15 (E4 5 dw t x6 x7 x8 x9 x10 (.val (.int 1))) s = .rt (.bl true) s := by kernel_rfl
theorem k5_w2 (dw : D) (t x6 x7 x8 x9 x10 : Sl) (s : S) : lw_15 (E4 5 dw t x6 x7 x8 x9 x10 (.val (.int 2))) s = .rt (.bl true) s := by kernel_rfl
theorem k5_w3 (dw : D) (t x6 x7 x8 x9 x10 : Sl) (s : S) : lw_15 (E4 5 dw t x6 x7 x8 x9 x10 (.val (.int 3))) s = .rt (.bl true) s := by kernel_rfl
theorem k5_w4 (dw : D) (t x6 x7 x8 x9 x10 : Sl) (s : S) : lw_15 (E4 5 dw t x6 x7 x8 x9 x10 (.val (.int 4))) s = .rt (.bl true) s := by kernel_rfl
theorem k4_5 : K4 5 where
  s1 := k5_s1
  lp := fun dw t x6 x7 s => by
    rw [lp_split]
    exact (seq_of (p5_0 dw t x6 x7 s)).trans ((seq_of (p5_1 dw t x6 x7 s)).trans ((seq_of (p5_2 dw t x6 x7 s)).trans ((seq_of (p5_3 dw t x6 x7 s)).trans ((seq_of (p5_4 dw t x6 x7 s)).trans (p5_5 dw t x6 x7 s)))))
  s4 := k5_s4
  s5 := k5_s5
  s6 := k5_s6
  s7 := k5_s7
  s9 := k5_s9
  s10 := k5_s10
  s15 := by
    unfold wayL
    exact List.forall_mem_cons.mpr ⟨k5_w0, List.forall_mem_cons.mpr ⟨k5_w1, List.forall_mem_cons.mpr ⟨k5_w2, List.forall_mem_cons.mpr ⟨k5_w3, List.forall_mem_cons.mpr ⟨k5_w4, fun _ h => nomatch h⟩⟩⟩⟩⟩
theorem p6_0 (dw : D) (t x6 x7 : Sl) (s : S) : lp_0 (E4 6 dw t x6 x7 .no .no .no .no) s = .nx (E4 6 dw t (colsL 6) x7 .no .no .no .no) s := by kernel_rfl
theorem p6_1 (dw : D) (t x6 x7 : Sl) (s : S) : lp_1 (E4 6 dw t (colsL 6) x7 .no .no .no .no) s = .nx (E4 6 dw t (colsL 6) x7 .no .no .no .no) s := by kernel_rfl
theorem p6_2 (dw : D) (t x6 x7 : Sl) (s : S) : lp_2 (E4 6 dw t (colsL 6) x7 .no .no .no .no) s = .nx (E4 6 dw t (colsL 6) (manyL 6) .no .no .no .no) s := by kernel_rfl
theorem p6_3 (dw : D) (t x6 x7 : Sl) (s : S) : lp_3 (E4 6 dw t (colsL 6) (manyL 6) .no .no .no .no) s = .nx (E4 6 dw t (colsL 6) (manyL 6) .no .no .no .no) s := by kernel_rfl
theorem p6_4 (dw : D) (t x6 x7 : Sl) (s : S) : lp_4 (E4 6 dw t (colsL 6) (manyL 6) .no .no .no .no) s = .nx (E4 6 dw t (colsL 6) (manyL 6) .no .no .no .no) s := by kernel_rfl
theorem p6_5 (dw : D) (t x6 x7 : Sl) (s : S) : lp_5 (E4 6 dw t (colsL 6) (manyL 6) .no .no .no .no) s = .nx (E4 6 dw t (colsL 6) (manyL 6) .no .no .no .no) s := by kernel_rfl
theorem k6_s1 (s : S) : lw_1 (E4w 6 .no .no) s = .nx (E4w 6 (.val (.lst ((WX 6).map .str))) .no) s := by kernel_rfl
theorem k6_s4 (t x6 x7 : Sl) (s : S) : (WX 6).map (fun l => lw_4 (E4 6 (.str l) t x6 x7 .no .no .no .no) s) = (WX 6).zipIdx.map (fun p => .nx (E4 6 (.str p.1) t x6 x7 (.val (.int (p.2 : Nat))) .no .no .no) s) := by kernel_rfl
theorem k6_s5 (t x6 x7 : Sl) (s : S) : (WX 6).zipIdx.map (fun p => lw_5 (E4 6 (.str p.1) t x6 x7 (.val (.int (p.2 : Nat))) .no .no .no) s) = (WX 6).zipIdx.map (fun p => .nx (E4 6 (.str p.1) t x6 x7 (.val (.int (p.2 : Nat))) .no .no .no) s) := by kernel_rfl
theorem k6_s6 (dw : D) (t x6 x7 x8 : Sl) (s : S) : lw_6 (E4 6 dw t x6 x7 x8 .no .no .no) s = .nx (E4 6 dw t x6 x7 x8 .no .no .no) s := by kernel_rfl
theorem k6_s7 (dw : D) (t x6 x7 x8 : Sl) (s : S) : lw_7 (E4 6 dw t x6 x7 x8 .no .no .no) s = .nx (E4 6 dw t x6 x7 x8 .no .no .no) s := by kernel_rfl
theorem k6_s9 : ∀ f ∈ farL 6, ∀ (dw : D) (t x6 x7 x8 : Sl) (s : S), lw_9 (E4 6 dw t x6 x7 x8 (.val f) .no .no) s = .nx (E4 6 dw t (.val (refN f)) x7 x8 (.val f) .no .no) s := by
  unfold farL
  exact List.forall_mem_cons.mpr ⟨by intros; kernel_rfl, List.forall_mem_cons.mpr ⟨by intros; kernel_rfl, List.forall_mem_cons.mpr ⟨by intros; kernel_rfl, List.forall_mem_cons.mpr ⟨by intros; kernel_rfl, List.forall_mem_cons.mpr ⟨by intros; kernel_rfl, List.forall_mem_cons.mpr ⟨by intros; kernel_rfl, List.forall_mem_cons.mpr ⟨by intros; kernel_rfl, List.forall_mem_cons.mpr ⟨by intros; kernel_rfl, fun _ h => nomatch h⟩⟩⟩⟩⟩⟩⟩⟩
theorem k6_s10 : ∀ f ∈ farL 6, ∀ (dw : D) (t x7 x8 : Sl) (s : S), lw_10 (E4 6 dw t (.val (refN f)) x7 x8 (.val f) .no .no) s = .nx (E4 6 dw t (.val (refN f)) x7 x8 (.val f) .no .no) s := by
  unfold farL
  exact List.forall_mem_cons.mpr ⟨by intros; kernel_rfl, List.forall_mem_cons.mpr ⟨by intros; kernel_rfl, List.forall_mem_cons.mpr ⟨by intros; kernel_rfl, List.forall_mem_cons.mpr ⟨by intros; kernel_rfl, List.forall_mem_cons.mpr ⟨by intros; kernel_rfl, List.forall_mem_cons.mpr ⟨by intros; kernel_rfl, List.forall_mem_cons.mpr ⟨by intros; kernel_rfl, List.forall_mem_cons.mpr ⟨by intros; kernel_rfl, fun _ h => nomatch h⟩⟩⟩⟩⟩⟩⟩⟩
theorem k6_w0 (dw : D) (t x6 x7 x8 x9 x10 : Sl) (s : S) : lw_15 (E4 6 dw t x6 x7 x8 x9 x10 (.val (.int 0))) s = .rt (.bl true) s := by kernel_rfl
theorem k6_w1 (dw : D) (t x6 x7 x8 x9 x10 : Sl) (s : S) : lw_15 (E4 6 dw t x6 x7 x8 x9 x10 (.val (.int 1))) s = .rt (.bl true) s := by kernel_rfl
theorem k6_w2 (dw : D) (t x6 x7 x8 x9 x10 : Sl) (s : S) : lw_15 (E4 6 dw t x6 x7 x8 x9 x10 (.val (.int 2))) s = .rt (.bl true) s := by kernel_rfl
theorem k6_w3 (dw : D) (t x6 x7 x8 x9 x10 : Sl) (s : S) : lw_15 (E4 6 dw t x6 x7 x8 x9 x10 (.val (.int 3))) s = .rt (.bl true) s := by kernel_rfl
theorem k6_w4 (dw : D) (t x6 x7 x8 x9 x10 : Sl) (s : S) : lw_15 (E4 6 dw t x6 x7 x8 x9 x10 (.val (.int 4))) s = .rt (.bl true) s := by kernel_rfl
theorem k4_6 : K4 6 where
  s1 := k6_s1
  lp := fun dw t x6 x7 s => by
    rw [lp_split]
    exact (seq_of (p6_0 dw t x6 x7 s)).trans ((seq_of (p6_1 dw t x6 x7 s)).trans ((seq_of (p6_2 dw t x6 x7 s)).trans ((seq_of (p6_3 dw t x6 x7 s)).trans ((seq_of (p6_4 dw t x6 x7 s)).trans (p6_5 dw t x6 x7 s)))))
  s4 := k6_s4
  s5 := k6_s5
  s6 := k6_s6
  s7 := k6_s7
  s9 := k6_s9
  s10 := k6_s10
  s15 := by
    unfold wayL
    exact List.forall_mem_cons.mpr ⟨k6_w0, List.forall_mem_cons.mpr ⟨k6_w1, List.forall_mem_cons.mpr ⟨k6_w2, List.forall_mem_cons.mpr ⟨k6_w3, List.forall_mem_cons.mpr ⟨k6_w4, fun _ h => nomatch h⟩⟩⟩⟩⟩
end Vv

namespace Vv
def S8 (n : Nat) : Prop := ∀ (dw : D) (t x6 x7 x8 : Sl) (st : HS), lw_8 (E4 n dw t x6 x7 x8 .no .no .no) (some st) = ((F_l_draw [.int 8] (some st)).bind fun y s2 => opt (vIx (.lst (farL n)) y) s2).then (E4 n dw t x6 x7 x8 .no .no .no) fun d s1 => .nx (E4 n dw t x6 x7 x8 (.val d) .no .no) s1
theorem s8_1 : S8 1 := fun _ _ _ _ _ _ => by kernel_rfl
theorem s8_2 : S8 2 := fun _ _ _ _ _ _ => by kernel_rfl
theorem s8_3 : S8 3 := fun _ _ _ _ _ _ => by kernel_rfl
theorem s8_4 : S8 4 := fun _ _ _ _ _ _ => by kernel_rfl
theorem s8_5 : S8 5 := fun _ _ _ _ _ _ => by kernel_rfl
theorem s8_6 : S8 6 := fun _ _ _ _ _ _ => by kernel_rfl
end Vv

namespace Vv
theorem lw0_eq (st : HS) : lw_0 [.no, .hand, .no, .no, .no, .no, .no, .no, .no, .no, .no, .no, .no, .no] (some st) = ((F_l_draw [.int 6] (some st)).bind fun y s2 => opt (vAdd (.int 1) y) s2).then [.no, .hand, .no, .no, .no, .no, .no, .no, .no, .no, .no, .no, .no, .no] fun d s1 => .nx [.no, .hand, .val d, .no, .no, .no, .no, .no, .no, .no, .no, .no, .no, .no] s1 := by kernel_rfl
theorem call2_eq (F : List D → S → R D) (n : Nat) (w : Sl) (s : S) : eCallH 1 1 F (aCons (eN 2) aNil) (E4w n w .no) s = F [.int n] s := by rfl
theorem lw2_ok {n : Nat} {w : Sl} {st : HS} {d : D} {s1 : S} (e : F_l_word [.int n] (some st) = .ok d s1) : lw_2 (E4w n w .no) (some st) = .nx (E4w n w (.val d)) s1 := by
  have h := (call2_eq F_l_word n w (some st)).trans e
  unfold lw_2 sAsg
  rw [h]
  rfl
theorem lw3_eq (n : Nat) (dw : D) (s : S) : lw_3 (E4 n dw .no .no .no .no .no .no .no) s = loopD (gtN 5) b_law_1 [.int 0, .int 1] (E4 n dw .no .no .no .no .no .no .no) s := by kernel_rfl
theorem lw11_eq (n : Nat) (dw : D) (t x6 x7 x8 x9 : Sl) (st : HS) : lw_11 (E4 n dw t x6 x7 x8 x9 .no .no) (some st) = ((F_l_draw [.int 9] (some st)).bind fun y s2 => opt (vIx (.lst oddL) y) s2).then (E4 n dw t x6 x7 x8 x9 .no .no) fun d s1 => .nx (E4 n dw t x6 x7 x8 x9 (.val d) .no) s1 := by kernel_rfl
theorem lw12_eq (n : Nat) (dw : D) (t x6 x7 x8 x9 x10 : Sl) (st : HS) : lw_12 (E4 n dw t x6 x7 x8 x9 x10 .no) (some st) = (F_l_draw [.int 5] (some st)).then (E4 n dw t x6 x7 x8 x9 x10 .no) fun d s1 => .nx (E4 n dw t x6 x7 x8 x9 x10 (.val d)) s1 := by kernel_rfl
theorem callx {m : Nat} {F : List D → R D} {fa : Af} {ρ : En} {s s1 t : S} {ds : List D} {d : D} (h1 : fa ρ s = .ok ds s1) (hl : ds.length = m) (h2 : F ds = .ok d t) : eCall m F fa ρ s = .ok d s1 := by
  unfold eCall
  rw [h1]
  show (if ds.length = m then pickP F ds s1 else .bad) = _
  rw [if_pos hl]
  unfold pickP
  rw [h2]
theorem asgx {f : Ef} {i : Nat} {ρ : En} {s s1 : S} {d : D} (h : f ρ s = .ok d s1) : sAsg f (gtN i) ρ s = .nx (ρ.set i (.val d)) s1 := by
  unfold sAsg
  rw [h]
  rfl
theorem lw13_ok (n : Nat) (dw : D) (t x6 x7 x8 : Sl) (f o w r : D) (st : HS) (d : Int) (st' : HS) (e : F_l_draw [.int 2] (some st) = .ok (.int d) (some st')) (k : ∀ y, F_l_refused [w, o, y] = .ok r none) :
    lw_13 (E4 n dw t x6 x7 x8 (.val f) (.val o) (.val w)) (some st) = .nx (E4 n dw t (.val r) x7 x8 (.val f) (.val o) (.val w)) (some st') := by
  unfold lw_13
  have h1 : eCallH 1 1 F_l_draw (aCons (eC (.int 2)) aNil) (E4 n dw t x6 x7 x8 (.val f) (.val o) (.val w)) (some st) = .ok (.int d) (some st') := by
    rw [show eCallH 1 1 F_l_draw (aCons (eC (.int 2)) aNil) (E4 n dw t x6 x7 x8 (.val f) (.val o) (.val w)) (some st) = F_l_draw [.int 2] (some st) by kernel_rfl]
    exact e
  have h2 : ∃ b, tB2 (eOp2 vEq (eCallH 1 1 F_l_draw (aCons (eC (.int 2)) aNil)) (eC (.int 0))) (E4 n dw t x6 x7 x8 (.val f) (.val o) (.val w)) (some st) = .ok b (some st') := by
    refine ⟨decide (d = 0), ?_⟩
    unfold tB2
    rw [op2_ok h1 (show eC (.int 0) _ (some st') = .ok (.int 0) (some st') by rfl) (show vEq (.int d) (.int 0) = some (.bl (decide (d = 0))) by rfl)]
    rfl
  obtain ⟨b, h2⟩ := h2
  have h3 : ∃ y, eIf (tB2 (eOp2 vEq (eCallH 1 1 F_l_draw (aCons (eC (.int 2)) aNil)) (eC (.int 0)))) (eN 9) (eC (.int 0)) (E4 n dw t x6 x7 x8 (.val f) (.val o) (.val w)) (some st) = .ok y (some st') := by
    unfold eIf
    rw [h2]
    cases b with
    | true => exact ⟨f, rfl⟩
    | false => exact ⟨.int 0, rfl⟩
  obtain ⟨y, h3⟩ := h3
  exact asgx (callx (cons_ok (x := w) (s1 := some st) rfl (cons_ok (x := o) (s1 := some st) rfl (cons_ok h3 (xs := []) rfl))) rfl (k y))
theorem ref0 : ∀ o ∈ oddL, ∀ y, F_l_refused [.int 0, o, y] = .ok (refS o) none := by
  unfold oddL
  exact List.forall_mem_cons.mpr ⟨by intros; kernel_rfl, List.forall_mem_cons.mpr ⟨by intros; kernel_rfl, List.forall_mem_cons.mpr ⟨by intros; kernel_rfl, List.forall_mem_cons.mpr ⟨by intros; kernel_rfl, List.forall_mem_cons.mpr ⟨by intros; kernel_rfl, List.forall_mem_cons.mpr ⟨by intros; kernel_rfl, List.forall_mem_cons.mpr ⟨by intros; kernel_rfl, List.forall_mem_cons.mpr ⟨by intros; kernel_rfl, List.forall_mem_cons.mpr ⟨by intros; kernel_rfl, fun _ h => nomatch h⟩⟩⟩⟩⟩⟩⟩⟩⟩
theorem ref1 : ∀ o ∈ oddL, ∀ y, F_l_refused [.int 1, o, y] = .ok (refS o) none := by
  unfold oddL
  exact List.forall_mem_cons.mpr ⟨by intros; kernel_rfl, List.forall_mem_cons.mpr ⟨by intros; kernel_rfl, List.forall_mem_cons.mpr ⟨by intros; kernel_rfl, List.forall_mem_cons.mpr ⟨by intros; kernel_rfl, List.forall_mem_cons.mpr ⟨by intros; kernel_rfl, List.forall_mem_cons.mpr ⟨by intros; kernel_rfl, List.forall_mem_cons.mpr ⟨by intros; kernel_rfl, List.forall_mem_cons.mpr ⟨by intros; kernel_rfl, List.forall_mem_cons.mpr ⟨by intros; kernel_rfl, fun _ h => nomatch h⟩⟩⟩⟩⟩⟩⟩⟩⟩
theorem ref2 : ∀ o ∈ oddL, ∀ y, F_l_refused [.int 2, o, y] = .ok (refS o) none := by
  unfold oddL
  exact List.forall_mem_cons.mpr ⟨by intros; kernel_rfl, List.forall_mem_cons.mpr ⟨by intros; kernel_rfl, List.forall_mem_cons.mpr ⟨by intros; kernel_rfl, List.forall_mem_cons.mpr ⟨by intros; kernel_rfl, List.forall_mem_cons.mpr ⟨by intros; kernel_rfl, List.forall_mem_cons.mpr ⟨by intros; kernel_rfl, List.forall_mem_cons.mpr ⟨by intros; kernel_rfl, List.forall_mem_cons.mpr ⟨by intros; kernel_rfl, List.forall_mem_cons.mpr ⟨by intros; kernel_rfl, fun _ h => nomatch h⟩⟩⟩⟩⟩⟩⟩⟩⟩
theorem ref3 : ∀ o ∈ oddL, ∀ y, F_l_refused [.int 3, o, y] = .ok (refS o) none := by
  unfold oddL
  exact List.forall_mem_cons.mpr ⟨by intros; kernel_rfl, List.forall_mem_cons.mpr ⟨by intros; kernel_rfl, List.forall_mem_cons.mpr ⟨by intros; kernel_rfl, List.forall_mem_cons.mpr ⟨by intros; kernel_rfl, List.forall_mem_cons.mpr ⟨by intros; kernel_rfl, List.forall_mem_cons.mpr ⟨by intros; kernel_rfl, List.forall_mem_cons.mpr ⟨by intros; kernel_rfl, List.forall_mem_cons.mpr ⟨by intros; kernel_rfl, List.forall_mem_cons.mpr ⟨by intros; kernel_rfl, fun _ h => nomatch h⟩⟩⟩⟩⟩⟩⟩⟩⟩
theorem ref4 : ∀ o ∈ oddL, ∀ y, F_l_refused [.int 4, o, y] = .ok (refS o) none := by
  unfold oddL
  exact List.forall_mem_cons.mpr ⟨by intros; kernel_rfl, List.forall_mem_cons.mpr ⟨by intros; kernel_rfl, List.forall_mem_cons.mpr ⟨by intros; kernel_rfl, List.forall_mem_cons.mpr ⟨by intros; kernel_rfl, List.forall_mem_cons.mpr ⟨by intros; kernel_rfl, List.forall_mem_cons.mpr ⟨by intros; kernel_rfl, List.forall_mem_cons.mpr ⟨by intros; kernel_rfl, List.forall_mem_cons.mpr ⟨by intros; kernel_rfl, List.forall_mem_cons.mpr ⟨by intros; kernel_rfl, fun _ h => nomatch h⟩⟩⟩⟩⟩⟩⟩⟩⟩
theorem refs : ∀ w ∈ wayL, ∀ o ∈ oddL, ∀ y, F_l_refused [.int w, o, y] = .ok (refS o) none := by
  unfold wayL
  exact List.forall_mem_cons.mpr ⟨ref0, List.forall_mem_cons.mpr ⟨ref1, List.forall_mem_cons.mpr ⟨ref2, List.forall_mem_cons.mpr ⟨ref3, List.forall_mem_cons.mpr ⟨ref4, fun _ h => nomatch h⟩⟩⟩⟩⟩
theorem s14 : ∀ o ∈ oddL, ∀ (n : Nat) (dw : D) (t x7 x8 x9 x11 : Sl) (s : S), lw_14 (E4 n dw t (.val (refS o)) x7 x8 x9 (.val o) x11) s = .nx (E4 n dw t (.val (refS o)) x7 x8 x9 (.val o) x11) s := by
  unfold oddL
  exact List.forall_mem_cons.mpr ⟨by intros; kernel_rfl, List.forall_mem_cons.mpr ⟨by intros; kernel_rfl, List.forall_mem_cons.mpr ⟨by intros; kernel_rfl, List.forall_mem_cons.mpr ⟨by intros; kernel_rfl, List.forall_mem_cons.mpr ⟨by intros; kernel_rfl, List.forall_mem_cons.mpr ⟨by intros; kernel_rfl, List.forall_mem_cons.mpr ⟨by intros; kernel_rfl, List.forall_mem_cons.mpr ⟨by intros; kernel_rfl, List.forall_mem_cons.mpr ⟨by intros; kernel_rfl, fun _ h => nomatch h⟩⟩⟩⟩⟩⟩⟩⟩⟩
theorem ixL (l : List D) (d : Int) (h0 : 0 ≤ d) (h1 : d < l.length) : ∃ f ∈ l, vIx (.lst l) (.int d) = some f := by
  obtain ⟨k, rfl⟩ := Int.eq_ofNat_of_zero_le h0
  have hk : k < l.length := by omega
  exact ⟨l[k], List.getElem_mem hk, atI_nat (List.getElem?_eq_getElem hk)⟩
theorem num_at {n : Nat} (K : K4 n) {l : List Nat} (m : l ∈ WX n) (t x6 x7 : Sl) (s : S) : ∃ i : Nat, lw_4 (E4 n (.str l) t x6 x7 .no .no .no .no) s = .nx (E4 n (.str l) t x6 x7 (.val (.int i)) .no .no .no) s ∧ lw_5 (E4 n (.str l) t x6 x7 (.val (.int i)) .no .no .no) s = .nx (E4 n (.str l) t x6 x7 (.val (.int i)) .no .no .no) s := by
  obtain ⟨i, hi, e⟩ := List.mem_iff_getElem.mp m
  have z : ∀ {β : Type} {f : List Nat → β} {g : List Nat × Nat → β}, (WX n).map f = (WX n).zipIdx.map g → f l = g (l, i) := fun {β f g} h => by
    have q := congrArg (fun x : List β => x[i]?) h
    simp only [List.getElem?_map, List.getElem?_zipIdx, List.getElem?_eq_getElem hi, Option.map_some, e, Nat.zero_add] at q
    exact Option.some.inj q
  have z2 : ∀ {β : Type} {f g : List Nat × Nat → β}, (WX n).zipIdx.map f = (WX n).zipIdx.map g → f (l, i) = g (l, i) := fun {β f g} h => by
    have q := congrArg (fun x : List β => x[i]?) h
    simp only [List.getElem?_map, List.getElem?_zipIdx, List.getElem?_eq_getElem hi, Option.map_some, e, Nat.zero_add] at q
    exact Option.some.inj q
  exact ⟨i, z (K.s4 t x6 x7 s), z2 (K.s5 t x6 x7 s)⟩
theorem thenOk {α : Type} {x : α} {s : S} {ρ : En} {k : α → S → SR} : (R.ok x s).then ρ k = k x s := rfl
theorem bindOk {α β : Type} {x : α} {s : S} {k : α → S → R β} : (R.ok x s).bind k = k x s := rfl
theorem optOk {α : Type} {x : α} {s : S} : opt (some x) s = .ok x s := rfl
theorem pure_n {n : Nat} (hn : n ≤ 6) (K : K4 n) (e8 : S8 n) (st : HS) (hs : hsOk st = true) (g : Sf)
    (hg : g = sSeq lw_1 (sSeq lw_2 (sSeq lw_3 (sSeq lw_4 (sSeq lw_5 (sSeq lw_6 (sSeq lw_7 (sSeq lw_8 (sSeq lw_9 (sSeq lw_10 (sSeq lw_11 (sSeq lw_12 (sSeq lw_13 (sSeq lw_14 lw_15)))))))))))))) :
    ∃ s', g (E4w n .no .no) (some st) = .rt (.bl true) s' := by
  subst hg
  obtain ⟨l, st1, ew, gd, hs1⟩ := word_ok hn hs
  have m := good_WX gd
  have e2 : lw_2 (E4w n (.val (.lst ((WX n).map .str))) .no) (some st) = .nx (E4w n (.val (.lst ((WX n).map .str))) (.val (.str l))) (some st1) := lw2_ok ew
  have e3 : lw_3 (E4 n (.str l) .no .no .no .no .no .no .no) (some st1) = .nx (E4 n (.str l) (.val (.int 1)) (.val (.lst ((WX n).map (colX n)))) (.val (.int ((WX n).length : Nat))) .no .no .no .no) (some st1) := by
    rw [lw3_eq]
    have a := K.lp (.str l) (.val (.int 0)) .no .no (some st1)
    have b := K.lp (.str l) (.val (.int 1)) (.val (.lst ((WX n).map (colX n)))) (.val (.int ((WX n).length : Nat))) (some st1)
    show (match b_law_1 (E4 n (.str l) (.val (.int 0)) .no .no .no .no .no .no) (some st1) with
      | .nx ρ2 s2 => loopD (gtN 5) b_law_1 [.int 1] ρ2 s2
      | .ct ρ2 s2 => loopD (gtN 5) b_law_1 [.int 1] ρ2 s2
      | .bk ρ2 s2 => .nx ρ2 s2
      | r => r) = _
    rw [a]
    show (match b_law_1 (E4 n (.str l) (.val (.int 1)) (.val (.lst ((WX n).map (colX n)))) (.val (.int ((WX n).length : Nat))) .no .no .no .no) (some st1) with
      | .nx ρ2 s2 => loopD (gtN 5) b_law_1 [] ρ2 s2
      | .ct ρ2 s2 => loopD (gtN 5) b_law_1 [] ρ2 s2
      | .bk ρ2 s2 => .nx ρ2 s2
      | r => r) = _
    rw [b]
    rfl
  obtain ⟨i, e4, e5⟩ := num_at K m (.val (.int 1)) (.val (.lst ((WX n).map (colX n)))) (.val (.int ((WX n).length : Nat))) (some st1)
  obtain ⟨d8, st2, c8, p8, q8, hs2⟩ := draw_ok hs1 (m := 8) (by decide) (by decide)
  obtain ⟨f, hf, x8⟩ := ixL (farL n) d8 p8 (by unfold farL; exact q8)
  have e8 := e8 (.str l) (.val (.int 1)) (.val (.lst ((WX n).map (colX n)))) (.val (.int ((WX n).length : Nat))) (.val (.int i)) st1
  rw [c8, bindOk, x8, optOk, thenOk] at e8
  have e9 := K.s9 f hf (.str l) (.val (.int 1)) (.val (.lst ((WX n).map (colX n)))) (.val (.int ((WX n).length : Nat))) (.val (.int i)) (some st2)
  have e10 := K.s10 f hf (.str l) (.val (.int 1)) (.val (.int ((WX n).length : Nat))) (.val (.int i)) (some st2)
  obtain ⟨d9, st3, c9, p9, q9, hs3⟩ := draw_ok hs2 (m := 9) (by decide) (by decide)
  obtain ⟨o, ho, x9⟩ := ixL oddL d9 p9 (by unfold oddL; exact q9)
  have e11 := lw11_eq n (.str l) (.val (.int 1)) (.val (refN f)) (.val (.int ((WX n).length : Nat))) (.val (.int i)) (.val f) st2
  rw [c9, bindOk, x9, optOk, thenOk] at e11
  obtain ⟨w, st4, cw, pw, qw, hs4⟩ := draw_ok hs3 (m := 5) (by decide) (by decide)
  have hw : w ∈ wayL := by
    have : w = 0 ∨ w = 1 ∨ w = 2 ∨ w = 3 ∨ w = 4 := by omega
    simpa [wayL] using this
  have e12 := lw12_eq n (.str l) (.val (.int 1)) (.val (refN f)) (.val (.int ((WX n).length : Nat))) (.val (.int i)) (.val f) (.val o) st3
  rw [cw, thenOk] at e12
  obtain ⟨d2, st5, c2, _, _, hs5⟩ := draw_ok hs4 (m := 2) (by decide) (by decide)
  have e13 := lw13_ok n (.str l) (.val (.int 1)) (.val (refN f)) (.val (.int ((WX n).length : Nat))) (.val (.int i)) f o (.int w) (refS o) st4 d2 st5 c2 (refs w hw o ho)
  have e14 := s14 o ho n (.str l) (.val (.int 1)) (.val (.int ((WX n).length : Nat))) (.val (.int i)) (.val f) (.val (.int w)) (some st5)
  have e15 := K.s15 w hw (.str l) (.val (.int 1)) (.val (refS o)) (.val (.int ((WX n).length : Nat))) (.val (.int i)) (.val f) (.val o) (some st5)
  refine ⟨some st5, ?_⟩
  refine (seq_of (K.s1 (some st))).trans ((seq_of e2).trans ((seq_of e3).trans ((seq_of e4).trans ((seq_of e5).trans ((seq_of (K.s6 _ _ _ _ _ _)).trans ((seq_of (K.s7 _ _ _ _ _ _)).trans ((seq_of e8).trans ((seq_of e9).trans ((seq_of e10).trans ((seq_of e11).trans ((seq_of e12).trans ((seq_of e13).trans ((seq_of e14).trans e15)))))))))))))
theorem law_pure : ∀ st, hsOk st = true → ∃ s', resH (b_law (en0 14 [.no, .hand]) (some st)) = .ok (.bl true) s' := by
  intro st hs
  obtain ⟨d, st1, e, p, q, hs1⟩ := draw_ok hs (m := 6) (by decide) (by decide)
  have e0 := lw0_eq st
  rw [e, bindOk] at e0
  have fin : ∀ (n : Nat), 1 + d = (n : Int) → n ≤ 6 → K4 n → S8 n → ∃ s', resH (b_law (en0 14 [.no, .hand]) (some st)) = .ok (.bl true) s' := fun n hd hn K e8 => by
    have e1 : vAdd (.int 1) (.int d) = some (.int (n : Int)) := by rw [← hd]; rfl
    rw [e1, optOk, thenOk] at e0
    obtain ⟨s', r⟩ := pure_n hn K e8 st1 hs1 _ rfl
    refine ⟨s', ?_⟩
    have z : b_law (en0 14 [.no, .hand]) (some st) = .rt (.bl true) s' := by
      rw [lw_split]
      exact (seq_of e0).trans r
    rw [z]
    rfl
  have : d = 0 ∨ d = 1 ∨ d = 2 ∨ d = 3 ∨ d = 4 ∨ d = 5 := by omega
  rcases this with rfl | rfl | rfl | rfl | rfl | rfl
  · exact fin 1 rfl (by decide) k4_1 s8_1
  · exact fin 2 rfl (by decide) k4_2 s8_2
  · exact fin 3 rfl (by decide) k4_3 s8_3
  · exact fin 4 rfl (by decide) k4_4 s8_4
  · exact fin 5 rfl (by decide) k4_5 s8_5
  · exact fin 6 rfl (by decide) k4_6 s8_6
end Vv

section
open Vv
variable {P : Program} {w : World} {K : PySem.W.Frag} {mg : Str → Option Value} {base : Heap} {AD : Ads}
theorem ok_law0 (T : Top K mg AD) (pure_ : ∀ st, hsOk st = true → ∃ s', resH (b_law (en0 14 [.no, .hand]) (some st)) = .ok (.bl true) s') : FnOk P w K mg base CX0 11 AD.f_law AD.d_law P_law (spLaw K) := by
  refine T.D_law.F.ok sc_law (fun vs H Q E h => by obtain ⟨a, ns, rfl, _⟩ := h; rfl) (fun cdv A outer s H vs Q E hr h => ?_)
  obtain ⟨a, ns, rfl, hS, hl, q⟩ := h
  refine ⟨_, pss_cons (ps_set (i := 1) sc_law.nd rfl (Or.inl rfl) (callD T.D_l_hand (okx_l_hand T) hr (pa_cons (pv 0) pa_nil)))
    (pss_any (B := BT K AD) (W := W0) (g := b_law)
  (vss_cons (vs_set 2 sc_law.nd (ve_op (op_addA rfl) Op2.add ve_int (ve_callH 1 F_l_draw (v_l_draw T) (hr.mono (by decide)) rfl T.D_l_draw.g T.D_l_draw.F.kp T.D_l_draw.b takes0 (pv 1) (va_cons ve_int va_nil))))
  (vss_cons (vs_set 3 sc_law.nd (ve_call F_l_all_words (v_l_all_words T) (hr.mono (by decide)) rfl T.D_l_all_words.g T.D_l_all_words.F.kp T.D_l_all_words.b takes0 (va_cons (ve_n 2) va_nil)))
  (vss_cons (vs_set 4 sc_law.nd (ve_callH 1 F_l_word (v_l_word T) (hr.mono (by decide)) rfl T.D_l_word.g T.D_l_word.F.kp T.D_l_word.b takes0 (pv 1) (va_cons (ve_n 2) va_nil)))
  (vss_cons (vs_for PassesOwn.never (by rfl) (vi_range1 (by rfl) T.b_range (va_cons ve_int va_nil)) (vg_n 5 sc_law.nd)
  (vss_cons (vs_set 6 sc_law.nd (ve_listG [70, 29, 4, 5] F_all_columns (v_all_columns T) (hr.mono (by decide)) (hr.mono (by decide)) (List.forall_mem_cons.mpr ⟨T.ns_NoSuch, (List.forall_mem_cons.mpr ⟨T.ns_BadSize, (List.forall_mem_cons.mpr ⟨T.ns_BadColumn, (List.forall_mem_cons.mpr ⟨T.ns_BadBoundary, (fun _ h => nomatch h)⟩)⟩)⟩)⟩) rfl T.b_list (by rfl) rfl T.D_all_columns.g T.D_all_columns.F.kp T.D_all_columns.b takes0 (va_cons (ve_n 2) va_nil)))
  (vss_cons (vs_if (VW.vt (vw_or (vt_not (vt_val rfl (ve_b (cr_allA rfl (by rfl)) OpN.allB (by rfl) T.b_all (by decide +kernel) (va_cons (VF.ve (vf_lc (own := [("_law_column", 12)]) (by rfl) sc_law.nd (vi_any rfl (ve_n 6)) (blkOk_by (N := N_law) (sc := defScope s_law) (by decide +kernel)) rfl ⟨(gName 12), (fun _ _ _ _ _ => (pg_name (i := 12) sc_law.nd rfl (by first | exact Or.inl rfl | exact Or.inr rfl))), gtN_ok⟩ (fun _ _ _ _ _ => vts_nil) (fun _ _ _ _ _ => (ve_b (call_isiA rfl) (OpN.isi (kit T)) (by rfl) T.b_isinstance (by decide +kernel) (va_cons (ve_n 12) (va_cons (ve_clv 0 rfl T.g_Column) va_nil)))))) va_nil)) (by intro _; rfl))) (vw_or1 (vt_cmp (op_neB rfl hr.units) Op2.ne (VF.ve (vf_lc (own := [("_law_column", 12)]) (by rfl) sc_law.nd (vi_any rfl (ve_n 6)) (blkOk_by (N := N_law) (sc := defScope s_law) (by decide +kernel)) rfl ⟨(gName 12), (fun _ _ _ _ _ => (pg_name (i := 12) sc_law.nd rfl (by first | exact Or.inl rfl | exact Or.inr rfl))), gtN_ok⟩ (fun _ _ _ _ _ => vts_nil) (fun _ _ _ _ _ => (ve_fld 0 0 rfl T.cl_Column T.n_Column_word (fun vs h => match vs, h with | [_, _], _ => rfl) (ve_n 12))))) (ve_n 3) (nomark _)))))
  (vss_one (vs_ret ve_bl))
  vss_nil)
  (vss_cons (vs_set 7 sc_law.nd (ve_call F_how_many_columns (v_how_many_columns T) (hr.mono (by decide)) rfl T.D_how_many_columns.g T.D_how_many_columns.F.kp T.D_how_many_columns.b takes0 (va_cons (ve_n 2) va_nil)))
  (vss_cons (vs_if (VW.vt (vw_or (vt_not (vt_val rfl (ve_b (call_isiA rfl) (OpN.isi (kit T)) (by rfl) T.b_isinstance (by decide +kernel) (va_cons (ve_n 7) (va_cons (ve_tyv (by rfl) T.b_int (by decide +kernel)) va_nil))) (by intro _; rfl))) (vw_or (vt_val rfl (ve_b (call_isiA rfl) (OpN.isi (kit T)) (by rfl) T.b_isinstance (by decide +kernel) (va_cons (ve_n 7) (va_cons (ve_tyv (by rfl) T.b_bool (by decide +kernel)) va_nil))) (by intro _; rfl)) (vw_or1 (vt_cmp (op_neB rfl hr.units) Op2.ne (ve_n 7) (ve_b (call_lenA rfl) OpN.len (by rfl) T.b_len (by decide +kernel) (va_cons (ve_n 3) va_nil)) (nomark _))))))
  (vss_one (vs_ret ve_bl))
  vss_nil)
  (vss_cons (vs_if (vt_cmp (op_neB rfl hr.units) Op2.ne (VF.ve (vf_lc (own := [("_law_column", 12)]) (by rfl) sc_law.nd (vi_any rfl (ve_n 6)) (blkOk_by (N := N_law) (sc := defScope s_law) (by decide +kernel)) rfl ⟨(gName 12), (fun _ _ _ _ _ => (pg_name (i := 12) sc_law.nd rfl (by first | exact Or.inl rfl | exact Or.inr rfl))), gtN_ok⟩ (fun _ _ _ _ _ => vts_nil) (fun _ _ _ _ _ => (ve_call F_column_index (v_column_index T) (hr.mono (by decide)) rfl T.D_column_index.g T.D_column_index.F.kp T.D_column_index.b takes0 (va_cons (ve_n 12) va_nil))))) (VF.ve (vf_rg1 rfl (by rfl) T.b_list (by rfl) T.b_range (ve_b (call_lenA rfl) OpN.len (by rfl) T.b_len (by decide +kernel) (va_cons (ve_n 3) va_nil)))) (nomark _))
  (vss_one (vs_ret ve_bl))
  vss_nil)
  (vss_one (vs_if (vt_cmp (op_neB rfl hr.units) Op2.ne (VF.ve (vf_lc (own := [("_law_k", 13)]) (by rfl) sc_law.nd (vi_range1 (by rfl) T.b_range (va_cons (ve_b (call_lenA rfl) OpN.len (by rfl) T.b_len (by decide +kernel) (va_cons (ve_n 3) va_nil)) va_nil)) (blkOk_by (N := N_law) (sc := defScope s_law) (by decide +kernel)) rfl ⟨(gName 13), (fun _ _ _ _ _ => (pg_name (i := 13) sc_law.nd rfl (by first | exact Or.inl rfl | exact Or.inr rfl))), gtN_ok⟩ (fun _ _ _ _ _ => vts_nil) (fun _ _ _ _ _ => (ve_fld 0 0 rfl T.cl_Column T.n_Column_word (fun vs h => match vs, h with | [_, _], _ => rfl) (ve_call F_column_at (v_column_at T) (hr.mono (by decide)) rfl T.D_column_at.g T.D_column_at.F.kp T.D_column_at.b takes0 (va_cons (ve_n 2) (va_cons (ve_n 13) va_nil))))))) (ve_n 3) (nomark _))
  (vss_one (vs_ret ve_bl))
  vss_nil))))))))
  (vss_cons (vs_set 8 sc_law.nd (ve_call F_column_index (v_column_index T) (hr.mono (by decide)) rfl T.D_column_index.g T.D_column_index.F.kp T.D_column_index.b takes0 (va_cons (ve_make 0 F_Column___init__ T.mk_Column (v_Column___init__ T) (hr.mono (by decide)) rfl T.g_Column T.D_Column___init__.b takes0 runI_obj (va_cons (ve_n 4) va_nil)) va_nil)))
  (vss_cons (vs_if (VW.vt (vw_or (vt_val rfl (ve_b (call_isiA rfl) (OpN.isi (kit T)) (by rfl) T.b_isinstance (by decide +kernel) (va_cons (ve_n 8) (va_cons (ve_tyv (by rfl) T.b_bool (by decide +kernel)) va_nil))) (by intro _; rfl)) (vw_or (vt_cmp (op_neB rfl hr.units) Op2.ne (ve_ix (ix_A rfl) Op2.ix (ve_n 3) (ve_n 8) (fun _ _ => rfl)) (ve_n 4) (nomark _)) (vw_or1 (vt_cmp (op_neOwn2 T.o_Column___eq__ T.ne_Column (v_Column___eq__ T) T.D_Column___eq__.b passF (hr.mono (by decide))) (Op2.eqO rfl true 0 F_Column___eq__) (ve_call F_column_at (v_column_at T) (hr.mono (by decide)) rfl T.D_column_at.g T.D_column_at.F.kp T.D_column_at.b takes0 (va_cons (ve_n 2) (va_cons (ve_n 8) va_nil))) (ve_make 0 F_Column___init__ T.mk_Column (v_Column___init__ T) (hr.mono (by decide)) rfl T.g_Column T.D_Column___init__.b takes0 runI_obj (va_cons (ve_n 4) va_nil)) (nomark _))))))
  (vss_one (vs_ret ve_bl))
  vss_nil)
  (vss_cons (vs_if (VW.vt (vw_or (vt_cmp (op_neOwn2 T.o_Column___eq__ T.ne_Column (v_Column___eq__ T) T.D_Column___eq__.b passF (hr.mono (by decide))) (Op2.eqO rfl true 0 F_Column___eq__) (ve_call F_plain_column (v_plain_column T) (hr.mono (by decide)) rfl T.D_plain_column.g T.D_plain_column.F.kp T.D_plain_column.b takes0 (va_cons (ve_n 2) va_nil)) (ve_make 0 F_Column___init__ T.mk_Column (v_Column___init__ T) (hr.mono (by decide)) rfl T.g_Column T.D_Column___init__.b takes0 runI_obj (va_cons (ve_op (op_addA rfl) Op2.add (ve_op op_repS2 Op2.repS (ve_s [100] (by decide +kernel)) (ve_n 2)) (ve_op op_repS2 Op2.repS (ve_s [111] (by decide +kernel)) (ve_n 2))) va_nil)) (nomark _)) (vw_or1 (vt_cmp (op_neOwn2 T.o_Column___eq__ T.ne_Column (v_Column___eq__ T) T.D_Column___eq__.b passF (hr.mono (by decide))) (Op2.eqO rfl true 0 F_Column___eq__) (ve_call F_steep_column (v_steep_column T) (hr.mono (by decide)) rfl T.D_steep_column.g T.D_steep_column.F.kp T.D_steep_column.b takes0 (va_cons (ve_n 2) va_nil)) (ve_make 0 F_Column___init__ T.mk_Column (v_Column___init__ T) (hr.mono (by decide)) rfl T.g_Column T.D_Column___init__.b takes0 runI_obj (va_cons (ve_op op_repS2 Op2.repS (ve_s [100, 111] (by decide +kernel)) (ve_n 2)) va_nil)) (nomark _)))))
  (vss_one (vs_ret ve_bl))
  vss_nil)
  (vss_cons (vs_if (VW.vt (vw_or (vt_cmp (op_neB rfl hr.units) Op2.ne (ve_fld 0 0 rfl T.cl_Column T.n_Column_word (fun vs h => match vs, h with | [_, _], _ => rfl) (ve_call F_plain_column (v_plain_column T) (hr.mono (by decide)) rfl T.D_plain_column.g T.D_plain_column.F.kp T.D_plain_column.b takes0 (va_cons (ve_n 2) va_nil))) (ve_ix (ix_A rfl) Op2.ix (ve_n 3) ve_int (fun _ _ => rfl)) (nomark _)) (vw_or1 (vt_cmp (op_neB rfl hr.units) Op2.ne (ve_fld 0 0 rfl T.cl_Column T.n_Column_word (fun vs h => match vs, h with | [_, _], _ => rfl) (ve_call F_steep_column (v_steep_column T) (hr.mono (by decide)) rfl T.D_steep_column.g T.D_steep_column.F.kp T.D_steep_column.b takes0 (va_cons (ve_n 2) va_nil))) (ve_ix (ix_A rfl) Op2.ix (ve_n 3) (ve_un un_neg Op1.neg ve_int) (fun _ _ => rfl)) (nomark _)))))
  (vss_one (vs_ret ve_bl))
  vss_nil)
  (vss_cons (vs_set 9 sc_law.nd (ve_ix (ix_A rfl) Op2.ix (ve_lst (va_cons (ve_un un_neg Op1.neg ve_int) (va_cons (ve_b (call_lenA rfl) OpN.len (by rfl) T.b_len (by decide +kernel) (va_cons (ve_n 3) va_nil)) (va_cons ve_non (va_cons ve_bl (va_cons (ve_s [48] (by decide +kernel)) (va_cons (ve_op (op_addA rfl) Op2.add (ve_b (call_lenA rfl) OpN.len (by rfl) T.b_len (by decide +kernel) (va_cons (ve_n 3) va_nil)) (ve_op op_pow Op2.pow ve_int ve_int)) (va_cons (ve_un un_neg Op1.neg (ve_op op_pow Op2.pow ve_int ve_int)) (va_cons ve_bl va_nil))))))))) (ve_callH 1 F_l_draw (v_l_draw T) (hr.mono (by decide)) rfl T.D_l_draw.g T.D_l_draw.F.kp T.D_l_draw.b takes0 (pv 1) (va_cons ve_int va_nil)) (fun _ _ => rfl)))
  (vss_cons (vs_set 6 sc_law.nd (ve_call F_l_refused (v_l_refused T) (hr.mono (by decide)) rfl T.D_l_refused.g T.D_l_refused.F.kp T.D_l_refused.b takes0 (va_cons ve_int (va_cons (ve_n 2) (va_cons (ve_n 9) va_nil)))))
  (vss_cons (vs_if (VW.vt (vw_or (vt_cmp (op_neB rfl hr.units) Op2.ne (ve_n 6) (ve_tup (va_cons (ve_s [110, 117, 109, 98, 101, 114] (by decide +kernel)) (va_cons (ve_n 9) va_nil))) (nomark _)) (vw_or1 (vt_cmp (op_neB rfl hr.units) Op2.ne (ve_b (call_isiA rfl) (OpN.isi (kit T)) (by rfl) T.b_isinstance (by decide +kernel) (va_cons (ve_ix (ix_A rfl) Op2.ix (ve_n 6) ve_int (fun _ _ => rfl)) (va_cons (ve_tyv (by rfl) T.b_bool (by decide +kernel)) va_nil))) (ve_b (call_isiA rfl) (OpN.isi (kit T)) (by rfl) T.b_isinstance (by decide +kernel) (va_cons (ve_n 9) (va_cons (ve_tyv (by rfl) T.b_bool (by decide +kernel)) va_nil))) (nomark _)))))
  (vss_one (vs_ret ve_bl))
  vss_nil)
  (vss_cons (vs_set 10 sc_law.nd (ve_ix (ix_A rfl) Op2.ix (ve_lst (va_cons ve_int (va_cons ve_int (va_cons (ve_un un_neg Op1.neg ve_int) (va_cons ve_non (va_cons ve_bl (va_cons (ve_s [50] (by decide +kernel)) (va_cons (ve_op op_pow Op2.pow ve_int ve_int) (va_cons (ve_lst (va_cons ve_int va_nil)) (va_cons ve_bl va_nil)))))))))) (ve_callH 1 F_l_draw (v_l_draw T) (hr.mono (by decide)) rfl T.D_l_draw.g T.D_l_draw.F.kp T.D_l_draw.b takes0 (pv 1) (va_cons ve_int va_nil)) (fun _ _ => rfl)))
  (vss_cons (vs_set 11 sc_law.nd (ve_callH 1 F_l_draw (v_l_draw T) (hr.mono (by decide)) rfl T.D_l_draw.g T.D_l_draw.F.kp T.D_l_draw.b takes0 (pv 1) (va_cons ve_int va_nil)))
  (vss_cons (vs_set 6 sc_law.nd (ve_call F_l_refused (v_l_refused T) (hr.mono (by decide)) rfl T.D_l_refused.g T.D_l_refused.F.kp T.D_l_refused.b takes0 (va_cons (ve_n 11) (va_cons (ve_n 10) (va_cons (ve_if (vt_cmp (op_eqB rfl hr.units) Op2.eq (ve_callH 1 F_l_draw (v_l_draw T) (hr.mono (by decide)) rfl T.D_l_draw.g T.D_l_draw.F.kp T.D_l_draw.b takes0 (pv 1) (va_cons ve_int va_nil)) ve_int (nomark _)) (ve_n 9) ve_int) va_nil)))))
  (vss_cons (vs_if (VW.vt (vw_or (vt_cmp (op_neB rfl hr.units) Op2.ne (ve_n 6) (ve_tup (va_cons (ve_s [115, 105, 122, 101] (by decide +kernel)) (va_cons (ve_n 10) va_nil))) (nomark _)) (vw_or1 (vt_cmp (op_neB rfl hr.units) Op2.ne (ve_b (call_isiA rfl) (OpN.isi (kit T)) (by rfl) T.b_isinstance (by decide +kernel) (va_cons (ve_ix (ix_A rfl) Op2.ix (ve_n 6) ve_int (fun _ _ => rfl)) (va_cons (ve_tyv (by rfl) T.b_bool (by decide +kernel)) va_nil))) (ve_b (call_isiA rfl) (OpN.isi (kit T)) (by rfl) T.b_isinstance (by decide +kernel) (va_cons (ve_n 10) (va_cons (ve_tyv (by rfl) T.b_bool (by decide +kernel)) va_nil))) (nomark _)))))
  (vss_one (vs_ret ve_bl))
  vss_nil)
  (vss_one (vs_ret (ve_cmp (op_eqB rfl hr.units) Op2.eq (ve_ix (ix_A rfl) Op2.ix (ve_call F_l_refused (v_l_refused T) (hr.mono (by decide)) rfl T.D_l_refused.g T.D_l_refused.F.kp T.D_l_refused.b takes0 (va_cons (ve_n 11) (va_cons (ve_n 2) (va_cons ve_int va_nil)))) ve_int (fun _ _ => rfl)) (ve_s [116, 111, 108, 100] (by decide +kernel)) (nomark _)))))))))))))))))))), ?_⟩
  refine ⟨_, rfl, a, ns, rfl, hS, hl, fun p l H' st s1 e1 e2 hA hok => ?_⟩
  obtain ⟨s', e⟩ := pure_ st hok
  exact law_go (n := 14) (by decide) rfl rfl hA s1 e1 e2 e fun H' => q H'
theorem ok_law (T : Top K mg AD) : FnOk P w K mg base CX0 11 AD.f_law AD.d_law P_law (spLaw K) := ok_law0 T Vv.law_pure
end

theorem all_mk {P : Program} {w : World} {K : PySem.W.Frag} {h : Heap} {mg : Str → Option Value} {fa : Addr} (X : K.In h) (G : h.Ns mainGlobals mg) (hfa : mg "law" = some (.ref fa))
    {C_CardError C_NoSuch C_BadSize C_BadColumn C_BadBoundary C_Column f_is_number f_is_whole f_word_fault f_check_size f_ways_home f_how_many_columns f_all_columns f_column_index f_column_at f_plain_column f_steep_column f_l_mix f_l_hand f_l_draw f_l_word f_l_all_words f_l_refused f_law f_NoSuch___init__ f_BadSize___init__ f_BadColumn___init__ f_BadBoundary___init__ f_Column___init__ f_Column_many f_Column_height f_Column___eq__ f_Column___str__ f_Column___len__ f_Column___iter__ : Addr}
    {od_is_number : Option Addr}
    {an_is_number : Option Addr}
    {sl_is_number : Array (Option Value)}
    {oc_is_number kV_is_number dc_is_number pm_is_number cd_is_number ct_is_number : Value}
    {od_is_whole : Option Addr}
    {an_is_whole : Option Addr}
    {sl_is_whole : Array (Option Value)}
    {oc_is_whole kV_is_whole dc_is_whole pm_is_whole cd_is_whole ct_is_whole : Value}
    {od_word_fault : Option Addr}
    {an_word_fault : Option Addr}
    {sl_word_fault : Array (Option Value)}
    {oc_word_fault kV_word_fault dc_word_fault pm_word_fault cd_word_fault ct_word_fault : Value}
    {od_check_size : Option Addr}
    {an_check_size : Option Addr}
    {sl_check_size : Array (Option Value)}
    {oc_check_size kV_check_size dc_check_size pm_check_size cd_check_size ct_check_size : Value}
    {od_ways_home : Option Addr}
    {an_ways_home : Option Addr}
    {sl_ways_home : Array (Option Value)}
    {oc_ways_home kV_ways_home dc_ways_home pm_ways_home cd_ways_home ct_ways_home : Value}
    {od_how_many_columns : Option Addr}
    {an_how_many_columns : Option Addr}
    {sl_how_many_columns : Array (Option Value)}
    {oc_how_many_columns kV_how_many_columns dc_how_many_columns pm_how_many_columns cd_how_many_columns ct_how_many_columns : Value}
    {od_all_columns : Option Addr}
    {an_all_columns : Option Addr}
    {sl_all_columns : Array (Option Value)}
    {oc_all_columns kV_all_columns dc_all_columns pm_all_columns cd_all_columns ct_all_columns : Value}
    {od_column_index : Option Addr}
    {an_column_index : Option Addr}
    {sl_column_index : Array (Option Value)}
    {oc_column_index kV_column_index dc_column_index pm_column_index cd_column_index ct_column_index : Value}
    {od_column_at : Option Addr}
    {an_column_at : Option Addr}
    {sl_column_at : Array (Option Value)}
    {oc_column_at kV_column_at dc_column_at pm_column_at cd_column_at ct_column_at : Value}
    {od_plain_column : Option Addr}
    {an_plain_column : Option Addr}
    {sl_plain_column : Array (Option Value)}
    {oc_plain_column kV_plain_column dc_plain_column pm_plain_column cd_plain_column ct_plain_column : Value}
    {od_steep_column : Option Addr}
    {an_steep_column : Option Addr}
    {sl_steep_column : Array (Option Value)}
    {oc_steep_column kV_steep_column dc_steep_column pm_steep_column cd_steep_column ct_steep_column : Value}
    {od_l_mix : Option Addr}
    {an_l_mix : Option Addr}
    {sl_l_mix : Array (Option Value)}
    {oc_l_mix kV_l_mix dc_l_mix pm_l_mix cd_l_mix ct_l_mix : Value}
    {od_l_hand : Option Addr}
    {an_l_hand : Option Addr}
    {sl_l_hand : Array (Option Value)}
    {oc_l_hand kV_l_hand dc_l_hand pm_l_hand cd_l_hand ct_l_hand : Value}
    {od_l_draw : Option Addr}
    {an_l_draw : Option Addr}
    {sl_l_draw : Array (Option Value)}
    {oc_l_draw kV_l_draw dc_l_draw pm_l_draw cd_l_draw ct_l_draw : Value}
    {od_l_word : Option Addr}
    {an_l_word : Option Addr}
    {sl_l_word : Array (Option Value)}
    {oc_l_word kV_l_word dc_l_word pm_l_word cd_l_word ct_l_word : Value}
    {od_l_all_words : Option Addr}
    {an_l_all_words : Option Addr}
    {sl_l_all_words : Array (Option Value)}
    {oc_l_all_words kV_l_all_words dc_l_all_words pm_l_all_words cd_l_all_words ct_l_all_words : Value}
    {od_l_refused : Option Addr}
    {an_l_refused : Option Addr}
    {sl_l_refused : Array (Option Value)}
    {oc_l_refused kV_l_refused dc_l_refused pm_l_refused cd_l_refused ct_l_refused : Value}
    {od_law : Option Addr}
    {an_law : Option Addr}
    {sl_law : Array (Option Value)}
    {oc_law kV_law dc_law pm_law cd_law ct_law : Value}
    {od_NoSuch___init__ : Option Addr}
    {an_NoSuch___init__ : Option Addr}
    {sl_NoSuch___init__ : Array (Option Value)}
    {oc_NoSuch___init__ kV_NoSuch___init__ dc_NoSuch___init__ pm_NoSuch___init__ cd_NoSuch___init__ ct_NoSuch___init__ : Value}
    {od_BadSize___init__ : Option Addr}
    {an_BadSize___init__ : Option Addr}
    {sl_BadSize___init__ : Array (Option Value)}
    {oc_BadSize___init__ kV_BadSize___init__ dc_BadSize___init__ pm_BadSize___init__ cd_BadSize___init__ ct_BadSize___init__ : Value}
    {od_BadColumn___init__ : Option Addr}
    {an_BadColumn___init__ : Option Addr}
    {sl_BadColumn___init__ : Array (Option Value)}
    {oc_BadColumn___init__ kV_BadColumn___init__ dc_BadColumn___init__ pm_BadColumn___init__ cd_BadColumn___init__ ct_BadColumn___init__ : Value}
    {od_BadBoundary___init__ : Option Addr}
    {an_BadBoundary___init__ : Option Addr}
    {sl_BadBoundary___init__ : Array (Option Value)}
    {oc_BadBoundary___init__ kV_BadBoundary___init__ dc_BadBoundary___init__ pm_BadBoundary___init__ cd_BadBoundary___init__ ct_BadBoundary___init__ : Value}
    {od_Column___init__ : Option Addr}
    {an_Column___init__ : Option Addr}
    {sl_Column___init__ : Array (Option Value)}
    {oc_Column___init__ kV_Column___init__ dc_Column___init__ pm_Column___init__ cd_Column___init__ ct_Column___init__ : Value}
    {od_Column_many : Option Addr}
    {an_Column_many : Option Addr}
    {sl_Column_many : Array (Option Value)}
    {oc_Column_many kV_Column_many dc_Column_many pm_Column_many cd_Column_many ct_Column_many : Value}
    {od_Column_height : Option Addr}
    {an_Column_height : Option Addr}
    {sl_Column_height : Array (Option Value)}
    {oc_Column_height kV_Column_height dc_Column_height pm_Column_height cd_Column_height ct_Column_height : Value}
    {od_Column___eq__ : Option Addr}
    {an_Column___eq__ : Option Addr}
    {sl_Column___eq__ : Array (Option Value)}
    {oc_Column___eq__ kV_Column___eq__ dc_Column___eq__ pm_Column___eq__ cd_Column___eq__ ct_Column___eq__ : Value}
    {od_Column___str__ : Option Addr}
    {an_Column___str__ : Option Addr}
    {sl_Column___str__ : Array (Option Value)}
    {oc_Column___str__ kV_Column___str__ dc_Column___str__ pm_Column___str__ cd_Column___str__ ct_Column___str__ : Value}
    {od_Column___len__ : Option Addr}
    {an_Column___len__ : Option Addr}
    {sl_Column___len__ : Array (Option Value)}
    {oc_Column___len__ kV_Column___len__ dc_Column___len__ pm_Column___len__ cd_Column___len__ ct_Column___len__ : Value}
    {od_Column___iter__ : Option Addr}
    {an_Column___iter__ : Option Addr}
    {sl_Column___iter__ : Array (Option Value)}
    {oc_Column___iter__ kV_Column___iter__ dc_Column___iter__ pm_Column___iter__ cd_Column___iter__ ct_Column___iter__ : Value}
    {nm_NoSuch q_NoSuch : Str} {N_NoSuch : Addr} {bs_NoSuch bm_NoSuch sb_NoSuch : List Value} {sn_NoSuch : List Str} {ab_NoSuch : Bool} {co_NoSuch : Option Bool} {dd_NoSuch : Option Addr} {m0_NoSuch m1_NoSuch m2_NoSuch m3_NoSuch m5_NoSuch : Option Value}
    {nm_BadSize q_BadSize : Str} {N_BadSize : Addr} {bs_BadSize bm_BadSize sb_BadSize : List Value} {sn_BadSize : List Str} {ab_BadSize : Bool} {co_BadSize : Option Bool} {dd_BadSize : Option Addr} {m0_BadSize m1_BadSize m2_BadSize m3_BadSize m5_BadSize : Option Value}
    {nm_BadColumn q_BadColumn : Str} {N_BadColumn : Addr} {bs_BadColumn bm_BadColumn sb_BadColumn : List Value} {sn_BadColumn : List Str} {ab_BadColumn : Bool} {co_BadColumn : Option Bool} {dd_BadColumn : Option Addr} {m0_BadColumn m1_BadColumn m2_BadColumn m3_BadColumn m5_BadColumn : Option Value}
    {nm_BadBoundary q_BadBoundary : Str} {N_BadBoundary : Addr} {bs_BadBoundary bm_BadBoundary sb_BadBoundary : List Value} {sn_BadBoundary : List Str} {ab_BadBoundary : Bool} {co_BadBoundary : Option Bool} {dd_BadBoundary : Option Addr} {m0_BadBoundary m1_BadBoundary m2_BadBoundary m3_BadBoundary m5_BadBoundary : Option Value}
    {tk_MOST_SIZE : Tok}
    (ac_CardError : PySem.W.nsIn K mainGlobals "CardError" = some (some (.ref C_CardError)))
    (ac_NoSuch : PySem.W.nsIn K mainGlobals "NoSuch" = some (some (.ref C_NoSuch)))
    (ac_BadSize : PySem.W.nsIn K mainGlobals "BadSize" = some (some (.ref C_BadSize)))
    (ac_BadColumn : PySem.W.nsIn K mainGlobals "BadColumn" = some (some (.ref C_BadColumn)))
    (ac_BadBoundary : PySem.W.nsIn K mainGlobals "BadBoundary" = some (some (.ref C_BadBoundary)))
    (ac_Column : PySem.W.nsIn K mainGlobals "Column" = some (some (.ref C_Column)))
    (a_is_number : PySem.W.nsIn K mainGlobals "is_number" = some (some (.ref f_is_number)))
    (l_is_number : K.lookup f_is_number = some ⟨oc_is_number, od_is_number, .func (PySem.W.fnOf "is_number" "is_number" (defArgs s_is_number) (defBody s_is_number) (defScope s_is_number) .none kV_is_number dc_is_number pm_is_number an_is_number cd_is_number ct_is_number), sl_is_number⟩)
    (c_is_number : PySem.W.codeIn K cd_is_number "is_number" = true)
    (k_is_number : PySem.W.keepIn K (.ref f_is_number) = true)
    (a_is_whole : PySem.W.nsIn K mainGlobals "is_whole" = some (some (.ref f_is_whole)))
    (l_is_whole : K.lookup f_is_whole = some ⟨oc_is_whole, od_is_whole, .func (PySem.W.fnOf "is_whole" "is_whole" (defArgs s_is_whole) (defBody s_is_whole) (defScope s_is_whole) .none kV_is_whole dc_is_whole pm_is_whole an_is_whole cd_is_whole ct_is_whole), sl_is_whole⟩)
    (c_is_whole : PySem.W.codeIn K cd_is_whole "is_whole" = true)
    (k_is_whole : PySem.W.keepIn K (.ref f_is_whole) = true)
    (a_word_fault : PySem.W.nsIn K mainGlobals "word_fault" = some (some (.ref f_word_fault)))
    (l_word_fault : K.lookup f_word_fault = some ⟨oc_word_fault, od_word_fault, .func (PySem.W.fnOf "word_fault" "word_fault" (defArgs s_word_fault) (defBody s_word_fault) (defScope s_word_fault) .none kV_word_fault dc_word_fault pm_word_fault an_word_fault cd_word_fault ct_word_fault), sl_word_fault⟩)
    (c_word_fault : PySem.W.codeIn K cd_word_fault "word_fault" = true)
    (k_word_fault : PySem.W.keepIn K (.ref f_word_fault) = true)
    (a_check_size : PySem.W.nsIn K mainGlobals "check_size" = some (some (.ref f_check_size)))
    (l_check_size : K.lookup f_check_size = some ⟨oc_check_size, od_check_size, .func (PySem.W.fnOf "check_size" "check_size" (defArgs s_check_size) (defBody s_check_size) (defScope s_check_size) .none kV_check_size dc_check_size pm_check_size an_check_size cd_check_size ct_check_size), sl_check_size⟩)
    (c_check_size : PySem.W.codeIn K cd_check_size "check_size" = true)
    (k_check_size : PySem.W.keepIn K (.ref f_check_size) = true)
    (a_ways_home : PySem.W.nsIn K mainGlobals "ways_home" = some (some (.ref f_ways_home)))
    (l_ways_home : K.lookup f_ways_home = some ⟨oc_ways_home, od_ways_home, .func (PySem.W.fnOf "ways_home" "ways_home" (defArgs s_ways_home) (defBody s_ways_home) (defScope s_ways_home) .none kV_ways_home dc_ways_home pm_ways_home an_ways_home cd_ways_home ct_ways_home), sl_ways_home⟩)
    (c_ways_home : PySem.W.codeIn K cd_ways_home "ways_home" = true)
    (k_ways_home : PySem.W.keepIn K (.ref f_ways_home) = true)
    (a_how_many_columns : PySem.W.nsIn K mainGlobals "how_many_columns" = some (some (.ref f_how_many_columns)))
    (l_how_many_columns : K.lookup f_how_many_columns = some ⟨oc_how_many_columns, od_how_many_columns, .func (PySem.W.fnOf "how_many_columns" "how_many_columns" (defArgs s_how_many_columns) (defBody s_how_many_columns) (defScope s_how_many_columns) .none kV_how_many_columns dc_how_many_columns pm_how_many_columns an_how_many_columns cd_how_many_columns ct_how_many_columns), sl_how_many_columns⟩)
    (c_how_many_columns : PySem.W.codeIn K cd_how_many_columns "how_many_columns" = true)
    (k_how_many_columns : PySem.W.keepIn K (.ref f_how_many_columns) = true)
    (a_all_columns : PySem.W.nsIn K mainGlobals "all_columns" = some (some (.ref f_all_columns)))
    (l_all_columns : K.lookup f_all_columns = some ⟨oc_all_columns, od_all_columns, .func (PySem.W.fnOf "all_columns" "all_columns" (defArgs s_all_columns) (defBody s_all_columns) (defScope s_all_columns) .none kV_all_columns dc_all_columns pm_all_columns an_all_columns cd_all_columns ct_all_columns), sl_all_columns⟩)
    (c_all_columns : PySem.W.codeIn K cd_all_columns "all_columns" = true)
    (k_all_columns : PySem.W.keepIn K (.ref f_all_columns) = true)
    (a_column_index : PySem.W.nsIn K mainGlobals "column_index" = some (some (.ref f_column_index)))
    (l_column_index : K.lookup f_column_index = some ⟨oc_column_index, od_column_index, .func (PySem.W.fnOf "column_index" "column_index" (defArgs s_column_index) (defBody s_column_index) (defScope s_column_index) .none kV_column_index dc_column_index pm_column_index an_column_index cd_column_index ct_column_index), sl_column_index⟩)
    (c_column_index : PySem.W.codeIn K cd_column_index "column_index" = true)
    (k_column_index : PySem.W.keepIn K (.ref f_column_index) = true)
    (a_column_at : PySem.W.nsIn K mainGlobals "column_at" = some (some (.ref f_column_at)))
    (l_column_at : K.lookup f_column_at = some ⟨oc_column_at, od_column_at, .func (PySem.W.fnOf "column_at" "column_at" (defArgs s_column_at) (defBody s_column_at) (defScope s_column_at) .none kV_column_at dc_column_at pm_column_at an_column_at cd_column_at ct_column_at), sl_column_at⟩)
    (c_column_at : PySem.W.codeIn K cd_column_at "column_at" = true)
    (k_column_at : PySem.W.keepIn K (.ref f_column_at) = true)
    (a_plain_column : PySem.W.nsIn K mainGlobals "plain_column" = some (some (.ref f_plain_column)))
    (l_plain_column : K.lookup f_plain_column = some ⟨oc_plain_column, od_plain_column, .func (PySem.W.fnOf "plain_column" "plain_column" (defArgs s_plain_column) (defBody s_plain_column) (defScope s_plain_column) .none kV_plain_column dc_plain_column pm_plain_column an_plain_column cd_plain_column ct_plain_column), sl_plain_column⟩)
    (c_plain_column : PySem.W.codeIn K cd_plain_column "plain_column" = true)
    (k_plain_column : PySem.W.keepIn K (.ref f_plain_column) = true)
    (a_steep_column : PySem.W.nsIn K mainGlobals "steep_column" = some (some (.ref f_steep_column)))
    (l_steep_column : K.lookup f_steep_column = some ⟨oc_steep_column, od_steep_column, .func (PySem.W.fnOf "steep_column" "steep_column" (defArgs s_steep_column) (defBody s_steep_column) (defScope s_steep_column) .none kV_steep_column dc_steep_column pm_steep_column an_steep_column cd_steep_column ct_steep_column), sl_steep_column⟩)
    (c_steep_column : PySem.W.codeIn K cd_steep_column "steep_column" = true)
    (k_steep_column : PySem.W.keepIn K (.ref f_steep_column) = true)
    (a_l_mix : PySem.W.nsIn K mainGlobals "_law_mix" = some (some (.ref f_l_mix)))
    (l_l_mix : K.lookup f_l_mix = some ⟨oc_l_mix, od_l_mix, .func (PySem.W.fnOf "_law_mix" "_law_mix" (defArgs s_l_mix) (defBody s_l_mix) (defScope s_l_mix) .none kV_l_mix dc_l_mix pm_l_mix an_l_mix cd_l_mix ct_l_mix), sl_l_mix⟩)
    (c_l_mix : PySem.W.codeIn K cd_l_mix "_law_mix" = true)
    (k_l_mix : PySem.W.keepIn K (.ref f_l_mix) = true)
    (a_l_hand : PySem.W.nsIn K mainGlobals "_law_hand" = some (some (.ref f_l_hand)))
    (l_l_hand : K.lookup f_l_hand = some ⟨oc_l_hand, od_l_hand, .func (PySem.W.fnOf "_law_hand" "_law_hand" (defArgs s_l_hand) (defBody s_l_hand) (defScope s_l_hand) .none kV_l_hand dc_l_hand pm_l_hand an_l_hand cd_l_hand ct_l_hand), sl_l_hand⟩)
    (c_l_hand : PySem.W.codeIn K cd_l_hand "_law_hand" = true)
    (k_l_hand : PySem.W.keepIn K (.ref f_l_hand) = true)
    (a_l_draw : PySem.W.nsIn K mainGlobals "_law_draw" = some (some (.ref f_l_draw)))
    (l_l_draw : K.lookup f_l_draw = some ⟨oc_l_draw, od_l_draw, .func (PySem.W.fnOf "_law_draw" "_law_draw" (defArgs s_l_draw) (defBody s_l_draw) (defScope s_l_draw) .none kV_l_draw dc_l_draw pm_l_draw an_l_draw cd_l_draw ct_l_draw), sl_l_draw⟩)
    (c_l_draw : PySem.W.codeIn K cd_l_draw "_law_draw" = true)
    (k_l_draw : PySem.W.keepIn K (.ref f_l_draw) = true)
    (a_l_word : PySem.W.nsIn K mainGlobals "_law_word" = some (some (.ref f_l_word)))
    (l_l_word : K.lookup f_l_word = some ⟨oc_l_word, od_l_word, .func (PySem.W.fnOf "_law_word" "_law_word" (defArgs s_l_word) (defBody s_l_word) (defScope s_l_word) .none kV_l_word dc_l_word pm_l_word an_l_word cd_l_word ct_l_word), sl_l_word⟩)
    (c_l_word : PySem.W.codeIn K cd_l_word "_law_word" = true)
    (k_l_word : PySem.W.keepIn K (.ref f_l_word) = true)
    (a_l_all_words : PySem.W.nsIn K mainGlobals "_law_all_words" = some (some (.ref f_l_all_words)))
    (l_l_all_words : K.lookup f_l_all_words = some ⟨oc_l_all_words, od_l_all_words, .func (PySem.W.fnOf "_law_all_words" "_law_all_words" (defArgs s_l_all_words) (defBody s_l_all_words) (defScope s_l_all_words) .none kV_l_all_words dc_l_all_words pm_l_all_words an_l_all_words cd_l_all_words ct_l_all_words), sl_l_all_words⟩)
    (c_l_all_words : PySem.W.codeIn K cd_l_all_words "_law_all_words" = true)
    (k_l_all_words : PySem.W.keepIn K (.ref f_l_all_words) = true)
    (a_l_refused : PySem.W.nsIn K mainGlobals "_law_refused" = some (some (.ref f_l_refused)))
    (l_l_refused : K.lookup f_l_refused = some ⟨oc_l_refused, od_l_refused, .func (PySem.W.fnOf "_law_refused" "_law_refused" (defArgs s_l_refused) (defBody s_l_refused) (defScope s_l_refused) .none kV_l_refused dc_l_refused pm_l_refused an_l_refused cd_l_refused ct_l_refused), sl_l_refused⟩)
    (c_l_refused : PySem.W.codeIn K cd_l_refused "_law_refused" = true)
    (k_l_refused : PySem.W.keepIn K (.ref f_l_refused) = true)
    (a_law : PySem.W.nsIn K mainGlobals "law" = some (some (.ref f_law)))
    (l_law : K.lookup f_law = some ⟨oc_law, od_law, .func (PySem.W.fnOf "law" "law" (defArgs s_law) (defBody s_law) (defScope s_law) .none kV_law dc_law pm_law an_law cd_law ct_law), sl_law⟩)
    (c_law : PySem.W.codeIn K cd_law "law" = true)
    (k_law : PySem.W.keepIn K (.ref f_law) = true)
    (a_NoSuch___init__ : PySem.W.findIn K (.ref C_NoSuch) "__init__" = some (some (.ref f_NoSuch___init__)))
    (l_NoSuch___init__ : K.lookup f_NoSuch___init__ = some ⟨oc_NoSuch___init__, od_NoSuch___init__, .func (PySem.W.fnOf "__init__" "NoSuch.__init__" (defArgs s_NoSuch___init__) (defBody s_NoSuch___init__) (defScope s_NoSuch___init__) .none kV_NoSuch___init__ dc_NoSuch___init__ pm_NoSuch___init__ an_NoSuch___init__ cd_NoSuch___init__ ct_NoSuch___init__), sl_NoSuch___init__⟩)
    (c_NoSuch___init__ : PySem.W.codeIn K cd_NoSuch___init__ "NoSuch.__init__" = true)
    (k_NoSuch___init__ : PySem.W.keepIn K (.ref f_NoSuch___init__) = true)
    (fn_NoSuch___init__ : PySem.W.isFn K (.ref f_NoSuch___init__) = true)
    (a_BadSize___init__ : PySem.W.findIn K (.ref C_BadSize) "__init__" = some (some (.ref f_BadSize___init__)))
    (l_BadSize___init__ : K.lookup f_BadSize___init__ = some ⟨oc_BadSize___init__, od_BadSize___init__, .func (PySem.W.fnOf "__init__" "BadSize.__init__" (defArgs s_BadSize___init__) (defBody s_BadSize___init__) (defScope s_BadSize___init__) .none kV_BadSize___init__ dc_BadSize___init__ pm_BadSize___init__ an_BadSize___init__ cd_BadSize___init__ ct_BadSize___init__), sl_BadSize___init__⟩)
    (c_BadSize___init__ : PySem.W.codeIn K cd_BadSize___init__ "BadSize.__init__" = true)
    (k_BadSize___init__ : PySem.W.keepIn K (.ref f_BadSize___init__) = true)
    (fn_BadSize___init__ : PySem.W.isFn K (.ref f_BadSize___init__) = true)
    (a_BadColumn___init__ : PySem.W.findIn K (.ref C_BadColumn) "__init__" = some (some (.ref f_BadColumn___init__)))
    (l_BadColumn___init__ : K.lookup f_BadColumn___init__ = some ⟨oc_BadColumn___init__, od_BadColumn___init__, .func (PySem.W.fnOf "__init__" "BadColumn.__init__" (defArgs s_BadColumn___init__) (defBody s_BadColumn___init__) (defScope s_BadColumn___init__) .none kV_BadColumn___init__ dc_BadColumn___init__ pm_BadColumn___init__ an_BadColumn___init__ cd_BadColumn___init__ ct_BadColumn___init__), sl_BadColumn___init__⟩)
    (c_BadColumn___init__ : PySem.W.codeIn K cd_BadColumn___init__ "BadColumn.__init__" = true)
    (k_BadColumn___init__ : PySem.W.keepIn K (.ref f_BadColumn___init__) = true)
    (fn_BadColumn___init__ : PySem.W.isFn K (.ref f_BadColumn___init__) = true)
    (a_BadBoundary___init__ : PySem.W.findIn K (.ref C_BadBoundary) "__init__" = some (some (.ref f_BadBoundary___init__)))
    (l_BadBoundary___init__ : K.lookup f_BadBoundary___init__ = some ⟨oc_BadBoundary___init__, od_BadBoundary___init__, .func (PySem.W.fnOf "__init__" "BadBoundary.__init__" (defArgs s_BadBoundary___init__) (defBody s_BadBoundary___init__) (defScope s_BadBoundary___init__) .none kV_BadBoundary___init__ dc_BadBoundary___init__ pm_BadBoundary___init__ an_BadBoundary___init__ cd_BadBoundary___init__ ct_BadBoundary___init__), sl_BadBoundary___init__⟩)
    (c_BadBoundary___init__ : PySem.W.codeIn K cd_BadBoundary___init__ "BadBoundary.__init__" = true)
    (k_BadBoundary___init__ : PySem.W.keepIn K (.ref f_BadBoundary___init__) = true)
    (fn_BadBoundary___init__ : PySem.W.isFn K (.ref f_BadBoundary___init__) = true)
    (a_Column___init__ : PySem.W.findIn K (.ref C_Column) "__init__" = some (some (.ref f_Column___init__)))
    (l_Column___init__ : K.lookup f_Column___init__ = some ⟨oc_Column___init__, od_Column___init__, .func (PySem.W.fnOf "__init__" "Column.__init__" (defArgs s_Column___init__) (defBody s_Column___init__) (defScope s_Column___init__) .none kV_Column___init__ dc_Column___init__ pm_Column___init__ an_Column___init__ cd_Column___init__ ct_Column___init__), sl_Column___init__⟩)
    (c_Column___init__ : PySem.W.codeIn K cd_Column___init__ "Column.__init__" = true)
    (k_Column___init__ : PySem.W.keepIn K (.ref f_Column___init__) = true)
    (fn_Column___init__ : PySem.W.isFn K (.ref f_Column___init__) = true)
    (a_Column_many : PySem.W.findIn K (.ref C_Column) "many" = some (some (.ref f_Column_many)))
    (l_Column_many : K.lookup f_Column_many = some ⟨oc_Column_many, od_Column_many, .func (PySem.W.fnOf "many" "Column.many" (defArgs s_Column_many) (defBody s_Column_many) (defScope s_Column_many) .none kV_Column_many dc_Column_many pm_Column_many an_Column_many cd_Column_many ct_Column_many), sl_Column_many⟩)
    (c_Column_many : PySem.W.codeIn K cd_Column_many "Column.many" = true)
    (k_Column_many : PySem.W.keepIn K (.ref f_Column_many) = true)
    (fn_Column_many : PySem.W.isFn K (.ref f_Column_many) = true)
    (a_Column_height : PySem.W.findIn K (.ref C_Column) "height" = some (some (.ref f_Column_height)))
    (l_Column_height : K.lookup f_Column_height = some ⟨oc_Column_height, od_Column_height, .func (PySem.W.fnOf "height" "Column.height" (defArgs s_Column_height) (defBody s_Column_height) (defScope s_Column_height) .none kV_Column_height dc_Column_height pm_Column_height an_Column_height cd_Column_height ct_Column_height), sl_Column_height⟩)
    (c_Column_height : PySem.W.codeIn K cd_Column_height "Column.height" = true)
    (k_Column_height : PySem.W.keepIn K (.ref f_Column_height) = true)
    (fn_Column_height : PySem.W.isFn K (.ref f_Column_height) = true)
    (a_Column___eq__ : PySem.W.findIn K (.ref C_Column) "__eq__" = some (some (.ref f_Column___eq__)))
    (l_Column___eq__ : K.lookup f_Column___eq__ = some ⟨oc_Column___eq__, od_Column___eq__, .func (PySem.W.fnOf "__eq__" "Column.__eq__" (defArgs s_Column___eq__) (defBody s_Column___eq__) (defScope s_Column___eq__) .none kV_Column___eq__ dc_Column___eq__ pm_Column___eq__ an_Column___eq__ cd_Column___eq__ ct_Column___eq__), sl_Column___eq__⟩)
    (c_Column___eq__ : PySem.W.codeIn K cd_Column___eq__ "Column.__eq__" = true)
    (k_Column___eq__ : PySem.W.keepIn K (.ref f_Column___eq__) = true)
    (fn_Column___eq__ : PySem.W.isFn K (.ref f_Column___eq__) = true)
    (a_Column___str__ : PySem.W.findIn K (.ref C_Column) "__str__" = some (some (.ref f_Column___str__)))
    (l_Column___str__ : K.lookup f_Column___str__ = some ⟨oc_Column___str__, od_Column___str__, .func (PySem.W.fnOf "__str__" "Column.__str__" (defArgs s_Column___str__) (defBody s_Column___str__) (defScope s_Column___str__) .none kV_Column___str__ dc_Column___str__ pm_Column___str__ an_Column___str__ cd_Column___str__ ct_Column___str__), sl_Column___str__⟩)
    (c_Column___str__ : PySem.W.codeIn K cd_Column___str__ "Column.__str__" = true)
    (k_Column___str__ : PySem.W.keepIn K (.ref f_Column___str__) = true)
    (fn_Column___str__ : PySem.W.isFn K (.ref f_Column___str__) = true)
    (a_Column___len__ : PySem.W.findIn K (.ref C_Column) "__len__" = some (some (.ref f_Column___len__)))
    (l_Column___len__ : K.lookup f_Column___len__ = some ⟨oc_Column___len__, od_Column___len__, .func (PySem.W.fnOf "__len__" "Column.__len__" (defArgs s_Column___len__) (defBody s_Column___len__) (defScope s_Column___len__) .none kV_Column___len__ dc_Column___len__ pm_Column___len__ an_Column___len__ cd_Column___len__ ct_Column___len__), sl_Column___len__⟩)
    (c_Column___len__ : PySem.W.codeIn K cd_Column___len__ "Column.__len__" = true)
    (k_Column___len__ : PySem.W.keepIn K (.ref f_Column___len__) = true)
    (fn_Column___len__ : PySem.W.isFn K (.ref f_Column___len__) = true)
    (a_Column___iter__ : PySem.W.findIn K (.ref C_Column) "__iter__" = some (some (.ref f_Column___iter__)))
    (l_Column___iter__ : K.lookup f_Column___iter__ = some ⟨oc_Column___iter__, od_Column___iter__, .func (PySem.W.fnOf "__iter__" "Column.__iter__" (defArgs s_Column___iter__) (defBody s_Column___iter__) (defScope s_Column___iter__) .none kV_Column___iter__ dc_Column___iter__ pm_Column___iter__ an_Column___iter__ cd_Column___iter__ ct_Column___iter__), sl_Column___iter__⟩)
    (c_Column___iter__ : PySem.W.codeIn K cd_Column___iter__ "Column.__iter__" = true)
    (k_Column___iter__ : PySem.W.keepIn K (.ref f_Column___iter__) = true)
    (fn_Column___iter__ : PySem.W.isFn K (.ref f_Column___iter__) = true)
    (ec_CardError : PySem.W.subIn K (.ref C_CardError) (.type "BaseException") = some true)
    (ns_CardError : PySem.W.subIn K (.ref C_CardError) (.type "StopIteration") = some false)
    (ty_CardError : PySem.W.typeIn K (.ref C_CardError) = some (.type "type"))
    (ic_CardError : PySem.W.isClsIn K C_CardError = true)
    (ss_CardError : PySem.W.subIn K (.ref C_CardError) (.ref C_CardError) = some true)
    (xl_NoSuch : K.lookup C_NoSuch = some (excClassObj nm_NoSuch q_NoSuch C_NoSuch N_NoSuch bs_NoSuch bm_NoSuch true sn_NoSuch sb_NoSuch ab_NoSuch co_NoSuch dd_NoSuch m0_NoSuch m1_NoSuch m2_NoSuch m3_NoSuch m5_NoSuch "ValueError.__new__"))
    (rv_NoSuch : PySem.HandSPX.refsVE bm_NoSuch = true)
    (sa_NoSuch : PySem.W.findIn K (.ref C_NoSuch) "__setattr__" = some (some (.builtin "object.__setattr__")))
    (ga_NoSuch : PySem.W.findIn K (.ref C_NoSuch) "__getattribute__" = some (some (.builtin "BaseException.__getattribute__")))
    (gg_NoSuch : PySem.W.findIn K (.ref C_NoSuch) "__getattr__" = some none)
    (kc_NoSuch : PySem.W.keepIn K (.ref C_NoSuch) = true)
    (hd_NoSuch : PySem.W.hasDictIn K C_NoSuch = true)
    (ti_NoSuch : PySem.W.typeIn K (.ref f_NoSuch___init__) = some (.type "function"))
    (ec_NoSuch : PySem.W.subIn K (.ref C_NoSuch) (.type "BaseException") = some true)
    (ns_NoSuch : PySem.W.subIn K (.ref C_NoSuch) (.type "StopIteration") = some false)
    (ty_NoSuch : PySem.W.typeIn K (.ref C_NoSuch) = some (.type "type"))
    (ic_NoSuch : PySem.W.isClsIn K C_NoSuch = true)
    (ss_NoSuch : PySem.W.subIn K (.ref C_NoSuch) (.ref C_NoSuch) = some true)
    (n_NoSuch_number : PySem.W.findIn K (.ref C_NoSuch) "number" = some none)
    (eq_NoSuch_BadSize : PySem.W.subIn K (.ref C_NoSuch) (.ref C_BadSize) = some false)
    (eq_NoSuch_NoSuch : PySem.W.subIn K (.ref C_NoSuch) (.ref C_NoSuch) = some true)
    (up_NoSuch_CardError : PySem.W.subIn K (.ref C_NoSuch) (.ref C_CardError) = some true)
    (xl_BadSize : K.lookup C_BadSize = some (excClassObj nm_BadSize q_BadSize C_BadSize N_BadSize bs_BadSize bm_BadSize true sn_BadSize sb_BadSize ab_BadSize co_BadSize dd_BadSize m0_BadSize m1_BadSize m2_BadSize m3_BadSize m5_BadSize "ValueError.__new__"))
    (rv_BadSize : PySem.HandSPX.refsVE bm_BadSize = true)
    (sa_BadSize : PySem.W.findIn K (.ref C_BadSize) "__setattr__" = some (some (.builtin "object.__setattr__")))
    (ga_BadSize : PySem.W.findIn K (.ref C_BadSize) "__getattribute__" = some (some (.builtin "BaseException.__getattribute__")))
    (gg_BadSize : PySem.W.findIn K (.ref C_BadSize) "__getattr__" = some none)
    (kc_BadSize : PySem.W.keepIn K (.ref C_BadSize) = true)
    (hd_BadSize : PySem.W.hasDictIn K C_BadSize = true)
    (ti_BadSize : PySem.W.typeIn K (.ref f_BadSize___init__) = some (.type "function"))
    (ec_BadSize : PySem.W.subIn K (.ref C_BadSize) (.type "BaseException") = some true)
    (ns_BadSize : PySem.W.subIn K (.ref C_BadSize) (.type "StopIteration") = some false)
    (ty_BadSize : PySem.W.typeIn K (.ref C_BadSize) = some (.type "type"))
    (ic_BadSize : PySem.W.isClsIn K C_BadSize = true)
    (ss_BadSize : PySem.W.subIn K (.ref C_BadSize) (.ref C_BadSize) = some true)
    (n_BadSize_size : PySem.W.findIn K (.ref C_BadSize) "size" = some none)
    (eq_BadSize_BadSize : PySem.W.subIn K (.ref C_BadSize) (.ref C_BadSize) = some true)
    (eq_BadSize_NoSuch : PySem.W.subIn K (.ref C_BadSize) (.ref C_NoSuch) = some false)
    (up_BadSize_CardError : PySem.W.subIn K (.ref C_BadSize) (.ref C_CardError) = some true)
    (xl_BadColumn : K.lookup C_BadColumn = some (excClassObj nm_BadColumn q_BadColumn C_BadColumn N_BadColumn bs_BadColumn bm_BadColumn true sn_BadColumn sb_BadColumn ab_BadColumn co_BadColumn dd_BadColumn m0_BadColumn m1_BadColumn m2_BadColumn m3_BadColumn m5_BadColumn "ValueError.__new__"))
    (rv_BadColumn : PySem.HandSPX.refsVE bm_BadColumn = true)
    (sa_BadColumn : PySem.W.findIn K (.ref C_BadColumn) "__setattr__" = some (some (.builtin "object.__setattr__")))
    (ga_BadColumn : PySem.W.findIn K (.ref C_BadColumn) "__getattribute__" = some (some (.builtin "BaseException.__getattribute__")))
    (gg_BadColumn : PySem.W.findIn K (.ref C_BadColumn) "__getattr__" = some none)
    (kc_BadColumn : PySem.W.keepIn K (.ref C_BadColumn) = true)
    (hd_BadColumn : PySem.W.hasDictIn K C_BadColumn = true)
    (ti_BadColumn : PySem.W.typeIn K (.ref f_BadColumn___init__) = some (.type "function"))
    (ec_BadColumn : PySem.W.subIn K (.ref C_BadColumn) (.type "BaseException") = some true)
    (ns_BadColumn : PySem.W.subIn K (.ref C_BadColumn) (.type "StopIteration") = some false)
    (ty_BadColumn : PySem.W.typeIn K (.ref C_BadColumn) = some (.type "type"))
    (ic_BadColumn : PySem.W.isClsIn K C_BadColumn = true)
    (ss_BadColumn : PySem.W.subIn K (.ref C_BadColumn) (.ref C_BadColumn) = some true)
    (n_BadColumn_what : PySem.W.findIn K (.ref C_BadColumn) "what" = some none)
    (eq_BadColumn_BadSize : PySem.W.subIn K (.ref C_BadColumn) (.ref C_BadSize) = some false)
    (eq_BadColumn_NoSuch : PySem.W.subIn K (.ref C_BadColumn) (.ref C_NoSuch) = some false)
    (up_BadColumn_CardError : PySem.W.subIn K (.ref C_BadColumn) (.ref C_CardError) = some true)
    (xl_BadBoundary : K.lookup C_BadBoundary = some (excClassObj nm_BadBoundary q_BadBoundary C_BadBoundary N_BadBoundary bs_BadBoundary bm_BadBoundary true sn_BadBoundary sb_BadBoundary ab_BadBoundary co_BadBoundary dd_BadBoundary m0_BadBoundary m1_BadBoundary m2_BadBoundary m3_BadBoundary m5_BadBoundary "ValueError.__new__"))
    (rv_BadBoundary : PySem.HandSPX.refsVE bm_BadBoundary = true)
    (sa_BadBoundary : PySem.W.findIn K (.ref C_BadBoundary) "__setattr__" = some (some (.builtin "object.__setattr__")))
    (ga_BadBoundary : PySem.W.findIn K (.ref C_BadBoundary) "__getattribute__" = some (some (.builtin "BaseException.__getattribute__")))
    (gg_BadBoundary : PySem.W.findIn K (.ref C_BadBoundary) "__getattr__" = some none)
    (kc_BadBoundary : PySem.W.keepIn K (.ref C_BadBoundary) = true)
    (hd_BadBoundary : PySem.W.hasDictIn K C_BadBoundary = true)
    (ti_BadBoundary : PySem.W.typeIn K (.ref f_BadBoundary___init__) = some (.type "function"))
    (ec_BadBoundary : PySem.W.subIn K (.ref C_BadBoundary) (.type "BaseException") = some true)
    (ns_BadBoundary : PySem.W.subIn K (.ref C_BadBoundary) (.type "StopIteration") = some false)
    (ty_BadBoundary : PySem.W.typeIn K (.ref C_BadBoundary) = some (.type "type"))
    (ic_BadBoundary : PySem.W.isClsIn K C_BadBoundary = true)
    (ss_BadBoundary : PySem.W.subIn K (.ref C_BadBoundary) (.ref C_BadBoundary) = some true)
    (n_BadBoundary_boundary : PySem.W.findIn K (.ref C_BadBoundary) "boundary" = some none)
    (eq_BadBoundary_BadSize : PySem.W.subIn K (.ref C_BadBoundary) (.ref C_BadSize) = some false)
    (eq_BadBoundary_NoSuch : PySem.W.subIn K (.ref C_BadBoundary) (.ref C_NoSuch) = some false)
    (up_BadBoundary_CardError : PySem.W.subIn K (.ref C_BadBoundary) (.ref C_CardError) = some true)
    (pg_Column : PySem.W.plainGet K C_Column Str.empty = true)
    (hd_Column : PySem.W.hasDictIn K C_Column = true)
    (po_Column : PySem.W.plainOver K C_Column = true)
    (sa_Column : PySem.W.findIn K (.ref C_Column) "__setattr__" = some (some (.builtin "object.__setattr__")))
    (i1_Column : PySem.W.findIn K (.ref C_Column) "__class__" = some (some (.builtin "object.__class__")))
    (i4_Column : PySem.W.mroIn K C_Column (.type "object") = some true)
    (ic_Column : PySem.W.isClsIn K C_Column = true)
    (ty_Column : PySem.W.typeIn K (.ref C_Column) = some (.type "type"))
    (it_str_Column : PySem.W.subIn K (.type "str") (.ref C_Column) = some false)
    (it_int_Column : PySem.W.subIn K (.type "int") (.ref C_Column) = some false)
    (it_bool_Column : PySem.W.subIn K (.type "bool") (.ref C_Column) = some false)
    (it_NoneType_Column : PySem.W.subIn K (.type "NoneType") (.ref C_Column) = some false)
    (it_list_Column : PySem.W.subIn K (.type "list") (.ref C_Column) = some false)
    (it_tuple_Column : PySem.W.subIn K (.type "tuple") (.ref C_Column) = some false)
    (it_dict_Column : PySem.W.subIn K (.type "dict") (.ref C_Column) = some false)
    (ti_str_Column : PySem.W.subIn K (.ref C_Column) (.type "str") = some false)
    (ti_int_Column : PySem.W.subIn K (.ref C_Column) (.type "int") = some false)
    (ti_bool_Column : PySem.W.subIn K (.ref C_Column) (.type "bool") = some false)
    (ti_list_Column : PySem.W.subIn K (.ref C_Column) (.type "list") = some false)
    (ti_tuple_Column : PySem.W.subIn K (.ref C_Column) (.type "tuple") = some false)
    (sub_Column : PySem.W.subIn K (.type "str") (.ref C_Column) = some false)
    (ne_Column : PySem.W.findIn K (.ref C_Column) "__ne__" = some (some (.builtin "object.__ne__")))
    (mk_Column : PySem.W.makesIn K C_Column = true)
    (kc_Column : PySem.W.keepIn K (.ref C_Column) = true)
    (n_Column_word : PySem.W.findIn K (.ref C_Column) "word" = some none)
    (n_Column_size : PySem.W.findIn K (.ref C_Column) "size" = some none)
    (kc_MOST_SIZE : PySem.W.nsIn K mainGlobals "MOST_SIZE" = some (some (.int 6 tk_MOST_SIZE)))
    (i2 : PySem.W.specialIn K (.builtin "object.__class__") "__get__" = some (some (.builtin "getset_descriptor.__get__")))
    (i3 : PySem.W.takesIn K (.builtin "object.__class__") = some true)
    (im_comb : PySem.W.nsIn K mainGlobals "comb" = some (some (.builtin "math.comb")))
    (z_ValueError : PySem.W.nsIn K mainGlobals "ValueError" = some none)
    (z_abs : PySem.W.nsIn K mainGlobals "abs" = some none)
    (z_all : PySem.W.nsIn K mainGlobals "all" = some none)
    (z_bool : PySem.W.nsIn K mainGlobals "bool" = some none)
    (z_enumerate : PySem.W.nsIn K mainGlobals "enumerate" = some none)
    (z_int : PySem.W.nsIn K mainGlobals "int" = some none)
    (z_isinstance : PySem.W.nsIn K mainGlobals "isinstance" = some none)
    (z_iter : PySem.W.nsIn K mainGlobals "iter" = some none)
    (z_len : PySem.W.nsIn K mainGlobals "len" = some none)
    (z_list : PySem.W.nsIn K mainGlobals "list" = some none)
    (z_property : PySem.W.nsIn K mainGlobals "property" = some none)
    (z_range : PySem.W.nsIn K mainGlobals "range" = some none)
    (z_staticmethod : PySem.W.nsIn K mainGlobals "staticmethod" = some none)
    (z_str : PySem.W.nsIn K mainGlobals "str" = some none)
    : ∃ fd : FuncData, (∀ (s : Shared) (u : Value), BindsTo s fd ⟨[u], []⟩ [("_law_script", u)]) ∧ ∀ base : Heap, K.In base → base.Ns mainGlobals mg → FnOk P w K mg base CX0 11 fa fd ["_law_script"] (spLaw K) := by
  have e : f_law = fa := by
    have e := hfa.symm.trans (PySem.W.mg_of X G a_law)
    cases e
    rfl
  subst e
  have F_is_number := fun_mk (st := s_is_number) l_is_number c_is_number k_is_number
  have b_is_number := F_is_number.binds (ps := P_is_number) fun _ _ _ _ _ _ us hl => match us, hl with | [_], _ => rfl
  have F_is_whole := fun_mk (st := s_is_whole) l_is_whole c_is_whole k_is_whole
  have b_is_whole := F_is_whole.binds (ps := P_is_whole) fun _ _ _ _ _ _ us hl => match us, hl with | [_, _, _], _ => rfl
  have F_word_fault := fun_mk (st := s_word_fault) l_word_fault c_word_fault k_word_fault
  have b_word_fault := F_word_fault.binds (ps := P_word_fault) fun _ _ _ _ _ _ us hl => match us, hl with | [_], _ => rfl
  have F_check_size := fun_mk (st := s_check_size) l_check_size c_check_size k_check_size
  have b_check_size := F_check_size.binds (ps := P_check_size) fun _ _ _ _ _ _ us hl => match us, hl with | [_], _ => rfl
  have F_ways_home := fun_mk (st := s_ways_home) l_ways_home c_ways_home k_ways_home
  have b_ways_home := F_ways_home.binds (ps := P_ways_home) fun _ _ _ _ _ _ us hl => match us, hl with | [_, _], _ => rfl
  have F_how_many_columns := fun_mk (st := s_how_many_columns) l_how_many_columns c_how_many_columns k_how_many_columns
  have b_how_many_columns := F_how_many_columns.binds (ps := P_how_many_columns) fun _ _ _ _ _ _ us hl => match us, hl with | [_], _ => rfl
  have F_all_columns := fun_mk (st := s_all_columns) l_all_columns c_all_columns k_all_columns
  have b_all_columns := F_all_columns.binds (ps := P_all_columns) fun _ _ _ _ _ _ us hl => match us, hl with | [_], _ => rfl
  have F_column_index := fun_mk (st := s_column_index) l_column_index c_column_index k_column_index
  have b_column_index := F_column_index.binds (ps := P_column_index) fun _ _ _ _ _ _ us hl => match us, hl with | [_], _ => rfl
  have F_column_at := fun_mk (st := s_column_at) l_column_at c_column_at k_column_at
  have b_column_at := F_column_at.binds (ps := P_column_at) fun _ _ _ _ _ _ us hl => match us, hl with | [_, _], _ => rfl
  have F_plain_column := fun_mk (st := s_plain_column) l_plain_column c_plain_column k_plain_column
  have b_plain_column := F_plain_column.binds (ps := P_plain_column) fun _ _ _ _ _ _ us hl => match us, hl with | [_], _ => rfl
  have F_steep_column := fun_mk (st := s_steep_column) l_steep_column c_steep_column k_steep_column
  have b_steep_column := F_steep_column.binds (ps := P_steep_column) fun _ _ _ _ _ _ us hl => match us, hl with | [_], _ => rfl
  have F_l_mix := fun_mk (st := s_l_mix) l_l_mix c_l_mix k_l_mix
  have b_l_mix := F_l_mix.binds (ps := P_l_mix) fun _ _ _ _ _ _ us hl => match us, hl with | [_, _], _ => rfl
  have F_l_hand := fun_mk (st := s_l_hand) l_l_hand c_l_hand k_l_hand
  have b_l_hand := F_l_hand.binds (ps := P_l_hand) fun _ _ _ _ _ _ us hl => match us, hl with | [_], _ => rfl
  have F_l_draw := fun_mk (st := s_l_draw) l_l_draw c_l_draw k_l_draw
  have b_l_draw := F_l_draw.binds (ps := P_l_draw) fun _ _ _ _ _ _ us hl => match us, hl with | [_, _], _ => rfl
  have F_l_word := fun_mk (st := s_l_word) l_l_word c_l_word k_l_word
  have b_l_word := F_l_word.binds (ps := P_l_word) fun _ _ _ _ _ _ us hl => match us, hl with | [_, _], _ => rfl
  have F_l_all_words := fun_mk (st := s_l_all_words) l_l_all_words c_l_all_words k_l_all_words
  have b_l_all_words := F_l_all_words.binds (ps := P_l_all_words) fun _ _ _ _ _ _ us hl => match us, hl with | [_], _ => rfl
  have F_l_refused := fun_mk (st := s_l_refused) l_l_refused c_l_refused k_l_refused
  have b_l_refused := F_l_refused.binds (ps := P_l_refused) fun _ _ _ _ _ _ us hl => match us, hl with | [_, _, _], _ => rfl
  have F_law := fun_mk (st := s_law) l_law c_law k_law
  have b_law := F_law.binds (ps := P_law) fun _ _ _ _ _ _ us hl => match us, hl with | [_], _ => rfl
  have F_NoSuch___init__ := fun_mk (st := s_NoSuch___init__) l_NoSuch___init__ c_NoSuch___init__ k_NoSuch___init__
  have b_NoSuch___init__ := F_NoSuch___init__.binds (ps := P_NoSuch___init__) fun _ _ _ _ _ _ us hl => match us, hl with | [_, _], _ => rfl
  have F_BadSize___init__ := fun_mk (st := s_BadSize___init__) l_BadSize___init__ c_BadSize___init__ k_BadSize___init__
  have b_BadSize___init__ := F_BadSize___init__.binds (ps := P_BadSize___init__) fun _ _ _ _ _ _ us hl => match us, hl with | [_, _], _ => rfl
  have F_BadColumn___init__ := fun_mk (st := s_BadColumn___init__) l_BadColumn___init__ c_BadColumn___init__ k_BadColumn___init__
  have b_BadColumn___init__ := F_BadColumn___init__.binds (ps := P_BadColumn___init__) fun _ _ _ _ _ _ us hl => match us, hl with | [_, _], _ => rfl
  have F_BadBoundary___init__ := fun_mk (st := s_BadBoundary___init__) l_BadBoundary___init__ c_BadBoundary___init__ k_BadBoundary___init__
  have b_BadBoundary___init__ := F_BadBoundary___init__.binds (ps := P_BadBoundary___init__) fun _ _ _ _ _ _ us hl => match us, hl with | [_, _], _ => rfl
  have F_Column___init__ := fun_mk (st := s_Column___init__) l_Column___init__ c_Column___init__ k_Column___init__
  have b_Column___init__ := F_Column___init__.binds (ps := P_Column___init__) fun _ _ _ _ _ _ us hl => match us, hl with | [_, _], _ => rfl
  have F_Column_many := fun_mk (st := s_Column_many) l_Column_many c_Column_many k_Column_many
  have b_Column_many := F_Column_many.binds (ps := P_Column_many) fun _ _ _ _ _ _ us hl => match us, hl with | [_, _, _], _ => rfl
  have F_Column_height := fun_mk (st := s_Column_height) l_Column_height c_Column_height k_Column_height
  have b_Column_height := F_Column_height.binds (ps := P_Column_height) fun _ _ _ _ _ _ us hl => match us, hl with | [_, _], _ => rfl
  have F_Column___eq__ := fun_mk (st := s_Column___eq__) l_Column___eq__ c_Column___eq__ k_Column___eq__
  have b_Column___eq__ := F_Column___eq__.binds (ps := P_Column___eq__) fun _ _ _ _ _ _ us hl => match us, hl with | [_, _], _ => rfl
  have F_Column___str__ := fun_mk (st := s_Column___str__) l_Column___str__ c_Column___str__ k_Column___str__
  have b_Column___str__ := F_Column___str__.binds (ps := P_Column___str__) fun _ _ _ _ _ _ us hl => match us, hl with | [_], _ => rfl
  have F_Column___len__ := fun_mk (st := s_Column___len__) l_Column___len__ c_Column___len__ k_Column___len__
  have b_Column___len__ := F_Column___len__.binds (ps := P_Column___len__) fun _ _ _ _ _ _ us hl => match us, hl with | [_], _ => rfl
  have F_Column___iter__ := fun_mk (st := s_Column___iter__) l_Column___iter__ c_Column___iter__ k_Column___iter__
  have b_Column___iter__ := F_Column___iter__.binds (ps := P_Column___iter__) fun _ _ _ _ _ _ us hl => match us, hl with | [_], _ => rfl
  have T : Top K mg ({ f_is_number := f_is_number, f_is_whole := f_is_whole, f_word_fault := f_word_fault, f_check_size := f_check_size, f_ways_home := f_ways_home, f_how_many_columns := f_how_many_columns, f_all_columns := f_all_columns, f_column_index := f_column_index, f_column_at := f_column_at, f_plain_column := f_plain_column, f_steep_column := f_steep_column, f_l_mix := f_l_mix, f_l_hand := f_l_hand, f_l_draw := f_l_draw, f_l_word := f_l_word, f_l_all_words := f_l_all_words, f_l_refused := f_l_refused, f_law := f_law, f_NoSuch___init__ := f_NoSuch___init__, f_BadSize___init__ := f_BadSize___init__, f_BadColumn___init__ := f_BadColumn___init__, f_BadBoundary___init__ := f_BadBoundary___init__, f_Column___init__ := f_Column___init__, f_Column_many := f_Column_many, f_Column_height := f_Column_height, f_Column___eq__ := f_Column___eq__, f_Column___str__ := f_Column___str__, f_Column___len__ := f_Column___len__, f_Column___iter__ := f_Column___iter__, d_is_number := (PySem.W.fnOf "is_number" "is_number" (defArgs s_is_number) (defBody s_is_number) (defScope s_is_number) .none kV_is_number dc_is_number pm_is_number an_is_number cd_is_number ct_is_number), d_is_whole := (PySem.W.fnOf "is_whole" "is_whole" (defArgs s_is_whole) (defBody s_is_whole) (defScope s_is_whole) .none kV_is_whole dc_is_whole pm_is_whole an_is_whole cd_is_whole ct_is_whole), d_word_fault := (PySem.W.fnOf "word_fault" "word_fault" (defArgs s_word_fault) (defBody s_word_fault) (defScope s_word_fault) .none kV_word_fault dc_word_fault pm_word_fault an_word_fault cd_word_fault ct_word_fault), d_check_size := (PySem.W.fnOf "check_size" "check_size" (defArgs s_check_size) (defBody s_check_size) (defScope s_check_size) .none kV_check_size dc_check_size pm_check_size an_check_size cd_check_size ct_check_size), d_ways_home := (PySem.W.fnOf "ways_home" "ways_home" (defArgs s_ways_home) (defBody s_ways_home) (defScope s_ways_home) .none kV_ways_home dc_ways_home pm_ways_home an_ways_home cd_ways_home ct_ways_home), d_how_many_columns := (PySem.W.fnOf "how_many_columns" "how_many_columns" (defArgs s_how_many_columns) (defBody s_how_many_columns) (defScope s_how_many_columns) .none kV_how_many_columns dc_how_many_columns pm_how_many_columns an_how_many_columns cd_how_many_columns ct_how_many_columns), d_all_columns := (PySem.W.fnOf "all_columns" "all_columns" (defArgs s_all_columns) (defBody s_all_columns) (defScope s_all_columns) .none kV_all_columns dc_all_columns pm_all_columns an_all_columns cd_all_columns ct_all_columns), d_column_index := (PySem.W.fnOf "column_index" "column_index" (defArgs s_column_index) (defBody s_column_index) (defScope s_column_index) .none kV_column_index dc_column_index pm_column_index an_column_index cd_column_index ct_column_index), d_column_at := (PySem.W.fnOf "column_at" "column_at" (defArgs s_column_at) (defBody s_column_at) (defScope s_column_at) .none kV_column_at dc_column_at pm_column_at an_column_at cd_column_at ct_column_at), d_plain_column := (PySem.W.fnOf "plain_column" "plain_column" (defArgs s_plain_column) (defBody s_plain_column) (defScope s_plain_column) .none kV_plain_column dc_plain_column pm_plain_column an_plain_column cd_plain_column ct_plain_column), d_steep_column := (PySem.W.fnOf "steep_column" "steep_column" (defArgs s_steep_column) (defBody s_steep_column) (defScope s_steep_column) .none kV_steep_column dc_steep_column pm_steep_column an_steep_column cd_steep_column ct_steep_column), d_l_mix := (PySem.W.fnOf "_law_mix" "_law_mix" (defArgs s_l_mix) (defBody s_l_mix) (defScope s_l_mix) .none kV_l_mix dc_l_mix pm_l_mix an_l_mix cd_l_mix ct_l_mix), d_l_hand := (PySem.W.fnOf "_law_hand" "_law_hand" (defArgs s_l_hand) (defBody s_l_hand) (defScope s_l_hand) .none kV_l_hand dc_l_hand pm_l_hand an_l_hand cd_l_hand ct_l_hand), d_l_draw := (PySem.W.fnOf "_law_draw" "_law_draw" (defArgs s_l_draw) (defBody s_l_draw) (defScope s_l_draw) .none kV_l_draw dc_l_draw pm_l_draw an_l_draw cd_l_draw ct_l_draw), d_l_word := (PySem.W.fnOf "_law_word" "_law_word" (defArgs s_l_word) (defBody s_l_word) (defScope s_l_word) .none kV_l_word dc_l_word pm_l_word an_l_word cd_l_word ct_l_word), d_l_all_words := (PySem.W.fnOf "_law_all_words" "_law_all_words" (defArgs s_l_all_words) (defBody s_l_all_words) (defScope s_l_all_words) .none kV_l_all_words dc_l_all_words pm_l_all_words an_l_all_words cd_l_all_words ct_l_all_words), d_l_refused := (PySem.W.fnOf "_law_refused" "_law_refused" (defArgs s_l_refused) (defBody s_l_refused) (defScope s_l_refused) .none kV_l_refused dc_l_refused pm_l_refused an_l_refused cd_l_refused ct_l_refused), d_law := (PySem.W.fnOf "law" "law" (defArgs s_law) (defBody s_law) (defScope s_law) .none kV_law dc_law pm_law an_law cd_law ct_law), d_NoSuch___init__ := (PySem.W.fnOf "__init__" "NoSuch.__init__" (defArgs s_NoSuch___init__) (defBody s_NoSuch___init__) (defScope s_NoSuch___init__) .none kV_NoSuch___init__ dc_NoSuch___init__ pm_NoSuch___init__ an_NoSuch___init__ cd_NoSuch___init__ ct_NoSuch___init__), d_BadSize___init__ := (PySem.W.fnOf "__init__" "BadSize.__init__" (defArgs s_BadSize___init__) (defBody s_BadSize___init__) (defScope s_BadSize___init__) .none kV_BadSize___init__ dc_BadSize___init__ pm_BadSize___init__ an_BadSize___init__ cd_BadSize___init__ ct_BadSize___init__), d_BadColumn___init__ := (PySem.W.fnOf "__init__" "BadColumn.__init__" (defArgs s_BadColumn___init__) (defBody s_BadColumn___init__) (defScope s_BadColumn___init__) .none kV_BadColumn___init__ dc_BadColumn___init__ pm_BadColumn___init__ an_BadColumn___init__ cd_BadColumn___init__ ct_BadColumn___init__), d_BadBoundary___init__ := (PySem.W.fnOf "__init__" "BadBoundary.__init__" (defArgs s_BadBoundary___init__) (defBody s_BadBoundary___init__) (defScope s_BadBoundary___init__) .none kV_BadBoundary___init__ dc_BadBoundary___init__ pm_BadBoundary___init__ an_BadBoundary___init__ cd_BadBoundary___init__ ct_BadBoundary___init__), d_Column___init__ := (PySem.W.fnOf "__init__" "Column.__init__" (defArgs s_Column___init__) (defBody s_Column___init__) (defScope s_Column___init__) .none kV_Column___init__ dc_Column___init__ pm_Column___init__ an_Column___init__ cd_Column___init__ ct_Column___init__), d_Column_many := (PySem.W.fnOf "many" "Column.many" (defArgs s_Column_many) (defBody s_Column_many) (defScope s_Column_many) .none kV_Column_many dc_Column_many pm_Column_many an_Column_many cd_Column_many ct_Column_many), d_Column_height := (PySem.W.fnOf "height" "Column.height" (defArgs s_Column_height) (defBody s_Column_height) (defScope s_Column_height) .none kV_Column_height dc_Column_height pm_Column_height an_Column_height cd_Column_height ct_Column_height), d_Column___eq__ := (PySem.W.fnOf "__eq__" "Column.__eq__" (defArgs s_Column___eq__) (defBody s_Column___eq__) (defScope s_Column___eq__) .none kV_Column___eq__ dc_Column___eq__ pm_Column___eq__ an_Column___eq__ cd_Column___eq__ ct_Column___eq__), d_Column___str__ := (PySem.W.fnOf "__str__" "Column.__str__" (defArgs s_Column___str__) (defBody s_Column___str__) (defScope s_Column___str__) .none kV_Column___str__ dc_Column___str__ pm_Column___str__ an_Column___str__ cd_Column___str__ ct_Column___str__), d_Column___len__ := (PySem.W.fnOf "__len__" "Column.__len__" (defArgs s_Column___len__) (defBody s_Column___len__) (defScope s_Column___len__) .none kV_Column___len__ dc_Column___len__ pm_Column___len__ an_Column___len__ cd_Column___len__ ct_Column___len__), d_Column___iter__ := (PySem.W.fnOf "__iter__" "Column.__iter__" (defArgs s_Column___iter__) (defBody s_Column___iter__) (defScope s_Column___iter__) .none kV_Column___iter__ dc_Column___iter__ pm_Column___iter__ an_Column___iter__ cd_Column___iter__ ct_Column___iter__), C_CardError := C_CardError, C_NoSuch := C_NoSuch, C_BadSize := C_BadSize, C_BadColumn := C_BadColumn, C_BadBoundary := C_BadBoundary, C_Column := C_Column } : Ads) := {
    D_is_number := ⟨F_is_number, b_is_number, PySem.W.mg_of X G a_is_number⟩,
    D_is_whole := ⟨F_is_whole, b_is_whole, PySem.W.mg_of X G a_is_whole⟩,
    D_word_fault := ⟨F_word_fault, b_word_fault, PySem.W.mg_of X G a_word_fault⟩,
    D_check_size := ⟨F_check_size, b_check_size, PySem.W.mg_of X G a_check_size⟩,
    D_ways_home := ⟨F_ways_home, b_ways_home, PySem.W.mg_of X G a_ways_home⟩,
    D_how_many_columns := ⟨F_how_many_columns, b_how_many_columns, PySem.W.mg_of X G a_how_many_columns⟩,
    D_all_columns := ⟨F_all_columns, b_all_columns, PySem.W.mg_of X G a_all_columns⟩,
    D_column_index := ⟨F_column_index, b_column_index, PySem.W.mg_of X G a_column_index⟩,
    D_column_at := ⟨F_column_at, b_column_at, PySem.W.mg_of X G a_column_at⟩,
    D_plain_column := ⟨F_plain_column, b_plain_column, PySem.W.mg_of X G a_plain_column⟩,
    D_steep_column := ⟨F_steep_column, b_steep_column, PySem.W.mg_of X G a_steep_column⟩,
    D_l_mix := ⟨F_l_mix, b_l_mix, PySem.W.mg_of X G a_l_mix⟩,
    D_l_hand := ⟨F_l_hand, b_l_hand, PySem.W.mg_of X G a_l_hand⟩,
    D_l_draw := ⟨F_l_draw, b_l_draw, PySem.W.mg_of X G a_l_draw⟩,
    D_l_word := ⟨F_l_word, b_l_word, PySem.W.mg_of X G a_l_word⟩,
    D_l_all_words := ⟨F_l_all_words, b_l_all_words, PySem.W.mg_of X G a_l_all_words⟩,
    D_l_refused := ⟨F_l_refused, b_l_refused, PySem.W.mg_of X G a_l_refused⟩,
    D_law := ⟨F_law, b_law, PySem.W.mg_of X G a_law⟩,
    D_NoSuch___init__ := ⟨F_NoSuch___init__, b_NoSuch___init__⟩,
    D_BadSize___init__ := ⟨F_BadSize___init__, b_BadSize___init__⟩,
    D_BadColumn___init__ := ⟨F_BadColumn___init__, b_BadColumn___init__⟩,
    D_BadBoundary___init__ := ⟨F_BadBoundary___init__, b_BadBoundary___init__⟩,
    D_Column___init__ := ⟨F_Column___init__, b_Column___init__⟩,
    D_Column_many := ⟨F_Column_many, b_Column_many⟩,
    D_Column_height := ⟨F_Column_height, b_Column_height⟩,
    D_Column___eq__ := ⟨F_Column___eq__, b_Column___eq__⟩,
    D_Column___str__ := ⟨F_Column___str__, b_Column___str__⟩,
    D_Column___len__ := ⟨F_Column___len__, b_Column___len__⟩,
    D_Column___iter__ := ⟨F_Column___iter__, b_Column___iter__⟩,
    ns_CardError := ns_CardError,
    g_CardError := PySem.W.mg_of X G ac_CardError,
    ns_NoSuch := ns_NoSuch,
    x_NoSuch := ⟨PySem.W.mg_of X G ac_NoSuch, ⟨⟨_, _, _, _, _, _, _, _, _, _, _, _, _, _, _, xl_NoSuch, rv_NoSuch⟩, sa_NoSuch, ec_NoSuch, ty_NoSuch, kc_NoSuch⟩, ⟨ga_NoSuch, gg_NoSuch, ec_NoSuch, hd_NoSuch⟩, a_NoSuch___init__, ti_NoSuch, exm_of ec_NoSuch ic_NoSuch ty_NoSuch ss_NoSuch⟩,
    g_NoSuch := PySem.W.mg_of X G ac_NoSuch,
    n_NoSuch_number := n_NoSuch_number,
    ex_NoSuch_BadSize := exm_any ec_BadSize ic_BadSize ty_BadSize eq_NoSuch_BadSize,
    ex_NoSuch_NoSuch := exm_any ec_NoSuch ic_NoSuch ty_NoSuch eq_NoSuch_NoSuch,
    up_NoSuch_CardError := exm_of ec_CardError ic_CardError ty_CardError up_NoSuch_CardError,
    ns_BadSize := ns_BadSize,
    x_BadSize := ⟨PySem.W.mg_of X G ac_BadSize, ⟨⟨_, _, _, _, _, _, _, _, _, _, _, _, _, _, _, xl_BadSize, rv_BadSize⟩, sa_BadSize, ec_BadSize, ty_BadSize, kc_BadSize⟩, ⟨ga_BadSize, gg_BadSize, ec_BadSize, hd_BadSize⟩, a_BadSize___init__, ti_BadSize, exm_of ec_BadSize ic_BadSize ty_BadSize ss_BadSize⟩,
    g_BadSize := PySem.W.mg_of X G ac_BadSize,
    n_BadSize_size := n_BadSize_size,
    ex_BadSize_BadSize := exm_any ec_BadSize ic_BadSize ty_BadSize eq_BadSize_BadSize,
    ex_BadSize_NoSuch := exm_any ec_NoSuch ic_NoSuch ty_NoSuch eq_BadSize_NoSuch,
    up_BadSize_CardError := exm_of ec_CardError ic_CardError ty_CardError up_BadSize_CardError,
    ns_BadColumn := ns_BadColumn,
    x_BadColumn := ⟨PySem.W.mg_of X G ac_BadColumn, ⟨⟨_, _, _, _, _, _, _, _, _, _, _, _, _, _, _, xl_BadColumn, rv_BadColumn⟩, sa_BadColumn, ec_BadColumn, ty_BadColumn, kc_BadColumn⟩, ⟨ga_BadColumn, gg_BadColumn, ec_BadColumn, hd_BadColumn⟩, a_BadColumn___init__, ti_BadColumn, exm_of ec_BadColumn ic_BadColumn ty_BadColumn ss_BadColumn⟩,
    g_BadColumn := PySem.W.mg_of X G ac_BadColumn,
    n_BadColumn_what := n_BadColumn_what,
    ex_BadColumn_BadSize := exm_any ec_BadSize ic_BadSize ty_BadSize eq_BadColumn_BadSize,
    ex_BadColumn_NoSuch := exm_any ec_NoSuch ic_NoSuch ty_NoSuch eq_BadColumn_NoSuch,
    up_BadColumn_CardError := exm_of ec_CardError ic_CardError ty_CardError up_BadColumn_CardError,
    ns_BadBoundary := ns_BadBoundary,
    x_BadBoundary := ⟨PySem.W.mg_of X G ac_BadBoundary, ⟨⟨_, _, _, _, _, _, _, _, _, _, _, _, _, _, _, xl_BadBoundary, rv_BadBoundary⟩, sa_BadBoundary, ec_BadBoundary, ty_BadBoundary, kc_BadBoundary⟩, ⟨ga_BadBoundary, gg_BadBoundary, ec_BadBoundary, hd_BadBoundary⟩, a_BadBoundary___init__, ti_BadBoundary, exm_of ec_BadBoundary ic_BadBoundary ty_BadBoundary ss_BadBoundary⟩,
    g_BadBoundary := PySem.W.mg_of X G ac_BadBoundary,
    n_BadBoundary_boundary := n_BadBoundary_boundary,
    ex_BadBoundary_BadSize := exm_any ec_BadSize ic_BadSize ty_BadSize eq_BadBoundary_BadSize,
    ex_BadBoundary_NoSuch := exm_any ec_NoSuch ic_NoSuch ty_NoSuch eq_BadBoundary_NoSuch,
    up_BadBoundary_CardError := exm_of ec_CardError ic_CardError ty_CardError up_BadBoundary_CardError,
    g_Column := PySem.W.mg_of X G ac_Column,
    cl_Column := ⟨pg_Column, hd_Column, po_Column, sa_Column⟩,
    i1_Column := i1_Column,
    i4_Column := i4_Column,
    ii_Column := kit_self,
    it_str_Column := kit_own ic_Column ty_Column it_str_Column,
    it_int_Column := kit_own ic_Column ty_Column it_int_Column,
    it_bool_Column := kit_own ic_Column ty_Column it_bool_Column,
    it_NoneType_Column := kit_own ic_Column ty_Column it_NoneType_Column,
    it_list_Column := kit_own ic_Column ty_Column it_list_Column,
    it_tuple_Column := kit_own ic_Column ty_Column it_tuple_Column,
    it_dict_Column := kit_own ic_Column ty_Column it_dict_Column,
    ti_Column_str := kit_kind (by decide +kernel) ti_str_Column,
    ti_Column_int := kit_kind (by decide +kernel) ti_int_Column,
    ti_Column_bool := kit_kind (by decide +kernel) ti_bool_Column,
    ti_Column_list := kit_kind (by decide +kernel) ti_list_Column,
    ti_Column_tuple := kit_kind (by decide +kernel) ti_tuple_Column,
    subt_Column := it_tuple_Column,
    subl_Column := it_list_Column,
    sub_Column := sub_Column,
    ne_Column := ⟨ne_Column, i4_Column⟩,
    mk_Column := ⟨mk_Column, a_Column___init__, fn_Column___init__, kc_Column⟩,
    n_Column_word := n_Column_word,
    n_Column_size := n_Column_size,
    o_Column_many := ⟨a_Column_many, fn_Column_many⟩,
    m_Column_many := ⟨a_Column_many, fn_Column_many, k_Column_many⟩,
    o_Column_height := ⟨a_Column_height, fn_Column_height⟩,
    m_Column_height := ⟨a_Column_height, fn_Column_height, k_Column_height⟩,
    o_Column___eq__ := ⟨a_Column___eq__, fn_Column___eq__⟩,
    m_Column___eq__ := ⟨a_Column___eq__, fn_Column___eq__, k_Column___eq__⟩,
    o_Column___str__ := ⟨a_Column___str__, fn_Column___str__⟩,
    m_Column___str__ := ⟨a_Column___str__, fn_Column___str__, k_Column___str__⟩,
    o_Column___len__ := ⟨a_Column___len__, fn_Column___len__⟩,
    m_Column___len__ := ⟨a_Column___len__, fn_Column___len__, k_Column___len__⟩,
    o_Column___iter__ := ⟨a_Column___iter__, fn_Column___iter__⟩,
    m_Column___iter__ := ⟨a_Column___iter__, fn_Column___iter__, k_Column___iter__⟩,
    c_MOST_SIZE := ⟨_, PySem.W.mg_of X G kc_MOST_SIZE⟩,
    i2 := i2,
    i3 := i3,
    im_comb := PySem.W.mg_of X G im_comb,
    b_ValueError := PySem.W.mg_none_of X G z_ValueError,
    b_abs := PySem.W.mg_none_of X G z_abs,
    b_all := PySem.W.mg_none_of X G z_all,
    b_bool := PySem.W.mg_none_of X G z_bool,
    b_enumerate := PySem.W.mg_none_of X G z_enumerate,
    b_int := PySem.W.mg_none_of X G z_int,
    b_isinstance := PySem.W.mg_none_of X G z_isinstance,
    b_iter := PySem.W.mg_none_of X G z_iter,
    b_len := PySem.W.mg_none_of X G z_len,
    b_list := PySem.W.mg_none_of X G z_list,
    b_property := PySem.W.mg_none_of X G z_property,
    b_range := PySem.W.mg_none_of X G z_range,
    b_staticmethod := PySem.W.mg_none_of X G z_staticmethod,
    b_str := PySem.W.mg_none_of X G z_str }
  exact ⟨(PySem.W.fnOf "law" "law" (defArgs s_law) (defBody s_law) (defScope s_law) .none kV_law dc_law pm_law an_law cd_law ct_law), fun s v => .of_eq rfl, fun base _ _ => ok_law T⟩
theorem walk {l : PySem.W.OpenLaw} {q : Program} {loose : List Str} {XP : (Str → Option Value) → Heap → Prop} {YP : World → Heap → Prop} {d : DefRec} {K : Params → PySem.W.Frag} (hn : l.most = some 63) (hdf : d.params.defaults = [])
    (hY : ∀ (w : World) (h : Heap), YP w h → (K w.params).In h)
    (F : ∀ (w : World) (mg : Str → Option Value) (fa : Addr) (h : Heap), (K w.params).In h → h.Ns mainGlobals mg → mg d.name = some (.ref fa) →
      ∃ fd : FuncData, (∀ (s : Shared) (u : Value), BindsTo s fd ⟨[u], []⟩ [("_law_script", u)]) ∧ ∀ base : Heap, (K w.params).In base → base.Ns mainGlobals mg → FnOk l.prog w (K w.params) mg base CX0 11 fa fd ["_law_script"] (spLaw (K w.params))) :
    PySem.W.WalkO q loose XP YP l.row.toRowW d [] (fun f vs => PySem.call f vs) :=
  L2.walk_ofB (n := 63) (k := 11) (x := "_law_script") (CX := fun _ => CX0) (sp := fun w => spLaw (K w.params)) hn (by decide) hdf ⟨rfl, by decide, by decide⟩ hY F (fun _ _ a ns hl _ _ hS => ⟨a, ns, rfl, hS, hl, fun _ => rfl⟩) fun _ _ _ _ _ z => z


end Sl
open PySem PySem.W PyProof.Rows
set_option maxRecDepth 100000 in
set_option maxHeartbeats 0 in
theorem PySem.Challenge.cw_slitstairs_k04_whole_all_columns_counted_holds : PySem.Challenge.rw_slitstairs_k04_whole_all_columns_counted.Holds := by
  w_on; o_law; k_head; (case hw => w_witness2)
  k_fill
  refine Sl.walk (l := PySem.Challenge.rw_slitstairs_k04_whole_all_columns_counted) rfl rfl (fun w h Y => PySem.W.kIn_of Y) ?F
  case F =>
    intro w mg fa h KX G hmg
    refine' Sl.all_mk KX G hmg ?ac_CardError ?ac_NoSuch ?ac_BadSize ?ac_BadColumn ?ac_BadBoundary ?ac_Column ?a_is_number ?l_is_number ?c_is_number ?k_is_number ?a_is_whole ?l_is_whole ?c_is_whole ?k_is_whole ?a_word_fault ?l_word_fault ?c_word_fault ?k_word_fault ?a_check_size ?l_check_size ?c_check_size ?k_check_size ?a_ways_home ?l_ways_home ?c_ways_home ?k_ways_home ?a_how_many_columns ?l_how_many_columns ?c_how_many_columns ?k_how_many_columns ?a_all_columns ?l_all_columns ?c_all_columns ?k_all_columns ?a_column_index ?l_column_index ?c_column_index ?k_column_index ?a_column_at ?l_column_at ?c_column_at ?k_column_at ?a_plain_column ?l_plain_column ?c_plain_column ?k_plain_column ?a_steep_column ?l_steep_column ?c_steep_column ?k_steep_column ?a_l_mix ?l_l_mix ?c_l_mix ?k_l_mix ?a_l_hand ?l_l_hand ?c_l_hand ?k_l_hand ?a_l_draw ?l_l_draw ?c_l_draw ?k_l_draw ?a_l_word ?l_l_word ?c_l_word ?k_l_word ?a_l_all_words ?l_l_all_words ?c_l_all_words ?k_l_all_words ?a_l_refused ?l_l_refused ?c_l_refused ?k_l_refused ?a_law ?l_law ?c_law ?k_law ?a_NoSuch___init__ ?l_NoSuch___init__ ?c_NoSuch___init__ ?k_NoSuch___init__ ?fn_NoSuch___init__ ?a_BadSize___init__ ?l_BadSize___init__ ?c_BadSize___init__ ?k_BadSize___init__ ?fn_BadSize___init__ ?a_BadColumn___init__ ?l_BadColumn___init__ ?c_BadColumn___init__ ?k_BadColumn___init__ ?fn_BadColumn___init__ ?a_BadBoundary___init__ ?l_BadBoundary___init__ ?c_BadBoundary___init__ ?k_BadBoundary___init__ ?fn_BadBoundary___init__ ?a_Column___init__ ?l_Column___init__ ?c_Column___init__ ?k_Column___init__ ?fn_Column___init__ ?a_Column_many ?l_Column_many ?c_Column_many ?k_Column_many ?fn_Column_many ?a_Column_height ?l_Column_height ?c_Column_height ?k_Column_height ?fn_Column_height ?a_Column___eq__ ?l_Column___eq__ ?c_Column___eq__ ?k_Column___eq__ ?fn_Column___eq__ ?a_Column___str__ ?l_Column___str__ ?c_Column___str__ ?k_Column___str__ ?fn_Column___str__ ?a_Column___len__ ?l_Column___len__ ?c_Column___len__ ?k_Column___len__ ?fn_Column___len__ ?a_Column___iter__ ?l_Column___iter__ ?c_Column___iter__ ?k_Column___iter__ ?fn_Column___iter__ ?ec_CardError ?ns_CardError ?ty_CardError ?ic_CardError ?ss_CardError ?xl_NoSuch ?rv_NoSuch ?sa_NoSuch ?ga_NoSuch ?gg_NoSuch ?kc_NoSuch ?hd_NoSuch ?ti_NoSuch ?ec_NoSuch ?ns_NoSuch ?ty_NoSuch ?ic_NoSuch ?ss_NoSuch ?n_NoSuch_number ?eq_NoSuch_BadSize ?eq_NoSuch_NoSuch ?up_NoSuch_CardError ?xl_BadSize ?rv_BadSize ?sa_BadSize ?ga_BadSize ?gg_BadSize ?kc_BadSize ?hd_BadSize ?ti_BadSize ?ec_BadSize ?ns_BadSize ?ty_BadSize ?ic_BadSize ?ss_BadSize ?n_BadSize_size ?eq_BadSize_BadSize ?eq_BadSize_NoSuch ?up_BadSize_CardError ?xl_BadColumn ?rv_BadColumn ?sa_BadColumn ?ga_BadColumn ?gg_BadColumn ?kc_BadColumn ?hd_BadColumn ?ti_BadColumn ?ec_BadColumn ?ns_BadColumn ?ty_BadColumn ?ic_BadColumn ?ss_BadColumn ?n_BadColumn_what ?eq_BadColumn_BadSize ?eq_BadColumn_NoSuch ?up_BadColumn_CardError ?xl_BadBoundary ?rv_BadBoundary ?sa_BadBoundary ?ga_BadBoundary ?gg_BadBoundary ?kc_BadBoundary ?hd_BadBoundary ?ti_BadBoundary ?ec_BadBoundary ?ns_BadBoundary ?ty_BadBoundary ?ic_BadBoundary ?ss_BadBoundary ?n_BadBoundary_boundary ?eq_BadBoundary_BadSize ?eq_BadBoundary_NoSuch ?up_BadBoundary_CardError ?pg_Column ?hd_Column ?po_Column ?sa_Column ?i1_Column ?i4_Column ?ic_Column ?ty_Column ?it_str_Column ?it_int_Column ?it_bool_Column ?it_NoneType_Column ?it_list_Column ?it_tuple_Column ?it_dict_Column ?ti_str_Column ?ti_int_Column ?ti_bool_Column ?ti_list_Column ?ti_tuple_Column ?sub_Column ?ne_Column ?mk_Column ?kc_Column ?n_Column_word ?n_Column_size ?kc_MOST_SIZE ?i2 ?i3 ?im_comb ?z_ValueError ?z_abs ?z_all ?z_bool ?z_enumerate ?z_int ?z_isinstance ?z_iter ?z_len ?z_list ?z_property ?z_range ?z_staticmethod ?z_str
    (case ac_CardError => k_is)
    (case ac_NoSuch => k_is)
    (case ac_BadSize => k_is)
    (case ac_BadColumn => k_is)
    (case ac_BadBoundary => k_is)
    (case ac_Column => k_is)
    (case a_is_number => k_is)
    (case l_is_number => k_is)
    (case c_is_number => k_is)
    (case k_is_number => k_is)
    (case a_is_whole => k_is)
    (case l_is_whole => k_is)
    (case c_is_whole => k_is)
    (case k_is_whole => k_is)
    (case a_word_fault => k_is)
    (case l_word_fault => k_is)
    (case c_word_fault => k_is)
    (case k_word_fault => k_is)
    (case a_check_size => k_is)
    (case l_check_size => k_is)
    (case c_check_size => k_is)
    (case k_check_size => k_is)
    (case a_ways_home => k_is)
    (case l_ways_home => k_is)
    (case c_ways_home => k_is)
    (case k_ways_home => k_is)
    (case a_how_many_columns => k_is)
    (case l_how_many_columns => k_is)
    (case c_how_many_columns => k_is)
    (case k_how_many_columns => k_is)
    (case a_all_columns => k_is)
    (case l_all_columns => k_is)
    (case c_all_columns => k_is)
    (case k_all_columns => k_is)
    (case a_column_index => k_is)
    (case l_column_index => k_is)
    (case c_column_index => k_is)
    (case k_column_index => k_is)
    (case a_column_at => k_is)
    (case l_column_at => k_is)
    (case c_column_at => k_is)
    (case k_column_at => k_is)
    (case a_plain_column => k_is)
    (case l_plain_column => k_is)
    (case c_plain_column => k_is)
    (case k_plain_column => k_is)
    (case a_steep_column => k_is)
    (case l_steep_column => k_is)
    (case c_steep_column => k_is)
    (case k_steep_column => k_is)
    (case a_l_mix => k_is)
    (case l_l_mix => k_is)
    (case c_l_mix => k_is)
    (case k_l_mix => k_is)
    (case a_l_hand => k_is)
    (case l_l_hand => k_is)
    (case c_l_hand => k_is)
    (case k_l_hand => k_is)
    (case a_l_draw => k_is)
    (case l_l_draw => k_is)
    (case c_l_draw => k_is)
    (case k_l_draw => k_is)
    (case a_l_word => k_is)
    (case l_l_word => k_is)
    (case c_l_word => k_is)
    (case k_l_word => k_is)
    (case a_l_all_words => k_is)
    (case l_l_all_words => k_is)
    (case c_l_all_words => k_is)
    (case k_l_all_words => k_is)
    (case a_l_refused => k_is)
    (case l_l_refused => k_is)
    (case c_l_refused => k_is)
    (case k_l_refused => k_is)
    (case a_law => k_is)
    (case l_law => k_is)
    (case c_law => k_is)
    (case k_law => k_is)
    (case a_NoSuch___init__ => k_is)
    (case l_NoSuch___init__ => k_is)
    (case c_NoSuch___init__ => k_is)
    (case k_NoSuch___init__ => k_is)
    (case fn_NoSuch___init__ => k_is)
    (case a_BadSize___init__ => k_is)
    (case l_BadSize___init__ => k_is)
    (case c_BadSize___init__ => k_is)
    (case k_BadSize___init__ => k_is)
    (case fn_BadSize___init__ => k_is)
    (case a_BadColumn___init__ => k_is)
    (case l_BadColumn___init__ => k_is)
    (case c_BadColumn___init__ => k_is)
    (case k_BadColumn___init__ => k_is)
    (case fn_BadColumn___init__ => k_is)
    (case a_BadBoundary___init__ => k_is)
    (case l_BadBoundary___init__ => k_is)
    (case c_BadBoundary___init__ => k_is)
    (case k_BadBoundary___init__ => k_is)
    (case fn_BadBoundary___init__ => k_is)
    (case a_Column___init__ => k_is)
    (case l_Column___init__ => k_is)
    (case c_Column___init__ => k_is)
    (case k_Column___init__ => k_is)
    (case fn_Column___init__ => k_is)
    (case a_Column_many => k_is)
    (case l_Column_many => k_is)
    (case c_Column_many => k_is)
    (case k_Column_many => k_is)
    (case fn_Column_many => k_is)
    (case a_Column_height => k_is)
    (case l_Column_height => k_is)
    (case c_Column_height => k_is)
    (case k_Column_height => k_is)
    (case fn_Column_height => k_is)
    (case a_Column___eq__ => k_is)
    (case l_Column___eq__ => k_is)
    (case c_Column___eq__ => k_is)
    (case k_Column___eq__ => k_is)
    (case fn_Column___eq__ => k_is)
    (case a_Column___str__ => k_is)
    (case l_Column___str__ => k_is)
    (case c_Column___str__ => k_is)
    (case k_Column___str__ => k_is)
    (case fn_Column___str__ => k_is)
    (case a_Column___len__ => k_is)
    (case l_Column___len__ => k_is)
    (case c_Column___len__ => k_is)
    (case k_Column___len__ => k_is)
    (case fn_Column___len__ => k_is)
    (case a_Column___iter__ => k_is)
    (case l_Column___iter__ => k_is)
    (case c_Column___iter__ => k_is)
    (case k_Column___iter__ => k_is)
    (case fn_Column___iter__ => k_is)
    (case ec_CardError => k_is)
    (case ns_CardError => k_is)
    (case ty_CardError => k_is)
    (case ic_CardError => k_is)
    (case ss_CardError => first | rfl | k_is)
    (case xl_NoSuch => k_is)
    (case rv_NoSuch => first | rfl | decide +kernel)
    (case sa_NoSuch => k_is)
    (case ga_NoSuch => k_is)
    (case gg_NoSuch => k_is)
    (case kc_NoSuch => k_is)
    (case hd_NoSuch => k_is)
    (case ti_NoSuch => k_is)
    (case ec_NoSuch => k_is)
    (case ns_NoSuch => k_is)
    (case ty_NoSuch => k_is)
    (case ic_NoSuch => k_is)
    (case ss_NoSuch => first | rfl | k_is)
    (case n_NoSuch_number => k_is)
    (case eq_NoSuch_BadSize => first | rfl | k_is)
    (case eq_NoSuch_NoSuch => first | rfl | k_is)
    (case up_NoSuch_CardError => k_is)
    (case xl_BadSize => k_is)
    (case rv_BadSize => first | rfl | decide +kernel)
    (case sa_BadSize => k_is)
    (case ga_BadSize => k_is)
    (case gg_BadSize => k_is)
    (case kc_BadSize => k_is)
    (case hd_BadSize => k_is)
    (case ti_BadSize => k_is)
    (case ec_BadSize => k_is)
    (case ns_BadSize => k_is)
    (case ty_BadSize => k_is)
    (case ic_BadSize => k_is)
    (case ss_BadSize => first | rfl | k_is)
    (case n_BadSize_size => k_is)
    (case eq_BadSize_BadSize => first | rfl | k_is)
    (case eq_BadSize_NoSuch => first | rfl | k_is)
    (case up_BadSize_CardError => k_is)
    (case xl_BadColumn => k_is)
    (case rv_BadColumn => first | rfl | decide +kernel)
    (case sa_BadColumn => k_is)
    (case ga_BadColumn => k_is)
    (case gg_BadColumn => k_is)
    (case kc_BadColumn => k_is)
    (case hd_BadColumn => k_is)
    (case ti_BadColumn => k_is)
    (case ec_BadColumn => k_is)
    (case ns_BadColumn => k_is)
    (case ty_BadColumn => k_is)
    (case ic_BadColumn => k_is)
    (case ss_BadColumn => first | rfl | k_is)
    (case n_BadColumn_what => k_is)
    (case eq_BadColumn_BadSize => first | rfl | k_is)
    (case eq_BadColumn_NoSuch => first | rfl | k_is)
    (case up_BadColumn_CardError => k_is)
    (case xl_BadBoundary => k_is)
    (case rv_BadBoundary => first | rfl | decide +kernel)
    (case sa_BadBoundary => k_is)
    (case ga_BadBoundary => k_is)
    (case gg_BadBoundary => k_is)
    (case kc_BadBoundary => k_is)
    (case hd_BadBoundary => k_is)
    (case ti_BadBoundary => k_is)
    (case ec_BadBoundary => k_is)
    (case ns_BadBoundary => k_is)
    (case ty_BadBoundary => k_is)
    (case ic_BadBoundary => k_is)
    (case ss_BadBoundary => first | rfl | k_is)
    (case n_BadBoundary_boundary => k_is)
    (case eq_BadBoundary_BadSize => first | rfl | k_is)
    (case eq_BadBoundary_NoSuch => first | rfl | k_is)
    (case up_BadBoundary_CardError => k_is)
    (case pg_Column => k_is)
    (case hd_Column => k_is)
    (case po_Column => k_is)
    (case sa_Column => k_is)
    (case i1_Column => k_is)
    (case i4_Column => k_is)
    (case ic_Column => k_is)
    (case ty_Column => k_is)
    (case it_str_Column => k_is)
    (case it_int_Column => k_is)
    (case it_bool_Column => k_is)
    (case it_NoneType_Column => k_is)
    (case it_list_Column => k_is)
    (case it_tuple_Column => k_is)
    (case it_dict_Column => k_is)
    (case ti_str_Column => k_is)
    (case ti_int_Column => k_is)
    (case ti_bool_Column => k_is)
    (case ti_list_Column => k_is)
    (case ti_tuple_Column => k_is)
    (case sub_Column => k_is)
    (case ne_Column => k_is)
    (case mk_Column => k_is)
    (case kc_Column => k_is)
    (case n_Column_word => k_is)
    (case n_Column_size => k_is)
    (case kc_MOST_SIZE => k_is)
    (case i2 => k_is)
    (case i3 => k_is)
    (case im_comb => k_is)
    (case z_ValueError => k_is)
    (case z_abs => k_is)
    (case z_all => k_is)
    (case z_bool => k_is)
    (case z_enumerate => k_is)
    (case z_int => k_is)
    (case z_isinstance => k_is)
    (case z_iter => k_is)
    (case z_len => k_is)
    (case z_list => k_is)
    (case z_property => k_is)
    (case z_range => k_is)
    (case z_staticmethod => k_is)
    (case z_str => k_is)
