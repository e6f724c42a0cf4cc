import PyProof.Rows.All
import Wide.All
import OpenK.AllK
import Wide.FinOn
import HandS.Deep
import HandS.Sort
import HandS.SortRule
import HandS.Defaults
import HandS.Gcd
import HandS.ExcIs
import PySem.Challenge.RW_slitstairs_k02_whole_heights_places_and
import HandS.ForMost
import HandS.ForExc
import HandS.EndBits
import HandS.Wide
import HandS.Walk
import HandS.IsInst
import HandS.ExcInit
import HandS.ExcField
import HandS.OwnEq
import HandS.IterVal
import PyProof.FactsAll.str_ascii_iterator_1
import PyProof.FactsAll.tuple_iterator_1
import HandS.Style
import HandS.RaiseMore
import HandS.Property
import HandS.TryMany
import HandS.TryOnly
import HandS.ClsMeth
import HandS.MakeKwOnly
import HandS.FStr
import HandS.DictTup
import HandS.StrSplit
import HandS.Star
import HandS.MethStar
import HandS.TupLe
import KE.GoesMore
set_option Elab.async false
set_option linter.all false
set_option maxRecDepth 100000
set_option maxHeartbeats 4000000
namespace Sl
open PySem PySem.Spec PyProof.Rows L2 ItX
/-- the def st stands at f as the name x of the module -/
structure DefAt (K : PySem.W.Frag) (mg : Str → Option Value) (x : Str) (st : Stmt) (ps : List Str) (f : Addr) (fd : FuncData) : Prop where
  F : Fun K x x st f fd
  b : Binds K fd ps []
  g : mg x = some (.ref f)
theorem callD {X : Cx} {x : Str} {st : Stmt} {ps : List Str} {f : Addr} {fd : FuncData} {sp : Sp} {k j : Nat} {e : Expr} {es : List Expr} {p pos : Pos} {t : TA} (D : DefAt X.K X.mg x st ps f fd) (G : FnOk X.prog X.w X.K X.mg X.base CX0 k f fd ps sp) (hr : Room j X.A) (ha : PA X (e :: es) t)
    (hk : k ≤ j := by decide) (hg : Gl X x := by rfl) (hdb : (x == ("__debug__" : Str)) = false := by decide)
    (he : starEach (e :: es) X.env = (false, eval e X.env) :: starEach es X.env := by rfl) (hpl : (backTo pos (starEach es X.env)).any (·.1) = false := by rfl) :
    PE X (.Call (.Name x p) (e :: es) [] pos) (tCall sp [] E0 t) := pe_call G (hr.mono hk) hg D.g D.F.kp D.b .nil pass0 ha hdb he hpl
theorem cmul_l {i j : Int} (h : -18446744073709551616 < i ∧ i < 18446744073709551616) : CMul i j := .inl h
theorem cmul_r {i j : Int} (h : -18446744073709551616 < j ∧ j < 18446744073709551616) : CMul i j := .inr h
theorem cdiv {i j : Int} (h : 0 < j) (h2 : j < 1073741824) : CDiv i j := ⟨h, h2⟩
theorem same_but {a : Addr} {H H1 H2 : Hp} (s : Same H H1) (n : H a = none) (b : ∀ b o, b ≠ a → H1 b = some o → H2 b = some o) : Same H H2 := fun c o h => b c o (ne_of_none h n) (s c o h)
theorem same_new {H H1 : Hp} {a : Addr} {o : HO} (s : Same H H1) (n : H1 a = none) : Same H (upd H1 a o) := fun b u e => by
  rw [upd_ne (ne_of_none (s b u e) n)]
  exact s b u e
theorem same_free {H H' : Hp} {a : Addr} (s : Same H H') (n : H' a = none) : H a = none := s.free n
theorem cpow {i j : Int} (h1 : 0 ≤ j) (h2 : j ≤ 1000000) (h3 : i.natAbs < 2 ^ 64) : CPow i j := ⟨h1, h2, h3⟩
theorem szl {n : Nat} (h : n ≤ 1000) : n ≤ sizeLine := Nat.le_of_lt (small1000 h)
/-- the law's hand stands at a -/
def HandOk (H : Hp) (a : Addr) : Prop := ∃ (l : Addr) (cells : List Int) (pos pend tot : Int), H a = some (.lst [.ref l, .int pos, .int pend, .int tot]) ∧ H l = some (.lst (cells.map V.int)) ∧
  (0 ≤ pos ∧ pos ≤ 63) ∧ cells.length ≤ 63 ∧ (∀ c ∈ cells, 0 ≤ c) ∧ 0 ≤ pend ∧ (0 ≤ tot ∧ tot < 2147483629)
/-- all but a is as it was -/
def But (a : Addr) (H H' : Hp) : Prop := ∀ b o, b ≠ a → H b = some o → H' b = some o
theorem HandOk.mk {H H' : Hp} {a l : Addr} {cells : List Int} {pos pend tot : Int} (hal : a ≠ l) (el : H l = some (.lst (cells.map V.int))) (b : But a H H') (ea : H' a = some (.lst [.ref l, .int pos, .int pend, .int tot])) (hp : 0 ≤ pos ∧ pos ≤ 63) (hl : cells.length ≤ 63) (hc : ∀ c ∈ cells, 0 ≤ c) (hpe : 0 ≤ pend) (ht : 0 ≤ tot ∧ tot < 2147483629) : HandOk H' a :=
  ⟨l, cells, pos, pend, tot, ea, b l _ (Ne.symm hal) el, hp, hl, hc, hpe, ht⟩
theorem But.refl (a : Addr) (H : Hp) : But a H H := fun _ _ _ h => h
theorem But.trans {a : Addr} {H H1 H2 : Hp} (x : But a H H1) (y : But a H1 H2) : But a H H2 := fun b o n h => y b o n (x b o n h)
theorem But.upd {a : Addr} {H H1 : Hp} {o : HO} (x : But a H H1) : But a H (upd H1 a o) := fun b u n h => by
  rw [upd_ne n]
  exact x b u n h
/-! texts by their codes -/
def sOf (l : List Nat) : Str := ⟨l.toArray⟩
theorem sOf_tl (x : Str) : sOf x.cps.toList = x := rfl
theorem sOf_inj {a b : List Nat} : sOf a = sOf b ↔ a = b := ⟨fun h => by
  have h2 := congrArg (fun s : Str => s.cps.toList) h
  simpa [sOf] using h2, fun h => by rw [h]⟩
theorem sOf_len (l : List Nat) : (sOf l).length = l.length := by simp [sOf, Str.length]
theorem sOf_app (a b : List Nat) : sOf a ++ sOf b = sOf (a ++ b) := TL.ext_tl (by rw [TL.tl_append]; simp [sOf, TL.tl])
theorem sOf_count (l : List Nat) (c : Nat) : Txt.count (sOf l) (sOf [c]) = (l.count c : Int) := by
  show Txt.count (sOf l) ⟨#[c]⟩ = _
  rw [PyProof.Rows.count_cnt]
  show PyProof.Rows.cnt c l = _
  induction l with
  | nil => rfl
  | cons x r ih =>
    rw [PyProof.Rows.cnt_cons, ih, List.count_cons]
    by_cases h : x = c
    · subst h; simp; omega
    · simp [h]
theorem sOf_take (l : List Nat) (k : Nat) (h : k ≤ l.length) : cutS (sOf l) none (some (k : Int)) = sOf (l.take k) := by
  unfold cutS
  rw [sOf_len, HT.sIx_nat, HT.sIx_none, Nat.min_eq_left h]
  simp [sOf]
theorem sOf_drop (l : List Nat) (k : Nat) (h : k ≤ l.length) : cutS (sOf l) (some (k : Int)) none = sOf (l.drop k) := by
  unfold cutS
  rw [sOf_len, HT.sIx_nat, HT.sIx_none, Nat.min_eq_left h]
  have e : (l.drop k).take (l.length - k) = l.drop k := List.take_of_length_le (by rw [List.length_drop]; exact Nat.le_refl _)
  simp [sOf, e]
theorem str_d : ("d" : Str) = sOf [100] := by decide +kernel
theorem str_o : ("o" : Str) = sOf [111] := by decide +kernel
theorem str_e : ("" : Str) = sOf [] := by decide +kernel
/-! rules of texts, by their codes -/
theorem pe_s {X : Cx} (l : List Nat) {x : Str} {j : Nat} {pos : Pos} (h : x = sOf l) : PE X (.Constant (.str x) j pos) (tC (.str (sOf l))) := by
  subst h
  exact pe_str
def rAddS : R2 := fun x y H Q => ∃ a b : List Nat, x = .str (sOf a) ∧ y = .str (sOf b) ∧ a.length + b.length ≤ 1000 ∧ Q (.str (sOf (a ++ b))) H
theorem op_addS {X : Cx} : OpR X (binaryOp .Add) rAddS := fun pins s σ H x y v u Q I rx ry ⟨a, b, ex, ey, hl, q⟩ =>
  op_add_str pins s σ H x y v u Q I rx ry ⟨_, _, ex, ey, by rw [sOf_len, sOf_len]; exact szl hl, by rw [sOf_app]; exact q⟩
def rLenS1 : List V → Hp → VK → Prop := fun xs H Q => ∃ l : List Nat, xs = [.str (sOf l)] ∧ l.length ≤ 1000 ∧ Q (.int l.length) H
theorem call_lenS {X : Cx} : CallR X (.builtin "len") rLenS1 := fun pins s σ H xs us Q I r ⟨l, e, hl, q⟩ =>
  call_len_str pins s σ H xs us Q I r ⟨_, e, by rw [sOf_len]; exact szl hl, by rw [sOf_len]; exact q⟩
def rCountS : V → List V → Hp → VK → Prop := fun x xs H Q => ∃ (l : List Nat) (c : Nat), x = .str (sOf l) ∧ xs = [.str (sOf [c])] ∧ Q (.int (l.count c : Nat)) H
theorem mt_countS {X : Cx} : MtR X "str.count" rCountS := fun pins s σ H x xs v us Q I rx rs ⟨l, c, ex, es, q⟩ =>
  mt_count pins s σ H x xs v us Q I rx rs ⟨_, _, ex, es, by rw [sOf_count]; exact q⟩
/-- a list's slice -/
def cutN (l : List Nat) (lo hi : Option Int) : List Nat := (l.drop (HT.sIx l.length 0 lo)).take (HT.sIx l.length l.length hi - HT.sIx l.length 0 lo)
theorem cutS_cutN (l : List Nat) (lo hi : Option Int) : cutS (sOf l) lo hi = sOf (cutN l lo hi) := by
  unfold cutS cutN
  rw [sOf_len]
  rfl
theorem cutN_take (l : List Nat) {i : Int} (h0 : 0 ≤ i) : cutN l none (some i) = l.take i.toNat := by
  obtain ⟨k, rfl⟩ := Int.eq_ofNat_of_zero_le h0
  unfold cutN
  rw [show (some ((k : Nat) : Int)) = some (k : Int) from rfl, HT.sIx_nat, HT.sIx_none, Nat.sub_zero, List.drop_zero, Int.toNat_natCast]
  by_cases h : k ≤ l.length
  · rw [Nat.min_eq_left h]
  · rw [Nat.min_eq_right (by omega), List.take_length, List.take_of_length_le (by omega)]
theorem cutN_drop (l : List Nat) {i : Int} (h0 : 0 ≤ i) : cutN l (some i) none = l.drop i.toNat := by
  obtain ⟨k, rfl⟩ := Int.eq_ofNat_of_zero_le h0
  unfold cutN
  rw [show (some ((k : Nat) : Int)) = some (k : Int) from rfl, HT.sIx_nat, HT.sIx_none, Int.toNat_natCast]
  by_cases h : k ≤ l.length
  · rw [Nat.min_eq_left h]
    exact List.take_of_length_le (by rw [List.length_drop]; exact Nat.le_refl _)
  · rw [Nat.min_eq_right (by omega), List.drop_length, List.drop_eq_nil_of_le (by omega), List.take_nil]
def rSlS2 : V → Option Int → Option Int → Hp → VK → Prop := fun x lo hi H Q => ∃ l : List Nat, x = .str (sOf l) ∧ l.length ≤ 1000 ∧ Q (.str (sOf (cutN l lo hi))) H
theorem sl_S {X : Cx} : SlR X rSlS2 := fun pins s σ H x v vl vu lo hi sl Q I rx hs pl pu ⟨l, ex, hl, q⟩ =>
  sl_str pins s σ H x v vl vu lo hi sl Q I rx hs pl pu ⟨_, ex, by rw [sOf_len]; exact szl hl, by rw [cutS_cutN]; exact q⟩
def rIxS2 : R2 := fun x y H Q => ∃ (l : List Nat) (i : Int) (c : Nat), x = .str (sOf l) ∧ y = .int i ∧ l.length ≤ 1000 ∧ atI l i = some c ∧ Q (.str (sOf [c])) H
theorem ix_S {X : Cx} : IxR X rIxS2 := fun value slice pins s σ H x y v u Q I rx ry ⟨l, i, c, ex, ey, hl, ha, q⟩ hs =>
  ix_str value slice pins s σ H x y v u Q I rx ry ⟨_, i, c, ex, ey, by rw [sOf_len]; exact szl hl, ha, q⟩ hs
theorem walk_S {l : List Nat} : Walk (Its (sOf l)) l.length (fun _ => True) (fun i H v H' => H' = H ∧ ∃ c, l[i]? = some c ∧ v = .str (sOf [c])) := by
  refine ⟨fun i H hi _ => ?_, fun H _ => ?_, fun i H x H' _ _ y => ?_⟩
  · show i < (sOf l).cps.size
    simpa [sOf] using hi
  · show (sOf l).cps.size ≤ l.length
    simp [sOf]
  · obtain ⟨h1, c, h2, h3⟩ := y
    refine ⟨h1, c, ?_, h3⟩
    simpa [sOf] using h2
theorem str_eq {a b : List Nat} : (V.str (sOf a) = V.str (sOf b)) ↔ a = b := ⟨fun h => sOf_inj.mp (V.str.inj h), fun h => by rw [h]⟩
/-! ### words -/
/-- a word of size n: as many d (100) as o (111), never more o than d ahead -/
structure Good (l : List Nat) (n : Nat) : Prop where
  len : l.length = 2 * n
  cnt : l.count 100 = n
  ltr : ∀ c ∈ l, c = 100 ∨ c = 111
  ahead : ∀ k, k ≤ l.length → (l.take k).count 111 ≤ (l.take k).count 100
theorem ltr_count : ∀ {l : List Nat}, (∀ c ∈ l, c = 100 ∨ c = 111) → l.count 100 + l.count 111 = l.length
  | [], _ => rfl
  | x :: r, h => by
    have ih := ltr_count (l := r) fun c hc => h c (List.mem_cons_of_mem _ hc)
    rw [List.count_cons, List.count_cons, List.length_cons]
    rcases h x List.mem_cons_self with e | e <;> subst e <;> simp <;> omega
/-- what a row of steps has of a word while it is made -/
structure Part (l : List Nat) (n : Nat) : Prop where
  cnt : l.count 100 ≤ n
  ltr : ∀ c ∈ l, c = 100 ∨ c = 111
  ahead : ∀ k, k ≤ l.length → (l.take k).count 111 ≤ (l.take k).count 100
theorem Part.le {l : List Nat} {n : Nat} (p : Part l n) : l.count 111 ≤ l.count 100 := by
  have h := p.ahead l.length (Nat.le_refl _)
  rwa [List.take_length] at h
theorem Part.nil (n : Nat) : Part [] n := ⟨Nat.zero_le _, fun _ h => by simp at h, fun k _ => by simp⟩
theorem Part.snoc {l : List Nat} {n c : Nat} (p : Part l n) (h : (c = 100 ∧ l.count 100 < n) ∨ (c = 111 ∧ l.count 111 < l.count 100)) : Part (l ++ [c]) n := by
  refine ⟨?_, ?_, fun k hk => ?_⟩
  · rcases h with ⟨e, h⟩ | ⟨e, h⟩ <;> subst e <;> simp [List.count_append] <;> have := p.cnt <;> omega
  · intro x hx
    rcases List.mem_append.mp hx with hx | hx
    · exact p.ltr x hx
    · rw [List.mem_singleton] at hx
      rcases h with ⟨e, h⟩ | ⟨e, h⟩
      · exact .inl (hx.trans e)
      · exact .inr (hx.trans e)
  · by_cases hk2 : k ≤ l.length
    · rw [List.take_append_of_le_length hk2]
      exact p.ahead k hk2
    · have e : (l ++ [c]).take k = l ++ [c] := List.take_of_length_le (by rw [List.length_append] at hk ⊢; simp at hk ⊢; omega)
      rw [e, List.count_append, List.count_append]
      have := p.le
      rcases h with ⟨e, h⟩ | ⟨e, h⟩ <;> subst e <;> simp <;> omega
theorem Part.good {l : List Nat} {n : Nat} (p : Part l n) (h : l.length = 2 * n) : Good l n := by
  have h1 := p.le
  have h2 := ltr_count p.ltr
  have h3 := p.cnt
  exact ⟨h, by omega, p.ltr, p.ahead⟩
theorem cdivw {m : Int} (h : 0 < m) (h2 : m < 1152921504606846976) : CDivW 0 m := wide_div (i := 0) (b := 60) h (by omega) (by decide) (by decide)
theorem count_sign (c x : Nat) : [c].count x = if c = x then 1 else 0 := by
  rw [List.count_cons, List.count_nil]
  by_cases h : c = x
  · simp [h]
  · simp [h]
theorem cnt_d (l : List Nat) : (((l ++ [100]).count 100 : Nat) : Int) - ((l ++ [100]).count 111 : Nat) = (l.count 100 : Int) - l.count 111 + 1 := by
  rw [List.count_append, List.count_append, count_sign, count_sign]
  simp
  omega
theorem cnt_o (l : List Nat) : (((l ++ [111]).count 100 : Nat) : Int) - ((l ++ [111]).count 111 : Nat) = (l.count 100 : Int) - l.count 111 - 1 := by
  rw [List.count_append, List.count_append, count_sign, count_sign]
  simp
  omega
/-! rules that name the written part by itself (within comprehensions) -/
section
variable {X : Cx} {K : PySem.W.Frag}
theorem op_inK (h : X.K = K) : OpR X (compareOp .In) (rIn K false) := h ▸ op_in_seq
theorem op_notInK (h : X.K = K) : OpR X (compareOp .NotIn) (rIn K true) := h ▸ op_notIn_seq
theorem ix_listK (h : X.K = K) : IxR X (rIxL K) := h ▸ ix_list
theorem ix_tupK (h : X.K = K) : IxR X (rIxT K) := h ▸ ix_tup
theorem call_isiTK (h : X.K = K) : CallR X (.builtin "isinstance") (rIsiT K) := h ▸ call_isiT
/-- a list's or a tuple's item -/
def rIxQ (K : PySem.W.Frag) : R2 := fun x y H Q => rIxL K x y H Q ∨ rIxT K x y H Q
theorem ix_Q (h : X.K = K) : IxR X (rIxQ K) := h ▸ fun value slice pins s σ H x y v u Q I rx ry q hs => q.elim (fun q => ix_list value slice pins s σ H x y v u Q I rx ry q hs) (fun q => ix_tup value slice pins s σ H x y v u Q I rx ry q hs)
theorem call_isiK' (h : X.K = K) : CallR X (.builtin "isinstance") (rIsi K) := h ▸ call_isi
def rLenQ (K : PySem.W.Frag) : List V → Hp → VK → Prop := fun xs H Q => ∃ p ys, xs = [.ref p] ∧ (SqL K H p ys ∨ SqT K H p ys) ∧ Q (.int ys.length) H
theorem call_lenQ (h : X.K = K) : CallR X (.builtin "len") (rLenQ K) := h ▸ call_len_seq
def rListQ (K : PySem.W.Frag) : List V → Hp → VK → Prop := fun xs H Q => ∃ p ys, xs = [.ref p] ∧ (SqL K H p ys ∨ SqT K H p ys) ∧ ∀ l, H l = none → Q (.ref l) (upd H l (.lst ys))
theorem call_listQ (h : X.K = K) : CallR X (.type "list") (rListQ K) := h ▸ call_list_of
end
theorem Same.toBut {a : Addr} {H H1 H2 : Hp} (s : Same H H1) (n : H a = none) (b : But a H1 H2) : Same H H2 := same_but s n b
theorem But.new {a p : Addr} {H H1 : Hp} {o : HO} (b : But a H H1) (n : H1 p = none) : But a H (L2.upd H1 p o) := fun c u nc h => by
  rw [upd_ne (ne_of_none (b c u nc h) n)]
  exact b c u nc h
theorem inV_do (c : Nat) : inV (.str (sOf [c])) [.str (sOf [100]), .str (sOf [111])] = (c == 100 || c == 111) := by
  have h : ∀ d : Nat, eqV (.str (sOf [d])) (.str (sOf [c])) = (c == d) := fun d => by
    show ((sOf [d] == sOf [c]) : Bool) = (c == d)
    by_cases e : c = d
    · subst e; simp
    · have e2 : ¬ sOf [d] = sOf [c] := fun z => e (by have := sOf_inj.mp z; simp at this; exact this.symm)
      rw [beq_eq_false_iff_ne.mpr e2, beq_eq_false_iff_ne.mpr e]
  unfold inV
  rw [List.any_cons, List.any_cons, List.any_nil, h, h, Bool.or_false]
/-! exceptions that leave a call in a try: a wish that does not look at the slots -/
theorem takes_len {X : Cx} {W : WX} (t : Takes X W) : Takes X (fun c d σ H => σ.length = X.N.length → W c d σ H) := fun u s' ⟨a, B, sI, pins, σ, H, cls, d, e, I, nb, up, sky, na, os, ag, q⟩ =>
  t u s' ⟨a, B, sI, pins, σ, H, cls, d, e, I, nb, up, sky, na, os, ag, q I.len⟩
/-- what is asked first, then the block -/
def tGiven (p : Prop) (t : TS) : TS := fun D σ H => p ∧ t D σ H
theorem pss_given {X : Cx} {b : List Stmt} {t : TS} {p : Prop} (h : p → PSs X b t) : PSs X b (tGiven p t) := ⟨fun pins s σ H D I q => (h q.1).run pins s σ H D I q.2⟩
/-- the wish W is granted wherever E holds (n slots) -/
def Wish (n : Nat) (E : XK) (W : WX) : Prop := ∀ cls d σ H, σ.length = n → E cls d H → W cls d σ H
theorem passW {X : Cx} {W : WX} {E : XK} (tk : Takes X W) (h : Wish X.N.length E W) : Passes (L2.CX X.prog X.w) X E := fun pins σ H s e s' I c =>
  passes_call (takes_len tk) (fun cls d σ H q l => h cls d σ H l q) pins σ H s e s' I c
/-- what an exception class with the one field holds in the written part -/
structure ExC (K : PySem.W.Frag) (mg : Str → Option Value) (x : Str) (C : Addr) (i : Addr) : Prop where
  g : mg x = some (.ref C)
  oex : OexC K C
  xf : XfC K C
  ini : PySem.W.findIn K (.ref C) "__init__" = some (some (.ref i))
  tI : PySem.W.typeIn K (.ref i) = some (.type "function")
  me : PySem.W.exmOne K (.ref C) (.ref C) = some true
/-- a method (or __init__) as it stands -/
structure MetAt (K : PySem.W.Frag) (x qual : Str) (st : Stmt) (ps : List Str) (f : Addr) (fd : FuncData) : Prop where
  F : Fun K x qual st f fd
  b : Binds K fd ps []
theorem upd_del_same {H1 H2 : Hp} {a d : Addr} {fs : List (Str × V)} (na : H1 a = none) (nd : H1 d = none) (k : ∀ b o, b ≠ a → H1 b = some o → H2 b = some o) : Same H1 (upd (del H2 a) d (.xd fs)) := fun b o e => by
  rw [upd_ne (ne_of_none e nd), del_ne (ne_of_none e na)]
  exact k b o (ne_of_none e na) e

/-! ### objects of own classes: len, ==, !=, str by their own methods -/
section
variable {X : Cx} {pins : List (Addr × Obj)} {σ : L2.St} {H : Hp} {s : Shared} {CX : CXT} {n : Nat} {f C : Addr} {fd : FuncData} {ps : List Str} {sp : Sp} {E : XK} {vs : List V} {us : List Value} {Q : VK} {A1 : Around}
theorem run_own (sb : Sub X n A1) (F : FnOk X.prog X.w X.K X.mg X.base CX n f fd ps sp) (hb : L2.Binds X.K fd ps []) (hx : Passes CX X E) (I : Inv X pins σ H s) (r : Vals vs us) (h : sp vs H Q E) :
    wpAny (model X.prog X.w) A1 (call (.ref f) us) (EP X pins σ Q) X.xe s := by
  have e := I.env0
  have e0 : Env0 X.prog X.w X.K X.mg X.base A1 X.stack s H := ⟨sb.fr.trans e.frames, e.mod, e.bs, e.bsz, e.funs, e.frf, e.hok, e.bare⟩
  have hl : us.length = ps.length := r.length.symm.trans (F.len _ _ _ _ h)
  have bd := hb s us I.kIn (by rw [List.append_nil]; exact hl)
  rw [List.append_nil] at bd
  refine wpAny_call (codeAny_mono (F.run A1 X.stack s H ⟨us, []⟩ us vs Q E sb.room e0 bd r h) fun res s' hq => ?_)
  cases res with
  | error er => exact hx pins σ H s er s' I hq
  | ok fl =>
    cases fl with
    | ret w => exact I.after hq
    | next => exact hq.elim
    | brk => exact hq.elim
    | cont => exact hq.elim
/-- the same of a def that raises nothing, whatever is wished of errors -/
theorem run_own0 {EE : Value → Shared → Prop} (sb : Sub X n A1) (F : FnOk X.prog X.w X.K X.mg X.base CX0 n f fd ps sp) (hb : L2.Binds X.K fd ps []) (I : Inv X pins σ H s) (r : Vals vs us) (h : sp vs H Q E0) :
    wpAny (model X.prog X.w) A1 (call (.ref f) us) (EP X pins σ Q) EE s := by
  have e := I.env0
  have e0 : Env0 X.prog X.w X.K X.mg X.base A1 X.stack s H := ⟨sb.fr.trans e.frames, e.mod, e.bs, e.bsz, e.funs, e.frf, e.hok, e.bare⟩
  have hl : us.length = ps.length := r.length.symm.trans (F.len _ _ _ _ h)
  have bd := hb s us I.kIn (by rw [List.append_nil]; exact hl)
  rw [List.append_nil] at bd
  refine wpAny_call (codeAny_mono (F.run A1 X.stack s H ⟨us, []⟩ us vs Q E0 sb.room e0 bd r h) fun res s' hq => ?_)
  cases res with
  | error er => exact hq.elim
  | ok fl =>
    cases fl with
    | ret w => exact I.after hq
    | next => exact hq.elim
    | brk => exact hq.elim
    | cont => exact hq.elim
theorem val_ref {a : Addr} : L2.RelV (V.ref a) (Value.ref a) := rfl
/-- a method that the class has as a def -/
structure OwnM (K : PySem.W.Frag) (C : Addr) (m : Str) (f : Addr) : Prop where
  at_ : PySem.W.findIn K (.ref C) m = some (some (.ref f))
  fn : PySem.W.isFn K (.ref f) = true
def rLenOwn (C : Addr) (sp : Sp) (E : XK) : List V → Hp → VK → Prop := fun xs H Q => ∃ a dx fs, xs = [.ref a] ∧ H a = some (.ins C dx fs) ∧ sp [.ref a] H (fun v H' => ∃ k : Nat, v = .int k ∧ k < 1000000 ∧ Q (.int k) H') E
theorem call_lenOwn (M : OwnM X.K C "__len__" f) (F : FnOk X.prog X.w X.K X.mg X.base CX n f fd ps sp) (hb : L2.Binds X.K fd ps []) (hx : Passes CX X E) (hr : Room (n + 1) X.A) : CallR X (.builtin "len") (rLenOwn C sp E) := by
  intro pins s σ H xs us Q I r h
  obtain ⟨a, dx, fs, rfl, ha, h⟩ := h
  obtain ⟨u, rfl, ru⟩ := r.one
  cases ru
  obtain ⟨mA, J, _⟩ := ins_get I.hok ha
  obtain ⟨od, J, _⟩ := J.look
  obtain ⟨m, hF⟩ := I.fr
  refine PySem.W.len_K hF I.ok.mod.kin J M.at_ M.fn (wpAny_mono (run_own (Sub.in1 ⟨hr, rfl⟩) F hb hx I (.cons val_ref .nil) h) (fun v s' q => ?_) fun _ _ z => z)
  obtain ⟨w, H', I', rw', k, rfl, hk, q⟩ := q
  obtain ⟨t, rfl⟩ := rw'
  exact ⟨⟨by omega, by omega⟩, .int k, H', I'.tok _, ⟨_, rfl⟩, q⟩
def rStrOwn (C : Addr) (sp : Sp) (E : XK) : List V → Hp → VK → Prop := fun xs H Q => ∃ a dx fs, xs = [.ref a] ∧ H a = some (.ins C dx fs) ∧ sp [.ref a] H (fun v H' => ∃ z : Str, v = .str z ∧ Q (.str z) H') E
theorem call_strOwn (M : OwnM X.K C "__str__" f) (F : FnOk X.prog X.w X.K X.mg X.base CX n f fd ps sp) (hb : L2.Binds X.K fd ps []) (hx : Passes CX X E) (hr : Room (n + 2) X.A) : CallR X (.type "str") (rStrOwn C sp E) := by
  intro pins s σ H xs us Q I r h
  obtain ⟨a, dx, fs, rfl, ha, h⟩ := h
  obtain ⟨u, rfl, ru⟩ := r.one
  cases ru
  obtain ⟨mA, J, _⟩ := ins_get I.hok ha
  obtain ⟨od, J, _⟩ := J.look
  have sb : Sub X n X.A.in1.in1 := Sub.in1 (Sub.in1 (⟨hr, rfl⟩ : Sub X (n + 2) X.A))
  refine PySem.W.kso_call sb.room.units0 I.kIn J M.at_ M.fn (wpAny_mono (run_own sb F hb hx I (.cons val_ref .nil) h) (fun v s' q => ?_) fun _ _ z => z)
  obtain ⟨w, H', I', rw', z, rfl, q⟩ := q
  obtain ⟨t, rfl⟩ := rw'
  exact ⟨.str z, H', I', ⟨_, rfl⟩, q⟩
/-- what may stand at the right of an own ==: a text, an instance of the same class -/
inductive Oth (C : Addr) (H : Hp) : V → Prop where
  | str (z : Str) : Oth C H (.str z)
  | ins {b dx : Addr} {fs : List (Str × V)} (h : H b = some (.ins C dx fs)) : Oth C H (.ref b)
def rEqOwn (neg : Bool) (C : Addr) (sp : Sp) (E : XK) : R2 := fun x y H Q => ∃ a dx fs, x = .ref a ∧ H a = some (.ins C dx fs) ∧ Oth C H y ∧ sp [.ref a, y] H (fun v H' => ∃ b : Bool, v = .bl b ∧ Q (.bl (if neg then !b else b)) H') E
theorem op_eqOwn (M : OwnM X.K C "__eq__" f) (hs : PySem.W.subIn X.K (.type "str") (.ref C) = some false) (F : FnOk X.prog X.w X.K X.mg X.base CX n f fd ps sp) (hb : L2.Binds X.K fd ps []) (hx : Passes CX X E) (hr : Room n X.A) :
    OpR X (compareOp .Eq) (rEqOwn false C sp E) := by
  intro pins s σ H x y v u Q I rx ry h
  obtain ⟨a, dx, fs, rfl, ha, oth, h⟩ := h
  cases rx
  obtain ⟨mA, J, _⟩ := ins_get I.hok ha
  obtain ⟨od, J, _⟩ := J.look
  obtain ⟨m, hF⟩ := I.fr
  have back : wpAny (model X.prog X.w) X.A (call (.ref f) [.ref a, u]) (PySem.W.CmpBack (EP X pins σ Q)) X.xe s := by
    refine wpAny_mono (run_own (⟨hr, rfl⟩ : Sub X n X.A) F hb hx I (.cons val_ref (.cons ry .nil)) h) (fun w s' q => ?_) fun _ _ z => z
    obtain ⟨z, H', I', rz, b, rfl, q⟩ := q
    cases rz
    exact ⟨.bl b, H', I', rfl, q⟩
  show wpAny (model X.prog X.w) X.A (richCompare .Eq (.ref a) u) (EP X pins σ Q) X.xe s
  cases oth with
  | str z =>
    obtain ⟨t, rfl⟩ := ry
    exact PySem.W.cmp_K (op := .Eq) (tb := .type "str") hr.units0 hF I.ok.mod.kin J (.of_pure rfl) (by simp [PySem.W.notFirst, hs]) M.at_ M.fn back
  | ins hb2 =>
    cases ry
    obtain ⟨mB, J', _⟩ := ins_get I.hok hb2
    obtain ⟨od', J', _⟩ := J'.look
    exact PySem.W.cmp_K (op := .Eq) (tb := .ref C) hr.units0 hF I.ok.mod.kin J J'.type (by simp [PySem.W.notFirst]) M.at_ M.fn back
/-- != where the class has an own == alone -/
structure NeC (K : PySem.W.Frag) (C : Addr) : Prop where
  at_ : PySem.W.findIn K (.ref C) "__ne__" = some (some (.builtin "object.__ne__"))
  up : PySem.W.mroIn K C (.type "object") = some true
theorem ne_here {M : Model} {A : Around} {E : Value → Shared → Prop} {s : Shared} {K : PySem.W.Frag} {x : Addr} {ox : Obj} {od : Option Obj} {args : List Value} {Q : Option Value → Shared → Prop} (N : NeC K C) (hK : K.In s.heap) (J : PySem.W.InstAt s.heap x ox C od)
    (h : wpAny M A (call (.builtin "object.__ne__") (.ref x :: args)) (fun v => Q (some v)) E s) : wpAny M A (callSpecialIfBound? (.ref x) "__ne__" args) Q E s := by
  simp only [callSpecialIfBound?, bindSpecialIfBound?]
  refine wpAny_holding (wpAny_bind (wpAny_bind (wpAny_bind (J.type.here ((PySem.W.looks_findIn hK N.at_).here ?_)))))
  refine wpAny_bind (wpAny_askSetting (wpAny_ite ?_))
  have fin : wpAny M A (call (.builtin "object.__ne__") ([.ref x] ++ args) >>= fun v => pure (some v)) Q E s := wpAny_bind (wpAny_mono h (fun v s' z => wpAny_pure z) fun _ _ z => z)
  have bd : bindSpecial (.builtin "object.__ne__") (.ref x) = pure (.builtin "object.__ne__", [.ref x]) := PySem.F.slot_object_ne.bind _
  split
  · exact wpAny_bind (wpAny_of_eq bd (wpAny_pure (by exact fin)))
  · exact wpAny_tryCatch (wpAny_bind (wpAny_of_eq bd (wpAny_pure (by exact fin))))
theorem op_neOwn (M : OwnM X.K C "__eq__" f) (N : NeC X.K C) (hs : PySem.W.subIn X.K (.type "str") (.ref C) = some false) (F : FnOk X.prog X.w X.K X.mg X.base CX n f fd ps sp) (hb : L2.Binds X.K fd ps []) (hx : Passes CX X E) (hr : Room (n + 1) X.A) :
    OpR X (compareOp .NotEq) (rEqOwn true C sp E) := by
  intro pins s σ H x y v u Q I rx ry h
  obtain ⟨a, dx, fs, rfl, ha, oth, h⟩ := h
  cases rx
  obtain ⟨mA, J, _⟩ := ins_get I.hok ha
  obtain ⟨od, J, _⟩ := J.look
  obtain ⟨m, hF⟩ := I.fr
  have sb : Sub X n X.A.in1 := Sub.in1 ⟨hr, rfl⟩
  have back : wpAny (model X.prog X.w) X.A.in1 (call (.ref f) [.ref a, u]) (fun v s' => ∃ b, v = .bool b ∧ EP X pins σ Q (.bool (!b)) s') X.xe s := by
    refine wpAny_mono (run_own sb F hb hx I (.cons val_ref (.cons ry .nil)) h) (fun w s' q => ?_) fun _ _ z => z
    obtain ⟨z, H', I', rz, b, rfl, q⟩ := q
    cases rz
    exact ⟨b, rfl, .bl (!b), H', I', rfl, q⟩
  have one : wpAny (model X.prog X.w) X.A (tryCompare (.ref a) "__ne__" u) (fun r s' => ∃ v, r = some v ∧ EP X pins σ Q v s') X.xe s := by
    unfold tryCompare
    refine wpAny_bind (ne_here N I.kIn J (wpAny_call (codeAny_call_builtin PySem.F.slot_object_ne.plain PySem.F.cmpEntry_ne (PySem.W.check_slot PySem.F.cmpKind_ne PySem.F.cmpSplit_ne (J.type.andThen (PySem.W.looks_mroIn I.kIn N.up)) (PySem.F.cmpArgs_ne _ _) ?_))))
    unfold Builtin.«object.__ne__»
    refine wpAny_bind (m := slotArgs "__ne__" 1 _) (wpAny_pure ?_)
    refine wpAny_bind (wpAny_cRoomFor sb.room.units0 ?_)
    refine wpAny_bind (m := callSpecialIfBound? (.ref a) (Str.ofString "__eq__") [u]) (PySem.W.ifBound_K I.kIn J M.at_ M.fn (wpAny_mono back (fun r s' q => ?_) fun _ _ z => z))
    obtain ⟨b, rfl, q⟩ := q
    exact wpAny_bind (wpAny_truthy_bool (wpAny_pure (wpAny_pure ⟨_, rfl, q⟩)))
  obtain ⟨tb, hT, hn⟩ : ∃ tb, PySem.W.Looks (model X.prog X.w) s.heap (typeOf u) tb ∧ (tb = .ref C ∨ tb = .type "str") := by
    cases oth with
    | str z =>
      obtain ⟨t, rfl⟩ := ry
      exact ⟨_, .of_pure rfl, .inr rfl⟩
    | ins hb2 =>
      cases ry
      obtain ⟨mB, J', _⟩ := ins_get I.hok hb2
      obtain ⟨od', J', _⟩ := J'.look
      exact ⟨_, J'.type, .inl rfl⟩
  show wpAny (model X.prog X.w) X.A (richCompare .NotEq (.ref a) u) (EP X pins σ Q) X.xe s
  unfold richCompare
  simp only [oneThing_ref]
  refine wpAny_holding (wpAny_bind (wpAny_cRoomFor (hr.mono (Nat.le_succ n)).units0 ?_))
  refine wpAny_bind (J.type.here (wpAny_bind (hT.here ?_)))
  rcases hn with rfl | rfl
  · rw [if_neg (by simp)]
    refine wpAny_bind (wpAny_pure ?_)
    simp only [Bool.false_eq_true, if_false]
    refine wpAny_bind (wpAny_mono one (fun r s' ⟨v, e, q⟩ => ?_) fun _ _ z => z)
    subst e
    exact wpAny_pure q
  · rw [if_pos (by rfl)]
    refine wpAny_bind ((PySem.W.looks_subIn I.kIn hs).here ?_)
    simp only [Bool.false_eq_true, if_false]
    refine wpAny_bind (wpAny_mono one (fun r s' ⟨v, e, q⟩ => ?_) fun _ _ z => z)
    subst e
    exact wpAny_pure q
end

/-! ### the iteration over an object of an own class whose __iter__ gives the iterator of a field -/
/-- the same heap, with n empty places behind it -/
def pad (h : Heap) (n : Nat) : Heap := { h with objs := h.objs ++ Array.replicate n ⟨.none, none, .freed, #[]⟩ }
theorem pad_size (h : Heap) (n : Nat) : (pad h n).objs.size = h.objs.size + n := by simp [pad]
theorem pad_get (h : Heap) (n : Nat) (b : Addr) : (pad h n).get? b = h.get? b := by
  unfold Heap.get? pad
  by_cases hb : b < h.objs.size
  · rw [Array.getElem?_append_left hb]
  · rw [Array.getElem?_append_right (Nat.le_of_not_lt hb), Array.getElem?_eq_none (Nat.le_of_not_lt hb), Array.getElem?_replicate]
    by_cases h2 : b - h.objs.size < n
    · rw [if_pos h2]
    · rw [if_neg h2]
theorem pad_mod {K : PySem.W.Frag} {mg : Str → Option Value} {h : Heap} (n : Nat) (m : Mod K mg h) : Mod K mg (pad h n) := by
  have k : ∀ b o, h.get? b = some o → (pad h n).get? b = some o := fun b o e => (pad_get h n b).trans e
  obtain ⟨mb, h1, h2⟩ := m.blt
  exact ⟨m.kin.keeps k, m.glob.keeps k, ⟨mb, h1.keeps k, h2⟩, m.nolimit.keeps k⟩
theorem pad_funs {h base : Heap} (n : Nat) : ∀ {l : List Env}, h.FunFrames base l → h.FunFrames (pad base n) l
  | [], _ => trivial
  | _ :: _, ⟨hk, ⟨L, o, hf, hn, ho, hd⟩, hr⟩ => ⟨hk, ⟨L, o, hf, (pad_get base n L).trans hn, ho, hd⟩, pad_funs n hr⟩
/-- iterators as they are tracked -/
def ItSO (it : Addr) (x : Str) : HO := .ext fun h => ∃ ty t, (ty = "str_ascii_iterator" ∨ ty = "str_iterator") ∧ h.IsStrIter it ty x t 0
def ItTO (it l : Addr) : HO := .ext fun h => h.IsTupleIter it l 0
theorem itSO_ok {P : Program} {w : World} {H : Hp} {h : Heap} {it : Addr} {x : Str} (e : ∃ ty t, (ty = "str_ascii_iterator" ∨ ty = "str_iterator") ∧ h.IsStrIter it ty x t 0) : ObjOk P w H h it (ItSO it x) := by
  refine ⟨e, ?_, ?_⟩
  · obtain ⟨ty, t, _, o, ho, _⟩ := e
    exact ⟨o, ho⟩
  · rintro h1 h2 ⟨ty, t, hy, o, ho, r⟩ k
    exact ⟨ty, t, hy, o, k o ho, r⟩
theorem itTO_ok {P : Program} {w : World} {H : Hp} {h : Heap} {it l : Addr} (e : h.IsTupleIter it l 0) : ObjOk P w H h it (ItTO it l) := by
  refine ⟨e, ?_, ?_⟩
  · obtain ⟨o, ho, _⟩ := e
    exact ⟨o, ho⟩
  · rintro h1 h2 ⟨o, ho, r⟩ k
    exact ⟨o, k o ho, r⟩
section
variable {X : Cx}
def rIterS (n : Nat) : List V → Hp → VK → Prop := fun xs H Q => ∃ x : Str, xs = [.str x] ∧ ∀ it, H it = none → n ≤ it → Q (.ref it) (upd H it (ItSO it x))
def rIterT (K : PySem.W.Frag) (n : Nat) : List V → Hp → VK → Prop := fun xs H Q => ∃ (l : Addr) (zs : List V), xs = [.ref l] ∧ SqT K H l zs ∧ ∀ it, H it = none → n ≤ it → Q (.ref it) (upd H it (ItTO it l))
theorem iter_call {M : Model} {prog : Program} {w : World} {A : Around} {E : Value → Shared → Prop} {s : Shared} {v : Value} {Q : Value → Shared → Prop} (h : wpAny (model prog w) A.in1 (pyIter v) Q E s) : wpAny (model prog w) A (call (.builtin "iter") [v]) Q E s := by
  refine Calls.call_function_entry (by decide +kernel) (by decide +kernel) PySem.W.kdk_entry_iter (PySem.W.kdk_args_iter _) ?_
  unfold Builtin.«iter»
  refine wpAny_bind (m := someArgs "iter" 1 2 _) (wpAny_of_eq (a := [v]) (by first | rfl | kernel_rfl!) ?_)
  show wpAny _ _ (pyIter v >>= _) _ _ _
  exact wpAny_bind (wpAny_mono h (fun r s' q => wpAny_pure ⟨_, rfl, q⟩) fun _ _ z => z)
theorem call_iterS : CallR X (.builtin "iter") (rIterS X.base.objs.size) := by
  intro pins s σ H xs us Q I r h
  obtain ⟨x, rfl, q⟩ := h
  obtain ⟨u, rfl, ru⟩ := r.one
  obtain ⟨t, rfl⟩ := ru
  have nb : X.base.objs.size ≤ s.heap.objs.size := Nat.le_trans I.ok.bsz I.sz
  refine iter_call (M := model X.prog X.w) ?_
  cases ha : x.cps.all (· < 128)
  · exact wpAny_pyIter_wide ha ⟨.ref s.heap.objs.size, _, I.laid (t' := s.toks) (fun b o e => Heap.get?_push_of_some _ e) (Nat.le_refl _) (itSO_ok ⟨_, t, .inr rfl, _, Heap.get?_push_size _ rfl, rfl, rfl⟩), rfl, q _ (I.hok.fresh (Nat.le_refl _)) nb⟩
  · exact wpAny_pyIter_ascii ha ⟨.ref s.heap.objs.size, _, I.laid (t' := s.toks) (fun b o e => Heap.get?_push_of_some _ e) (Nat.le_refl _) (itSO_ok ⟨_, t, .inl rfl, _, Heap.get?_push_size _ rfl, rfl, rfl⟩), rfl, q _ (I.hok.fresh (Nat.le_refl _)) nb⟩
theorem call_iterT : CallR X (.builtin "iter") (rIterT X.K X.base.objs.size) := by
  intro pins s σ H xs us Q I r h
  obtain ⟨l, zs, rfl, hq, q⟩ := h
  obtain ⟨u, rfl, ru⟩ := r.one
  cases ru
  have nb : X.base.objs.size ≤ s.heap.objs.size := Nat.le_trans I.ok.bsz I.sz
  obtain ⟨its, rv, pl, hz⟩ := I.tuple hq
  refine iter_call (M := model X.prog X.w) ?_
  exact wpAny_pyIter_tuple (show s.heap.IsTuple l its.toArray from pl) ⟨.ref s.heap.objs.size, _, I.laid (t' := s.toks) (fun b o e => Heap.get?_push_of_some _ e) (Nat.le_refl _) (itTO_ok ⟨_, Heap.get?_push_size _ rfl, rfl, rfl⟩), rfl, q _ (I.hok.fresh (Nat.le_refl _)) nb⟩
end
section
variable {X : Cx} {pins : List (Addr × Obj)} {σ : L2.St} {H : Hp} {s : Shared} {CX : CXT} {n : Nat} {f C : Addr} {fd : FuncData} {ps : List Str} {sp : Nat → Sp} {E : XK} {vs : List V} {us : List Value} {Q : VK} {A1 : Around}
/-- run_own at a base as large as the heap that stands -/
theorem run_pad (sb : Sub X n A1) (F : ∀ base : Heap, FnOk X.prog X.w X.K X.mg base CX n f fd ps (sp base.objs.size)) (hb : L2.Binds X.K fd ps []) (hx : Passes CX X E) (I : Inv X pins σ H s) (r : Vals vs us) (h : sp s.heap.objs.size vs H Q E) :
    wpAny (model X.prog X.w) A1 (call (.ref f) us) (EP X pins σ Q) X.xe s := by
  have e := I.env0
  have hz : X.base.objs.size ≤ s.heap.objs.size := e.bsz
  have F' := F (pad X.base (s.heap.objs.size - X.base.objs.size))
  rw [pad_size, Nat.add_sub_cancel' hz] at F'
  have e0 : Env0 X.prog X.w X.K X.mg (pad X.base (s.heap.objs.size - X.base.objs.size)) A1 X.stack s H :=
    ⟨sb.fr.trans e.frames, pad_mod _ e.mod, fun b o q => e.bs b o ((pad_get _ _ b).symm.trans q), by rw [pad_size, Nat.add_sub_cancel' hz]; exact Nat.le_refl _, pad_funs _ e.funs, e.frf, e.hok, e.bare⟩
  have hl : us.length = ps.length := r.length.symm.trans (F'.len _ _ _ _ h)
  have bd := hb s us I.kIn (by rw [List.append_nil]; exact hl)
  rw [List.append_nil] at bd
  refine wpAny_call (codeAny_mono (F'.run A1 X.stack s H ⟨us, []⟩ us vs Q E sb.room e0 bd r h) fun res s' hq => ?_)
  cases res with
  | error er => exact hx pins σ H s er s' I hq
  | ok fl =>
    cases fl with
    | ret w => exact I.after hq
    | next => exact hq.elim
    | brk => exact hq.elim
    | cont => exact hq.elim
/-- the promise of such an __iter__, over a text | a tuple in the field fld -/
def spItS (C : Addr) (fld : Str) (n : Nat) : Sp := fun vs H Q _ => ∃ (a dx : Addr) (fs : List (Str × V)) (x : Str), vs = [.ref a] ∧ H a = some (.ins C dx fs) ∧ fs.lookup fld = some (.str x) ∧ ∀ it, H it = none → n ≤ it → Q (.ref it) (upd H it (ItSO it x))
def spItT (K : PySem.W.Frag) (C : Addr) (fld : Str) (n : Nat) : Sp := fun vs H Q _ => ∃ (a dx l : Addr) (fs : List (Str × V)) (zs : List V), vs = [.ref a] ∧ H a = some (.ins C dx fs) ∧ fs.lookup fld = some (.ref l) ∧ SqT K H l zs ∧ ∀ it, H it = none → n ≤ it → Q (.ref it) (upd H it (ItTO it l))
theorem drop_upd {H : Hp} {a : Addr} {o : HO} (h : H a = none) : dropH (upd H a o) a = H := by
  funext b
  by_cases hb : b = a
  · rw [hb, dropH_same, h]
  · rw [dropH_ne hb, upd_ne hb]
/-- the walk's start, over a text -/
theorem pit_S {tg : Expr} {R : It → Hp → Prop} {a dx : Addr} {fs : List (Str × V)} {fld : Str} {x : Str} (M : OwnM X.K C "__iter__" f) (hr : Room n X.A) (F : ∀ base : Heap, FnOk X.prog X.w X.K X.mg base CX n f fd ps (spItS C fld base.objs.size)) (hb : L2.Binds X.K fd ps []) (hx : Passes CX X E)
    (I : Inv X pins σ H s) (ha : H a = some (.ins C dx fs)) (hl : fs.lookup fld = some (.str x)) (hR : R (Its x) H) : wpAny (model X.prog X.w) X.A (pyIter (.ref a)) (PIE X pins σ tg R) X.xe s := by
  obtain ⟨mA, J, _⟩ := ins_get I.hok ha
  obtain ⟨od, J, _⟩ := J.look
  obtain ⟨m, hF⟩ := I.fr
  refine PySem.W.owit_iter hF I.ok.mod.kin J M.at_ M.fn (wpAny_mono (run_pad (⟨hr, rfl⟩ : Sub X n X.A) F hb hx I (.cons val_ref .nil) (Q := fun v H' => ∃ it, v = .ref it ∧ H it = none ∧ s.heap.objs.size ≤ it ∧ H' = upd H it (ItSO it x)) ⟨a, dx, fs, x, rfl, ha, hl, fun it n1 n2 => ⟨it, rfl, n1, n2, rfl⟩⟩) (fun v s' q => ?_) fun _ _ z => z)
  obtain ⟨w, H', I', rw', it, rfl, hn, hz, rfl⟩ := q
  cases rw'
  have he : upd H it (ItSO it x) it = some (ItSO it x) := upd_same
  have he' := he
  unfold ItSO at he'
  obtain ⟨⟨ty, t, hy, st⟩, _⟩ : (∃ ty t, (ty = "str_ascii_iterator" ∨ ty = "str_iterator") ∧ s'.heap.IsStrIter it ty x t 0) ∧ _ := (show ObjOk X.prog X.w _ s'.heap it (ItSO it x) from I'.hok it _ he)
  have hT : s'.TypeIs (.ref it) ty := let ⟨o, ho, hc, _⟩ := st; ⟨o, ho, hc⟩
  have D := inv_drop I' he'
  rw [drop_upd hn] at D
  have fin : PIE X pins σ tg R (.ref it) s' := by
    refine ⟨it, [it], _, _, H, rfl, D, turn_str it x t ty hy, st, fun b hb2 => ?_, hR⟩
    have e1 : b = it := by simpa using hb2
    subst e1
    have q := inv_fp I' he (Nat.le_trans I.sz hz)
    rwa [drop_upd hn] at q
  unfold PySem.W.OwitIt
  rcases hy with rfl | rfl
  · exact wpAny_specialOf hT PySem.F.slot_str_ascii_iterator_next.lookup fin
  · exact wpAny_specialOf hT PySem.F.slot_str_iterator_next.lookup fin
/-- for x in e, [.. for x in e]: e an object whose text fld is walked -/
def iOwnS (C : Addr) (fld : Str) (te : TE) : TI := fun σ H R => te σ H fun v H1 => ∃ a dx fs x, v = .ref a ∧ H1 a = some (.ins C dx fs) ∧ fs.lookup fld = some (.str x) ∧ R (Its x) H1
theorem pi_ownS {tg e : Expr} {te : TE} {fld : Str} (M : OwnM X.K C "__iter__" f) (hr : Room n X.A) (F : ∀ base : Heap, FnOk X.prog X.w X.K X.mg base CX n f fd ps (spItS C fld base.objs.size)) (hb : L2.Binds X.K fd ps []) (hx : Passes CX X E) (he : PE X e te) : PI X tg e (iOwnS C fld te) := by
  refine ⟨fun pins s σ H R I h => ?_⟩
  refine thn (he.run pins s σ H _ I h) fun v s1 ⟨y, H1, I1, r1, a, dx, fs, x, ey, ha, hl, q⟩ => ?_
  subst ey
  cases r1
  exact pit_S M hr F hb hx I1 ha hl q
/-- the walk's start, over a tuple -/
theorem pit_T {tg : Expr} {R : It → Hp → Prop} {a dx : Addr} {fs : List (Str × V)} {fld : Str} {l : Addr} {zs : List V} (M : OwnM X.K C "__iter__" f) (hr : Room n X.A) (F : ∀ base : Heap, FnOk X.prog X.w X.K X.mg base CX n f fd ps (spItT X.K C fld base.objs.size)) (hb : L2.Binds X.K fd ps []) (hx : Passes CX X E)
    (I : Inv X pins σ H s) (ha : H a = some (.ins C dx fs)) (hl : fs.lookup fld = some (.ref l)) (hq : SqT X.K H l zs) (hR : R (Itt X.K l) H) : wpAny (model X.prog X.w) X.A (pyIter (.ref a)) (PIE X pins σ tg R) X.xe s := by
  obtain ⟨mA, J, _⟩ := ins_get I.hok ha
  obtain ⟨od, J, _⟩ := J.look
  obtain ⟨m, hF⟩ := I.fr
  refine PySem.W.owit_iter hF I.ok.mod.kin J M.at_ M.fn (wpAny_mono (run_pad (⟨hr, rfl⟩ : Sub X n X.A) F hb hx I (.cons val_ref .nil) (Q := fun v H' => ∃ it, v = .ref it ∧ H it = none ∧ s.heap.objs.size ≤ it ∧ H' = upd H it (ItTO it l)) ⟨a, dx, l, fs, zs, rfl, ha, hl, hq, fun it n1 n2 => ⟨it, rfl, n1, n2, rfl⟩⟩) (fun v s' q => ?_) fun _ _ z => z)
  obtain ⟨w, H', I', rw', it, rfl, hn, hz, rfl⟩ := q
  cases rw'
  have he : upd H it (ItTO it l) it = some (ItTO it l) := upd_same
  have he' := he
  unfold ItTO at he'
  obtain ⟨st, _⟩ : s'.heap.IsTupleIter it l 0 ∧ _ := (show ObjOk X.prog X.w _ s'.heap it (ItTO it l) from I'.hok it _ he)
  have hT : s'.TypeIs (.ref it) "tuple_iterator" := let ⟨o, ho, hc, _⟩ := st; ⟨o, ho, hc⟩
  have D := inv_drop I' he'
  rw [drop_upd hn] at D
  have fin : PIE X pins σ tg R (.ref it) s' := by
    refine ⟨it, [it], _, _, H, rfl, D, turn_tuple l it, st, fun b hb2 => ?_, hR⟩
    have e1 : b = it := by simpa using hb2
    subst e1
    have q := inv_fp I' he (Nat.le_trans I.sz hz)
    rwa [drop_upd hn] at q
  unfold PySem.W.OwitIt
  exact wpAny_specialOf hT PySem.F.slot_tuple_iterator_next.lookup fin
/-- the same, its tuple fld is walked -/
def iOwnT (K : PySem.W.Frag) (C : Addr) (fld : Str) (te : TE) : TI := fun σ H R => te σ H fun v H1 => ∃ a dx l fs zs, v = .ref a ∧ H1 a = some (.ins C dx fs) ∧ fs.lookup fld = some (.ref l) ∧ SqT K H1 l zs ∧ R (Itt K l) H1
theorem pi_ownT {tg e : Expr} {te : TE} {fld : Str} (M : OwnM X.K C "__iter__" f) (hr : Room n X.A) (F : ∀ base : Heap, FnOk X.prog X.w X.K X.mg base CX n f fd ps (spItT X.K C fld base.objs.size)) (hb : L2.Binds X.K fd ps []) (hx : Passes CX X E) (he : PE X e te) : PI X tg e (iOwnT X.K C fld te) := by
  refine ⟨fun pins s σ H R I h => ?_⟩
  refine thn (he.run pins s σ H _ I h) fun v s1 ⟨y, H1, I1, r1, a, dx, l, fs, zs, ey, ha, hl, hq, q⟩ => ?_
  subst ey
  cases r1
  exact pit_T M hr F hb hx I1 ha hl hq q
end

/-! ### list(text), list(o) of an object whose text is walked -/
def signs (x : Str) : List V := x.cps.toList.map fun c => V.str ⟨#[c]⟩
theorem signs_vals {x : Str} {acc : Array Value} (h : ItemsOf (SignAt x) acc x.cps.size) : Vals (signs x) acc.toList := by
  obtain ⟨hz, hp⟩ := h
  have gen : ∀ (cs : List Nat) (vs : List Value), cs.length = vs.length → (∀ (j : Nat) (v : Value), vs[j]? = some v → ∃ (c : Nat) (u : Tok), cs[j]? = some c ∧ v = Value.str ⟨#[c]⟩ u) → Vals (cs.map fun c => V.str ⟨#[c]⟩) vs := by
    intro cs
    induction cs with
    | nil =>
      intro vs hl _
      cases vs with
      | nil => exact .nil
      | cons v r => simp at hl
    | cons c r ih =>
      intro vs hl hv
      cases vs with
      | nil => simp at hl
      | cons v r2 =>
        obtain ⟨c', u, e1, e2⟩ := hv 0 v rfl
        have e3 : c = c' := by simpa using e1
        subst e3
        exact .cons ⟨u, e2⟩ (ih r2 (by simpa using hl) fun j w hj => by simpa using hv (j + 1) w (by simpa using hj))
  refine gen x.cps.toList acc.toList (by simpa using hz.symm) fun j v hj => ?_
  obtain ⟨c, u, e1, e2⟩ := hp j v (by simpa using hj)
  exact ⟨c, u, by simpa using e1, e2⟩
def rListStr : List V → Hp → VK → Prop := fun xs H Q => ∃ x : Str, xs = [.str x] ∧ x.length ≤ 1000 ∧ ∀ q, H q = none → Q (.ref q) (upd H q (.lst (signs x)))
theorem signs_len (x : Str) : (signs x).length = x.length := by simp [signs, Str.length]
section
variable {X : Cx}
theorem call_listStr (hc : X.calm = true) : CallR X (.type "list") rListStr := by
  intro pins s σ H xs us Q I r h
  obtain ⟨x, rfl, hx, q⟩ := h
  obtain ⟨u, rfl, ru⟩ := r.one
  obtain ⟨t, rfl⟩ := ru
  refine call_list_str (I.ok.hd hc) x t (fun h' tk acc c k e hi => ?_) (szl hx)
  refine ⟨.ref s.heap.objs.size, _, I.laid (t' := tk) (o := .lst (signs x)) k (Nat.le_refl _) ⟨by rw [signs_len]; exact szl hx, acc.toList, c, signs_vals hi, by simpa using e⟩, rfl, q _ (I.hok.fresh (Nat.le_refl _))⟩
end
section
variable {X : Cx} {pins : List (Addr × Obj)} {σ : L2.St} {H : Hp} {s : Shared} {CX CX' : CXT} {n n' : Nat} {f f' C : Addr} {fd fd' : FuncData} {ps ps' : List Str} {E E' : XK} {Q : VK} {A1 : Around} {fld : Str} {x : Str} {a dx : Addr} {fs : List (Str × V)}
/-- what an own __len__ says of an object with the field fld: its text's length -/
def spLenS (C : Addr) (fld : Str) : Sp := fun vs H Q _ => ∃ (a dx : Addr) (fs : List (Str × V)) (x : Str), vs = [.ref a] ∧ H a = some (.ins C dx fs) ∧ fs.lookup fld = some (.str x) ∧ x.length ≤ 1000 ∧ Q (.int x.length) H
theorem own_hint {EE : Value → Shared → Prop} (M : OwnM X.K C "__len__" f') (sb : Sub X (n' + 1) A1) (F : FnOk X.prog X.w X.K X.mg X.base CX0 n' f' fd' ps' (spLenS C fld)) (hb : L2.Binds X.K fd' ps' [])
    (I : Inv X pins σ H s) (ha : H a = some (.ins C dx fs)) (hl : fs.lookup fld = some (.str x)) (hz : x.length ≤ 1000) {R : Bool → Shared → Prop} (h : ∀ b s', Inv X pins σ H s' → R b s') : wpAny (model X.prog X.w) A1 (Builtin.List.listLengthHint (.ref a)) R EE s := by
  obtain ⟨mA, J, _⟩ := ins_get I.hok ha
  obtain ⟨od, J, _⟩ := J.look
  obtain ⟨m, hF⟩ := I.fr
  unfold Builtin.List.listLengthHint
  refine wpAny_bind (wpAny_bind (J.type.here ((PySem.W.looks_findIn I.kIn M.at_).here ?_)))
  refine PySem.W.KFB.if_not rfl ?_
  refine PySem.W.KFB.if_so rfl ?_
  refine wpAny_bind (wpAny_rule ?_)
  refine wpAny_bind (wpAny_attempt ?_)
  refine PySem.W.len_K hF I.ok.mod.kin J M.at_ M.fn (wpAny_mono (run_own0 sb.in1 F hb I (.cons val_ref .nil) (Q := fun v H' => v = .int x.length ∧ H' = H) ⟨a, dx, fs, x, rfl, ha, hl, hz, rfl, rfl⟩) (fun v s' q => ?_) fun _ _ z => z)
  obtain ⟨w, H', I', rw', rfl, rfl⟩ := q
  obtain ⟨t, rfl⟩ := rw'
  refine ⟨⟨by omega, by omega⟩, ?_⟩
  refine wpAny_bind (wpAny_pure ?_)
  refine PySem.W.KFB.if_not (by rw [Int.toNat_natCast]; exact notLongL (szl hz)) ?_
  exact wpAny_pure (h _ _ (I'.tok _))
/-- the items of the iterator at it go into the empty list at q -/
theorem own_fill {it q : Addr} {t : Tok} {ty : String} {Rs : Result → Shared → Prop} (hcalm : X.A.handled = none) (I : Inv X pins σ H s) (hq : H q = some (.lst [])) (fp : FpOk X pins H it) (hy : ty = "str_ascii_iterator" ∨ ty = "str_iterator") (st : s.heap.IsStrIter it ty x t 0) (hx : x.length ≤ 1000)
    (hA : A1.handled = none) (h : ∀ s', Inv X pins σ (upd H q (.lst (signs x))) s' → Rs (.ok (.ret .none)) s') : codeAny (model X.prog X.w) A1 (.builtin "list.extend.loop" ⟨[.ref q, .ref it, .none], []⟩) Rs s := by
  have hqi : q ≠ it := fun z => by
    have := fp.1
    rw [← z, hq] at this
    cases this
  obtain ⟨z, its, k, r, hl, e⟩ := I.lstM hq
  cases r
  have W : WalksS X.prog X.w A1.in1 it [it] [it] (fun a b => b = a) x.cps.size (SignAt x) (fun i s => s.heap.IsStrIter it ty x t i) := by
    rcases hy with rfl | rfl
    · exact (Walks.strAscii (A := A1.in1) hA it x t).toS
    · exact (Walks.strWide (A := A1.in1) hA it x t).toS
  have hn : x.cps.size ≤ sizeLine := szl hx
  refine codeAny_extend_loopS W hn q (fun z => hqi (List.mem_singleton.mp z)) .none x.cps.size 0 s #[] k rfl (Nat.zero_le _) st e (ItemsOf.nil _) fun s' acc c hm hS hacc => h s' ?_
  have es := Moved.eq_with hm
  obtain ⟨f0, f1, f2, f3, f4, f5⟩ := fp
  have o2 : ∀ b, b ≠ q → (s'.heap.update q fun _ => ({ cls := .type "list", data := .seq #[] k } : Obj)).get? b = s'.heap.get? b := fun b hb => Heap.get?_update_other s'.heap _ (Ne.symm hb)
  have oq : (s'.heap.update q fun _ => ({ cls := .type "list", data := .seq #[] k } : Obj)).get? q = some { cls := .type "list", data := .seq #[] k } := Heap.get?_update_self _ hS rfl
  have I2 : Inv X pins σ H { s with heap := s'.heap.update q fun _ => ({ cls := .type "list", data := .seq #[] k } : Obj), toks := s'.toks } := I.turned (it := it) (fun b o hb eb => by
    by_cases hbq : b = q
    · subst hbq
      rw [oq, ← eb]
      exact e.symm
    · rw [o2 b hbq]
      exact hm.heap b o (fun z => by
        rcases List.mem_cons.mp z with z | z
        · exact hbq z
        · exact hb (List.mem_singleton.mp z)) eb) f0 f1 f3 f4 f5
  have I3 := I2.write (x := q) (e := q) (h' := s'.heap) (o := .lst (signs x)) (t' := s'.toks) (by rw [hq]; exact trivial) (.inl rfl) (fun b u hb eb => (o2 b hb).symm.trans eb) ⟨_, hS⟩ ⟨by rw [signs_len]; exact szl hx, acc.toList, c, signs_vals hacc, by simpa using hS⟩
  rw [es]
  exact I3
/-- an empty list grown by one and cut again -/
theorem touch {EE : Value → Shared → Prop} {q : Addr} {R : Unit → Shared → Prop} (I : Inv X pins σ H s) (hq : H q = some (.lst [])) (h : ∀ s', Inv X pins σ H s' → R () s') : wpAny (model X.prog X.w) A1 (Builtin.List.listTouch (.ref q)) R EE s := by
  obtain ⟨z, its, k, r, hl, e⟩ := I.lstM hq
  cases r
  show wpAny _ _ (updateSeq q (·.push .none) >>= fun _ => updateSeq q (·.pop)) _ _ _
  refine wpAny_bind (wpAny_updateSeq e rfl ?_)
  have I2 := I.lset (f := (·.push Value.none)) (its' := [Value.none]) (ys := [.non]) (t' := s.toks) hq e (by simp) (.cons rfl .nil) (szl (by decide))
  obtain ⟨z4, its4, k4, r4, hl4, e4⟩ := I2.lstM upd_same
  obtain ⟨u4, rfl, ru4⟩ := r4.one
  refine wpAny_updateSeq e4 rfl ?_ (by show 1 ≤ sizeLine; exact szl (by decide)) (by show 0 ≤ sizeLine + 1; exact Nat.zero_le _)
  have I3 := I2.lset (f := (·.pop)) (its := [u4]) (its' := []) (ys := []) (t' := s.toks) upd_same e4 (by rfl) .nil (Nat.zero_le _)
  rw [upd_upd] at I3
  have hH : upd H q (.lst []) = H := by
    funext b
    by_cases hb : b = q
    · rw [hb, upd_same, hq]
    · rw [upd_ne hb]
  rw [hH] at I3
  exact h _ I3
def rListOwn (C : Addr) (fld : Str) : List V → Hp → VK → Prop := fun xs H Q => ∃ (a dx : Addr) (fs : List (Str × V)) (x : Str), xs = [.ref a] ∧ H a = some (.ins C dx fs) ∧ fs.lookup fld = some (.str x) ∧ x.length ≤ 1000 ∧ ∀ q, H q = none → Q (.ref q) (upd H q (.lst (signs x)))
theorem call_listOwnS (hcalm : X.calm = true) (MI : OwnM X.K C "__iter__" f) (ML : OwnM X.K C "__len__" f') (hr : Room (n + 3) X.A) (FI : ∀ base : Heap, FnOk X.prog X.w X.K X.mg base CX n f fd ps (spItS C fld base.objs.size)) (bI : L2.Binds X.K fd ps []) (xI : Passes CX X E)
    (FL : FnOk X.prog X.w X.K X.mg X.base CX0 n f' fd' ps' (spLenS C fld)) (bL : L2.Binds X.K fd' ps' []) : CallR X (.type "list") (rListOwn C fld) := by
  intro pins s σ H xs us Q I r h
  obtain ⟨a, dx, fs, x, rfl, ha, hl, hz, q0⟩ := h
  obtain ⟨u, rfl, ru⟩ := r.one
  cases ru
  have sb : Sub X (n + 1) X.A.in1.in1 := Sub.in1 (Sub.in1 (⟨hr, rfl⟩ : Sub X (n + 3) X.A))
  refine callType_codes (Q₁ := fun obj s₁ => obj = .ref s.heap.objs.size ∧ s₁ = { s with heap := s.heap.push { cls := .type "list", data := .seq #[] } }) PySem.F.called_list (PySem.F.typeCall_list_1 _) PySem.F.entry_list_init
    (code_list_new _ ⟨rfl, rfl⟩) fun obj s₁ h₁ => ?_
  obtain ⟨rfl, rfl⟩ := h₁
  have hS : (s.heap.push { cls := .type "list", data := .seq #[] }).get? s.heap.objs.size = some { cls := .type "list", data := .seq #[] } := Heap.get?_push_size _ rfl
  have fr : H s.heap.objs.size = none := I.hok.fresh (Nat.le_refl _)
  have q1 := q0 _ fr
  refine ⟨⟨_, hS, rfl⟩, PySem.F.args_list_init_2 _ _, ?_⟩
  have I1 : Inv X pins σ (upd H s.heap.objs.size (.lst [])) { s with heap := s.heap.push { cls := .type "list", data := .seq #[] } } := I.lnew (its := []) (t' := s.toks) .nil (Nat.zero_le _)
  have I2 := I1.lset (f := fun _ => #[]) (its := []) (its' := []) (ys := []) (t' := s.toks) upd_same hS rfl .nil (Nat.zero_le _)
  rw [upd_upd] at I2
  have ha2 : upd H s.heap.objs.size (.lst []) a = some (.ins C dx fs) := (upd_ne (ne_of_none ha fr)).trans ha
  show wpAny _ _ (Builtin.List.listItems (.ref s.heap.objs.size) >>= fun old => Builtin.List.listUpdate (.ref s.heap.objs.size) (fun _ => #[]) >>= fun _ => letGo old.toList.reverse >>= fun _ => Builtin.List.listExtendWith (.ref s.heap.objs.size) (.ref a) .none) _ _ _
  refine wpAny_bind ?_
  unfold Builtin.List.listItems
  refine wpAny_bind (wpAny_seqItems hS rfl (wpAny_pure (wpAny_bind ?_)))
  show wpAny _ _ (updateSeq s.heap.objs.size (fun _ => #[])) _ _ _
  refine wpAny_updateSeq hS rfl (wpAny_bind (wpAny_letGo ?_))
  clear hS I1
  revert I2
  generalize hs2 : ({ s with heap := (s.heap.push { cls := .type "list", data := .seq #[] }).update s.heap.objs.size (Obj.mapSeq fun _ => #[]) } : Shared) = s2
  intro I2
  generalize s.heap.objs.size = q at *
  clear hs2
  have hqa : q ≠ a := ne_of upd_same ha2 (fun z => nomatch z)
  obtain ⟨mA, J, _⟩ := ins_get I2.hok ha2
  obtain ⟨od, J, _⟩ := J.look
  obtain ⟨m, hF⟩ := I2.fr
  unfold Builtin.List.listExtendWith
  refine wpAny_bind (J.type.here ?_)
  have z1 : Builtin.List.listSameRef (.ref q) (.ref a) = false := by simp [Builtin.List.listSameRef, hqa]
  simp only [z1, show (Value.ref C == Value.type "list") = false from rfl, show (Value.ref C == Value.type "tuple") = false from rfl, Bool.or_false, Bool.false_eq_true, if_false]
  refine wpAny_bind (PySem.W.owit_iter hF I2.ok.mod.kin J MI.at_ MI.fn (wpAny_mono (run_pad (sb.mono (Nat.le_succ n)) FI bI xI I2 (.cons val_ref .nil) (Q := fun v H' => ∃ it, v = .ref it ∧ upd H q (.lst []) it = none ∧ s2.heap.objs.size ≤ it ∧ H' = upd (upd H q (.lst [])) it (ItSO it x)) ⟨a, dx, fs, x, rfl, ha2, hl, fun it n1 n2 => ⟨it, rfl, n1, n2, rfl⟩⟩) (fun v s' q' => ?_) fun _ _ z => z))
  obtain ⟨w, H', I3, rw', it, rfl, hn, hsz, rfl⟩ := q'
  cases rw'
  have ha3 : upd (upd H q (.lst [])) it (ItSO it x) a = some (.ins C dx fs) := (upd_ne (ne_of_none ha2 hn)).trans ha2
  -- behind the iterator's making: its length is asked, then the items go in
  have last : ∀ s4, Inv X pins σ (upd (upd H q (.lst [])) it (ItSO it x)) s4 → codeAny (model X.prog X.w) X.A.in1 (.builtin "list.extend.loop" ⟨[.ref q, .ref it, .none], []⟩) (wants (fun r s₂ => r = Value.none ∧ EP X pins σ Q (Value.ref q) s₂) X.xe) s4 := fun s4 I4 => by
    have he : upd (upd H q (.lst [])) it (ItSO it x) it = some (ItSO it x) := upd_same
    have he' := he
    unfold ItSO at he'
    obtain ⟨⟨ty, t, hy, st⟩, _⟩ : (∃ ty t, (ty = "str_ascii_iterator" ∨ ty = "str_iterator") ∧ s4.heap.IsStrIter it ty x t 0) ∧ _ := (show ObjOk X.prog X.w _ s4.heap it (ItSO it x) from I4.hok it _ he)
    have D := inv_drop I4 he'
    rw [drop_upd hn] at D
    have fp := inv_fp I4 he (Nat.le_trans I2.sz hsz)
    rw [drop_upd hn] at fp
    refine own_fill (I.ok.hd hcalm) D upd_same fp hy st hz (I.ok.hd hcalm) fun s5 I5 => ⟨rfl, .ref q, _, I5, rfl, ?_⟩
    rw [upd_upd]
    exact q1
  have hT : ∃ ty : String, s'.TypeIs (.ref it) ty ∧ (ty = "str_ascii_iterator" ∨ ty = "str_iterator") := by
    obtain ⟨⟨ty, t, hy, o, ho, hc, _⟩, _⟩ : (∃ ty t, (ty = "str_ascii_iterator" ∨ ty = "str_iterator") ∧ s'.heap.IsStrIter it ty x t 0) ∧ _ := (show ObjOk X.prog X.w _ s'.heap it (ItSO it x) from I3.hok it _ upd_same)
    exact ⟨ty, ⟨o, ho, hc⟩, hy⟩
  have quiet : ∀ args, (Code.builtin "list.extend.loop" args).quiet = true := fun args => plainId_quiet PySem.F.plain_extend_loop _
  unfold PySem.W.OwitIt
  obtain ⟨ty, hT, hy⟩ := hT
  have qit : q ≠ it := fun z => by
    rw [← z, upd_same] at hn
    cases hn
  have eq0 : upd (upd H q (.lst [])) it (ItSO it x) q = some (.lst []) := (upd_ne qit).trans upd_same
  rcases hy with rfl | rfl
  · refine wpAny_specialOf hT PySem.F.slot_str_ascii_iterator_next.lookup ?_
    show wpAny _ _ (holding [Value.ref it] (Builtin.List.listLengthHint (.ref a)) >>= _) _ _ _
    refine wpAny_bind (wpAny_holding (own_hint ML sb FL bL I3 ha3 hl hz fun b s4 I4 => ?_))
    refine wpAny_ite_split (fun _ => ?_) (fun _ => wpAny_pure ⟨quiet _, last s4 I4⟩)
    exact wpAny_bind (wpAny_rule (wpAny_bind (touch I4 eq0 fun s5 I5 => wpAny_pure ⟨quiet _, last s5 I5⟩)))
  · refine wpAny_specialOf hT PySem.F.slot_str_iterator_next.lookup ?_
    show wpAny _ _ (holding [Value.ref it] (Builtin.List.listLengthHint (.ref a)) >>= _) _ _ _
    refine wpAny_bind (wpAny_holding (own_hint ML sb FL bL I3 ha3 hl hz fun b s4 I4 => ?_))
    refine wpAny_ite_split (fun _ => ?_) (fun _ => wpAny_pure ⟨quiet _, last s4 I4⟩)
    exact wpAny_bind (wpAny_rule (wpAny_bind (touch I4 eq0 fun s5 I5 => wpAny_pure ⟨quiet _, last s5 I5⟩)))
end

/-! ### text[::-1] -/
theorem ssi_rev (n : Nat) : PySem.Builtin.Str.strSliceIndices none none (-1) n = (List.range n).reverse := by
  show sliceRange ((n : Int) - 1) (-1) (-1) = _
  rw [PySem.W.krv_sliceRange, PySem.W.krv_range]
theorem sOf_rev (l : List Nat) : (⟨((List.range (sOf l).length).reverse.filterMap ((sOf l).cps[·]?)).toArray⟩ : Str) = sOf l.reverse := by
  rw [List.filterMap_reverse]
  show (⟨(List.filterMap ((sOf l).cps[·]?) (List.range (sOf l).cps.size)).reverse.toArray⟩ : Str) = _
  rw [PySem.W.krv_all]
  simp [sOf]
def tRevS (te : TE) : TE := fun σ H Q => te σ H fun x H1 => ∃ l : List Nat, x = .str (sOf l) ∧ l.length ≤ 1000 ∧ Q (.str (sOf l.reverse)) H1
theorem pe_revS {X : Cx} {e : Expr} {te : TE} {k : Nat} {p1 p2 p3 pos : Pos} (he : PE X e te) : PE X (.Subscript e (.Slice none none (some (.UnaryOp .USub (.Constant (.int 1) k p1) p2)) p3) pos) (tRevS te) := by
  refine ⟨fun pins s σ H Q I h => ?_⟩
  refine Subscript_ (thn (he.run pins s σ H _ I h) fun v s1 ⟨x, H1, I1, r1, q1⟩ => ?_)
  obtain ⟨l, ex, hz, q⟩ := q1
  subst ex
  obtain ⟨t, rfl⟩ := r1
  have hst : PO X (some (.UnaryOp .USub (.Constant (.int 1) k p1) p2)) (tPart (tUn (rU fun i => .int (-i)) (tC (.int 1)))) := po_some (pe_un un_neg pe_int)
  refine wpAny_Slice (thn (po_none.run pins s1 σ H1 (fun o H2 => o = none ∧ H2 = H1) I1 ⟨rfl, rfl⟩) fun vl s2 ⟨lo, H2, I2, pl, el, e2⟩ => ?_)
  subst el e2
  refine thn (po_none.run pins s2 σ H2 (fun o H3 => o = none ∧ H3 = H2) I2 ⟨rfl, rfl⟩) fun vu s3 ⟨u, H3, I3, pu, eu, e3⟩ => ?_
  subst eu e3
  refine thn (hst.run pins s3 σ H3 (fun o H4 => o = some (-1) ∧ H4 = H3) I3 ⟨1, rfl, -1, rfl, rfl, rfl⟩) fun vs s4 ⟨o, H4, I4, ps, eo, e4⟩ => ?_
  subst eo e4
  have I5 : Inv X pins σ H4 { s4 with heap := s4.heap.push { cls := .type "slice", data := .fields #[vl, vu, vs] } } := I4.kept (t' := s4.toks) fun b ob q => Heap.get?_push_of_some _ q
  show wpAny (model X.prog X.w) X.A (subscriptTail e (.Slice none none (some (.UnaryOp .USub (.Constant (.int 1) k p1) p2)) p3) (.str (sOf l) t) (.ref s4.heap.objs.size)) (EP X pins σ Q) X.xe { s4 with heap := s4.heap.push { cls := .type "slice", data := .fields #[vl, vu, vs] } }
  obtain ⟨a1, rfl, f1⟩ := IsPart.raw pl
  obtain ⟨a2, rfl, f2⟩ := IsPart.raw pu
  obtain ⟨a3, rfl, f3⟩ := IsPart.raw ps
  refine tail_any (T := "str") (ops := [.ref s4.heap.objs.size, .str (sOf l) t]) (typeIs_str _ _ _) (F.slot_str_getitem.lookup) ?_ (by with_unfolding_all rfl)
  refine wpAny_getItem_str_slice (l := a1) (u := a2) (st := a3) ⟨_, Heap.get?_push_size _ rfl, rfl, rfl⟩ (by rw [f3]; rfl) ?_
  have hp : slicePicked (sOf l) a1 a2 a3 = (List.range (sOf l).length).reverse := by
    unfold slicePicked
    rw [f1, f2, f3]
    exact ssi_rev _
  unfold sliceMade
  rw [f3, hp, if_neg (by simp), sOf_rev]
  exact ⟨by rw [sOf_len, List.length_reverse]; exact szl hz, .str _, H4, I5.tok _, ⟨_, rfl⟩, q⟩

/-! ### the making of an object within a try: the wish looks at the slots -/
section
variable {X : Cx} {CX : CXT} {n : Nat} {f C : Addr} {fd : FuncData} {ps : List Str} {sp : Sp} {E : L2.St → XK} {x : Str} {p pos : Pos} {e : Expr} {es : List Expr} {t : TA}
theorem makeS_run {E : XK} {Q : VK} {us : List Value} {vs : List V} {pins : List (Addr × Obj)} {σ : L2.St} {H : Hp} {s : Shared} (M : Mk X.K C f) (F : FnOk X.prog X.w X.K X.mg X.base CX n f fd ps sp) (room : Room (n + 1) X.A) (hb : L2.Binds X.K fd ps [])
    (esc : PassesAt CX X σ E) (J : L2.Inv X pins σ H s) (rs : Vals vs us) (h : ∀ y dy, H y = none → H dy = none → dy ≠ y → sp (.ref y :: vs) (L2.upd (L2.upd H dy (.own y)) y (.ins C dy [])) (fun v H2 => v = .non ∧ Q (.ref y) H2) E) :
    wpAny (model X.prog X.w) X.A (call (.ref C) us) (EP X pins σ Q) X.xe s := by
  generalize hn : s.heap.objs.size = k
  have wish := h (k + 1) k (J.hok.fresh (hn ▸ Nat.le_succ _)) (J.hok.fresh (hn ▸ Nat.le_refl _)) (Nat.ne_of_lt (Nat.lt_succ_self k))
  subst hn
  have J2 := L2.Inv.made (C := C) J
  have rs2 : Vals (V.ref (s.heap.objs.size + 1) :: vs) (Value.ref (s.heap.objs.size + 1) :: us) := .cons val_ref rs
  have many : (Value.ref (s.heap.objs.size + 1) :: us ++ []).length = ps.length := by
    rw [List.append_nil, ← F.len _ _ _ _ wish]
    exact rs2.length.symm
  have bd := hb _ (Value.ref (s.heap.objs.size + 1) :: us) J2.kIn many
  rw [List.append_nil] at bd
  refine wpAny_call (make_map (f := f) J.kIn M.makes M.init (beq_iff_eq.mp M.fn) (codeAny_mono (F.run _ X.stack _ _ ⟨_ :: us, []⟩ _ _ _ E (room.make C us []) (J2.env0.make C us []) bd rs2 wish) fun res s' post => ?_))
  cases res with
  | error er => exact esc pins _ _ er s' J2 post
  | ok fl =>
    cases fl with
    | ret u =>
      obtain ⟨v, H', J3, rv, ev, w⟩ := J2.after post
      subst ev
      exact ⟨rv, ⟨V.ref (s.heap.objs.size + 1), H', J3, val_ref, w⟩⟩
    | next => exact post.elim
    | brk => exact post.elim
    | cont => exact post.elim
def tMakeS (C : Addr) (sp : Sp) (E : L2.St → XK) (t : TA) : TE := fun σ H Q => t σ H fun vs H1 => ∀ y dy, H1 y = none → H1 dy = none → dy ≠ y → sp (.ref y :: vs) (L2.upd (L2.upd H1 dy (.own y)) y (.ins C dy [])) (fun v H2 => v = .non ∧ Q (.ref y) H2) (E σ)
theorem pe_makeS (M : Mk X.K C f) (F : FnOk X.prog X.w X.K X.mg X.base CX n f fd ps sp) (room : Room (n + 1) X.A) (hg : Gl X x) (hm : X.mg x = some (.ref C)) (hb : L2.Binds X.K fd ps []) (esc : ∀ σ, PassesAt CX X σ (E σ)) (ha : PA X (e :: es) t)
    (hdb : (x == ("__debug__" : Str)) = false := by decide) (he : starEach (e :: es) X.env = (false, eval e X.env) :: starEach es X.env := by rfl) (hpl : (backTo pos (starEach es X.env)).any (·.1) = false := by rfl) : PE X (.Call (.Name x p) (e :: es) [] pos) (tMakeS C sp E t) := by
  refine ⟨fun pins s σ H Q J h => wpAny_Call_Name_kw (ld_glob J hg hm ?_ hdb)⟩
  exact PySem.W.callWith_K (h₀ := X.base) J.ok.mod.kin M.kp (thn (ha.run pos pins s σ H _ J h) fun us s1 ⟨vs, H1, J1, r, q⟩ => ⟨J1.kIn, makeS_run M F room hb (esc σ) J1 r q⟩) he hpl
end
theorem pe_fldK {X : Cx} {K : PySem.W.Frag} {e : Expr} {fld : Str} {pos : Pos} {ta : TE} (hK : X.K = K) (he : PE X e ta) (hb : attributeBase e fld X.env (eval e X.env) = eval e X.env) : PE X (.Attribute e fld pos) (tFld K ta fld) := hK ▸ pe_fld he hb
/-! the call of a method whose exceptions meet a wish that looks at the slots -/
def tMethW (C : Addr) (m : Str) (sp : Sp) (E : L2.St → XK) (ta : TE) (t : TA) : TE := fun σ H Q => ta σ H fun y H1 => ∃ b dy gs, y = .ref b ∧ H1 b = some (.ins C dy gs) ∧ gs.lookup m = none ∧ t σ H1 fun ws H2 => sp (y :: ws) H2 Q (E σ)
section
variable {X : Cx} {CX : CXT} {n : Nat} {f C : Addr} {fd : FuncData} {ps : List Str} {sp : Sp} {E : L2.St → XK} {m : Str} {apos pos : Pos} {o e : Expr} {es : List Expr} {ta : TE} {t : TA}
theorem pe_methW {pl : Sem Bool} (obj : PE X o ta) (c : Cls X.K C) (M : Meth X.K C m f) (F : FnOk X.prog X.w X.K X.mg X.base CX n f fd ps sp) (room : Room n X.A) (hb : L2.Binds X.K fd ps []) (esc : ∀ σ, PassesAt CX X σ (E σ)) (ha : PA X (e :: es) t)
    (hst : starEach (e :: es) X.env = (false, eval e X.env) :: starEach es X.env := by rfl) (hpl : (backTo pos (starEach es X.env)).any (·.1) = false := by rfl)
    (ht : eval (.Call (.Attribute o m apos) (e :: es) [] pos) X.env = (do let y ← eval o X.env; standAt apos.atName; let (g, first) ← holding [y] (getMethod y m pl); callWith pos g first (backTo pos (starEach (e :: es) X.env)) (backToKw pos (keywordEach [] X.env))) := by rfl) :
    PE X (.Call (.Attribute o m apos) (e :: es) [] pos) (tMethW C m sp E ta t) := by
  refine ⟨fun pins s σ H Q J h => PySem.W.methodCall_KW (pl := pl) (thn (obj.run pins s σ H _ J h) fun u s1 ⟨y, H1, J1, ru, b, dy, gs, ey, eb, lk, q⟩ => ?_) ht⟩
  subst ey
  cases ru
  refine getmeth_ok J1 eb c M lk (PySem.W.callWith_K (first := [.ref b]) (h₀ := X.base) J.ok.mod.kin M.kp (thn (ha.run pos pins s1 σ H1 _ J1 q) fun us s2 ⟨ws, H2, J2, r, q2⟩ => ⟨J2.kIn, ?_⟩) hst hpl)
  exact run_fnS (us := .ref b :: us) (vs := .ref b :: ws) F room hb (esc σ) J2 (.cons val_ref r) q2
/-- within a def that may raise: what a callee lets out is let out -/
theorem passUp {X : Cx} {E : XK} (tk : Takes X (fun cls d _ H => E cls d H)) : Passes (L2.CX X.prog X.w) X E := passW tk (fun _ _ _ _ _ h => h)
end

/-! ### deep comparisons of texts -/
theorem strOk_of {l : List Nat} (h : ∀ c ∈ l, c < 1114112) : PyData.strOk (sOf l) = true := by
  unfold PyData.strOk sOf
  simpa using h
def signD (l : List Nat) : List PyData := l.map fun c => PyData.str (sOf [c])
theorem signs_sOf (l : List Nat) : signs (sOf l) = l.map fun c => V.str (sOf [c]) := by
  simp [signs, sOf]
theorem dp_strs {K : PySem.W.Frag} {H : Hp} : ∀ l : List Str, DpAll K H (l.map V.str) (l.map PyData.str)
  | [] => .nil
  | x :: r => .cons (.str x) (dp_strs r)
theorem dp_signs {K : PySem.W.Frag} {H : Hp} (l : List Nat) : DpAll K H (signs (sOf l)) (signD l) := by
  have h := dp_strs (K := K) (H := H) (l.map fun c => sOf [c])
  rw [List.map_map, List.map_map] at h
  rw [signs_sOf]
  exact h
theorem lay_strs : ∀ l : List Str, PyData.canLayAll0 (l.map PyData.str) = l.all PyData.strOk
  | [] => rfl
  | x :: r => by simp [PyData.canLayAll0, PyData.canLay0, lay_strs r]
theorem deep_strs : ∀ l : List Str, PyData.depthAll (l.map PyData.str) = 0
  | [] => rfl
  | x :: r => by simp [PyData.depthAll, PyData.depth, deep_strs r]
theorem eqv_strs : ∀ a b : List Str, PyData.eqvAll (a.map PyData.str) (b.map PyData.str) = decide (a = b)
  | [], [] => by simp [PyData.eqvAll]
  | [], _ :: _ => by simp [PyData.eqvAll]
  | _ :: _, [] => by simp [PyData.eqvAll]
  | x :: r, y :: t => by
    simp only [List.map_cons, PyData.eqvAll, PyData.eqv, eqv_strs r t]
    by_cases h : x = y <;> by_cases h' : r = t <;> simp [h, h']
theorem shaped_signs {l : List Nat} (h : ∀ c ∈ l, c < 1114112) : SeqAt.shaped (.list (signD l)) = true := by
  have e : signD l = (l.map fun c => sOf [c]).map PyData.str := by rw [List.map_map]; rfl
  have k : (l.map fun c => sOf [c]).all PyData.strOk = true := by
    rw [List.all_map, List.all_eq_true]
    intro c hc
    exact strOk_of fun d hd => by rw [List.mem_singleton] at hd; rw [hd]; exact h c hc
  rw [e]
  unfold SeqAt.shaped
  rw [PyData.canLay0, lay_strs, k, PyData.depth, deep_strs]
  rfl
theorem eqv_signs (a b : List Nat) : PyData.eqv (.list (signD a)) (.list (signD b)) = decide (a = b) := by
  have e : ∀ l : List Nat, signD l = (l.map fun c => sOf [c]).map PyData.str := fun l => by rw [List.map_map]; rfl
  rw [e, e, PyData.eqv, eqv_strs]
  refine decide_eq_decide.mpr ⟨fun h => ?_, fun h => by rw [h]⟩
  have := congrArg (List.map fun s : Str => s.cps.toList.headD 0) h
  rw [List.map_map, List.map_map] at this
  have hid : ((fun s : Str => s.cps.toList.headD 0) ∘ fun c => sOf [c]) = id := rfl
  rwa [hid, List.map_id, List.map_id] at this
theorem good_codes {l : List Nat} {n : Nat} (g : Good l n) : ∀ c ∈ l, c < 1114112 := fun c hc => by
  rcases g.ltr c hc with e | e <;> omega
/-- a pair of texts -/
theorem shaped_pair {a b : List Nat} (ha : ∀ c ∈ a, c < 1114112) (hb : ∀ c ∈ b, c < 1114112) : SeqAt.shaped (.tuple [.str (sOf a), .str (sOf b)]) = true := by
  simp [SeqAt.shaped, PyData.canLay0, PyData.canLayAll0, PyData.depth, PyData.depthAll, strOk_of ha, strOk_of hb]
theorem eqv_pair (a b c d : List Nat) : PyData.eqv (.tuple [.str (sOf a), .str (sOf b)]) (.tuple [.str (sOf c), .str (sOf d)]) = (decide (a = c) && decide (b = d)) := by
  rw [PyData.eqv, PyData.eqvAll, PyData.eqvAll, PyData.eqvAll, PyData.eqv, PyData.eqv, Bool.and_true]
  have h : ∀ x y : List Nat, (sOf x == sOf y) = decide (x = y) := fun x y => by
    by_cases e : x = y
    · simp [e]
    · rw [beq_eq_false_iff_ne.mpr fun z => e (sOf_inj.mp z), decide_eq_false e]
  rw [h, h]

/-! ### facts of classes -/
theorem cls_in {K : PySem.W.Frag} {C : Addr} {t : Value} {b : Bool} (h2 : PySem.W.isClsIn K C = true) (h3 : PySem.W.typeIn K (.ref C) = some (.type "type")) (h4 : PySem.W.subIn K t (.ref C) = some b) : PySem.W.kitCls K t (.ref C) = some b := by
  have e : (PySem.W.clsIn K C).isSome = true := h2
  unfold PySem.W.kitCls
  simp only []
  rw [e, h3, h4]
  rfl
theorem exm_of {K : PySem.W.Frag} {S B : Addr} (h1 : PySem.W.subIn K (.ref B) (.type "BaseException") = some true) (h2 : PySem.W.isClsIn K B = true) (h3 : PySem.W.typeIn K (.ref B) = some (.type "type")) (h4 : PySem.W.subIn K (.ref S) (.ref B) = some true) : PySem.W.exmOne K (.ref S) (.ref B) = some true := by
  unfold PySem.W.exmOne
  rw [h1, cls_in h2 h3 h4]
  rfl
theorem kit_self {K : PySem.W.Frag} {t : Value} : PySem.W.kitOne K t t = some true := by
  unfold PySem.W.kitOne
  rw [if_pos (by simp)]
theorem kit_own {K : PySem.W.Frag} {C : Addr} {T : String} {b : Bool} (h2 : PySem.W.isClsIn K C = true) (h3 : PySem.W.typeIn K (.ref C) = some (.type "type")) (h4 : PySem.W.subIn K (.type T) (.ref C) = some b) : PySem.W.kitOne K (.type T) (.ref C) = some b := by
  unfold PySem.W.kitOne
  rw [if_neg (by simp), cls_in h2 h3 h4]
theorem kit_kind {K : PySem.W.Frag} {C : Addr} {T : String} {b : Bool} (hm : PySem.W.kitMeta T = true) (h4 : PySem.W.subIn K (.ref C) (.type T) = some b) : PySem.W.kitOne K (.ref C) (.type T) = some b := by
  unfold PySem.W.kitOne
  rw [if_neg (by simp)]
  unfold PySem.W.kitCls
  simp only []
  rw [if_pos hm, h4]
theorem any_hd {K : PySem.W.Frag} {t c : Value} {r : List Value} (h : PySem.W.kitOne K t c = some true) : PySem.W.kitAny K t (c :: r) = some true := by
  unfold PySem.W.kitAny
  rw [h]
theorem any_tl {K : PySem.W.Frag} {t c : Value} {r : List Value} {b : Bool} (h : PySem.W.kitOne K t c = some false) (k : PySem.W.kitAny K t r = some b) : PySem.W.kitAny K t (c :: r) = some b := by
  unfold PySem.W.kitAny
  rw [h]
  exact k
theorem any_nil {K : PySem.W.Frag} {t : Value} : PySem.W.kitAny K t [] = some false := rfl

/-! ### word_fault -/
def wWord : List Nat := [119, 111, 114, 100]
def wCount : List Nat := [99, 111, 117, 110, 116]
def wBelow : List Nat := [98, 101, 108, 111, 119]
def ltrs (l : List Nat) : Bool := l.all fun c => c == 100 || c == 111
def lowAt (l : List Nat) (k : Nat) : Bool := decide ((l.take k).count 100 < (l.take k).count 111)
def wfault (l : List Nat) : Option (List Nat) :=
  if 2 ≤ l.length ∧ l.length ≤ 12 then if ltrs l = true then if l.count 100 = l.count 111 then if (List.range l.length).any (lowAt l) = true then some wBelow else none else some wCount else some wWord else some wWord
def optV : Option (List Nat) → V
  | none => .non
  | some l => .str (sOf l)

/-! ### the law's own judge of words -/
def ht (l : List Nat) (k : Nat) : Int := ((l.take k).count 100 : Int) - (l.take k).count 111
theorem ht_zero (l : List Nat) : ht l 0 = 0 := by simp [ht]
theorem cnt_zero (l : List Nat) (c : Nat) : (((l.take 0).count c : Nat) : Int) = 0 := by simp
theorem ht_succ {l : List Nat} {i c : Nat} (h : l[i]? = some c) : ht l (i + 1) = ht l i + (if c = 100 then 1 else 0) - (if c = 111 then 1 else 0) := by
  unfold ht
  rw [List.take_add_one, h]
  show (((l.take i ++ [c]).count 100 : Nat) : Int) - ((l.take i ++ [c]).count 111 : Nat) = _
  rw [List.count_append, List.count_append, count_sign, count_sign]
  split <;> split <;> omega
/-- low is the least height so far, at most 0 -/
structure LowIs (l : List Nat) (i : Nat) (low : Int) : Prop where
  nonpos : low ≤ 0
  least : ∀ k, k ≤ i → low ≤ ht l k
  some_ : low = 0 ∨ ∃ k, k ≤ i ∧ low = ht l k
theorem LowIs.next {l : List Nat} {i : Nat} {low z : Int} (h : LowIs l i low) (hz : z = ht l (i + 1)) : LowIs l (i + 1) (if z < low then z else low) := by
  subst hz
  have n := h.nonpos
  refine ⟨by split <;> omega, fun k hk => ?_, ?_⟩
  · by_cases hk2 : k ≤ i
    · have := h.least k hk2
      split <;> omega
    · obtain rfl : k = i + 1 := by omega
      split <;> omega
  · split
    · exact .inr ⟨i + 1, Nat.le_refl _, rfl⟩
    · rcases h.some_ with e | ⟨k, hk, e⟩
      · exact .inl e
      · exact .inr ⟨k, by omega, e⟩
theorem LowIs.fault {l : List Nat} {low : Int} (h : LowIs l l.length low) (h0 : ht l l.length = 0) : (List.range l.length).any (lowAt l) = true ↔ low < 0 := by
  rw [List.any_eq_true]
  constructor
  · rintro ⟨k, hk, e⟩
    have := h.least k (Nat.le_of_lt (List.mem_range.mp hk))
    have e2 := of_decide_eq_true e
    unfold ht at this
    omega
  · intro hl
    rcases h.some_ with e | ⟨k, hk, e⟩
    · omega
    · by_cases hk2 : k < l.length
      · exact ⟨k, List.mem_range.mpr hk2, decide_eq_true (by unfold ht at e; omega)⟩
      · obtain rfl : k = l.length := by omega
        omega

theorem good_fault {l : List Nat} {n : Nat} (g : Good l n) (h1 : 1 ≤ n) (h6 : n ≤ 6) : wfault l = none := by
  have hl := g.len
  have hc := g.cnt
  have ht := ltr_count g.ltr
  unfold wfault
  rw [if_pos ⟨by omega, by omega⟩, if_pos, if_pos (by omega), if_neg]
  · rw [List.any_eq_true]
    rintro ⟨k, hk, e⟩
    have := g.ahead k (Nat.le_of_lt (List.mem_range.mp hk))
    have := of_decide_eq_true e
    omega
  · unfold ltrs
    rw [List.all_eq_true]
    intro c hc2
    rcases g.ltr c hc2 with e | e <;> subst e <;> rfl

/-! ### heights -/
def htsI (l : List Nat) (i : Nat) : List Int := (List.range (i + 1)).map (ht l)
theorem htsI_succ (l : List Nat) (i : Nat) : htsI l (i + 1) = htsI l i ++ [ht l (i + 1)] := by
  unfold htsI
  rw [List.range_succ, List.map_append]
  rfl
theorem htsI_len (l : List Nat) (i : Nat) : (htsI l i).length = i + 1 := by simp [htsI]
theorem htsI_last (l : List Nat) (i : Nat) : ∃ r, htsI l i = r ++ [ht l i] := by
  unfold htsI
  rw [List.range_succ, List.map_append]
  exact ⟨_, rfl⟩
theorem atI_last {α : Type} (r : List α) (x : α) : atI (r ++ [x]) (-1) = some x := by
  unfold atI ixN
  rw [if_neg (by decide)]
  have h1 : (r ++ [x]).length = r.length + 1 := by simp
  rw [h1, if_pos (by omega)]
  have h2 : ((-1 : Int) + ((r.length + 1 : Nat) : Int)).toNat = r.length := by omega
  rw [h2]
  simp
def vI (xs : List Int) : List V := xs.map V.int
theorem vI_app (a b : List Int) : vI (a ++ b) = vI a ++ vI b := List.map_append
theorem vI_last (l : List Nat) (i : Nat) : atI (vI (htsI l i)) (-1) = some (.int (ht l i)) := by
  obtain ⟨r, e⟩ := htsI_last l i
  rw [e, vI_app]
  exact atI_last _ _
theorem ht_step {l : List Nat} {i c : Nat} (h : l[i]? = some c) (hc : c = 100 ∨ c = 111) : ht l i + (if c = 100 then 1 else -1) = ht l (i + 1) := by
  rw [ht_succ h]
  rcases hc with e | e <;> subst e <;> simp <;> omega
theorem join_signsS : ∀ l : List Nat, Str.join (sOf []) (l.map fun c => sOf [c]) = sOf l
  | [] => rfl
  | [c] => rfl
  | c :: d :: r => by
    have ih := join_signsS (d :: r)
    rw [List.map_cons] at ih
    rw [List.map_cons, List.map_cons, Str.join, ih, sOf_app, sOf_app]
    · rfl
    · exact fun z => nomatch z
theorem join_signs (l : List Nat) : Txt.join (sOf []) (l.map fun c => sOf [c]) = sOf l := (TL.join_eq _ _).trans (join_signsS l)
theorem sum_signs (l : List Nat) : ((l.map fun c => sOf [c]).map (·.length)).sum = l.length := by
  induction l with
  | nil => rfl
  | cons c r ih =>
    rw [List.map_cons, List.map_cons, List.sum_cons, ih, sOf_len, List.length_cons, List.length_cons]
    show 1 + _ = _
    omega
theorem cutN_len (l : List Nat) (lo hi : Option Int) : (cutN l lo hi).length ≤ l.length := by
  unfold cutN
  rw [List.length_take, List.length_drop]
  omega

/-! ### C.m(..), m a static method of the class C -/
structure SMet (K : PySem.W.Frag) (C : Addr) (mc : Value) (m : Str) (p g : Addr) : Prop where
  found : PySem.W.findCls K (.ref C) mc m = some (.get (.builtin "staticmethod.__get__") (.ref p) .none (.ref C))
  held : ∃ rest, PySem.W.recIn K p "staticmethod" = some (.ref g :: rest)
  kept : PySem.W.keepIn K (.ref g) = true
section
variable {X : Cx} {pins : List (Addr × Obj)} {σ : L2.St} {H : Hp} {s : Shared} {C p g : Addr} {mc : Value} {m : Str} {A : Around} {E : Value → Shared → Prop} {pl : Sem Bool}
theorem getstat_ok {Q : Value × List Value → Shared → Prop} (J : L2.Inv X pins σ H s) (r : ClX.CRead X.K C mc) (M : SMet X.K C mc m p g) (h : ∀ s', L2.Inv X pins σ H s' → Q (.ref g, []) s') : wpAny (model X.prog X.w) A (getMethod (.ref C) m pl) Q E s := by
  obtain ⟨rest, hp⟩ := M.held
  exact PySem.W.method_cls J.kIn r.ga (PySem.W.cls_bind J.kIn r.rd M.found (wpAny_call (PySem.W.sm_get (s := { s with toks := s.toks + 1 }) J.kIn hp (PySem.W.handed_on rfl (h _ (J.tok _))))))
end
def tStat (C : Addr) (sp : Sp) (E : XK) (ta : TE) (t : TA) : TE := fun σ H Q => ta σ H fun x H1 => x = .ref C ∧ t σ H1 fun vs H2 => sp vs H2 Q E
section
variable {X : Cx} {CX : CXT} {n : Nat} {C p g : Addr} {mc : Value} {fd : FuncData} {ps : List Str} {sp : Sp} {E : XK} {m : Str} {apos pos : Pos} {o e : Expr} {es : List Expr} {ta : TE} {t : TA}
theorem pe_stat {pl : Sem Bool} (cls : PE X o ta) (r : ClX.CRead X.K C mc) (M : SMet X.K C mc m p g) (F : FnOk X.prog X.w X.K X.mg X.base CX n g fd ps sp) (room : Room n X.A) (hb : L2.Binds X.K fd ps []) (esc : Passes CX X E) (ha : PA X (e :: es) t)
    (hst : starEach (e :: es) X.env = (false, eval e X.env) :: starEach es X.env := by rfl) (hpl : (backTo pos (starEach es X.env)).any (·.1) = false := by rfl)
    (ht : eval (.Call (.Attribute o m apos) (e :: es) [] pos) X.env = (do let y ← eval o X.env; standAt apos.atName; let (g, first) ← holding [y] (getMethod y m pl); callWith pos g first (backTo pos (starEach (e :: es) X.env)) (backToKw pos (keywordEach [] X.env))) := by rfl) :
    PE X (.Call (.Attribute o m apos) (e :: es) [] pos) (tStat C sp E ta t) := by
  refine ⟨fun pins s σ H Q J h => PySem.W.methodCall_KW (pl := pl) (thn (cls.run pins s σ H _ J h) fun u s1 ⟨y, H1, J1, ru, ey, q⟩ => ?_) ht⟩
  subst ey
  cases ru
  refine getstat_ok J1 r M fun s2 J2 => PySem.W.callWith_K (first := []) (h₀ := X.base) J.ok.mod.kin M.kept (thn (ha.run pos pins s2 σ H1 _ J2 q) fun us s3 ⟨ws, H2, J3, rw', q2⟩ => ⟨J3.kIn, ?_⟩) hst hpl
  exact run_fn (us := us) (vs := ws) (dvs := []) (ds := []) F room hb .nil esc J3 rw' (by rw [List.append_nil]; exact q2)
end

/-! ### enumerate(tuple) -/
set_option maxHeartbeats 1000000 in
theorem enum_newT (l : Addr) (items : Array Value) (n : Nat) (dct : Option Addr) (sl : Array (Option Value)) :
    Meets (PySem.Builtin.«enumerate.__new__» ⟨[.type "enumerate", .ref l], []⟩) (fun _ R s => s.heap.get? l = some { cls := .type "tuple", dict := dct, data := .seq items n, slots := sl } ∧
      R (.ok (.ret (.ref (s.heap.push { cls := .type "tuple_iterator", data := .fields #[.ref l, .int 0 0] }).objs.size))) { s with heap := (s.heap.push { cls := .type "tuple_iterator", data := .fields #[.ref l, .int 0 0] }).push { cls := .type "enumerate", data := .fields #[.none, .bool false, .ref s.heap.objs.size, rawInt 0, .none, .none] } }) :=
  .of_wp fun prog w A R s h => by
    obtain ⟨hp, g, dr, tk, os⟩ := s
    obtain ⟨there, post⟩ := h
    have hsub := sub_enumerate
    have hT : Heap.IsTuple (Shared.heap ⟨hp, g, dr, tk, os⟩) l items := ⟨_, there, rfl, n, rfl⟩
    wp_walk using AutoSeq1.wpAny_loadPart' there
    refine wpAny_stack_any fun st => wpAny_pure ?_
    split
    · rename_i c _ _ _ _ _
      cases (c == Value.type "enumerate")
      · wp_walk using AutoSeq1.wpAny_loadPart' there, wpAny_pyIter_tuple hT
        exact ⟨_, rfl, post⟩
      · wp_walk using AutoSeq1.wpAny_loadPart' there, wpAny_pyIter_tuple hT
        exact ⟨_, rfl, post⟩
    · wp_walk using AutoSeq1.wpAny_loadPart' there, wpAny_pyIter_tuple hT
      exact ⟨_, rfl, post⟩
theorem call_enumT {prog : Program} {w : World} {A : Around} {E : Value → Shared → Prop} {s : Shared} {l : Addr} {items : Array Value} {Q : Value → Shared → Prop} (hT : s.heap.IsTuple l items)
    (h : ∀ h', IsEnum h' (s.heap.objs.size + 1) s.heap.objs.size 0 .none → h'.IsTupleIter s.heap.objs.size l 0 → (∀ b o, s.heap.get? b = some o → h'.get? b = some o) → Q (.ref (s.heap.objs.size + 1)) { s with heap := h' }) :
    wpAny (model prog w) A (call (.type "enumerate") [.ref l]) Q E s := by
  obtain ⟨⟨c, dct, dt, sl⟩, there, hc, n, hd⟩ := hT
  cases (show c = .type "tuple" from hc)
  cases (show dt = .seq items n from hd)
  refine callType_new F.called_enumerate (by decide) (F.typeCall_enumerate_1 _) (F.newCall_enumerate_1 _) (fun obj => F.args_object_init_2 obj _) F.entry_enumerate_new (enum_newT l items n dct sl) ⟨there, ?_⟩
  have z1 : (s.heap.push { cls := .type "tuple_iterator", data := .fields #[.ref l, .int 0 0] }).objs.size = s.heap.objs.size + 1 := Heap.size_push ..
  show _ ∧ _
  rw [z1]
  have at2 := Heap.get?_push_size (s.heap.push { cls := .type "tuple_iterator", data := .fields #[.ref l, .int 0 0] }) (o := { cls := .type "enumerate", data := .fields #[.none, .bool false, .ref s.heap.objs.size, rawInt 0, .none, .none] }) rfl
  rw [z1] at at2
  exact ⟨⟨_, at2, rfl⟩, h _ at2 ⟨_, Heap.get?_push_of_some _ (Heap.get?_push_size _ rfl), rfl, rfl⟩ fun b o x => Heap.get?_push_of_some _ (Heap.get?_push_of_some _ x)⟩
/-- the tuple at a as it stands at each turn, each item in a new pair -/
def IteT (K : PySem.W.Frag) (a : Addr) : It :=
  ⟨fun i H => ∃ (xs : List V) (x : V), SqT K H a xs ∧ xs[i]? = some x, fun i H v H' => ∃ T x, v = .ref T ∧ H T = none ∧ H' = L2.upd H T (.tup [.int (i : Nat), x]) ∧ (∀ ys, SqT K H a ys → ys[i]? = some x), fun i H => ∃ xs : List V, SqT K H a xs ∧ xs.length ≤ i⟩
theorem tup_ne {h : Heap} {l it : Addr} {xs : Array Value} {n : Nat} (p : h.IsTuple l xs) (q : h.IsTupleIter it l n) : l ≠ it := fun z => by
  obtain ⟨o, e, c, _⟩ := p
  obtain ⟨o2, e2, c2, _⟩ := q
  rw [z, e2] at e
  cases e
  exact absurd (Value.type.inj (c2.symm.trans c)) (by decide)
theorem tup_ne2 {h : Heap} {l en it : Addr} {xs : Array Value} {i : Int} {old : Value} (p : h.IsTuple l xs) (q : IsEnum h en it i old) : en ≠ l := fun z => by
  obtain ⟨o, e, c, _⟩ := p
  have q' : h.get? en = some _ := q
  rw [z, e] at q'
  cases q'
  exact absurd (Value.type.inj c) (by decide)
theorem turn_enumT {P : Program} {w : World} {K : PySem.W.Frag} {elts : List Expr} {kk : Nat} {tpos : Pos} (a e it : Addr) :
    Turn P w K (.Tuple elts kk tpos) (IteT K a) [e, it] e (fun i h => (∃ old, IsEnum h e it ((i : Nat) : Int) old) ∧ h.IsTupleIter it a i ∧ e ≠ it) where
  mem := by simp
  obj := fun i h ⟨⟨old, he⟩, ⟨o, ho, hc, hd⟩, _⟩ b hb => by
    rcases (show b = e ∨ b = it by simpa using hb) with z | z
    · rw [z]
      exact ⟨_, he, fun v q => nomatch q⟩
    · rw [z]
      exact ⟨o, ho, fun v q => by rw [hd] at q; cases q⟩
  keep := fun i h h' ⟨⟨old, he⟩, hi, ne⟩ k => ⟨⟨old, k e (by simp) _ he⟩, hi.at fun o q => k it (by simp) o q, ne⟩
  item := by
    intro X hP hw hK calm i pins s σ H E I hf ⟨⟨old, he⟩, hit, ne⟩ ⟨xs, x, hq, hx⟩
    subst hP hw hK
    obtain ⟨its, rv, p, hz⟩ := I.tuple hq
    have pt : s.heap.IsTuple a its.toArray := p
    obtain ⟨u, hu, ru⟩ := rv.get hx
    have hlt : i < its.toArray.size := by
      have := List.getElem?_eq_some_iff.mp hu
      obtain ⟨h1, _⟩ := this
      simpa using h1
    have el := Heap.lt_size he
    have il : it < s.heap.objs.size := by obtain ⟨_, q, _⟩ := hit; exact Heap.lt_size q
    have D := PySem.Draws.tuple (prog := X.prog) (w := X.w) (A := X.A.in1) (I.ok.hd calm) it a (tup_ne pt hit) its.toArray
    refine wpAny_pyNext_enum_itemD D he ⟨hit, pt⟩ hlt ne (by simp [ne, tup_ne2 pt he]) fun v h' tk hv ho ⟨hit', pt'⟩ hT hsz hk => ?_
    obtain rfl : u = v := by
      rw [List.getElem?_toArray, hu] at hv
      exact Option.some.inj hv
    refine ⟨_, rfl, wpAny_letOwnedTupleGo_enum (s := { s with heap := h', toks := tk + 1 }) ho fun h2 he2 sb => ?_⟩
    have hT2 : h2.get? s.heap.objs.size = some { cls := .type "tuple", data := .seq #[.int i tk, u] } := (sb.2 _ (Nat.ne_of_gt el)).trans hT
    have new : ObjOk X.prog X.w (L2.upd H s.heap.objs.size (.tup [.int (i : Nat), x])) h2 s.heap.objs.size (.tup [.int (i : Nat), x]) :=
      ⟨by show 2 ≤ sizeLine; decide, [.int i tk, u], .cons ⟨_, rfl⟩ (.cons ru .nil), ⟨_, hT2, rfl, _, rfl⟩⟩
    have I1 : L2.Inv X pins σ (L2.upd H s.heap.objs.size (.tup [.int (i : Nat), x])) { s with heap := h2, toks := tk + 1 } :=
      I.turnedNew (ch := [e, it]) (fun b ob hb q => (sb.2 b (fun z => hb (by simp [z]))).trans (hk b ob (fun z => hb (by simp [z])) (fun z => hb (by simp [z])) q)) hf (Nat.le_refl _) new
    refine ⟨.ref s.heap.objs.size, _, I1, rfl, ⟨_, x, rfl, I.hok.fresh (Nat.le_refl _), rfl, fun ys hy => by rw [I.tuple_inj hy hq]; exact hx⟩, ⟨⟨u, ?_⟩, hit'.at fun o q => (sb.2 it (Ne.symm ne)).trans q, ne⟩, fun b hb => ?_⟩
    · rw [show ((i + 1 : Nat) : Int) = (i : Int) + 1 by omega]
      exact he2
    · have lt : b < s.heap.objs.size := by
        rcases (show b = e ∨ b = it by simpa using hb) with z | z
        · exact z ▸ el
        · exact z ▸ il
      exact (upd_ne (Nat.ne_of_lt lt)).trans (hf b hb).1
  done := by
    intro X hP hw hK calm i pins s σ H E I hf ⟨⟨old, he⟩, hit, ne⟩ ⟨xs, hq, hx⟩
    subst hP hw hK
    obtain ⟨its, rv, p, hz⟩ := I.tuple hq
    have pt : s.heap.IsTuple a its.toArray := p
    obtain ⟨f0, f1, f2, f3, f4, f5⟩ := hf it (by simp)
    have many := rv.length
    have eT : s.TypeIs (.ref e) "enumerate" := ⟨_, he, rfl⟩
    unfold pyNext
    refine wpAny_bind (wpAny_attempt (wpAny_callSpecial?_slot (name := Str.ofString "__next__") eT F.slot_enumerate_next (wpAny_call_entry F.slot_enumerate_next eT F.entry_enumerate_next ?_ (F.args_enumerate_next_1 _))))
    show wpAny _ _ (field (.ref e) 2 >>= _) _ _ _
    refine wpAny_bind (wpAny_field he rfl (x := .ref it) rfl (wpAny_bind (PySem.wpAny_nextOf_tuple_end (I.ok.hd calm) hit pt (by simp; omega) fun h' er eb ⟨o, ho, hc⟩ => ?_)))
    exact wpAny_bind (wpAny_isInstance (T := "StopIteration") (b := true) ⟨o, ho, hc⟩ isSubtype_stop (wpAny_pure ⟨rfl, I.turned (t' := s.toks) (fun b o hb q => eb b o hb q) f0 f1 f3 f4 f5⟩))
  self := fun A i s Q E ⟨⟨_, he⟩, _⟩ h => wpAny_pyIter_enum he h
/-- enumerate(e), e a list or a tuple -/
def iEnumQ (K : PySem.W.Frag) (ta : TA) : TI := fun σ H R => ta σ H fun vs H1 => ∃ a xs, vs = [.ref a] ∧ ((SqL K H1 a xs ∧ R (Ite K a) H1) ∨ (SqT K H1 a xs ∧ R (IteT K a) H1))
theorem pi_enumQ {X : Cx} {K : PySem.W.Frag} {e : Expr} {ta : TA} {p pos tpos : Pos} {elts : List Expr} {kk : Nat} (hK : X.K = K) (hg : Gl X "enumerate") (hm : X.mg "enumerate" = none) (ha : PA X [e] ta) (hs : starEach [e] X.env = [(false, eval e X.env)] := by rfl) :
    PI X (.Tuple elts kk tpos) (.Call (.Name "enumerate" p) [e] [] pos) (iEnumQ K ta) := by
  subst hK
  refine ⟨fun pins s σ H R I h => Call_ (ld_blt I hg hm boot_enumerate (PyProof.Rows.callWith_type1 (thn (ha.run pos pins s σ H _ I h) fun us s1 ⟨vs, H1, I1, r1, a, xs, ex, q⟩ => ?_) hs rfl))⟩
  subst ex
  obtain ⟨u, rfl, ru⟩ := r1.one
  cases ru
  have foot : ∀ b, b ∈ [s1.heap.objs.size + 1, s1.heap.objs.size] → FpOk X pins H1 b := fun b hb => by
    have le : s1.heap.objs.size ≤ b := by
      rcases (show b = s1.heap.objs.size + 1 ∨ b = s1.heap.objs.size by simpa using hb) with z | z
      · exact z ▸ Nat.le_succ _
      · exact z ▸ Nat.le_refl _
    exact I1.fpOk le (I1.hok.fresh le)
  rcases q with ⟨hq, q⟩ | ⟨hq, q⟩
  · obtain ⟨its, rv, p', hz⟩ := I1.list hq
    exact call_enumerate_list p'.isList fun h' he hit hsz hk => wpAny_pyIter_enum he ⟨_, _, _, _, H1, rfl, I1.kept (t' := s1.toks) hk, turn_enum a (s1.heap.objs.size + 1) s1.heap.objs.size, ⟨⟨.none, he⟩, hit, Nat.succ_ne_self _⟩, foot, q⟩
  · obtain ⟨its, rv, p', hz⟩ := I1.tuple hq
    exact call_enumT (show s1.heap.IsTuple a its.toArray from p') fun h' he hit hk => wpAny_pyIter_enum he ⟨_, _, _, _, H1, rfl, I1.kept (t' := s1.toks) hk, turn_enumT a (s1.heap.objs.size + 1) s1.heap.objs.size, ⟨⟨.none, he⟩, hit, Nat.succ_ne_self _⟩, foot, q⟩
theorem walk_enumT {K : PySem.W.Frag} {a : Addr} {xs : List V} : Walk (IteT K a) xs.length (fun H => SqT K H a xs) (YPair (fun i => some (.int (i : Nat))) (fun i => xs[i]?)) := by
  refine ⟨fun i _ hi q => ⟨xs, xs[i], q, by simp [hi]⟩, fun _ q => ⟨xs, q, Nat.le_refl _⟩, fun i H v H' _ q y => ?_⟩
  obtain ⟨T, x, e1, e2, e3, e4⟩ := y
  exact ⟨T, .int (i : Nat), x, e1, e2, e3, rfl, e4 xs q⟩
/-- for x in e, e a list or a tuple -/
def iSeqQ (K : PySem.W.Frag) (te : TE) : TI := fun σ H R => te σ H fun v H1 => ∃ a xs, v = .ref a ∧ ((SqL K H1 a xs ∧ R (Itl K a) H1) ∨ (SqT K H1 a xs ∧ R (Itt K a) H1))
theorem pi_seqQ {X : Cx} {K : PySem.W.Frag} {tg e : Expr} {te : TE} (hK : X.K = K) (he : PE X e te) : PI X tg e (iSeqQ K te) := by
  subst hK
  refine ⟨fun pins s σ H R I h => thn (he.run pins s σ H _ I h) fun u s1 ⟨y, H1, I1, ru, a, xs, ey, q⟩ => ?_⟩
  subst ey
  cases ru
  have foot : ∀ b, b ∈ [s1.heap.objs.size] → FpOk X pins H1 b := fun b hb => by
    have z : b = s1.heap.objs.size := by simpa using hb
    rw [z]
    exact I1.fpOk (Nat.le_refl _) (I1.hok.fresh (Nat.le_refl _))
  rcases q with ⟨hq, q⟩ | ⟨hq, q⟩
  · obtain ⟨its, rv, p, hz⟩ := I1.list hq
    exact wpAny_pyIter_list p.isList ⟨_, _, _, _, H1, rfl, I1.kept (t' := s1.toks) fun b o k => Heap.get?_push_of_some _ k, turn_list a _, ⟨_, Heap.get?_push_size _ rfl, rfl, rfl⟩, foot, q⟩
  · obtain ⟨its, rv, p, hz⟩ := I1.tuple hq
    exact wpAny_pyIter_tuple (show s1.heap.IsTuple a its.toArray from p) ⟨_, _, _, _, H1, rfl, I1.kept (t' := s1.toks) fun b o k => Heap.get?_push_of_some _ k, turn_tuple a _, ⟨_, Heap.get?_push_size _ rfl, rfl, rfl⟩, foot, q⟩

/-! ### the making of exceptions with one, two fields -/
section
variable {K : PySem.W.Frag}
/-- the making of an exception with one field -/
def spE1 (K : PySem.W.Frag) (f : Str) : Sp := fun vs H Q _ => ∃ (a C : Addr) (v : V), vs = [.ref a, v] ∧ OexC K C ∧ PySem.W.findIn K (.ref C) f = some none ∧ H a = some (exo a C none) ∧
  ∀ dx, H dx = none → dx ≠ a → Q .non (upd (upd H dx (exd dx [(f, v)])) a (exo a C (some dx)))
/-- what raise C(v) asks, by its wish -/
theorem made1 {C : Addr} {f : Str} {v : V} {H : Hp} {Q : XK} (T : OexC K C) (hn : PySem.W.findIn K (.ref C) f = some none) (q : ∀ d H', Same H H' → H d = none → H' d = some (.xd [(f, v)]) → Q (.ref C) (some d) H') :
    [v].length ≤ 1000 ∧ ∀ a, H a = none → spE1 K f (.ref a :: ([v] ++ [])) (upd H a (exo a C none)) (fun v H2 => v = .non ∧ ∃ (d : Addr) (fs : List (Str × V)), H2 a = some (exo a C (some d)) ∧ H2 d = some (exd d fs) ∧ H d = none ∧ Q (.ref C) (some d) (upd (del H2 a) d (.xd fs))) (fun _ _ _ => False) := by
  refine ⟨(by show 1 ≤ 1000; decide), fun a na => ⟨a, C, v, rfl, T, hn, upd_same, fun dx n ne => ⟨rfl, dx, [(f, v)], upd_same, ?_, ?_, ?_⟩⟩⟩
  · rw [upd_ne ne, upd_same]
  · rw [upd_ne ne] at n
    exact n
  · rw [upd_ne ne] at n
    refine q dx _ (upd_del_same na n fun b o hb e => ?_) n upd_same
    rw [upd_ne hb, upd_ne (ne_of_none e n), upd_ne hb]
    exact e
/-- the making of an exception with two fields, f stored ahead of g -/
def spE2 (K : PySem.W.Frag) (f g : Str) : Sp := fun vs H Q _ => ∃ (a C : Addr) (v u : V), vs = [.ref a, v, u] ∧ OexC K C ∧ PySem.W.findIn K (.ref C) f = some none ∧ PySem.W.findIn K (.ref C) g = some none ∧ H a = some (exo a C none) ∧
  ∀ dx, H dx = none → dx ≠ a → Q .non (upd (upd (upd H dx (exd dx [(f, v)])) a (exo a C (some dx))) dx (exd dx [(g, u), (f, v)]))
theorem made2 {C : Addr} {f g : Str} {v u : V} {H : Hp} {Q : XK} (T : OexC K C) (hf : PySem.W.findIn K (.ref C) f = some none) (hg : PySem.W.findIn K (.ref C) g = some none) (q : ∀ d H', Same H H' → H d = none → H' d = some (.xd [(g, u), (f, v)]) → Q (.ref C) (some d) H') :
    [v, u].length ≤ 1000 ∧ ∀ a, H a = none → spE2 K f g (.ref a :: ([v, u] ++ [])) (upd H a (exo a C none)) (fun v H2 => v = .non ∧ ∃ (d : Addr) (fs : List (Str × V)), H2 a = some (exo a C (some d)) ∧ H2 d = some (exd d fs) ∧ H d = none ∧ Q (.ref C) (some d) (upd (del H2 a) d (.xd fs))) (fun _ _ _ => False) := by
  refine ⟨(by show 2 ≤ 1000; decide), fun a na => ⟨a, C, v, u, rfl, T, hf, hg, upd_same, fun dx n ne => ?_⟩⟩
  have n' : H dx = none := by
    rw [upd_ne ne] at n
    exact n
  refine ⟨rfl, dx, [(g, u), (f, v)], ?_, upd_same, n', q dx _ (upd_del_same na n' fun b o hb e => ?_) n' upd_same⟩
  · rw [upd_ne (Ne.symm ne), upd_same]
  · rw [upd_ne (ne_of_none e n'), upd_ne hb, upd_ne (ne_of_none e n'), upd_ne hb]
    exact e
end

/-! ### lists of new tuples, as data -/
theorem sqt_mono {K : PySem.W.Frag} {H H' : Hp} {a : Addr} {xs : List V} (e : Same H H') (h : SqT K H a xs) : SqT K H' a xs := by
  rcases h with (h | ⟨o, h⟩) | h
  · exact .inl (.inl (e _ _ h))
  · exact .inl (.inr ⟨o, e _ _ h⟩)
  · exact .inr h
mutual
theorem dp_mono {K : PySem.W.Frag} {H H' : Hp} (s : Same H H') : ∀ (d : PyData) (v : V), Dp K H v d → Dp K H' v d
  | .none, _, h => by cases h; exact .non
  | .bool b, _, h => by cases h; exact .bl b
  | .int i, _, h => by cases h; exact .int i
  | .str x, _, h => by cases h; exact .str x
  | .list ds, _, h => by
    cases h with
    | lst hs ha => exact .lst (s.seq hs) (dpa_mono s ds _ ha)
  | .tuple ds, _, h => by
    cases h with
    | tup hs ha => exact .tup (sqt_mono s hs) (dpa_mono s ds _ ha)
  | .dict _, _, h => by cases h
theorem dpa_mono {K : PySem.W.Frag} {H H' : Hp} (s : Same H H') : ∀ (ds : List PyData) (vs : List V), DpAll K H vs ds → DpAll K H' vs ds
  | [], _, h => by cases h; exact .nil
  | d :: ds, _, h => by
    cases h with
    | cons h1 h2 => exact .cons (dp_mono s d _ h1) (dpa_mono s ds _ h2)
end
theorem dpa_snoc {K : PySem.W.Frag} {H : Hp} {v : V} {d : PyData} : ∀ {ds : List PyData} {vs : List V}, DpAll K H vs ds → Dp K H v d → DpAll K H (vs ++ [v]) (ds ++ [d])
  | [], _, h, k => by cases h; exact .cons k .nil
  | e :: ds, _, h, k => by
    cases h with
    | cons h1 h2 => exact .cons h1 (dpa_snoc h2 k)
/-- the list at D (new since H) holds xs, data ds that stand without it -/
structure Gh (K : PySem.W.Frag) (H : Hp) (D : Addr) (H' : Hp) (xs : List V) (ds : List PyData) : Prop where
  ex : ∃ G : Hp, Same H G ∧ G D = none ∧ Same G H' ∧ DpAll K G xs ds
  here : H' D = some (.lst xs)
theorem Gh.start {K : PySem.W.Frag} {H : Hp} {D : Addr} (n : H D = none) : Gh K H D (upd H D (.lst [])) [] [] := ⟨⟨H, Same.refl H, n, same_new (Same.refl H) n, .nil⟩, upd_same⟩
theorem Gh.same {K : PySem.W.Frag} {H H' : Hp} {D : Addr} {xs : List V} {ds : List PyData} (g : Gh K H D H' xs ds) : Same H H' := let ⟨_, a, _, b, _⟩ := g.ex; a.trans b
theorem Gh.data {K : PySem.W.Frag} {H H' : Hp} {D : Addr} {xs : List V} {ds : List PyData} (g : Gh K H D H' xs ds) : Dp K H' (.ref D) (.list ds) := let ⟨_, _, _, b, c⟩ := g.ex; .lst (SqL.of g.here) (dpa_mono b _ _ c)
theorem Gh.grow {K : PySem.W.Frag} {H H' H2 : Hp} {D : Addr} {xs : List V} {ds : List PyData} (g : Gh K H D H' xs ds) (s : Same H' H2) : Gh K H D H2 xs ds := let ⟨G, a, n, b, c⟩ := g.ex; ⟨⟨G, a, n, b.trans s, c⟩, s _ _ g.here⟩
theorem Gh.add {K : PySem.W.Frag} {H H' : Hp} {D : Addr} {xs : List V} {ds : List PyData} {v : V} {d : PyData} (g : Gh K H D H' xs ds) (k : ∀ G : Hp, Dp K G v d) : Gh K H D (upd H' D (.lst (xs ++ [v]))) (xs ++ [v]) (ds ++ [d]) := by
  obtain ⟨G, a, n, b, c⟩ := g.ex
  refine ⟨⟨G, a, n, fun z o e => ?_, dpa_snoc c (k G)⟩, upd_same⟩
  rw [upd_ne (ne_of_none e n)]
  exact b z o e
theorem Gh.pair {K : PySem.W.Frag} {H H' : Hp} {D T : Addr} {xs vs : List V} {ds es : List PyData} (g : Gh K H D H' xs ds) (nT : H' T = none) (k : ∀ G : Hp, DpAll K G vs es) :
    Gh K H D (upd (upd H' T (.tup vs)) D (.lst (xs ++ [.ref T]))) (xs ++ [.ref T]) (ds ++ [.tuple es]) := by
  obtain ⟨G, a, n, b, c⟩ := g.ex
  have gT : G T = none := b.free nT
  have ne : T ≠ D := fun z => by rw [z, g.here] at nT; cases nT
  have s1 : Same G (upd G T (.tup vs)) := same_new (Same.refl G) gT
  refine ⟨⟨upd G T (.tup vs), a.trans s1, (upd_ne (Ne.symm ne)).trans n, fun z o e => ?_, dpa_snoc (dpa_mono s1 _ _ c) (.tup (SqT.of upd_same) (k _))⟩, upd_same⟩
  by_cases hz : z = T
  · subst hz
    rw [upd_same] at e
    rw [upd_ne ne, upd_same]
    exact e
  · rw [upd_ne hz] at e
    rw [upd_ne (ne_of_none e n), upd_ne hz]
    exact b z o e

/-! ### data of lists, item by item -/
theorem dpa_len {K : PySem.W.Frag} {H : Hp} : ∀ {ds : List PyData} {vs : List V}, DpAll K H vs ds → vs.length = ds.length
  | [], _, h => by cases h; rfl
  | d :: ds, _, h => by
    cases h with
    | cons h1 h2 => rw [List.length_cons, List.length_cons, dpa_len h2]
theorem dpa_at {K : PySem.W.Frag} {H : Hp} : ∀ {ds : List PyData} {vs : List V} {i : Nat} {v : V}, DpAll K H vs ds → vs[i]? = some v → ∃ d, ds[i]? = some d ∧ Dp K H v d
  | [], _, _, _, h, e => by cases h; simp at e
  | d :: ds, _, i, v, h, e => by
    cases h with
    | cons h1 h2 =>
      cases i with
      | zero => exact ⟨d, rfl, by simp at e; rw [← e]; exact h1⟩
      | succ i =>
        obtain ⟨d2, e2, k⟩ := dpa_at h2 (i := i) (by simpa using e)
        exact ⟨d2, by simpa using e2, k⟩
theorem dpa_get {K : PySem.W.Frag} {H : Hp} : ∀ {ds : List PyData} {vs : List V} {i : Nat} {d : PyData}, DpAll K H vs ds → ds[i]? = some d → ∃ v, vs[i]? = some v ∧ Dp K H v d
  | [], _, _, _, h, e => by simp at e
  | d :: ds, _, i, v, h, e => by
    cases h with
    | cons h1 h2 =>
      cases i with
      | zero => exact ⟨_, rfl, by simp at e; rw [← e]; exact h1⟩
      | succ i =>
        obtain ⟨v, e2, k⟩ := dpa_get h2 (i := i) (by simpa using e)
        exact ⟨v, by simpa using e2, k⟩
theorem dp_tup {K : PySem.W.Frag} {H : Hp} {v : V} {ds : List PyData} (h : Dp K H v (.tuple ds)) : ∃ T vs, v = .ref T ∧ SqT K H T vs ∧ DpAll K H vs ds := by
  cases h with
  | tup hs ha => exact ⟨_, _, rfl, hs, ha⟩
theorem dp_lst {K : PySem.W.Frag} {H : Hp} {v : V} {ds : List PyData} (h : Dp K H v (.list ds)) : ∃ T vs, v = .ref T ∧ SqL K H T vs ∧ DpAll K H vs ds := by
  cases h with
  | lst hs ha => exact ⟨_, _, rfl, hs, ha⟩
theorem dp_int {K : PySem.W.Frag} {H : Hp} {v : V} {i : Int} (h : Dp K H v (.int i)) : v = .int i := by cases h; rfl
theorem dp_str {K : PySem.W.Frag} {H : Hp} {v : V} {x : Str} (h : Dp K H v (.str x)) : v = .str x := by cases h; rfl
theorem dpa_ints {K : PySem.W.Frag} {H : Hp} : ∀ (zs : List Int), DpAll K H (vI zs) (zs.map .int)
  | [] => .nil
  | z :: zs => .cons (.int z) (dpa_ints zs)
/-! ### a pair as the target of a comprehension -/
theorem pg_tupK {X : Cx} {K : PySem.W.Frag} {pos : Pos} {es : List Expr} {k : Nat} {t : TGs} {n : Nat} (hK : X.K = K) (hc : X.calm = true) (h : PGs X es t) (h1 : (assignEach es X.env).length = n := by rfl)
    (h2 : List.findIdx? (fun x => x.fst) (assignEach es X.env) = none := by rfl) : PG X (Expr.Tuple es k pos) (gTup K n t) := hK ▸ pg_tup hc h h1 h2
theorem Gh.all {K : PySem.W.Frag} {H H' : Hp} {D : Addr} {xs : List V} {ds : List PyData} (g : Gh K H D H' xs ds) : DpAll K H' xs ds := let ⟨_, _, _, b, c⟩ := g.ex; dpa_mono b _ _ c
/-- a new tuple whose data are known -/
theorem Gh.tup {K : PySem.W.Frag} {H H' : Hp} {D p : Addr} {xs : List V} {ds : List PyData} (g : Gh K H D H' xs ds) (n : H' p = none) : DpAll K (upd H' p (.tup xs)) xs ds := let ⟨_, _, _, b, c⟩ := g.ex; dpa_mono (b.trans (same_new (Same.refl _) n)) _ _ c
/-- a static method as it stands in its class -/
theorem smet_of {K : PySem.W.Frag} {C p g : Addr} {m : Str} {r : List Value} (h0 : PySem.W.findIn K (.type "type") m = some none) (h1 : PySem.W.findIn K (.ref C) m = some (some (.ref p))) (h2 : PySem.W.typeIn K (.ref p) = some (.type "staticmethod"))
    (h3 : PySem.W.specialIn K (.ref p) "__get__" = some (some (.builtin "staticmethod.__get__"))) (h4 : PySem.W.recIn K p "staticmethod" = some (.ref g :: r)) (h5 : PySem.W.keepIn K (.ref g) = true) : SMet K C (.type "type") m p g := by
  refine ⟨?_, ⟨r, h4⟩, h5⟩
  unfold PySem.W.findCls
  rw [h0]
  simp only [Option.bind_some]
  rw [h1]
  simp only [Option.bind_some]
  rw [if_neg (by intro h; cases h), h2]
  simp only [Option.bind_some]
  rw [if_neg (by decide +kernel), h3]
  rfl
/-- the call of a static method whose exceptions meet a wish that looks at the slots -/
def tStatS (C : Addr) (sp : Sp) (E : L2.St → XK) (ta : TE) (t : TA) : TE := fun σ H Q => ta σ H fun x H1 => x = .ref C ∧ t σ H1 fun vs H2 => sp vs H2 Q (E σ)
section
variable {X : Cx} {CX : CXT} {n : Nat} {C p g : Addr} {mc : Value} {fd : FuncData} {ps : List Str} {sp : Sp} {E : L2.St → XK} {m : Str} {apos pos : Pos} {o e : Expr} {es : List Expr} {ta : TE} {t : TA}
theorem pe_statS {pl : Sem Bool} (cls : PE X o ta) (r : ClX.CRead X.K C mc) (M : SMet X.K C mc m p g) (F : FnOk X.prog X.w X.K X.mg X.base CX n g fd ps sp) (room : Room n X.A) (hb : L2.Binds X.K fd ps []) (esc : ∀ σ, PassesAt CX X σ (E σ)) (ha : PA X (e :: es) t)
    (hst : starEach (e :: es) X.env = (false, eval e X.env) :: starEach es X.env := by rfl) (hpl : (backTo pos (starEach es X.env)).any (·.1) = false := by rfl)
    (ht : eval (.Call (.Attribute o m apos) (e :: es) [] pos) X.env = (do let y ← eval o X.env; standAt apos.atName; let (g, first) ← holding [y] (getMethod y m pl); callWith pos g first (backTo pos (starEach (e :: es) X.env)) (backToKw pos (keywordEach [] X.env))) := by rfl) :
    PE X (.Call (.Attribute o m apos) (e :: es) [] pos) (tStatS C sp E ta t) := by
  refine ⟨fun pins s σ H Q J h => PySem.W.methodCall_KW (pl := pl) (thn (cls.run pins s σ H _ J h) fun u s1 ⟨y, H1, J1, ru, ey, q⟩ => ?_) ht⟩
  subst ey
  cases ru
  refine getstat_ok J1 r M fun s2 J2 => PySem.W.callWith_K (first := []) (h₀ := X.base) J.ok.mod.kin M.kept (thn (ha.run pos pins s2 σ H1 _ J2 q) fun us s3 ⟨ws, H2, J3, rw', q2⟩ => ⟨J3.kIn, ?_⟩) hst hpl
  exact run_fnS (us := us) (vs := ws) F room hb (esc σ) J3 rw' q2
end

/-! ### data that may be compared: no dict, low codes, not deep -/
def okD : Nat → PyData → Bool
  | _, .none => true
  | _, .bool _ => true
  | _, .int _ => true
  | _, .str s => PyData.strOk s
  | n + 1, .list ds => ds.all (okD n)
  | n + 1, .tuple ds => ds.all (okD n)
  | _, _ => false
theorem okA_all {n : Nat} : ∀ ds : List PyData, (∀ d ∈ ds, d.canLay0 = true ∧ d.depth ≤ n ∧ d.eqv d = true) → PyData.canLayAll0 ds = true ∧ PyData.depthAll ds ≤ n ∧ PyData.eqvAll ds ds = true
  | [], _ => ⟨rfl, Nat.zero_le _, rfl⟩
  | d :: ds, h => by
    obtain ⟨a, b, c⟩ := okA_all ds fun e he => h e (List.mem_cons_of_mem _ he)
    obtain ⟨a1, b1, c1⟩ := h d List.mem_cons_self
    refine ⟨?_, ?_, ?_⟩
    · rw [PyData.canLayAll0, a1, a]; rfl
    · rw [PyData.depthAll]; omega
    · rw [PyData.eqvAll, c1, c]; rfl
theorem okD_all : ∀ (n : Nat) (d : PyData), okD n d = true → d.canLay0 = true ∧ d.depth ≤ n ∧ d.eqv d = true := by
  intro n
  induction n with
  | zero =>
    intro d h
    cases d with
    | none => exact ⟨rfl, Nat.le_refl _, rfl⟩
    | bool b => exact ⟨rfl, Nat.le_refl _, by rw [PyData.eqv]; simp⟩
    | int i => exact ⟨rfl, Nat.le_refl _, by rw [PyData.eqv]; simp⟩
    | str s => exact ⟨by rw [PyData.canLay0]; exact h, Nat.le_refl _, by rw [PyData.eqv]; simp⟩
    | list ds => exact absurd h (by simp [okD])
    | tuple ds => exact absurd h (by simp [okD])
    | dict ds => exact absurd h (by simp [okD])
  | succ n ih =>
    intro d h
    cases d with
    | none => exact ⟨rfl, Nat.zero_le _, rfl⟩
    | bool b => exact ⟨rfl, Nat.zero_le _, by rw [PyData.eqv]; simp⟩
    | int i => exact ⟨rfl, Nat.zero_le _, by rw [PyData.eqv]; simp⟩
    | str s => exact ⟨by rw [PyData.canLay0]; exact h, Nat.zero_le _, by rw [PyData.eqv]; simp⟩
    | list ds =>
      obtain ⟨a, b, c⟩ := okA_all (n := n) ds fun d hd => ih d (List.all_eq_true.mp h d hd)
      exact ⟨by rw [PyData.canLay0]; exact a, by rw [PyData.depth]; omega, by rw [PyData.eqv]; exact c⟩
    | tuple ds =>
      obtain ⟨a, b, c⟩ := okA_all (n := n) ds fun d hd => ih d (List.all_eq_true.mp h d hd)
      exact ⟨by rw [PyData.canLay0]; exact a, by rw [PyData.depth]; omega, by rw [PyData.eqv]; exact c⟩
    | dict ds => exact absurd h (by simp [okD])
theorem ok_shaped {d : PyData} (h : okD 4 d = true) : SeqAt.shaped d = true := by
  obtain ⟨a, b, _⟩ := okD_all 4 d h
  unfold SeqAt.shaped
  rw [a, decide_eq_true (by omega)]
  rfl
theorem ok_eqv {d : PyData} (h : okD 4 d = true) : d.eqv d = true := (okD_all 4 d h).2.2
/-- the same data: nothing is unlike -/
theorem neD_same {K : PySem.W.Frag} {H : Hp} {x y : V} {Q : VK} {d : PyData} (a : Dp K H x d) (b : Dp K H y d) (h : okD 4 d = true) (q : Q (.bl false) H) : rNeD K x y H Q :=
  ⟨d, d, a, b, ok_shaped h, ok_shaped h, by rw [ok_eqv h]; exact q⟩
theorem eqD_same {K : PySem.W.Frag} {H : Hp} {x y : V} {Q : VK} {d : PyData} (a : Dp K H x d) (b : Dp K H y d) (h : okD 4 d = true) (q : Q (.bl true) H) : rEqD K x y H Q :=
  ⟨d, d, a, b, ok_shaped h, ok_shaped h, by rw [ok_eqv h]; exact q⟩
theorem ok_map {α : Type} {n : Nat} {f : α → PyData} (h : ∀ z, okD n (f z) = true) (zs : List α) : okD (n + 1) (.list (zs.map f)) = true ∧ okD (n + 1) (.tuple (zs.map f)) = true := by
  have : (zs.map f).all (okD n) = true := by
    rw [List.all_map, List.all_eq_true]
    exact fun z _ => h z
  exact ⟨this, this⟩
theorem ok_mem {α : Type} {n : Nat} {f : α → PyData} (zs : List α) (h : ∀ z ∈ zs, okD n (f z) = true) : okD (n + 1) (.list (zs.map f)) = true ∧ okD (n + 1) (.tuple (zs.map f)) = true := by
  have : (zs.map f).all (okD n) = true := by
    rw [List.all_map, List.all_eq_true]
    exact fun z hz => h z hz
  exact ⟨this, this⟩
theorem ok_ints (zs : List Int) : okD 4 (.list (zs.map .int)) = true ∧ okD 4 (.tuple (zs.map .int)) = true := ok_map (fun _ => rfl) zs

/-! ### all words of a size, as a list -/
/-- all ways of m steps from height h to height 0 -/
def ways : Nat → Nat → List (List Nat)
  | 0, 0 => [[]]
  | 0, _ + 1 => []
  | m + 1, h => (if h + 1 ≤ m then (ways m (h + 1)).map (List.cons 100) else []) ++ (match h with
    | 0 => []
    | k + 1 => (ways m k).map (List.cons 111))
theorem ways_len : ∀ {m h : Nat}, m < h → ways m h = []
  | 0, 0, e => absurd e (by omega)
  | 0, h + 1, _ => rfl
  | m + 1, h, e => by
    unfold ways
    rw [if_neg (by omega)]
    cases h with
    | zero => omega
    | succ k => simp [ways_len (m := m) (h := k) (by omega)]
theorem in_ways : ∀ (l : List Nat) (h : Nat), (∀ c ∈ l, c = 100 ∨ c = 111) → (∀ k, k ≤ l.length → (l.take k).count 111 ≤ h + (l.take k).count 100) → h + l.count 100 = l.count 111 → l ∈ ways l.length h
  | [], h, _, _, e => by
    have : h = 0 := by simpa using e
    subst this
    exact List.mem_singleton.mpr rfl
  | x :: r, h, al, ah, e => by
    have ar : ∀ c ∈ r, c = 100 ∨ c = 111 := fun c hc => al c (List.mem_cons_of_mem _ hc)
    have tot : r.count 100 + r.count 111 = r.length := by
      clear e ah al
      induction r with
      | nil => rfl
      | cons y s ih =>
        have := ih fun c hc => ar c (List.mem_cons_of_mem _ hc)
        rw [List.count_cons, List.count_cons, List.length_cons]
        rcases ar y List.mem_cons_self with z | z <;> subst z <;> simp <;> omega
    rw [List.length_cons]
    unfold ways
    rw [List.count_cons, List.count_cons] at e
    rcases al x List.mem_cons_self with z | z
    · subst z
      simp at e
      refine List.mem_append.mpr (.inl ?_)
      rw [if_pos (by omega)]
      refine List.mem_map.mpr ⟨r, in_ways r (h + 1) ar (fun k hk => ?_) (by omega), rfl⟩
      have a := ah (k + 1) (by rw [List.length_cons]; omega)
      rw [List.take_succ_cons, List.count_cons, List.count_cons] at a
      simp at a
      omega
    · subst z
      simp at e
      have a1 := ah 1 (by rw [List.length_cons]; omega)
      simp at a1
      obtain ⟨k, rfl⟩ : ∃ k, h = k + 1 := ⟨h - 1, by omega⟩
      refine List.mem_append.mpr (.inr ?_)
      refine List.mem_map.mpr ⟨r, in_ways r k ar (fun j hj => ?_) (by omega), rfl⟩
      have a := ah (j + 1) (by rw [List.length_cons]; omega)
      rw [List.take_succ_cons, List.count_cons, List.count_cons] at a
      simp at a
      omega
/-- all words of the sizes 1 to 6 -/
def allWords : List (List Nat) := ways 2 0 ++ (ways 4 0 ++ (ways 6 0 ++ (ways 8 0 ++ (ways 10 0 ++ ways 12 0))))
theorem Good.all {l : List Nat} {n : Nat} (g : Good l n) (h1 : 1 ≤ n) (h6 : n ≤ 6) : l ∈ allWords := by
  have m : l ∈ ways l.length 0 := in_ways l 0 g.ltr (fun k hk => by have := g.ahead k hk; omega) (by have := ltr_count g.ltr; have := g.len; have := g.cnt; omega)
  rw [g.len] at m
  unfold allWords
  have : n = 1 ∨ n = 2 ∨ n = 3 ∨ n = 4 ∨ n = 5 ∨ n = 6 := by omega
  rcases this with e | e | e | e | e | e <;> subst e <;> simp only [List.mem_append] <;> simp [m]
/-- what a kernel run says of all words -/
theorem Good.by {l : List Nat} {n : Nat} (g : Good l n) (h1 : 1 ≤ n) (h6 : n ≤ 6) (f : List Nat → Bool) (e : allWords.all f = true) : f l = true := List.all_eq_true.mp e l (g.all h1 h6)
/-! ### runs, as the loop of the program finds them, and as the law does -/
def rsStep (l : List Nat) (z : List (List Nat × Nat × Nat) × Nat) (b : Nat) : List (List Nat × Nat × Nat) × Nat :=
  if b = l.length ∨ l[b]? ≠ l[z.2]? then (z.1 ++ [((l[z.2]?).toList, z.2, b - z.2)], b) else z
def rsI (l : List Nat) : Nat → List (List Nat × Nat × Nat) × Nat
  | 0 => ([], 0)
  | i + 1 => rsStep l (rsI l i) (i + 1)
theorem rsI_at (l : List Nat) (i : Nat) : (rsI l i).2 ≤ i := by
  induction i with
  | zero => exact Nat.le_refl _
  | succ i ih =>
    unfold rsI rsStep
    split
    · exact Nat.le_refl _
    · omega
theorem rsI_len (l : List Nat) (i : Nat) : (rsI l i).1.length ≤ i := by
  induction i with
  | zero => exact Nat.le_refl _
  | succ i ih =>
    unfold rsI rsStep
    split
    · rw [List.length_append]
      exact Nat.succ_le_succ ih
    · omega

/-! ### enumerate(text) -/
theorem pyIter_text {prog : Program} {w : World} {A : Around} {E : Value → Shared → Prop} {s : Shared} {x : Str} {t : Tok} {Q : Value → Shared → Prop}
    (h : Q (Value.ref s.heap.objs.size) { s with heap := s.heap.push { cls := Value.type (strIterType x), data := Data.fields #[Value.str x t, Value.int 0 0] } }) : wpAny (model prog w) A (pyIter (Value.str x t)) Q E s := by
  unfold strIterType at h
  cases ha : x.cps.all (· < 128)
  · rw [ha] at h
    exact wpAny_pyIter_wide ha h
  · rw [ha] at h
    exact wpAny_pyIter_ascii ha h
set_option maxHeartbeats 1000000 in
theorem enum_newS (x : Str) (t : Tok) : Meets (PySem.Builtin.«enumerate.__new__» ⟨[.type "enumerate", .str x t], []⟩) (fun _ R s => R (.ok (.ret (.ref (s.heap.push { cls := .type (strIterType x), data := .fields #[.str x t, .int 0 0] }).objs.size))) { s with heap := (s.heap.push { cls := .type (strIterType x), data := .fields #[.str x t, .int 0 0] }).push { cls := .type "enumerate", data := .fields #[.none, .bool false, .ref s.heap.objs.size, rawInt 0, .none, .none] } }) :=
  .of_wp fun prog w A R s post => by
    have hsub := sub_enumerate
    wp_walk using pyIter_text
    refine wpAny_stack_any fun st => wpAny_pure ?_
    split
    · rename_i c _ _ _ _ _
      cases (c == Value.type "enumerate")
      · wp_walk using pyIter_text
        exact ⟨_, rfl, post⟩
      · wp_walk using pyIter_text
        exact ⟨_, rfl, post⟩
    · wp_walk using pyIter_text
      exact ⟨_, rfl, post⟩
theorem call_enumS {prog : Program} {w : World} {A : Around} {E : Value → Shared → Prop} {s : Shared} {x : Str} {t : Tok} {Q : Value → Shared → Prop}
    (h : ∀ h', IsEnum h' (s.heap.objs.size + 1) s.heap.objs.size 0 .none → h'.IsStrIter s.heap.objs.size (strIterType x) x t 0 → (∀ b o, s.heap.get? b = some o → h'.get? b = some o) → Q (.ref (s.heap.objs.size + 1)) { s with heap := h' }) :
    wpAny (model prog w) A (call (.type "enumerate") [.str x t]) Q E s := by
  refine callType_new F.called_enumerate (by decide) (F.typeCall_enumerate_1 _) (F.newCall_enumerate_1 _) (fun obj => F.args_object_init_2 obj _) F.entry_enumerate_new (enum_newS x t) ?_
  have z1 : (s.heap.push { cls := .type (strIterType x), data := .fields #[.str x t, .int 0 0] }).objs.size = s.heap.objs.size + 1 := Heap.size_push ..
  show _ ∧ _
  rw [z1]
  have at2 := Heap.get?_push_size (s.heap.push { cls := .type (strIterType x), data := .fields #[.str x t, .int 0 0] }) (o := { cls := .type "enumerate", data := .fields #[.none, .bool false, .ref s.heap.objs.size, rawInt 0, .none, .none] }) rfl
  rw [z1] at at2
  exact ⟨⟨_, at2, rfl⟩, h _ at2 ⟨_, Heap.get?_push_of_some _ (Heap.get?_push_size _ rfl), rfl, rfl⟩ fun b o y => Heap.get?_push_of_some _ (Heap.get?_push_of_some _ y)⟩
/-- the text's letters, each in a new pair with its place -/
def IteS (x : Str) : It :=
  ⟨fun i _ => i < x.cps.size, fun i H v H' => ∃ T c, v = .ref T ∧ H T = none ∧ x.cps[i]? = some c ∧ H' = L2.upd H T (.tup [.int (i : Nat), .str ⟨#[c]⟩]), fun i _ => i = x.cps.size⟩
theorem turn_enumS {P : Program} {w : World} {K : PySem.W.Frag} {elts : List Expr} {kk : Nat} {tpos : Pos} (x : Str) (t : Tok) (e it : Addr) :
    Turn P w K (.Tuple elts kk tpos) (IteS x) [e, it] e (fun i h => (∃ old, IsEnum h e it ((i : Nat) : Int) old) ∧ h.IsStrIter it (strIterType x) x t i ∧ e ≠ it) where
  mem := by simp
  obj := fun i h ⟨⟨old, he⟩, ⟨o, ho, hc, hd⟩, _⟩ b hb => by
    rcases (show b = e ∨ b = it by simpa using hb) with z | z
    · rw [z]
      exact ⟨_, he, fun v q => nomatch q⟩
    · rw [z]
      exact ⟨o, ho, fun v q => by rw [hd] at q; cases q⟩
  keep := fun i h h' ⟨⟨old, he⟩, ⟨o, ho, r⟩, ne⟩ k => ⟨⟨old, k e (by simp) _ he⟩, ⟨o, k it (by simp) _ ho, r⟩, ne⟩
  item := by
    intro X hP hw hK calm i pins s σ H E I hf ⟨⟨old, he⟩, hit, ne⟩ hi
    subst hP hw hK
    have el := Heap.lt_size he
    have il : it < s.heap.objs.size := by obtain ⟨_, q, _⟩ := hit; exact Heap.lt_size q
    have D := PySem.Draws.text (prog := X.prog) (w := X.w) (A := X.A.in1) (I.ok.hd calm) it x t
    refine wpAny_pyNext_enum_itemD D he hit hi ne (by simp [ne]) fun v h' tk hv ho hit' hT hsz hk => ?_
    obtain ⟨c, u, hc, rfl⟩ := hv
    refine ⟨_, rfl, wpAny_letOwnedTupleGo_enum (s := { s with heap := h', toks := tk + 1 }) ho fun h2 he2 sb => ?_⟩
    have hT2 : h2.get? s.heap.objs.size = some { cls := .type "tuple", data := .seq #[.int i tk, .str ⟨#[c]⟩ u] } := (sb.2 _ (Nat.ne_of_gt el)).trans hT
    have new : ObjOk X.prog X.w (L2.upd H s.heap.objs.size (.tup [.int (i : Nat), .str ⟨#[c]⟩])) h2 s.heap.objs.size (.tup [.int (i : Nat), .str ⟨#[c]⟩]) :=
      ⟨by show 2 ≤ sizeLine; decide, [.int i tk, .str ⟨#[c]⟩ u], .cons ⟨_, rfl⟩ (.cons ⟨_, rfl⟩ .nil), ⟨_, hT2, rfl, _, rfl⟩⟩
    have I1 : L2.Inv X pins σ (L2.upd H s.heap.objs.size (.tup [.int (i : Nat), .str ⟨#[c]⟩])) { s with heap := h2, toks := tk + 1 } :=
      I.turnedNew (ch := [e, it]) (fun b ob hb q => (sb.2 b (fun z => hb (by simp [z]))).trans (hk b ob (fun z => hb (by simp [z])) (fun z => hb (by simp [z])) q)) hf (Nat.le_refl _) new
    refine ⟨.ref s.heap.objs.size, _, I1, rfl, ⟨_, c, rfl, I.hok.fresh (Nat.le_refl _), hc, rfl⟩, ⟨⟨.str ⟨#[c]⟩ u, ?_⟩, ?_, ne⟩, fun b hb => ?_⟩
    · rw [show ((i + 1 : Nat) : Int) = (i : Int) + 1 by omega]
      exact he2
    · obtain ⟨o, q, r⟩ := hit'
      exact ⟨o, (sb.2 it (Ne.symm ne)).trans q, r⟩
    · have lt : b < s.heap.objs.size := by
        rcases (show b = e ∨ b = it by simpa using hb) with z | z
        · exact z ▸ el
        · exact z ▸ il
      exact (upd_ne (Nat.ne_of_lt lt)).trans (hf b hb).1
  done := by
    intro X hP hw hK calm i pins s σ H E I hf ⟨⟨old, he⟩, hit, ne⟩ hx
    subst hP hw hK
    obtain ⟨f0, f1, f2, f3, f4, f5⟩ := hf it (by simp)
    have eT : s.TypeIs (.ref e) "enumerate" := ⟨_, he, rfl⟩
    obtain rfl : i = x.cps.size := hx
    unfold pyNext
    refine wpAny_bind (wpAny_attempt (wpAny_callSpecial?_slot (name := Str.ofString "__next__") eT F.slot_enumerate_next (wpAny_call_entry F.slot_enumerate_next eT F.entry_enumerate_next ?_ (F.args_enumerate_next_1 _))))
    show wpAny _ _ (field (.ref e) 2 >>= _) _ _ _
    refine wpAny_bind (wpAny_field he rfl (x := .ref it) rfl (wpAny_bind ((PySem.Draws.text (prog := X.prog) (w := X.w) (A := X.A.in1) (I.ok.hd calm) it x t).done _ _ _ hit fun h' er eb ⟨o, ho, hc⟩ => ?_)))
    exact wpAny_bind (wpAny_isInstance (T := "StopIteration") (b := true) ⟨o, ho, hc⟩ isSubtype_stop (wpAny_pure ⟨rfl, I.turned (t' := s.toks) (fun b o hb q => eb b o hb q) f0 f1 f3 f4 f5⟩))
  self := fun A i s Q E ⟨⟨_, he⟩, _⟩ h => wpAny_pyIter_enum he h
/-- enumerate(e), e a text -/
def iEnumS (ta : TA) : TI := fun σ H R => ta σ H fun vs H1 => ∃ x : Str, vs = [.str x] ∧ R (IteS x) H1
theorem pi_enumS {X : Cx} {e : Expr} {ta : TA} {p pos tpos : Pos} {elts : List Expr} {kk : Nat} (hg : Gl X "enumerate") (hm : X.mg "enumerate" = none) (ha : PA X [e] ta) (hs : starEach [e] X.env = [(false, eval e X.env)] := by rfl) :
    PI X (.Tuple elts kk tpos) (.Call (.Name "enumerate" p) [e] [] pos) (iEnumS ta) := by
  refine ⟨fun pins s σ H R I h => Call_ (ld_blt I hg hm boot_enumerate (PyProof.Rows.callWith_type1 (thn (ha.run pos pins s σ H _ I h) fun us s1 ⟨vs, H1, I1, r1, x, ex, q⟩ => ?_) hs rfl))⟩
  subst ex
  obtain ⟨u, rfl, ru⟩ := r1.one
  obtain ⟨t, rfl⟩ := ru
  have foot : ∀ b, b ∈ [s1.heap.objs.size + 1, s1.heap.objs.size] → FpOk X pins H1 b := fun b hb => by
    have le : s1.heap.objs.size ≤ b := by
      rcases (show b = s1.heap.objs.size + 1 ∨ b = s1.heap.objs.size by simpa using hb) with z | z
      · exact z ▸ Nat.le_succ _
      · exact z ▸ Nat.le_refl _
    exact I1.fpOk le (I1.hok.fresh le)
  exact call_enumS fun h' he hit hk => wpAny_pyIter_enum he ⟨_, _, _, _, H1, rfl, I1.kept (t' := s1.toks) hk, turn_enumS x t (s1.heap.objs.size + 1) s1.heap.objs.size, ⟨⟨.none, he⟩, hit, Nat.succ_ne_self _⟩, foot, q⟩
theorem walk_enumS {l : List Nat} : Walk (IteS (sOf l)) l.length (fun _ => True) (YPair (fun i => some (.int (i : Nat))) (fun i => (l[i]?).map fun c => V.str (sOf [c]))) := by
  refine ⟨fun i H hi _ => ?_, fun H _ => ?_, fun i H v H' _ _ y => ?_⟩
  · show i < (sOf l).cps.size
    simpa [sOf] using hi
  · show l.length = (sOf l).cps.size
    simp [sOf]
  · obtain ⟨T, c, e1, e2, e3, e4⟩ := y
    have e5 : l[i]? = some c := by simpa [sOf] using e3
    exact ⟨T, .int (i : Nat), .str (sOf [c]), e1, e2, e4, rfl, by
      show Option.map _ l[i]? = _
      rw [e5]
      rfl⟩

/-! ### lists of pairs of whole numbers -/
theorem Room.units65 {k : Nat} {A : Around} (h : Room k A) : A.units + 65 < cLine := by
  have := h.un
  omega
def mD (m : Nat × Nat) : PyData := .tuple [.int (m.1 : Nat), .int (m.2 : Nat)]
def mT (m : Nat × Nat) : HO := .tup [.int (m.1 : Nat), .int (m.2 : Nat)]
/-- xs are tuples that hold the pairs M -/
inductive Prs (H : Hp) : List V → List (Nat × Nat) → Prop where
  | nil : Prs H [] []
  | cons {T : Addr} {m : Nat × Nat} {xs : List V} {M : List (Nat × Nat)} (h : H T = some (mT m)) (r : Prs H xs M) : Prs H (.ref T :: xs) (m :: M)
theorem Prs.mono {H H' : Hp} (s : Same H H') : ∀ {xs M}, Prs H xs M → Prs H' xs M
  | _, _, .nil => .nil
  | _, _, .cons h r => .cons (s _ _ h) (r.mono s)
theorem Prs.len {H : Hp} : ∀ {xs M}, Prs H xs M → xs.length = M.length
  | _, _, .nil => rfl
  | _, _, .cons _ r => congrArg Nat.succ r.len
theorem Prs.snoc {H : Hp} {T : Addr} {m : Nat × Nat} (h : H T = some (mT m)) : ∀ {xs M}, Prs H xs M → Prs H (xs ++ [.ref T]) (M ++ [m])
  | _, _, .nil => .cons h .nil
  | _, _, .cons h2 r => .cons h2 (r.snoc h)
theorem Prs.at {H : Hp} : ∀ {xs M} {i : Nat} {x : V}, Prs H xs M → xs[i]? = some x → ∃ T m, x = .ref T ∧ M[i]? = some m ∧ H T = some (mT m)
  | _, _, _, _, .nil, e => by simp at e
  | _, _, 0, _, .cons (T := T) (m := m) h _, e => ⟨T, m, by simpa using e.symm, rfl, h⟩
  | _, _, i + 1, _, .cons _ r, e => by
    obtain ⟨T, m, a, b, c⟩ := r.at (i := i) (by simpa using e)
    exact ⟨T, m, a, by simpa using b, c⟩
theorem Prs.data {K : PySem.W.Frag} {H : Hp} : ∀ {xs M}, Prs H xs M → DpAll K H xs (M.map mD)
  | _, _, .nil => .nil
  | _, _, .cons h r => .cons (.tup (SqT.of h) (.cons (.int _) (.cons (.int _) .nil))) r.data
theorem Prs.mem {H : Hp} : ∀ {xs M} {x : V}, Prs H xs M → x ∈ xs → ∃ T m, x = .ref T ∧ m ∈ M ∧ H T = some (mT m)
  | _, _, _, .nil, h => by simp at h
  | _, _, x, .cons (T := T) (m := m) h r, hx => by
    rcases List.mem_cons.mp hx with e | e
    · exact ⟨T, m, e, List.mem_cons_self, h⟩
    · obtain ⟨T2, m2, a, b, c⟩ := r.mem e
      exact ⟨T2, m2, a, List.mem_cons_of_mem _ b, c⟩
theorem Prs.keep {H H' : Hp} {D : Addr} {o : HO} (hD : ∀ m, H D ≠ some (mT m)) (b : ∀ c o, c ≠ D → H c = some o → H' c = some o) : ∀ {xs M}, Prs H xs M → Prs H' xs M
  | _, _, .nil => .nil
  | _, _, .cons (T := T) (m := m) h r => .cons (b _ _ (fun z => hD m (by rw [← z]; exact h)) h) (r.keep (o := o) hD b)
theorem Prs.perm {H : Hp} {xs ys : List V} (p : ys.Perm xs) : ∀ {M}, Prs H xs M → ∃ N, Prs H ys N ∧ N.Perm M := by
  induction p with
  | nil =>
    intro M h
    cases h
    exact ⟨[], .nil, .nil⟩
  | cons x p ih =>
    intro M h
    cases h with
    | cons h r =>
      obtain ⟨N, a, b⟩ := ih r
      exact ⟨_ :: N, .cons h a, b.cons _⟩
  | swap x y l =>
    intro M h
    cases h with
    | cons h r =>
      cases r with
      | cons h2 r => exact ⟨_ :: _ :: _, .cons h2 (.cons h r), .swap _ _ _⟩
  | trans p q ih1 ih2 =>
    intro M h
    obtain ⟨N, a, b⟩ := ih2 h
    obtain ⟨N2, a2, b2⟩ := ih1 a
    exact ⟨N2, a2, b2.trans b⟩
/-! `in` by data -/
def rInDT (K : PySem.W.Frag) : R2 := fun x y H Q => ∃ d ds, Dp K H x d ∧ Dp K H y (.tuple ds) ∧ SeqAt.shaped d = true ∧ SeqAt.shaped (.tuple ds) = true ∧ Q (.bl (ds.any fun z => PyData.eqv z d)) H
def rNotInDT (K : PySem.W.Frag) : R2 := fun x y H Q => ∃ d ds, Dp K H x d ∧ Dp K H y (.tuple ds) ∧ SeqAt.shaped d = true ∧ SeqAt.shaped (.tuple ds) = true ∧ Q (.bl (!ds.any fun z => PyData.eqv z d)) H
theorem op_inDT {X : Cx} {K : PySem.W.Frag} (hK : X.K = K) (hu : X.A.units + 65 < cLine) : OpR X (compareOp .In) (rInDT K) := by
  subst hK
  rintro pins s σ H x y v u Q I rx ry ⟨d, ds, hd, he, sd, se, q⟩
  obtain ⟨as, r1⟩ := Dp.reads I d x v hd rx
  obtain ⟨bs, r2⟩ := Dp.reads I (.tuple ds) y u he ry
  exact SeqAt.in_tuple_reads r2 r1 (SeqAt.canLay_of_shaped se) (SeqAt.canLay_of_shaped sd) (PyProof.Rows.room_in_shaped sd hu) ⟨.bl _, H, I, rfl, q⟩
theorem op_notInDT {X : Cx} {K : PySem.W.Frag} (hK : X.K = K) (hu : X.A.units + 65 < cLine) : OpR X (compareOp .NotIn) (rNotInDT K) := by
  subst hK
  rintro pins s σ H x y v u Q I rx ry ⟨d, ds, hd, he, sd, se, q⟩
  obtain ⟨as, r1⟩ := Dp.reads I d x v hd rx
  obtain ⟨bs, r2⟩ := Dp.reads I (.tuple ds) y u he ry
  exact SeqAt.notIn_tuple_reads r2 r1 (SeqAt.canLay_of_shaped se) (SeqAt.canLay_of_shaped sd) (PyProof.Rows.room_in_shaped sd hu) ⟨.bl _, H, I, rfl, q⟩
theorem op_inDK {X : Cx} {K : PySem.W.Frag} (hK : X.K = K) (hu : X.A.units + 65 < cLine) : OpR X (compareOp .In) (rInD K) := by
  subst hK
  exact op_inD hu
theorem op_notInDK {X : Cx} {K : PySem.W.Frag} (hK : X.K = K) (hu : X.A.units + 65 < cLine) : OpR X (compareOp .NotIn) (rNotInD K) := by
  subst hK
  exact op_notInD hu
theorem mD_eqv (a b : Nat × Nat) : PyData.eqv (mD a) (mD b) = decide (a = b) := by
  obtain ⟨a1, a2⟩ := a
  obtain ⟨b1, b2⟩ := b
  unfold mD
  rw [PyData.eqv, PyData.eqvAll, PyData.eqvAll, PyData.eqvAll, PyData.eqv, PyData.eqv]
  by_cases h1 : a1 = b1 <;> by_cases h2 : a2 = b2 <;> simp [h1, h2]
  all_goals omega
theorem any_mD (M : List (Nat × Nat)) (m : Nat × Nat) : ((M.map mD).any fun z => PyData.eqv z (mD m)) = decide (m ∈ M) := by
  rw [List.any_map]
  by_cases h : m ∈ M
  · rw [decide_eq_true h, List.any_eq_true]
    exact ⟨m, h, by show PyData.eqv _ _ = true; rw [mD_eqv]; simp⟩
  · rw [decide_eq_false h, List.any_eq_false]
    intro x hx z
    have z2 : PyData.eqv (mD x) (mD m) = true := z
    rw [mD_eqv] at z2
    exact h (by rw [← of_decide_eq_true z2]; exact hx)
theorem ok_mD (n : Nat) (m : Nat × Nat) : okD (n + 1) (mD m) = true := by
  unfold mD
  cases n <;> rfl
theorem ok_mDs (M : List (Nat × Nat)) : okD 4 (.list (M.map mD)) = true ∧ okD 4 (.tuple (M.map mD)) = true := ok_map (fun z => ok_mD 2 z) M
theorem shaped_mD (m : Nat × Nat) : SeqAt.shaped (mD m) = true := ok_shaped (ok_mD 3 m)
/-- a pair among the pairs -/
theorem inP {K : PySem.W.Frag} {H : Hp} {x : V} {p : Addr} {xs : List V} {M : List (Nat × Nat)} {m : Nat × Nat} {Q : VK} (hx : Dp K H x (mD m)) (hp : H p = some (.tup xs)) (hM : Prs H xs M) (q : Q (.bl (decide (m ∈ M))) H) : rInDT K x (.ref p) H Q :=
  ⟨_, _, hx, .tup (SqT.of hp) hM.data, shaped_mD m, ok_shaped (ok_mDs M).2, by rw [any_mD]; exact q⟩
theorem notInP {K : PySem.W.Frag} {H : Hp} {x : V} {p : Addr} {xs : List V} {M : List (Nat × Nat)} {m : Nat × Nat} {Q : VK} (hx : Dp K H x (mD m)) (hp : H p = some (.tup xs)) (hM : Prs H xs M) (q : Q (.bl (!decide (m ∈ M))) H) : rNotInDT K x (.ref p) H Q :=
  ⟨_, _, hx, .tup (SqT.of hp) hM.data, shaped_mD m, ok_shaped (ok_mDs M).2, by rw [any_mD]; exact q⟩
theorem inL {K : PySem.W.Frag} {H : Hp} {x : V} {p : Addr} {xs : List V} {M : List (Nat × Nat)} {m : Nat × Nat} {Q : VK} (hx : Dp K H x (mD m)) (hp : H p = some (.lst xs)) (hM : Prs H xs M) (q : Q (.bl (decide (m ∈ M))) H) : rInD K x (.ref p) H Q :=
  ⟨_, _, hx, .lst (SqL.of hp) hM.data, shaped_mD m, ok_shaped (ok_mDs M).1, by rw [any_mD]; exact q⟩
theorem notInL {K : PySem.W.Frag} {H : Hp} {x : V} {p : Addr} {xs : List V} {M : List (Nat × Nat)} {m : Nat × Nat} {Q : VK} (hx : Dp K H x (mD m)) (hp : H p = some (.lst xs)) (hM : Prs H xs M) (q : Q (.bl (!decide (m ∈ M))) H) : rNotInD K x (.ref p) H Q :=
  ⟨_, _, hx, .lst (SqL.of hp) hM.data, shaped_mD m, ok_shaped (ok_mDs M).1, by rw [any_mD]; exact q⟩

/-! ### isinstance of a caught error that has a dict -/
theorem chk_ga {prog : Program} {w : World} {A : Around} {E : Value → Shared → Prop} {s : Shared} {x : Addr} {nm : Str} {t : Tok} {Q : Unit → Shared → Prop} (sub : PySem.W.Looks (model prog w) s.heap (isInstance (Value.ref x) (Value.type "BaseException")) true) (h : Q () s) :
    wpAny (model prog w) A (checkBuiltinCall "BaseException.__getattribute__" { pos := [Value.ref x, Value.str nm t] }) Q E s :=
  @PySem.W.check_slot (model prog w) A E s "BaseException.__getattribute__" "BaseException" "__getattribute__" (Value.ref x) [Value.str nm t] [] Q PySem.W.kin_classE._proof_2 PySem.W.kin_classE._proof_3 sub (F.args_bexc_ga (Value.ref x) (Value.str nm t)) h
set_option maxHeartbeats 400000 in
theorem kin_classX {prog : Program} {w : World} {A : Around} {E : Value → Shared → Prop} {s : Shared} {K : PySem.W.Frag} {x D : Addr} {ox o : Obj} {Q : Option Value → Shared → Prop} (C : ExcC K D) (X : K.In s.heap) (I : PySem.W.InstAt s.heap x ox D (some o))
    (h : Q (some (Value.ref D)) { s with toks := s.toks + 1 }) : wpAny (model prog w) A (getAttr? (Value.ref x) (Str.ofString "__class__")) Q E s := by
  have hf := PySem.W.findObj_data (K := K) (C := D) (od := o) (name := Str.ofString "__class__") (by obtain ⟨cd, hc, _⟩ := PySem.W.any_some C.hd; rw [hc]; rfl) C.ha C.hn C.ht
  obtain ⟨hp, g, d, t, os⟩ := s
  have L0 := PySem.W.InstAt.type (M := model prog w) I
  have L1 := PySem.W.looks_findIn (M := model prog w) X C.hg
  have L2 := PySem.W.looks_findIn (M := model prog w) X C.hk
  have L3 := PySem.W.looks_find (M := model prog w) X I hf
  have sub : PySem.W.Looks (model prog w) hp (isInstance (Value.ref x) (Value.type "BaseException")) true := PySem.W.Looks.andThen L0 (PySem.W.looks_subIn X C.hs)
  unfold getAttr?
  refine wpAny_bind (wpAny_mkText ?_)
  unfold getAttrBy?
  refine wpAny_bind (wpAny_attempt (wpAny_holding ?_))
  refine wpAny_bind (PySem.W.Looks.at L0 (wpAny_bind (PySem.W.Looks.at L1 ?_)))
  have hx2 : (Value.builtin "BaseException.__getattribute__" == Value.builtin "object.__getattribute__") = false := by decide
  have hx1 : (onTheHeap (Value.ref D) && (Value.builtin "BaseException.__getattribute__" == Value.builtin "object.__getattribute__")) = false := by rw [hx2]; rfl
  dsimp only
  rw [hx1, if_neg Bool.false_ne_true]
  unfold getAttrByItsOwn
  refine wpAny_bind ?_
  unfold hookBefore
  rw [if_pos (show onTheHeap (Value.ref D) = true from rfl)]
  refine PySem.W.Looks.at L2 (wpAny_bind (wpAny_attempt (wpAny_holding ?_)))
  unfold callGetattribute
  rw [if_neg (show ¬ (false && onTheHeap (Value.builtin "BaseException.__getattribute__")) = true from Bool.false_ne_true)]
  unfold boundAndCalled
  rw [F.excAttr_ValueError.ga.bind (Value.ref x)]
  refine wpAny_bind (wpAny_pure ?_)
  show wpAny (model prog w) A (call (Value.builtin "BaseException.__getattribute__") [Value.ref x, Value.str (Str.ofString "__class__") t]) _ _ _
  refine wpAny_call (codeAny_call_builtin F.excAttr_ValueError.ga.plain F.entry_bexc_ga ?_)
  refine chk_ga sub ?_
  unfold Builtin.«object.__getattribute__»
  refine wpAny_bind (m := slotArgs "__getattribute__" 1 { pos := [Value.ref x, Value.str (Str.ofString "__class__") t] }) (wpAny_of_eq (a := (Value.ref x, [Value.str (Str.ofString "__class__") t])) (by kernel_rfl!) ?_)
  dsimp only
  refine wpAny_bind (m := Builtin.ObjectAttr.attrName (Value.str (Str.ofString "__class__") t)) (wpAny_of_eq (a := Str.ofString "__class__") (by rfl) ?_)
  refine wpAny_bind (PySem.W.Looks.at L0 (wpAny_bind (PySem.W.Looks.at L3 ?_)))
  dsimp only
  unfold Builtin.ObjectAttr.bindTo
  refine wpAny_bind ?_
  refine wpAny_holding (wpAny_call (PySem.W.class_get X I C.hm ?_))
  refine wpAny_pure ?_
  show wpAny (model prog w) A (handedOut (Value.ref D)) _ _ _
  rw [PySem.W.handedOut_of (v := Value.ref D) rfl]
  exact wpAny_pure (wpAny_pure h)
theorem cls_lookup {K : PySem.W.Frag} {D : Addr} (hd : PySem.W.hasDictIn K D = true) : ∃ cls dict cd slots, K.lookup D = some ⟨cls, dict, .cls cd, slots⟩ := by
  obtain ⟨cd, hc, _⟩ := PySem.W.any_some hd
  unfold PySem.W.clsIn at hc
  split at hc
  · rename_i c d cd2 sl he
    exact ⟨c, d, cd2, sl, he⟩
  · cases hc
theorem kitx_excX {K : PySem.W.Frag} {x D : Addr} {ox o : Obj} (C : ExcC K D) : PySem.W.KitX K (Value.ref x) (Value.ref D) (fun h => PySem.W.InstAt h x ox D (some o)) := by
  obtain ⟨cls, dict, cd, slots, he⟩ := cls_lookup C.hd
  refine ⟨fun M h X I => PySem.W.InstAt.type I, fun M h X I => ?_, fun h tp dd its n sl X htp => ?_, fun X I q => kin_classX C X I q⟩
  · intro A' Q' E' s' k q
    show wpAny M A' (loadPart _ _ >>= _) _ _ _
    exact wpAny_bind (wpAny_loadPart (k D _ (X D _ he)) (wpAny_pure q))
  · refine Bool.eq_false_iff.mpr fun q => ?_
    have e := Value.ref.inj (beq_iff_eq.mp q)
    subst e
    have z := (X D _ he).symm.trans htp
    cases z
/-- isinstance(e, C), e caught, its attributes in a dict -/
def rIsX (K : PySem.W.Frag) (a : Addr) (cls : Value) (d : Option Addr) : List V → Hp → VK → Prop := fun xs H Q => ∃ (c : V) (u : Value) (D dd : Addr) (fs : List (Str × V)) (b : Bool), xs = [.ref a, c] ∧ ClsV c u ∧ cls = .ref D ∧ ExcC K D ∧ d = some dd ∧ H dd = some (.xd fs) ∧
  PySem.W.kitOne K (.ref D) u = some b ∧ Q (.bl b) H
theorem xd_some {P : Program} {w : World} {H : Hp} {h : Heap} {d : Addr} {fs : List (Str × V)} (z : ObjOk P w H h d (.xd fs)) : ∃ o, h.get? d = some o := by
  unfold ObjOk at z
  obtain ⟨mA, hn, _⟩ := z
  obtain ⟨o, _, _, ho, _⟩ := hn
  exact ⟨o, ho⟩
theorem call_isX {X : Cx} {K : PySem.W.Frag} {a : Addr} {cls : Value} {d : Option Addr} {oe : Obj} {pn : List (Addr × Obj)} (hK : X.K = K) (hz : Zc cls d oe) (hf : ∃ vs, oe.data = Data.fields vs) :
    CallR (X.suite a ((a, oe) :: pn)) (.builtin "isinstance") (rIsX K a cls d) := by
  subst hK
  intro pins s σ H xs us Q I r h
  obtain ⟨c, u, D, dd, fs, b, rfl, cv, rfl, C, rfl, ed, kb, q⟩ := h
  cases r with
  | cons rx rr =>
    cases rr with
    | cons rt r2 =>
      cases r2
      cases rx
      rename_i cu
      obtain rfl : cu = u := by
        cases cv with
        | ty n => first | exact rt | exact rt.symm
        | own c => first | exact rt | exact rt.symm
      obtain ⟨hget, _⟩ := I.pin (a, oe) (List.mem_append.mpr (.inl List.mem_cons_self))
      obtain ⟨o, ho⟩ := xd_some (I.hok dd _ ed)
      obtain ⟨vs, hv⟩ := hf
      have J : PySem.W.InstAt s.heap a oe D (some o) := by
        obtain ⟨oc, od, oda, osl⟩ := oe
        obtain ⟨h1, h2⟩ := hz
        cases h1
        cases h2
        cases hv
        exact ⟨hget, rfl, rfl, ho⟩
      exact PySem.W.kia_one (kitx_excX C) I.kIn J kb (fun z => nomatch z) fun tk => ⟨.bl b, H, I.kept (t' := tk) fun _ _ z => z, rfl, q⟩

/-! ### a def (or method) with defaults -/
structure FunV (K : PySem.W.Frag) (x qual : Str) (st : Stmt) (f : Addr) (fd : FuncData) : Prop where
  ex : ∃ (oc : Value) (od : Option Addr) (dV kV doc pm : Value) (an : Option Addr) (cdv ct : Value) (osl : Array (Option Value)),
    fd = PySem.W.fnOf x qual (defArgs st) (defBody st) (defScope st) dV kV doc pm an cdv ct ∧ K.lookup f = some ⟨oc, od, .func fd, osl⟩ ∧ PySem.W.codeIn K cdv qual = true
  kp : PySem.W.keepIn K (.ref f) = true
section
variable {P : Program} {w : World} {K : PySem.W.Frag} {mg : Str → Option Value} {base : Heap}
theorem FunV.ok {x qual : Str} {st : Stmt} {f : Addr} {fd : FuncData} {N ps : List Str} {k : Nat} {sp : Sp} (F : FunV K x qual st f fd) (S : FnScope N ps (defScope st)) (len : ∀ vs H Q E, sp vs H Q E → vs.length = ps.length)
    (hbody : ∀ (cdv : Value) (A : Around) (outer : List Env) (s : Shared) (H : Hp) (vs : List V) (Q : VK) (E : XK), Room k (A.deeper (envOfC qual (defScope st) s.heap.objs.size f cdv)) → sp vs H Q E →
      ∃ t, PSs (cxOf CX0 P w K mg base N qual (defScope st) f cdv A outer s H E).nox (defBody st) t ∧ t { nx := fun _ H' => Q .non H', rt := Q } (start N vs) H) : FnOk P w K mg base CX0 (k + 1) f fd ps sp := by
  obtain ⟨oc, od, dV, kV, doc, pm, an, cdv, ct, osl, rfl, lk, hcd⟩ := F.ex
  refine fn_of lk hcd S len fun A outer s H vs Q E hr hsp => ?_
  obtain ⟨t, h, q⟩ := hbody cdv A outer s H vs Q E hr hsp
  exact ⟨t, h.nox, q⟩
theorem FunV.okX {x qual : Str} {st : Stmt} {f : Addr} {fd : FuncData} {N ps : List Str} {k : Nat} {sp : Sp} (F : FunV K x qual st f fd) (S : FnScope N ps (defScope st)) (len : ∀ vs H Q E, sp vs H Q E → vs.length = ps.length)
    (hbody : ∀ (cdv : Value) (A : Around) (outer : List Env) (s : Shared) (H : Hp) (vs : List V) (Q : VK) (E : XK), Room k (A.deeper (envOfC qual (defScope st) s.heap.objs.size f cdv)) → sp vs H Q E →
      ∃ t, PSs (cxOf (L2.CX P w) P w K mg base N qual (defScope st) f cdv A outer s H E) (defBody st) t ∧ t { nx := fun _ H' => Q .non H', rt := Q } (start N vs) H) : FnOk P w K mg base (L2.CX P w) (k + 1) f fd ps sp := by
  obtain ⟨oc, od, dV, kV, doc, pm, an, cdv, ct, osl, rfl, lk, hcd⟩ := F.ex
  exact fn_of lk hcd S len fun A outer s H vs Q E hr hsp => hbody cdv A outer s H vs Q E hr hsp
theorem funV_mk {x qual : Str} {st : Stmt} {f : Addr} {oc : Value} {od an : Option Addr} {osl : Array (Option Value)} {dV kV doc pm cdv ct : Value} (l : K.lookup f = some ⟨oc, od, .func (PySem.W.fnOf x qual (defArgs st) (defBody st) (defScope st) dV kV doc pm an cdv ct), osl⟩)
    (c : PySem.W.codeIn K cdv qual = true) (k : PySem.W.keepIn K (.ref f) = true) : FunV K x qual st f (PySem.W.fnOf x qual (defArgs st) (defBody st) (defScope st) dV kV doc pm an cdv ct) := ⟨⟨oc, od, dV, kV, doc, pm, an, cdv, ct, osl, rfl, l, c⟩, k⟩
/-- every parameter is given; the defaults are the items of a tuple that is not needed -/
theorem bindsD {fd : FuncData} {ps : List Str} {T : Addr} {o : Obj} {its : Array Value} {n : Nat} (lT : K.lookup T = some o) (oT : o.data = .seq its n)
    (h : ∀ us : List Value, us.length = ps.length → ∃ k, bindArgs fd ⟨us, []⟩ = seqItems? (.ref T) >>= k ∧ k (some its) = pure (ps.zip us)) : Binds K fd ps [] := fun s us X hl => by
  rw [List.append_nil] at hl ⊢
  obtain ⟨k, e1, e2⟩ := h us hl
  refine BindsTo.of_looks fun M => ?_
  rw [e1]
  exact looks_items X lT oT (.of_pure e2)
end
/-- a method with defaults as it stands -/
structure MetAtD (K : PySem.W.Frag) (x qual : Str) (st : Stmt) (ps : List Str) (f : Addr) (fd : FuncData) : Prop where
  F : FunV K x qual st f fd
  b : Binds K fd ps []
/-- a method with keyword-only defaults as it stands -/
structure MetAtK (K : PySem.W.Frag) (x qual : Str) (st : Stmt) (kws : List (Str × V)) (f : Addr) (fd : FuncData) : Prop where
  F : L2.FunD K x qual (defArgs st) (defBody st) (defScope st) [] kws f fd
theorem funK_mk {K : PySem.W.Frag} {x qual : Str} {st : Stmt} {kws : List (Str × V)} {f D : Addr} {oc : Value} {od an : Option Addr} {osl : Array (Option Value)} {doc pm cdv ct : Value} (l : K.lookup f = some ⟨oc, od, .func (PySem.W.fnOf x qual (defArgs st) (defBody st) (defScope st) .none (.ref D) doc pm an cdv ct), osl⟩)
    (c : PySem.W.codeIn K cdv qual = true) (k : PySem.W.keepIn K (.ref f) = true) (h : ∀ q ∈ kws, ∃ u, PySem.W.nsIn K D q.1 = some (some u) ∧ RelV q.2 u) : MetAtK K x qual st kws f (PySem.W.fnOf x qual (defArgs st) (defBody st) (defScope st) .none (.ref D) doc pm an cdv ct) :=
  ⟨⟨⟨oc, od, .none, .ref D, doc, pm, an, cdv, ct, osl, rfl, l, c, .inl ⟨rfl, rfl⟩, .inr ⟨D, rfl, h⟩⟩, k⟩⟩
theorem kw_nil {K : PySem.W.Frag} {D : Addr} : ∀ q ∈ ([] : List (Str × V)), ∃ u, PySem.W.nsIn K D q.1 = some (some u) ∧ RelV q.2 u := fun _ h => nomatch h
theorem kw_cons {K : PySem.W.Frag} {D : Addr} {x : Str} {i : Int} {t : Tok} {r : List (Str × V)} (h : PySem.W.nsIn K D x = some (some (.int i t))) (hr : ∀ q ∈ r, ∃ u, PySem.W.nsIn K D q.1 = some (some u) ∧ RelV q.2 u) :
    ∀ q ∈ (x, V.int i) :: r, ∃ u, PySem.W.nsIn K D q.1 = some (some u) ∧ RelV q.2 u := fun q hq => by
  rcases List.mem_cons.mp hq with e | hq
  · subst e
    exact ⟨_, h, ⟨t, rfl⟩⟩
  · exact hr q hq

local macro_rules | `(tactic| walk_at "num") => `(tactic| first
  | omega
  | (with_reducible exact True.intro)
  | (show (0 : Int) < _; omega)
  | (refine cmul_r ?_; omega)
  | (refine cmul_l ?_; omega)
  | (refine cdiv ?_ ?_ <;> omega)
  | (refine cpow ?_ ?_ ?_ <;> decide)
  | (simp only [List.length_cons, List.length_nil, List.length_append, List.length_take, List.length_drop, List.length_map]; omega))
local macro_rules | `(tactic| walk_at "look") => `(tactic| first
  | assumption
  | exact upd_same
  | (rw [upd_ne (by assumption)]; assumption)
  | (rw [upd_ne (by first | assumption | (apply Ne.symm; assumption))]; first | assumption | exact upd_same))
local macro_rules | `(tactic| walk_at "go") => `(tactic| repeat (first
  | (refine ⟨_, rfl, ?_⟩)
  | (refine ⟨_, _, rfl, rfl, ?_⟩)
  | (refine ⟨_, _, _, _, rfl, rfl, SqL.of (by walk_at "look"), rfl, ?_⟩)
  | (refine ⟨_, _, _, _, rfl, rfl, by walk_at "look", rfl, ?_⟩)
  | (refine ⟨_, _, rfl, .inl (SqL.of (by walk_at "look")), ?_⟩)
  | (refine ⟨rfl, _, rfl, ?_⟩)
  | (refine ⟨_, _, _, _, _, rfl, by walk_at "look", by assumption, by assumption, rfl, ?_⟩)
  | (refine And.intro (Or.inl ⟨rfl, _, SqL.of (by walk_at "look")⟩) ?_)
  | (refine And.intro ⟨_, rfl⟩ ?_)
  | (refine Or.inl ⟨_, rfl, ?_⟩)
  | (refine And.intro (by walk_at "num") ?_)))
def topS (i : Nat) : Stmt := PySem.Challenge.pw_slitstairs_k02_whole_heights_places_and.main.body.getD i (.Pass ⟨0, 0, 0, 0⟩)
abbrev s_is_number : Stmt := topS 7
abbrev N_is_number : List Str := ["thing"]
abbrev P_is_number : List Str := ["thing"]
theorem sc_is_number : FnScope N_is_number P_is_number (defScope s_is_number) := ⟨rfl, rfl, rfl, by decide +kernel, rfl, by decide +kernel, by decide +kernel⟩
abbrev s_is_whole : Stmt := topS 8
abbrev N_is_whole : List Str := ["thing", "low", "high"]
abbrev P_is_whole : List Str := ["thing", "low", "high"]
theorem sc_is_whole : FnScope N_is_whole P_is_whole (defScope s_is_whole) := ⟨rfl, rfl, rfl, by decide +kernel, rfl, by decide +kernel, by decide +kernel⟩
abbrev s_is_sequence : Stmt := topS 9
abbrev N_is_sequence : List Str := ["thing"]
abbrev P_is_sequence : List Str := ["thing"]
theorem sc_is_sequence : FnScope N_is_sequence P_is_sequence (defScope s_is_sequence) := ⟨rfl, rfl, rfl, by decide +kernel, rfl, by decide +kernel, by decide +kernel⟩
abbrev s_word_fault : Stmt := topS 10
abbrev N_word_fault : List Str := ["thing", "boundary", "ahead", "letter"]
abbrev P_word_fault : List Str := ["thing"]
theorem sc_word_fault : FnScope N_word_fault P_word_fault (defScope s_word_fault) := ⟨rfl, rfl, rfl, by decide +kernel, rfl, by decide +kernel, by decide +kernel⟩
abbrev s_heights_fault : Stmt := topS 11
abbrev N_heights_fault : List Str := ["heights", "index", "height"]
abbrev P_heights_fault : List Str := ["heights"]
theorem sc_heights_fault : FnScope N_heights_fault P_heights_fault (defScope s_heights_fault) := ⟨rfl, rfl, rfl, by decide +kernel, rfl, by decide +kernel, by decide +kernel⟩
abbrev s_l_mix : Stmt := topS 14
abbrev N_l_mix : List Str := ["_law_number", "_law_turn", "_law_once", "_law_twice"]
abbrev P_l_mix : List Str := ["_law_number", "_law_turn"]
theorem sc_l_mix : FnScope N_l_mix P_l_mix (defScope s_l_mix) := ⟨rfl, rfl, rfl, by decide +kernel, rfl, by decide +kernel, by decide +kernel⟩
abbrev s_l_hand : Stmt := topS 15
abbrev N_l_hand : List Str := ["_law_script", "_law_total", "_law_k", "_law_cell"]
abbrev P_l_hand : List Str := ["_law_script"]
theorem sc_l_hand : FnScope N_l_hand P_l_hand (defScope s_l_hand) := ⟨rfl, rfl, rfl, by decide +kernel, rfl, by decide +kernel, by decide +kernel⟩
abbrev s_l_draw : Stmt := topS 16
abbrev N_l_draw : List Str := ["_law_hand_here", "_law_many", "_law_cell", "_law_rest"]
abbrev P_l_draw : List Str := ["_law_hand_here", "_law_many"]
theorem sc_l_draw : FnScope N_l_draw P_l_draw (defScope s_l_draw) := ⟨rfl, rfl, rfl, by decide +kernel, rfl, by decide +kernel, by decide +kernel⟩
abbrev s_l_word : Stmt := topS 17
abbrev N_l_word : List Str := ["_law_hand_here", "_law_size", "_law_word_here", "_law_height", "_law_t", "_law_may_out", "_law_may_down"]
abbrev P_l_word : List Str := ["_law_hand_here", "_law_size"]
theorem sc_l_word : FnScope N_l_word P_l_word (defScope s_l_word) := ⟨rfl, rfl, rfl, by decide +kernel, rfl, by decide +kernel, by decide +kernel⟩
abbrev s_l_near : Stmt := topS 18
abbrev N_l_near : List Str := ["_law_hand_here", "_law_word_here", "_law_t", "_law_turned", "_law_height", "_law_letter"]
abbrev P_l_near : List Str := ["_law_hand_here", "_law_word_here"]
theorem sc_l_near : FnScope N_l_near P_l_near (defScope s_l_near) := ⟨rfl, rfl, rfl, by decide +kernel, rfl, by decide +kernel, by decide +kernel⟩
abbrev s_l_heights : Stmt := topS 19
abbrev N_l_heights : List Str := ["_law_word_here", "_law_heights_here", "_law_letter"]
abbrev P_l_heights : List Str := ["_law_word_here"]
theorem sc_l_heights : FnScope N_l_heights P_l_heights (defScope s_l_heights) := ⟨rfl, rfl, rfl, by decide +kernel, rfl, by decide +kernel, by decide +kernel⟩
abbrev s_l_bends : Stmt := topS 20
abbrev N_l_bends : List Str := ["_law_word_here", "_law_found", "_law_t"]
abbrev P_l_bends : List Str := ["_law_word_here"]
theorem sc_l_bends : FnScope N_l_bends P_l_bends (defScope s_l_bends) := ⟨rfl, rfl, rfl, by decide +kernel, rfl, by decide +kernel, by decide +kernel⟩
abbrev s_l_runs : Stmt := topS 21
abbrev N_l_runs : List Str := ["_law_bends_here", "_law_word_here", "_law_ends", "_law_k", "_law_bend"]
abbrev P_l_runs : List Str := ["_law_bends_here", "_law_word_here"]
theorem sc_l_runs : FnScope N_l_runs P_l_runs (defScope s_l_runs) := ⟨rfl, rfl, rfl, by decide +kernel, rfl, by decide +kernel, by decide +kernel⟩
abbrev s_l_refused : Stmt := topS 22
abbrev N_l_refused : List Str := ["_law_column", "_law_boundary", "_law_way", "_law_told", "e"]
abbrev P_l_refused : List Str := ["_law_column", "_law_boundary", "_law_way"]
theorem sc_l_refused : FnScope N_l_refused P_l_refused (defScope s_l_refused) := ⟨rfl, rfl, rfl, by decide +kernel, rfl, by decide +kernel, by decide +kernel⟩
abbrev s_l_numbers : Stmt := topS 23
abbrev N_l_numbers : List Str := ["_law_rows", "_law_row"]
abbrev P_l_numbers : List Str := ["_law_rows"]
theorem sc_l_numbers : FnScope N_l_numbers P_l_numbers (defScope s_l_numbers) := ⟨rfl, rfl, rfl, by decide +kernel, rfl, by decide +kernel, by decide +kernel⟩
abbrev s_l_right : Stmt := topS 24
abbrev N_l_right : List Str := ["_law_column", "_law_word_here", "_law_size", "_law_heights_here", "_law_x", "_law_y", "_law_t", "_law_told", "_law_bends_here"]
abbrev P_l_right : List Str := ["_law_column", "_law_word_here"]
theorem sc_l_right : FnScope N_l_right P_l_right (defScope s_l_right) := ⟨rfl, rfl, rfl, by decide +kernel, rfl, by decide +kernel, by decide +kernel⟩
abbrev s_law : Stmt := topS 25
abbrev N_law : List Str := ["_law_script", "_law_hand_here", "_law_word_here", "_law_other", "_law_one", "_law_two", "_law_column", "_law_letters", "_law_turned", "_law_mirror", "_law_rows", "_law_kept", "_law_back", "_law_far", "_law_way", "_law_told", "_law_good", "_law_letter"]
abbrev P_law : List Str := ["_law_script"]
theorem sc_law : FnScope N_law P_law (defScope s_law) := ⟨rfl, rfl, rfl, by decide +kernel, rfl, by decide +kernel, by decide +kernel⟩
abbrev s_BadColumn___init__ : Stmt := inClass (topS 2) 0
abbrev N_BadColumn___init__ : List Str := ["self", "what"]
abbrev P_BadColumn___init__ : List Str := ["self", "what"]
theorem sc_BadColumn___init__ : FnScope N_BadColumn___init__ P_BadColumn___init__ (defScope s_BadColumn___init__) := ⟨rfl, rfl, rfl, by decide +kernel, rfl, by decide +kernel, by decide +kernel⟩
abbrev s_BadBoundary___init__ : Stmt := inClass (topS 3) 0
abbrev N_BadBoundary___init__ : List Str := ["self", "boundary"]
abbrev P_BadBoundary___init__ : List Str := ["self", "boundary"]
theorem sc_BadBoundary___init__ : FnScope N_BadBoundary___init__ P_BadBoundary___init__ (defScope s_BadBoundary___init__) := ⟨rfl, rfl, rfl, by decide +kernel, rfl, by decide +kernel, by decide +kernel⟩
abbrev s_BadHeights___init__ : Stmt := inClass (topS 4) 0
abbrev N_BadHeights___init__ : List Str := ["self", "index", "what"]
abbrev P_BadHeights___init__ : List Str := ["self", "index", "what"]
theorem sc_BadHeights___init__ : FnScope N_BadHeights___init__ P_BadHeights___init__ (defScope s_BadHeights___init__) := ⟨rfl, rfl, rfl, by decide +kernel, rfl, by decide +kernel, by decide +kernel⟩
abbrev s_Column___init__ : Stmt := inClass (topS 12) 0
abbrev N_Column___init__ : List Str := ["self", "word", "fault"]
abbrev P_Column___init__ : List Str := ["self", "word"]
theorem sc_Column___init__ : FnScope N_Column___init__ P_Column___init__ (defScope s_Column___init__) := ⟨rfl, rfl, rfl, by decide +kernel, rfl, by decide +kernel, by decide +kernel⟩
abbrev s_Column_of_heights : Stmt := inClass (topS 12) 1
abbrev N_Column_of_heights : List Str := ["heights", "fault", "step"]
abbrev P_Column_of_heights : List Str := ["heights"]
theorem sc_Column_of_heights : FnScope N_Column_of_heights P_Column_of_heights (defScope s_Column_of_heights) := ⟨rfl, rfl, rfl, by decide +kernel, rfl, by decide +kernel, by decide +kernel⟩
abbrev s_Column_many : Stmt := inClass (topS 12) 2
abbrev N_Column_many : List Str := ["self", "letter", "boundary"]
abbrev P_Column_many : List Str := ["self", "letter", "boundary"]
theorem sc_Column_many : FnScope N_Column_many P_Column_many (defScope s_Column_many) := ⟨rfl, rfl, rfl, by decide +kernel, rfl, by decide +kernel, by decide +kernel⟩
abbrev s_Column_place : Stmt := inClass (topS 12) 3
abbrev N_Column_place : List Str := ["self", "boundary"]
abbrev P_Column_place : List Str := ["self", "boundary"]
theorem sc_Column_place : FnScope N_Column_place P_Column_place (defScope s_Column_place) := ⟨rfl, rfl, rfl, by decide +kernel, rfl, by decide +kernel, by decide +kernel⟩
abbrev s_Column_height : Stmt := inClass (topS 12) 4
abbrev N_Column_height : List Str := ["self", "boundary"]
abbrev P_Column_height : List Str := ["self", "boundary"]
theorem sc_Column_height : FnScope N_Column_height P_Column_height (defScope s_Column_height) := ⟨rfl, rfl, rfl, by decide +kernel, rfl, by decide +kernel, by decide +kernel⟩
abbrev s_Column_places : Stmt := inClass (topS 12) 5
abbrev N_Column_places : List Str := ["self", "boundary", "height"]
abbrev P_Column_places : List Str := ["self"]
theorem sc_Column_places : FnScope N_Column_places P_Column_places (defScope s_Column_places) := ⟨rfl, rfl, rfl, by decide +kernel, rfl, by decide +kernel, by decide +kernel⟩
abbrev s_Column_heights : Stmt := inClass (topS 12) 6
abbrev N_Column_heights : List Str := ["self", "found", "letter"]
abbrev P_Column_heights : List Str := ["self"]
theorem sc_Column_heights : FnScope N_Column_heights P_Column_heights (defScope s_Column_heights) := ⟨rfl, rfl, rfl, by decide +kernel, rfl, by decide +kernel, by decide +kernel⟩
abbrev s_Column_runs : Stmt := inClass (topS 12) 7
abbrev N_Column_runs : List Str := ["self", "found", "first", "boundary"]
abbrev P_Column_runs : List Str := ["self"]
theorem sc_Column_runs : FnScope N_Column_runs P_Column_runs (defScope s_Column_runs) := ⟨rfl, rfl, rfl, by decide +kernel, rfl, by decide +kernel, by decide +kernel⟩
abbrev s_Column_creases : Stmt := inClass (topS 12) 8
abbrev N_Column_creases : List Str := ["self", "boundary"]
abbrev P_Column_creases : List Str := ["self"]
theorem sc_Column_creases : FnScope N_Column_creases P_Column_creases (defScope s_Column_creases) := ⟨rfl, rfl, rfl, by decide +kernel, rfl, by decide +kernel, by decide +kernel⟩
abbrev s_Column_hollows : Stmt := inClass (topS 12) 9
abbrev N_Column_hollows : List Str := ["self", "boundary", "kind"]
abbrev P_Column_hollows : List Str := ["self"]
theorem sc_Column_hollows : FnScope N_Column_hollows P_Column_hollows (defScope s_Column_hollows) := ⟨rfl, rfl, rfl, by decide +kernel, rfl, by decide +kernel, by decide +kernel⟩
abbrev s_Column_ridges : Stmt := inClass (topS 12) 10
abbrev N_Column_ridges : List Str := ["self", "boundary", "kind"]
abbrev P_Column_ridges : List Str := ["self"]
theorem sc_Column_ridges : FnScope N_Column_ridges P_Column_ridges (defScope s_Column_ridges) := ⟨rfl, rfl, rfl, by decide +kernel, rfl, by decide +kernel, by decide +kernel⟩
abbrev s_Column_mirrored : Stmt := inClass (topS 12) 11
abbrev N_Column_mirrored : List Str := ["self", "letter"]
abbrev P_Column_mirrored : List Str := ["self"]
theorem sc_Column_mirrored : FnScope N_Column_mirrored P_Column_mirrored (defScope s_Column_mirrored) := ⟨rfl, rfl, rfl, by decide +kernel, rfl, by decide +kernel, by decide +kernel⟩
abbrev s_Column___eq__ : Stmt := inClass (topS 12) 12
abbrev N_Column___eq__ : List Str := ["self", "other"]
abbrev P_Column___eq__ : List Str := ["self", "other"]
theorem sc_Column___eq__ : FnScope N_Column___eq__ P_Column___eq__ (defScope s_Column___eq__) := ⟨rfl, rfl, rfl, by decide +kernel, rfl, by decide +kernel, by decide +kernel⟩
abbrev s_Column___str__ : Stmt := inClass (topS 12) 13
abbrev N_Column___str__ : List Str := ["self"]
abbrev P_Column___str__ : List Str := ["self"]
theorem sc_Column___str__ : FnScope N_Column___str__ P_Column___str__ (defScope s_Column___str__) := ⟨rfl, rfl, rfl, by decide +kernel, rfl, by decide +kernel, by decide +kernel⟩
abbrev s_Column___len__ : Stmt := inClass (topS 12) 14
abbrev N_Column___len__ : List Str := ["self"]
abbrev P_Column___len__ : List Str := ["self"]
theorem sc_Column___len__ : FnScope N_Column___len__ P_Column___len__ (defScope s_Column___len__) := ⟨rfl, rfl, rfl, by decide +kernel, rfl, by decide +kernel, by decide +kernel⟩
abbrev s_Column___iter__ : Stmt := inClass (topS 12) 15
abbrev N_Column___iter__ : List Str := ["self"]
abbrev P_Column___iter__ : List Str := ["self"]
theorem sc_Column___iter__ : FnScope N_Column___iter__ P_Column___iter__ (defScope s_Column___iter__) := ⟨rfl, rfl, rfl, by decide +kernel, rfl, by decide +kernel, by decide +kernel⟩
structure Ads where
  f_is_number : Addr
  d_is_number : FuncData
  f_is_whole : Addr
  d_is_whole : FuncData
  f_is_sequence : Addr
  d_is_sequence : FuncData
  f_word_fault : Addr
  d_word_fault : FuncData
  f_heights_fault : Addr
  d_heights_fault : FuncData
  f_l_mix : Addr
  d_l_mix : FuncData
  f_l_hand : Addr
  d_l_hand : FuncData
  f_l_draw : Addr
  d_l_draw : FuncData
  f_l_word : Addr
  d_l_word : FuncData
  f_l_near : Addr
  d_l_near : FuncData
  f_l_heights : Addr
  d_l_heights : FuncData
  f_l_bends : Addr
  d_l_bends : FuncData
  f_l_runs : Addr
  d_l_runs : FuncData
  f_l_refused : Addr
  d_l_refused : FuncData
  f_l_numbers : Addr
  d_l_numbers : FuncData
  f_l_right : Addr
  d_l_right : FuncData
  f_law : Addr
  d_law : FuncData
  f_BadColumn___init__ : Addr
  d_BadColumn___init__ : FuncData
  f_BadBoundary___init__ : Addr
  d_BadBoundary___init__ : FuncData
  f_BadHeights___init__ : Addr
  d_BadHeights___init__ : FuncData
  f_Column___init__ : Addr
  d_Column___init__ : FuncData
  f_Column_of_heights : Addr
  d_Column_of_heights : FuncData
  f_Column_many : Addr
  d_Column_many : FuncData
  f_Column_place : Addr
  d_Column_place : FuncData
  f_Column_height : Addr
  d_Column_height : FuncData
  f_Column_places : Addr
  d_Column_places : FuncData
  f_Column_heights : Addr
  d_Column_heights : FuncData
  f_Column_runs : Addr
  d_Column_runs : FuncData
  f_Column_creases : Addr
  d_Column_creases : FuncData
  f_Column_hollows : Addr
  d_Column_hollows : FuncData
  f_Column_ridges : Addr
  d_Column_ridges : FuncData
  f_Column_mirrored : Addr
  d_Column_mirrored : FuncData
  f_Column___eq__ : Addr
  d_Column___eq__ : FuncData
  f_Column___str__ : Addr
  d_Column___str__ : FuncData
  f_Column___len__ : Addr
  d_Column___len__ : FuncData
  f_Column___iter__ : Addr
  d_Column___iter__ : FuncData
  C_CardError : Addr
  C_BadColumn : Addr
  C_BadBoundary : Addr
  C_BadHeights : Addr
  C_Column : Addr
  p_Column_of_heights : Addr
  p_Column_places : Addr
  p_Column_heights : Addr
  p_Column_runs : Addr
  p_Column_creases : Addr
  p_Column_hollows : Addr
  p_Column_ridges : Addr
structure Top (K : PySem.W.Frag) (mg : Str → Option Value) (A : Ads) : Prop where
  D_is_number : DefAt K mg "is_number" s_is_number P_is_number A.f_is_number A.d_is_number
  D_is_whole : DefAt K mg "is_whole" s_is_whole P_is_whole A.f_is_whole A.d_is_whole
  D_is_sequence : DefAt K mg "is_sequence" s_is_sequence P_is_sequence A.f_is_sequence A.d_is_sequence
  D_word_fault : DefAt K mg "word_fault" s_word_fault P_word_fault A.f_word_fault A.d_word_fault
  D_heights_fault : DefAt K mg "heights_fault" s_heights_fault P_heights_fault A.f_heights_fault A.d_heights_fault
  D_l_mix : DefAt K mg "_law_mix" s_l_mix P_l_mix A.f_l_mix A.d_l_mix
  D_l_hand : DefAt K mg "_law_hand" s_l_hand P_l_hand A.f_l_hand A.d_l_hand
  D_l_draw : DefAt K mg "_law_draw" s_l_draw P_l_draw A.f_l_draw A.d_l_draw
  D_l_word : DefAt K mg "_law_word" s_l_word P_l_word A.f_l_word A.d_l_word
  D_l_near : DefAt K mg "_law_near" s_l_near P_l_near A.f_l_near A.d_l_near
  D_l_heights : DefAt K mg "_law_heights" s_l_heights P_l_heights A.f_l_heights A.d_l_heights
  D_l_bends : DefAt K mg "_law_bends" s_l_bends P_l_bends A.f_l_bends A.d_l_bends
  D_l_runs : DefAt K mg "_law_runs" s_l_runs P_l_runs A.f_l_runs A.d_l_runs
  D_l_refused : DefAt K mg "_law_refused" s_l_refused P_l_refused A.f_l_refused A.d_l_refused
  D_l_numbers : DefAt K mg "_law_numbers" s_l_numbers P_l_numbers A.f_l_numbers A.d_l_numbers
  D_l_right : DefAt K mg "_law_right" s_l_right P_l_right A.f_l_right A.d_l_right
  D_law : DefAt K mg "law" s_law P_law A.f_law A.d_law
  D_BadColumn___init__ : MetAt K "__init__" "BadColumn.__init__" s_BadColumn___init__ P_BadColumn___init__ A.f_BadColumn___init__ A.d_BadColumn___init__
  D_BadBoundary___init__ : MetAt K "__init__" "BadBoundary.__init__" s_BadBoundary___init__ P_BadBoundary___init__ A.f_BadBoundary___init__ A.d_BadBoundary___init__
  D_BadHeights___init__ : MetAt K "__init__" "BadHeights.__init__" s_BadHeights___init__ P_BadHeights___init__ A.f_BadHeights___init__ A.d_BadHeights___init__
  D_Column___init__ : MetAt K "__init__" "Column.__init__" s_Column___init__ P_Column___init__ A.f_Column___init__ A.d_Column___init__
  D_Column_of_heights : MetAt K "of_heights" "Column.of_heights" s_Column_of_heights P_Column_of_heights A.f_Column_of_heights A.d_Column_of_heights
  D_Column_many : MetAt K "many" "Column.many" s_Column_many P_Column_many A.f_Column_many A.d_Column_many
  D_Column_place : MetAt K "place" "Column.place" s_Column_place P_Column_place A.f_Column_place A.d_Column_place
  D_Column_height : MetAt K "height" "Column.height" s_Column_height P_Column_height A.f_Column_height A.d_Column_height
  D_Column_places : MetAt K "places" "Column.places" s_Column_places P_Column_places A.f_Column_places A.d_Column_places
  D_Column_heights : MetAt K "heights" "Column.heights" s_Column_heights P_Column_heights A.f_Column_heights A.d_Column_heights
  D_Column_runs : MetAt K "runs" "Column.runs" s_Column_runs P_Column_runs A.f_Column_runs A.d_Column_runs
  D_Column_creases : MetAt K "creases" "Column.creases" s_Column_creases P_Column_creases A.f_Column_creases A.d_Column_creases
  D_Column_hollows : MetAt K "hollows" "Column.hollows" s_Column_hollows P_Column_hollows A.f_Column_hollows A.d_Column_hollows
  D_Column_ridges : MetAt K "ridges" "Column.ridges" s_Column_ridges P_Column_ridges A.f_Column_ridges A.d_Column_ridges
  D_Column_mirrored : MetAt K "mirrored" "Column.mirrored" s_Column_mirrored P_Column_mirrored A.f_Column_mirrored A.d_Column_mirrored
  D_Column___eq__ : MetAt K "__eq__" "Column.__eq__" s_Column___eq__ P_Column___eq__ A.f_Column___eq__ A.d_Column___eq__
  D_Column___str__ : MetAt K "__str__" "Column.__str__" s_Column___str__ P_Column___str__ A.f_Column___str__ A.d_Column___str__
  D_Column___len__ : MetAt K "__len__" "Column.__len__" s_Column___len__ P_Column___len__ A.f_Column___len__ A.d_Column___len__
  D_Column___iter__ : MetAt K "__iter__" "Column.__iter__" s_Column___iter__ P_Column___iter__ A.f_Column___iter__ A.d_Column___iter__
  g_CardError : mg "CardError" = some (.ref A.C_CardError)
  x_BadColumn : ExC K mg "BadColumn" A.C_BadColumn A.f_BadColumn___init__
  g_BadColumn : mg "BadColumn" = some (.ref A.C_BadColumn)
  n_BadColumn_what : PySem.W.findIn K (.ref A.C_BadColumn) "what" = some none
  up_BadColumn_CardError : PySem.W.exmOne K (.ref A.C_BadColumn) (.ref A.C_CardError) = some true
  x_BadBoundary : ExC K mg "BadBoundary" A.C_BadBoundary A.f_BadBoundary___init__
  g_BadBoundary : mg "BadBoundary" = some (.ref A.C_BadBoundary)
  n_BadBoundary_boundary : PySem.W.findIn K (.ref A.C_BadBoundary) "boundary" = some none
  up_BadBoundary_CardError : PySem.W.exmOne K (.ref A.C_BadBoundary) (.ref A.C_CardError) = some true
  x_BadHeights : ExC K mg "BadHeights" A.C_BadHeights A.f_BadHeights___init__
  g_BadHeights : mg "BadHeights" = some (.ref A.C_BadHeights)
  n_BadHeights_index : PySem.W.findIn K (.ref A.C_BadHeights) "index" = some none
  n_BadHeights_what : PySem.W.findIn K (.ref A.C_BadHeights) "what" = some none
  up_BadHeights_CardError : PySem.W.exmOne K (.ref A.C_BadHeights) (.ref A.C_CardError) = some true
  g_Column : mg "Column" = some (.ref A.C_Column)
  cl_Column : Cls K A.C_Column
  i1_Column : PySem.W.findIn K (.ref A.C_Column) "__class__" = some (some (.builtin "object.__class__"))
  i4_Column : PySem.W.mroIn K A.C_Column (.type "object") = some true
  ii_Column : PySem.W.kitOne K (.ref A.C_Column) (.ref A.C_Column) = some true
  it_str_Column : PySem.W.kitOne K (.type "str") (.ref A.C_Column) = some false
  it_int_Column : PySem.W.kitOne K (.type "int") (.ref A.C_Column) = some false
  it_bool_Column : PySem.W.kitOne K (.type "bool") (.ref A.C_Column) = some false
  it_NoneType_Column : PySem.W.kitOne K (.type "NoneType") (.ref A.C_Column) = some false
  it_list_Column : PySem.W.kitOne K (.type "list") (.ref A.C_Column) = some false
  it_tuple_Column : PySem.W.kitOne K (.type "tuple") (.ref A.C_Column) = some false
  it_dict_Column : PySem.W.kitOne K (.type "dict") (.ref A.C_Column) = some false
  ti_Column_str : PySem.W.kitOne K (.ref A.C_Column) (.type "str") = some false
  ti_Column_int : PySem.W.kitOne K (.ref A.C_Column) (.type "int") = some false
  ti_Column_bool : PySem.W.kitOne K (.ref A.C_Column) (.type "bool") = some false
  ti_Column_list : PySem.W.kitOne K (.ref A.C_Column) (.type "list") = some false
  ti_Column_tuple : PySem.W.kitOne K (.ref A.C_Column) (.type "tuple") = some false
  subt_Column : PySem.W.subIn K (.type "tuple") (.ref A.C_Column) = some false
  subl_Column : PySem.W.subIn K (.type "list") (.ref A.C_Column) = some false
  sub_Column : PySem.W.subIn K (.type "str") (.ref A.C_Column) = some false
  ne_Column : NeC K A.C_Column
  cr_Column : ClX.CRead K A.C_Column (.type "type")
  mk_Column : Mk K A.C_Column A.f_Column___init__
  n_Column_word : NoAttr K A.C_Column "word"
  n_Column_size : NoAttr K A.C_Column "size"
  st_Column_of_heights : SMet K A.C_Column (.type "type") "of_heights" A.p_Column_of_heights A.f_Column_of_heights
  o_Column_many : OwnM K A.C_Column "many" A.f_Column_many
  m_Column_many : Meth K A.C_Column "many" A.f_Column_many
  o_Column_place : OwnM K A.C_Column "place" A.f_Column_place
  m_Column_place : Meth K A.C_Column "place" A.f_Column_place
  o_Column_height : OwnM K A.C_Column "height" A.f_Column_height
  m_Column_height : Meth K A.C_Column "height" A.f_Column_height
  p_Column_places : PropOf K A.C_Column "places" A.p_Column_places A.f_Column_places
  p_Column_heights : PropOf K A.C_Column "heights" A.p_Column_heights A.f_Column_heights
  p_Column_runs : PropOf K A.C_Column "runs" A.p_Column_runs A.f_Column_runs
  p_Column_creases : PropOf K A.C_Column "creases" A.p_Column_creases A.f_Column_creases
  p_Column_hollows : PropOf K A.C_Column "hollows" A.p_Column_hollows A.f_Column_hollows
  p_Column_ridges : PropOf K A.C_Column "ridges" A.p_Column_ridges A.f_Column_ridges
  o_Column_mirrored : OwnM K A.C_Column "mirrored" A.f_Column_mirrored
  m_Column_mirrored : Meth K A.C_Column "mirrored" A.f_Column_mirrored
  o_Column___eq__ : OwnM K A.C_Column "__eq__" A.f_Column___eq__
  m_Column___eq__ : Meth K A.C_Column "__eq__" A.f_Column___eq__
  o_Column___str__ : OwnM K A.C_Column "__str__" A.f_Column___str__
  m_Column___str__ : Meth K A.C_Column "__str__" A.f_Column___str__
  o_Column___len__ : OwnM K A.C_Column "__len__" A.f_Column___len__
  m_Column___len__ : Meth K A.C_Column "__len__" A.f_Column___len__
  o_Column___iter__ : OwnM K A.C_Column "__iter__" A.f_Column___iter__
  m_Column___iter__ : Meth K A.C_Column "__iter__" A.f_Column___iter__
  c_MOST_SIZE : ∃ t, mg "MOST_SIZE" = some (.int 6 t)
  i2 : PySem.W.specialIn K (.builtin "object.__class__") "__get__" = some (some (.builtin "getset_descriptor.__get__"))
  i3 : PySem.W.takesIn K (.builtin "object.__class__") = some true
  b_ValueError : mg "ValueError" = none
  b_abs : mg "abs" = none
  b_all : mg "all" = none
  b_bool : mg "bool" = none
  b_enumerate : mg "enumerate" = none
  b_int : mg "int" = none
  b_isinstance : mg "isinstance" = none
  b_iter : mg "iter" = none
  b_len : mg "len" = none
  b_list : mg "list" = none
  b_property : mg "property" = none
  b_range : mg "range" = none
  b_staticmethod : mg "staticmethod" = none
  b_str : mg "str" = none
  b_tuple : mg "tuple" = none


section
variable {P : Program} {w : World} {K : PySem.W.Frag} {mg : Str → Option Value} {base : Heap} {AD : Ads}
def spMix : Sp := fun vs H Q _ => ∃ n t : Int, vs = [.int n, .int t] ∧ (0 ≤ n ∧ n < 2147483648) ∧ (0 ≤ t ∧ t < 1000) ∧ ∀ r : Int, 0 ≤ r → Q (.int r) H
theorem ok_l_mix (T : Top K mg AD) : FnOk P w K mg base CX0 1 AD.f_l_mix AD.d_l_mix P_l_mix spMix := by
  refine T.D_l_mix.F.ok sc_l_mix (fun vs H Q E h => ?_) (fun cdv A outer s H vs Q E hr h => ?_)
  · obtain ⟨n, t, rfl, _⟩ := h
    rfl
  · obtain ⟨n, t, rfl, hn, ht, q⟩ := h
    refine ⟨_, (pss_cons (ps_set (i := 2) sc_l_mix.nd rfl (Or.inl rfl) (pe_op op_mod (pe_callTy call_int1 (by rfl) T.b_int (by decide +kernel) (pa_cons (pe_op op_add (pe_op op_add (pe_op op_mul (pv 0) pe_int) (pe_op op_mul (pv 1) pe_int)) pe_int) pa_nil)) pe_int))
    (pss_cons (ps_set (i := 3) sc_l_mix.nd rfl (Or.inl rfl) (pe_op op_mod (pe_callTy call_int1 (by rfl) T.b_int (by decide +kernel) (pa_cons (pe_op op_add (pe_op op_add (pe_op op_mul (pv 2) (pv 2)) (pe_op op_mul (pe_op op_fdiv (pv 2) pe_int) pe_int)) (pe_op op_mul (pv 1) pe_int)) pa_nil)) pe_int))
    (pss_one (ps_ret (pe_op op_fdiv (pe_op op_mod (pe_callTy call_int1 (by rfl) T.b_int (by decide +kernel) (pa_cons (pe_op op_add (pe_op op_fdiv (pe_op op_mul (pv 3) (pv 3)) pe_int) (pv 2)) pa_nil)) pe_int) pe_int))))), ?_⟩
    walk_at "go"
    exact q _ (by omega)
def spDraw : Sp := fun vs H Q _ => ∃ (a : Addr) (m : Int), vs = [.ref a, .int m] ∧ HandOk H a ∧ CDivW 0 m ∧ ∀ (d : Int) H', 0 ≤ d → d < m → But a H H' → HandOk H' a → Q (.int d) H'
/-! the rest of a draw: from the pending number on -/
set_option hygiene false in
local macro_rules | `(tactic| walk_at "tail") => `(tactic| (
    walk_at "go"
    refine ite2 (fun e => ?_) (fun e => ?_)
    · have e0 := of_decide_eq_true e
      walk_at "go"
      refine And.intro hm ?_
      walk_at "go"
      refine And.intro hm.1 ?_
      refine q _ _ (Int.emod_nonneg _ (by have := hm.1; omega)) (Int.emod_lt_of_pos _ hm.1) (But.upd hb) (HandOk.mk hal el (But.upd hb) upd_same hp hl hc (Int.ediv_nonneg (by omega) (by have := hm.1; omega)) ht)
    · walk_at "go"
      refine ⟨_, _, rfl, ⟨by omega, by omega⟩, ⟨by omega, by omega⟩, fun r hr0 => ?_⟩
      walk_at "go"
      refine And.intro hm.1 ?_
      refine q _ _ (Int.emod_nonneg _ (by have := hm.1; omega)) (Int.emod_lt_of_pos _ hm.1) (But.upd hb) (HandOk.mk hal el (But.upd hb) upd_same hp hl hc (by omega) (by omega))))

theorem ok_l_draw (T : Top K mg AD) : FnOk P w K mg base CX0 2 AD.f_l_draw AD.d_l_draw P_l_draw spDraw := by
  refine T.D_l_draw.F.ok sc_l_draw (fun vs H Q E h => ?_) (fun cdv A outer s H vs Q E hr h => ?_)
  · obtain ⟨n, t, rfl, _⟩ := h
    rfl
  · obtain ⟨a, m, rfl, hh, hm, q⟩ := h
    refine ⟨_, (pss_cons (ps_if (PW.pt (pw_and (pt_cmpR op_eq (pe_ix (ix_listK (K := K) rfl) (pv 0) pe_int (fun _ _ => rfl)) pe_int (nomark _)) (pw_and1 (pt_cmpR op_lt (pe_ix (ix_listK (K := K) rfl) (pv 0) pe_int (fun _ _ => rfl)) (pe_callB (call_lenQ (K := K) rfl) (by rfl) T.b_len (by decide +kernel) (pa_cons (pe_ix (ix_listK (K := K) rfl) (pv 0) pe_int (fun _ _ => rfl)) pa_nil)) (nomark _)))))
    (pss_cons (ps_set (i := 2) sc_l_draw.nd rfl (Or.inl rfl) (pe_ix (ix_listK (K := K) rfl) (pe_ix (ix_listK (K := K) rfl) (pv 0) pe_int (fun _ _ => rfl)) (pe_ix (ix_listK (K := K) rfl) (pv 0) pe_int (fun _ _ => rfl)) (fun _ _ => rfl)))
    (pss_cons (ps_asg (pe_op op_add (pe_ix (ix_listK (K := K) rfl) (pv 0) pe_int (fun _ _ => rfl)) pe_int) (pg_sub (pv 0) pe_int set_list))
    (pss_cons (ps_if (pt_cmpR op_lt (pv 2) (pe_op op_pow pe_int pe_int) (nomark _))
    (pss_one (ps_ret (pe_op op_mod (pe_callTy call_int1 (by rfl) T.b_int (by decide +kernel) (pa_cons (callD T.D_l_mix (ok_l_mix T) hr (pa_cons (pe_op op_mod (pe_callTy call_int1 (by rfl) T.b_int (by decide +kernel) (pa_cons (pv 2) pa_nil)) pe_int) (pa_cons (pe_ix (ix_listK (K := K) rfl) (pv 0) pe_int (fun _ _ => rfl)) pa_nil))) pa_nil)) (pv 1))))
    pss_nil)
    (pss_one (ps_asg (pv 2) (pg_sub (pv 0) pe_int set_list))))))
    pss_nil)
    (pss_cons (ps_if (pt_cmpR op_gt (pe_ix (ix_listK (K := K) rfl) (pv 0) pe_int (fun _ _ => rfl)) pe_int (nomark _))
    (pss_cons (ps_set (i := 3) sc_l_draw.nd rfl (Or.inl rfl) (pe_ix (ix_listK (K := K) rfl) (pv 0) pe_int (fun _ _ => rfl)))
    (pss_cons (ps_asg (pe_op op_fdivW (pv 3) (pv 1)) (pg_sub (pv 0) pe_int set_list))
    (pss_one (ps_ret (pe_op op_mod (pe_callTy call_int1 (by rfl) T.b_int (by decide +kernel) (pa_cons (pv 3) pa_nil)) (pv 1))))))
    pss_nil)
    (pss_cons (ps_asg (pe_op op_mod (pe_callTy call_int1 (by rfl) T.b_int (by decide +kernel) (pa_cons (pe_op op_add (pe_ix (ix_listK (K := K) rfl) (pv 0) pe_int (fun _ _ => rfl)) pe_int) pa_nil)) pe_int) (pg_sub (pv 0) pe_int set_list))
    (pss_one (ps_ret (pe_op op_mod (pe_callTy call_int1 (by rfl) T.b_int (by decide +kernel) (pa_cons (callD T.D_l_mix (ok_l_mix T) hr (pa_cons (pe_ix (ix_listK (K := K) rfl) (pv 0) pe_int (fun _ _ => rfl)) (pa_cons (pe_ix (ix_listK (K := K) rfl) (pv 0) pe_int (fun _ _ => rfl)) pa_nil))) pa_nil)) (pv 1))))))), ?_⟩
    obtain ⟨l, cells, pos, pend, tot, ea, el, hp, hl, hc, hpe, ht⟩ := id hh
    have hal : a ≠ l := by
      intro e
      subst e
      rw [ea] at el
      cases cells with
      | nil => cases el
      | cons c r => cases el
    obtain ⟨cn, hcn⟩ : ∃ cn : Nat, pos = (cn : Int) := ⟨pos.toNat, by omega⟩
    subst hcn
    walk_at "go"
    refine ite2 (fun e => ?_) (fun e => ?_)
    · have e0 : pend = 0 := V.int.inj (of_decide_eq_true e)
      subst e0
      walk_at "go"
      refine ite2 (fun e2 => ?_) (fun e2 => ?_)
      · have e3 := of_decide_eq_true e2
        rw [List.length_map] at e3
        have e4 : cn < cells.length := by omega
        have hce : 0 ≤ cells[cn] := hc _ (List.getElem_mem e4)
        walk_at "go"
        refine ⟨_, _, _, _, rfl, rfl, SqL.of el, atI_nat (j := cn) (v := .int cells[cn]) (by simp [e4]), ?_⟩
        walk_at "go"
        refine ite2 (fun e5 => ?_) (fun e5 => ?_)
        · walk_at "go"
          refine ⟨_, _, rfl, ⟨by omega, by omega⟩, ⟨by omega, by omega⟩, fun r hr0 => ?_⟩
          walk_at "go"
          refine And.intro hm.1 ?_
          exact q _ _ (Int.emod_nonneg _ (by have := hm.1; omega)) (Int.emod_lt_of_pos _ hm.1) (But.upd (But.refl a H)) (HandOk.mk hal el (But.upd (But.refl a H)) upd_same ⟨by omega, by omega⟩ hl hc (by omega) ht)
        · walk_at "go"
          have hb : But a H (upd (upd H a (.lst [.ref l, .int (cn + 1), .int 0, .int tot])) a (.lst [.ref l, .int (cn + 1), .int cells[cn], .int tot])) := But.upd (But.upd (But.refl a H))
          have hp' : 0 ≤ (cn : Int) + 1 ∧ (cn : Int) + 1 ≤ 63 := ⟨by omega, by omega⟩
          clear hp
          have hp := hp'
          walk_at "tail"
      · have hb := But.refl a H
        walk_at "go"
        refine ⟨_, _, rfl, ⟨by omega, by omega⟩, ⟨by omega, by omega⟩, fun r hr0 => ?_⟩
        walk_at "go"
        refine And.intro hm.1 ?_
        refine q _ _ (Int.emod_nonneg _ (by have := hm.1; omega)) (Int.emod_lt_of_pos _ hm.1) (But.upd hb) (HandOk.mk hal el (But.upd hb) upd_same hp hl hc (by omega) (by omega))
    · have hb := But.refl a H
      walk_at "tail"

def spHand (K : PySem.W.Frag) : Sp := fun vs H Q _ => ∃ (a : Addr) (ns : List Int), vs = [.ref a] ∧ SqL K H a (ns.map V.int) ∧ ns.length ≤ 63 ∧ ∀ p H', Same H H' → H p = none → HandOk H' p → Q (.ref p) H'
theorem ok_l_hand (T : Top K mg AD) : FnOk P w K mg base CX0 1 AD.f_l_hand AD.d_l_hand P_l_hand (spHand K) := by
  refine T.D_l_hand.F.ok sc_l_hand (fun vs H Q E h => ?_) (fun cdv A outer s H vs Q E hr h => ?_)
  · obtain ⟨n, t, rfl, _⟩ := h
    rfl
  · obtain ⟨a, ns, rfl, hS, hlen, q⟩ := h
    refine ⟨_, (pss_cons (ps_set (i := 1) sc_l_hand.nd rfl (Or.inl rfl) pe_int)
    (pss_cons (ps_for PassesOwn.never rfl (pi_enum (by rfl) T.b_enumerate (pa_cons (pv 0) pa_nil)) (pg_tup (by rfl) (pgs_cons (pg_name (i := 2) sc_l_hand.nd rfl (Or.inl rfl)) (pgs_cons (pg_name (i := 3) sc_l_hand.nd rfl (Or.inl rfl)) pgs_nil)))
    (pss_one (ps_set (i := 1) sc_l_hand.nd rfl (Or.inl rfl) (pe_op op_mod (pe_callTy call_int1 (by rfl) T.b_int (by decide +kernel) (pa_cons (pe_op op_add (pe_op op_mul (pv 1) pe_int) (pe_op op_mul (pe_callTy call_int1 (by rfl) T.b_int (by decide +kernel) (pa_cons (pv 3) pa_nil)) (pe_op op_add (pv 2) pe_int))) pa_nil)) pe_int))))
    (pss_one (ps_ret (pe_lst (pa_cons (pe_lc (own := [("_law_cell", 3)]) (g := (gName 3)) (tt := tYes) rfl sc_l_hand.nd (pi_list (pv 0)) (blkOk_by (N := N_l_hand) (sc := defScope s_l_hand) (by decide +kernel)) (fun _ _ _ _ _ => (pg_name (i := 3) sc_l_hand.nd rfl (by first | exact Or.inl rfl | exact Or.inr rfl))) (fun _ _ _ _ _ => pts_nil) (fun _ _ _ _ _ => (pe_callB call_abs (by rfl) T.b_abs (by decide +kernel) (pa_cons (pe_callTy call_int1 (by rfl) T.b_int (by decide +kernel) (pa_cons (pv 3) pa_nil)) pa_nil)))) (pa_cons pe_int (pa_cons pe_int (pa_cons (pv 1) pa_nil))))))))), ?_⟩
    walk_at "go"
    refine ⟨_, _, rfl, hS, ?_⟩
    refine for_it walk_enum (fun i σ H' => ∃ tot o2 o3, σ = [some (.ref a), some (.int tot), o2, o3] ∧ (0 ≤ tot ∧ tot < 2147483629) ∧ Same H H') ⟨0, none, none, rfl, by omega, Same.refl H⟩ (fun i σ H' hi ⟨_, _, _, _, _, s2⟩ => s2.seq hS) ?_ ?_
    · rintro i x σ H1 H2 hi ⟨tot, o2, o3, rfl, ht, s1⟩ ⟨T', x1, x2, rfl, hT, rfl, e1, e2⟩
      rw [List.length_map] at hi
      obtain rfl := Option.some.inj e1
      obtain rfl : V.int ns[i] = x2 := by simpa [hi] using e2
      refine ⟨T', [.int i, .int ns[i]], rfl, .inl (.inl upd_same), rfl, .int i, [.int ns[i]], rfl, .int ns[i], [], rfl, rfl, ?_⟩
      walk_at "go"
      exact ⟨_, _, _, rfl, ⟨by omega, by omega⟩, same_new s1 hT⟩
    · rintro σ H1 ⟨tot, o2, o3, rfl, ht, s1⟩
      walk_at "go"
      refine ⟨⟨_, s1.seq hS⟩, ?_⟩
      intro Dl hD
      refine lc_it (walk_list (xs := ns.map V.int)) (fun i H' => But Dl H1 H' ∧ H' Dl = some (.lst ((ns.take i).map fun z => V.int (if z < 0 then -z else z)))) ⟨But.upd (But.refl _ _), upd_same⟩ (fun i H' hi h => (s1.trans (same_but (Same.refl _) hD h.1)).seq hS) ?_ ?_
      · rintro i x H2 H3 hi ⟨b2, e2⟩ ⟨rfl, ex⟩
        rw [List.length_map] at hi
        obtain rfl : V.int ns[i] = x := by simpa [hi] using ex
        refine ⟨rfl, ?_⟩
        walk_at "go"
        refine ⟨_, e2, ?_, But.upd b2, ?_⟩
        · rw [List.length_map]
          exact small1000 (by have := List.length_take_le i ns; omega)
        · rw [upd_same, List.take_add_one, List.getElem?_eq_getElem hi, List.map_append]
          rfl
      · rintro H2 ⟨b2, e2⟩
        rw [List.length_map, List.take_length] at e2
        have s2 : Same H H2 := s1.trans (same_but (Same.refl _) hD b2)
        walk_at "go"
        refine ⟨(by show 4 ≤ sizeLine; decide), fun p hp => ?_⟩
        have hpd : Dl ≠ p := ne_of_none e2 hp
        refine q p _ (same_new s2 hp) (same_free s2 hp) ⟨Dl, ns.map fun z => if z < 0 then -z else z, 0, 0, tot, upd_same, ?_, by omega, by rw [List.length_map]; exact hlen, ?_, by omega, ht⟩
        · rw [upd_ne hpd, e2, List.map_map]
          rfl
        · intro c hc
          obtain ⟨z, _, rfl⟩ := List.mem_map.mp hc
          split <;> omega

def spWord : Sp := fun vs H Q _ => ∃ (a : Addr) (n : Nat), vs = [.ref a, .int n] ∧ (1 ≤ n ∧ n ≤ 6) ∧ HandOk H a ∧ ∀ l H', Good l n → But a H H' → HandOk H' a → Q (.str (sOf l)) H'
theorem ok_l_word (T : Top K mg AD) : FnOk P w K mg base CX0 3 AD.f_l_word AD.d_l_word P_l_word spWord := by
  refine T.D_l_word.F.ok sc_l_word (fun vs H Q E h => ?_) (fun cdv A outer s H vs Q E hr h => ?_)
  · obtain ⟨n, t, rfl, _⟩ := h
    rfl
  · obtain ⟨a, n, rfl, hn, hh, q⟩ := h
    refine ⟨_, (pss_cons (ps_set (i := 2) sc_l_word.nd rfl (Or.inl rfl) (pe_s (x := Str.ofString "") [] (by decide +kernel)))
    (pss_cons (ps_set (i := 3) sc_l_word.nd rfl (Or.inl rfl) pe_int)
    (pss_cons (ps_for PassesOwn.never rfl (pi_range1 (by rfl) T.b_range (pa_cons (pe_op op_mul pe_int (pv 1)) pa_nil)) (pg_name (i := 4) sc_l_word.nd rfl (Or.inl rfl))
    (pss_cons (ps_set (i := 5) sc_l_word.nd rfl (Or.inl rfl) (pe_cmpR op_gt (pv 3) pe_int (nomark _)))
    (pss_cons (ps_set (i := 6) sc_l_word.nd rfl (Or.inl rfl) (pe_cmpR op_lt (pe_m1 PySem.F.slot_str_count PySem.F.type_str_count mt_countS (pv 2) (pe_s (x := Str.ofString "d") [100] (by decide +kernel))) (pv 1) (nomark _)))
    (pss_one (ps_if (PW.pt (pw_and (pt_val (pv 6)) (pw_and1 (PW.pt (pw_or (pt_not (pt_val (pv 5))) (pw_or1 (pt_cmpR op_eq (callD T.D_l_draw (ok_l_draw T) hr (pa_cons (pv 0) (pa_cons pe_int pa_nil))) pe_int (nomark _))))))))
    (pss_cons (ps_set (i := 2) sc_l_word.nd rfl (Or.inl rfl) (pe_op op_addS (pv 2) (pe_s (x := Str.ofString "d") [100] (by decide +kernel))))
    (pss_one (ps_set (i := 3) sc_l_word.nd rfl (Or.inl rfl) (pe_op op_add (pv 3) pe_int))))
    (pss_cons (ps_set (i := 2) sc_l_word.nd rfl (Or.inl rfl) (pe_op op_addS (pv 2) (pe_s (x := Str.ofString "o") [111] (by decide +kernel))))
    (pss_one (ps_set (i := 3) sc_l_word.nd rfl (Or.inl rfl) (pe_op op_sub (pv 3) pe_int)))))))))
    (pss_one (ps_ret (pv 2)))))), ?_⟩
    walk_at "go"
    refine for_it (walk_range (lo := 0) (n := (2 * (n : Int)).toNat)) (fun i σ H' => ∃ (l : List Nat) (o4 o5 o6 : Option V), σ = [some (.ref a), some (.int n), some (.str (sOf l)), some (.int ((l.count 100 : Int) - l.count 111)), o4, o5, o6] ∧ Part l n ∧ l.length = i ∧ But a H H' ∧ HandOk H' a)
      ⟨[], none, none, none, rfl, Part.nil n, rfl, But.refl a H, hh⟩ (fun _ _ _ _ _ => trivial) ?_ ?_
    · rintro i x σ H1 H2 hi ⟨l, o4, o5, o6, rfl, pl, ll, hb, hh1⟩ ⟨rfl, rfl⟩
      have cnt := ltr_count pl.ltr
      have ple := pl.le
      have c100 := pl.cnt
      have pl' := pl
      walk_at "go"
      refine ite2 (fun e1 => ?_) (fun e1 => ?_)
      · have f1 := of_decide_eq_true e1
        walk_at "go"
        refine ite2 (fun e2 => ?_) (fun e2 => ?_)
        · walk_at "go"
          exact ⟨l ++ [100], _, _, _, by rw [cnt_d]; rfl, pl.snoc (.inl ⟨rfl, by omega⟩), by simp [ll], hb, hh1⟩
        · have f2 : (0 : Int) < (l.count 100 : Int) - l.count 111 := by simpa using e2
          walk_at "go"
          refine ⟨_, _, rfl, hh1, cdivw (by decide) (by decide), fun d H3 hd0 hd1 hb3 hh3 => ?_⟩
          walk_at "go"
          refine ite2 (fun e3 => ?_) (fun e3 => ?_)
          · walk_at "go"
            exact ⟨l ++ [100], _, _, _, by rw [cnt_d]; rfl, pl.snoc (.inl ⟨rfl, by omega⟩), by simp [ll], hb.trans hb3, hh3⟩
          · walk_at "go"
            exact ⟨l ++ [111], _, _, _, by rw [cnt_o]; rfl, pl.snoc (.inr ⟨rfl, by omega⟩), by simp [ll], hb.trans hb3, hh3⟩
      · have f1 : ¬ ((l.count 100 : Nat) : Int) < n := fun z => e1 (decide_eq_true z)
        walk_at "go"
        exact ⟨l ++ [111], _, _, _, by rw [cnt_o]; rfl, pl.snoc (.inr ⟨rfl, by omega⟩), by simp [ll], hb, hh1⟩
    · rintro σ H1 ⟨l, o4, o5, o6, rfl, pl, ll, hb, hh1⟩
      walk_at "go"
      exact q _ _ (pl.good (by omega)) hb hh1
end

/-! ### word_fault -/
section
variable {P : Program} {w : World} {K : PySem.W.Frag} {mg : Str → Option Value} {base : Heap} {AD : Ads}
/-- not opened by itself: an inductive -/
inductive spWf (K : PySem.W.Frag) (vs : List V) (H : Hp) (Q : VK) (E : XK) : Prop where
  | is (h : ∃ v, vs = [v] ∧ ((∃ l, v = .str (sOf l) ∧ l.length ≤ 1000 ∧ ∀ H', Same H H' → Q (optV (wfault l)) H') ∨
  (∃ t, TyX K H v t ∧ PySem.W.kitOne K t (.type "str") = some false ∧ Q (.str (sOf wWord)) H)))
  | no (h : False)
theorem spWf.out {K : PySem.W.Frag} {vs : List V} {H : Hp} {Q : VK} {E : XK} (b : spWf K vs H Q E) : ∃ v, vs = [v] ∧ ((∃ l, v = .str (sOf l) ∧ l.length ≤ 1000 ∧ ∀ H', Same H H' → Q (optV (wfault l)) H') ∨
  (∃ t, TyX K H v t ∧ PySem.W.kitOne K t (.type "str") = some false ∧ Q (.str (sOf wWord)) H)) := by
  cases b with
  | is h => exact h
  | no h => exact h.elim
theorem ok_word_fault (T : Top K mg AD) : FnOk P w K mg base CX0 1 AD.f_word_fault AD.d_word_fault P_word_fault (spWf K) := by
  refine T.D_word_fault.F.ok sc_word_fault (fun vs H Q E h => ?_) (fun cdv A outer s H vs Q E hr h => ?_)
  · obtain ⟨v, rfl, _⟩ := h.out
    rfl
  · obtain ⟨v, rfl, q⟩ := h.out
    obtain ⟨_, hc_MOST_SIZE⟩ := T.c_MOST_SIZE
    refine ⟨_, (pss_cons (ps_if (PW.pt (pw_or (pt_not (pt_val (pe_callB (call_isiK' (K := K) rfl) (by rfl) T.b_isinstance (by decide +kernel) (pa_cons (pv 0) (pa_cons (pe_bltn (v := .ty "str") (u := .type "str") (by rfl) T.b_str (by decide +kernel) rfl) pa_nil))))) (pw_or1 (pt_not (pt_chain op_le op_le pe_int (pe_callB call_lenS (by rfl) T.b_len (by decide +kernel) (pa_cons (pv 0) pa_nil)) (pe_op op_mul pe_int (pe_glob (v := .int 6) rfl hc_MOST_SIZE ⟨_, rfl⟩)))))))
    (pss_one (ps_ret (pe_s (x := Str.ofString "word") [119, 111, 114, 100] (by decide +kernel))))
    pss_nil)
    (pss_cons (ps_if (pt_not (pt_val (pe_callB (cr_all rfl) (by rfl) T.b_all (by decide +kernel) (pa_cons (pe_lc (own := [("letter", 3)]) (g := (gName 3)) (tt := tYes) rfl sc_word_fault.nd (pi_str (pv 0)) (blkOk_by (N := N_word_fault) (sc := defScope s_word_fault) (by decide +kernel)) (fun _ _ _ _ _ => (pg_name (i := 3) sc_word_fault.nd rfl (by first | exact Or.inl rfl | exact Or.inr rfl))) (fun _ _ _ _ _ => pts_nil) (fun _ _ _ _ _ => (pe_cmpR (op_inK (K := K) rfl) (pv 3) (pe_tup (pa_cons (pe_s (x := Str.ofString "d") [100] (by decide +kernel)) (pa_cons (pe_s (x := Str.ofString "o") [111] (by decide +kernel)) pa_nil))) (by rfl)))) pa_nil))))
    (pss_one (ps_ret (pe_s (x := Str.ofString "word") [119, 111, 114, 100] (by decide +kernel))))
    pss_nil)
    (pss_cons (ps_if (pt_cmpR op_ne (pe_m1 PySem.F.slot_str_count PySem.F.type_str_count mt_countS (pv 0) (pe_s (x := Str.ofString "d") [100] (by decide +kernel))) (pe_m1 PySem.F.slot_str_count PySem.F.type_str_count mt_countS (pv 0) (pe_s (x := Str.ofString "o") [111] (by decide +kernel))) (nomark _))
    (pss_one (ps_ret (pe_s (x := Str.ofString "count") [99, 111, 117, 110, 116] (by decide +kernel))))
    pss_nil)
    (pss_cons (ps_for PassesOwn.never rfl (pi_range1 (by rfl) T.b_range (pa_cons (pe_callB call_lenS (by rfl) T.b_len (by decide +kernel) (pa_cons (pv 0) pa_nil)) pa_nil)) (pg_name (i := 1) sc_word_fault.nd rfl (Or.inl rfl))
    (pss_cons (ps_set (i := 2) sc_word_fault.nd rfl (Or.inl rfl) (pe_slice sl_S (pv 0) po_none (po_some (pv 1))))
    (pss_one (ps_if (pt_cmpR op_gt (pe_m1 PySem.F.slot_str_count PySem.F.type_str_count mt_countS (pv 2) (pe_s (x := Str.ofString "o") [111] (by decide +kernel))) (pe_m1 PySem.F.slot_str_count PySem.F.type_str_count mt_countS (pv 2) (pe_s (x := Str.ofString "d") [100] (by decide +kernel))) (nomark _))
    (pss_one (ps_ret (pe_s (x := Str.ofString "below") [98, 101, 108, 111, 119] (by decide +kernel))))
    pss_nil))))
    (pss_one (ps_ret pe_non)))))), ?_⟩
    walk_at "go"
    rcases q with ⟨l, rfl, hl, q⟩ | ⟨t, ty, kt, q⟩
    · refine ⟨_, _, _, _, true, rfl, .ty _, .base (.str _), kit_ty (by decide +kernel), ?_⟩
      walk_at "go"
      refine ite2 (fun e => ?_) (fun e => ?_)
      rotate_left
      · have f : wfault l = some wWord := by
          unfold wfault
          rw [if_neg (fun z => e (decide_eq_true (by omega)))]
        walk_at "go"
        have q1 := q H (Same.refl H)
        rw [f] at q1
        exact q1
      have f2 : 2 ≤ l.length := by have := of_decide_eq_true e; omega
      walk_at "go"
      refine ite2 (fun e => ?_) (fun e => ?_)
      · have f : wfault l = some wWord := by
          have e3 : ¬ ((l.length : Nat) : Int) ≤ 12 := by simpa using e
          unfold wfault
          rw [if_neg (by omega)]
        walk_at "go"
        have q1 := q H (Same.refl H)
        rw [f] at q1
        exact q1
      have f12 : l.length ≤ 12 := by
        have e3 : ((l.length : Nat) : Int) ≤ 12 := by simpa using e
        omega
      walk_at "go"
      intro Dl hD
      refine lc_it walk_S (fun i H' => But Dl H H' ∧ H' Dl = some (.lst ((l.take i).map fun c => V.bl (c == 100 || c == 111)))) ⟨But.upd (But.refl _ _), upd_same⟩ (fun _ _ _ _ => trivial) ?_ ?_
      · rintro i x H2 H3 hi ⟨b2, e2⟩ ⟨rfl, c, hc, rfl⟩
        walk_at "go"
        refine ⟨szl (by decide), fun p hp => ?_⟩
        have hpd : Dl ≠ p := ne_of_none e2 hp
        refine ⟨p, _, rfl, .inr (SqT.of upd_same), rfl, rfl, ?_⟩
        refine ⟨_, (upd_ne hpd).trans e2, ?_, But.upd (b2.new hp), ?_⟩
        · rw [List.length_map]
          exact small1000 (by have := List.length_take_le i l; omega)
        · rw [upd_same, List.take_add_one, hc, List.map_append]
          show some (HO.lst (_ ++ [V.bl (if false = true then _ else _)])) = _
          rw [if_neg Bool.false_ne_true, inV_do]
          rfl
      · rintro H2 ⟨b2, e2⟩
        rw [List.take_length] at e2
        have s2 : Same H H2 := same_but (Same.refl _) hD b2
        walk_at "go"
        refine ⟨Dl, l.map fun c => c == 100 || c == 111, rfl, SqL.of (by rw [e2, List.map_map]; rfl), ?_⟩
        walk_at "go"
        have hall : (l.map fun c => c == 100 || c == 111).all id = ltrs l := by
          unfold ltrs
          rw [List.all_map]
          rfl
        rw [hall]
        refine ite2 (fun e => ?_) (fun e => ?_)
        · have f : wfault l = some wWord := by
            have e3 : ltrs l = false := by simpa using e
            unfold wfault
            rw [if_pos ⟨f2, f12⟩, e3, if_neg Bool.false_ne_true]
          walk_at "go"
          have q1 := q H2 s2
          rw [f] at q1
          exact q1
        have fl : ltrs l = true := by simpa using e
        walk_at "go"
        refine ite2 (fun e => ?_) (fun e => ?_)
        · have f : wfault l = some wCount := by
            have e3 : ¬ l.count 100 = l.count 111 := fun z => by rw [z] at e; simp at e
            unfold wfault
            rw [if_pos ⟨f2, f12⟩, if_pos fl, if_neg e3]
          walk_at "go"
          have q1 := q H2 s2
          rw [f] at q1
          exact q1
        have fc : l.count 100 = l.count 111 := by
          have e3 : V.int (l.count 100 : Nat) = V.int (l.count 111 : Nat) := by simpa using e
          exact Int.ofNat.inj (V.int.inj e3)
        walk_at "go"
        refine for_it (walk_range (lo := 0) (n := (l.length : Int).toNat)) (fun i σ H' => ∃ (o1 o2 o3 : Option V), σ = [some (.str (sOf l)), o1, o2, o3] ∧ H' = H2 ∧ ∀ k, k < i → lowAt l k = false)
          ⟨none, none, none, rfl, rfl, fun k hk => absurd hk (Nat.not_lt_zero k)⟩ (fun _ _ _ _ _ => trivial) ?_ ?_
        · rintro i x σ H3 H4 hi ⟨o1, o2, o3, rfl, rfl, hk⟩ ⟨rfl, rfl⟩
          have hi2 : i < l.length := by omega
          walk_at "go"
          have hcut : cutN l none (some (0 + (i : Int))) = l.take i := by
            rw [cutN_take l (by omega), show (0 + (i : Int)).toNat = i by omega]
          rw [hcut]
          refine ite2 (fun e => ?_) (fun e => ?_)
          · have f : wfault l = some wBelow := by
              have e3 := of_decide_eq_true e
              unfold wfault
              rw [if_pos ⟨f2, f12⟩, if_pos fl, if_pos fc, if_pos]
              rw [List.any_eq_true]
              exact ⟨i, List.mem_range.mpr hi2, decide_eq_true (by omega)⟩
            walk_at "go"
            have q1 := q _ s2
            rw [f] at q1
            exact q1
          · have e3 : ¬ (((l.take i).count 100 : Nat) : Int) < ((l.take i).count 111 : Nat) := fun z => e (decide_eq_true z)
            walk_at "go"
            refine ⟨_, _, _, rfl, rfl, fun k hk2 => ?_⟩
            by_cases hki : k = i
            · subst hki
              exact decide_eq_false (by omega)
            · exact hk k (by omega)
        · rintro σ H3 ⟨o1, o2, o3, rfl, rfl, hk⟩
          have f : wfault l = none := by
            unfold wfault
            rw [if_pos ⟨f2, f12⟩, if_pos fl, if_pos fc, if_neg]
            rw [List.any_eq_true]
            rintro ⟨k, hm, hl2⟩
            rw [hk k (by have := List.mem_range.mp hm; omega)] at hl2
            exact absurd hl2 Bool.false_ne_true
          walk_at "go"
          have q1 := q _ s2
          rw [f] at q1
          exact q1
    · refine ⟨_, _, _, _, false, rfl, .ty _, ty, kt, ?_⟩
      walk_at "go"
      exact q
end

/-! ### BadColumn, Column -/
section
variable {P : Program} {w : World} {K : PySem.W.Frag} {mg : Str → Option Value} {base : Heap} {AD : Ads}
theorem ok_BadColumn___init__ (T : Top K mg AD) : FnOk P w K mg base CX0 1 AD.f_BadColumn___init__ AD.d_BadColumn___init__ P_BadColumn___init__ (spE1 K "what") := by
  refine T.D_BadColumn___init__.F.ok sc_BadColumn___init__ (fun vs H Q E h => ?_) (fun cdv A outer s H vs Q E hr h => ?_)
  · obtain ⟨a, C, v, rfl, _⟩ := h
    rfl
  · obtain ⟨a, C, v, rfl, ho, hn, ha, q⟩ := h
    refine ⟨_, (pss_one (ps_ost (pv 0) (pv 1))), ?_⟩
    walk_at "go"
    exact ⟨a, C, rfl, ho, hn, .inl ⟨ha, fun dx n ne => q dx n ne⟩⟩
/-- a Column of the word l stands at x -/
def ColAt (C : Addr) (H : Hp) (x : Addr) (l : List Nat) : Prop := ∃ dx, H x = some (.ins C dx [("word", .str (sOf l)), ("size", .int (l.count 100 : Nat))])
def spCol (K : PySem.W.Frag) (AD : Ads) : Sp := fun vs H Q E => ∃ (x dx : Addr) (v : V), vs = [.ref x, v] ∧ H x = some (.ins AD.C_Column dx []) ∧
  ((∃ l, v = .str (sOf l) ∧ l.length ≤ 1000 ∧ (wfault l = none → ∀ H', But x H H' → ColAt AD.C_Column H' x l → Q .non H') ∧
    (∀ f, wfault l = some f → ∀ d H', Same H H' → H d = none → H' d = some (.xd [("what", .str (sOf f))]) → E (.ref AD.C_BadColumn) (some d) H')) ∨
   (∃ t, TyX K H v t ∧ PySem.W.kitOne K t (.type "str") = some false ∧ ∀ d H', Same H H' → H d = none → H' d = some (.xd [("what", .str (sOf wWord))]) → E (.ref AD.C_BadColumn) (some d) H'))
theorem ok_Column___init__ (T : Top K mg AD) : FnOk P w K mg base (L2.CX P w) 3 AD.f_Column___init__ AD.d_Column___init__ P_Column___init__ (spCol K AD) := by
  refine T.D_Column___init__.F.okX sc_Column___init__ (fun vs H Q E h => ?_) (fun cdv A outer s H vs Q E hr h => ?_)
  · obtain ⟨a, C, v, rfl, _⟩ := h
    rfl
  · obtain ⟨x, dx, v, rfl, hx, q⟩ := h
    have X1 := T.x_BadColumn
    refine ⟨_, (pss_cons (ps_set (i := 2) sc_Column___init__.nd rfl (Or.inl rfl) (callD T.D_word_fault (ok_word_fault T) hr (pa_cons (pv 1) pa_nil)))
    (pss_cons (ps_if (pt_cmpR op_notN (pv 2) pe_non (nomark _))
    (pss_one (ps_raise rfl (takes_of rfl rfl rfl rfl) (pmk_oex T.x_BadColumn.oex T.x_BadColumn.ini T.x_BadColumn.tI (ok_BadColumn___init__ T) (hr.mono (by decide)) T.D_BadColumn___init__.b .nil pass0 (by rfl) T.x_BadColumn.g (pa_cons (pv 2) pa_nil))))
    pss_nil)
    (pss_cons (ps_fld (pv 0) (pv 1) rfl)
    (pss_one (ps_fld (pv 0) (pe_m1 PySem.F.slot_str_count PySem.F.type_str_count mt_countS (pv 1) (pe_s (x := Str.ofString "d") [100] (by decide +kernel))) rfl))))), ?_⟩
    walk_at "go"
    rcases q with ⟨l, rfl, hl, q1, q2⟩ | ⟨t, ty, kt, q2⟩
    · refine .is ⟨_, rfl, .inl ⟨l, rfl, hl, fun H1 s1 => ?_⟩⟩
      walk_at "go"
      cases hw : wfault l with
      | some f =>
        walk_at "go"
        exact (made1 X1.oex T.n_BadColumn_what fun d H' s' n e => q2 f hw d H' (s1.trans s') (s1.free n) e).2
      | none =>
        walk_at "go"
        refine ⟨x, _, dx, _, rfl, s1 _ _ hx, T.cl_Column, T.n_Column_word, by show 0 < 1000; decide, ?_⟩
        walk_at "go"
        refine ⟨x, _, dx, _, rfl, upd_same, T.cl_Column, T.n_Column_size, by show 1 < 1000; decide, ?_⟩
        refine q1 hw _ (fun b o nb e => ?_) ⟨dx, upd_same⟩
        rw [upd_ne nb, upd_ne nb]
        exact s1 b o e
    · refine .is ⟨_, rfl, .inr ⟨t, ty, kt, ?_⟩⟩
      walk_at "go"
      exact (made1 X1.oex T.n_BadColumn_what fun d H' s' n e => q2 d H' s' n e).2
theorem col_made {l : List Nat} (f : wfault l = none) (hl : l.length ≤ 1000) {H : Hp} {Q : Hp → Prop} {E : XK} {y dy : Addr} (ny : H y = none) (ndy : H dy = none) (ne : dy ≠ y) (k : ∀ H', Same H H' → ColAt AD.C_Column H' y l → Q H') :
    spCol K AD [.ref y, .str (sOf l)] (upd (upd H dy (.own y)) y (.ins AD.C_Column dy [])) (fun v H2 => v = .non ∧ Q H2) E :=
  ⟨y, dy, _, rfl, upd_same, .inl ⟨l, rfl, hl, fun _ H' bt ca => ⟨rfl, k H' (fun b o e => bt b o (ne_of_none e ny) (same_new (same_new (Same.refl H) ndy) ((upd_ne (Ne.symm ne)).trans ny) b o e)) ca⟩, fun g hg => by rw [f] at hg; cases hg⟩⟩
end

/-! ### whole numbers; Column's own methods -/
section
variable {P : Program} {w : World} {K : PySem.W.Frag} {mg : Str → Option Value} {base : Heap} {AD : Ads}
/-- v is no whole number -/
def NotInt (K : PySem.W.Frag) (H : Hp) (v : V) : Prop := ∃ t, TyX K H v t ∧ (PySem.W.kitOne K t (.type "int") = some false ∨ (PySem.W.kitOne K t (.type "int") = some true ∧ PySem.W.kitOne K t (.type "bool") = some true))
def spIsNum (K : PySem.W.Frag) : Sp := fun vs H Q _ => ∃ v, vs = [v] ∧ ((∃ i, v = .int i ∧ Q (.bl true) H) ∨ (NotInt K H v ∧ Q (.bl false) H))
theorem ok_is_number (T : Top K mg AD) : FnOk P w K mg base CX0 1 AD.f_is_number AD.d_is_number P_is_number (spIsNum K) := by
  refine T.D_is_number.F.ok sc_is_number (fun vs H Q E h => ?_) (fun cdv A outer s H vs Q E hr h => ?_)
  · obtain ⟨v, rfl, _⟩ := h
    rfl
  · obtain ⟨v, rfl, q⟩ := h
    refine ⟨_, (pss_one (ps_ret (pe_and (pe_callB (call_isiK' (K := K) rfl) (by rfl) T.b_isinstance (by decide +kernel) (pa_cons (pv 0) (pa_cons (pe_bltn (v := .ty "int") (u := .type "int") (by rfl) T.b_int (by decide +kernel) rfl) pa_nil))) (pe_one (pe_not (pe_callB (call_isiK' (K := K) rfl) (by rfl) T.b_isinstance (by decide +kernel) (pa_cons (pv 0) (pa_cons (pe_bltn (v := .ty "bool") (u := .type "bool") (by rfl) T.b_bool (by decide +kernel) rfl) pa_nil)))))))), ?_⟩
    walk_at "go"
    rcases q with ⟨i, rfl, q⟩ | ⟨⟨t, ty, h | ⟨h1, h2⟩⟩, q⟩
    · refine ⟨_, _, _, _, true, rfl, .ty _, .base (.int _), kit_ty (by decide +kernel), ?_⟩
      walk_at "go"
      refine ⟨_, _, _, _, false, rfl, .ty _, .base (.int _), kit_ty (by decide +kernel), ?_⟩
      walk_at "go"
      exact q
    · refine ⟨_, _, _, _, false, rfl, .ty _, ty, h, ?_⟩
      walk_at "go"
      exact q
    · refine ⟨_, _, _, _, true, rfl, .ty _, ty, h1, ?_⟩
      walk_at "go"
      refine ⟨_, _, _, _, true, rfl, .ty _, ty, h2, ?_⟩
      walk_at "go"
      exact q
def spIsWhole (K : PySem.W.Frag) : Sp := fun vs H Q _ => ∃ v lo hi, vs = [v, .int lo, .int hi] ∧ ((∃ i, v = .int i ∧ Q (.bl (decide (lo ≤ i ∧ i ≤ hi))) H) ∨ (NotInt K H v ∧ Q (.bl false) H))
theorem ok_is_whole (T : Top K mg AD) : FnOk P w K mg base CX0 2 AD.f_is_whole AD.d_is_whole P_is_whole (spIsWhole K) := by
  refine T.D_is_whole.F.ok sc_is_whole (fun vs H Q E h => ?_) (fun cdv A outer s H vs Q E hr h => ?_)
  · obtain ⟨v, lo, hi, rfl, _⟩ := h
    rfl
  · obtain ⟨v, lo, hi, rfl, q⟩ := h
    refine ⟨_, (pss_one (ps_ret (pe_and (callD T.D_is_number (ok_is_number T) hr (pa_cons (pv 0) pa_nil)) (pe_one (pe_chain op_le op_le (pv 1) (pv 0) (pv 2)))))), ?_⟩
    walk_at "go"
    rcases q with ⟨i, rfl, q⟩ | ⟨ni, q⟩
    · refine .inl ⟨i, rfl, ?_⟩
      walk_at "go"
      refine ite2 (fun e => ?_) (fun e => ?_)
      · have e1 := of_decide_eq_true e
        walk_at "go"
        rw [show decide (lo ≤ i ∧ i ≤ hi) = decide (i ≤ hi) by simp [e1]] at q
        exact q
      · have e1 : ¬ lo ≤ i := fun z => e (decide_eq_true z)
        walk_at "go"
        rwa [show decide (lo ≤ i ∧ i ≤ hi) = false by simp [e1]] at q
    · refine .inr ⟨ni, ?_⟩
      walk_at "go"
      exact q
theorem ColAt.mono {C x : Addr} {l : List Nat} {H H' : Hp} (h : ColAt C H x l) (k : ∀ o, H x = some o → H' x = some o) : ColAt C H' x l := let ⟨dx, e⟩ := h; ⟨dx, k _ e⟩
theorem col_ty (T : Top K mg AD) {H : Hp} {x : Addr} {l : List Nat} (h : ColAt AD.C_Column H x l) : TyX K H (.ref x) (.ref AD.C_Column) := let ⟨dx, e⟩ := h; .base (.ins e T.cl_Column T.i1_Column T.i2 T.i3 T.i4_Column)
def spColEq (C : Addr) : Sp := fun vs H Q _ => ∃ a y l, vs = [.ref a, y] ∧ ColAt C H a l ∧ ((∃ b m, y = .ref b ∧ ColAt C H b m ∧ Q (.bl (decide (l = m))) H) ∨ (∃ z, y = .str z ∧ Q (.bl false) H))
theorem ok_Column___eq__ (T : Top K mg AD) : FnOk P w K mg base CX0 1 AD.f_Column___eq__ AD.d_Column___eq__ P_Column___eq__ (spColEq AD.C_Column) := by
  refine T.D_Column___eq__.F.ok sc_Column___eq__ (fun vs H Q E h => ?_) (fun cdv A outer s H vs Q E hr h => ?_)
  · obtain ⟨a, y, l, rfl, _⟩ := h
    rfl
  · obtain ⟨a, y, l, rfl, ca, q⟩ := h
    have cl := T.cl_Column
    have nw := T.n_Column_word
    obtain ⟨dx, ea⟩ := ca
    refine ⟨_, (pss_one (ps_ret (pe_and (pe_callB (call_isiK' (K := K) rfl) (by rfl) T.b_isinstance (by decide +kernel) (pa_cons (pv 1) (pa_cons (pe_glob (v := .ref AD.C_Column) rfl T.g_Column rfl) pa_nil))) (pe_one (pe_cmpR op_eq (pe_fld (pv 0) rfl) (pe_fld (pv 1) rfl) (nomark _)))))), ?_⟩
    walk_at "go"
    rcases q with ⟨b, m, rfl, cb, q⟩ | ⟨z, rfl, q⟩
    · refine ⟨_, _, _, _, true, rfl, .own _, col_ty T cb, T.ii_Column, ?_⟩
      obtain ⟨dy, eb⟩ := cb
      walk_at "go"
      refine And.intro rfl ?_
      rwa [show decide (V.str (sOf l) = V.str (sOf m)) = decide (l = m) from decide_eq_decide.mpr str_eq]
    · refine ⟨_, _, _, _, false, rfl, .own _, .base (.str _), T.it_str_Column, ?_⟩
      walk_at "go"
      exact q
def spColStr (C : Addr) : Sp := fun vs H Q _ => ∃ a l, vs = [.ref a] ∧ ColAt C H a l ∧ Q (.str (sOf l)) H
theorem ok_Column___str__ (T : Top K mg AD) : FnOk P w K mg base CX0 1 AD.f_Column___str__ AD.d_Column___str__ P_Column___str__ (spColStr AD.C_Column) := by
  refine T.D_Column___str__.F.ok sc_Column___str__ (fun vs H Q E h => ?_) (fun cdv A outer s H vs Q E hr h => ?_)
  · obtain ⟨a, l, rfl, _⟩ := h
    rfl
  · obtain ⟨a, l, rfl, ⟨dx, ea⟩, q⟩ := h
    have cl := T.cl_Column
    have nw := T.n_Column_word
    refine ⟨_, (pss_one (ps_ret (pe_callTy SkE.call_str_str (by rfl) T.b_str (by decide +kernel) (pa_cons (pe_fld (pv 0) rfl) pa_nil)))), ?_⟩
    walk_at "go"
    exact q
theorem ok_Column___len__ (T : Top K mg AD) : FnOk P w K mg base CX0 1 AD.f_Column___len__ AD.d_Column___len__ P_Column___len__ (spLenS AD.C_Column "word") := by
  refine T.D_Column___len__.F.ok sc_Column___len__ (fun vs H Q E h => ?_) (fun cdv A outer s H vs Q E hr h => ?_)
  · obtain ⟨a, dx, fs, x, rfl, _⟩ := h
    rfl
  · obtain ⟨a, dx, fs, x, rfl, ha, hl, hz, q⟩ := h
    refine ⟨_, (pss_one (ps_ret (pe_callB call_len_str (by rfl) T.b_len (by decide +kernel) (pa_cons (pe_fld (pv 0) rfl) pa_nil)))), ?_⟩
    walk_at "go"
    refine ⟨a, _, dx, fs, _, rfl, ha, T.cl_Column, T.n_Column_word, hl, ?_⟩
    walk_at "go"
    exact ⟨szl hz, q⟩
theorem ok_Column___iter__ (T : Top K mg AD) : FnOk P w K mg base CX0 1 AD.f_Column___iter__ AD.d_Column___iter__ P_Column___iter__ (spItS AD.C_Column "word" base.objs.size) := by
  refine T.D_Column___iter__.F.ok sc_Column___iter__ (fun vs H Q E h => ?_) (fun cdv A outer s H vs Q E hr h => ?_)
  · obtain ⟨a, dx, fs, x, rfl, _⟩ := h
    rfl
  · obtain ⟨a, dx, fs, x, rfl, ha, hl, q⟩ := h
    refine ⟨_, (pss_one (ps_ret (pe_callB call_iterS (by rfl) T.b_iter (by decide +kernel) (pa_cons (pe_fld (pv 0) rfl) pa_nil)))), ?_⟩
    walk_at "go"
    refine ⟨a, _, dx, fs, _, rfl, ha, T.cl_Column, T.n_Column_word, hl, ?_⟩
    walk_at "go"
    exact fun it n1 n2 => q it n1 n2
end

/-! ### heights -/
section
variable {P : Program} {w : World} {K : PySem.W.Frag} {mg : Str → Option Value} {base : Heap} {AD : Ads}
def spHts : Sp := fun vs H Q _ => ∃ l, vs = [.str (sOf l)] ∧ l.length ≤ 12 ∧ (∀ c ∈ l, c = 100 ∨ c = 111) ∧ ∀ p H', H p = none → Same H H' → H' p = some (.lst (vI (htsI l l.length))) → Q (.ref p) H'
theorem ok_l_heights (T : Top K mg AD) : FnOk P w K mg base CX0 1 AD.f_l_heights AD.d_l_heights P_l_heights spHts := by
  refine T.D_l_heights.F.ok sc_l_heights (fun vs H Q E h => ?_) (fun cdv A outer s H vs Q E hr h => ?_)
  · obtain ⟨l, rfl, _⟩ := h
    rfl
  · obtain ⟨l, rfl, hl, al, q⟩ := h
    refine ⟨_, (pss_cons (ps_set (i := 1) sc_l_heights.nd rfl (Or.inl rfl) (pe_lst (pa_cons pe_int pa_nil)))
    (pss_cons (ps_for PassesOwn.never rfl (pi_str (pv 0)) (pg_name (i := 2) sc_l_heights.nd rfl (Or.inl rfl))
    (pss_one (ps_expr (pe_bm PySem.F.plainAttrs_list PySem.F.slot_list_append PySem.F.type_list_append mt_append (pv 1) (pa_cons (pe_op op_add (pe_ix (ix_listK (K := K) rfl) (pv 1) (pe_un un_neg pe_int) (fun _ _ => rfl)) (pe_ifExp (pt_cmpR op_eq (pv 2) (pe_s (x := Str.ofString "d") [100] (by decide +kernel)) (nomark _)) pe_int (pe_un un_neg pe_int))) pa_nil)))))
    (pss_one (ps_ret (pv 1))))), ?_⟩
    walk_at "go"
    refine ⟨szl (by show 1 ≤ 1000; decide), fun p np => ?_⟩
    walk_at "go"
    refine for_it walk_S (fun i σ H' => ∃ o2 : Option V, σ = [some (.str (sOf l)), some (.ref p), o2] ∧ But p H H' ∧ H' p = some (.lst (vI (htsI l i))))
      ⟨none, rfl, But.upd (But.refl _ _), upd_same⟩ (fun _ _ _ _ _ => trivial) ?_ ?_
    · rintro i x σ H1 H2 hi ⟨o2, rfl, bt, e⟩ ⟨rfl, c, hc, rfl⟩
      have hcl := al c (List.mem_of_getElem? hc)
      have st := ht_step hc hcl
      have add : ∀ z, z = ht l (i + 1) → vI (htsI l i) ++ [V.int z] = vI (htsI l (i + 1)) := fun z hz => by rw [hz, htsI_succ, vI_app]; rfl
      have many : (vI (htsI l i)).length < sizeLine := small1000 (by unfold vI; rw [List.length_map, htsI_len]; omega)
      walk_at "go"
      refine ⟨p, _, _, _, rfl, rfl, SqL.of e, vI_last l i, ?_⟩
      walk_at "go"
      refine ite2 (fun e1 => ?_) (fun e1 => ?_)
      · have ec : c = 100 := by simpa using sOf_inj.mp (V.str.inj (of_decide_eq_true e1))
        rw [if_pos ec] at st
        walk_at "go"
        refine ⟨p, _, _, rfl, rfl, e, many, ?_⟩
        exact ⟨_, rfl, But.upd bt, by rw [upd_same, add _ st]⟩
      · have ec : ¬ c = 100 := fun z => e1 (by rw [z]; exact decide_eq_true rfl)
        rw [if_neg ec] at st
        walk_at "go"
        refine ⟨p, _, _, rfl, rfl, e, many, ?_⟩
        exact ⟨_, rfl, But.upd bt, by rw [upd_same, add _ st]⟩
    · rintro σ H1 ⟨o2, rfl, bt, e⟩
      walk_at "go"
      exact q p _ np (same_but (Same.refl _) np bt) e
end
section
variable {P : Program} {w : World} {K : PySem.W.Frag} {mg : Str → Option Value} {base : Heap} {AD : Ads}
def spHeights (C : Addr) : Sp := fun vs H Q _ => ∃ a l, vs = [.ref a] ∧ ColAt C H a l ∧ l.length ≤ 12 ∧ (∀ c ∈ l, c = 100 ∨ c = 111) ∧ ∀ p H', H p = none → Same H H' → H' p = some (.tup (vI (htsI l l.length))) → Q (.ref p) H'
theorem ok_Column_heights (T : Top K mg AD) : FnOk P w K mg base CX0 1 AD.f_Column_heights AD.d_Column_heights P_Column_heights (spHeights AD.C_Column) := by
  refine T.D_Column_heights.F.ok sc_Column_heights (fun vs H Q E h => ?_) (fun cdv A outer s H vs Q E hr h => ?_)
  · obtain ⟨a, l, rfl, _⟩ := h
    rfl
  · obtain ⟨a, l, rfl, ⟨dx, ea⟩, hl, al, q⟩ := h
    have cl := T.cl_Column
    have nw := T.n_Column_word
    refine ⟨_, (pss_cons (ps_set (i := 1) sc_Column_heights.nd rfl (Or.inl rfl) (pe_lst (pa_cons pe_int pa_nil)))
    (pss_cons (ps_for PassesOwn.never rfl (pi_str (pe_fld (pv 0) rfl)) (pg_name (i := 2) sc_Column_heights.nd rfl (Or.inl rfl))
    (pss_one (ps_expr (pe_bm PySem.F.plainAttrs_list PySem.F.slot_list_append PySem.F.type_list_append mt_append (pv 1) (pa_cons (pe_op op_add (pe_ix (ix_listK (K := K) rfl) (pv 1) (pe_un un_neg pe_int) (fun _ _ => rfl)) (pe_ifExp (pt_cmpR op_eq (pv 2) (pe_s (x := Str.ofString "d") [100] (by decide +kernel)) (nomark _)) pe_int (pe_un un_neg pe_int))) pa_nil)))))
    (pss_one (ps_ret (pe_callTy call_tuple_of (by rfl) T.b_tuple (by decide +kernel) (pa_cons (pv 1) pa_nil)))))), ?_⟩
    walk_at "go"
    refine ⟨szl (by show 1 ≤ 1000; decide), fun p np => ?_⟩
    have s1 := same_new (o := .lst [.int 0]) (Same.refl H) np
    have ea1 := s1 _ _ ea
    walk_at "go"
    refine for_it walk_S (fun i σ H' => ∃ o2 : Option V, σ = [some (.ref a), some (.ref p), o2] ∧ But p H H' ∧ H' p = some (.lst (vI (htsI l i))))
      ⟨none, rfl, But.upd (But.refl _ _), upd_same⟩ (fun _ _ _ _ _ => trivial) ?_ ?_
    · rintro i x σ H1 H2 hi ⟨o2, rfl, bt, e⟩ ⟨rfl, c, hc, rfl⟩
      have hcl := al c (List.mem_of_getElem? hc)
      have st := ht_step hc hcl
      have add : ∀ z, z = ht l (i + 1) → vI (htsI l i) ++ [V.int z] = vI (htsI l (i + 1)) := fun z hz => by rw [hz, htsI_succ, vI_app]; rfl
      have many : (vI (htsI l i)).length < sizeLine := small1000 (by unfold vI; rw [List.length_map, htsI_len]; omega)
      walk_at "go"
      refine ⟨p, _, _, _, rfl, rfl, SqL.of e, vI_last l i, ?_⟩
      walk_at "go"
      refine ite2 (fun e1 => ?_) (fun e1 => ?_)
      · have ec : c = 100 := by simpa using sOf_inj.mp (V.str.inj (of_decide_eq_true e1))
        rw [if_pos ec] at st
        walk_at "go"
        refine ⟨p, _, _, rfl, rfl, e, many, ?_⟩
        exact ⟨_, rfl, But.upd bt, by rw [upd_same, add _ st]⟩
      · have ec : ¬ c = 100 := fun z => e1 (by rw [z]; exact decide_eq_true rfl)
        rw [if_neg ec] at st
        walk_at "go"
        refine ⟨p, _, _, rfl, rfl, e, many, ?_⟩
        exact ⟨_, rfl, But.upd bt, by rw [upd_same, add _ st]⟩
    · rintro σ H1 ⟨o2, rfl, bt, e⟩
      have s2 : Same H H1 := same_but (Same.refl _) np bt
      walk_at "go"
      refine ⟨p, _, rfl, .inl ⟨SqL.of e, fun t nt => ?_⟩⟩
      exact q t _ (s2.free nt) (same_new s2 nt) upd_same
end

/-! ### many, height, place -/
section
variable {P : Program} {w : World} {K : PySem.W.Frag} {mg : Str → Option Value} {base : Heap} {AD : Ads}
theorem ok_BadBoundary___init__ (T : Top K mg AD) : FnOk P w K mg base CX0 1 AD.f_BadBoundary___init__ AD.d_BadBoundary___init__ P_BadBoundary___init__ (spE1 K "boundary") := by
  refine T.D_BadBoundary___init__.F.ok sc_BadBoundary___init__ (fun vs H Q E h => ?_) (fun cdv A outer s H vs Q E hr h => ?_)
  · obtain ⟨a, C, v, rfl, _⟩ := h
    rfl
  · obtain ⟨a, C, v, rfl, ho, hn, ha, q⟩ := h
    refine ⟨_, (pss_one (ps_ost (pv 0) (pv 1))), ?_⟩
    walk_at "go"
    exact ⟨a, C, rfl, ho, hn, .inl ⟨ha, fun dx n ne => q dx n ne⟩⟩
/-- v is no boundary of a word of n letters -/
def NoBoundary (K : PySem.W.Frag) (H : Hp) (v : V) (n : Nat) : Prop := (∃ i : Int, v = .int i ∧ ¬ (0 ≤ i ∧ i ≤ n)) ∨ NotInt K H v
def Refused (AD : Ads) (H : Hp) (v : V) (E : XK) : Prop := ∀ d H', Same H H' → H d = none → H' d = some (.xd [("boundary", v)]) → E (.ref AD.C_BadBoundary) (some d) H'
def spMany (K : PySem.W.Frag) (AD : Ads) : Sp := fun vs H Q E => ∃ a l c v, vs = [.ref a, .str (sOf [c]), v] ∧ ColAt AD.C_Column H a l ∧ l.length ≤ 12 ∧
  ((∃ k : Nat, v = .int k ∧ k ≤ l.length ∧ Q (.int ((l.take k).count c : Nat)) H) ∨ (NoBoundary K H v l.length ∧ Refused AD H v E))
theorem ok_Column_many (T : Top K mg AD) : FnOk P w K mg base (L2.CX P w) 3 AD.f_Column_many AD.d_Column_many P_Column_many (spMany K AD) := by
  refine T.D_Column_many.F.okX sc_Column_many (fun vs H Q E h => ?_) (fun cdv A outer s H vs Q E hr h => ?_)
  · obtain ⟨a, l, c, v, rfl, _⟩ := h
    rfl
  · obtain ⟨a, l, c, v, rfl, ⟨dx, ea⟩, hl, q⟩ := h
    have cl := T.cl_Column
    have nw := T.n_Column_word
    have X1 := T.x_BadBoundary
    refine ⟨_, (pss_cons (ps_if (pt_not (pt_val (callD T.D_is_whole (ok_is_whole T) hr (pa_cons (pv 2) (pa_cons pe_int (pa_cons (pe_callB call_lenS (by rfl) T.b_len (by decide +kernel) (pa_cons (pe_fld (pv 0) rfl) pa_nil)) pa_nil))))))
    (pss_one (ps_raise rfl (takes_of rfl rfl rfl rfl) (pmk_oex T.x_BadBoundary.oex T.x_BadBoundary.ini T.x_BadBoundary.tI (ok_BadBoundary___init__ T) (hr.mono (by decide)) T.D_BadBoundary___init__.b .nil pass0 (by rfl) T.x_BadBoundary.g (pa_cons (pv 2) pa_nil))))
    pss_nil)
    (pss_one (ps_ret (pe_m1 PySem.F.slot_str_count PySem.F.type_str_count mt_countS (pe_slice sl_S (pe_fld (pv 0) rfl) po_none (po_some (pv 2))) (pv 1))))), ?_⟩
    walk_at "go"
    rcases q with ⟨k, rfl, hk, q⟩ | ⟨nb, q⟩
    · refine ⟨_, _, _, rfl, .inl ⟨_, rfl, ?_⟩⟩
      rw [decide_eq_true (show (0 : Int) ≤ (k : Int) ∧ (k : Int) ≤ (l.length : Nat) from ⟨by omega, by omega⟩)]
      walk_at "go"
      rwa [cutN_take l (by omega), Int.toNat_natCast]
    · rcases nb with ⟨i, rfl, hi⟩ | ni
      · refine ⟨_, _, _, rfl, .inl ⟨i, rfl, ?_⟩⟩
        rw [decide_eq_false hi]
        walk_at "go"
        exact (made1 X1.oex T.n_BadBoundary_boundary fun d H' s' n e => q d H' s' n e).2
      · refine ⟨_, _, _, rfl, .inr ⟨ni, ?_⟩⟩
        walk_at "go"
        exact (made1 X1.oex T.n_BadBoundary_boundary fun d H' s' n e => q d H' s' n e).2
/-- the same of height, place -/
def spHeight (K : PySem.W.Frag) (AD : Ads) : Sp := fun vs H Q E => ∃ a l v, vs = [.ref a, v] ∧ ColAt AD.C_Column H a l ∧ l.length ≤ 12 ∧
  ((∃ k : Nat, v = .int k ∧ k ≤ l.length ∧ Q (.int (ht l k)) H) ∨ (NoBoundary K H v l.length ∧ Refused AD H v E))
theorem ok_Column_height (T : Top K mg AD) : FnOk P w K mg base (L2.CX P w) 4 AD.f_Column_height AD.d_Column_height P_Column_height (spHeight K AD) := by
  refine T.D_Column_height.F.okX sc_Column_height (fun vs H Q E h => ?_) (fun cdv A outer s H vs Q E hr h => ?_)
  · obtain ⟨a, l, v, rfl, _⟩ := h
    rfl
  · obtain ⟨a, l, v, rfl, ca, hl, q⟩ := h
    have k0 := ca
    obtain ⟨dx, ea⟩ := ca
    refine ⟨_, (pss_one (ps_ret (pe_op op_sub (pe_meth (pv 0) T.cl_Column T.m_Column_many (ok_Column_many T) (hr.mono (by decide)) T.D_Column_many.b .nil (passUp (takes_of rfl rfl rfl rfl)) (pa_cons (pe_s (x := Str.ofString "d") [100] (by decide +kernel)) (pa_cons (pv 1) pa_nil))) (pe_meth (pv 0) T.cl_Column T.m_Column_many (ok_Column_many T) (hr.mono (by decide)) T.D_Column_many.b .nil (passUp (takes_of rfl rfl rfl rfl)) (pa_cons (pe_s (x := Str.ofString "o") [111] (by decide +kernel)) (pa_cons (pv 1) pa_nil)))))), ?_⟩
    walk_at "go"
    rcases q with ⟨k, rfl, hk, q⟩ | ⟨nb, q⟩
    · refine ⟨a, dx, _, rfl, ea, rfl, ?_⟩
      walk_at "go"
      refine ⟨a, l, 100, _, rfl, k0, hl, .inl ⟨k, rfl, hk, ?_⟩⟩
      walk_at "go"
      refine ⟨a, dx, _, rfl, ea, rfl, ?_⟩
      walk_at "go"
      refine ⟨a, l, 111, _, rfl, k0, hl, .inl ⟨k, rfl, hk, ?_⟩⟩
      walk_at "go"
      exact q
    · refine ⟨a, dx, _, rfl, ea, rfl, ?_⟩
      walk_at "go"
      exact ⟨a, l, 100, _, rfl, k0, hl, .inr ⟨nb, q⟩⟩
def spPlace (K : PySem.W.Frag) (AD : Ads) : Sp := fun vs H Q E => ∃ a l v, vs = [.ref a, v] ∧ ColAt AD.C_Column H a l ∧ l.length ≤ 12 ∧
  ((∃ k : Nat, v = .int k ∧ k ≤ l.length ∧ ∀ p, H p = none → Q (.ref p) (upd H p (.tup [.int ((l.take k).count 111 : Nat), .int ((l.count 100 : Nat) - ((l.take k).count 100 : Nat))]))) ∨ (NoBoundary K H v l.length ∧ Refused AD H v E))
theorem ok_Column_place (T : Top K mg AD) : FnOk P w K mg base (L2.CX P w) 4 AD.f_Column_place AD.d_Column_place P_Column_place (spPlace K AD) := by
  refine T.D_Column_place.F.okX sc_Column_place (fun vs H Q E h => ?_) (fun cdv A outer s H vs Q E hr h => ?_)
  · obtain ⟨a, l, v, rfl, _⟩ := h
    rfl
  · obtain ⟨a, l, v, rfl, ca, hl, q⟩ := h
    have k0 := ca
    obtain ⟨dx, ea⟩ := ca
    have cl := T.cl_Column
    have nz := T.n_Column_size
    refine ⟨_, (pss_one (ps_ret (pe_tup (pa_cons (pe_meth (pv 0) T.cl_Column T.m_Column_many (ok_Column_many T) (hr.mono (by decide)) T.D_Column_many.b .nil (passUp (takes_of rfl rfl rfl rfl)) (pa_cons (pe_s (x := Str.ofString "o") [111] (by decide +kernel)) (pa_cons (pv 1) pa_nil))) (pa_cons (pe_op op_sub (pe_fld (pv 0) rfl) (pe_meth (pv 0) T.cl_Column T.m_Column_many (ok_Column_many T) (hr.mono (by decide)) T.D_Column_many.b .nil (passUp (takes_of rfl rfl rfl rfl)) (pa_cons (pe_s (x := Str.ofString "d") [100] (by decide +kernel)) (pa_cons (pv 1) pa_nil)))) pa_nil))))), ?_⟩
    walk_at "go"
    rcases q with ⟨k, rfl, hk, q⟩ | ⟨nb, q⟩
    · refine ⟨a, dx, _, rfl, ea, rfl, ?_⟩
      walk_at "go"
      refine ⟨a, l, 111, _, rfl, k0, hl, .inl ⟨k, rfl, hk, ?_⟩⟩
      walk_at "go"
      refine ⟨a, dx, _, rfl, ea, rfl, ?_⟩
      walk_at "go"
      refine ⟨a, l, 100, _, rfl, k0, hl, .inl ⟨k, rfl, hk, ?_⟩⟩
      walk_at "go"
      refine ⟨szl (by show 2 ≤ 1000; decide), fun p np => ?_⟩
      exact q p np
    · refine ⟨a, dx, _, rfl, ea, rfl, ?_⟩
      walk_at "go"
      exact ⟨a, l, 111, _, rfl, k0, hl, .inr ⟨nb, q⟩⟩
end

/-! ### heights, one by one; lists or tuples -/
theorem good_up {l : List Nat} {n : Nat} (g : Good l n) {k : Nat} (hk : k ≤ l.length) : 0 ≤ ht l k := by
  have := g.ahead k hk
  unfold ht
  omega
theorem good_end {l : List Nat} {n : Nat} (g : Good l n) : ht l l.length = 0 := by
  have h1 := ltr_count g.ltr
  have h2 := g.len
  have h3 := g.cnt
  unfold ht
  rw [List.take_length]
  omega
theorem good_step {l : List Nat} {n : Nat} (g : Good l n) {k : Nat} (hk : k < l.length) : ht l (k + 1) - ht l k = 1 ∨ ht l (k + 1) - ht l k = -1 := by
  have hc : l[k]? = some l[k] := List.getElem?_eq_getElem hk
  have := ht_step hc (g.ltr _ (List.getElem_mem hk))
  split at this <;> omega
theorem vI_get {l : List Nat} {m i : Nat} (hi : i < m + 1) : (vI (htsI l m))[i]? = some (.int (ht l i)) := by
  unfold vI htsI
  simp [hi]
theorem vI_len (l : List Nat) (m : Nat) : (vI (htsI l m)).length = m + 1 := by
  unfold vI
  rw [List.length_map, htsI_len]
section
variable {P : Program} {w : World} {K : PySem.W.Frag} {mg : Str → Option Value} {base : Heap} {AD : Ads}
/-- a list or tuple -/
def Seq2 (K : PySem.W.Frag) (H : Hp) (p : Addr) (xs : List V) : Prop := H p = some (.lst xs) ∨ H p = some (.tup xs)
theorem Seq2.q {H : Hp} {p : Addr} {xs : List V} (s : Seq2 K H p xs) : SqL K H p xs ∨ SqT K H p xs := s.elim (fun e => .inl (SqL.of e)) (fun e => .inr (SqT.of e))
theorem ixQ_of {H : Hp} {p : Addr} {xs : List V} {i : Int} {v : V} {Q : VK} (s : Seq2 K H p xs) (ha : atI xs i = some v) (q : Q v H) : rIxQ K (.ref p) (.int i) H Q :=
  s.elim (fun e => .inl ⟨p, xs, i, v, rfl, rfl, SqL.of e, ha, q⟩) (fun e => .inr ⟨p, xs, i, v, rfl, rfl, SqT.of e, ha, q⟩)
theorem Seq2.mono {H H' : Hp} {p : Addr} {xs : List V} (s : Seq2 K H p xs) (m : Same H H') : Seq2 K H' p xs := s.elim (fun e => .inl (m _ _ e)) (fun e => .inr (m _ _ e))
def spIsSeq (K : PySem.W.Frag) : Sp := fun vs H Q _ => ∃ p xs, vs = [.ref p] ∧ Seq2 K H p xs ∧ ∀ H', Same H H' → Q (.bl true) H'
theorem ok_is_sequence (T : Top K mg AD) : FnOk P w K mg base CX0 1 AD.f_is_sequence AD.d_is_sequence P_is_sequence (spIsSeq K) := by
  refine T.D_is_sequence.F.ok sc_is_sequence (fun vs H Q E h => ?_) (fun cdv A outer s H vs Q E hr h => ?_)
  · obtain ⟨v, xs, rfl, _⟩ := h
    rfl
  · obtain ⟨p, xs, rfl, sq, q⟩ := h
    refine ⟨_, (pss_one (ps_ret (pe_callB (call_isiTK (K := K) rfl) (by rfl) T.b_isinstance (by decide +kernel) (pa_cons (pv 0) (pa_cons (pe_tup (pa_cons (pe_bltn (v := .ty "list") (u := .type "list") (by rfl) T.b_list (by decide +kernel) rfl) (pa_cons (pe_bltn (v := .ty "tuple") (u := .type "tuple") (by rfl) T.b_tuple (by decide +kernel) rfl) pa_nil))) pa_nil))))), ?_⟩
    walk_at "go"
    refine ⟨szl (by show 2 ≤ 1000; decide), fun tp htp => ?_⟩
    walk_at "go"
    have s1 := same_new (o := .tup [.ty "list", .ty "tuple"]) (Same.refl H) htp
    rcases sq with e | e
    · exact ⟨_, tp, _, _, _, true, rfl, upd_same, .cons (.ty _) (.cons (.ty _) .nil), .base (.lst (s1 _ _ e)), any_hd (kit_ty (by decide +kernel)), q _ s1⟩
    · exact ⟨_, tp, _, _, _, true, rfl, upd_same, .cons (.ty _) (.cons (.ty _) .nil), .base (.tup (s1 _ _ e)), any_tl (kit_ty (by decide +kernel)) (any_hd (kit_ty (by decide +kernel))), q _ s1⟩
end

/-! ### heights_fault, of_heights -/
section
variable {P : Program} {w : World} {K : PySem.W.Frag} {mg : Str → Option Value} {base : Heap} {AD : Ads}
set_option hygiene false in
local macro_rules | `(tactic| walk_at "hf") => `(tactic| (
  rw [vI_len] at hi
  obtain rfl := (Option.some.inj ea)
  obtain rfl : V.int (ht l i) = b := Option.some.inj ((vI_get hi).symm.trans eb)
  have s3 := same_new (o := .tup [.int (i : Nat), .int (ht l i)]) s2 nT
  have sq3 := sqh.mono s3
  have up := good_up g (k := i) (by omega)
  refine ⟨T', _, rfl, SqT.of upd_same, rfl, _, _, rfl, _, _, rfl, rfl, ?_⟩
  walk_at "go"
  refine ite2 (fun e0 => ?_) (fun e0 => ?_)
  · have i0 : i = 0 := by simpa using e0
    subst i0
    rw [ht_zero] at s3 ⊢
    walk_at "go"
    refine ite2 (fun e1 => ?_) (fun e1 => ?_)
    · exfalso
      have : (0 : Int) < (0 : Nat) := of_decide_eq_true e1
      omega
    walk_at "go"
    exact ⟨_, _, rfl, s3⟩
  · have i0 : ¬ i = 0 := fun z => e0 (by rw [z]; exact decide_eq_true rfl)
    walk_at "go"
    refine ite2 (fun e1 => ?_) (fun e1 => ?_)
    · obtain ⟨k, rfl⟩ : ∃ k, i = k + 1 := ⟨i - 1, by omega⟩
      walk_at "go"
      refine ixQ_of (i := ((k + 1 : Nat) : Int) - 1) sq3 (by rw [show ((k + 1 : Nat) : Int) - 1 = (k : Int) by omega]; exact atI_nat (vI_get (by omega))) ?_
      walk_at "go"
      have ab : (if ht l (k + 1) - ht l k < 0 then -(ht l (k + 1) - ht l k) else ht l (k + 1) - ht l k) = 1 := by
        rcases good_step g (k := k) (by omega) with z | z <;> split <;> omega
      rw [ab]
      walk_at "go"
      refine ite2 (fun e2 => ?_) (fun e2 => ?_)
      · exfalso
        have := of_decide_eq_true e2
        omega
      walk_at "go"
      exact ⟨_, _, rfl, s3⟩
    · exfalso
      exact e1 (decide_eq_true (by omega))))
def spHF (K : PySem.W.Frag) : Sp := fun vs H Q _ => ∃ p l n, vs = [.ref p] ∧ Seq2 K H p (vI (htsI l l.length)) ∧ Good l n ∧ (1 ≤ n ∧ n ≤ 6) ∧ ∀ H', Same H H' → Q .non H'
theorem ok_heights_fault (T : Top K mg AD) : FnOk P w K mg base CX0 2 AD.f_heights_fault AD.d_heights_fault P_heights_fault (spHF K) := by
  refine T.D_heights_fault.F.ok sc_heights_fault (fun vs H Q E h => ?_) (fun cdv A outer s H vs Q E hr h => ?_)
  · obtain ⟨p, l, n, rfl, _⟩ := h
    rfl
  · obtain ⟨p, l, n, rfl, sq, g, ⟨n1, n6⟩, q⟩ := h
    obtain ⟨_, hc_MOST_SIZE⟩ := T.c_MOST_SIZE
    have gl := g.len
    refine ⟨_, (pss_cons (ps_if (PW.pt (pw_or (pt_not (pt_val (callD T.D_is_sequence (ok_is_sequence T) hr (pa_cons (pv 0) pa_nil)))) (pw_or1 (pt_not (pt_chain op_le op_le pe_int (pe_callB (call_lenQ (K := K) rfl) (by rfl) T.b_len (by decide +kernel) (pa_cons (pv 0) pa_nil)) (pe_op op_add (pe_op op_mul pe_int (pe_glob (v := .int 6) rfl hc_MOST_SIZE ⟨_, rfl⟩)) pe_int))))))
    (pss_one (ps_ret (pe_tup (pa_cons pe_int (pa_cons (pe_s (x := Str.ofString "heights") [104, 101, 105, 103, 104, 116, 115] (by decide +kernel)) pa_nil)))))
    pss_nil)
    (pss_cons (ps_if (pt_cmpR op_eq (pe_op op_mod (pe_callB (call_lenQ (K := K) rfl) (by rfl) T.b_len (by decide +kernel) (pa_cons (pv 0) pa_nil)) pe_int) pe_int (nomark _))
    (pss_one (ps_ret (pe_tup (pa_cons pe_int (pa_cons (pe_s (x := Str.ofString "heights") [104, 101, 105, 103, 104, 116, 115] (by decide +kernel)) pa_nil)))))
    pss_nil)
    (pss_cons (ps_for PassesOwn.never rfl (pi_enumQ (K := K) (by rfl) (by rfl) T.b_enumerate (pa_cons (pv 0) pa_nil)) (pg_tup (by rfl) (pgs_cons (pg_name (i := 1) sc_heights_fault.nd rfl (Or.inl rfl)) (pgs_cons (pg_name (i := 2) sc_heights_fault.nd rfl (Or.inl rfl)) pgs_nil)))
    (pss_cons (ps_if (pt_not (pt_val (callD T.D_is_number (ok_is_number T) hr (pa_cons (pv 2) pa_nil))))
    (pss_one (ps_ret (pe_tup (pa_cons (pv 1) (pa_cons (pe_s (x := Str.ofString "number") [110, 117, 109, 98, 101, 114] (by decide +kernel)) pa_nil)))))
    pss_nil)
    (pss_cons (ps_if (PW.pt (pw_and (pt_cmpR op_eq (pv 1) pe_int (nomark _)) (pw_and1 (pt_cmpR op_ne (pv 2) pe_int (nomark _)))))
    (pss_one (ps_ret (pe_tup (pa_cons (pv 1) (pa_cons (pe_s (x := Str.ofString "start") [115, 116, 97, 114, 116] (by decide +kernel)) pa_nil)))))
    pss_nil)
    (pss_cons (ps_if (PW.pt (pw_and (pt_cmpR op_gt (pv 1) pe_int (nomark _)) (pw_and1 (pt_cmpR op_ne (pe_callB call_abs (by rfl) T.b_abs (by decide +kernel) (pa_cons (pe_op op_sub (pv 2) (pe_ix (ix_Q (K := K) rfl) (pv 0) (pe_op op_sub (pv 1) pe_int) (fun _ _ => rfl))) pa_nil)) pe_int (nomark _)))))
    (pss_one (ps_ret (pe_tup (pa_cons (pv 1) (pa_cons (pe_s (x := Str.ofString "step") [115, 116, 101, 112] (by decide +kernel)) pa_nil)))))
    pss_nil)
    (pss_one (ps_if (pt_cmpR op_lt (pv 2) pe_int (nomark _))
    (pss_one (ps_ret (pe_tup (pa_cons (pv 1) (pa_cons (pe_s (x := Str.ofString "below") [98, 101, 108, 111, 119] (by decide +kernel)) pa_nil)))))
    pss_nil))))))
    (pss_cons (ps_if (pt_cmpR op_ne (pe_ix (ix_Q (K := K) rfl) (pv 0) (pe_un un_neg pe_int) (fun _ _ => rfl)) pe_int (nomark _))
    (pss_one (ps_ret (pe_tup (pa_cons (pe_op op_sub (pe_callB (call_lenQ (K := K) rfl) (by rfl) T.b_len (by decide +kernel) (pa_cons (pv 0) pa_nil)) pe_int) (pa_cons (pe_s (x := Str.ofString "end") [101, 110, 100] (by decide +kernel)) pa_nil)))))
    pss_nil)
    (pss_one (ps_ret pe_non)))))), ?_⟩
    walk_at "go"
    refine ⟨p, _, rfl, sq, fun H1 s1 => ?_⟩
    have sq1 := sq.mono s1
    walk_at "go"
    refine ⟨p, _, rfl, sq1.q, ?_⟩
    rw [vI_len]
    walk_at "go"
    rw [if_pos (decide_eq_true (by omega))]
    walk_at "go"
    refine ite2 (fun e => ?_) (fun e => ?_)
    · exfalso
      have e2 : ¬ ((l.length + 1 : Nat) : Int) ≤ 2 * 6 + 1 := by simpa using e
      omega
    walk_at "go"
    refine ⟨p, _, rfl, sq1.q, ?_⟩
    rw [vI_len]
    walk_at "go"
    refine ite2 (fun e => ?_) (fun e => ?_)
    · exfalso
      have e2 : ((l.length + 1 : Nat) : Int) % 2 = 0 := by simpa using e
      omega
    walk_at "go"
    have sqh := sq1
    rcases sq1 with e | e
    · refine ⟨p, _, rfl, .inl ⟨SqL.of e, for_it walk_enum (fun i σ H' => ∃ (o1 o2 : Option V), σ = [some (.ref p), o1, o2] ∧ Same H1 H') ⟨none, none, rfl, Same.refl H1⟩ (fun i σ H' _ h => by obtain ⟨_, _, rfl, s⟩ := h; exact SqL.of (s _ _ e)) ?_ ?_⟩⟩
      · rintro i x σ H2 H3 hi ⟨o1, o2, rfl, s2⟩ ⟨T', a, b, rfl, nT, rfl, ea, eb⟩
        walk_at "hf"
      · rintro σ H2 ⟨o1, o2, rfl, s2⟩
        walk_at "go"
        refine ixQ_of (i := -1) (sqh.mono s2) (vI_last l l.length) ?_
        rw [good_end g]
        walk_at "go"
        exact q _ (s1.trans s2)
    · refine ⟨p, _, rfl, .inr ⟨SqT.of e, for_it walk_enumT (fun i σ H' => ∃ (o1 o2 : Option V), σ = [some (.ref p), o1, o2] ∧ Same H1 H') ⟨none, none, rfl, Same.refl H1⟩ (fun i σ H' _ h => by obtain ⟨_, _, rfl, s⟩ := h; exact SqT.of (s _ _ e)) ?_ ?_⟩⟩
      · rintro i x σ H2 H3 hi ⟨o1, o2, rfl, s2⟩ ⟨T', a, b, rfl, nT, rfl, ea, eb⟩
        walk_at "hf"
      · rintro σ H2 ⟨o1, o2, rfl, s2⟩
        walk_at "go"
        refine ixQ_of (i := -1) (sqh.mono s2) (vI_last l l.length) ?_
        rw [good_end g]
        walk_at "go"
        exact q _ (s1.trans s2)
end
section
variable {P : Program} {w : World} {K : PySem.W.Frag} {mg : Str → Option Value} {base : Heap} {AD : Ads}
theorem ok_BadHeights___init__ (T : Top K mg AD) : FnOk P w K mg base CX0 1 AD.f_BadHeights___init__ AD.d_BadHeights___init__ P_BadHeights___init__ (spE2 K "index" "what") := by
  refine T.D_BadHeights___init__.F.ok sc_BadHeights___init__ (fun vs H Q E h => ?_) (fun cdv A outer s H vs Q E hr h => ?_)
  · obtain ⟨a, C, v, u, rfl, _⟩ := h
    rfl
  · obtain ⟨a, C, v, u, rfl, ho, hf, hg, ha, q⟩ := h
    refine ⟨_, (pss_cons (ps_ost (pv 0) (pv 1))
    (pss_one (ps_ost (pv 0) (pv 2)))), ?_⟩
    walk_at "go"
    refine ⟨a, C, rfl, ho, hf, .inl ⟨ha, fun dx n ne => ?_⟩⟩
    walk_at "go"
    refine ⟨a, C, rfl, ho, hg, .inr ⟨dx, _, upd_same, (upd_ne ne).trans upd_same, by show 1 ≤ 900; decide, q dx n ne⟩⟩
def spOfHeights (K : PySem.W.Frag) (AD : Ads) : Sp := fun vs H Q _ => ∃ p l n, vs = [.ref p] ∧ Seq2 K H p (vI (htsI l l.length)) ∧ Good l n ∧ (1 ≤ n ∧ n ≤ 6) ∧ ∀ x H', Same H H' → H x = none → ColAt AD.C_Column H' x l → Q (.ref x) H'
theorem ok_Column_of_heights (T : Top K mg AD) : FnOk P w K mg base (L2.CX P w) 5 AD.f_Column_of_heights AD.d_Column_of_heights P_Column_of_heights (spOfHeights K AD) := by
  refine T.D_Column_of_heights.F.okX sc_Column_of_heights (fun vs H Q E h => ?_) (fun cdv A outer s H vs Q E hr h => ?_)
  · obtain ⟨p, l, n, rfl, _⟩ := h
    rfl
  · obtain ⟨p, l, n, rfl, sq, g, ⟨n1, n6⟩, q⟩ := h
    refine ⟨_, (pss_cons (ps_set (i := 1) sc_Column_of_heights.nd rfl (Or.inl rfl) (callD T.D_heights_fault (ok_heights_fault T) hr (pa_cons (pv 0) pa_nil)))
    (pss_cons (ps_if (pt_cmpR op_notN (pv 1) pe_non (nomark _))
    (pss_one (ps_raise rfl (takes_of rfl rfl rfl rfl) (pmk_oex T.x_BadHeights.oex T.x_BadHeights.ini T.x_BadHeights.tI (ok_BadHeights___init__ T) (hr.mono (by decide)) T.D_BadHeights___init__.b .nil pass0 (by rfl) T.x_BadHeights.g (pa_cons (pe_ix (ix_tupK (K := K) rfl) (pv 1) pe_int (fun _ _ => rfl)) (pa_cons (pe_ix (ix_tupK (K := K) rfl) (pv 1) pe_int (fun _ _ => rfl)) pa_nil)))))
    pss_nil)
    (pss_one (ps_ret (pe_makeS (E := fun _ => E0) T.mk_Column (ok_Column___init__ T) (hr.mono (by decide)) (by rfl) T.g_Column T.D_Column___init__.b (fun σ => passAt takes0 σ) (pa_cons (pe_join (pe_s (x := Str.ofString "") [] (by decide +kernel)) (pe_lc (own := [("step", 2)]) (g := (gName 2)) (tt := tYes) rfl sc_Column_of_heights.nd (pi_range1 (by rfl) T.b_range (pa_cons (pe_op op_sub (pe_callB (call_lenQ (K := K) rfl) (by rfl) T.b_len (by decide +kernel) (pa_cons (pv 0) pa_nil)) pe_int) pa_nil)) (blkOk_by (N := N_Column_of_heights) (sc := defScope s_Column_of_heights) (by decide +kernel)) (fun _ _ _ _ _ => (pg_name (i := 2) sc_Column_of_heights.nd rfl (by first | exact Or.inl rfl | exact Or.inr rfl))) (fun _ _ _ _ _ => pts_nil) (fun _ _ _ _ _ => (pe_ifExp (pt_cmpR op_lt (pe_ix (ix_Q (K := K) rfl) (pv 0) (pv 2) (fun _ _ => rfl)) (pe_ix (ix_Q (K := K) rfl) (pv 0) (pe_op op_add (pv 2) pe_int) (fun _ _ => rfl)) (nomark _)) (pe_s (x := Str.ofString "d") [100] (by decide +kernel)) (pe_s (x := Str.ofString "o") [111] (by decide +kernel)))))) pa_nil)))))), ?_⟩
    walk_at "go"
    refine ⟨p, l, n, rfl, sq, g, ⟨n1, n6⟩, fun H1 s1 => ?_⟩
    have sq1 := sq.mono s1
    walk_at "go"
    refine ⟨p, _, rfl, sq1.q, ?_⟩
    rw [vI_len]
    have gl := g.len
    walk_at "go"
    intro D hD
    refine lc_it (walk_range (lo := 0) (n := (((l.length + 1 : Nat) : Int) - 1).toNat)) (fun i H' => But D H1 H' ∧ H' D = some (.lst ((l.take i).map fun c => V.str (sOf [c])))) ⟨But.upd (But.refl _ _), upd_same⟩ (fun _ _ _ _ => trivial) ?_ ?_
    · rintro i x H2 H3 hi ⟨b2, e2⟩ ⟨rfl, rfl⟩
      have hi2 : i < l.length := by omega
      have sq3 := sq1.mono (same_but (Same.refl _) hD b2)
      have hc : l[i]? = some l[i] := List.getElem?_eq_getElem hi2
      have gs := g.ltr _ (List.getElem_mem hi2)
      have st := ht_step hc gs
      have fits : ((l.take i).map fun c => V.str (sOf [c])).length < sizeLine := small1000 (by rw [List.length_map]; have := List.length_take_le i l; omega)
      walk_at "go"
      refine ixQ_of (i := 0 + (i : Int)) sq3 (by rw [Int.zero_add]; exact atI_nat (vI_get (by omega))) ?_
      walk_at "go"
      refine ixQ_of (i := 0 + (i : Int) + 1) sq3 (by rw [show 0 + (i : Int) + 1 = ((i + 1 : Nat) : Int) by omega]; exact atI_nat (vI_get (by omega))) ?_
      walk_at "go"
      refine ite2 (fun e => ?_) (fun e => ?_)
      · have e1 := of_decide_eq_true e
        have ec : l[i] = 100 := by
          rcases gs with z | z
          · exact z
          · exfalso
            rw [if_neg (by omega)] at st
            omega
        walk_at "go"
        refine ⟨_, e2, fits, But.upd b2, ?_⟩
        rw [upd_same, List.take_add_one, hc, List.map_append, ec]
        rfl
      · have e1 : ¬ ht l i < ht l (i + 1) := fun z => e (decide_eq_true z)
        have ec : l[i] = 111 := by
          rcases gs with z | z
          · exfalso
            rw [if_pos z] at st
            omega
          · exact z
        walk_at "go"
        refine ⟨_, e2, fits, But.upd b2, ?_⟩
        rw [upd_same, List.take_add_one, hc, List.map_append, ec]
        rfl
    · rintro H2 ⟨b2, e2⟩
      rw [show (((l.length + 1 : Nat) : Int) - 1).toNat = l.length by omega, List.take_length] at e2
      have s2 := s1.trans (same_but (Same.refl _) hD b2)
      have es : (l.map fun c => V.str (sOf [c])) = (l.map fun c => sOf [c]).map V.str := by rw [List.map_map]; rfl
      walk_at "go"
      refine ⟨_, D, l.map fun c => sOf [c], rfl, rfl, .inl (SqL.of (by rw [e2, es])), ?_, ?_⟩
      · rw [sum_signs, List.length_map, sOf_len]
        show l.length + l.length * 0 ≤ 16777216
        omega
      · rw [join_signs]
        walk_at "go"
        exact fun y dy ny ndy ne => col_made (good_fault g n1 n6) (by omega) ny ndy ne fun H3 s3 c3 => q y H3 (s2.trans s3) (s2.free ny) c3
end

/-! ### mirrored -/
def flipL (c : Nat) : Nat := if c = 100 then 111 else 100
def mir (l : List Nat) : List Nat := l.reverse.map flipL
theorem flip_count : ∀ {l : List Nat}, (∀ c ∈ l, c = 100 ∨ c = 111) → (l.map flipL).count 111 = l.count 100 ∧ (l.map flipL).count 100 = l.count 111
  | [], _ => ⟨rfl, rfl⟩
  | x :: r, h => by
    obtain ⟨h1, h2⟩ := flip_count (l := r) fun c hc => h c (List.mem_cons_of_mem _ hc)
    rw [List.map_cons, List.count_cons, List.count_cons, List.count_cons, List.count_cons, h1, h2]
    rcases h x List.mem_cons_self with e | e <;> subst e <;> simp [flipL]
theorem mir_len (l : List Nat) : (mir l).length = l.length := by simp [mir]
theorem mir_ltr (l : List Nat) : ∀ c ∈ mir l, c = 100 ∨ c = 111 := fun c hc => by
  obtain ⟨x, _, e⟩ := List.mem_map.mp hc
  rw [← e]
  unfold flipL
  split
  · exact .inr rfl
  · exact .inl rfl
theorem Good.mir {l : List Nat} {n : Nat} (g : Good l n) : Good (mir l) n := by
  have hr : ∀ c ∈ l.reverse, c = 100 ∨ c = 111 := fun c hc => g.ltr c (List.mem_reverse.mp hc)
  have tot := ltr_count g.ltr
  have h1 := g.len
  have h2 := g.cnt
  refine ⟨by rw [mir_len]; exact g.len, ?_, mir_ltr l, fun k hk => ?_⟩
  · unfold Sl.mir
    rw [(flip_count hr).2, List.count_reverse]
    omega
  · rw [mir_len] at hk
    unfold Sl.mir
    rw [← List.map_take]
    have ht : ∀ c ∈ l.reverse.take k, c = 100 ∨ c = 111 := fun c hc => hr c (List.mem_of_mem_take hc)
    rw [(flip_count ht).1, (flip_count ht).2, List.take_reverse, List.count_reverse, List.count_reverse]
    have a := g.ahead (l.length - k) (by omega)
    have e : ∀ c, (l.take (l.length - k)).count c + (l.drop (l.length - k)).count c = l.count c := fun c => by rw [← List.count_append, List.take_append_drop]
    have e1 := e 100
    have e2 := e 111
    omega
section
variable {P : Program} {w : World} {K : PySem.W.Frag} {mg : Str → Option Value} {base : Heap} {AD : Ads}
def spMirrored (K : PySem.W.Frag) (AD : Ads) : Sp := fun vs H Q _ => ∃ a l n, vs = [.ref a] ∧ ColAt AD.C_Column H a l ∧ Good l n ∧ (1 ≤ n ∧ n ≤ 6) ∧ ∀ x H', Same H H' → H x = none → ColAt AD.C_Column H' x (mir l) → Q (.ref x) H'
theorem ok_Column_mirrored (T : Top K mg AD) : FnOk P w K mg base CX0 5 AD.f_Column_mirrored AD.d_Column_mirrored P_Column_mirrored (spMirrored K AD) := by
  refine T.D_Column_mirrored.F.ok sc_Column_mirrored (fun vs H Q E h => ?_) (fun cdv A outer s H vs Q E hr h => ?_)
  · obtain ⟨p, l, n, rfl, _⟩ := h
    rfl
  · obtain ⟨a, l, n, rfl, ⟨dx, ea⟩, g, ⟨n1, n6⟩, q⟩ := h
    have cl := T.cl_Column
    have nw := T.n_Column_word
    have gl := g.len
    refine ⟨_, (pss_one (ps_ret (pe_makeS (E := fun _ => E0) T.mk_Column (ok_Column___init__ T) (hr.mono (by decide)) (by rfl) T.g_Column T.D_Column___init__.b (fun σ => passAt takes0 σ) (pa_cons (pe_join (pe_s (x := Str.ofString "") [] (by decide +kernel)) (pe_lc (own := [("letter", 1)]) (g := (gName 1)) (tt := tYes) rfl sc_Column_mirrored.nd (pi_str (pe_revS (pe_fld (pv 0) rfl))) (blkOk_by (N := N_Column_mirrored) (sc := defScope s_Column_mirrored) (by decide +kernel)) (fun _ _ _ _ _ => (pg_name (i := 1) sc_Column_mirrored.nd rfl (by first | exact Or.inl rfl | exact Or.inr rfl))) (fun _ _ _ _ _ => pts_nil) (fun _ _ _ _ _ => (pe_ifExp (pt_cmpR op_eq (pv 1) (pe_s (x := Str.ofString "d") [100] (by decide +kernel)) (nomark _)) (pe_s (x := Str.ofString "o") [111] (by decide +kernel)) (pe_s (x := Str.ofString "d") [100] (by decide +kernel)))))) pa_nil)))), ?_⟩
    walk_at "go"
    intro D hD
    refine lc_it (walk_S (l := l.reverse)) (fun i H' => But D H H' ∧ H' D = some (.lst ((((l.reverse).map flipL).take i).map fun c => V.str (sOf [c])))) ⟨But.upd (But.refl _ _), upd_same⟩ (fun _ _ _ _ => trivial) ?_ ?_
    · rintro i x H2 H3 hi ⟨b2, e2⟩ ⟨rfl, c, hc, rfl⟩
      have hcm : (l.reverse.map flipL)[i]? = some (flipL c) := by rw [List.getElem?_map, hc]; rfl
      have fits : (((l.reverse.map flipL).take i).map fun c => V.str (sOf [c])).length < sizeLine := small1000 (by rw [List.length_map]; have := List.length_take_le' i (l.reverse.map flipL); simp at this ⊢; omega)
      walk_at "go"
      refine ite2 (fun e => ?_) (fun e => ?_)
      · have ec : c = 100 := by simpa using sOf_inj.mp (V.str.inj (of_decide_eq_true e))
        walk_at "go"
        refine ⟨_, e2, fits, But.upd b2, ?_⟩
        rw [upd_same, List.take_add_one, hcm, List.map_append, flipL, if_pos ec]
        rfl
      · have ec : ¬ c = 100 := fun z => e (by rw [z]; exact decide_eq_true rfl)
        walk_at "go"
        refine ⟨_, e2, fits, But.upd b2, ?_⟩
        rw [upd_same, List.take_add_one, hcm, List.map_append, flipL, if_neg ec]
        rfl
    · rintro H2 ⟨b2, e2⟩
      have full : (l.reverse.map flipL).take l.reverse.length = Sl.mir l := by
        rw [List.take_of_length_le (by simp)]
        rfl
      rw [full] at e2
      have s2 := same_but (Same.refl H) hD b2
      have es : ((Sl.mir l).map fun c => V.str (sOf [c])) = ((Sl.mir l).map fun c => sOf [c]).map V.str := by rw [List.map_map]; rfl
      have ml := mir_len l
      walk_at "go"
      refine ⟨_, D, (Sl.mir l).map fun c => sOf [c], rfl, rfl, .inl (SqL.of (by rw [e2, es])), ?_, ?_⟩
      · rw [sum_signs, List.length_map, sOf_len]
        show (Sl.mir l).length + (Sl.mir l).length * 0 ≤ 16777216
        omega
      · rw [join_signs]
        walk_at "go"
        exact fun y dy ny ndy ne => col_made (good_fault g.mir n1 n6) (by omega) ny ndy ne fun H3 s3 c3 => q y H3 (s2.trans s3) (s2.free ny) c3
end

/-! ### creases -/
def wHollow : List Nat := [104, 111, 108, 108, 111, 119]
def wRidge : List Nat := [114, 105, 100, 103, 101]
/-- what stands at the boundary k + 1 -/
def crOne (l : List Nat) (k : Nat) : Option (Nat × List Nat) := if l[k + 1]? = l[k]? then none else some (k + 1, if l[k + 1]? = some 111 then wHollow else wRidge)
def crI (l : List Nat) (i : Nat) : List (Nat × List Nat) := (List.range i).filterMap (crOne l)
def crD (z : Nat × List Nat) : PyData := .tuple [.int (z.1 : Nat), .str (sOf z.2)]
theorem crI_succ (l : List Nat) (i : Nat) : crI l (i + 1) = crI l i ++ (crOne l i).toList := by
  unfold crI
  rw [List.range_succ, List.filterMap_append]
  congr 1
theorem crI_yes {l : List Nat} {i x y : Nat} (h1 : l[i + 1]? = some x) (h0 : l[i]? = some y) (ne : ¬ x = y) : (crI l (i + 1)).map crD = (crI l i).map crD ++ [.tuple [.int ((i + 1 : Nat) : Int), .str (sOf (if x = 111 then wHollow else wRidge))]] := by
  have e : crOne l i = some (i + 1, if x = 111 then wHollow else wRidge) := by
    unfold crOne
    rw [h1, h0, if_neg (by simpa using ne)]
    simp
  rw [crI_succ, e, List.map_append]
  rfl
theorem crI_no {l : List Nat} {i x y : Nat} (h1 : l[i + 1]? = some x) (h0 : l[i]? = some y) (e : x = y) : crI l (i + 1) = crI l i := by
  have e : crOne l i = none := by
    unfold crOne
    rw [h1, h0, e, if_pos rfl]
  rw [crI_succ, e]
  simp
theorem crI_len (l : List Nat) (i : Nat) : (crI l i).length ≤ i := by
  unfold crI
  exact Nat.le_trans (List.length_filterMap_le _ _) (by simp)
section
variable {P : Program} {w : World} {K : PySem.W.Frag} {mg : Str → Option Value} {base : Heap} {AD : Ads}
/-- a property of a column that gives a tuple of data -/
def spDat (K : PySem.W.Frag) (AD : Ads) (f : List Nat → List PyData) : Sp := fun vs H Q _ => ∃ a l n, vs = [.ref a] ∧ ColAt AD.C_Column H a l ∧ Good l n ∧ (1 ≤ n ∧ n ≤ 6) ∧ ∀ p xs H', Same H H' → H p = none → H' p = some (.tup xs) → DpAll K H' xs (f l) → Q (.ref p) H'
theorem ok_Column_creases (T : Top K mg AD) : FnOk P w K mg base CX0 1 AD.f_Column_creases AD.d_Column_creases P_Column_creases (spDat K AD fun l => (crI l (l.length - 1)).map crD) := by
  refine T.D_Column_creases.F.ok sc_Column_creases (fun vs H Q E h => ?_) (fun cdv A outer s H vs Q E hr h => ?_)
  · obtain ⟨p, l, n, rfl, _⟩ := h
    rfl
  · obtain ⟨a, l, n, rfl, ⟨dx, ea⟩, g, ⟨n1, n6⟩, q⟩ := h
    have hl : l.length ≤ 12 := by have := g.len; omega
    have cl := T.cl_Column
    have nw := T.n_Column_word
    refine ⟨_, (pss_one (ps_ret (pe_callTy call_tuple_of (by rfl) T.b_tuple (by decide +kernel) (pa_cons (pe_lc (own := [("boundary", 1)]) (g := (gName 1)) rfl sc_Column_creases.nd (pi_range2 (by rfl) T.b_range (pa_cons pe_int (pa_cons (pe_callB call_lenS (by rfl) T.b_len (by decide +kernel) (pa_cons (pe_fld (pv 0) rfl) pa_nil)) pa_nil))) (blkOk_by (N := N_Column_creases) (sc := defScope s_Column_creases) (by decide +kernel)) (fun _ _ _ _ _ => (pg_name (i := 1) sc_Column_creases.nd rfl (by first | exact Or.inl rfl | exact Or.inr rfl))) (fun _ _ _ _ _ => (pts_one (pt_cmpR op_ne (pe_ix ix_S (pe_fldK (K := K) (by rfl) (pv 0) rfl) (pv 1) (fun _ _ => rfl)) (pe_ix ix_S (pe_fldK (K := K) (by rfl) (pv 0) rfl) (pe_op op_sub (pv 1) pe_int) (fun _ _ => rfl)) (nomark _)))) (fun _ _ _ _ _ => (pe_tup (pa_cons (pv 1) (pa_cons (pe_ifExp (pt_cmpR op_eq (pe_ix ix_S (pe_fldK (K := K) (by rfl) (pv 0) rfl) (pv 1) (fun _ _ => rfl)) (pe_s (x := Str.ofString "o") [111] (by decide +kernel)) (nomark _)) (pe_s (x := Str.ofString "hollow") [104, 111, 108, 108, 111, 119] (by decide +kernel)) (pe_s (x := Str.ofString "ridge") [114, 105, 100, 103, 101] (by decide +kernel))) pa_nil))))) pa_nil)))), ?_⟩
    walk_at "go"
    refine ⟨_, _, rfl, ⟨by omega, by omega, by omega, by omega⟩, ?_⟩
    intro D hD
    refine lc_it (walk_range (lo := 1) (n := ((l.length : Int) - 1).toNat)) (fun i H' => ∃ xs, Gh K H D H' xs ((crI l i).map crD) ∧ xs.length ≤ i) ⟨[], Gh.start hD, Nat.le_refl _⟩ (fun _ _ _ _ => trivial) ?_ ?_
    · rintro i x H2 H3 hi ⟨xs, gh, hx⟩ ⟨rfl, rfl⟩
      have ea2 := gh.same _ _ ea
      have h1 : i + 1 < l.length := by omega
      have g1 : l[i + 1]? = some l[i + 1] := List.getElem?_eq_getElem h1
      have g0 : l[i]? = some l[i] := List.getElem?_eq_getElem (by omega)
      have e1 : atI l (1 + (i : Int)) = some l[i + 1] := by rw [show 1 + (i : Int) = ((i + 1 : Nat) : Int) by omega]; exact atI_nat g1
      have e0 : atI l (1 + (i : Int) - 1) = some l[i] := by rw [show 1 + (i : Int) - 1 = (i : Int) by omega]; exact atI_nat g0
      walk_at "go"
      refine ⟨l, _, _, rfl, rfl, by omega, e1, ?_⟩
      walk_at "go"
      refine ⟨l, _, _, rfl, rfl, by omega, e0, ?_⟩
      walk_at "go"
      have small : xs.length < sizeLine := small1000 (by omega)
      have pos : (1 : Int) + (i : Int) = ((i + 1 : Nat) : Int) := by omega
      have prs : ∀ (G : Hp) (z : List Nat), DpAll K G [.int (1 + (i : Int)), .str (sOf z)] [.int ((i + 1 : Nat) : Int), .str (sOf z)] := fun G z => by rw [pos]; exact .cons (.int _) (.cons (.str _) .nil)
      refine ite2 (fun e => ?_) (fun e => ?_)
      · have ne : ¬ l[i + 1] = l[i] := fun z => by rw [z] at e; simp at e
        have nx := crI_yes g1 g0 ne
        walk_at "go"
        refine ⟨l, _, _, rfl, rfl, by omega, e1, ?_⟩
        walk_at "go"
        refine ite2 (fun e2 => ?_) (fun e2 => ?_)
        · have c : l[i + 1] = 111 := by simpa using sOf_inj.mp (V.str.inj (of_decide_eq_true e2))
          rw [if_pos c] at nx
          walk_at "go"
          refine ⟨szl (by show 2 ≤ 1000; decide), fun T nT => ?_⟩
          have nTD : T ≠ D := fun z => by rw [z, gh.here] at nT; cases nT
          refine ⟨xs, (upd_ne (Ne.symm nTD)).trans gh.here, small, xs ++ [.ref T], ?_, by rw [List.length_append]; exact Nat.succ_le_succ hx⟩
          rw [nx]
          exact gh.pair nT fun G => prs G _
        · have c : ¬ l[i + 1] = 111 := fun z => e2 (by rw [z]; exact decide_eq_true rfl)
          rw [if_neg c] at nx
          walk_at "go"
          refine ⟨szl (by show 2 ≤ 1000; decide), fun T nT => ?_⟩
          have nTD : T ≠ D := fun z => by rw [z, gh.here] at nT; cases nT
          refine ⟨xs, (upd_ne (Ne.symm nTD)).trans gh.here, small, xs ++ [.ref T], ?_, by rw [List.length_append]; exact Nat.succ_le_succ hx⟩
          rw [nx]
          exact gh.pair nT fun G => prs G _
      · have eq : l[i + 1] = l[i] := by
          have z : V.str (sOf [l[i + 1]]) = V.str (sOf [l[i]]) := by simpa using e
          simpa using sOf_inj.mp (V.str.inj z)
        have nx := crI_no g1 g0 eq
        walk_at "go"
        exact ⟨xs, by rw [nx]; exact gh, by omega⟩
    · rintro H2 ⟨xs, gh, hx⟩
      have en : ((l.length : Int) - 1).toNat = l.length - 1 := by omega
      rw [en] at gh
      walk_at "go"
      refine ⟨D, xs, rfl, .inl ⟨SqL.of gh.here, fun p np => ?_⟩⟩
      have s3 := same_new (o := .tup xs) gh.same np
      refine q p xs _ s3 (gh.same.free np) upd_same ?_
      obtain ⟨G, _, _, b1, c1⟩ := gh.ex
      exact dpa_mono (b1.trans (same_new (Same.refl H2) np)) _ _ c1
end

/-! ### a word near a word -/
theorem split2 {l : List Nat} {j a b : Nat} (h0 : l[j]? = some a) (h1 : l[j + 1]? = some b) : l = l.take j ++ a :: b :: l.drop (j + 2) := by
  have l0 : j < l.length := (List.getElem?_eq_some_iff.mp h0).1
  have l1 : j + 1 < l.length := (List.getElem?_eq_some_iff.mp h1).1
  have a0 : l[j] = a := (List.getElem?_eq_some_iff.mp h0).2
  have a1 : l[j + 1] = b := (List.getElem?_eq_some_iff.mp h1).2
  conv => lhs; rw [← List.take_append_drop j l, List.drop_eq_getElem_cons l0, List.drop_eq_getElem_cons l1, a0, a1]
def swp (l : List Nat) (j a b : Nat) : List Nat := l.take j ++ [b] ++ [a] ++ l.drop (j + 2)
theorem swp_count {l : List Nat} {j a b : Nat} (h0 : l[j]? = some a) (h1 : l[j + 1]? = some b) (c : Nat) : (swp l j a b).count c = l.count c := by
  conv => rhs; rw [split2 h0 h1]
  unfold swp
  simp only [List.count_append, List.count_cons, List.count_nil]
  omega
theorem swp_len {l : List Nat} {j a b : Nat} (h0 : l[j]? = some a) (h1 : l[j + 1]? = some b) : (swp l j a b).length = l.length := by
  conv => rhs; rw [split2 h0 h1]
  unfold swp
  simp only [List.length_append, List.length_cons, List.length_nil]
  omega
theorem swp_ltr {l : List Nat} {j a b : Nat} (h0 : l[j]? = some a) (h1 : l[j + 1]? = some b) (al : ∀ c ∈ l, c = 100 ∨ c = 111) : ∀ c ∈ swp l j a b, c = 100 ∨ c = 111 := fun c hc => by
  have : 0 < (swp l j a b).count c := List.count_pos_iff.mpr hc
  rw [swp_count h0 h1] at this
  exact al c (List.count_pos_iff.mp this)
theorem good_of {l : List Nat} {n : Nat} (h1 : l.length = 2 * n) (h2 : l.count 100 = n) (h3 : ∀ c ∈ l, c = 100 ∨ c = 111) (h4 : ∀ k, k ≤ l.length → 0 ≤ ht l k) : Good l n := ⟨h1, h2, h3, fun k hk => by have := h4 k hk; unfold ht at this; omega⟩
section
variable {P : Program} {w : World} {K : PySem.W.Frag} {mg : Str → Option Value} {base : Heap} {AD : Ads}
def spNear : Sp := fun vs H Q _ => ∃ a l n, vs = [.ref a, .str (sOf l)] ∧ HandOk H a ∧ Good l n ∧ (1 ≤ n ∧ n ≤ 6) ∧ ∀ m H', Good m n → But a H H' → HandOk H' a → Q (.str (sOf m)) H'
theorem ok_l_near (T : Top K mg AD) : FnOk P w K mg base CX0 3 AD.f_l_near AD.d_l_near P_l_near spNear := by
  refine T.D_l_near.F.ok sc_l_near (fun vs H Q E h => ?_) (fun cdv A outer s H vs Q E hr h => ?_)
  · obtain ⟨a, l, n, rfl, _⟩ := h
    rfl
  · obtain ⟨a, l, n, rfl, hd, g, ⟨n1, n6⟩, q⟩ := h
    have gl := g.len
    refine ⟨_, (pss_cons (ps_set (i := 2) sc_l_near.nd rfl (Or.inl rfl) (pe_op op_add pe_int (callD T.D_l_draw (ok_l_draw T) hr (pa_cons (pv 0) (pa_cons (pe_op op_sub (pe_callB call_lenS (by rfl) T.b_len (by decide +kernel) (pa_cons (pv 1) pa_nil)) pe_int) pa_nil)))))
    (pss_cons (ps_if (pt_cmpR op_eq (pe_ix ix_S (pv 1) (pe_op op_sub (pv 2) pe_int) (fun _ _ => rfl)) (pe_ix ix_S (pv 1) (pv 2) (fun _ _ => rfl)) (nomark _))
    (pss_one (ps_ret (pv 1)))
    pss_nil)
    (pss_cons (ps_set (i := 3) sc_l_near.nd rfl (Or.inl rfl) (pe_op op_addS (pe_op op_addS (pe_op op_addS (pe_slice sl_S (pv 1) po_none (po_some (pe_op op_sub (pv 2) pe_int))) (pe_ix ix_S (pv 1) (pv 2) (fun _ _ => rfl))) (pe_ix ix_S (pv 1) (pe_op op_sub (pv 2) pe_int) (fun _ _ => rfl))) (pe_slice sl_S (pv 1) (po_some (pe_op op_add (pv 2) pe_int)) po_none)))
    (pss_cons (ps_set (i := 4) sc_l_near.nd rfl (Or.inl rfl) pe_int)
    (pss_cons (ps_for PassesOwn.never rfl (pi_str (pv 3)) (pg_name (i := 5) sc_l_near.nd rfl (Or.inl rfl))
    (pss_cons (ps_set (i := 4) sc_l_near.nd rfl (Or.inl rfl) (pe_op op_add (pv 4) (pe_ifExp (pt_cmpR op_eq (pv 5) (pe_s (x := Str.ofString "d") [100] (by decide +kernel)) (nomark _)) pe_int (pe_un un_neg pe_int))))
    (pss_one (ps_if (pt_cmpR op_lt (pv 4) pe_int (nomark _))
    (pss_one (ps_ret (pv 1)))
    pss_nil))))
    (pss_one (ps_ret (pv 3)))))))), ?_⟩
    walk_at "go"
    refine ⟨_, _, rfl, hd, cdivw (by omega) (by omega), fun d H1 d0 d1 b1 hd1 => ?_⟩
    obtain ⟨j, rfl⟩ := Int.eq_ofNat_of_zero_le d0
    have j1 : j + 1 < l.length := by omega
    have g0 : l[j]? = some l[j] := List.getElem?_eq_getElem (by omega)
    have g1 : l[j + 1]? = some l[j + 1] := List.getElem?_eq_getElem j1
    have e0 : atI l (1 + (j : Int) - 1) = some l[j] := by rw [show 1 + (j : Int) - 1 = (j : Int) by omega]; exact atI_nat g0
    have e1 : atI l (1 + (j : Int)) = some l[j + 1] := by rw [show 1 + (j : Int) = ((j + 1 : Nat) : Int) by omega]; exact atI_nat g1
    walk_at "go"
    refine ⟨l, _, _, rfl, rfl, by omega, e0, ?_⟩
    walk_at "go"
    refine ⟨l, _, _, rfl, rfl, by omega, e1, ?_⟩
    walk_at "go"
    refine ite2 (fun e => ?_) (fun e => ?_)
    · walk_at "go"
      exact q l _ g b1 hd1
    have c1 := cutN_len l none (some (1 + (j : Int) - 1))
    have c2 := cutN_len l (some (1 + (j : Int) + 1)) none
    walk_at "go"
    refine ⟨l, _, _, rfl, rfl, by omega, e1, ?_⟩
    walk_at "go"
    refine ⟨l, _, _, rfl, rfl, by omega, e0, ?_⟩
    walk_at "go"
    have es : cutN l none (some (1 + (j : Int) - 1)) ++ [l[j + 1]] ++ [l[j]] ++ cutN l (some (1 + (j : Int) + 1)) none = swp l j l[j] l[j + 1] := by
      unfold swp
      rw [cutN_take l (by omega), cutN_drop l (by omega), show (1 + (j : Int) - 1).toNat = j by omega, show (1 + (j : Int) + 1).toNat = j + 2 by omega]
    rw [es]
    have ml := swp_len g0 g1
    have mt := swp_ltr g0 g1 g.ltr
    have mc := swp_count g0 g1 100
    generalize swp l j l[j] l[j + 1] = m at ml mt mc ⊢
    refine for_it walk_S (fun i σ H' => ∃ o5 : Option V, σ = [some (.ref a), some (.str (sOf l)), some (.int (1 + (j : Int))), some (.str (sOf m)), some (.int (ht m i)), o5] ∧ H' = H1 ∧ ∀ k, k ≤ i → 0 ≤ ht m k)
      ⟨none, by rw [ht_zero]; rfl, rfl, fun k hk => by
        obtain rfl : k = 0 := by omega
        rw [ht_zero]
        exact Int.le_refl 0⟩ (fun _ _ _ _ _ => trivial) ?_ ?_
    · rintro i x σ H2 H3 hi ⟨o5, rfl, rfl, up⟩ ⟨rfl, c, hc, rfl⟩
      have hcl := mt c (List.mem_of_getElem? hc)
      have st := ht_step hc hcl
      have more : 0 ≤ ht m (i + 1) → ∀ k, k ≤ i + 1 → 0 ≤ ht m k := fun z k hk => by
        by_cases e : k ≤ i
        · exact up k e
        · obtain rfl : k = i + 1 := by omega
          exact z
      walk_at "go"
      refine ite2 (fun e3 => ?_) (fun e3 => ?_)
      · have ec : c = 100 := by simpa using sOf_inj.mp (V.str.inj (of_decide_eq_true e3))
        rw [if_pos ec] at st
        walk_at "go"
        refine ite2 (fun e4 => ?_) (fun e4 => ?_)
        · walk_at "go"
          exact q l _ g b1 hd1
        · have z : ¬ ht m i + 1 < 0 := fun z => e4 (decide_eq_true z)
          walk_at "go"
          exact ⟨_, by rw [← st]; rfl, rfl, more (by omega)⟩
      · have ec : ¬ c = 100 := fun z => e3 (by rw [z]; exact decide_eq_true rfl)
        rw [if_neg ec] at st
        walk_at "go"
        refine ite2 (fun e4 => ?_) (fun e4 => ?_)
        · walk_at "go"
          exact q l _ g b1 hd1
        · have z : ¬ ht m i + -1 < 0 := fun z => e4 (decide_eq_true z)
          walk_at "go"
          exact ⟨_, by rw [← st]; rfl, rfl, more (by omega)⟩
    · rintro σ H2 ⟨o5, rfl, rfl, up⟩
      walk_at "go"
      exact q m _ (good_of (by omega) (by rw [mc]; exact g.cnt) mt up) b1 hd1
end

/-! ### the law's own bends -/
theorem cutN_two {l : List Nat} {i x y : Nat} (h0 : l[i]? = some x) (h1 : l[i + 1]? = some y) : cutN l (some (1 + (i : Int) - 1)) (some (1 + (i : Int) + 1)) = [x, y] := by
  have l1 : i + 1 < l.length := (List.getElem?_eq_some_iff.mp h1).1
  rw [show 1 + (i : Int) - 1 = (i : Int) by omega, show 1 + (i : Int) + 1 = ((i + 2 : Nat) : Int) by omega]
  unfold cutN
  rw [HT.sIx_nat, HT.sIx_nat, Nat.min_eq_left (by omega), Nat.min_eq_left (by omega), show i + 2 - i = 2 by omega]
  conv => lhs; rw [split2 h0 h1]
  have tl : (l.take i).length = i := by rw [List.length_take]; omega
  rw [List.drop_append_of_le_length (by omega), List.drop_of_length_le (by omega)]
  rfl
section
variable {P : Program} {w : World} {K : PySem.W.Frag} {mg : Str → Option Value} {base : Heap} {AD : Ads}
def spBends (K : PySem.W.Frag) : Sp := fun vs H Q _ => ∃ l, vs = [.str (sOf l)] ∧ l.length ≤ 12 ∧ (∀ c ∈ l, c = 100 ∨ c = 111) ∧ ∀ p xs H', Same H H' → H p = none → H' p = some (.lst xs) → DpAll K H' xs (((crI l (l.length - 1)).map crD)) → Q (.ref p) H'
theorem ok_l_bends (T : Top K mg AD) : FnOk P w K mg base CX0 1 AD.f_l_bends AD.d_l_bends P_l_bends (spBends K) := by
  refine T.D_l_bends.F.ok sc_l_bends (fun vs H Q E h => ?_) (fun cdv A outer s H vs Q E hr h => ?_)
  · obtain ⟨l, rfl, _⟩ := h
    rfl
  · obtain ⟨l, rfl, hl, al, q⟩ := h
    refine ⟨_, (pss_cons (ps_set (i := 1) sc_l_bends.nd rfl (Or.inl rfl) (pe_lst pa_nil))
    (pss_cons (ps_for PassesOwn.never rfl (pi_range2 (by rfl) T.b_range (pa_cons pe_int (pa_cons (pe_callB call_lenS (by rfl) T.b_len (by decide +kernel) (pa_cons (pv 0) pa_nil)) pa_nil))) (pg_name (i := 2) sc_l_bends.nd rfl (Or.inl rfl))
    (pss_cons (ps_if (pt_cmpR op_eq (pe_slice sl_S (pv 0) (po_some (pe_op op_sub (pv 2) pe_int)) (po_some (pe_op op_add (pv 2) pe_int))) (pe_s (x := Str.ofString "do") [100, 111] (by decide +kernel)) (nomark _))
    (pss_one (ps_expr (pe_bm PySem.F.plainAttrs_list PySem.F.slot_list_append PySem.F.type_list_append mt_append (pv 1) (pa_cons (pe_tup (pa_cons (pv 2) (pa_cons (pe_s (x := Str.ofString "hollow") [104, 111, 108, 108, 111, 119] (by decide +kernel)) pa_nil))) pa_nil))))
    pss_nil)
    (pss_one (ps_if (pt_cmpR op_eq (pe_slice sl_S (pv 0) (po_some (pe_op op_sub (pv 2) pe_int)) (po_some (pe_op op_add (pv 2) pe_int))) (pe_s (x := Str.ofString "od") [111, 100] (by decide +kernel)) (nomark _))
    (pss_one (ps_expr (pe_bm PySem.F.plainAttrs_list PySem.F.slot_list_append PySem.F.type_list_append mt_append (pv 1) (pa_cons (pe_tup (pa_cons (pv 2) (pa_cons (pe_s (x := Str.ofString "ridge") [114, 105, 100, 103, 101] (by decide +kernel)) pa_nil))) pa_nil))))
    pss_nil))))
    (pss_one (ps_ret (pv 1))))), ?_⟩
    walk_at "go"
    intro p np
    walk_at "go"
    refine ⟨_, _, rfl, ⟨by omega, by omega, by omega, by omega⟩, ?_⟩
    refine for_it (walk_range (lo := 1) (n := ((l.length : Int) - 1).toNat)) (fun i σ H' => ∃ (xs : List V) (o2 : Option V), σ = [some (.str (sOf l)), some (.ref p), o2] ∧ Gh K H p H' xs ((crI l i).map crD) ∧ xs.length ≤ i)
      ⟨[], none, rfl, Gh.start np, Nat.le_refl _⟩ (fun _ _ _ _ _ => trivial) ?_ ?_
    · rintro i x σ H2 H3 hi ⟨xs, o2, rfl, gh, hx⟩ ⟨rfl, rfl⟩
      have h1 : i + 1 < l.length := by omega
      have g1 : l[i + 1]? = some l[i + 1] := List.getElem?_eq_getElem h1
      have g0 : l[i]? = some l[i] := List.getElem?_eq_getElem (by omega)
      have two := cutN_two g0 g1
      have a0 := al _ (List.mem_of_getElem? g0)
      have a1 := al _ (List.mem_of_getElem? g1)
      have small : xs.length < sizeLine := small1000 (by omega)
      have pos : (1 : Int) + (i : Int) = ((i + 1 : Nat) : Int) := by omega
      have prs : ∀ (G : Hp) (z : List Nat), DpAll K G [.int (1 + (i : Int)), .str (sOf z)] [.int ((i + 1 : Nat) : Int), .str (sOf z)] := fun G z => by rw [pos]; exact .cons (.int _) (.cons (.str _) .nil)
      have put : ∀ (H4 : Hp) (T : Addr) (z : List Nat), Gh K H p H4 xs ((crI l i).map crD) → H4 T = none → (crI l (i + 1)).map crD = (crI l i).map crD ++ [.tuple [.int ((i + 1 : Nat) : Int), .str (sOf z)]] →
          Gh K H p (upd (upd H4 T (.tup [.int (1 + (i : Int)), .str (sOf z)])) p (.lst (xs ++ [.ref T]))) (xs ++ [.ref T]) ((crI l (i + 1)).map crD) := fun H4 T z g nT nx => by
        rw [nx]
        exact g.pair nT fun G => prs G z
      walk_at "go"
      rw [two]
      refine ite2 (fun e => ?_) (fun e => ?_)
      · have z : l[i] = 100 ∧ l[i + 1] = 111 := by simpa using sOf_inj.mp (V.str.inj (of_decide_eq_true e))
        have nx := crI_yes g1 g0 (by omega)
        rw [if_pos z.2] at nx
        have eg := gh.here
        walk_at "go"
        refine ⟨szl (by show 2 ≤ 1000; decide), fun T nT => ?_⟩
        have nTp : T ≠ p := fun z => by rw [z, gh.here] at nT; cases nT
        have eg2 := (upd_ne (o := .tup [.int (1 + (i : Int)), .str (sOf wHollow)]) (Ne.symm nTp)).trans gh.here
        walk_at "go"
        refine ⟨p, xs, _, rfl, rfl, eg2, small, ?_⟩
        walk_at "go"
        rw [two]
        refine ite2 (fun e3 => ?_) (fun e3 => ?_)
        · exfalso
          have z3 : l[i] = 111 ∧ l[i + 1] = 100 := by simpa using sOf_inj.mp (V.str.inj (of_decide_eq_true e3))
          omega
        walk_at "go"
        exact ⟨_, _, rfl, put _ T _ gh nT nx, by rw [List.length_append]; exact Nat.succ_le_succ hx⟩
      · walk_at "go"
        rw [two]
        refine ite2 (fun e3 => ?_) (fun e3 => ?_)
        · have z : l[i] = 111 ∧ l[i + 1] = 100 := by simpa using sOf_inj.mp (V.str.inj (of_decide_eq_true e3))
          have nx := crI_yes g1 g0 (by omega)
          rw [if_neg (by omega)] at nx
          have eg := gh.here
          walk_at "go"
          refine ⟨szl (by show 2 ≤ 1000; decide), fun T nT => ?_⟩
          have nTp : T ≠ p := fun z => by rw [z, gh.here] at nT; cases nT
          have eg2 := (upd_ne (o := .tup [.int (1 + (i : Int)), .str (sOf wRidge)]) (Ne.symm nTp)).trans gh.here
          walk_at "go"
          refine ⟨p, xs, _, rfl, rfl, eg2, small, ?_⟩
          walk_at "go"
          exact ⟨_, _, rfl, put _ T _ gh nT nx, by rw [List.length_append]; exact Nat.succ_le_succ hx⟩
        · have eq : l[i + 1] = l[i] := by
            rcases a0 with x0 | x0
            · rcases a1 with x1 | x1
              · omega
              · exact absurd (by rw [x0, x1]; exact decide_eq_true rfl) e
            · rcases a1 with x1 | x1
              · exact absurd (by rw [x0, x1]; exact decide_eq_true rfl) e3
              · omega
          have nx := crI_no g1 g0 eq
          walk_at "go"
          exact ⟨xs, _, rfl, by rw [nx]; exact gh, by omega⟩
    · rintro σ H2 ⟨xs, o2, rfl, gh, hx⟩
      have en : ((l.length : Int) - 1).toNat = l.length - 1 := by omega
      rw [en] at gh
      walk_at "go"
      exact q p xs _ gh.same np gh.here gh.all
end

/-! ### rows of whole numbers -/
section
variable {P : Program} {w : World} {K : PySem.W.Frag} {mg : Str → Option Value} {base : Heap} {AD : Ads}
def spNumbers (K : PySem.W.Frag) : Sp := fun vs H Q _ => ∃ p zs, vs = [.ref p] ∧ Seq2 K H p (vI zs) ∧ Q (.bl true) H
theorem ok_l_numbers (T : Top K mg AD) : FnOk P w K mg base CX0 1 AD.f_l_numbers AD.d_l_numbers P_l_numbers (spNumbers K) := by
  refine T.D_l_numbers.F.ok sc_l_numbers (fun vs H Q E h => ?_) (fun cdv A outer s H vs Q E hr h => ?_)
  · obtain ⟨p, zs, rfl, _⟩ := h
    rfl
  · obtain ⟨p, zs, rfl, sq, q⟩ := h
    refine ⟨_, (pss_cons (ps_for PassesOwn.never rfl (pi_seqQ (K := K) (by rfl) (pv 0)) (pg_name (i := 1) sc_l_numbers.nd rfl (Or.inl rfl))
    (pss_one (ps_if (PW.pt (pw_or (pt_not (pt_val (pe_callB (call_isiK' (K := K) rfl) (by rfl) T.b_isinstance (by decide +kernel) (pa_cons (pv 1) (pa_cons (pe_bltn (v := .ty "int") (u := .type "int") (by rfl) T.b_int (by decide +kernel) rfl) pa_nil))))) (pw_or1 (pt_val (pe_callB (call_isiK' (K := K) rfl) (by rfl) T.b_isinstance (by decide +kernel) (pa_cons (pv 1) (pa_cons (pe_bltn (v := .ty "bool") (u := .type "bool") (by rfl) T.b_bool (by decide +kernel) rfl) pa_nil)))))))
    (pss_one (ps_ret pe_bl))
    pss_nil)))
    (pss_one (ps_ret pe_bl))), ?_⟩
    walk_at "go"
    have item : ∀ (i : Nat) (x : V), (vI zs)[i]? = some x → ∃ z, x = .int z := fun i x e => by
      unfold vI at e
      rw [List.getElem?_map] at e
      cases h : zs[i]? with
      | none => rw [h] at e; cases e
      | some z => rw [h] at e; exact ⟨z, (Option.some.inj e).symm⟩
    rcases sq with e | e
    · refine ⟨p, _, rfl, .inl ⟨SqL.of e, for_it walk_list (fun i σ H' => ∃ o1 : Option V, σ = [some (.ref p), o1] ∧ H' = H) ⟨none, rfl, rfl⟩ (fun i σ H' _ h => by obtain ⟨_, _, rfl⟩ := h; exact SqL.of e) ?_ ?_⟩⟩
      · rintro i x σ H2 H3 hi ⟨o1, rfl, rfl⟩ ⟨rfl, ex⟩
        obtain ⟨z, rfl⟩ := item i x ex
        walk_at "go"
        refine ⟨_, _, _, _, true, rfl, .ty _, .base (.int _), kit_ty (by decide +kernel), ?_⟩
        walk_at "go"
        refine ⟨_, _, _, _, false, rfl, .ty _, .base (.int _), kit_ty (by decide +kernel), ?_⟩
        walk_at "go"
        rfl
      · rintro σ H2 ⟨o1, rfl, rfl⟩
        walk_at "go"
        exact q
    · refine ⟨p, _, rfl, .inr ⟨SqT.of e, for_it walk_tup (fun i σ H' => ∃ o1 : Option V, σ = [some (.ref p), o1] ∧ H' = H) ⟨none, rfl, rfl⟩ (fun i σ H' _ h => by obtain ⟨_, _, rfl⟩ := h; exact SqT.of e) ?_ ?_⟩⟩
      · rintro i x σ H2 H3 hi ⟨o1, rfl, rfl⟩ ⟨rfl, ex⟩
        obtain ⟨z, rfl⟩ := item i x ex
        walk_at "go"
        refine ⟨_, _, _, _, true, rfl, .ty _, .base (.int _), kit_ty (by decide +kernel), ?_⟩
        walk_at "go"
        refine ⟨_, _, _, _, false, rfl, .ty _, .base (.int _), kit_ty (by decide +kernel), ?_⟩
        walk_at "go"
        rfl
      · rintro σ H2 ⟨o1, rfl, rfl⟩
        walk_at "go"
        exact q
end

/-! ### runs -/
def rsD (z : List Nat × Nat × Nat) : PyData := .tuple [.str (sOf z.1), .int (z.2.1 : Nat), .int (z.2.2 : Nat)]
section
variable {P : Program} {w : World} {K : PySem.W.Frag} {mg : Str → Option Value} {base : Heap} {AD : Ads}
theorem ok_Column_runs (T : Top K mg AD) : FnOk P w K mg base CX0 1 AD.f_Column_runs AD.d_Column_runs P_Column_runs (spDat K AD fun l => (rsI l l.length).1.map rsD) := by
  refine T.D_Column_runs.F.ok sc_Column_runs (fun vs H Q E h => ?_) (fun cdv A outer s H vs Q E hr h => ?_)
  · obtain ⟨p, l, n, rfl, _⟩ := h
    rfl
  · obtain ⟨a, l, n, rfl, ⟨dx, ea⟩, g, ⟨n1, n6⟩, q⟩ := h
    have cl := T.cl_Column
    have nw := T.n_Column_word
    have gl := g.len
    refine ⟨_, (pss_cons (ps_set (i := 1) sc_Column_runs.nd rfl (Or.inl rfl) (pe_lst pa_nil))
    (pss_cons (ps_set (i := 2) sc_Column_runs.nd rfl (Or.inl rfl) pe_int)
    (pss_cons (ps_for PassesOwn.never rfl (pi_range2 (by rfl) T.b_range (pa_cons pe_int (pa_cons (pe_op op_add (pe_callB call_lenS (by rfl) T.b_len (by decide +kernel) (pa_cons (pe_fld (pv 0) rfl) pa_nil)) pe_int) pa_nil))) (pg_name (i := 3) sc_Column_runs.nd rfl (Or.inl rfl))
    (pss_one (ps_if (PW.pt (pw_or (pt_cmpR op_eq (pv 3) (pe_callB call_lenS (by rfl) T.b_len (by decide +kernel) (pa_cons (pe_fld (pv 0) rfl) pa_nil)) (nomark _)) (pw_or1 (pt_cmpR op_ne (pe_ix ix_S (pe_fld (pv 0) rfl) (pv 3) (fun _ _ => rfl)) (pe_ix ix_S (pe_fld (pv 0) rfl) (pv 2) (fun _ _ => rfl)) (nomark _)))))
    (pss_cons (ps_expr (pe_bm PySem.F.plainAttrs_list PySem.F.slot_list_append PySem.F.type_list_append mt_append (pv 1) (pa_cons (pe_tup (pa_cons (pe_ix ix_S (pe_fld (pv 0) rfl) (pv 2) (fun _ _ => rfl)) (pa_cons (pv 2) (pa_cons (pe_op op_sub (pv 3) (pv 2)) pa_nil)))) pa_nil)))
    (pss_one (ps_set (i := 2) sc_Column_runs.nd rfl (Or.inl rfl) (pv 3))))
    pss_nil)))
    (pss_one (ps_ret (pe_callTy call_tuple_of (by rfl) T.b_tuple (by decide +kernel) (pa_cons (pv 1) pa_nil))))))), ?_⟩
    walk_at "go"
    intro p np
    have s1 := same_new (o := .lst []) (Same.refl H) np
    have ea1 := s1 _ _ ea
    walk_at "go"
    refine ⟨_, _, rfl, ⟨by omega, by omega, by omega, by omega⟩, ?_⟩
    refine for_it (walk_range (lo := 1) (n := ((l.length : Int) + 1 - 1).toNat)) (fun i σ H' => ∃ (xs : List V) (o2 : Option V), σ = [some (.ref a), some (.ref p), some (.int ((rsI l i).2 : Nat)), o2] ∧ Gh K H p H' xs ((rsI l i).1.map rsD) ∧ xs.length ≤ i)
      ⟨[], none, rfl, Gh.start np, Nat.le_refl _⟩ (fun _ _ _ _ _ => trivial) ?_ ?_
    · rintro i x σ H2 H3 hi ⟨xs, o2, rfl, gh, hx⟩ ⟨rfl, rfl⟩
      have ea2 := gh.same _ _ ea
      have ha := rsI_at l i
      have hil : i + 1 ≤ l.length := by omega
      have g0 : l[(rsI l i).2]? = some l[(rsI l i).2] := List.getElem?_eq_getElem (by omega)
      have e0 : atI l ((rsI l i).2 : Nat) = some l[(rsI l i).2] := atI_nat g0
      have small : xs.length < sizeLine := small1000 (by omega)
      have ps : (1 : Int) + (i : Int) = ((i + 1 : Nat) : Int) := by omega
      have more : (i + 1 = l.length ∨ l[i + 1]? ≠ l[(rsI l i).2]?) → rsI l (i + 1) = ((rsI l i).1 ++ [([l[(rsI l i).2]], (rsI l i).2, i + 1 - (rsI l i).2)], i + 1) := fun c => by
        show rsStep l (rsI l i) (i + 1) = _
        unfold rsStep
        rw [if_pos c, g0]
        rfl
      have put : ∀ (T : Addr), H3 T = none → rsI l (i + 1) = ((rsI l i).1 ++ [([l[(rsI l i).2]], (rsI l i).2, i + 1 - (rsI l i).2)], i + 1) →
          Gh K H p (upd (upd H3 T (.tup [.str (sOf [l[(rsI l i).2]]), .int ((rsI l i).2 : Nat), .int (1 + (i : Int) - ((rsI l i).2 : Nat))])) p (.lst (xs ++ [.ref T]))) (xs ++ [.ref T]) ((rsI l (i + 1)).1.map rsD) := fun T nT e => by
        rw [e, List.map_append]
        have ei : (1 : Int) + (i : Int) - ((rsI l i).2 : Nat) = ((i + 1 - (rsI l i).2 : Nat) : Int) := by omega
        rw [ei]
        exact gh.pair nT fun G => .cons (.str _) (.cons (.int _) (.cons (.int _) .nil))
      walk_at "go"
      refine ite2 (fun e => ?_) (fun e => ?_)
      · have e1 : i + 1 = l.length := by
          have := V.int.inj (of_decide_eq_true e)
          omega
        have nx := more (.inl e1)
        have eg := gh.here
        walk_at "go"
        refine ⟨l, _, _, rfl, rfl, by omega, e0, ?_⟩
        walk_at "go"
        refine ⟨szl (by show 3 ≤ 1000; decide), fun T nT => ?_⟩
        have nTp : T ≠ p := fun z => by rw [z, gh.here] at nT; cases nT
        have eg2 := (upd_ne (o := .tup [.str (sOf [l[(rsI l i).2]]), .int ((rsI l i).2 : Nat), .int (1 + (i : Int) - ((rsI l i).2 : Nat))]) (Ne.symm nTp)).trans gh.here
        refine ⟨p, xs, _, rfl, rfl, eg2, small, ?_⟩
        walk_at "go"
        exact ⟨_, _, by rw [nx, ← ps]; rfl, put T nT nx, by rw [List.length_append]; exact Nat.succ_le_succ hx⟩
      · have e1 : ¬ i + 1 = l.length := fun z => e (decide_eq_true (congrArg V.int (by omega)))
        have g1 : l[i + 1]? = some l[i + 1] := List.getElem?_eq_getElem (by omega)
        have e2 : atI l (1 + (i : Int)) = some l[i + 1] := by rw [ps]; exact atI_nat g1
        walk_at "go"
        refine ⟨l, _, _, rfl, rfl, by omega, e2, ?_⟩
        walk_at "go"
        refine ⟨l, _, _, rfl, rfl, by omega, e0, ?_⟩
        walk_at "go"
        refine ite2 (fun e3 => ?_) (fun e3 => ?_)
        · have ne : ¬ l[i + 1] = l[(rsI l i).2] := fun z => by rw [z] at e3; simp at e3
          have nx := more (.inr (by rw [g1, g0]; exact fun z => ne (Option.some.inj z)))
          have eg := gh.here
          walk_at "go"
          refine ⟨l, _, _, rfl, rfl, by omega, e0, ?_⟩
          walk_at "go"
          refine ⟨szl (by show 3 ≤ 1000; decide), fun T nT => ?_⟩
          have nTp : T ≠ p := fun z => by rw [z, gh.here] at nT; cases nT
          have eg2 := (upd_ne (o := .tup [.str (sOf [l[(rsI l i).2]]), .int ((rsI l i).2 : Nat), .int (1 + (i : Int) - ((rsI l i).2 : Nat))]) (Ne.symm nTp)).trans gh.here
          refine ⟨p, xs, _, rfl, rfl, eg2, small, ?_⟩
          walk_at "go"
          exact ⟨_, _, by rw [nx, ← ps]; rfl, put T nT nx, by rw [List.length_append]; exact Nat.succ_le_succ hx⟩
        · have eq : l[i + 1] = l[(rsI l i).2] := by
            have z : V.str (sOf [l[i + 1]]) = V.str (sOf [l[(rsI l i).2]]) := by simpa using e3
            simpa using sOf_inj.mp (V.str.inj z)
          have nx : rsI l (i + 1) = rsI l i := by
            show rsStep l (rsI l i) (i + 1) = _
            unfold rsStep
            rw [if_neg]
            rintro (z | z)
            · exact e1 z
            · exact z (by rw [g1, g0, eq])
          walk_at "go"
          exact ⟨xs, _, by rw [nx]; rfl, by rw [nx]; exact gh, by omega⟩
    · rintro σ H2 ⟨xs, o2, rfl, gh, hx⟩
      have en : ((l.length : Int) + 1 - 1).toNat = l.length := by omega
      rw [en] at gh
      walk_at "go"
      refine ⟨p, xs, rfl, .inl ⟨SqL.of gh.here, fun t nt => ?_⟩⟩
      have s3 := same_new (o := .tup xs) gh.same nt
      refine q t xs _ s3 (gh.same.free nt) upd_same ?_
      obtain ⟨G, _, _, b1, c1⟩ := gh.ex
      exact dpa_mono (b1.trans (same_new (Same.refl H2) nt)) _ _ c1
end

/-! ### facts of all words, by a kernel run -/
def endsL (l : List Nat) : List Nat := 0 :: (crI l (l.length - 1)).map (·.1) ++ [l.length]
def lr1 (l : List Nat) (k : Nat) : List Nat × Nat × Nat := ((l[(endsL l)[k]?.getD 0]?).toList, (endsL l)[k]?.getD 0, (endsL l)[k + 1]?.getD 0 - (endsL l)[k]?.getD 0)
def lruns (l : List Nat) : List (List Nat × Nat × Nat) := (List.range ((endsL l).length - 1)).map (lr1 l)
theorem runs_same : allWords.all (fun l => decide (lruns l = (rsI l l.length).1)) = true := by decide +kernel
theorem ends_ok : allWords.all (fun l => (List.range ((endsL l).length - 1)).all fun k => decide ((endsL l)[k]?.getD 0 ≤ (endsL l)[k + 1]?.getD 0 ∧ (endsL l)[k]?.getD 0 < l.length)) = true := by decide +kernel
def hols (l : List Nat) (k : List Nat) : List Nat := ((crI l (l.length - 1)).filter (fun z => z.2 == k)).map (·.1)
theorem hol_one : allWords.all (fun l => decide ((hols l wHollow).length = (hols l wRidge).length + 1)) = true := by decide +kernel
theorem cnt_do : allWords.all (fun l => decide (Txt.count (sOf l) (sOf [100, 111]) = (hols l wHollow).length)) = true := by decide +kernel
theorem cnt_od : allWords.all (fun l => decide (Txt.count (sOf l) (sOf [111, 100]) = (hols l wRidge).length)) = true := by decide +kernel
theorem cr_ok : allWords.all (fun l => okD 4 (.list ((crI l (l.length - 1)).map crD))) = true := by decide +kernel
theorem rs_ok : allWords.all (fun l => okD 4 (.list ((rsI l l.length).1.map rsD))) = true := by decide +kernel

/-! ### places, hollows, ridges -/
def plI (l : List Nat) (t : Nat) : PyData := .tuple [.int ((l.take t).count 111 : Nat), .int ((l.count 100 : Nat) - ((l.take t).count 100 : Nat))]
section
variable {P : Program} {w : World} {K : PySem.W.Frag} {mg : Str → Option Value} {base : Heap} {AD : Ads}
theorem ok_Column_places (T : Top K mg AD) : FnOk P w K mg base CX0 3 AD.f_Column_places AD.d_Column_places P_Column_places (spDat K AD fun l => (List.range (l.length + 1)).map (plI l)) := by
  refine T.D_Column_places.F.ok sc_Column_places (fun vs H Q E h => ?_) (fun cdv A outer s H vs Q E hr h => ?_)
  · obtain ⟨p, l, n, rfl, _⟩ := h
    rfl
  · obtain ⟨a, l, n, rfl, ca, g, ⟨n1, n6⟩, q⟩ := h
    have k0 := ca
    obtain ⟨dx, ea⟩ := ca
    have cl := T.cl_Column
    have nz := T.n_Column_size
    have gl := g.len
    refine ⟨_, (pss_one (ps_ret (pe_callTy call_tuple_of (by rfl) T.b_tuple (by decide +kernel) (pa_cons (pe_lc (own := [("boundary", 1), ("height", 2)]) (tt := tYes) rfl sc_Column_places.nd (pi_enumQ (K := K) (by rfl) (by rfl) T.b_enumerate (pa_cons (pe_prop (pv 0) T.cl_Column T.p_Column_heights (ok_Column_heights T) (hr.mono (by decide)) T.D_Column_heights.b .nil pass0 (by rfl)) pa_nil)) (blkOk_by (N := N_Column_places) (sc := defScope s_Column_places) (by decide +kernel)) (fun _ _ _ _ _ => (pg_tupK (K := K) (n := 2) (by rfl) (by rfl) (pgs_cons (pg_name (i := 1) sc_Column_places.nd rfl (by first | exact Or.inl rfl | exact Or.inr rfl)) (pgs_cons (pg_name (i := 2) sc_Column_places.nd rfl (by first | exact Or.inl rfl | exact Or.inr rfl)) pgs_nil)))) (fun _ _ _ _ _ => pts_nil) (fun _ _ _ _ _ => (pe_tup (pa_cons (pe_op op_fdiv (pe_op op_sub (pv 1) (pv 2)) pe_int) (pa_cons (pe_op op_sub (pe_fldK (K := K) (by rfl) (pv 0) rfl) (pe_op op_fdiv (pe_op op_add (pv 1) (pv 2)) pe_int)) pa_nil))))) pa_nil)))), ?_⟩
    walk_at "go"
    refine ⟨a, dx, _, rfl, ea, a, l, rfl, k0, by omega, g.ltr, fun h H1 nh s1 eh => ?_⟩
    have ea1 := s1 _ _ ea
    walk_at "go"
    refine ⟨h, _, rfl, .inr ⟨SqT.of eh, ?_⟩⟩
    intro D hD
    refine lc_it walk_enumT (fun i H' => ∃ xs, Gh K H1 D H' xs ((List.range i).map (plI l)) ∧ xs.length ≤ i) ⟨[], Gh.start hD, Nat.le_refl _⟩ (fun i H' hi ⟨xs, gh, _⟩ => sqt_mono gh.same (SqT.of eh)) ?_ ?_
    · rintro i x H2 H3 hi ⟨xs, gh, hx⟩ ⟨T, b, c, rfl, nT, rfl, eb, ec⟩
      cases eb
      rw [vI_len] at hi
      have ec2 : c = .int (ht l i) := by
        have := (vI_get (l := l) (m := l.length) hi).symm.trans ec
        exact (Option.some.inj this).symm
      subst ec2
      have gh2 := gh.grow (same_new (o := .tup [.int (i : Nat), .int (ht l i)]) (Same.refl H2) nT)
      have ea2 := gh2.same _ _ ea1
      refine ⟨T, [.int (i : Nat), .int (ht l i)], rfl, SqT.of upd_same, rfl, _, _, rfl, _, _, rfl, rfl, ?_⟩
      generalize upd H2 T (.tup [.int (i : Nat), .int (ht l i)]) = H4 at gh2 ea2 ⊢
      walk_at "go"
      refine ⟨szl (by show 2 ≤ 1000; decide), fun T2 nT2 => ?_⟩
      have nTD : T2 ≠ D := fun z => by rw [z, gh2.here] at nT2; cases nT2
      have tot := ltr_count (l := l.take i) fun c hc => g.ltr c (List.mem_of_mem_take hc)
      rw [List.length_take, Nat.min_eq_left (by omega)] at tot
      have v1 : ((i : Nat) - ht l i) / 2 = ((l.take i).count 111 : Nat) := by unfold ht; omega
      have v2 : ((l.count 100 : Nat) : Int) - ((i : Nat) + ht l i) / 2 = (l.count 100 : Nat) - ((l.take i).count 100 : Nat) := by unfold ht; omega
      refine ⟨xs, (upd_ne (Ne.symm nTD)).trans gh2.here, small1000 (by omega), xs ++ [.ref T2], ?_, by rw [List.length_append]; exact Nat.succ_le_succ hx⟩
      dsimp only
      rw [List.range_succ, List.map_append, v1, v2]
      exact gh2.pair nT2 fun G => .cons (.int _) (.cons (.int _) .nil)
    · rintro H2 ⟨xs, gh, hx⟩
      rw [vI_len] at gh
      walk_at "go"
      refine ⟨D, xs, rfl, .inl ⟨SqL.of gh.here, fun t nt => ?_⟩⟩
      have s3 := same_new (o := .tup xs) gh.same nt
      refine q t xs _ (s1.trans s3) (s1.free (gh.same.free nt)) upd_same ?_
      obtain ⟨G, _, _, b1, c1⟩ := gh.ex
      exact dpa_mono (b1.trans (same_new (Same.refl H2) nt)) _ _ c1
/-- how many bends of a kind -/
def spHol (AD : Ads) (f : List Nat → Nat) : Sp := fun vs H Q _ => ∃ a l n, vs = [.ref a] ∧ ColAt AD.C_Column H a l ∧ Good l n ∧ (1 ≤ n ∧ n ≤ 6) ∧ ∀ H', Same H H' → Q (.int (f l)) H'
theorem hols_one (l : List Nat) (kd : List Nat) (i : Nat) (z : Nat × List Nat) (e : (crI l (l.length - 1))[i]? = some z) :
    (((crI l (l.length - 1)).take (i + 1)).filter (fun z => z.2 == kd)).map (·.1) = (((crI l (l.length - 1)).take i).filter (fun z => z.2 == kd)).map (·.1) ++ (if z.2 = kd then [z.1] else []) := by
  rw [List.take_add_one, e, List.filter_append, List.map_append]
  congr 1
  by_cases h : z.2 = kd
  · simp [h]
  · simp [h]
theorem ok_Column_hollows (T : Top K mg AD) : FnOk P w K mg base CX0 3 AD.f_Column_hollows AD.d_Column_hollows P_Column_hollows (spHol AD fun l => (hols l wHollow).length) := by
  refine T.D_Column_hollows.F.ok sc_Column_hollows (fun vs H Q E h => ?_) (fun cdv A outer s H vs Q E hr h => ?_)
  · obtain ⟨p, l, n, rfl, _⟩ := h
    rfl
  · obtain ⟨a, l, n, rfl, ca, g, ⟨n1, n6⟩, q⟩ := h
    have k0 := ca
    obtain ⟨dx, ea⟩ := ca
    have cl := T.cl_Column
    have gl := g.len
    refine ⟨_, (pss_one (ps_ret (pe_callB (call_lenQ (K := K) rfl) (by rfl) T.b_len (by decide +kernel) (pa_cons (pe_lc (own := [("boundary", 1), ("kind", 2)]) rfl sc_Column_hollows.nd (pi_seqQ (K := K) (by rfl) (pe_prop (pv 0) T.cl_Column T.p_Column_creases (ok_Column_creases T) (hr.mono (by decide)) T.D_Column_creases.b .nil pass0 (by rfl))) (blkOk_by (N := N_Column_hollows) (sc := defScope s_Column_hollows) (by decide +kernel)) (fun _ _ _ _ _ => (pg_tupK (K := K) (n := 2) (by rfl) (by rfl) (pgs_cons (pg_name (i := 1) sc_Column_hollows.nd rfl (by first | exact Or.inl rfl | exact Or.inr rfl)) (pgs_cons (pg_name (i := 2) sc_Column_hollows.nd rfl (by first | exact Or.inl rfl | exact Or.inr rfl)) pgs_nil)))) (fun _ _ _ _ _ => (pts_one (pt_cmpR op_eq (pv 2) (pe_s (x := Str.ofString "hollow") [104, 111, 108, 108, 111, 119] (by decide +kernel)) (nomark _)))) (fun _ _ _ _ _ => (pv 1))) pa_nil)))), ?_⟩
    walk_at "go"
    refine ⟨a, dx, _, rfl, ea, a, l, n, rfl, k0, g, ⟨n1, n6⟩, fun h cs H1 s1 nh eh dh => ?_⟩
    walk_at "go"
    refine ⟨h, _, rfl, .inr ⟨SqT.of eh, ?_⟩⟩
    have cn : cs.length = (crI l (l.length - 1)).length := by rw [dpa_len dh, List.length_map]
    have cb := crI_len l (l.length - 1)
    intro D hD
    refine lc_it (walk_tup (xs := cs)) (fun i H' => But D H1 H' ∧ H' D = some (.lst ((((crI l (l.length - 1)).take i).filter (fun z => z.2 == wHollow)).map fun z => V.int (z.1 : Nat)))) ⟨But.upd (But.refl _ _), upd_same⟩
      (fun i H' hi h => SqT.of (same_but (Same.refl _) hD h.1 _ _ eh)) ?_ ?_
    · rintro i x H2 H3 hi ⟨b2, e2⟩ ⟨rfl, ex⟩
      have s2 := same_but (Same.refl _) hD b2
      obtain ⟨d, ed, dx⟩ := dpa_at dh ex
      rw [List.getElem?_map] at ed
      obtain ⟨z, ez, rfl⟩ : ∃ z, (crI l (l.length - 1))[i]? = some z ∧ crD z = d := by
        cases hz : (crI l (l.length - 1))[i]? with
        | none => rw [hz] at ed; cases ed
        | some z => rw [hz] at ed; exact ⟨z, rfl, Option.some.inj ed⟩
      obtain ⟨T, vs, rfl, hT, hv⟩ := dp_tup dx
      obtain ⟨b, kd, rfl, rfl, rfl⟩ : ∃ b kd, vs = [b, kd] ∧ b = .int (z.1 : Nat) ∧ kd = .str (sOf z.2) := by
        cases hv with
        | cons h1 h2 =>
          cases h2 with
          | cons h3 h4 =>
            cases h4
            exact ⟨_, _, rfl, dp_int h1, dp_str h3⟩
      refine ⟨T, _, rfl, sqt_mono s2 hT, rfl, _, _, rfl, _, _, rfl, rfl, ?_⟩
      have nx : (((crI l (l.length - 1)).take (i + 1)).filter (fun z => z.2 == wHollow)) = (((crI l (l.length - 1)).take i).filter (fun z => z.2 == wHollow)) ++ (if z.2 = wHollow then [z] else []) := by
        rw [List.take_add_one, ez, List.filter_append]
        congr 1
        by_cases h : z.2 = wHollow
        · simp [h]
        · simp [h]
      have low := List.length_filter_le (fun z => z.2 == wHollow) ((crI l (l.length - 1)).take i)
      have low2 := List.length_take_le' i (crI l (l.length - 1))
      walk_at "go"
      refine ite2 (fun e => ?_) (fun e => ?_)
      · have ek : z.2 = wHollow := sOf_inj.mp (V.str.inj (of_decide_eq_true e))
        rw [if_pos ek] at nx
        walk_at "go"
        refine ⟨_, e2, small1000 (by rw [List.length_map]; omega), But.upd b2, ?_⟩
        rw [upd_same, nx, List.map_append]
        rfl
      · have ek : ¬ z.2 = wHollow := fun h => e (by rw [h]; exact decide_eq_true rfl)
        rw [if_neg ek, List.append_nil] at nx
        exact ⟨b2, by rw [nx]; exact e2⟩
    · rintro H2 ⟨b2, e2⟩
      have s2 := same_but (Same.refl _) hD b2
      rw [cn, List.take_length] at e2
      walk_at "go"
      have ln : ((((crI l (l.length - 1)).filter (fun z => z.2 == wHollow)).map fun z => V.int (z.1 : Nat)).length : Nat) = (hols l wHollow).length := by
        unfold hols
        rw [List.length_map, List.length_map]
      rw [ln]
      exact q H2 (s1.trans s2)
theorem ok_Column_ridges (T : Top K mg AD) : FnOk P w K mg base CX0 3 AD.f_Column_ridges AD.d_Column_ridges P_Column_ridges (spHol AD fun l => (hols l wRidge).length) := by
  refine T.D_Column_ridges.F.ok sc_Column_ridges (fun vs H Q E h => ?_) (fun cdv A outer s H vs Q E hr h => ?_)
  · obtain ⟨p, l, n, rfl, _⟩ := h
    rfl
  · obtain ⟨a, l, n, rfl, ca, g, ⟨n1, n6⟩, q⟩ := h
    have k0 := ca
    obtain ⟨dx, ea⟩ := ca
    have cl := T.cl_Column
    have gl := g.len
    refine ⟨_, (pss_one (ps_ret (pe_callB (call_lenQ (K := K) rfl) (by rfl) T.b_len (by decide +kernel) (pa_cons (pe_lc (own := [("boundary", 1), ("kind", 2)]) rfl sc_Column_ridges.nd (pi_seqQ (K := K) (by rfl) (pe_prop (pv 0) T.cl_Column T.p_Column_creases (ok_Column_creases T) (hr.mono (by decide)) T.D_Column_creases.b .nil pass0 (by rfl))) (blkOk_by (N := N_Column_ridges) (sc := defScope s_Column_ridges) (by decide +kernel)) (fun _ _ _ _ _ => (pg_tupK (K := K) (n := 2) (by rfl) (by rfl) (pgs_cons (pg_name (i := 1) sc_Column_ridges.nd rfl (by first | exact Or.inl rfl | exact Or.inr rfl)) (pgs_cons (pg_name (i := 2) sc_Column_ridges.nd rfl (by first | exact Or.inl rfl | exact Or.inr rfl)) pgs_nil)))) (fun _ _ _ _ _ => (pts_one (pt_cmpR op_eq (pv 2) (pe_s (x := Str.ofString "ridge") [114, 105, 100, 103, 101] (by decide +kernel)) (nomark _)))) (fun _ _ _ _ _ => (pv 1))) pa_nil)))), ?_⟩
    walk_at "go"
    refine ⟨a, dx, _, rfl, ea, a, l, n, rfl, k0, g, ⟨n1, n6⟩, fun h cs H1 s1 nh eh dh => ?_⟩
    walk_at "go"
    refine ⟨h, _, rfl, .inr ⟨SqT.of eh, ?_⟩⟩
    have cn : cs.length = (crI l (l.length - 1)).length := by rw [dpa_len dh, List.length_map]
    have cb := crI_len l (l.length - 1)
    intro D hD
    refine lc_it (walk_tup (xs := cs)) (fun i H' => But D H1 H' ∧ H' D = some (.lst ((((crI l (l.length - 1)).take i).filter (fun z => z.2 == wRidge)).map fun z => V.int (z.1 : Nat)))) ⟨But.upd (But.refl _ _), upd_same⟩
      (fun i H' hi h => SqT.of (same_but (Same.refl _) hD h.1 _ _ eh)) ?_ ?_
    · rintro i x H2 H3 hi ⟨b2, e2⟩ ⟨rfl, ex⟩
      have s2 := same_but (Same.refl _) hD b2
      obtain ⟨d, ed, dx⟩ := dpa_at dh ex
      rw [List.getElem?_map] at ed
      obtain ⟨z, ez, rfl⟩ : ∃ z, (crI l (l.length - 1))[i]? = some z ∧ crD z = d := by
        cases hz : (crI l (l.length - 1))[i]? with
        | none => rw [hz] at ed; cases ed
        | some z => rw [hz] at ed; exact ⟨z, rfl, Option.some.inj ed⟩
      obtain ⟨T, vs, rfl, hT, hv⟩ := dp_tup dx
      obtain ⟨b, kd, rfl, rfl, rfl⟩ : ∃ b kd, vs = [b, kd] ∧ b = .int (z.1 : Nat) ∧ kd = .str (sOf z.2) := by
        cases hv with
        | cons h1 h2 =>
          cases h2 with
          | cons h3 h4 =>
            cases h4
            exact ⟨_, _, rfl, dp_int h1, dp_str h3⟩
      refine ⟨T, _, rfl, sqt_mono s2 hT, rfl, _, _, rfl, _, _, rfl, rfl, ?_⟩
      have nx : (((crI l (l.length - 1)).take (i + 1)).filter (fun z => z.2 == wRidge)) = (((crI l (l.length - 1)).take i).filter (fun z => z.2 == wRidge)) ++ (if z.2 = wRidge then [z] else []) := by
        rw [List.take_add_one, ez, List.filter_append]
        congr 1
        by_cases h : z.2 = wRidge
        · simp [h]
        · simp [h]
      have low := List.length_filter_le (fun z => z.2 == wRidge) ((crI l (l.length - 1)).take i)
      have low2 := List.length_take_le' i (crI l (l.length - 1))
      walk_at "go"
      refine ite2 (fun e => ?_) (fun e => ?_)
      · have ek : z.2 = wRidge := sOf_inj.mp (V.str.inj (of_decide_eq_true e))
        rw [if_pos ek] at nx
        walk_at "go"
        refine ⟨_, e2, small1000 (by rw [List.length_map]; omega), But.upd b2, ?_⟩
        rw [upd_same, nx, List.map_append]
        rfl
      · have ek : ¬ z.2 = wRidge := fun h => e (by rw [h]; exact decide_eq_true rfl)
        rw [if_neg ek, List.append_nil] at nx
        exact ⟨b2, by rw [nx]; exact e2⟩
    · rintro H2 ⟨b2, e2⟩
      have s2 := same_but (Same.refl _) hD b2
      rw [cn, List.take_length] at e2
      walk_at "go"
      have ln : ((((crI l (l.length - 1)).filter (fun z => z.2 == wRidge)).map fun z => V.int (z.1 : Nat)).length : Nat) = (hols l wRidge).length := by
        unfold hols
        rw [List.length_map, List.length_map]
      rw [ln]
      exact q H2 (s1.trans s2)
end

/-! ### the law's own runs -/
theorem crd_at {K : PySem.W.Frag} {H : Hp} {cs : List V} {zs : List (Nat × List Nat)} {i : Nat} {x : V} (dh : DpAll K H cs (zs.map crD)) (ex : cs[i]? = some x) : ∃ z T, zs[i]? = some z ∧ x = .ref T ∧ SqT K H T [.int (z.1 : Nat), .str (sOf z.2)] := by
  obtain ⟨d, ed, dx⟩ := dpa_at dh ex
  rw [List.getElem?_map] at ed
  obtain ⟨z, ez, rfl⟩ : ∃ z, zs[i]? = some z ∧ crD z = d := by
    cases hz : zs[i]? with
    | none => rw [hz] at ed; cases ed
    | some z => rw [hz] at ed; exact ⟨z, rfl, Option.some.inj ed⟩
  obtain ⟨T, vs, rfl, hT, hv⟩ := dp_tup dx
  cases hv with
  | cons h1 h2 =>
    cases h2 with
    | cons h3 h4 =>
      cases h4
      cases dp_int h1
      cases dp_str h3
      exact ⟨z, T, ez, rfl, hT⟩
section
variable {P : Program} {w : World} {K : PySem.W.Frag} {mg : Str → Option Value} {base : Heap} {AD : Ads}
def spLRuns (K : PySem.W.Frag) : Sp := fun vs H Q _ => ∃ b cs l n, vs = [.ref b, .str (sOf l)] ∧ H b = some (.lst cs) ∧ DpAll K H cs ((crI l (l.length - 1)).map crD) ∧ Good l n ∧ (1 ≤ n ∧ n ≤ 6) ∧
  ∀ p xs H', Same H H' → H p = none → H' p = some (.lst xs) → DpAll K H' xs ((rsI l l.length).1.map rsD) → Q (.ref p) H'
theorem ok_l_runs (T : Top K mg AD) : FnOk P w K mg base CX0 1 AD.f_l_runs AD.d_l_runs P_l_runs (spLRuns K) := by
  refine T.D_l_runs.F.ok sc_l_runs (fun vs H Q E h => ?_) (fun cdv A outer s H vs Q E hr h => ?_)
  · obtain ⟨b, cs, l, n, rfl, _⟩ := h
    rfl
  · obtain ⟨b, cs, l, n, rfl, eb, dc, g, ⟨n1, n6⟩, q⟩ := h
    have gl := g.len
    have cn : cs.length = (crI l (l.length - 1)).length := by rw [dpa_len dc, List.length_map]
    have cb := crI_len l (l.length - 1)
    refine ⟨_, (pss_cons (ps_set (i := 2) sc_l_runs.nd rfl (Or.inr rfl) (pe_op op_cat (pe_op op_cat (pe_lst (pa_cons pe_int pa_nil)) (pe_lc (own := [("_law_bend", 4)]) (g := (gName 4)) (tt := tYes) rfl sc_l_runs.nd (pi_list (pv 0)) (blkOk_by (N := N_l_runs) (sc := defScope s_l_runs) (by decide +kernel)) (fun _ _ _ _ _ => (pg_name (i := 4) sc_l_runs.nd rfl (by first | exact Or.inl rfl | exact Or.inr rfl))) (fun _ _ _ _ _ => pts_nil) (fun _ _ _ _ _ => (pe_ix (ix_tupK (K := K) rfl) (pv 4) pe_int (fun _ _ => rfl))))) (pe_lst (pa_cons (pe_callB call_lenS (by rfl) T.b_len (by decide +kernel) (pa_cons (pv 1) pa_nil)) pa_nil))))
    (pss_one (ps_ret (pe_lc (own := [("_law_k", 3)]) (g := (gName 3)) (tt := tYes) rfl sc_l_runs.nd (pi_range1 (by rfl) T.b_range (pa_cons (pe_op op_sub (pe_callB (call_lenQ (K := K) rfl) (by rfl) T.b_len (by decide +kernel) (pa_cons (pv 2) pa_nil)) pe_int) pa_nil)) (blkOk_by (N := N_l_runs) (sc := defScope s_l_runs) (by decide +kernel)) (fun _ _ _ _ _ => (pg_name (i := 3) sc_l_runs.nd rfl (by first | exact Or.inl rfl | exact Or.inr rfl))) (fun _ _ _ _ _ => pts_nil) (fun _ _ _ _ _ => (pe_tup (pa_cons (pe_ix ix_S (pv 1) (pe_ix (ix_listK (K := K) rfl) (pv 2) (pv 3) (fun _ _ => rfl)) (fun _ _ => rfl)) (pa_cons (pe_ix (ix_listK (K := K) rfl) (pv 2) (pv 3) (fun _ _ => rfl)) (pa_cons (pe_op op_sub (pe_ix (ix_listK (K := K) rfl) (pv 2) (pe_op op_add (pv 3) pe_int) (fun _ _ => rfl)) (pe_ix (ix_listK (K := K) rfl) (pv 2) (pv 3) (fun _ _ => rfl))) pa_nil))))))))), ?_⟩
    walk_at "go"
    refine ⟨szl (by show 1 ≤ 1000; decide), fun p0 n0 => ?_⟩
    have s0 := same_new (o := .lst [.int 0]) (Same.refl H) n0
    have w0 : upd H p0 (.lst [.int 0]) p0 = some (.lst [.int 0]) := upd_same
    have eb0 := s0 _ _ eb
    generalize upd H p0 (.lst [.int 0]) = H1 at s0 w0 eb0
    walk_at "go"
    refine ⟨⟨_, SqL.of eb0⟩, ?_⟩
    intro D hD
    refine lc_it (walk_list (xs := cs)) (fun i H' => But D H1 H' ∧ H' D = some (.lst (((crI l (l.length - 1)).take i).map fun z => V.int (z.1 : Nat)))) ⟨But.upd (But.refl _ _), upd_same⟩
      (fun i H' hi h => SqL.of (same_but (Same.refl _) hD h.1 _ _ eb0)) ?_ ?_
    · rintro i x H2 H3 hi ⟨b2, e2⟩ ⟨rfl, ex⟩
      have s2 := same_but (Same.refl _) hD b2
      obtain ⟨z, T, ez, rfl, hT⟩ := crd_at dc ex
      have nx : ((crI l (l.length - 1)).take (i + 1)).map (fun z => V.int (z.1 : Nat)) = ((crI l (l.length - 1)).take i).map (fun z => V.int (z.1 : Nat)) ++ [.int (z.1 : Nat)] := by
        rw [List.take_add_one, ez, List.map_append]
        rfl
      have low := List.length_take_le' i (crI l (l.length - 1))
      walk_at "go"
      refine ⟨T, _, _, _, rfl, rfl, sqt_mono (s0.trans s2) hT, rfl, ?_⟩
      refine ⟨_, e2, small1000 (by rw [List.length_map]; omega), But.upd b2, ?_⟩
      rw [upd_same, nx]
    · rintro H2 ⟨b2, e2⟩
      have s2 := same_but (Same.refl _) hD b2
      rw [cn, List.take_length] at e2
      walk_at "go"
      refine ⟨p0, D, _, _, rfl, rfl, s2 _ _ w0, e2, szl (by rw [List.length_map]; simp; omega), fun p1 n1' => ?_⟩
      have s3 := same_new (o := .lst ([V.int 0] ++ (crI l (l.length - 1)).map fun z => V.int (z.1 : Nat))) ((s0.trans s2)) n1'
      have w3 : upd H2 p1 (.lst ([V.int 0] ++ (crI l (l.length - 1)).map fun z => V.int (z.1 : Nat))) p1 = some (.lst ([V.int 0] ++ (crI l (l.length - 1)).map fun z => V.int (z.1 : Nat))) := upd_same
      generalize upd H2 p1 (.lst ([V.int 0] ++ (crI l (l.length - 1)).map fun z => V.int (z.1 : Nat))) = H4 at s3 w3
      walk_at "go"
      refine ⟨szl (by show 1 ≤ 1000; decide), fun p2 n2 => ?_⟩
      have s4 := same_new (o := .lst [V.int (l.length : Nat)]) s3 n2
      have w4 := (same_new (o := .lst [V.int (l.length : Nat)]) (Same.refl H4) n2) _ _ w3
      have w5 : upd H4 p2 (.lst [V.int (l.length : Nat)]) p2 = some (.lst [V.int (l.length : Nat)]) := upd_same
      generalize upd H4 p2 (.lst [V.int (l.length : Nat)]) = H5 at s4 w4 w5
      walk_at "go"
      refine ⟨p1, p2, _, _, rfl, rfl, w4, w5, szl (by simp; omega), fun p3 n3 => ?_⟩
      have es : ([V.int 0] ++ (crI l (l.length - 1)).map fun z => V.int (z.1 : Nat)) ++ [V.int (l.length : Nat)] = (endsL l).map fun z => V.int (z : Nat) := by
        unfold endsL
        rw [List.map_append, List.map_cons, List.map_map]
        rfl
      rw [es]
      have s6 := same_new (o := .lst ((endsL l).map fun z => V.int (z : Nat))) s4 n3
      have w6 : upd H5 p3 (.lst ((endsL l).map fun z => V.int (z : Nat))) p3 = some (.lst ((endsL l).map fun z => V.int (z : Nat))) := upd_same
      generalize upd H5 p3 (.lst ((endsL l).map fun z => V.int (z : Nat))) = H6 at s6 w6
      clear w0 w3 w4 w5 e2 b2 s2 s3 s4 n0 n1' n2 n3 eb0 hD es
      have en : (endsL l).length = (crI l (l.length - 1)).length + 2 := by unfold endsL; simp
      have eok : ∀ k, k < (endsL l).length - 1 → (endsL l)[k]?.getD 0 ≤ (endsL l)[k + 1]?.getD 0 ∧ (endsL l)[k]?.getD 0 < l.length := fun k hk => of_decide_eq_true (List.all_eq_true.mp (g.by n1 n6 _ ends_ok) k (List.mem_range.mpr hk))
      have rs := of_decide_eq_true (g.by n1 n6 _ runs_same)
      have at6 : ∀ k, k < (endsL l).length → atI ((endsL l).map fun z => V.int (z : Nat)) (k : Nat) = some (.int ((endsL l)[k]?.getD 0 : Nat)) := fun k hk => by
        refine atI_nat ?_
        rw [List.getElem?_map, List.getElem?_eq_getElem hk]
        rfl
      walk_at "go"
      intro D hD
      refine lc_it (walk_range (lo := 0)) (fun i H' => ∃ xs, Gh K H6 D H' xs (((List.range i).map (lr1 l)).map rsD) ∧ xs.length ≤ i) ⟨[], Gh.start hD, Nat.le_refl _⟩ (fun _ _ _ _ => trivial) ?_ ?_
      · rintro i x H2 H3 hi ⟨xs, gh, hx⟩ ⟨rfl, rfl⟩
        have hi2 : i < (endsL l).length - 1 := by simp at hi; omega
        obtain ⟨o1, o2⟩ := eok i hi2
        have g1 : l[(endsL l)[i]?.getD 0]? = some l[(endsL l)[i]?.getD 0] := List.getElem?_eq_getElem o2
        have a1 := at6 i (by omega)
        have a2 := at6 (i + 1) (by omega)
        have w7 := gh.same _ _ w6
        have ez : (0 : Int) + (i : Int) = (i : Nat) := by omega
        have ez2 : (0 : Int) + (i : Int) + 1 = ((i + 1 : Nat) : Int) := by omega
        rw [← ez] at a1
        rw [← ez2] at a2
        walk_at "go"
        refine ⟨p3, _, _, _, rfl, rfl, SqL.of w7, a1, ?_⟩
        refine ⟨l, _, _, rfl, rfl, by omega, atI_nat g1, ?_⟩
        walk_at "go"
        refine ⟨p3, _, _, _, rfl, rfl, SqL.of w7, a1, ?_⟩
        walk_at "go"
        refine ⟨p3, _, _, _, rfl, rfl, SqL.of w7, a2, ?_⟩
        walk_at "go"
        refine ⟨p3, _, _, _, rfl, rfl, SqL.of w7, a1, ?_⟩
        walk_at "go"
        refine ⟨szl (by show 3 ≤ 1000; decide), fun T nT => ?_⟩
        have nTD : T ≠ D := fun z => by rw [z, gh.here] at nT; cases nT
        refine ⟨xs, (upd_ne (Ne.symm nTD)).trans gh.here, small1000 (by omega), xs ++ [.ref T], ?_, by rw [List.length_append]; exact Nat.succ_le_succ hx⟩
        have e1 : rsD (lr1 l i) = .tuple [.str (sOf [l[(endsL l)[i]?.getD 0]]), .int ((endsL l)[i]?.getD 0 : Nat), .int (((endsL l)[i + 1]?.getD 0 : Nat) - ((endsL l)[i]?.getD 0 : Nat) : Int)] := by
          unfold rsD lr1
          rw [g1]
          dsimp only
          rw [Int.ofNat_sub o1]
          rfl
        rw [List.range_succ, List.map_append, List.map_append]
        show Gh K H6 D _ _ (_ ++ [rsD (lr1 l i)])
        rw [e1]
        exact gh.pair nT fun G => .cons (.str _) (.cons (.int _) (.cons (.int _) .nil))
      · rintro H2 ⟨xs, gh, hx⟩
        have en2 : (((endsL l).map fun z => V.int (z : Nat)).length - 1 : Int).toNat = (endsL l).length - 1 := by simp
        rw [en2] at gh
        refine q D xs _ (s6.trans gh.same) (s6.free hD) gh.here ?_
        have := gh.all
        rw [← rs]
        exact this
end

/-! ### told or refused -/
def wRef : List Nat := [114, 101, 102, 117, 115, 101, 100]
def wTold : List Nat := [116, 111, 108, 100]
section
variable {P : Program} {w : World} {K : PySem.W.Frag} {mg : Str → Option Value} {base : Heap} {AD : Ads}
def spRefused (K : PySem.W.Frag) (AD : Ads) : Sp := fun vs H Q _ => ∃ a l v, ∃ wy : Int, vs = [.ref a, v, .int wy] ∧ ColAt AD.C_Column H a l ∧ l.length ≤ 12 ∧
  ((∃ k : Nat, v = .int k ∧ k ≤ l.length ∧ ∀ p x H', Same H H' → H' p = some (.tup [.str (sOf wTold), x]) → Q (.ref p) H') ∨ (NoBoundary K H v l.length ∧ ∀ p H', Same H H' → H p = none → H' p = some (.tup [.str (sOf wRef), v]) → Q (.ref p) H'))
theorem ok_l_refused (T : Top K mg AD) : FnOk P w K mg base CX0 5 AD.f_l_refused AD.d_l_refused P_l_refused (spRefused K AD) := by
  refine T.D_l_refused.F.ok sc_l_refused (fun vs H Q E h => ?_) (fun cdv A outer s H vs Q E hr h => ?_)
  · obtain ⟨a, l, v, wy, rfl, _⟩ := h
    rfl
  · obtain ⟨a, l, v, wy, rfl, ca, hl, q⟩ := h
    have k0 := ca
    obtain ⟨dx, ea⟩ := ca
    have cl := T.cl_Column
    refine ⟨_, (pss_cons (ps_try_as (i := 4) rfl rfl sc_l_refused.nd rfl rfl ⟨rfl, by decide, Or.inl T.g_BadBoundary⟩ (takes0 (X := _))
    (fun W pn xe tk _ => (pss_one (ps_if (pt_cmpR op_eq (pv 2) pe_int (nomark _))
    (pss_one (ps_set (i := 3) sc_l_refused.nd rfl (Or.inl rfl) (pe_methW (E := WE W) (pv 0) T.cl_Column T.m_Column_height (ok_Column_height (K := K) T) (hr.mono (by decide)) T.D_Column_height.b (fun σ => passAt tk σ) (pa_cons (pv 1) pa_nil))))
    (pss_one (ps_if (pt_cmpR op_eq (pv 2) pe_int (nomark _))
    (pss_one (ps_set (i := 3) sc_l_refused.nd rfl (Or.inl rfl) (pe_methW (E := WE W) (pv 0) T.cl_Column T.m_Column_place (ok_Column_place (K := K) T) (hr.mono (by decide)) T.D_Column_place.b (fun σ => passAt tk σ) (pa_cons (pv 1) pa_nil))))
    (pss_one (ps_if (pt_cmpR op_eq (pv 2) pe_int (nomark _))
    (pss_one (ps_set (i := 3) sc_l_refused.nd rfl (Or.inl rfl) (pe_methW (E := WE W) (pv 0) T.cl_Column T.m_Column_many (ok_Column_many (K := K) T) (hr.mono (by decide)) T.D_Column_many.b (fun σ => passAt tk σ) (pa_cons (pe_s (x := Str.ofString "d") [100] (by decide +kernel)) (pa_cons (pv 1) pa_nil)))))
    (pss_one (ps_set (i := 3) sc_l_refused.nd rfl (Or.inl rfl) (pe_methW (E := WE W) (pv 0) T.cl_Column T.m_Column_many (ok_Column_many (K := K) T) (hr.mono (by decide)) T.D_Column_many.b (fun σ => passAt tk σ) (pa_cons (pe_s (x := Str.ofString "o") [111] (by decide +kernel)) (pa_cons (pv 1) pa_nil))))))))))))
    (fun a oe cls d pn hz hf => (pss_one (ps_ret (pe_tup (pa_cons (pe_s (x := Str.ofString "refused") [114, 101, 102, 117, 115, 101, 100] (by decide +kernel)) (pa_cons (pe_xf T.x_BadBoundary.xf T.n_BadBoundary_boundary hz hf (pv 4)) pa_nil)))))))
    (pss_one (ps_ret (pe_tup (pa_cons (pe_s (x := Str.ofString "told") [116, 111, 108, 100] (by decide +kernel)) (pa_cons (pv 3) pa_nil)))))), ?_⟩
    walk_at "go"
    rcases q with ⟨k, rfl, hk, q⟩ | ⟨nb, q⟩
    · refine ite2 (fun e => ?_) (fun e => ?_)
      · walk_at "go"
        refine ⟨a, dx, _, rfl, ea, rfl, ?_⟩
        walk_at "go"
        refine ⟨a, l, _, rfl, k0, hl, .inl ⟨k, rfl, hk, ?_⟩⟩
        walk_at "go"
        refine ⟨szl (by show 2 ≤ 1000; decide), fun p np => ?_⟩
        exact q p _ _ (same_new (Same.refl H) np) upd_same
      · walk_at "go"
        refine ite2 (fun e => ?_) (fun e => ?_)
        · walk_at "go"
          refine ⟨a, dx, _, rfl, ea, rfl, ?_⟩
          walk_at "go"
          refine ⟨a, l, _, rfl, k0, hl, .inl ⟨k, rfl, hk, ?_⟩⟩
          intro p1 n1
          walk_at "go"
          refine ⟨szl (by show 2 ≤ 1000; decide), fun p np => ?_⟩
          exact q p _ _ (same_new (same_new (Same.refl H) n1) np) upd_same
        · walk_at "go"
          refine ite2 (fun e => ?_) (fun e => ?_)
          · walk_at "go"
            refine ⟨a, dx, _, rfl, ea, rfl, ?_⟩
            walk_at "go"
            refine ⟨a, l, 100, _, rfl, k0, hl, .inl ⟨k, rfl, hk, ?_⟩⟩
            walk_at "go"
            refine ⟨szl (by show 2 ≤ 1000; decide), fun p np => ?_⟩
            exact q p _ _ (same_new (Same.refl H) np) upd_same
          · walk_at "go"
            walk_at "go"
            refine ⟨a, dx, _, rfl, ea, rfl, ?_⟩
            walk_at "go"
            refine ⟨a, l, 111, _, rfl, k0, hl, .inl ⟨k, rfl, hk, ?_⟩⟩
            walk_at "go"
            refine ⟨szl (by show 2 ≤ 1000; decide), fun p np => ?_⟩
            exact q p _ _ (same_new (Same.refl H) np) upd_same
    · refine ite2 (fun e => ?_) (fun e => ?_)
      · walk_at "go"
        refine ⟨a, dx, _, rfl, ea, rfl, ?_⟩
        walk_at "go"
        refine ⟨a, l, _, rfl, k0, hl, .inr ⟨nb, fun d H' s' nd ed => ?_⟩⟩
        refine ⟨true, T.x_BadBoundary.me, fun _ a na => ?_, fun z => absurd z (by decide)⟩
        walk_at "go"
        refine ⟨rfl, rfl, d, _, _, rfl, ed, rfl, ?_⟩
        walk_at "go"
        refine ⟨szl (by show 2 ≤ 1000; decide), fun p hp => ?_⟩
        exact q p _ (same_new s' hp) (s'.free hp) upd_same
      · walk_at "go"
        refine ite2 (fun e => ?_) (fun e => ?_)
        · walk_at "go"
          refine ⟨a, dx, _, rfl, ea, rfl, ?_⟩
          walk_at "go"
          refine ⟨a, l, _, rfl, k0, hl, .inr ⟨nb, fun d H' s' nd ed => ?_⟩⟩
          refine ⟨true, T.x_BadBoundary.me, fun _ a na => ?_, fun z => absurd z (by decide)⟩
          walk_at "go"
          refine ⟨rfl, rfl, d, _, _, rfl, ed, rfl, ?_⟩
          walk_at "go"
          refine ⟨szl (by show 2 ≤ 1000; decide), fun p hp => ?_⟩
          exact q p _ (same_new s' hp) (s'.free hp) upd_same
        · walk_at "go"
          refine ite2 (fun e => ?_) (fun e => ?_)
          · walk_at "go"
            refine ⟨a, dx, _, rfl, ea, rfl, ?_⟩
            walk_at "go"
            refine ⟨a, l, 100, _, rfl, k0, hl, .inr ⟨nb, fun d H' s' nd ed => ?_⟩⟩
            refine ⟨true, T.x_BadBoundary.me, fun _ a na => ?_, fun z => absurd z (by decide)⟩
            walk_at "go"
            refine ⟨rfl, rfl, d, _, _, rfl, ed, rfl, ?_⟩
            walk_at "go"
            refine ⟨szl (by show 2 ≤ 1000; decide), fun p hp => ?_⟩
            exact q p _ (same_new s' hp) (s'.free hp) upd_same
          · walk_at "go"
            walk_at "go"
            refine ⟨a, dx, _, rfl, ea, rfl, ?_⟩
            walk_at "go"
            refine ⟨a, l, 111, _, rfl, k0, hl, .inr ⟨nb, fun d H' s' nd ed => ?_⟩⟩
            refine ⟨true, T.x_BadBoundary.me, fun _ a na => ?_, fun z => absurd z (by decide)⟩
            walk_at "go"
            refine ⟨rfl, rfl, d, _, _, rfl, ed, rfl, ?_⟩
            walk_at "go"
            refine ⟨szl (by show 2 ≤ 1000; decide), fun p hp => ?_⟩
            exact q p _ (same_new s' hp) (s'.free hp) upd_same
end

/-! ### what the law asks of a column -/
theorem not_same {α : Type} {a : α} [Decidable (a = a)] : (!decide (a = a)) = false := by simp
theorem is_same {α : Type} {a : α} [Decidable (a = a)] : decide (a = a) = true := by simp
def rCount2 : V → List V → Hp → VK → Prop := fun x xs H Q => ∃ l k : List Nat, x = .str (sOf l) ∧ xs = [.str (sOf k)] ∧ Q (.int (Txt.count (sOf l) (sOf k))) H
theorem mt_count2 {X : Cx} : MtR X "str.count" rCount2 := fun pins s σ H x xs v us Q I rx rs ⟨l, k, ex, es, q⟩ =>
  mt_count pins s σ H x xs v us Q I rx rs ⟨_, _, ex, es, q⟩
section
variable {P : Program} {w : World} {K : PySem.W.Frag} {mg : Str → Option Value} {base : Heap} {AD : Ads}
def spRight (K : PySem.W.Frag) (AD : Ads) : Sp := fun vs H Q _ => ∃ a l n, vs = [.ref a, .str (sOf l)] ∧ ColAt AD.C_Column H a l ∧ Good l n ∧ (1 ≤ n ∧ n ≤ 6) ∧ ∀ H', Same H H' → Q (.bl true) H'
theorem ok_l_right (T : Top K mg AD) : FnOk P w K mg base CX0 6 AD.f_l_right AD.d_l_right P_l_right (spRight K AD) := by
  refine T.D_l_right.F.ok sc_l_right (fun vs H Q E h => ?_) (fun cdv A outer s H vs Q E hr h => ?_)
  · obtain ⟨a, l, n, rfl, _⟩ := h
    rfl
  · obtain ⟨a, l, n, rfl, ca, g, ⟨n1, n6⟩, q⟩ := h
    obtain ⟨dx, ea⟩ := ca
    have hl : l.length ≤ 12 := by have := g.len; omega
    have cl := T.cl_Column
    refine ⟨_, (pss_cons (ps_set (i := 2) sc_l_right.nd rfl (Or.inl rfl) (pe_op op_fdiv (pe_callB call_lenS (by rfl) T.b_len (by decide +kernel) (pa_cons (pv 1) pa_nil)) pe_int))
    (pss_cons (ps_set (i := 3) sc_l_right.nd rfl (Or.inl rfl) (callD T.D_l_heights (ok_l_heights T) hr (pa_cons (pv 1) pa_nil)))
    (pss_cons (ps_if (PW.pt (pw_or (pt_not (pt_val (pe_callB (call_isiK' (K := K) rfl) (by rfl) T.b_isinstance (by decide +kernel) (pa_cons (pe_prop (pv 0) T.cl_Column T.p_Column_heights (ok_Column_heights T) (hr.mono (by decide)) T.D_Column_heights.b .nil pass0 (by rfl)) (pa_cons (pe_bltn (v := .ty "tuple") (u := .type "tuple") (by rfl) T.b_tuple (by decide +kernel) rfl) pa_nil))))) (pw_or (pt_cmpR (op_neD hr.units) (pe_callTy (call_listQ (K := K) rfl) (by rfl) T.b_list (by decide +kernel) (pa_cons (pe_prop (pv 0) T.cl_Column T.p_Column_heights (ok_Column_heights T) (hr.mono (by decide)) T.D_Column_heights.b .nil pass0 (by rfl)) pa_nil)) (pv 3) (nomark _)) (pw_or1 (pt_not (pt_val (callD T.D_l_numbers (ok_l_numbers T) hr (pa_cons (pe_prop (pv 0) T.cl_Column T.p_Column_heights (ok_Column_heights T) (hr.mono (by decide)) T.D_Column_heights.b .nil pass0 (by rfl)) pa_nil))))))))
    (pss_one (ps_ret pe_bl))
    pss_nil)
    (pss_cons (ps_if (PW.pt (pw_or (pt_not (pt_val (pe_callB (call_isiK' (K := K) rfl) (by rfl) T.b_isinstance (by decide +kernel) (pa_cons (pe_prop (pv 0) T.cl_Column T.p_Column_places (ok_Column_places T) (hr.mono (by decide)) T.D_Column_places.b .nil pass0 (by rfl)) (pa_cons (pe_bltn (v := .ty "tuple") (u := .type "tuple") (by rfl) T.b_tuple (by decide +kernel) rfl) pa_nil))))) (pw_or1 (pt_cmpR op_ne (pe_callB (call_lenQ (K := K) rfl) (by rfl) T.b_len (by decide +kernel) (pa_cons (pe_prop (pv 0) T.cl_Column T.p_Column_places (ok_Column_places T) (hr.mono (by decide)) T.D_Column_places.b .nil pass0 (by rfl)) pa_nil)) (pe_callB (call_lenQ (K := K) rfl) (by rfl) T.b_len (by decide +kernel) (pa_cons (pv 3) pa_nil)) (nomark _)))))
    (pss_one (ps_ret pe_bl))
    pss_nil)
    (pss_cons (ps_par (i := 4) (j := 5) (by rfl) sc_l_right.nd rfl rfl (by decide) rfl rfl (pa_cons pe_int (pa_cons (pv 2) pa_nil)) (by rfl))
    (pss_cons (ps_for PassesOwn.never rfl (pi_range1 (by rfl) T.b_range (pa_cons (pe_op op_add (pe_callB call_lenS (by rfl) T.b_len (by decide +kernel) (pa_cons (pv 1) pa_nil)) pe_int) pa_nil)) (pg_name (i := 6) sc_l_right.nd rfl (Or.inl rfl))
    (pss_cons (ps_if (PW.pt (pw_or (pt_cmpR (op_neD hr.units) (pe_methW (E := fun _ => E0) (pv 0) T.cl_Column T.m_Column_place (ok_Column_place (K := K) T) (hr.mono (by decide)) T.D_Column_place.b (fun σ => passAt takes0 σ) (pa_cons (pv 6) pa_nil)) (pe_tup (pa_cons (pv 4) (pa_cons (pv 5) pa_nil))) (nomark _)) (pw_or (pt_cmpR (op_neD hr.units) (pe_ix (ix_tupK (K := K) rfl) (pe_prop (pv 0) T.cl_Column T.p_Column_places (ok_Column_places T) (hr.mono (by decide)) T.D_Column_places.b .nil pass0 (by rfl)) (pv 6) (fun _ _ => rfl)) (pe_tup (pa_cons (pv 4) (pa_cons (pv 5) pa_nil))) (nomark _)) (pw_or1 (pt_not (pt_val (callD T.D_l_numbers (ok_l_numbers T) hr (pa_cons (pe_methW (E := fun _ => E0) (pv 0) T.cl_Column T.m_Column_place (ok_Column_place (K := K) T) (hr.mono (by decide)) T.D_Column_place.b (fun σ => passAt takes0 σ) (pa_cons (pv 6) pa_nil)) pa_nil))))))))
    (pss_one (ps_ret pe_bl))
    pss_nil)
    (pss_cons (ps_set (i := 7) sc_l_right.nd rfl (Or.inl rfl) (pe_lst (pa_cons (pe_methW (E := fun _ => E0) (pv 0) T.cl_Column T.m_Column_many (ok_Column_many (K := K) T) (hr.mono (by decide)) T.D_Column_many.b (fun σ => passAt takes0 σ) (pa_cons (pe_s (x := Str.ofString "o") [111] (by decide +kernel)) (pa_cons (pv 6) pa_nil))) (pa_cons (pe_methW (E := fun _ => E0) (pv 0) T.cl_Column T.m_Column_many (ok_Column_many (K := K) T) (hr.mono (by decide)) T.D_Column_many.b (fun σ => passAt takes0 σ) (pa_cons (pe_s (x := Str.ofString "d") [100] (by decide +kernel)) (pa_cons (pv 6) pa_nil))) (pa_cons (pe_methW (E := fun _ => E0) (pv 0) T.cl_Column T.m_Column_height (ok_Column_height (K := K) T) (hr.mono (by decide)) T.D_Column_height.b (fun σ => passAt takes0 σ) (pa_cons (pv 6) pa_nil)) pa_nil)))))
    (pss_cons (ps_if (PW.pt (pw_or (pt_not (pt_val (callD T.D_l_numbers (ok_l_numbers T) hr (pa_cons (pv 7) pa_nil)))) (pw_or (pt_cmpR (op_neD hr.units) (pv 7) (pe_lst (pa_cons (pv 4) (pa_cons (pe_op op_sub (pv 2) (pv 5)) (pa_cons (pe_op op_sub (pe_op op_sub (pv 2) (pv 4)) (pv 5)) pa_nil)))) (nomark _)) (pw_or1 (pt_cmpR op_ne (pe_op op_sub (pv 4) (pv 5)) (pe_op op_sub (pv 6) (pv 2)) (nomark _))))))
    (pss_one (ps_ret pe_bl))
    pss_nil)
    (pss_one (ps_if (PW.pt (pw_and (pt_cmpR op_lt (pv 6) (pe_callB call_lenS (by rfl) T.b_len (by decide +kernel) (pa_cons (pv 1) pa_nil)) (nomark _)) (pw_and1 (pt_cmpR op_eq (pe_ix ix_S (pv 1) (pv 6) (fun _ _ => rfl)) (pe_s (x := Str.ofString "d") [100] (by decide +kernel)) (nomark _)))))
    (pss_one (ps_set (i := 5) sc_l_right.nd rfl (Or.inl rfl) (pe_op op_sub (pv 5) pe_int)))
    (pss_one (ps_set (i := 4) sc_l_right.nd rfl (Or.inl rfl) (pe_op op_add (pv 4) pe_int)))))))))
    (pss_cons (ps_set (i := 8) sc_l_right.nd rfl (Or.inl rfl) (callD T.D_l_bends (ok_l_bends T) hr (pa_cons (pv 1) pa_nil)))
    (pss_cons (ps_if (PW.pt (pw_or (pt_not (pt_val (pe_callB (call_isiK' (K := K) rfl) (by rfl) T.b_isinstance (by decide +kernel) (pa_cons (pe_prop (pv 0) T.cl_Column T.p_Column_creases (ok_Column_creases T) (hr.mono (by decide)) T.D_Column_creases.b .nil pass0 (by rfl)) (pa_cons (pe_bltn (v := .ty "tuple") (u := .type "tuple") (by rfl) T.b_tuple (by decide +kernel) rfl) pa_nil))))) (pw_or1 (pt_cmpR (op_neD hr.units) (pe_callTy (call_listQ (K := K) rfl) (by rfl) T.b_list (by decide +kernel) (pa_cons (pe_prop (pv 0) T.cl_Column T.p_Column_creases (ok_Column_creases T) (hr.mono (by decide)) T.D_Column_creases.b .nil pass0 (by rfl)) pa_nil)) (pv 8) (nomark _)))))
    (pss_one (ps_ret pe_bl))
    pss_nil)
    (pss_cons (ps_if (PW.pt (pw_or (pt_not (pt_val (pe_callB (call_isiK' (K := K) rfl) (by rfl) T.b_isinstance (by decide +kernel) (pa_cons (pe_prop (pv 0) T.cl_Column T.p_Column_runs (ok_Column_runs T) (hr.mono (by decide)) T.D_Column_runs.b .nil pass0 (by rfl)) (pa_cons (pe_bltn (v := .ty "tuple") (u := .type "tuple") (by rfl) T.b_tuple (by decide +kernel) rfl) pa_nil))))) (pw_or1 (pt_cmpR (op_neD hr.units) (pe_callTy (call_listQ (K := K) rfl) (by rfl) T.b_list (by decide +kernel) (pa_cons (pe_prop (pv 0) T.cl_Column T.p_Column_runs (ok_Column_runs T) (hr.mono (by decide)) T.D_Column_runs.b .nil pass0 (by rfl)) pa_nil)) (callD T.D_l_runs (ok_l_runs T) hr (pa_cons (pv 8) (pa_cons (pv 1) pa_nil))) (nomark _)))))
    (pss_one (ps_ret pe_bl))
    pss_nil)
    (pss_cons (ps_set (i := 7) sc_l_right.nd rfl (Or.inl rfl) (pe_lst (pa_cons (pe_prop (pv 0) T.cl_Column T.p_Column_hollows (ok_Column_hollows T) (hr.mono (by decide)) T.D_Column_hollows.b .nil pass0 (by rfl)) (pa_cons (pe_prop (pv 0) T.cl_Column T.p_Column_ridges (ok_Column_ridges T) (hr.mono (by decide)) T.D_Column_ridges.b .nil pass0 (by rfl)) pa_nil))))
    (pss_one (ps_ret (pe_and (callD T.D_l_numbers (ok_l_numbers T) hr (pa_cons (pv 7) pa_nil)) (pe_and (pe_cmpR (op_eqD hr.units) (pv 7) (pe_lst (pa_cons (pe_m1 PySem.F.slot_str_count PySem.F.type_str_count mt_count2 (pv 1) (pe_s [100, 111] (by decide +kernel))) (pa_cons (pe_m1 PySem.F.slot_str_count PySem.F.type_str_count mt_count2 (pv 1) (pe_s [111, 100] (by decide +kernel))) pa_nil))) (nomark _)) (pe_one (pe_cmpR op_eq (pe_ix (ix_listK (K := K) rfl) (pv 7) pe_int (fun _ _ => rfl)) (pe_op op_add (pe_ix (ix_listK (K := K) rfl) (pv 7) pe_int (fun _ _ => rfl)) pe_int) (nomark _))))))))))))))))), ?_⟩
    walk_at "go"
    refine ⟨g.ltr, fun p H1 np S ep => ?_⟩
    replace ea := S _ _ ea
    walk_at "go"
    refine ⟨a, dx, _, rfl, ea, a, l, rfl, ⟨dx, ea⟩, hl, g.ltr, fun h1 H2 nh1 s eh1 => ?_⟩
    replace S := S.trans s
    replace ea := s _ _ ea
    replace ep := s _ _ ep
    walk_at "go"
    refine ⟨_, _, _, _, true, rfl, .ty _, .base (.tup eh1), kit_ty (by decide +kernel), ?_⟩
    clear s nh1 eh1
    walk_at "go"
    refine ⟨a, dx, _, rfl, ea, a, l, rfl, ⟨dx, ea⟩, hl, g.ltr, fun h1 H3 nh1 s eh1 => ?_⟩
    replace S := S.trans s
    replace ea := s _ _ ea
    replace ep := s _ _ ep
    walk_at "go"
    refine ⟨h1, _, rfl, .inr (SqT.of eh1), fun q1 nq1 => ?_⟩
    clear s
    have s := same_new (o := .lst (vI (htsI l l.length))) (Same.refl H3) nq1
    have w1 : upd H3 q1 (.lst (vI (htsI l l.length))) q1 = some (.lst (vI (htsI l l.length))) := upd_same
    replace S := S.trans s
    replace ea := s _ _ ea
    replace ep := s _ _ ep
    generalize upd H3 q1 (.lst (vI (htsI l l.length))) = H4 at S w1 ea ep ⊢
    clear s nq1 eh1 nh1
    walk_at "go"
    refine neD_same (d := .list ((htsI l l.length).map .int)) (.lst (SqL.of w1) (dpa_ints _)) (.lst (SqL.of ep) (dpa_ints _)) (ok_ints _).1 ?_
    clear w1
    walk_at "go"
    refine ⟨a, dx, _, rfl, ea, a, l, rfl, ⟨dx, ea⟩, hl, g.ltr, fun h1 H5 nh1 s eh1 => ?_⟩
    replace S := S.trans s
    replace ea := s _ _ ea
    replace ep := s _ _ ep
    walk_at "go"
    refine ⟨h1, _, rfl, .inr eh1, ?_⟩
    clear s nh1 eh1
    walk_at "go"
    refine ⟨a, dx, _, rfl, ea, a, l, n, rfl, ⟨dx, ea⟩, g, ⟨n1, n6⟩, fun h1 xs H6 s nh1 eh1 dh1 => ?_⟩
    replace S := S.trans s
    replace ea := s _ _ ea
    replace ep := s _ _ ep
    walk_at "go"
    refine ⟨_, _, _, _, true, rfl, .ty _, .base (.tup eh1), kit_ty (by decide +kernel), ?_⟩
    clear s nh1 eh1 dh1 xs
    walk_at "go"
    refine ⟨a, dx, _, rfl, ea, a, l, n, rfl, ⟨dx, ea⟩, g, ⟨n1, n6⟩, fun h1 xs H7 s nh1 eh1 dh1 => ?_⟩
    replace S := S.trans s
    replace ea := s _ _ ea
    replace ep := s _ _ ep
    have lx : xs.length = l.length + 1 := by rw [dpa_len dh1]; simp
    walk_at "go"
    refine ⟨h1, _, rfl, .inr (SqT.of eh1), ?_⟩
    clear s nh1 eh1 dh1
    walk_at "go"
    rw [lx, vI_len, not_same]
    clear lx
    walk_at "go"
    refine ⟨_, _, rfl, ?_⟩
    walk_at "go"
    have hz : (l.length : Int) / 2 = (l.count 100 : Nat) := by have := g.len; have := g.cnt; omega
    refine for_it (walk_range (lo := 0)) (fun i σ H' => ∃ (zx zy : Int) (o6 o7 : Option V), σ = [some (.ref a), some (.str (sOf l)), some (.int (l.count 100 : Nat)), some (.ref p), some (.int zx), some (.int zy), o6, o7, none] ∧ (i ≤ l.length → zx = ((l.take i).count 111 : Nat) ∧ zy = (l.count 100 : Nat) - ((l.take i).count 100 : Nat)) ∧ Same H H' ∧
      H' a = some (.ins AD.C_Column dx [("word", .str (sOf l)), ("size", .int (l.count 100 : Nat))]))
      ⟨_, _, none, none, by dsimp only; rw [hz]; rfl, fun _ => ⟨rfl, by simp⟩, S, ea⟩ (fun _ _ _ _ _ => trivial) ?_ ?_
    · rintro i x σ Ha Hb hi ⟨zx, zy, o6, o7, rfl, hxy, S, ea⟩ ⟨rfl, ex⟩
      have hi2 : i ≤ l.length := by omega
      obtain ⟨rfl, rfl⟩ := hxy hi2
      obtain rfl : x = .int (i : Nat) := by rw [ex]; simp
      clear ex
      have tot := ltr_count (l := l.take i) fun c hc => g.ltr c (List.mem_of_mem_take hc)
      rw [List.length_take, Nat.min_eq_left (by omega)] at tot
      have hc := g.cnt
      have hlen := g.len
      generalize hX : (l.take i).count 111 = X at tot
      generalize hY : (l.take i).count 100 = Y at tot
      walk_at "go"
      refine ⟨a, dx, _, rfl, ea, rfl, ?_⟩
      walk_at "go"
      refine ⟨a, l, _, rfl, ⟨dx, ea⟩, hl, .inl ⟨i, rfl, hi2, fun p1 np1 => ?_⟩⟩
      rw [hX, hY]
      have s := same_new (o := .tup [.int (X : Nat), .int ((l.count 100 : Nat) - (Y : Nat))]) (Same.refl Hb) np1
      have w1 : upd Hb p1 (.tup [.int (X : Nat), .int ((l.count 100 : Nat) - (Y : Nat))]) p1 = some (.tup [.int (X : Nat), .int ((l.count 100 : Nat) - (Y : Nat))]) := upd_same
      replace S := S.trans s
      replace ea := s _ _ ea
      generalize upd Hb p1 (.tup [.int (X : Nat), .int ((l.count 100 : Nat) - (Y : Nat))]) = H8 at S w1 ea ⊢
      clear s np1
      walk_at "go"
      refine ⟨szl (by show 2 ≤ 1000; decide), fun p2 np2 => ?_⟩
      have s := same_new (o := .tup [.int (X : Nat), .int ((l.count 100 : Nat) - (Y : Nat))]) (Same.refl H8) np2
      have w2 : upd H8 p2 (.tup [.int (X : Nat), .int ((l.count 100 : Nat) - (Y : Nat))]) p2 = some (.tup [.int (X : Nat), .int ((l.count 100 : Nat) - (Y : Nat))]) := upd_same
      replace S := S.trans s
      replace ea := s _ _ ea
      replace w1 := s _ _ w1
      generalize upd H8 p2 (.tup [.int (X : Nat), .int ((l.count 100 : Nat) - (Y : Nat))]) = H9 at S w1 w2 ea ⊢
      clear s np2
      refine neD_same (d := .tuple [.int (X : Nat), .int ((l.count 100 : Nat) - (Y : Nat))]) (.tup (SqT.of w1) (.cons (.int _) (.cons (.int _) .nil))) (.tup (SqT.of w2) (.cons (.int _) (.cons (.int _) .nil))) rfl ?_
      clear w1 w2
      walk_at "go"
      refine ⟨a, dx, _, rfl, ea, a, l, n, rfl, ⟨dx, ea⟩, g, ⟨n1, n6⟩, fun h1 xs H10 s nh1 eh1 dh1 => ?_⟩
      replace S := S.trans s
      replace ea := s _ _ ea
      obtain ⟨v, ev, dv⟩ := dpa_get dh1 (i := i) (d := plI l i) (by rw [List.getElem?_map, List.getElem?_range (by omega)]; rfl)
      walk_at "go"
      refine ⟨h1, _, _, _, rfl, rfl, SqT.of eh1, atI_nat ev, ?_⟩
      clear s nh1 eh1 dh1
      walk_at "go"
      refine ⟨szl (by show 2 ≤ 1000; decide), fun p2 np2 => ?_⟩
      have s := same_new (o := .tup [.int (X : Nat), .int ((l.count 100 : Nat) - (Y : Nat))]) (Same.refl H10) np2
      have w2 : upd H10 p2 (.tup [.int (X : Nat), .int ((l.count 100 : Nat) - (Y : Nat))]) p2 = some (.tup [.int (X : Nat), .int ((l.count 100 : Nat) - (Y : Nat))]) := upd_same
      replace S := S.trans s
      replace ea := s _ _ ea
      replace dv := dp_mono s _ _ dv
      generalize upd H10 p2 (.tup [.int (X : Nat), .int ((l.count 100 : Nat) - (Y : Nat))]) = H11 at S w2 ea dv ⊢
      clear s np2
      unfold plI at dv
      rw [hX, hY] at dv
      refine neD_same dv (.tup (SqT.of w2) (.cons (.int _) (.cons (.int _) .nil))) rfl ?_
      clear dv w2 ev xs
      walk_at "go"
      refine ⟨a, dx, _, rfl, ea, rfl, ?_⟩
      walk_at "go"
      refine ⟨a, l, _, rfl, ⟨dx, ea⟩, hl, .inl ⟨i, rfl, hi2, fun p1 np1 => ?_⟩⟩
      have s := same_new (o := .tup [.int ((l.take i).count 111 : Nat), .int ((l.count 100 : Nat) - ((l.take i).count 100 : Nat))]) (Same.refl H11) np1
      have w1 : upd H11 p1 (.tup [.int ((l.take i).count 111 : Nat), .int ((l.count 100 : Nat) - ((l.take i).count 100 : Nat))]) p1 = some (.tup (vI [((l.take i).count 111 : Nat), (l.count 100 : Nat) - ((l.take i).count 100 : Nat)])) := upd_same
      replace S := S.trans s
      replace ea := s _ _ ea
      generalize upd H11 p1 (.tup [.int ((l.take i).count 111 : Nat), .int ((l.count 100 : Nat) - ((l.take i).count 100 : Nat))]) = H12 at S w1 ea ⊢
      clear s np1
      walk_at "go"
      refine ⟨p1, _, rfl, .inr w1, ?_⟩
      clear w1
      walk_at "go"
      refine ⟨a, dx, _, rfl, ea, rfl, ?_⟩
      walk_at "go"
      refine ⟨a, l, 111, _, rfl, ⟨dx, ea⟩, hl, .inl ⟨i, rfl, hi2, ?_⟩⟩
      walk_at "go"
      refine ⟨a, dx, _, rfl, ea, rfl, ?_⟩
      walk_at "go"
      refine ⟨a, l, 100, _, rfl, ⟨dx, ea⟩, hl, .inl ⟨i, rfl, hi2, ?_⟩⟩
      walk_at "go"
      refine ⟨a, dx, _, rfl, ea, rfl, ?_⟩
      walk_at "go"
      refine ⟨a, l, _, rfl, ⟨dx, ea⟩, hl, .inl ⟨i, rfl, hi2, ?_⟩⟩
      walk_at "go"
      have hht : ht l i = (Y : Int) - X := by unfold ht; rw [hX, hY]
      rw [hX, hY, hht]
      refine ⟨szl (by show 3 ≤ 1000; decide), fun p1 np1 => ?_⟩
      have s := same_new (o := .lst (vI [(X : Int), (Y : Int), (Y : Int) - X])) (Same.refl H12) np1
      have w1 : upd H12 p1 (.lst (vI [(X : Int), (Y : Int), (Y : Int) - X])) p1 = some (.lst (vI [(X : Int), (Y : Int), (Y : Int) - X])) := upd_same
      replace S := S.trans s
      replace ea := s _ _ ea
      show (fun σ2 H2 => _) _ (upd H12 p1 (.lst (vI [(X : Int), (Y : Int), (Y : Int) - X])))
      generalize upd H12 p1 (.lst (vI [(X : Int), (Y : Int), (Y : Int) - X])) = H13 at S w1 ea ⊢
      clear s np1
      walk_at "go"
      refine ⟨p1, _, rfl, .inl w1, ?_⟩
      walk_at "go"
      refine ⟨szl (by show 3 ≤ 1000; decide), fun p2 np2 => ?_⟩
      have s := same_new (o := .lst [.int (X : Int), .int ((l.count 100 : Nat) - ((l.count 100 : Nat) - (Y : Int))), .int ((l.count 100 : Nat) - (X : Int) - ((l.count 100 : Nat) - (Y : Int)))]) (Same.refl H13) np2
      have w2 : upd H13 p2 (.lst [.int (X : Int), .int ((l.count 100 : Nat) - ((l.count 100 : Nat) - (Y : Int))), .int ((l.count 100 : Nat) - (X : Int) - ((l.count 100 : Nat) - (Y : Int)))]) p2 = some (.lst (vI [(X : Int), (Y : Int), (Y : Int) - X])) := by
        rw [upd_same, show ((l.count 100 : Nat) - ((l.count 100 : Nat) - (Y : Int))) = (Y : Int) by omega, show ((l.count 100 : Nat) - (X : Int) - ((l.count 100 : Nat) - (Y : Int))) = (Y : Int) - X by omega]
        rfl
      replace S := S.trans s
      replace ea := s _ _ ea
      replace w1 := s _ _ w1
      show rNeD _ _ _ (upd H13 p2 (.lst [.int (X : Int), .int ((l.count 100 : Nat) - ((l.count 100 : Nat) - (Y : Int))), .int ((l.count 100 : Nat) - (X : Int) - ((l.count 100 : Nat) - (Y : Int)))])) _
      generalize upd H13 p2 (.lst [.int (X : Int), .int ((l.count 100 : Nat) - ((l.count 100 : Nat) - (Y : Int))), .int ((l.count 100 : Nat) - (X : Int) - ((l.count 100 : Nat) - (Y : Int)))]) = H14 at S w1 w2 ea ⊢
      clear s np2
      refine neD_same (d := .list ([(X : Int), (Y : Int), (Y : Int) - X].map .int)) (.lst (SqL.of w1) (dpa_ints _)) (.lst (SqL.of w2) (dpa_ints _)) (ok_ints _).1 ?_
      clear w1 w2
      walk_at "go"
      refine ite2 (fun e => ?_) (fun e => ?_)
      · exfalso
        have e2 : ¬ (X : Int) - ((l.count 100 : Nat) - (Y : Int)) = (i : Int) - (l.count 100 : Nat) := by simpa using e
        omega
      clear e
      walk_at "go"
      have skip : ∀ z : Int, z = X + 1 → (i + 1 ≤ l.length → l[i]? ≠ some 100) → (i + 1 ≤ l.length → z = ((l.take (i + 1)).count 111 : Nat) ∧ (l.count 100 : Nat) - (Y : Int) = (l.count 100 : Nat) - ((l.take (i + 1)).count 100 : Nat)) := fun z hz ne h => by
        have gi : l[i]? = some l[i] := List.getElem?_eq_getElem (by omega)
        have ne2 := ne h
        rw [gi] at ne2
        have c : l[i] = 111 := by
          rcases g.ltr _ (List.mem_of_getElem? gi) with c | c
          · exact absurd (congrArg some c) ne2
          · exact c
        rw [List.take_add_one, gi, List.count_append, List.count_append, hX, hY, c]
        simp
        omega
      refine ite2 (fun e => ?_) (fun e => ?_)
      · have hi3 : i < l.length := by
          have := of_decide_eq_true e
          omega
        have gi : l[i]? = some l[i] := List.getElem?_eq_getElem hi3
        walk_at "go"
        refine ⟨l, _, _, rfl, rfl, by omega, atI_nat gi, ?_⟩
        walk_at "go"
        refine ite2 (fun e3 => ?_) (fun e3 => ?_)
        · have c : l[i] = 100 := by simpa using sOf_inj.mp (V.str.inj (of_decide_eq_true e3))
          walk_at "go"
          refine ⟨_, _, _, _, rfl, fun h => ?_, S, ea⟩
          rw [List.take_add_one, gi, List.count_append, List.count_append, hX, hY, c]
          simp
          omega
        · have c : ¬ l[i] = 100 := fun z => e3 (by rw [z]; exact decide_eq_true rfl)
          walk_at "go"
          exact ⟨_, _, _, _, rfl, skip _ rfl fun h z => c (by rw [gi] at z; exact Option.some.inj z), S, ea⟩
      · have hi3 : ¬ i < l.length := fun z => e (by simpa using z)
        walk_at "go"
        exact ⟨_, _, _, _, rfl, skip _ rfl fun h => absurd h (by omega), S, ea⟩
    · rintro σ Ha ⟨zx, zy, o6, o7, rfl, hxy, S, ea⟩
      walk_at "go"
      refine ⟨g.ltr, fun bp bs H8 s nbp ebp dbp => ?_⟩
      replace S := S.trans s
      replace ea := s _ _ ea
      walk_at "go"
      refine ⟨a, dx, _, rfl, ea, a, l, n, rfl, ⟨dx, ea⟩, g, ⟨n1, n6⟩, fun h1 xs H9 s nh1 eh1 dh1 => ?_⟩
      replace S := S.trans s
      replace ea := s _ _ ea
      replace ebp := s _ _ ebp
      replace dbp := dpa_mono s _ _ dbp
      walk_at "go"
      refine ⟨_, _, _, _, true, rfl, .ty _, .base (.tup eh1), kit_ty (by decide +kernel), ?_⟩
      clear s nh1 eh1 dh1 xs
      walk_at "go"
      refine ⟨a, dx, _, rfl, ea, a, l, n, rfl, ⟨dx, ea⟩, g, ⟨n1, n6⟩, fun h1 xs H10 s nh1 eh1 dh1 => ?_⟩
      replace S := S.trans s
      replace ea := s _ _ ea
      replace ebp := s _ _ ebp
      replace dbp := dpa_mono s _ _ dbp
      walk_at "go"
      refine ⟨h1, _, rfl, .inr (SqT.of eh1), fun q1 nq1 => ?_⟩
      clear s
      have s := same_new (o := .lst xs) (Same.refl H10) nq1
      have w1 : upd H10 q1 (.lst xs) q1 = some (.lst xs) := upd_same
      replace dh1 := dpa_mono s _ _ dh1
      replace S := S.trans s
      replace ea := s _ _ ea
      replace ebp := s _ _ ebp
      replace dbp := dpa_mono s _ _ dbp
      generalize upd H10 q1 (.lst xs) = H11 at S w1 ea ebp dbp dh1 ⊢
      clear s nq1 eh1 nh1
      walk_at "go"
      refine neD_same (.lst (SqL.of w1) dh1) (.lst (SqL.of ebp) dbp) (g.by n1 n6 _ cr_ok) ?_
      clear w1 dh1 xs
      walk_at "go"
      refine ⟨a, dx, _, rfl, ea, a, l, n, rfl, ⟨dx, ea⟩, g, ⟨n1, n6⟩, fun h1 xs H12 s nh1 eh1 dh1 => ?_⟩
      replace S := S.trans s
      replace ea := s _ _ ea
      replace ebp := s _ _ ebp
      replace dbp := dpa_mono s _ _ dbp
      walk_at "go"
      refine ⟨_, _, _, _, true, rfl, .ty _, .base (.tup eh1), kit_ty (by decide +kernel), ?_⟩
      clear s nh1 eh1 dh1 xs
      walk_at "go"
      refine ⟨a, dx, _, rfl, ea, a, l, n, rfl, ⟨dx, ea⟩, g, ⟨n1, n6⟩, fun h1 xs H13 s nh1 eh1 dh1 => ?_⟩
      replace S := S.trans s
      replace ea := s _ _ ea
      replace ebp := s _ _ ebp
      replace dbp := dpa_mono s _ _ dbp
      walk_at "go"
      refine ⟨h1, _, rfl, .inr (SqT.of eh1), fun q1 nq1 => ?_⟩
      clear s
      have s := same_new (o := .lst xs) (Same.refl H13) nq1
      have w1 : upd H13 q1 (.lst xs) q1 = some (.lst xs) := upd_same
      replace dh1 := dpa_mono s _ _ dh1
      replace S := S.trans s
      replace ea := s _ _ ea
      replace ebp := s _ _ ebp
      replace dbp := dpa_mono s _ _ dbp
      generalize upd H13 q1 (.lst xs) = H14 at S w1 ea ebp dbp dh1 ⊢
      clear s nq1 eh1 nh1
      walk_at "go"
      refine ⟨bp, bs, l, n, rfl, ebp, dbp, g, ⟨n1, n6⟩, fun rp rs H15 s nrp erp drp => ?_⟩
      replace S := S.trans s
      replace ea := s _ _ ea
      replace w1 := s _ _ w1
      replace dh1 := dpa_mono s _ _ dh1
      refine neD_same (.lst (SqL.of w1) dh1) (.lst (SqL.of erp) drp) (g.by n1 n6 _ rs_ok) ?_
      clear w1 dh1 xs s erp drp nrp
      walk_at "go"
      refine ⟨a, dx, _, rfl, ea, a, l, n, rfl, ⟨dx, ea⟩, g, ⟨n1, n6⟩, fun H16 s => ?_⟩
      replace S := S.trans s
      replace ea := s _ _ ea
      walk_at "go"
      refine ⟨a, dx, _, rfl, ea, a, l, n, rfl, ⟨dx, ea⟩, g, ⟨n1, n6⟩, fun H17 s => ?_⟩
      replace S := S.trans s
      replace ea := s _ _ ea
      walk_at "go"
      refine ⟨szl (by show 2 ≤ 1000; decide), fun p1 np1 => ?_⟩
      have c1 : Txt.count (sOf l) (sOf [100, 111]) = ((hols l wHollow).length : Nat) := of_decide_eq_true (g.by n1 n6 _ cnt_do)
      have c2 : Txt.count (sOf l) (sOf [111, 100]) = ((hols l wRidge).length : Nat) := of_decide_eq_true (g.by n1 n6 _ cnt_od)
      have c3 : (hols l wHollow).length = (hols l wRidge).length + 1 := of_decide_eq_true (g.by n1 n6 _ hol_one)
      dsimp only
      generalize (hols l wHollow).length = A at c1 c3 ⊢
      generalize (hols l wRidge).length = B at c2 c3 ⊢
      have w1 : upd H17 p1 (.lst [.int (A : Nat), .int (B : Nat)]) p1 = some (.lst (vI [(A : Int), (B : Int)])) := upd_same
      have s := same_new (o := .lst [.int (A : Nat), .int (B : Nat)]) (Same.refl H17) np1
      replace S := S.trans s
      generalize upd H17 p1 (.lst [.int (A : Nat), .int (B : Nat)]) = H18 at S w1 ⊢
      clear s np1
      walk_at "go"
      refine ⟨p1, _, rfl, .inl w1, ?_⟩
      walk_at "go"
      rw [c1, c2]
      refine ⟨szl (by show 2 ≤ 1000; decide), fun p2 np2 => ?_⟩
      have w2 : upd H18 p2 (.lst [.int (A : Nat), .int (B : Nat)]) p2 = some (.lst (vI [(A : Int), (B : Int)])) := upd_same
      have s := same_new (o := .lst [.int (A : Nat), .int (B : Nat)]) (Same.refl H18) np2
      replace S := S.trans s
      replace w1 := s _ _ w1
      generalize upd H18 p2 (.lst [.int (A : Nat), .int (B : Nat)]) = H19 at S w1 w2 ⊢
      clear s np2
      refine eqD_same (d := .list ([(A : Int), (B : Int)].map .int)) (.lst (SqL.of w1) (dpa_ints _)) (.lst (SqL.of w2) (dpa_ints _)) (ok_ints _).1 ?_
      walk_at "go"
      refine ⟨rfl, ?_⟩
      rw [decide_eq_true (show V.int (A : Nat) = V.int ((B : Nat) + 1) by rw [c3]; rfl)]
      exact q _ S
end

/-! ### the law -/
theorem hts_mir : allWords.all (fun l => decide (htsI (mir l) (mir l).length = (htsI l l.length).reverse)) = true := by decide +kernel
theorem mir_mir : allWords.all (fun l => decide (mir (mir l) = l)) = true := by decide +kernel
theorem one_plus {d : Int} (h0 : 0 ≤ d) (h6 : d < 6) : ∃ n : Nat, 1 + d = n ∧ 1 ≤ n ∧ n ≤ 6 := ⟨(1 + d).toNat, by omega, by omega, by omega⟩
theorem HandOk.some {H : Hp} {a : Addr} (h : HandOk H a) : ∃ o, H a = Option.some o := let ⟨_, _, _, _, _, e, _⟩ := h; ⟨_, e⟩
theorem HandOk.same {H H' : Hp} {a : Addr} (h : HandOk H a) (s : Same H H') : HandOk H' a := let ⟨l, cs, p, q, r, e, e2, z⟩ := h; ⟨l, cs, p, q, r, s _ _ e, s _ _ e2, z⟩
theorem hand_poke {H : Hp} {p r : Addr} {zs : List Int} (h : HandOk H p) (er : H r = some (.lst (vI zs))) (rp : r ≠ p) : HandOk (upd H r (.lst ((vI zs).set 0 (.int 5)))) p := by
  obtain ⟨l, cells, pos, pend, tot, e, e2, hp, hl, hc, hz⟩ := h
  by_cases z : l = r
  · subst z
    have ez : cells.map V.int = vI zs := by
      rw [er] at e2
      exact (HO.lst.inj (Option.some.inj e2)).symm
    refine ⟨l, cells.set 0 5, pos, pend, tot, (upd_ne (Ne.symm rp)).trans e, ?_, hp, by rw [List.length_set]; exact hl, fun c hc2 => ?_, hz⟩
    · rw [upd_same, ← ez, List.map_set]
    · rcases List.mem_or_eq_of_mem_set hc2 with h | h
      · exact hc c h
      · omega
  · exact ⟨l, cells, pos, pend, tot, (upd_ne (Ne.symm rp)).trans e, (upd_ne z).trans e2, hp, hl, hc, hz⟩
section
variable {P : Program} {w : World} {K : PySem.W.Frag} {mg : Str → Option Value} {base : Heap} {AD : Ads}
def spLaw (K : PySem.W.Frag) : Sp := fun vs H Q _ => ∃ (a : Addr) (ns : List Int), vs = [.ref a] ∧ SqL K H a (ns.map V.int) ∧ ns.length ≤ 63 ∧ ∀ H', Q (.bl true) H'
theorem join_other {c : Bool} {σ : L2.St} {H : Hp} {p : Addr} {l : List Nat} {n : Nat} {k : VK} (e1 : σ[1]? = some (some (.ref p))) (e2 : σ[2]? = some (some (.str (sOf l)))) (g : Good l n) (hn : 1 ≤ n ∧ n ≤ 6) (hd : HandOk H p)
    (kk : ∀ m n' H', Good m n' → (1 ≤ n' ∧ n' ≤ 6) → But p H H' → HandOk H' p → k (.str (sOf m)) H') :
    if c = true then tCall spNear [] E0 (tCons (tVar 1) (tCons (tVar 2) tNil)) σ H k else tCall spWord [] E0 (tCons (tVar 1) (tCons (tOp (rI0 fun i j => V.int (i + j)) (tC (V.int 1)) (tCall spDraw [] E0 (tCons (tVar 1) (tCons (tC (V.int 6)) tNil)))) tNil)) σ H k := by
  refine ite2 (fun e => ?_) (fun e => ?_)
  · refine ⟨_, e1, _, e2, ?_⟩
    exact ⟨p, l, n, rfl, hd, g, hn, fun m H' g' b h' => kk m n H' g' hn b h'⟩
  · refine ⟨_, e1, ?_⟩
    refine ⟨_, e1, ?_⟩
    refine ⟨_, _, rfl, hd, cdivw (by decide) (by decide), fun d2 H4 d20 d21 b3 hd3 => ?_⟩
    obtain ⟨n2, e2, n21, n26⟩ := one_plus d20 d21
    refine ⟨_, _, rfl, rfl, ?_⟩
    refine ⟨p, n2, congrArg (fun z => [V.ref p, V.int z]) e2, ⟨n21, n26⟩, hd3, fun l2 H5 g2 b4 hd4 => kk l2 n2 H5 g2 ⟨n21, n26⟩ (b3.trans b4) hd4⟩
theorem ty_same {K : PySem.W.Frag} {H H' : Hp} {v : V} {t : Value} (h : TyX K H v t) (s : Same H H') : TyX K H' v t := by
  cases h with
  | base b =>
    cases b with
    | non => exact .base .non
    | bl x => exact .base (.bl x)
    | int i => exact .base (.int i)
    | str x => exact .base (.str x)
    | flt x => exact .base (.flt x)
    | lst e => exact .base (.lst (s _ _ e))
    | frz e => exact .base (.frz (s _ _ e))
    | tup e => exact .base (.tup (s _ _ e))
    | dK e => exact .base (.dK (s _ _ e))
    | dT e => exact .base (.dT (s _ _ e))
    | ins e a b c d f => exact .base (.ins (s _ _ e) a b c d f)
  | byt b => exact .byt b
  | set e => exact .set (s _ _ e)
  | kList e c => exact .kList e c
  | kTuple e c => exact .kTuple e c
  | kDict e c => exact .kDict e c
  | fTuple e => exact .fTuple (s _ _ e)
  | fDict e => exact .fDict (s _ _ e)
/-- a thing that is no boundary, as the law draws it -/
structure Far (K : PySem.W.Frag) (H : Hp) (v : V) (dd : PyData) (t : Value) (b : Bool) (n : Nat) : Prop where
  dp : Dp K H v dd
  ok : okD 3 dd = true
  ty : TyX K H v t
  bo : PySem.W.kitOne K t (.type "bool") = some b
  no : NoBoundary K H v n
theorem Far.same {K : PySem.W.Frag} {H H' : Hp} {v : V} {dd : PyData} {t : Value} {b : Bool} {n : Nat} (f : Far K H v dd t b n) (s : Same H H') : Far K H' v dd t b n := by
  refine ⟨dp_mono s _ _ f.dp, f.ok, ty_same f.ty s, f.bo, ?_⟩
  rcases f.no with h | ⟨t, ht, h⟩
  · exact .inl h
  · exact .inr ⟨t, ty_same ht s, h⟩
theorem far9 {K : PySem.W.Frag} {H : Hp} {t0 : Addr} {n : Nat} (w : H t0 = some (.tup [.int 1])) (hn : 0 < n) (hn2 : n ≤ 12) {d : Int} (h0 : 0 ≤ d) (h9 : d < 9) :
    ∃ v dd t b, atI [V.int (-1), V.int ((n : Nat) + 1), .non, .bl true, .str (sOf [49]), V.int (-(n : Nat)), .int (10 ^ (9 : Int).toNat), .bl false, .ref t0] d = some v ∧ Far K H v dd t b n := by
  have ity : ∀ i : Int, ¬ (0 ≤ i ∧ i ≤ n) → Far K H (.int i) (.int i) (.type "int") false n := fun i h => ⟨.int i, rfl, .base (.int i), kit_ty (by decide +kernel), .inl ⟨i, rfl, h⟩⟩
  have bty : ∀ b : Bool, Far K H (.bl b) (.bool b) (.type "bool") true n := fun b => ⟨.bl b, rfl, .base (.bl b), kit_ty (by decide +kernel), .inr ⟨_, .base (.bl b), .inr ⟨kit_ty (by decide +kernel), kit_ty (by decide +kernel)⟩⟩⟩
  have : d = 0 ∨ d = 1 ∨ d = 2 ∨ d = 3 ∨ d = 4 ∨ d = 5 ∨ d = 6 ∨ d = 7 ∨ d = 8 := by omega
  rcases this with rfl | rfl | rfl | rfl | rfl | rfl | rfl | rfl | rfl
  · exact ⟨_, _, _, _, rfl, ity _ (by omega)⟩
  · exact ⟨_, _, _, _, rfl, ity _ (by omega)⟩
  · exact ⟨_, _, _, false, rfl, .non, rfl, .base .non, kit_ty (by decide +kernel), .inr ⟨_, .base .non, .inl (kit_ty (by decide +kernel))⟩⟩
  · exact ⟨_, _, _, _, rfl, bty true⟩
  · exact ⟨_, _, _, false, rfl, .str _, by decide +kernel, .base (.str _), kit_ty (by decide +kernel), .inr ⟨_, .base (.str _), .inl (kit_ty (by decide +kernel))⟩⟩
  · exact ⟨_, _, _, _, rfl, ity _ (by omega)⟩
  · exact ⟨_, _, _, _, rfl, ity _ (by rw [show (10 : Int) ^ (9 : Int).toNat = 1000000000 from rfl]; omega)⟩
  · exact ⟨_, _, _, _, rfl, bty false⟩
  · exact ⟨_, .tuple [.int 1], _, false, rfl, .tup (SqT.of w) (.cons (.int 1) .nil), rfl, .base (.tup w), kit_ty (by decide +kernel), .inr ⟨_, .base (.tup w), .inl (kit_ty (by decide +kernel))⟩⟩
theorem join_rows {c : Bool} {σ : L2.St} {H : Hp} {r : Addr} {xs : List V} {k : VK} (e1 : σ[10]? = some (some (.ref r))) (er : H r = some (.lst xs)) (kk : ∀ r' H', Same H H' → Seq2 K H' r' xs → k (.ref r') H') :
    if c = true then tVar 10 σ H k else tCB (fun xs H_1 Q => ∃ p ys, xs = [V.ref p] ∧ ((SqL K H_1 p ys ∧ ∀ (l : Addr), H_1 l = none → Q (V.ref l) (upd H_1 l (HO.tup ys))) ∨ SqT K H_1 p ys ∧ Q (V.ref p) H_1)) (tCons (tVar 10) tNil) σ H k := by
  refine ite2 (fun e => ?_) (fun e => ?_)
  · exact ⟨_, e1, kk r H (Same.refl H) (.inl er)⟩
  · exact ⟨_, e1, r, xs, rfl, .inl ⟨SqL.of er, fun q nq => kk q _ (same_new (Same.refl H) nq) (.inr upd_same)⟩⟩
theorem ok_law (T : Top K mg AD) : FnOk P w K mg base CX0 8 AD.f_law AD.d_law P_law (spLaw K) := by
  refine T.D_law.F.ok sc_law (fun vs H Q E h => ?_) (fun cdv A outer s H vs Q E hr h => ?_)
  · obtain ⟨a, ns, rfl, _⟩ := h
    rfl
  · obtain ⟨a, ns, rfl, hq, hl, q⟩ := h
    have cl := T.cl_Column
    have nw := T.n_Column_word
    have nz := T.n_Column_size
    refine ⟨_, (pss_cons (ps_set (i := 1) sc_law.nd rfl (Or.inl rfl) (callD T.D_l_hand (ok_l_hand T) hr (pa_cons (pv 0) pa_nil)))
    (pss_cons (ps_set (i := 2) sc_law.nd rfl (Or.inl rfl) (callD T.D_l_word (ok_l_word T) hr (pa_cons (pv 1) (pa_cons (pe_op op_add pe_int (callD T.D_l_draw (ok_l_draw T) hr (pa_cons (pv 1) (pa_cons pe_int pa_nil)))) pa_nil))))
    (pss_cons (ps_set (i := 3) sc_law.nd rfl (Or.inl rfl) (pe_ifExp (pt_cmpR op_eq (callD T.D_l_draw (ok_l_draw T) hr (pa_cons (pv 1) (pa_cons pe_int pa_nil))) pe_int (nomark _)) (callD T.D_l_near (ok_l_near T) hr (pa_cons (pv 1) (pa_cons (pv 2) pa_nil))) (callD T.D_l_word (ok_l_word T) hr (pa_cons (pv 1) (pa_cons (pe_op op_add pe_int (callD T.D_l_draw (ok_l_draw T) hr (pa_cons (pv 1) (pa_cons pe_int pa_nil)))) pa_nil)))))
    (pss_cons (ps_par (i := 4) (j := 5) (by rfl) sc_law.nd rfl rfl (by decide) rfl rfl (pa_cons (pe_makeS (E := fun _ => E0) T.mk_Column (ok_Column___init__ T) (hr.mono (by decide)) (by rfl) T.g_Column T.D_Column___init__.b (fun σ => passAt takes0 σ) (pa_cons (pv 2) pa_nil)) (pa_cons (pe_makeS (E := fun _ => E0) T.mk_Column (ok_Column___init__ T) (hr.mono (by decide)) (by rfl) T.g_Column T.D_Column___init__.b (fun σ => passAt takes0 σ) (pa_cons (pv 3) pa_nil)) pa_nil)) (by rfl))
    (pss_cons (ps_if (PW.pt (pw_or (pt_not (pt_val (callD T.D_l_right (ok_l_right T) hr (pa_cons (pv 4) (pa_cons (pv 2) pa_nil))))) (pw_or (pt_not (pt_val (callD T.D_l_right (ok_l_right T) hr (pa_cons (pv 5) (pa_cons (pv 3) pa_nil))))) (pw_or1 (pt_not (pt_val (callD T.D_l_right (ok_l_right T) hr (pa_cons (pv 4) (pa_cons (pv 2) pa_nil)))))))))
    (pss_one (ps_ret pe_bl))
    pss_nil)
    (pss_cons (ps_for PassesOwn.never rfl (pi_list (pe_lst (pa_cons (pe_tup (pa_cons (pv 4) (pa_cons (pv 2) pa_nil))) (pa_cons (pe_tup (pa_cons (pv 5) (pa_cons (pv 3) pa_nil))) pa_nil)))) (pg_tup (by rfl) (pgs_cons (pg_name (i := 6) sc_law.nd rfl (Or.inl rfl)) (pgs_cons (pg_name (i := 7) sc_law.nd rfl (Or.inl rfl)) pgs_nil)))
    (pss_cons (ps_set (i := 8) sc_law.nd rfl (Or.inl rfl) (pe_join (pe_s (x := Str.ofString "") [] (by decide +kernel)) (pe_lc (own := [("_law_letter", 17)]) (g := (gName 17)) (tt := tYes) rfl sc_law.nd (pi_str (pe_revS (pv 7))) (blkOk_by (N := N_law) (sc := defScope s_law) (by decide +kernel)) (fun _ _ _ _ _ => (pg_name (i := 17) sc_law.nd rfl (by first | exact Or.inl rfl | exact Or.inr rfl))) (fun _ _ _ _ _ => pts_nil) (fun _ _ _ _ _ => (pe_ifExp (pt_cmpR op_eq (pv 17) (pe_s (x := Str.ofString "o") [111] (by decide +kernel)) (nomark _)) (pe_s (x := Str.ofString "d") [100] (by decide +kernel)) (pe_s (x := Str.ofString "o") [111] (by decide +kernel)))))))
    (pss_cons (ps_set (i := 9) sc_law.nd rfl (Or.inl rfl) (pe_meth0 (pv 6) T.cl_Column T.m_Column_mirrored (ok_Column_mirrored T) (hr.mono (by decide)) T.D_Column_mirrored.b .nil pass0))
    (pss_cons (ps_if (PW.pt (pw_or (pt_not (pt_val (pe_callB (call_isiK' (K := K) rfl) (by rfl) T.b_isinstance (by decide +kernel) (pa_cons (pv 9) (pa_cons (pe_glob (v := .ref AD.C_Column) rfl T.g_Column rfl) pa_nil))))) (pw_or (pt_not (pt_val (callD T.D_l_right (ok_l_right T) hr (pa_cons (pv 9) (pa_cons (pv 8) pa_nil))))) (pw_or1 (pt_cmpR op_ne (pe_fld (pv 9) rfl) (pv 8) (nomark _))))))
    (pss_one (ps_ret pe_bl))
    pss_nil)
    (pss_cons (ps_if (PW.pt (pw_or (pt_cmpR (op_neOwn T.o_Column___eq__ T.ne_Column T.sub_Column (ok_Column___eq__ T) T.D_Column___eq__.b pass0 (hr.mono (by decide))) (pe_meth0 (pv 9) T.cl_Column T.m_Column_mirrored (ok_Column_mirrored T) (hr.mono (by decide)) T.D_Column_mirrored.b .nil pass0) (pv 6) (nomark _)) (pw_or (pt_cmpR op_ne (pe_fld (pv 6) rfl) (pv 7) (nomark _)) (pw_or1 (pt_cmpR (op_neD hr.units) (pe_callTy (call_listQ (K := K) rfl) (by rfl) T.b_list (by decide +kernel) (pa_cons (pe_prop (pv 9) T.cl_Column T.p_Column_heights (ok_Column_heights T) (hr.mono (by decide)) T.D_Column_heights.b .nil pass0 (by rfl)) pa_nil)) (pe_revL (callD T.D_l_heights (ok_l_heights T) hr (pa_cons (pv 7) pa_nil))) (nomark _))))))
    (pss_one (ps_ret pe_bl))
    pss_nil)
    (pss_cons (ps_set (i := 10) sc_law.nd rfl (Or.inl rfl) (callD T.D_l_heights (ok_l_heights T) hr (pa_cons (pv 7) pa_nil)))
    (pss_cons (ps_set (i := 11) sc_law.nd rfl (Or.inl rfl) (pe_callTy (call_listQ (K := K) rfl) (by rfl) T.b_list (by decide +kernel) (pa_cons (pv 10) pa_nil)))
    (pss_cons (ps_set (i := 12) sc_law.nd rfl (Or.inl rfl) (pe_statS (E := fun _ => E0) (pe_glob (v := .ref AD.C_Column) rfl T.g_Column rfl) T.cr_Column T.st_Column_of_heights (ok_Column_of_heights (K := K) T) (hr.mono (by decide)) T.D_Column_of_heights.b (fun σ => passAt takes0 σ) (pa_cons (pe_ifExp (pt_cmpR op_eq (callD T.D_l_draw (ok_l_draw T) hr (pa_cons (pv 1) (pa_cons pe_int pa_nil))) pe_int (nomark _)) (pv 10) (pe_callTy call_tuple_of (by rfl) T.b_tuple (by decide +kernel) (pa_cons (pv 10) pa_nil))) pa_nil)))
    (pss_cons (ps_if (PW.pt (pw_or (pt_not (pt_val (pe_callB (call_isiK' (K := K) rfl) (by rfl) T.b_isinstance (by decide +kernel) (pa_cons (pv 12) (pa_cons (pe_glob (v := .ref AD.C_Column) rfl T.g_Column rfl) pa_nil))))) (pw_or (pt_cmpR op_ne (pe_fld (pv 12) rfl) (pv 7) (nomark _)) (pw_or (pt_cmpR (op_neOwn T.o_Column___eq__ T.ne_Column T.sub_Column (ok_Column___eq__ T) T.D_Column___eq__.b pass0 (hr.mono (by decide))) (pv 12) (pv 6) (nomark _)) (pw_or1 (pt_cmpR (op_neD hr.units) (pv 10) (pv 11) (nomark _)))))))
    (pss_one (ps_ret pe_bl))
    pss_nil)
    (pss_cons (ps_asg pe_int (pg_sub (pv 10) pe_int set_list))
    (pss_cons (ps_if (pt_not (pt_val (callD T.D_l_right (ok_l_right T) hr (pa_cons (pv 12) (pa_cons (pv 7) pa_nil)))))
    (pss_one (ps_ret pe_bl))
    pss_nil)
    (pss_cons (ps_set (i := 13) sc_law.nd rfl (Or.inl rfl) (pe_ix (ix_listK (K := K) rfl) (pe_lst (pa_cons (pe_un un_neg pe_int) (pa_cons (pe_op op_add (pe_callB call_lenS (by rfl) T.b_len (by decide +kernel) (pa_cons (pv 7) pa_nil)) pe_int) (pa_cons pe_non (pa_cons pe_bl (pa_cons (pe_s (x := Str.ofString "1") [49] (by decide +kernel)) (pa_cons (pe_un un_neg (pe_callB call_lenS (by rfl) T.b_len (by decide +kernel) (pa_cons (pv 7) pa_nil))) (pa_cons (pe_op op_pow pe_int pe_int) (pa_cons pe_bl (pa_cons (pe_tup (pa_cons pe_int pa_nil)) pa_nil)))))))))) (callD T.D_l_draw (ok_l_draw T) hr (pa_cons (pv 1) (pa_cons pe_int pa_nil))) (fun _ _ => rfl)))
    (pss_cons (ps_set (i := 14) sc_law.nd rfl (Or.inl rfl) (callD T.D_l_draw (ok_l_draw T) hr (pa_cons (pv 1) (pa_cons pe_int pa_nil))))
    (pss_cons (ps_set (i := 15) sc_law.nd rfl (Or.inl rfl) (callD T.D_l_refused (ok_l_refused T) hr (pa_cons (pv 6) (pa_cons (pv 13) (pa_cons (pv 14) pa_nil)))))
    (pss_cons (ps_if (PW.pt (pw_or (pt_cmpR (op_neD hr.units) (pv 15) (pe_tup (pa_cons (pe_s (x := Str.ofString "refused") [114, 101, 102, 117, 115, 101, 100] (by decide +kernel)) (pa_cons (pv 13) pa_nil))) (nomark _)) (pw_or1 (pt_cmpR op_ne (pe_callB (call_isiK' (K := K) rfl) (by rfl) T.b_isinstance (by decide +kernel) (pa_cons (pe_ix (ix_tupK (K := K) rfl) (pv 15) pe_int (fun _ _ => rfl)) (pa_cons (pe_bltn (v := .ty "bool") (u := .type "bool") (by rfl) T.b_bool (by decide +kernel) rfl) pa_nil))) (pe_callB (call_isiK' (K := K) rfl) (by rfl) T.b_isinstance (by decide +kernel) (pa_cons (pv 13) (pa_cons (pe_bltn (v := .ty "bool") (u := .type "bool") (by rfl) T.b_bool (by decide +kernel) rfl) pa_nil))) (nomark _)))))
    (pss_one (ps_ret pe_bl))
    pss_nil)
    (pss_cons (ps_set (i := 16) sc_law.nd rfl (Or.inl rfl) (callD T.D_l_draw (ok_l_draw T) hr (pa_cons (pv 1) (pa_cons (pe_op op_add (pe_callB call_lenS (by rfl) T.b_len (by decide +kernel) (pa_cons (pv 7) pa_nil)) pe_int) pa_nil))))
    (pss_one (ps_if (pt_cmpR op_ne (pe_ix (ix_tupK (K := K) rfl) (callD T.D_l_refused (ok_l_refused T) hr (pa_cons (pv 6) (pa_cons (pv 16) (pa_cons (pv 14) pa_nil)))) pe_int (fun _ _ => rfl)) (pe_s (x := Str.ofString "told") [116, 111, 108, 100] (by decide +kernel)) (nomark _))
    (pss_one (ps_ret pe_bl))
    pss_nil))))))))))))))))))
    (pss_one (ps_ret pe_bl)))))))), ?_⟩
    walk_at "go"
    refine ⟨a, ns, rfl, hq, hl, fun p H1 s1 np hp => ?_⟩
    walk_at "go"
    refine ⟨_, _, rfl, hp, cdivw (by decide) (by decide), fun d1 H2 d10 d11 b1 hd1 => ?_⟩
    obtain ⟨n1, e1, n11, n16⟩ := one_plus d10 d11
    walk_at "go"
    refine ⟨p, n1, congrArg (fun z => [V.ref p, V.int z]) e1, ⟨n11, n16⟩, hd1, fun l1 H3 g1 b2 hd2 => ?_⟩
    walk_at "go"
    refine ⟨_, _, rfl, hd2, cdivw (by decide) (by decide), fun d2 H4 d20 d21 b3 hd3 => ?_⟩
    walk_at "go"
    refine join_other rfl rfl g1 ⟨n11, n16⟩ hd3 fun l2 n2 H5 g2 ⟨n21, n26⟩ b4 hd4 => ?_
    have f1 := good_fault g1 n11 n16
    have f2 := good_fault g2 n21 n26
    have z1 : l1.length ≤ 12 := by have := g1.len; omega
    have z2 : l2.length ≤ 12 := by have := g2.len; omega
    walk_at "go"
    refine fun y1 dy1 ny ndy ne => col_made f1 (by omega) ny ndy ne fun H8 s8 c1 => ?_
    walk_at "go"
    refine fun y2 dy2 ny ndy ne => col_made f2 (by omega) ny ndy ne fun H9 s9 c2 => ?_
    replace c1 := c1.mono (s9 y1)
    have hd := (hd4.same s8).same s9
    clear ny ndy ne hd4 hd3 hd2 hd1 hp
    walk_at "go"
    refine ⟨_, _, rfl, ?_⟩
    walk_at "go"
    refine ⟨y1, l1, n1, rfl, c1, g1, ⟨n11, n16⟩, fun H10 s => ?_⟩
    replace c1 := c1.mono (s y1)
    replace c2 := c2.mono (s y2)
    replace hd := hd.same s
    walk_at "go"
    refine ⟨y2, l2, n2, rfl, c2, g2, ⟨n21, n26⟩, fun H11 s => ?_⟩
    replace c1 := c1.mono (s y1)
    replace c2 := c2.mono (s y2)
    replace hd := hd.same s
    walk_at "go"
    refine ⟨y1, l1, n1, rfl, c1, g1, ⟨n11, n16⟩, fun H12 s => ?_⟩
    replace c1 := c1.mono (s y1)
    replace c2 := c2.mono (s y2)
    replace hd := hd.same s
    walk_at "go"
    refine ⟨szl (by show 2 ≤ 1000; decide), fun t1 nt1 => ?_⟩
    have s := same_new (o := .tup [.ref y1, .str (sOf l1)]) (Same.refl H12) nt1
    have w1 : upd H12 t1 (.tup [.ref y1, .str (sOf l1)]) t1 = some (.tup [.ref y1, .str (sOf l1)]) := upd_same
    replace c1 := c1.mono (s y1)
    replace c2 := c2.mono (s y2)
    replace hd := hd.same s
    generalize upd H12 t1 (.tup [.ref y1, .str (sOf l1)]) = H13 at w1 c1 c2 hd ⊢
    walk_at "go"
    refine ⟨szl (by show 2 ≤ 1000; decide), fun t2 nt2 => ?_⟩
    have s := same_new (o := .tup [.ref y2, .str (sOf l2)]) (Same.refl H13) nt2
    have w2 : upd H13 t2 (.tup [.ref y2, .str (sOf l2)]) t2 = some (.tup [.ref y2, .str (sOf l2)]) := upd_same
    replace w1 := s _ _ w1
    replace c1 := c1.mono (s y1)
    replace c2 := c2.mono (s y2)
    replace hd := hd.same s
    generalize upd H13 t2 (.tup [.ref y2, .str (sOf l2)]) = H14 at w1 w2 c1 c2 hd ⊢
    walk_at "go"
    refine ⟨szl (by show 2 ≤ 1000; decide), fun t3 nt3 => ?_⟩
    have s := same_new (o := .lst [.ref t1, .ref t2]) (Same.refl H14) nt3
    have w3 : upd H14 t3 (.lst [.ref t1, .ref t2]) t3 = some (.lst [.ref t1, .ref t2]) := upd_same
    replace w1 := s _ _ w1
    replace w2 := s _ _ w2
    replace c1 := c1.mono (s y1)
    replace c2 := c2.mono (s y2)
    replace hd := hd.same s
    generalize upd H14 t3 (.lst [.ref t1, .ref t2]) = H15 at w1 w2 w3 c1 c2 hd ⊢
    have pair : ∀ (i : Nat) (x : V), [V.ref t1, V.ref t2][i]? = some x → ∃ t y l n, x = .ref t ∧ H15 t = some (.tup [.ref y, .str (sOf l)]) ∧ ColAt AD.C_Column H15 y l ∧ Good l n ∧ 1 ≤ n ∧ n ≤ 6 := fun i x e => by
      match i, e with
      | 0, e => exact ⟨t1, y1, l1, n1, (Option.some.inj e).symm, w1, c1, g1, n11, n16⟩
      | 1, e => exact ⟨t2, y2, l2, n2, (Option.some.inj e).symm, w2, c2, g2, n21, n26⟩
    have np3 : t3 ≠ p := fun z => by
      obtain ⟨o, e⟩ := (hd : HandOk H15 p).some
      obtain ⟨_, _, _, _, _, e2, _⟩ := hd
      rw [← z, w3] at e2
      cases e2
    clear w1 w2 c1 c2 g1 g2 s nt1 nt2 nt3
    walk_at "go"
    refine ⟨⟨_, SqL.of w3⟩, ?_⟩
    refine for_it (walk_list (xs := [V.ref t1, V.ref t2])) (fun i σ H' => ∃ (o6 o7 o8 o9 o10 o11 o12 o13 o14 o15 o16 : Option V), σ = [some (.ref a), some (.ref p), some (.str (sOf l1)), some (.str (sOf l2)), some (.ref y1), some (.ref y2), o6, o7, o8, o9, o10, o11, o12, o13, o14, o15, o16, none] ∧ But p H15 H' ∧ HandOk H' p)
      ⟨none, none, none, none, none, none, none, none, none, none, none, rfl, But.refl _ _, hd⟩ (fun i σ H' _ h => by obtain ⟨_, _, _, _, _, _, _, _, _, _, _, rfl, b, _⟩ := h; exact SqL.of (b _ _ np3 w3)) ?_ ?_
    · rintro i x σ Ha Hb hi ⟨o6, o7, o8, o9, o10, o11, o12, o13, o14, o15, o16, rfl, B, hd⟩ ⟨rfl, ex⟩
      obtain ⟨t, y, l, n, rfl, et, ⟨dx, ea⟩, g, n1, n6⟩ := pair i x ex
      have ny : y ≠ p := fun z => by
        obtain ⟨_, _, _, _, _, e2, _⟩ := ‹HandOk H15 p›
        rw [← z, ea] at e2
        cases e2
      have nt : t ≠ p := fun z => by
        obtain ⟨_, _, _, _, _, e2, _⟩ := ‹HandOk H15 p›
        rw [← z, et] at e2
        cases e2
      replace ea := B _ _ ny ea
      replace et := B _ _ nt et
      refine ⟨t, _, rfl, SqT.of et, rfl, _, _, rfl, _, _, rfl, rfl, ?_⟩
      have gl := g.len
      walk_at "go"
      intro D hD
      refine lc_it (walk_S (l := l.reverse)) (fun i H' => But D Hb H' ∧ H' D = some (.lst ((((l.reverse).map flipL).take i).map fun c => V.str (sOf [c])))) ⟨But.upd (But.refl _ _), upd_same⟩ (fun _ _ _ _ => trivial) ?_ ?_
      · rintro j x H2 H3 hj ⟨b2, e2⟩ ⟨rfl, c, hc, rfl⟩
        have hcm : (l.reverse.map flipL)[j]? = some (flipL c) := by rw [List.getElem?_map, hc]; rfl
        have hcl : c = 100 ∨ c = 111 := g.ltr c (List.mem_reverse.mp (List.mem_of_getElem? hc))
        have fits : (((l.reverse.map flipL).take j).map fun c => V.str (sOf [c])).length < sizeLine := small1000 (by rw [List.length_map]; have := List.length_take_le' j (l.reverse.map flipL); have := g.len; simp at this ⊢; omega)
        walk_at "go"
        refine ite2 (fun e => ?_) (fun e => ?_)
        · have ec : c = 111 := by simpa using sOf_inj.mp (V.str.inj (of_decide_eq_true e))
          walk_at "go"
          refine ⟨_, e2, fits, But.upd b2, ?_⟩
          rw [upd_same, List.take_add_one, hcm, List.map_append, ec]
          rfl
        · have ec : c = 100 := hcl.resolve_right fun z => e (by rw [z]; exact decide_eq_true rfl)
          walk_at "go"
          refine ⟨_, e2, fits, But.upd b2, ?_⟩
          rw [upd_same, List.take_add_one, hcm, List.map_append, ec]
          rfl
      rintro H2 ⟨b2, e2⟩
      have full : (l.reverse.map flipL).take l.reverse.length = Sl.mir l := by
        rw [List.take_of_length_le (by simp)]
        rfl
      rw [full] at e2
      have s := same_but (Same.refl Hb) hD b2
      have es : ((Sl.mir l).map fun c => V.str (sOf [c])) = ((Sl.mir l).map fun c => sOf [c]).map V.str := by rw [List.map_map]; rfl
      have ml := mir_len l
      replace B := B.trans fun b o _ h => s b o h
      replace hd := hd.same s
      replace ea := s _ _ ea
      walk_at "go"
      refine ⟨_, D, (Sl.mir l).map fun c => sOf [c], rfl, rfl, .inl (SqL.of (by rw [e2, es])), ?_, ?_⟩
      · rw [sum_signs, List.length_map, sOf_len]
        show (Sl.mir l).length + (Sl.mir l).length * 0 ≤ 16777216
        omega
      rw [join_signs]
      clear b2 e2 es s hD full et
      walk_at "go"
      refine ⟨y, dx, _, rfl, ea, rfl, ?_⟩
      walk_at "go"
      refine ⟨y, l, n, rfl, ⟨dx, ea⟩, g, ⟨n1, n6⟩, fun m H3 s nm cm => ?_⟩
      replace B := B.trans fun b o _ h => s b o h
      replace hd := hd.same s
      replace ea := s _ _ ea
      clear s nm
      walk_at "go"
      refine ⟨_, _, _, _, true, rfl, .own _, col_ty T cm, T.ii_Column, ?_⟩
      walk_at "go"
      refine ⟨m, mir l, n, rfl, cm, g.mir, ⟨n1, n6⟩, fun H4 s => ?_⟩
      replace B := B.trans fun b o _ h => s b o h
      replace hd := hd.same s
      replace ea := s _ _ ea
      replace cm := cm.mono (s m)
      clear s
      obtain ⟨dm, em⟩ := cm
      walk_at "go"
      rw [not_same]
      walk_at "go"
      refine ⟨m, dm, _, rfl, em, rfl, ?_⟩
      walk_at "go"
      refine ⟨m, mir l, n, rfl, ⟨dm, em⟩, g.mir, ⟨n1, n6⟩, fun m2 H5 s nm2 cm2 => ?_⟩
      replace B := B.trans fun b o _ h => s b o h
      replace hd := hd.same s
      replace ea := s _ _ ea
      replace em := s _ _ em
      clear s nm2
      rw [of_decide_eq_true (g.by n1 n6 _ mir_mir)] at cm2
      obtain ⟨dm2, em2⟩ := cm2
      walk_at "go"
      refine ⟨m2, dm2, _, rfl, em2, .ins ea, m2, _, l, rfl, ⟨dm2, em2⟩, .inl ⟨y, l, rfl, ⟨dx, ea⟩, _, rfl, ?_⟩⟩
      rw [if_pos rfl, is_same]
      walk_at "go"
      rw [not_same]
      walk_at "go"
      have hl12 : l.length ≤ 12 := by omega
      refine ⟨m, dm, _, rfl, em, m, mir l, rfl, ⟨dm, em⟩, by omega, g.mir.ltr, fun h1 H6 nh1 s eh1 => ?_⟩
      replace B := B.trans fun b o _ h => s b o h
      replace hd := hd.same s
      replace ea := s _ _ ea
      clear s nh1 em2 em
      walk_at "go"
      refine ⟨h1, _, rfl, .inr (SqT.of eh1), fun q1 nq1 => ?_⟩
      have s := same_new (o := .lst (vI (htsI (mir l) (mir l).length))) (Same.refl H6) nq1
      have w1 : upd H6 q1 (.lst (vI (htsI (mir l) (mir l).length))) q1 = some (.lst (vI (htsI (mir l) (mir l).length))) := upd_same
      replace B := B.trans fun b o _ h => s b o h
      replace hd := hd.same s
      replace ea := s _ _ ea
      generalize upd H6 q1 (.lst (vI (htsI (mir l) (mir l).length))) = H7 at B w1 ea hd ⊢
      clear s nq1 eh1
      walk_at "go"
      refine ⟨g.ltr, fun r1 H8 nr1 s er1 => ?_⟩
      replace B := B.trans fun b o _ h => s b o h
      replace hd := hd.same s
      replace ea := s _ _ ea
      replace w1 := s _ _ w1
      clear s nr1
      walk_at "go"
      refine ⟨r1, _, rfl, SqL.of er1, fun r2 nr2 => ?_⟩
      have s := same_new (o := .lst (vI (htsI l l.length)).reverse) (Same.refl H8) nr2
      have w2 : upd H8 r2 (.lst (vI (htsI l l.length)).reverse) r2 = some (.lst (vI (htsI (mir l) (mir l).length))) := by
        rw [upd_same, of_decide_eq_true (g.by n1 n6 _ hts_mir)]
        unfold vI
        rw [List.map_reverse]
      replace B := B.trans fun b o _ h => s b o h
      replace hd := hd.same s
      replace ea := s _ _ ea
      replace w1 := s _ _ w1
      generalize upd H8 r2 (.lst (vI (htsI l l.length)).reverse) = H9 at B w1 w2 ea hd ⊢
      clear s nr2 er1
      refine neD_same (d := .list ((htsI (mir l) (mir l).length).map .int)) (.lst (SqL.of w1) (dpa_ints _)) (.lst (SqL.of w2) (dpa_ints _)) (ok_ints _).1 ?_
      clear w1 w2
      walk_at "go"
      have pn : ∀ r : Addr, H9 r = none → r ≠ p ∧ H15 r = none := fun r nr => by
        have rp : r ≠ p := fun z => by
          obtain ⟨o, e⟩ := hd.some
          rw [← z, nr] at e
          cases e
        refine ⟨rp, ?_⟩
        cases h : H15 r with
        | none => rfl
        | some o => rw [B _ _ rp h] at nr; cases nr
      refine ⟨g.ltr, fun r H10 nr s er => ?_⟩
      obtain ⟨rp, r15⟩ := pn r nr
      clear pn
      replace B := B.trans fun b o _ h => s b o h
      replace hd := hd.same s
      replace ea := s _ _ ea
      clear s nr
      walk_at "go"
      intro kp nk
      have s := same_new (o := .lst (vI (htsI l l.length))) (Same.refl H10) nk
      have ek : upd H10 kp (.lst (vI (htsI l l.length))) kp = some (.lst (vI (htsI l l.length))) := upd_same
      have kp_p : kp ≠ p := fun z => by
        obtain ⟨o, e⟩ := hd.some
        rw [← z, nk] at e
        cases e
      replace B := B.trans fun b o _ h => s b o h
      replace hd := hd.same s
      replace ea := s _ _ ea
      replace er := s _ _ er
      generalize upd H10 kp (.lst (vI (htsI l l.length))) = H11 at B er ek ea hd ⊢
      clear s nk
      walk_at "go"
      refine ⟨_, _, rfl, hd, cdivw (by decide) (by decide), fun d3 H12 d30 d31 b3 hd3 => ?_⟩
      replace B := B.trans b3
      replace hd := hd3
      replace ea := b3 _ _ ny ea
      replace er := b3 _ _ rp er
      replace ek := b3 _ _ kp_p ek
      clear b3 hd3 d30 d31
      walk_at "go"
      refine join_rows rfl er fun r' H13 s sq => ?_
      replace B := B.trans fun b o _ h => s b o h
      replace hd := hd.same s
      replace ea := s _ _ ea
      replace er := s _ _ er
      replace ek := s _ _ ek
      clear s
      walk_at "go"
      refine ⟨r', l, n, rfl, sq, g, ⟨n1, n6⟩, fun bk H14 s nb cb => ?_⟩
      replace B := B.trans fun b o _ h => s b o h
      replace hd := hd.same s
      replace ea := s _ _ ea
      replace er := s _ _ er
      replace ek := s _ _ ek
      clear s nb sq
      walk_at "go"
      refine ⟨_, _, _, _, true, rfl, .own _, col_ty T cb, T.ii_Column, ?_⟩
      obtain ⟨db, eb⟩ := cb
      walk_at "go"
      rw [not_same]
      walk_at "go"
      refine ⟨bk, db, _, rfl, eb, .ins ea, bk, _, l, rfl, ⟨db, eb⟩, .inl ⟨y, l, rfl, ⟨dx, ea⟩, _, rfl, ?_⟩⟩
      rw [if_pos rfl, is_same]
      walk_at "go"
      refine neD_same (d := .list ((htsI l l.length).map .int)) (.lst (SqL.of er) (dpa_ints _)) (.lst (SqL.of ek) (dpa_ints _)) (ok_ints _).1 ?_
      clear ek kp_p
      walk_at "go"
      refine ⟨r, _, _, 0, rfl, rfl, er, by rw [vI_len]; simp [ixN], ?_⟩
      have yr : y ≠ r := fun z => by rw [z, er] at ea; cases ea
      have br : bk ≠ r := fun z => by rw [z, er] at eb; cases eb
      replace B : But p H15 (upd H14 r (.lst ((vI (htsI l l.length)).set 0 (.int 5)))) := fun b o nb h => by
        rw [upd_ne (fun z => by rw [z, r15] at h; cases h)]
        exact B b o nb h
      replace hd := hand_poke hd er rp
      replace ea := (upd_ne (o := .lst ((vI (htsI l l.length)).set 0 (.int 5))) yr).trans ea
      replace eb := (upd_ne (o := .lst ((vI (htsI l l.length)).set 0 (.int 5))) br).trans eb
      generalize upd H14 r (.lst ((vI (htsI l l.length)).set 0 (.int 5))) = H16 at B hd ea eb ⊢
      clear yr br er rp r15
      walk_at "go"
      refine ⟨bk, l, n, rfl, ⟨db, eb⟩, g, ⟨n1, n6⟩, fun H17 s => ?_⟩
      replace B := B.trans fun b o _ h => s b o h
      replace hd := hd.same s
      replace ea := s _ _ ea
      clear s eb
      walk_at "go"
      refine ⟨szl (by show 1 ≤ 1000; decide), fun t0 nt0 => ?_⟩
      have s := same_new (o := .tup [.int 1]) (Same.refl H17) nt0
      have w0 : upd H17 t0 (.tup [.int 1]) t0 = some (.tup [.int 1]) := upd_same
      replace B := B.trans fun b o _ h => s b o h
      replace hd := hd.same s
      replace ea := s _ _ ea
      generalize upd H17 t0 (.tup [.int 1]) = H18 at B hd ea w0 ⊢
      clear s nt0
      walk_at "go"
      refine ⟨szl (by show 9 ≤ 1000; decide), fun fl nfl => ?_⟩
      have s := same_new (o := .lst [V.int (-1), V.int ((l.length : Nat) + 1), .non, .bl true, .str (sOf [49]), V.int (-(l.length : Nat)), .int (10 ^ (9 : Int).toNat), .bl false, .ref t0]) (Same.refl H18) nfl
      have wf : upd H18 fl (.lst [V.int (-1), V.int ((l.length : Nat) + 1), .non, .bl true, .str (sOf [49]), V.int (-(l.length : Nat)), .int (10 ^ (9 : Int).toNat), .bl false, .ref t0]) fl = some (.lst [V.int (-1), V.int ((l.length : Nat) + 1), .non, .bl true, .str (sOf [49]), V.int (-(l.length : Nat)), .int (10 ^ (9 : Int).toNat), .bl false, .ref t0]) := upd_same
      have fp : fl ≠ p := fun z => by
        obtain ⟨o, e⟩ := hd.some
        rw [← z, nfl] at e
        cases e
      have tp : t0 ≠ p := fun z => by
        obtain ⟨_, _, _, _, _, e, _⟩ := hd
        rw [← z, w0] at e
        cases e
      replace B := B.trans fun b o _ h => s b o h
      replace hd := hd.same s
      replace ea := s _ _ ea
      replace w0 := s _ _ w0
      show (fun (x : V) (H1 : Hp) => _) (V.ref fl) (upd H18 fl (.lst [V.int (-1), V.int ((l.length : Nat) + 1), .non, .bl true, .str (sOf [49]), V.int (-(l.length : Nat)), .int (10 ^ (9 : Int).toNat), .bl false, .ref t0]))
      generalize upd H18 fl (.lst [V.int (-1), V.int ((l.length : Nat) + 1), .non, .bl true, .str (sOf [49]), V.int (-(l.length : Nat)), .int (10 ^ (9 : Int).toNat), .bl false, .ref t0]) = H19 at B hd ea w0 wf ⊢
      clear s nfl
      walk_at "go"
      refine ⟨_, _, rfl, hd, cdivw (by decide) (by decide), fun d4 H20 d40 d41 b3 hd3 => ?_⟩
      replace B := B.trans b3
      replace hd := hd3
      replace ea := b3 _ _ ny ea
      replace w0 := b3 _ _ tp w0
      replace wf := b3 _ _ fp wf
      clear b3 hd3 fp
      obtain ⟨v, _, _, _, ev, _⟩ := far9 (K := K) (n := l.length) w0 (by omega) (by omega) d40 d41
      walk_at "go"
      refine ⟨fl, _, _, v, rfl, rfl, SqL.of wf, ev, ?_⟩
      clear wf
      walk_at "go"
      refine ⟨_, _, rfl, hd, cdivw (by decide) (by decide), fun d5 H21 d50 d51 b3 hd3 => ?_⟩
      replace B := B.trans b3
      replace hd := hd3
      replace ea := b3 _ _ ny ea
      replace w0 := b3 _ _ tp w0
      clear b3 hd3 tp
      obtain ⟨v2, dd, ty, bo, ev2, far⟩ := far9 (K := K) (n := l.length) w0 (by omega) (by omega) d40 d41
      cases Option.some.inj (ev.symm.trans ev2)
      clear ev ev2 w0
      walk_at "go"
      refine ⟨y, l, v, d5, rfl, ⟨dx, ea⟩, hl12, .inr ⟨far.no, fun u1 H22 s nu1 eu1 => ?_⟩⟩
      replace B := B.trans fun b o _ h => s b o h
      replace hd := hd.same s
      replace ea := s _ _ ea
      replace far := far.same s
      clear s nu1
      walk_at "go"
      refine ⟨szl (by show 2 ≤ 1000; decide), fun u2 nu2 => ?_⟩
      have s := same_new (o := .tup [.str (sOf wRef), v]) (Same.refl H22) nu2
      have eu2 : upd H22 u2 (.tup [.str (sOf wRef), v]) u2 = some (.tup [.str (sOf wRef), v]) := upd_same
      replace B := B.trans fun b o _ h => s b o h
      replace hd := hd.same s
      replace ea := s _ _ ea
      replace far := far.same s
      replace eu1 := s _ _ eu1
      show rNeD _ _ _ (upd H22 u2 (.tup [.str (sOf wRef), v])) _
      generalize upd H22 u2 (.tup [.str (sOf wRef), v]) = H23 at B hd ea far eu1 eu2 ⊢
      clear s nu2
      refine neD_same (d := .tuple [.str (sOf wRef), dd]) (.tup (SqT.of eu1) (.cons (.str _) (.cons far.dp .nil))) (.tup (SqT.of eu2) (.cons (.str _) (.cons far.dp .nil))) (by
        show [PyData.str (sOf wRef), dd].all (okD 3) = true
        rw [List.all_cons, List.all_cons, far.ok]
        decide +kernel) ?_
      clear eu2
      walk_at "go"
      refine ⟨u1, _, _, _, rfl, rfl, SqT.of eu1, rfl, ?_⟩
      walk_at "go"
      refine ⟨_, _, _, _, bo, rfl, .ty _, far.ty, far.bo, ?_⟩
      walk_at "go"
      refine ⟨_, _, _, _, bo, rfl, .ty _, far.ty, far.bo, ?_⟩
      walk_at "go"
      rw [not_same]
      clear eu1 far
      walk_at "go"
      refine ⟨_, _, rfl, hd, cdivw (by omega) (by omega), fun d6 H24 d60 d61 b3 hd3 => ?_⟩
      replace B := B.trans b3
      replace hd := hd3
      replace ea := b3 _ _ ny ea
      clear b3 hd3
      obtain ⟨k6, rfl⟩ := Int.eq_ofNat_of_zero_le d60
      walk_at "go"
      refine ⟨y, l, _, d5, rfl, ⟨dx, ea⟩, hl12, .inl ⟨k6, rfl, by omega, fun u3 z H25 s eu3 => ?_⟩⟩
      replace B := B.trans fun b o _ h => s b o h
      replace hd := hd.same s
      replace ea := s _ _ ea
      walk_at "go"
      refine ⟨u3, _, _, _, rfl, rfl, SqT.of eu3, rfl, ?_⟩
      walk_at "go"
      rw [show decide (V.str (sOf wTold) = V.str (sOf [116, 111, 108, 100])) = true from decide_eq_true rfl]
      walk_at "go"
      exact ⟨_, _, _, _, _, _, _, _, _, _, _, rfl, B, hd⟩
    · rintro σ Ha ⟨o6, o7, o8, o9, o10, o11, o12, o13, o14, o15, o16, rfl, B, hd⟩
      walk_at "go"
      exact q _
end

theorem all_mk {P : Program} {w : World} {K : PySem.W.Frag} {h : Heap} {mg : Str → Option Value} {fa : Addr} (X : K.In h) (G : h.Ns mainGlobals mg) (hfa : mg "law" = some (.ref fa))
    {C_CardError C_BadColumn C_BadBoundary C_BadHeights C_Column f_is_number f_is_whole f_is_sequence f_word_fault f_heights_fault f_l_mix f_l_hand f_l_draw f_l_word f_l_near f_l_heights f_l_bends f_l_runs f_l_refused f_l_numbers f_l_right f_law f_BadColumn___init__ f_BadBoundary___init__ f_BadHeights___init__ f_Column___init__ f_Column_of_heights p_Column_of_heights f_Column_many f_Column_place f_Column_height f_Column_places p_Column_places f_Column_heights p_Column_heights f_Column_runs p_Column_runs f_Column_creases p_Column_creases f_Column_hollows p_Column_hollows f_Column_ridges p_Column_ridges f_Column_mirrored f_Column___eq__ f_Column___str__ f_Column___len__ f_Column___iter__ : Addr}
    {od_is_number : Option Addr}
    {an_is_number : Option Addr}
    {sl_is_number : Array (Option Value)}
    {oc_is_number kV_is_number dc_is_number pm_is_number cd_is_number ct_is_number : Value}
    {od_is_whole : Option Addr}
    {an_is_whole : Option Addr}
    {sl_is_whole : Array (Option Value)}
    {oc_is_whole kV_is_whole dc_is_whole pm_is_whole cd_is_whole ct_is_whole : Value}
    {od_is_sequence : Option Addr}
    {an_is_sequence : Option Addr}
    {sl_is_sequence : Array (Option Value)}
    {oc_is_sequence kV_is_sequence dc_is_sequence pm_is_sequence cd_is_sequence ct_is_sequence : Value}
    {od_word_fault : Option Addr}
    {an_word_fault : Option Addr}
    {sl_word_fault : Array (Option Value)}
    {oc_word_fault kV_word_fault dc_word_fault pm_word_fault cd_word_fault ct_word_fault : Value}
    {od_heights_fault : Option Addr}
    {an_heights_fault : Option Addr}
    {sl_heights_fault : Array (Option Value)}
    {oc_heights_fault kV_heights_fault dc_heights_fault pm_heights_fault cd_heights_fault ct_heights_fault : Value}
    {od_l_mix : Option Addr}
    {an_l_mix : Option Addr}
    {sl_l_mix : Array (Option Value)}
    {oc_l_mix kV_l_mix dc_l_mix pm_l_mix cd_l_mix ct_l_mix : Value}
    {od_l_hand : Option Addr}
    {an_l_hand : Option Addr}
    {sl_l_hand : Array (Option Value)}
    {oc_l_hand kV_l_hand dc_l_hand pm_l_hand cd_l_hand ct_l_hand : Value}
    {od_l_draw : Option Addr}
    {an_l_draw : Option Addr}
    {sl_l_draw : Array (Option Value)}
    {oc_l_draw kV_l_draw dc_l_draw pm_l_draw cd_l_draw ct_l_draw : Value}
    {od_l_word : Option Addr}
    {an_l_word : Option Addr}
    {sl_l_word : Array (Option Value)}
    {oc_l_word kV_l_word dc_l_word pm_l_word cd_l_word ct_l_word : Value}
    {od_l_near : Option Addr}
    {an_l_near : Option Addr}
    {sl_l_near : Array (Option Value)}
    {oc_l_near kV_l_near dc_l_near pm_l_near cd_l_near ct_l_near : Value}
    {od_l_heights : Option Addr}
    {an_l_heights : Option Addr}
    {sl_l_heights : Array (Option Value)}
    {oc_l_heights kV_l_heights dc_l_heights pm_l_heights cd_l_heights ct_l_heights : Value}
    {od_l_bends : Option Addr}
    {an_l_bends : Option Addr}
    {sl_l_bends : Array (Option Value)}
    {oc_l_bends kV_l_bends dc_l_bends pm_l_bends cd_l_bends ct_l_bends : Value}
    {od_l_runs : Option Addr}
    {an_l_runs : Option Addr}
    {sl_l_runs : Array (Option Value)}
    {oc_l_runs kV_l_runs dc_l_runs pm_l_runs cd_l_runs ct_l_runs : Value}
    {od_l_refused : Option Addr}
    {an_l_refused : Option Addr}
    {sl_l_refused : Array (Option Value)}
    {oc_l_refused kV_l_refused dc_l_refused pm_l_refused cd_l_refused ct_l_refused : Value}
    {od_l_numbers : Option Addr}
    {an_l_numbers : Option Addr}
    {sl_l_numbers : Array (Option Value)}
    {oc_l_numbers kV_l_numbers dc_l_numbers pm_l_numbers cd_l_numbers ct_l_numbers : Value}
    {od_l_right : Option Addr}
    {an_l_right : Option Addr}
    {sl_l_right : Array (Option Value)}
    {oc_l_right kV_l_right dc_l_right pm_l_right cd_l_right ct_l_right : Value}
    {od_law : Option Addr}
    {an_law : Option Addr}
    {sl_law : Array (Option Value)}
    {oc_law kV_law dc_law pm_law cd_law ct_law : Value}
    {od_BadColumn___init__ : Option Addr}
    {an_BadColumn___init__ : Option Addr}
    {sl_BadColumn___init__ : Array (Option Value)}
    {oc_BadColumn___init__ kV_BadColumn___init__ dc_BadColumn___init__ pm_BadColumn___init__ cd_BadColumn___init__ ct_BadColumn___init__ : Value}
    {od_BadBoundary___init__ : Option Addr}
    {an_BadBoundary___init__ : Option Addr}
    {sl_BadBoundary___init__ : Array (Option Value)}
    {oc_BadBoundary___init__ kV_BadBoundary___init__ dc_BadBoundary___init__ pm_BadBoundary___init__ cd_BadBoundary___init__ ct_BadBoundary___init__ : Value}
    {od_BadHeights___init__ : Option Addr}
    {an_BadHeights___init__ : Option Addr}
    {sl_BadHeights___init__ : Array (Option Value)}
    {oc_BadHeights___init__ kV_BadHeights___init__ dc_BadHeights___init__ pm_BadHeights___init__ cd_BadHeights___init__ ct_BadHeights___init__ : Value}
    {od_Column___init__ : Option Addr}
    {an_Column___init__ : Option Addr}
    {sl_Column___init__ : Array (Option Value)}
    {oc_Column___init__ kV_Column___init__ dc_Column___init__ pm_Column___init__ cd_Column___init__ ct_Column___init__ : Value}
    {od_Column_of_heights : Option Addr}
    {an_Column_of_heights : Option Addr}
    {sl_Column_of_heights : Array (Option Value)}
    {oc_Column_of_heights kV_Column_of_heights dc_Column_of_heights pm_Column_of_heights cd_Column_of_heights ct_Column_of_heights : Value}
    {re_Column_of_heights : List Value}
    {od_Column_many : Option Addr}
    {an_Column_many : Option Addr}
    {sl_Column_many : Array (Option Value)}
    {oc_Column_many kV_Column_many dc_Column_many pm_Column_many cd_Column_many ct_Column_many : Value}
    {od_Column_place : Option Addr}
    {an_Column_place : Option Addr}
    {sl_Column_place : Array (Option Value)}
    {oc_Column_place kV_Column_place dc_Column_place pm_Column_place cd_Column_place ct_Column_place : Value}
    {od_Column_height : Option Addr}
    {an_Column_height : Option Addr}
    {sl_Column_height : Array (Option Value)}
    {oc_Column_height kV_Column_height dc_Column_height pm_Column_height cd_Column_height ct_Column_height : Value}
    {od_Column_places : Option Addr}
    {an_Column_places : Option Addr}
    {sl_Column_places : Array (Option Value)}
    {oc_Column_places kV_Column_places dc_Column_places pm_Column_places cd_Column_places ct_Column_places : Value}
    {re_Column_places : List Value}
    {od_Column_heights : Option Addr}
    {an_Column_heights : Option Addr}
    {sl_Column_heights : Array (Option Value)}
    {oc_Column_heights kV_Column_heights dc_Column_heights pm_Column_heights cd_Column_heights ct_Column_heights : Value}
    {re_Column_heights : List Value}
    {od_Column_runs : Option Addr}
    {an_Column_runs : Option Addr}
    {sl_Column_runs : Array (Option Value)}
    {oc_Column_runs kV_Column_runs dc_Column_runs pm_Column_runs cd_Column_runs ct_Column_runs : Value}
    {re_Column_runs : List Value}
    {od_Column_creases : Option Addr}
    {an_Column_creases : Option Addr}
    {sl_Column_creases : Array (Option Value)}
    {oc_Column_creases kV_Column_creases dc_Column_creases pm_Column_creases cd_Column_creases ct_Column_creases : Value}
    {re_Column_creases : List Value}
    {od_Column_hollows : Option Addr}
    {an_Column_hollows : Option Addr}
    {sl_Column_hollows : Array (Option Value)}
    {oc_Column_hollows kV_Column_hollows dc_Column_hollows pm_Column_hollows cd_Column_hollows ct_Column_hollows : Value}
    {re_Column_hollows : List Value}
    {od_Column_ridges : Option Addr}
    {an_Column_ridges : Option Addr}
    {sl_Column_ridges : Array (Option Value)}
    {oc_Column_ridges kV_Column_ridges dc_Column_ridges pm_Column_ridges cd_Column_ridges ct_Column_ridges : Value}
    {re_Column_ridges : List Value}
    {od_Column_mirrored : Option Addr}
    {an_Column_mirrored : Option Addr}
    {sl_Column_mirrored : Array (Option Value)}
    {oc_Column_mirrored kV_Column_mirrored dc_Column_mirrored pm_Column_mirrored cd_Column_mirrored ct_Column_mirrored : Value}
    {od_Column___eq__ : Option Addr}
    {an_Column___eq__ : Option Addr}
    {sl_Column___eq__ : Array (Option Value)}
    {oc_Column___eq__ kV_Column___eq__ dc_Column___eq__ pm_Column___eq__ cd_Column___eq__ ct_Column___eq__ : Value}
    {od_Column___str__ : Option Addr}
    {an_Column___str__ : Option Addr}
    {sl_Column___str__ : Array (Option Value)}
    {oc_Column___str__ kV_Column___str__ dc_Column___str__ pm_Column___str__ cd_Column___str__ ct_Column___str__ : Value}
    {od_Column___len__ : Option Addr}
    {an_Column___len__ : Option Addr}
    {sl_Column___len__ : Array (Option Value)}
    {oc_Column___len__ kV_Column___len__ dc_Column___len__ pm_Column___len__ cd_Column___len__ ct_Column___len__ : Value}
    {od_Column___iter__ : Option Addr}
    {an_Column___iter__ : Option Addr}
    {sl_Column___iter__ : Array (Option Value)}
    {oc_Column___iter__ kV_Column___iter__ dc_Column___iter__ pm_Column___iter__ cd_Column___iter__ ct_Column___iter__ : Value}
    {nm_BadColumn q_BadColumn : Str} {N_BadColumn : Addr} {bs_BadColumn bm_BadColumn sb_BadColumn : List Value} {sn_BadColumn : List Str} {ab_BadColumn : Bool} {co_BadColumn : Option Bool} {dd_BadColumn : Option Addr} {m0_BadColumn m1_BadColumn m2_BadColumn m3_BadColumn m5_BadColumn : Option Value}
    {nm_BadBoundary q_BadBoundary : Str} {N_BadBoundary : Addr} {bs_BadBoundary bm_BadBoundary sb_BadBoundary : List Value} {sn_BadBoundary : List Str} {ab_BadBoundary : Bool} {co_BadBoundary : Option Bool} {dd_BadBoundary : Option Addr} {m0_BadBoundary m1_BadBoundary m2_BadBoundary m3_BadBoundary m5_BadBoundary : Option Value}
    {nm_BadHeights q_BadHeights : Str} {N_BadHeights : Addr} {bs_BadHeights bm_BadHeights sb_BadHeights : List Value} {sn_BadHeights : List Str} {ab_BadHeights : Bool} {co_BadHeights : Option Bool} {dd_BadHeights : Option Addr} {m0_BadHeights m1_BadHeights m2_BadHeights m3_BadHeights m5_BadHeights : Option Value}
    {tk_MOST_SIZE : Tok}
    (ac_CardError : PySem.W.nsIn K mainGlobals "CardError" = some (some (.ref C_CardError)))
    (ac_BadColumn : PySem.W.nsIn K mainGlobals "BadColumn" = some (some (.ref C_BadColumn)))
    (ac_BadBoundary : PySem.W.nsIn K mainGlobals "BadBoundary" = some (some (.ref C_BadBoundary)))
    (ac_BadHeights : PySem.W.nsIn K mainGlobals "BadHeights" = some (some (.ref C_BadHeights)))
    (ac_Column : PySem.W.nsIn K mainGlobals "Column" = some (some (.ref C_Column)))
    (a_is_number : PySem.W.nsIn K mainGlobals "is_number" = some (some (.ref f_is_number)))
    (l_is_number : K.lookup f_is_number = some ⟨oc_is_number, od_is_number, .func (PySem.W.fnOf "is_number" "is_number" (defArgs s_is_number) (defBody s_is_number) (defScope s_is_number) .none kV_is_number dc_is_number pm_is_number an_is_number cd_is_number ct_is_number), sl_is_number⟩)
    (c_is_number : PySem.W.codeIn K cd_is_number "is_number" = true)
    (k_is_number : PySem.W.keepIn K (.ref f_is_number) = true)
    (a_is_whole : PySem.W.nsIn K mainGlobals "is_whole" = some (some (.ref f_is_whole)))
    (l_is_whole : K.lookup f_is_whole = some ⟨oc_is_whole, od_is_whole, .func (PySem.W.fnOf "is_whole" "is_whole" (defArgs s_is_whole) (defBody s_is_whole) (defScope s_is_whole) .none kV_is_whole dc_is_whole pm_is_whole an_is_whole cd_is_whole ct_is_whole), sl_is_whole⟩)
    (c_is_whole : PySem.W.codeIn K cd_is_whole "is_whole" = true)
    (k_is_whole : PySem.W.keepIn K (.ref f_is_whole) = true)
    (a_is_sequence : PySem.W.nsIn K mainGlobals "is_sequence" = some (some (.ref f_is_sequence)))
    (l_is_sequence : K.lookup f_is_sequence = some ⟨oc_is_sequence, od_is_sequence, .func (PySem.W.fnOf "is_sequence" "is_sequence" (defArgs s_is_sequence) (defBody s_is_sequence) (defScope s_is_sequence) .none kV_is_sequence dc_is_sequence pm_is_sequence an_is_sequence cd_is_sequence ct_is_sequence), sl_is_sequence⟩)
    (c_is_sequence : PySem.W.codeIn K cd_is_sequence "is_sequence" = true)
    (k_is_sequence : PySem.W.keepIn K (.ref f_is_sequence) = true)
    (a_word_fault : PySem.W.nsIn K mainGlobals "word_fault" = some (some (.ref f_word_fault)))
    (l_word_fault : K.lookup f_word_fault = some ⟨oc_word_fault, od_word_fault, .func (PySem.W.fnOf "word_fault" "word_fault" (defArgs s_word_fault) (defBody s_word_fault) (defScope s_word_fault) .none kV_word_fault dc_word_fault pm_word_fault an_word_fault cd_word_fault ct_word_fault), sl_word_fault⟩)
    (c_word_fault : PySem.W.codeIn K cd_word_fault "word_fault" = true)
    (k_word_fault : PySem.W.keepIn K (.ref f_word_fault) = true)
    (a_heights_fault : PySem.W.nsIn K mainGlobals "heights_fault" = some (some (.ref f_heights_fault)))
    (l_heights_fault : K.lookup f_heights_fault = some ⟨oc_heights_fault, od_heights_fault, .func (PySem.W.fnOf "heights_fault" "heights_fault" (defArgs s_heights_fault) (defBody s_heights_fault) (defScope s_heights_fault) .none kV_heights_fault dc_heights_fault pm_heights_fault an_heights_fault cd_heights_fault ct_heights_fault), sl_heights_fault⟩)
    (c_heights_fault : PySem.W.codeIn K cd_heights_fault "heights_fault" = true)
    (k_heights_fault : PySem.W.keepIn K (.ref f_heights_fault) = true)
    (a_l_mix : PySem.W.nsIn K mainGlobals "_law_mix" = some (some (.ref f_l_mix)))
    (l_l_mix : K.lookup f_l_mix = some ⟨oc_l_mix, od_l_mix, .func (PySem.W.fnOf "_law_mix" "_law_mix" (defArgs s_l_mix) (defBody s_l_mix) (defScope s_l_mix) .none kV_l_mix dc_l_mix pm_l_mix an_l_mix cd_l_mix ct_l_mix), sl_l_mix⟩)
    (c_l_mix : PySem.W.codeIn K cd_l_mix "_law_mix" = true)
    (k_l_mix : PySem.W.keepIn K (.ref f_l_mix) = true)
    (a_l_hand : PySem.W.nsIn K mainGlobals "_law_hand" = some (some (.ref f_l_hand)))
    (l_l_hand : K.lookup f_l_hand = some ⟨oc_l_hand, od_l_hand, .func (PySem.W.fnOf "_law_hand" "_law_hand" (defArgs s_l_hand) (defBody s_l_hand) (defScope s_l_hand) .none kV_l_hand dc_l_hand pm_l_hand an_l_hand cd_l_hand ct_l_hand), sl_l_hand⟩)
    (c_l_hand : PySem.W.codeIn K cd_l_hand "_law_hand" = true)
    (k_l_hand : PySem.W.keepIn K (.ref f_l_hand) = true)
    (a_l_draw : PySem.W.nsIn K mainGlobals "_law_draw" = some (some (.ref f_l_draw)))
    (l_l_draw : K.lookup f_l_draw = some ⟨oc_l_draw, od_l_draw, .func (PySem.W.fnOf "_law_draw" "_law_draw" (defArgs s_l_draw) (defBody s_l_draw) (defScope s_l_draw) .none kV_l_draw dc_l_draw pm_l_draw an_l_draw cd_l_draw ct_l_draw), sl_l_draw⟩)
    (c_l_draw : PySem.W.codeIn K cd_l_draw "_law_draw" = true)
    (k_l_draw : PySem.W.keepIn K (.ref f_l_draw) = true)
    (a_l_word : PySem.W.nsIn K mainGlobals "_law_word" = some (some (.ref f_l_word)))
    (l_l_word : K.lookup f_l_word = some ⟨oc_l_word, od_l_word, .func (PySem.W.fnOf "_law_word" "_law_word" (defArgs s_l_word) (defBody s_l_word) (defScope s_l_word) .none kV_l_word dc_l_word pm_l_word an_l_word cd_l_word ct_l_word), sl_l_word⟩)
    (c_l_word : PySem.W.codeIn K cd_l_word "_law_word" = true)
    (k_l_word : PySem.W.keepIn K (.ref f_l_word) = true)
    (a_l_near : PySem.W.nsIn K mainGlobals "_law_near" = some (some (.ref f_l_near)))
    (l_l_near : K.lookup f_l_near = some ⟨oc_l_near, od_l_near, .func (PySem.W.fnOf "_law_near" "_law_near" (defArgs s_l_near) (defBody s_l_near) (defScope s_l_near) .none kV_l_near dc_l_near pm_l_near an_l_near cd_l_near ct_l_near), sl_l_near⟩)
    (c_l_near : PySem.W.codeIn K cd_l_near "_law_near" = true)
    (k_l_near : PySem.W.keepIn K (.ref f_l_near) = true)
    (a_l_heights : PySem.W.nsIn K mainGlobals "_law_heights" = some (some (.ref f_l_heights)))
    (l_l_heights : K.lookup f_l_heights = some ⟨oc_l_heights, od_l_heights, .func (PySem.W.fnOf "_law_heights" "_law_heights" (defArgs s_l_heights) (defBody s_l_heights) (defScope s_l_heights) .none kV_l_heights dc_l_heights pm_l_heights an_l_heights cd_l_heights ct_l_heights), sl_l_heights⟩)
    (c_l_heights : PySem.W.codeIn K cd_l_heights "_law_heights" = true)
    (k_l_heights : PySem.W.keepIn K (.ref f_l_heights) = true)
    (a_l_bends : PySem.W.nsIn K mainGlobals "_law_bends" = some (some (.ref f_l_bends)))
    (l_l_bends : K.lookup f_l_bends = some ⟨oc_l_bends, od_l_bends, .func (PySem.W.fnOf "_law_bends" "_law_bends" (defArgs s_l_bends) (defBody s_l_bends) (defScope s_l_bends) .none kV_l_bends dc_l_bends pm_l_bends an_l_bends cd_l_bends ct_l_bends), sl_l_bends⟩)
    (c_l_bends : PySem.W.codeIn K cd_l_bends "_law_bends" = true)
    (k_l_bends : PySem.W.keepIn K (.ref f_l_bends) = true)
    (a_l_runs : PySem.W.nsIn K mainGlobals "_law_runs" = some (some (.ref f_l_runs)))
    (l_l_runs : K.lookup f_l_runs = some ⟨oc_l_runs, od_l_runs, .func (PySem.W.fnOf "_law_runs" "_law_runs" (defArgs s_l_runs) (defBody s_l_runs) (defScope s_l_runs) .none kV_l_runs dc_l_runs pm_l_runs an_l_runs cd_l_runs ct_l_runs), sl_l_runs⟩)
    (c_l_runs : PySem.W.codeIn K cd_l_runs "_law_runs" = true)
    (k_l_runs : PySem.W.keepIn K (.ref f_l_runs) = true)
    (a_l_refused : PySem.W.nsIn K mainGlobals "_law_refused" = some (some (.ref f_l_refused)))
    (l_l_refused : K.lookup f_l_refused = some ⟨oc_l_refused, od_l_refused, .func (PySem.W.fnOf "_law_refused" "_law_refused" (defArgs s_l_refused) (defBody s_l_refused) (defScope s_l_refused) .none kV_l_refused dc_l_refused pm_l_refused an_l_refused cd_l_refused ct_l_refused), sl_l_refused⟩)
    (c_l_refused : PySem.W.codeIn K cd_l_refused "_law_refused" = true)
    (k_l_refused : PySem.W.keepIn K (.ref f_l_refused) = true)
    (a_l_numbers : PySem.W.nsIn K mainGlobals "_law_numbers" = some (some (.ref f_l_numbers)))
    (l_l_numbers : K.lookup f_l_numbers = some ⟨oc_l_numbers, od_l_numbers, .func (PySem.W.fnOf "_law_numbers" "_law_numbers" (defArgs s_l_numbers) (defBody s_l_numbers) (defScope s_l_numbers) .none kV_l_numbers dc_l_numbers pm_l_numbers an_l_numbers cd_l_numbers ct_l_numbers), sl_l_numbers⟩)
    (c_l_numbers : PySem.W.codeIn K cd_l_numbers "_law_numbers" = true)
    (k_l_numbers : PySem.W.keepIn K (.ref f_l_numbers) = true)
    (a_l_right : PySem.W.nsIn K mainGlobals "_law_right" = some (some (.ref f_l_right)))
    (l_l_right : K.lookup f_l_right = some ⟨oc_l_right, od_l_right, .func (PySem.W.fnOf "_law_right" "_law_right" (defArgs s_l_right) (defBody s_l_right) (defScope s_l_right) .none kV_l_right dc_l_right pm_l_right an_l_right cd_l_right ct_l_right), sl_l_right⟩)
    (c_l_right : PySem.W.codeIn K cd_l_right "_law_right" = true)
    (k_l_right : PySem.W.keepIn K (.ref f_l_right) = true)
    (a_law : PySem.W.nsIn K mainGlobals "law" = some (some (.ref f_law)))
    (l_law : K.lookup f_law = some ⟨oc_law, od_law, .func (PySem.W.fnOf "law" "law" (defArgs s_law) (defBody s_law) (defScope s_law) .none kV_law dc_law pm_law an_law cd_law ct_law), sl_law⟩)
    (c_law : PySem.W.codeIn K cd_law "law" = true)
    (k_law : PySem.W.keepIn K (.ref f_law) = true)
    (a_BadColumn___init__ : PySem.W.findIn K (.ref C_BadColumn) "__init__" = some (some (.ref f_BadColumn___init__)))
    (l_BadColumn___init__ : K.lookup f_BadColumn___init__ = some ⟨oc_BadColumn___init__, od_BadColumn___init__, .func (PySem.W.fnOf "__init__" "BadColumn.__init__" (defArgs s_BadColumn___init__) (defBody s_BadColumn___init__) (defScope s_BadColumn___init__) .none kV_BadColumn___init__ dc_BadColumn___init__ pm_BadColumn___init__ an_BadColumn___init__ cd_BadColumn___init__ ct_BadColumn___init__), sl_BadColumn___init__⟩)
    (c_BadColumn___init__ : PySem.W.codeIn K cd_BadColumn___init__ "BadColumn.__init__" = true)
    (k_BadColumn___init__ : PySem.W.keepIn K (.ref f_BadColumn___init__) = true)
    (fn_BadColumn___init__ : PySem.W.isFn K (.ref f_BadColumn___init__) = true)
    (a_BadBoundary___init__ : PySem.W.findIn K (.ref C_BadBoundary) "__init__" = some (some (.ref f_BadBoundary___init__)))
    (l_BadBoundary___init__ : K.lookup f_BadBoundary___init__ = some ⟨oc_BadBoundary___init__, od_BadBoundary___init__, .func (PySem.W.fnOf "__init__" "BadBoundary.__init__" (defArgs s_BadBoundary___init__) (defBody s_BadBoundary___init__) (defScope s_BadBoundary___init__) .none kV_BadBoundary___init__ dc_BadBoundary___init__ pm_BadBoundary___init__ an_BadBoundary___init__ cd_BadBoundary___init__ ct_BadBoundary___init__), sl_BadBoundary___init__⟩)
    (c_BadBoundary___init__ : PySem.W.codeIn K cd_BadBoundary___init__ "BadBoundary.__init__" = true)
    (k_BadBoundary___init__ : PySem.W.keepIn K (.ref f_BadBoundary___init__) = true)
    (fn_BadBoundary___init__ : PySem.W.isFn K (.ref f_BadBoundary___init__) = true)
    (a_BadHeights___init__ : PySem.W.findIn K (.ref C_BadHeights) "__init__" = some (some (.ref f_BadHeights___init__)))
    (l_BadHeights___init__ : K.lookup f_BadHeights___init__ = some ⟨oc_BadHeights___init__, od_BadHeights___init__, .func (PySem.W.fnOf "__init__" "BadHeights.__init__" (defArgs s_BadHeights___init__) (defBody s_BadHeights___init__) (defScope s_BadHeights___init__) .none kV_BadHeights___init__ dc_BadHeights___init__ pm_BadHeights___init__ an_BadHeights___init__ cd_BadHeights___init__ ct_BadHeights___init__), sl_BadHeights___init__⟩)
    (c_BadHeights___init__ : PySem.W.codeIn K cd_BadHeights___init__ "BadHeights.__init__" = true)
    (k_BadHeights___init__ : PySem.W.keepIn K (.ref f_BadHeights___init__) = true)
    (fn_BadHeights___init__ : PySem.W.isFn K (.ref f_BadHeights___init__) = true)
    (a_Column___init__ : PySem.W.findIn K (.ref C_Column) "__init__" = some (some (.ref f_Column___init__)))
    (l_Column___init__ : K.lookup f_Column___init__ = some ⟨oc_Column___init__, od_Column___init__, .func (PySem.W.fnOf "__init__" "Column.__init__" (defArgs s_Column___init__) (defBody s_Column___init__) (defScope s_Column___init__) .none kV_Column___init__ dc_Column___init__ pm_Column___init__ an_Column___init__ cd_Column___init__ ct_Column___init__), sl_Column___init__⟩)
    (c_Column___init__ : PySem.W.codeIn K cd_Column___init__ "Column.__init__" = true)
    (k_Column___init__ : PySem.W.keepIn K (.ref f_Column___init__) = true)
    (fn_Column___init__ : PySem.W.isFn K (.ref f_Column___init__) = true)
    (a0_Column_of_heights : PySem.W.findIn K (.type "type") "of_heights" = some none)
    (a_Column_of_heights : PySem.W.findIn K (.ref C_Column) "of_heights" = some (some (.ref p_Column_of_heights)))
    (r_Column_of_heights : PySem.W.recIn K p_Column_of_heights "staticmethod" = some (.ref f_Column_of_heights :: re_Column_of_heights))
    (pg_Column_of_heights : PySem.W.specialIn K (.ref p_Column_of_heights) "__get__" = some (some (.builtin "staticmethod.__get__")))
    (pt_Column_of_heights : PySem.W.typeIn K (.ref p_Column_of_heights) = some (.type "staticmethod"))
    (l_Column_of_heights : K.lookup f_Column_of_heights = some ⟨oc_Column_of_heights, od_Column_of_heights, .func (PySem.W.fnOf "of_heights" "Column.of_heights" (defArgs s_Column_of_heights) (defBody s_Column_of_heights) (defScope s_Column_of_heights) .none kV_Column_of_heights dc_Column_of_heights pm_Column_of_heights an_Column_of_heights cd_Column_of_heights ct_Column_of_heights), sl_Column_of_heights⟩)
    (c_Column_of_heights : PySem.W.codeIn K cd_Column_of_heights "Column.of_heights" = true)
    (k_Column_of_heights : PySem.W.keepIn K (.ref f_Column_of_heights) = true)
    (a_Column_many : PySem.W.findIn K (.ref C_Column) "many" = some (some (.ref f_Column_many)))
    (l_Column_many : K.lookup f_Column_many = some ⟨oc_Column_many, od_Column_many, .func (PySem.W.fnOf "many" "Column.many" (defArgs s_Column_many) (defBody s_Column_many) (defScope s_Column_many) .none kV_Column_many dc_Column_many pm_Column_many an_Column_many cd_Column_many ct_Column_many), sl_Column_many⟩)
    (c_Column_many : PySem.W.codeIn K cd_Column_many "Column.many" = true)
    (k_Column_many : PySem.W.keepIn K (.ref f_Column_many) = true)
    (fn_Column_many : PySem.W.isFn K (.ref f_Column_many) = true)
    (a_Column_place : PySem.W.findIn K (.ref C_Column) "place" = some (some (.ref f_Column_place)))
    (l_Column_place : K.lookup f_Column_place = some ⟨oc_Column_place, od_Column_place, .func (PySem.W.fnOf "place" "Column.place" (defArgs s_Column_place) (defBody s_Column_place) (defScope s_Column_place) .none kV_Column_place dc_Column_place pm_Column_place an_Column_place cd_Column_place ct_Column_place), sl_Column_place⟩)
    (c_Column_place : PySem.W.codeIn K cd_Column_place "Column.place" = true)
    (k_Column_place : PySem.W.keepIn K (.ref f_Column_place) = true)
    (fn_Column_place : PySem.W.isFn K (.ref f_Column_place) = true)
    (a_Column_height : PySem.W.findIn K (.ref C_Column) "height" = some (some (.ref f_Column_height)))
    (l_Column_height : K.lookup f_Column_height = some ⟨oc_Column_height, od_Column_height, .func (PySem.W.fnOf "height" "Column.height" (defArgs s_Column_height) (defBody s_Column_height) (defScope s_Column_height) .none kV_Column_height dc_Column_height pm_Column_height an_Column_height cd_Column_height ct_Column_height), sl_Column_height⟩)
    (c_Column_height : PySem.W.codeIn K cd_Column_height "Column.height" = true)
    (k_Column_height : PySem.W.keepIn K (.ref f_Column_height) = true)
    (fn_Column_height : PySem.W.isFn K (.ref f_Column_height) = true)
    (a_Column_places : PySem.W.findIn K (.ref C_Column) "places" = some (some (.ref p_Column_places)))
    (r_Column_places : PySem.W.recIn K p_Column_places "property" = some (.ref f_Column_places :: re_Column_places))
    (pg_Column_places : PySem.W.specialIn K (.ref p_Column_places) "__get__" = some (some (.builtin "property.__get__")))
    (pt_Column_places : PySem.W.takesIn K (.ref p_Column_places) = some true)
    (l_Column_places : K.lookup f_Column_places = some ⟨oc_Column_places, od_Column_places, .func (PySem.W.fnOf "places" "Column.places" (defArgs s_Column_places) (defBody s_Column_places) (defScope s_Column_places) .none kV_Column_places dc_Column_places pm_Column_places an_Column_places cd_Column_places ct_Column_places), sl_Column_places⟩)
    (c_Column_places : PySem.W.codeIn K cd_Column_places "Column.places" = true)
    (k_Column_places : PySem.W.keepIn K (.ref f_Column_places) = true)
    (a_Column_heights : PySem.W.findIn K (.ref C_Column) "heights" = some (some (.ref p_Column_heights)))
    (r_Column_heights : PySem.W.recIn K p_Column_heights "property" = some (.ref f_Column_heights :: re_Column_heights))
    (pg_Column_heights : PySem.W.specialIn K (.ref p_Column_heights) "__get__" = some (some (.builtin "property.__get__")))
    (pt_Column_heights : PySem.W.takesIn K (.ref p_Column_heights) = some true)
    (l_Column_heights : K.lookup f_Column_heights = some ⟨oc_Column_heights, od_Column_heights, .func (PySem.W.fnOf "heights" "Column.heights" (defArgs s_Column_heights) (defBody s_Column_heights) (defScope s_Column_heights) .none kV_Column_heights dc_Column_heights pm_Column_heights an_Column_heights cd_Column_heights ct_Column_heights), sl_Column_heights⟩)
    (c_Column_heights : PySem.W.codeIn K cd_Column_heights "Column.heights" = true)
    (k_Column_heights : PySem.W.keepIn K (.ref f_Column_heights) = true)
    (a_Column_runs : PySem.W.findIn K (.ref C_Column) "runs" = some (some (.ref p_Column_runs)))
    (r_Column_runs : PySem.W.recIn K p_Column_runs "property" = some (.ref f_Column_runs :: re_Column_runs))
    (pg_Column_runs : PySem.W.specialIn K (.ref p_Column_runs) "__get__" = some (some (.builtin "property.__get__")))
    (pt_Column_runs : PySem.W.takesIn K (.ref p_Column_runs) = some true)
    (l_Column_runs : K.lookup f_Column_runs = some ⟨oc_Column_runs, od_Column_runs, .func (PySem.W.fnOf "runs" "Column.runs" (defArgs s_Column_runs) (defBody s_Column_runs) (defScope s_Column_runs) .none kV_Column_runs dc_Column_runs pm_Column_runs an_Column_runs cd_Column_runs ct_Column_runs), sl_Column_runs⟩)
    (c_Column_runs : PySem.W.codeIn K cd_Column_runs "Column.runs" = true)
    (k_Column_runs : PySem.W.keepIn K (.ref f_Column_runs) = true)
    (a_Column_creases : PySem.W.findIn K (.ref C_Column) "creases" = some (some (.ref p_Column_creases)))
    (r_Column_creases : PySem.W.recIn K p_Column_creases "property" = some (.ref f_Column_creases :: re_Column_creases))
    (pg_Column_creases : PySem.W.specialIn K (.ref p_Column_creases) "__get__" = some (some (.builtin "property.__get__")))
    (pt_Column_creases : PySem.W.takesIn K (.ref p_Column_creases) = some true)
    (l_Column_creases : K.lookup f_Column_creases = some ⟨oc_Column_creases, od_Column_creases, .func (PySem.W.fnOf "creases" "Column.creases" (defArgs s_Column_creases) (defBody s_Column_creases) (defScope s_Column_creases) .none kV_Column_creases dc_Column_creases pm_Column_creases an_Column_creases cd_Column_creases ct_Column_creases), sl_Column_creases⟩)
    (c_Column_creases : PySem.W.codeIn K cd_Column_creases "Column.creases" = true)
    (k_Column_creases : PySem.W.keepIn K (.ref f_Column_creases) = true)
    (a_Column_hollows : PySem.W.findIn K (.ref C_Column) "hollows" = some (some (.ref p_Column_hollows)))
    (r_Column_hollows : PySem.W.recIn K p_Column_hollows "property" = some (.ref f_Column_hollows :: re_Column_hollows))
    (pg_Column_hollows : PySem.W.specialIn K (.ref p_Column_hollows) "__get__" = some (some (.builtin "property.__get__")))
    (pt_Column_hollows : PySem.W.takesIn K (.ref p_Column_hollows) = some true)
    (l_Column_hollows : K.lookup f_Column_hollows = some ⟨oc_Column_hollows, od_Column_hollows, .func (PySem.W.fnOf "hollows" "Column.hollows" (defArgs s_Column_hollows) (defBody s_Column_hollows) (defScope s_Column_hollows) .none kV_Column_hollows dc_Column_hollows pm_Column_hollows an_Column_hollows cd_Column_hollows ct_Column_hollows), sl_Column_hollows⟩)
    (c_Column_hollows : PySem.W.codeIn K cd_Column_hollows "Column.hollows" = true)
    (k_Column_hollows : PySem.W.keepIn K (.ref f_Column_hollows) = true)
    (a_Column_ridges : PySem.W.findIn K (.ref C_Column) "ridges" = some (some (.ref p_Column_ridges)))
    (r_Column_ridges : PySem.W.recIn K p_Column_ridges "property" = some (.ref f_Column_ridges :: re_Column_ridges))
    (pg_Column_ridges : PySem.W.specialIn K (.ref p_Column_ridges) "__get__" = some (some (.builtin "property.__get__")))
    (pt_Column_ridges : PySem.W.takesIn K (.ref p_Column_ridges) = some true)
    (l_Column_ridges : K.lookup f_Column_ridges = some ⟨oc_Column_ridges, od_Column_ridges, .func (PySem.W.fnOf "ridges" "Column.ridges" (defArgs s_Column_ridges) (defBody s_Column_ridges) (defScope s_Column_ridges) .none kV_Column_ridges dc_Column_ridges pm_Column_ridges an_Column_ridges cd_Column_ridges ct_Column_ridges), sl_Column_ridges⟩)
    (c_Column_ridges : PySem.W.codeIn K cd_Column_ridges "Column.ridges" = true)
    (k_Column_ridges : PySem.W.keepIn K (.ref f_Column_ridges) = true)
    (a_Column_mirrored : PySem.W.findIn K (.ref C_Column) "mirrored" = some (some (.ref f_Column_mirrored)))
    (l_Column_mirrored : K.lookup f_Column_mirrored = some ⟨oc_Column_mirrored, od_Column_mirrored, .func (PySem.W.fnOf "mirrored" "Column.mirrored" (defArgs s_Column_mirrored) (defBody s_Column_mirrored) (defScope s_Column_mirrored) .none kV_Column_mirrored dc_Column_mirrored pm_Column_mirrored an_Column_mirrored cd_Column_mirrored ct_Column_mirrored), sl_Column_mirrored⟩)
    (c_Column_mirrored : PySem.W.codeIn K cd_Column_mirrored "Column.mirrored" = true)
    (k_Column_mirrored : PySem.W.keepIn K (.ref f_Column_mirrored) = true)
    (fn_Column_mirrored : PySem.W.isFn K (.ref f_Column_mirrored) = true)
    (a_Column___eq__ : PySem.W.findIn K (.ref C_Column) "__eq__" = some (some (.ref f_Column___eq__)))
    (l_Column___eq__ : K.lookup f_Column___eq__ = some ⟨oc_Column___eq__, od_Column___eq__, .func (PySem.W.fnOf "__eq__" "Column.__eq__" (defArgs s_Column___eq__) (defBody s_Column___eq__) (defScope s_Column___eq__) .none kV_Column___eq__ dc_Column___eq__ pm_Column___eq__ an_Column___eq__ cd_Column___eq__ ct_Column___eq__), sl_Column___eq__⟩)
    (c_Column___eq__ : PySem.W.codeIn K cd_Column___eq__ "Column.__eq__" = true)
    (k_Column___eq__ : PySem.W.keepIn K (.ref f_Column___eq__) = true)
    (fn_Column___eq__ : PySem.W.isFn K (.ref f_Column___eq__) = true)
    (a_Column___str__ : PySem.W.findIn K (.ref C_Column) "__str__" = some (some (.ref f_Column___str__)))
    (l_Column___str__ : K.lookup f_Column___str__ = some ⟨oc_Column___str__, od_Column___str__, .func (PySem.W.fnOf "__str__" "Column.__str__" (defArgs s_Column___str__) (defBody s_Column___str__) (defScope s_Column___str__) .none kV_Column___str__ dc_Column___str__ pm_Column___str__ an_Column___str__ cd_Column___str__ ct_Column___str__), sl_Column___str__⟩)
    (c_Column___str__ : PySem.W.codeIn K cd_Column___str__ "Column.__str__" = true)
    (k_Column___str__ : PySem.W.keepIn K (.ref f_Column___str__) = true)
    (fn_Column___str__ : PySem.W.isFn K (.ref f_Column___str__) = true)
    (a_Column___len__ : PySem.W.findIn K (.ref C_Column) "__len__" = some (some (.ref f_Column___len__)))
    (l_Column___len__ : K.lookup f_Column___len__ = some ⟨oc_Column___len__, od_Column___len__, .func (PySem.W.fnOf "__len__" "Column.__len__" (defArgs s_Column___len__) (defBody s_Column___len__) (defScope s_Column___len__) .none kV_Column___len__ dc_Column___len__ pm_Column___len__ an_Column___len__ cd_Column___len__ ct_Column___len__), sl_Column___len__⟩)
    (c_Column___len__ : PySem.W.codeIn K cd_Column___len__ "Column.__len__" = true)
    (k_Column___len__ : PySem.W.keepIn K (.ref f_Column___len__) = true)
    (fn_Column___len__ : PySem.W.isFn K (.ref f_Column___len__) = true)
    (a_Column___iter__ : PySem.W.findIn K (.ref C_Column) "__iter__" = some (some (.ref f_Column___iter__)))
    (l_Column___iter__ : K.lookup f_Column___iter__ = some ⟨oc_Column___iter__, od_Column___iter__, .func (PySem.W.fnOf "__iter__" "Column.__iter__" (defArgs s_Column___iter__) (defBody s_Column___iter__) (defScope s_Column___iter__) .none kV_Column___iter__ dc_Column___iter__ pm_Column___iter__ an_Column___iter__ cd_Column___iter__ ct_Column___iter__), sl_Column___iter__⟩)
    (c_Column___iter__ : PySem.W.codeIn K cd_Column___iter__ "Column.__iter__" = true)
    (k_Column___iter__ : PySem.W.keepIn K (.ref f_Column___iter__) = true)
    (fn_Column___iter__ : PySem.W.isFn K (.ref f_Column___iter__) = true)
    (ec_CardError : PySem.W.subIn K (.ref C_CardError) (.type "BaseException") = some true)
    (ty_CardError : PySem.W.typeIn K (.ref C_CardError) = some (.type "type"))
    (ic_CardError : PySem.W.isClsIn K C_CardError = true)
    (ss_CardError : PySem.W.subIn K (.ref C_CardError) (.ref C_CardError) = some true)
    (xl_BadColumn : K.lookup C_BadColumn = some (excClassObj nm_BadColumn q_BadColumn C_BadColumn N_BadColumn bs_BadColumn bm_BadColumn true sn_BadColumn sb_BadColumn ab_BadColumn co_BadColumn dd_BadColumn m0_BadColumn m1_BadColumn m2_BadColumn m3_BadColumn m5_BadColumn "ValueError.__new__"))
    (rv_BadColumn : PySem.HandSPX.refsVE bm_BadColumn = true)
    (sa_BadColumn : PySem.W.findIn K (.ref C_BadColumn) "__setattr__" = some (some (.builtin "object.__setattr__")))
    (ga_BadColumn : PySem.W.findIn K (.ref C_BadColumn) "__getattribute__" = some (some (.builtin "BaseException.__getattribute__")))
    (gg_BadColumn : PySem.W.findIn K (.ref C_BadColumn) "__getattr__" = some none)
    (kc_BadColumn : PySem.W.keepIn K (.ref C_BadColumn) = true)
    (hd_BadColumn : PySem.W.hasDictIn K C_BadColumn = true)
    (ti_BadColumn : PySem.W.typeIn K (.ref f_BadColumn___init__) = some (.type "function"))
    (ec_BadColumn : PySem.W.subIn K (.ref C_BadColumn) (.type "BaseException") = some true)
    (ty_BadColumn : PySem.W.typeIn K (.ref C_BadColumn) = some (.type "type"))
    (ic_BadColumn : PySem.W.isClsIn K C_BadColumn = true)
    (ss_BadColumn : PySem.W.subIn K (.ref C_BadColumn) (.ref C_BadColumn) = some true)
    (n_BadColumn_what : PySem.W.findIn K (.ref C_BadColumn) "what" = some none)
    (up_BadColumn_CardError : PySem.W.subIn K (.ref C_BadColumn) (.ref C_CardError) = some true)
    (xl_BadBoundary : K.lookup C_BadBoundary = some (excClassObj nm_BadBoundary q_BadBoundary C_BadBoundary N_BadBoundary bs_BadBoundary bm_BadBoundary true sn_BadBoundary sb_BadBoundary ab_BadBoundary co_BadBoundary dd_BadBoundary m0_BadBoundary m1_BadBoundary m2_BadBoundary m3_BadBoundary m5_BadBoundary "ValueError.__new__"))
    (rv_BadBoundary : PySem.HandSPX.refsVE bm_BadBoundary = true)
    (sa_BadBoundary : PySem.W.findIn K (.ref C_BadBoundary) "__setattr__" = some (some (.builtin "object.__setattr__")))
    (ga_BadBoundary : PySem.W.findIn K (.ref C_BadBoundary) "__getattribute__" = some (some (.builtin "BaseException.__getattribute__")))
    (gg_BadBoundary : PySem.W.findIn K (.ref C_BadBoundary) "__getattr__" = some none)
    (kc_BadBoundary : PySem.W.keepIn K (.ref C_BadBoundary) = true)
    (hd_BadBoundary : PySem.W.hasDictIn K C_BadBoundary = true)
    (ti_BadBoundary : PySem.W.typeIn K (.ref f_BadBoundary___init__) = some (.type "function"))
    (ec_BadBoundary : PySem.W.subIn K (.ref C_BadBoundary) (.type "BaseException") = some true)
    (ty_BadBoundary : PySem.W.typeIn K (.ref C_BadBoundary) = some (.type "type"))
    (ic_BadBoundary : PySem.W.isClsIn K C_BadBoundary = true)
    (ss_BadBoundary : PySem.W.subIn K (.ref C_BadBoundary) (.ref C_BadBoundary) = some true)
    (n_BadBoundary_boundary : PySem.W.findIn K (.ref C_BadBoundary) "boundary" = some none)
    (up_BadBoundary_CardError : PySem.W.subIn K (.ref C_BadBoundary) (.ref C_CardError) = some true)
    (xl_BadHeights : K.lookup C_BadHeights = some (excClassObj nm_BadHeights q_BadHeights C_BadHeights N_BadHeights bs_BadHeights bm_BadHeights true sn_BadHeights sb_BadHeights ab_BadHeights co_BadHeights dd_BadHeights m0_BadHeights m1_BadHeights m2_BadHeights m3_BadHeights m5_BadHeights "ValueError.__new__"))
    (rv_BadHeights : PySem.HandSPX.refsVE bm_BadHeights = true)
    (sa_BadHeights : PySem.W.findIn K (.ref C_BadHeights) "__setattr__" = some (some (.builtin "object.__setattr__")))
    (ga_BadHeights : PySem.W.findIn K (.ref C_BadHeights) "__getattribute__" = some (some (.builtin "BaseException.__getattribute__")))
    (gg_BadHeights : PySem.W.findIn K (.ref C_BadHeights) "__getattr__" = some none)
    (kc_BadHeights : PySem.W.keepIn K (.ref C_BadHeights) = true)
    (hd_BadHeights : PySem.W.hasDictIn K C_BadHeights = true)
    (ti_BadHeights : PySem.W.typeIn K (.ref f_BadHeights___init__) = some (.type "function"))
    (ec_BadHeights : PySem.W.subIn K (.ref C_BadHeights) (.type "BaseException") = some true)
    (ty_BadHeights : PySem.W.typeIn K (.ref C_BadHeights) = some (.type "type"))
    (ic_BadHeights : PySem.W.isClsIn K C_BadHeights = true)
    (ss_BadHeights : PySem.W.subIn K (.ref C_BadHeights) (.ref C_BadHeights) = some true)
    (n_BadHeights_index : PySem.W.findIn K (.ref C_BadHeights) "index" = some none)
    (n_BadHeights_what : PySem.W.findIn K (.ref C_BadHeights) "what" = some none)
    (up_BadHeights_CardError : PySem.W.subIn K (.ref C_BadHeights) (.ref C_CardError) = some true)
    (pg_Column : PySem.W.plainGet K C_Column Str.empty = true)
    (hd_Column : PySem.W.hasDictIn K C_Column = true)
    (po_Column : PySem.W.plainOver K C_Column = true)
    (sa_Column : PySem.W.findIn K (.ref C_Column) "__setattr__" = some (some (.builtin "object.__setattr__")))
    (i1_Column : PySem.W.findIn K (.ref C_Column) "__class__" = some (some (.builtin "object.__class__")))
    (i4_Column : PySem.W.mroIn K C_Column (.type "object") = some true)
    (ic_Column : PySem.W.isClsIn K C_Column = true)
    (ty_Column : PySem.W.typeIn K (.ref C_Column) = some (.type "type"))
    (it_str_Column : PySem.W.subIn K (.type "str") (.ref C_Column) = some false)
    (it_int_Column : PySem.W.subIn K (.type "int") (.ref C_Column) = some false)
    (it_bool_Column : PySem.W.subIn K (.type "bool") (.ref C_Column) = some false)
    (it_NoneType_Column : PySem.W.subIn K (.type "NoneType") (.ref C_Column) = some false)
    (it_list_Column : PySem.W.subIn K (.type "list") (.ref C_Column) = some false)
    (it_tuple_Column : PySem.W.subIn K (.type "tuple") (.ref C_Column) = some false)
    (it_dict_Column : PySem.W.subIn K (.type "dict") (.ref C_Column) = some false)
    (ti_str_Column : PySem.W.subIn K (.ref C_Column) (.type "str") = some false)
    (ti_int_Column : PySem.W.subIn K (.ref C_Column) (.type "int") = some false)
    (ti_bool_Column : PySem.W.subIn K (.ref C_Column) (.type "bool") = some false)
    (ti_list_Column : PySem.W.subIn K (.ref C_Column) (.type "list") = some false)
    (ti_tuple_Column : PySem.W.subIn K (.ref C_Column) (.type "tuple") = some false)
    (sub_Column : PySem.W.subIn K (.type "str") (.ref C_Column) = some false)
    (ne_Column : PySem.W.findIn K (.ref C_Column) "__ne__" = some (some (.builtin "object.__ne__")))
    (rd_Column : PySem.W.readsIn K C_Column (.type "type") = true)
    (rg_Column : PySem.W.specialIn K (.ref C_Column) "__getattribute__" = some (some (.builtin "type.__getattribute__")))
    (mk_Column : PySem.W.makesIn K C_Column = true)
    (kc_Column : PySem.W.keepIn K (.ref C_Column) = true)
    (n_Column_word : PySem.W.findIn K (.ref C_Column) "word" = some none)
    (n_Column_size : PySem.W.findIn K (.ref C_Column) "size" = some none)
    (kc_MOST_SIZE : PySem.W.nsIn K mainGlobals "MOST_SIZE" = some (some (.int 6 tk_MOST_SIZE)))
    (i2 : PySem.W.specialIn K (.builtin "object.__class__") "__get__" = some (some (.builtin "getset_descriptor.__get__")))
    (i3 : PySem.W.takesIn K (.builtin "object.__class__") = some true)
    (z_ValueError : PySem.W.nsIn K mainGlobals "ValueError" = some none)
    (z_abs : PySem.W.nsIn K mainGlobals "abs" = some none)
    (z_all : PySem.W.nsIn K mainGlobals "all" = some none)
    (z_bool : PySem.W.nsIn K mainGlobals "bool" = some none)
    (z_enumerate : PySem.W.nsIn K mainGlobals "enumerate" = some none)
    (z_int : PySem.W.nsIn K mainGlobals "int" = some none)
    (z_isinstance : PySem.W.nsIn K mainGlobals "isinstance" = some none)
    (z_iter : PySem.W.nsIn K mainGlobals "iter" = some none)
    (z_len : PySem.W.nsIn K mainGlobals "len" = some none)
    (z_list : PySem.W.nsIn K mainGlobals "list" = some none)
    (z_property : PySem.W.nsIn K mainGlobals "property" = some none)
    (z_range : PySem.W.nsIn K mainGlobals "range" = some none)
    (z_staticmethod : PySem.W.nsIn K mainGlobals "staticmethod" = some none)
    (z_str : PySem.W.nsIn K mainGlobals "str" = some none)
    (z_tuple : PySem.W.nsIn K mainGlobals "tuple" = some none)
    : ∃ fd : FuncData, (∀ (s : Shared) (u : Value), BindsTo s fd ⟨[u], []⟩ [("_law_script", u)]) ∧ ∀ base : Heap, K.In base → base.Ns mainGlobals mg → FnOk P w K mg base CX0 8 fa fd ["_law_script"] (spLaw K) := by
  have e : f_law = fa := by
    have e := hfa.symm.trans (PySem.W.mg_of X G a_law)
    cases e
    rfl
  subst e
  have F_is_number := fun_mk (st := s_is_number) l_is_number c_is_number k_is_number
  have b_is_number := F_is_number.binds (ps := P_is_number) fun _ _ _ _ _ _ us hl => match us, hl with | [_], _ => rfl
  have F_is_whole := fun_mk (st := s_is_whole) l_is_whole c_is_whole k_is_whole
  have b_is_whole := F_is_whole.binds (ps := P_is_whole) fun _ _ _ _ _ _ us hl => match us, hl with | [_, _, _], _ => rfl
  have F_is_sequence := fun_mk (st := s_is_sequence) l_is_sequence c_is_sequence k_is_sequence
  have b_is_sequence := F_is_sequence.binds (ps := P_is_sequence) fun _ _ _ _ _ _ us hl => match us, hl with | [_], _ => rfl
  have F_word_fault := fun_mk (st := s_word_fault) l_word_fault c_word_fault k_word_fault
  have b_word_fault := F_word_fault.binds (ps := P_word_fault) fun _ _ _ _ _ _ us hl => match us, hl with | [_], _ => rfl
  have F_heights_fault := fun_mk (st := s_heights_fault) l_heights_fault c_heights_fault k_heights_fault
  have b_heights_fault := F_heights_fault.binds (ps := P_heights_fault) fun _ _ _ _ _ _ us hl => match us, hl with | [_], _ => rfl
  have F_l_mix := fun_mk (st := s_l_mix) l_l_mix c_l_mix k_l_mix
  have b_l_mix := F_l_mix.binds (ps := P_l_mix) fun _ _ _ _ _ _ us hl => match us, hl with | [_, _], _ => rfl
  have F_l_hand := fun_mk (st := s_l_hand) l_l_hand c_l_hand k_l_hand
  have b_l_hand := F_l_hand.binds (ps := P_l_hand) fun _ _ _ _ _ _ us hl => match us, hl with | [_], _ => rfl
  have F_l_draw := fun_mk (st := s_l_draw) l_l_draw c_l_draw k_l_draw
  have b_l_draw := F_l_draw.binds (ps := P_l_draw) fun _ _ _ _ _ _ us hl => match us, hl with | [_, _], _ => rfl
  have F_l_word := fun_mk (st := s_l_word) l_l_word c_l_word k_l_word
  have b_l_word := F_l_word.binds (ps := P_l_word) fun _ _ _ _ _ _ us hl => match us, hl with | [_, _], _ => rfl
  have F_l_near := fun_mk (st := s_l_near) l_l_near c_l_near k_l_near
  have b_l_near := F_l_near.binds (ps := P_l_near) fun _ _ _ _ _ _ us hl => match us, hl with | [_, _], _ => rfl
  have F_l_heights := fun_mk (st := s_l_heights) l_l_heights c_l_heights k_l_heights
  have b_l_heights := F_l_heights.binds (ps := P_l_heights) fun _ _ _ _ _ _ us hl => match us, hl with | [_], _ => rfl
  have F_l_bends := fun_mk (st := s_l_bends) l_l_bends c_l_bends k_l_bends
  have b_l_bends := F_l_bends.binds (ps := P_l_bends) fun _ _ _ _ _ _ us hl => match us, hl with | [_], _ => rfl
  have F_l_runs := fun_mk (st := s_l_runs) l_l_runs c_l_runs k_l_runs
  have b_l_runs := F_l_runs.binds (ps := P_l_runs) fun _ _ _ _ _ _ us hl => match us, hl with | [_, _], _ => rfl
  have F_l_refused := fun_mk (st := s_l_refused) l_l_refused c_l_refused k_l_refused
  have b_l_refused := F_l_refused.binds (ps := P_l_refused) fun _ _ _ _ _ _ us hl => match us, hl with | [_, _, _], _ => rfl
  have F_l_numbers := fun_mk (st := s_l_numbers) l_l_numbers c_l_numbers k_l_numbers
  have b_l_numbers := F_l_numbers.binds (ps := P_l_numbers) fun _ _ _ _ _ _ us hl => match us, hl with | [_], _ => rfl
  have F_l_right := fun_mk (st := s_l_right) l_l_right c_l_right k_l_right
  have b_l_right := F_l_right.binds (ps := P_l_right) fun _ _ _ _ _ _ us hl => match us, hl with | [_, _], _ => rfl
  have F_law := fun_mk (st := s_law) l_law c_law k_law
  have b_law := F_law.binds (ps := P_law) fun _ _ _ _ _ _ us hl => match us, hl with | [_], _ => rfl
  have F_BadColumn___init__ := fun_mk (st := s_BadColumn___init__) l_BadColumn___init__ c_BadColumn___init__ k_BadColumn___init__
  have b_BadColumn___init__ := F_BadColumn___init__.binds (ps := P_BadColumn___init__) fun _ _ _ _ _ _ us hl => match us, hl with | [_, _], _ => rfl
  have F_BadBoundary___init__ := fun_mk (st := s_BadBoundary___init__) l_BadBoundary___init__ c_BadBoundary___init__ k_BadBoundary___init__
  have b_BadBoundary___init__ := F_BadBoundary___init__.binds (ps := P_BadBoundary___init__) fun _ _ _ _ _ _ us hl => match us, hl with | [_, _], _ => rfl
  have F_BadHeights___init__ := fun_mk (st := s_BadHeights___init__) l_BadHeights___init__ c_BadHeights___init__ k_BadHeights___init__
  have b_BadHeights___init__ := F_BadHeights___init__.binds (ps := P_BadHeights___init__) fun _ _ _ _ _ _ us hl => match us, hl with | [_, _, _], _ => rfl
  have F_Column___init__ := fun_mk (st := s_Column___init__) l_Column___init__ c_Column___init__ k_Column___init__
  have b_Column___init__ := F_Column___init__.binds (ps := P_Column___init__) fun _ _ _ _ _ _ us hl => match us, hl with | [_, _], _ => rfl
  have F_Column_of_heights := fun_mk (st := s_Column_of_heights) l_Column_of_heights c_Column_of_heights k_Column_of_heights
  have b_Column_of_heights := F_Column_of_heights.binds (ps := P_Column_of_heights) fun _ _ _ _ _ _ us hl => match us, hl with | [_], _ => rfl
  have F_Column_many := fun_mk (st := s_Column_many) l_Column_many c_Column_many k_Column_many
  have b_Column_many := F_Column_many.binds (ps := P_Column_many) fun _ _ _ _ _ _ us hl => match us, hl with | [_, _, _], _ => rfl
  have F_Column_place := fun_mk (st := s_Column_place) l_Column_place c_Column_place k_Column_place
  have b_Column_place := F_Column_place.binds (ps := P_Column_place) fun _ _ _ _ _ _ us hl => match us, hl with | [_, _], _ => rfl
  have F_Column_height := fun_mk (st := s_Column_height) l_Column_height c_Column_height k_Column_height
  have b_Column_height := F_Column_height.binds (ps := P_Column_height) fun _ _ _ _ _ _ us hl => match us, hl with | [_, _], _ => rfl
  have F_Column_places := fun_mk (st := s_Column_places) l_Column_places c_Column_places k_Column_places
  have b_Column_places := F_Column_places.binds (ps := P_Column_places) fun _ _ _ _ _ _ us hl => match us, hl with | [_], _ => rfl
  have F_Column_heights := fun_mk (st := s_Column_heights) l_Column_heights c_Column_heights k_Column_heights
  have b_Column_heights := F_Column_heights.binds (ps := P_Column_heights) fun _ _ _ _ _ _ us hl => match us, hl with | [_], _ => rfl
  have F_Column_runs := fun_mk (st := s_Column_runs) l_Column_runs c_Column_runs k_Column_runs
  have b_Column_runs := F_Column_runs.binds (ps := P_Column_runs) fun _ _ _ _ _ _ us hl => match us, hl with | [_], _ => rfl
  have F_Column_creases := fun_mk (st := s_Column_creases) l_Column_creases c_Column_creases k_Column_creases
  have b_Column_creases := F_Column_creases.binds (ps := P_Column_creases) fun _ _ _ _ _ _ us hl => match us, hl with | [_], _ => rfl
  have F_Column_hollows := fun_mk (st := s_Column_hollows) l_Column_hollows c_Column_hollows k_Column_hollows
  have b_Column_hollows := F_Column_hollows.binds (ps := P_Column_hollows) fun _ _ _ _ _ _ us hl => match us, hl with | [_], _ => rfl
  have F_Column_ridges := fun_mk (st := s_Column_ridges) l_Column_ridges c_Column_ridges k_Column_ridges
  have b_Column_ridges := F_Column_ridges.binds (ps := P_Column_ridges) fun _ _ _ _ _ _ us hl => match us, hl with | [_], _ => rfl
  have F_Column_mirrored := fun_mk (st := s_Column_mirrored) l_Column_mirrored c_Column_mirrored k_Column_mirrored
  have b_Column_mirrored := F_Column_mirrored.binds (ps := P_Column_mirrored) fun _ _ _ _ _ _ us hl => match us, hl with | [_], _ => rfl
  have F_Column___eq__ := fun_mk (st := s_Column___eq__) l_Column___eq__ c_Column___eq__ k_Column___eq__
  have b_Column___eq__ := F_Column___eq__.binds (ps := P_Column___eq__) fun _ _ _ _ _ _ us hl => match us, hl with | [_, _], _ => rfl
  have F_Column___str__ := fun_mk (st := s_Column___str__) l_Column___str__ c_Column___str__ k_Column___str__
  have b_Column___str__ := F_Column___str__.binds (ps := P_Column___str__) fun _ _ _ _ _ _ us hl => match us, hl with | [_], _ => rfl
  have F_Column___len__ := fun_mk (st := s_Column___len__) l_Column___len__ c_Column___len__ k_Column___len__
  have b_Column___len__ := F_Column___len__.binds (ps := P_Column___len__) fun _ _ _ _ _ _ us hl => match us, hl with | [_], _ => rfl
  have F_Column___iter__ := fun_mk (st := s_Column___iter__) l_Column___iter__ c_Column___iter__ k_Column___iter__
  have b_Column___iter__ := F_Column___iter__.binds (ps := P_Column___iter__) fun _ _ _ _ _ _ us hl => match us, hl with | [_], _ => rfl
  have T : Top K mg ({ f_is_number := f_is_number, f_is_whole := f_is_whole, f_is_sequence := f_is_sequence, f_word_fault := f_word_fault, f_heights_fault := f_heights_fault, f_l_mix := f_l_mix, f_l_hand := f_l_hand, f_l_draw := f_l_draw, f_l_word := f_l_word, f_l_near := f_l_near, f_l_heights := f_l_heights, f_l_bends := f_l_bends, f_l_runs := f_l_runs, f_l_refused := f_l_refused, f_l_numbers := f_l_numbers, f_l_right := f_l_right, f_law := f_law, f_BadColumn___init__ := f_BadColumn___init__, f_BadBoundary___init__ := f_BadBoundary___init__, f_BadHeights___init__ := f_BadHeights___init__, f_Column___init__ := f_Column___init__, f_Column_of_heights := f_Column_of_heights, f_Column_many := f_Column_many, f_Column_place := f_Column_place, f_Column_height := f_Column_height, f_Column_places := f_Column_places, f_Column_heights := f_Column_heights, f_Column_runs := f_Column_runs, f_Column_creases := f_Column_creases, f_Column_hollows := f_Column_hollows, f_Column_ridges := f_Column_ridges, f_Column_mirrored := f_Column_mirrored, f_Column___eq__ := f_Column___eq__, f_Column___str__ := f_Column___str__, f_Column___len__ := f_Column___len__, f_Column___iter__ := f_Column___iter__, d_is_number := (PySem.W.fnOf "is_number" "is_number" (defArgs s_is_number) (defBody s_is_number) (defScope s_is_number) .none kV_is_number dc_is_number pm_is_number an_is_number cd_is_number ct_is_number), d_is_whole := (PySem.W.fnOf "is_whole" "is_whole" (defArgs s_is_whole) (defBody s_is_whole) (defScope s_is_whole) .none kV_is_whole dc_is_whole pm_is_whole an_is_whole cd_is_whole ct_is_whole), d_is_sequence := (PySem.W.fnOf "is_sequence" "is_sequence" (defArgs s_is_sequence) (defBody s_is_sequence) (defScope s_is_sequence) .none kV_is_sequence dc_is_sequence pm_is_sequence an_is_sequence cd_is_sequence ct_is_sequence), d_word_fault := (PySem.W.fnOf "word_fault" "word_fault" (defArgs s_word_fault) (defBody s_word_fault) (defScope s_word_fault) .none kV_word_fault dc_word_fault pm_word_fault an_word_fault cd_word_fault ct_word_fault), d_heights_fault := (PySem.W.fnOf "heights_fault" "heights_fault" (defArgs s_heights_fault) (defBody s_heights_fault) (defScope s_heights_fault) .none kV_heights_fault dc_heights_fault pm_heights_fault an_heights_fault cd_heights_fault ct_heights_fault), d_l_mix := (PySem.W.fnOf "_law_mix" "_law_mix" (defArgs s_l_mix) (defBody s_l_mix) (defScope s_l_mix) .none kV_l_mix dc_l_mix pm_l_mix an_l_mix cd_l_mix ct_l_mix), d_l_hand := (PySem.W.fnOf "_law_hand" "_law_hand" (defArgs s_l_hand) (defBody s_l_hand) (defScope s_l_hand) .none kV_l_hand dc_l_hand pm_l_hand an_l_hand cd_l_hand ct_l_hand), d_l_draw := (PySem.W.fnOf "_law_draw" "_law_draw" (defArgs s_l_draw) (defBody s_l_draw) (defScope s_l_draw) .none kV_l_draw dc_l_draw pm_l_draw an_l_draw cd_l_draw ct_l_draw), d_l_word := (PySem.W.fnOf "_law_word" "_law_word" (defArgs s_l_word) (defBody s_l_word) (defScope s_l_word) .none kV_l_word dc_l_word pm_l_word an_l_word cd_l_word ct_l_word), d_l_near := (PySem.W.fnOf "_law_near" "_law_near" (defArgs s_l_near) (defBody s_l_near) (defScope s_l_near) .none kV_l_near dc_l_near pm_l_near an_l_near cd_l_near ct_l_near), d_l_heights := (PySem.W.fnOf "_law_heights" "_law_heights" (defArgs s_l_heights) (defBody s_l_heights) (defScope s_l_heights) .none kV_l_heights dc_l_heights pm_l_heights an_l_heights cd_l_heights ct_l_heights), d_l_bends := (PySem.W.fnOf "_law_bends" "_law_bends" (defArgs s_l_bends) (defBody s_l_bends) (defScope s_l_bends) .none kV_l_bends dc_l_bends pm_l_bends an_l_bends cd_l_bends ct_l_bends), d_l_runs := (PySem.W.fnOf "_law_runs" "_law_runs" (defArgs s_l_runs) (defBody s_l_runs) (defScope s_l_runs) .none kV_l_runs dc_l_runs pm_l_runs an_l_runs cd_l_runs ct_l_runs), d_l_refused := (PySem.W.fnOf "_law_refused" "_law_refused" (defArgs s_l_refused) (defBody s_l_refused) (defScope s_l_refused) .none kV_l_refused dc_l_refused pm_l_refused an_l_refused cd_l_refused ct_l_refused), d_l_numbers := (PySem.W.fnOf "_law_numbers" "_law_numbers" (defArgs s_l_numbers) (defBody s_l_numbers) (defScope s_l_numbers) .none kV_l_numbers dc_l_numbers pm_l_numbers an_l_numbers cd_l_numbers ct_l_numbers), d_l_right := (PySem.W.fnOf "_law_right" "_law_right" (defArgs s_l_right) (defBody s_l_right) (defScope s_l_right) .none kV_l_right dc_l_right pm_l_right an_l_right cd_l_right ct_l_right), d_law := (PySem.W.fnOf "law" "law" (defArgs s_law) (defBody s_law) (defScope s_law) .none kV_law dc_law pm_law an_law cd_law ct_law), d_BadColumn___init__ := (PySem.W.fnOf "__init__" "BadColumn.__init__" (defArgs s_BadColumn___init__) (defBody s_BadColumn___init__) (defScope s_BadColumn___init__) .none kV_BadColumn___init__ dc_BadColumn___init__ pm_BadColumn___init__ an_BadColumn___init__ cd_BadColumn___init__ ct_BadColumn___init__), d_BadBoundary___init__ := (PySem.W.fnOf "__init__" "BadBoundary.__init__" (defArgs s_BadBoundary___init__) (defBody s_BadBoundary___init__) (defScope s_BadBoundary___init__) .none kV_BadBoundary___init__ dc_BadBoundary___init__ pm_BadBoundary___init__ an_BadBoundary___init__ cd_BadBoundary___init__ ct_BadBoundary___init__), d_BadHeights___init__ := (PySem.W.fnOf "__init__" "BadHeights.__init__" (defArgs s_BadHeights___init__) (defBody s_BadHeights___init__) (defScope s_BadHeights___init__) .none kV_BadHeights___init__ dc_BadHeights___init__ pm_BadHeights___init__ an_BadHeights___init__ cd_BadHeights___init__ ct_BadHeights___init__), d_Column___init__ := (PySem.W.fnOf "__init__" "Column.__init__" (defArgs s_Column___init__) (defBody s_Column___init__) (defScope s_Column___init__) .none kV_Column___init__ dc_Column___init__ pm_Column___init__ an_Column___init__ cd_Column___init__ ct_Column___init__), d_Column_of_heights := (PySem.W.fnOf "of_heights" "Column.of_heights" (defArgs s_Column_of_heights) (defBody s_Column_of_heights) (defScope s_Column_of_heights) .none kV_Column_of_heights dc_Column_of_heights pm_Column_of_heights an_Column_of_heights cd_Column_of_heights ct_Column_of_heights), d_Column_many := (PySem.W.fnOf "many" "Column.many" (defArgs s_Column_many) (defBody s_Column_many) (defScope s_Column_many) .none kV_Column_many dc_Column_many pm_Column_many an_Column_many cd_Column_many ct_Column_many), d_Column_place := (PySem.W.fnOf "place" "Column.place" (defArgs s_Column_place) (defBody s_Column_place) (defScope s_Column_place) .none kV_Column_place dc_Column_place pm_Column_place an_Column_place cd_Column_place ct_Column_place), d_Column_height := (PySem.W.fnOf "height" "Column.height" (defArgs s_Column_height) (defBody s_Column_height) (defScope s_Column_height) .none kV_Column_height dc_Column_height pm_Column_height an_Column_height cd_Column_height ct_Column_height), d_Column_places := (PySem.W.fnOf "places" "Column.places" (defArgs s_Column_places) (defBody s_Column_places) (defScope s_Column_places) .none kV_Column_places dc_Column_places pm_Column_places an_Column_places cd_Column_places ct_Column_places), d_Column_heights := (PySem.W.fnOf "heights" "Column.heights" (defArgs s_Column_heights) (defBody s_Column_heights) (defScope s_Column_heights) .none kV_Column_heights dc_Column_heights pm_Column_heights an_Column_heights cd_Column_heights ct_Column_heights), d_Column_runs := (PySem.W.fnOf "runs" "Column.runs" (defArgs s_Column_runs) (defBody s_Column_runs) (defScope s_Column_runs) .none kV_Column_runs dc_Column_runs pm_Column_runs an_Column_runs cd_Column_runs ct_Column_runs), d_Column_creases := (PySem.W.fnOf "creases" "Column.creases" (defArgs s_Column_creases) (defBody s_Column_creases) (defScope s_Column_creases) .none kV_Column_creases dc_Column_creases pm_Column_creases an_Column_creases cd_Column_creases ct_Column_creases), d_Column_hollows := (PySem.W.fnOf "hollows" "Column.hollows" (defArgs s_Column_hollows) (defBody s_Column_hollows) (defScope s_Column_hollows) .none kV_Column_hollows dc_Column_hollows pm_Column_hollows an_Column_hollows cd_Column_hollows ct_Column_hollows), d_Column_ridges := (PySem.W.fnOf "ridges" "Column.ridges" (defArgs s_Column_ridges) (defBody s_Column_ridges) (defScope s_Column_ridges) .none kV_Column_ridges dc_Column_ridges pm_Column_ridges an_Column_ridges cd_Column_ridges ct_Column_ridges), d_Column_mirrored := (PySem.W.fnOf "mirrored" "Column.mirrored" (defArgs s_Column_mirrored) (defBody s_Column_mirrored) (defScope s_Column_mirrored) .none kV_Column_mirrored dc_Column_mirrored pm_Column_mirrored an_Column_mirrored cd_Column_mirrored ct_Column_mirrored), d_Column___eq__ := (PySem.W.fnOf "__eq__" "Column.__eq__" (defArgs s_Column___eq__) (defBody s_Column___eq__) (defScope s_Column___eq__) .none kV_Column___eq__ dc_Column___eq__ pm_Column___eq__ an_Column___eq__ cd_Column___eq__ ct_Column___eq__), d_Column___str__ := (PySem.W.fnOf "__str__" "Column.__str__" (defArgs s_Column___str__) (defBody s_Column___str__) (defScope s_Column___str__) .none kV_Column___str__ dc_Column___str__ pm_Column___str__ an_Column___str__ cd_Column___str__ ct_Column___str__), d_Column___len__ := (PySem.W.fnOf "__len__" "Column.__len__" (defArgs s_Column___len__) (defBody s_Column___len__) (defScope s_Column___len__) .none kV_Column___len__ dc_Column___len__ pm_Column___len__ an_Column___len__ cd_Column___len__ ct_Column___len__), d_Column___iter__ := (PySem.W.fnOf "__iter__" "Column.__iter__" (defArgs s_Column___iter__) (defBody s_Column___iter__) (defScope s_Column___iter__) .none kV_Column___iter__ dc_Column___iter__ pm_Column___iter__ an_Column___iter__ cd_Column___iter__ ct_Column___iter__), C_CardError := C_CardError, C_BadColumn := C_BadColumn, C_BadBoundary := C_BadBoundary, C_BadHeights := C_BadHeights, C_Column := C_Column, p_Column_of_heights := p_Column_of_heights, p_Column_places := p_Column_places, p_Column_heights := p_Column_heights, p_Column_runs := p_Column_runs, p_Column_creases := p_Column_creases, p_Column_hollows := p_Column_hollows, p_Column_ridges := p_Column_ridges } : Ads) := {
    D_is_number := ⟨F_is_number, b_is_number, PySem.W.mg_of X G a_is_number⟩,
    D_is_whole := ⟨F_is_whole, b_is_whole, PySem.W.mg_of X G a_is_whole⟩,
    D_is_sequence := ⟨F_is_sequence, b_is_sequence, PySem.W.mg_of X G a_is_sequence⟩,
    D_word_fault := ⟨F_word_fault, b_word_fault, PySem.W.mg_of X G a_word_fault⟩,
    D_heights_fault := ⟨F_heights_fault, b_heights_fault, PySem.W.mg_of X G a_heights_fault⟩,
    D_l_mix := ⟨F_l_mix, b_l_mix, PySem.W.mg_of X G a_l_mix⟩,
    D_l_hand := ⟨F_l_hand, b_l_hand, PySem.W.mg_of X G a_l_hand⟩,
    D_l_draw := ⟨F_l_draw, b_l_draw, PySem.W.mg_of X G a_l_draw⟩,
    D_l_word := ⟨F_l_word, b_l_word, PySem.W.mg_of X G a_l_word⟩,
    D_l_near := ⟨F_l_near, b_l_near, PySem.W.mg_of X G a_l_near⟩,
    D_l_heights := ⟨F_l_heights, b_l_heights, PySem.W.mg_of X G a_l_heights⟩,
    D_l_bends := ⟨F_l_bends, b_l_bends, PySem.W.mg_of X G a_l_bends⟩,
    D_l_runs := ⟨F_l_runs, b_l_runs, PySem.W.mg_of X G a_l_runs⟩,
    D_l_refused := ⟨F_l_refused, b_l_refused, PySem.W.mg_of X G a_l_refused⟩,
    D_l_numbers := ⟨F_l_numbers, b_l_numbers, PySem.W.mg_of X G a_l_numbers⟩,
    D_l_right := ⟨F_l_right, b_l_right, PySem.W.mg_of X G a_l_right⟩,
    D_law := ⟨F_law, b_law, PySem.W.mg_of X G a_law⟩,
    D_BadColumn___init__ := ⟨F_BadColumn___init__, b_BadColumn___init__⟩,
    D_BadBoundary___init__ := ⟨F_BadBoundary___init__, b_BadBoundary___init__⟩,
    D_BadHeights___init__ := ⟨F_BadHeights___init__, b_BadHeights___init__⟩,
    D_Column___init__ := ⟨F_Column___init__, b_Column___init__⟩,
    D_Column_of_heights := ⟨F_Column_of_heights, b_Column_of_heights⟩,
    D_Column_many := ⟨F_Column_many, b_Column_many⟩,
    D_Column_place := ⟨F_Column_place, b_Column_place⟩,
    D_Column_height := ⟨F_Column_height, b_Column_height⟩,
    D_Column_places := ⟨F_Column_places, b_Column_places⟩,
    D_Column_heights := ⟨F_Column_heights, b_Column_heights⟩,
    D_Column_runs := ⟨F_Column_runs, b_Column_runs⟩,
    D_Column_creases := ⟨F_Column_creases, b_Column_creases⟩,
    D_Column_hollows := ⟨F_Column_hollows, b_Column_hollows⟩,
    D_Column_ridges := ⟨F_Column_ridges, b_Column_ridges⟩,
    D_Column_mirrored := ⟨F_Column_mirrored, b_Column_mirrored⟩,
    D_Column___eq__ := ⟨F_Column___eq__, b_Column___eq__⟩,
    D_Column___str__ := ⟨F_Column___str__, b_Column___str__⟩,
    D_Column___len__ := ⟨F_Column___len__, b_Column___len__⟩,
    D_Column___iter__ := ⟨F_Column___iter__, b_Column___iter__⟩,
    g_CardError := PySem.W.mg_of X G ac_CardError,
    x_BadColumn := ⟨PySem.W.mg_of X G ac_BadColumn, ⟨⟨_, _, _, _, _, _, _, _, _, _, _, _, _, _, _, xl_BadColumn, rv_BadColumn⟩, sa_BadColumn, ec_BadColumn, ty_BadColumn, kc_BadColumn⟩, ⟨ga_BadColumn, gg_BadColumn, ec_BadColumn, hd_BadColumn⟩, a_BadColumn___init__, ti_BadColumn, exm_of ec_BadColumn ic_BadColumn ty_BadColumn ss_BadColumn⟩,
    g_BadColumn := PySem.W.mg_of X G ac_BadColumn,
    n_BadColumn_what := n_BadColumn_what,
    up_BadColumn_CardError := exm_of ec_CardError ic_CardError ty_CardError up_BadColumn_CardError,
    x_BadBoundary := ⟨PySem.W.mg_of X G ac_BadBoundary, ⟨⟨_, _, _, _, _, _, _, _, _, _, _, _, _, _, _, xl_BadBoundary, rv_BadBoundary⟩, sa_BadBoundary, ec_BadBoundary, ty_BadBoundary, kc_BadBoundary⟩, ⟨ga_BadBoundary, gg_BadBoundary, ec_BadBoundary, hd_BadBoundary⟩, a_BadBoundary___init__, ti_BadBoundary, exm_of ec_BadBoundary ic_BadBoundary ty_BadBoundary ss_BadBoundary⟩,
    g_BadBoundary := PySem.W.mg_of X G ac_BadBoundary,
    n_BadBoundary_boundary := n_BadBoundary_boundary,
    up_BadBoundary_CardError := exm_of ec_CardError ic_CardError ty_CardError up_BadBoundary_CardError,
    x_BadHeights := ⟨PySem.W.mg_of X G ac_BadHeights, ⟨⟨_, _, _, _, _, _, _, _, _, _, _, _, _, _, _, xl_BadHeights, rv_BadHeights⟩, sa_BadHeights, ec_BadHeights, ty_BadHeights, kc_BadHeights⟩, ⟨ga_BadHeights, gg_BadHeights, ec_BadHeights, hd_BadHeights⟩, a_BadHeights___init__, ti_BadHeights, exm_of ec_BadHeights ic_BadHeights ty_BadHeights ss_BadHeights⟩,
    g_BadHeights := PySem.W.mg_of X G ac_BadHeights,
    n_BadHeights_index := n_BadHeights_index,
    n_BadHeights_what := n_BadHeights_what,
    up_BadHeights_CardError := exm_of ec_CardError ic_CardError ty_CardError up_BadHeights_CardError,
    g_Column := PySem.W.mg_of X G ac_Column,
    cl_Column := ⟨pg_Column, hd_Column, po_Column, sa_Column⟩,
    i1_Column := i1_Column,
    i4_Column := i4_Column,
    ii_Column := kit_self,
    it_str_Column := kit_own ic_Column ty_Column it_str_Column,
    it_int_Column := kit_own ic_Column ty_Column it_int_Column,
    it_bool_Column := kit_own ic_Column ty_Column it_bool_Column,
    it_NoneType_Column := kit_own ic_Column ty_Column it_NoneType_Column,
    it_list_Column := kit_own ic_Column ty_Column it_list_Column,
    it_tuple_Column := kit_own ic_Column ty_Column it_tuple_Column,
    it_dict_Column := kit_own ic_Column ty_Column it_dict_Column,
    ti_Column_str := kit_kind (by decide +kernel) ti_str_Column,
    ti_Column_int := kit_kind (by decide +kernel) ti_int_Column,
    ti_Column_bool := kit_kind (by decide +kernel) ti_bool_Column,
    ti_Column_list := kit_kind (by decide +kernel) ti_list_Column,
    ti_Column_tuple := kit_kind (by decide +kernel) ti_tuple_Column,
    subt_Column := it_tuple_Column,
    subl_Column := it_list_Column,
    sub_Column := sub_Column,
    ne_Column := ⟨ne_Column, i4_Column⟩,
    cr_Column := ⟨rd_Column, rg_Column⟩,
    mk_Column := ⟨mk_Column, a_Column___init__, fn_Column___init__, kc_Column⟩,
    n_Column_word := n_Column_word,
    n_Column_size := n_Column_size,
    st_Column_of_heights := smet_of a0_Column_of_heights a_Column_of_heights pt_Column_of_heights pg_Column_of_heights r_Column_of_heights k_Column_of_heights,
    o_Column_many := ⟨a_Column_many, fn_Column_many⟩,
    m_Column_many := ⟨a_Column_many, fn_Column_many, k_Column_many⟩,
    o_Column_place := ⟨a_Column_place, fn_Column_place⟩,
    m_Column_place := ⟨a_Column_place, fn_Column_place, k_Column_place⟩,
    o_Column_height := ⟨a_Column_height, fn_Column_height⟩,
    m_Column_height := ⟨a_Column_height, fn_Column_height, k_Column_height⟩,
    p_Column_places := ⟨a_Column_places, pg_Column_places, pt_Column_places, ⟨_, r_Column_places⟩⟩,
    p_Column_heights := ⟨a_Column_heights, pg_Column_heights, pt_Column_heights, ⟨_, r_Column_heights⟩⟩,
    p_Column_runs := ⟨a_Column_runs, pg_Column_runs, pt_Column_runs, ⟨_, r_Column_runs⟩⟩,
    p_Column_creases := ⟨a_Column_creases, pg_Column_creases, pt_Column_creases, ⟨_, r_Column_creases⟩⟩,
    p_Column_hollows := ⟨a_Column_hollows, pg_Column_hollows, pt_Column_hollows, ⟨_, r_Column_hollows⟩⟩,
    p_Column_ridges := ⟨a_Column_ridges, pg_Column_ridges, pt_Column_ridges, ⟨_, r_Column_ridges⟩⟩,
    o_Column_mirrored := ⟨a_Column_mirrored, fn_Column_mirrored⟩,
    m_Column_mirrored := ⟨a_Column_mirrored, fn_Column_mirrored, k_Column_mirrored⟩,
    o_Column___eq__ := ⟨a_Column___eq__, fn_Column___eq__⟩,
    m_Column___eq__ := ⟨a_Column___eq__, fn_Column___eq__, k_Column___eq__⟩,
    o_Column___str__ := ⟨a_Column___str__, fn_Column___str__⟩,
    m_Column___str__ := ⟨a_Column___str__, fn_Column___str__, k_Column___str__⟩,
    o_Column___len__ := ⟨a_Column___len__, fn_Column___len__⟩,
    m_Column___len__ := ⟨a_Column___len__, fn_Column___len__, k_Column___len__⟩,
    o_Column___iter__ := ⟨a_Column___iter__, fn_Column___iter__⟩,
    m_Column___iter__ := ⟨a_Column___iter__, fn_Column___iter__, k_Column___iter__⟩,
    c_MOST_SIZE := ⟨_, PySem.W.mg_of X G kc_MOST_SIZE⟩,
    i2 := i2,
    i3 := i3,
    b_ValueError := PySem.W.mg_none_of X G z_ValueError,
    b_abs := PySem.W.mg_none_of X G z_abs,
    b_all := PySem.W.mg_none_of X G z_all,
    b_bool := PySem.W.mg_none_of X G z_bool,
    b_enumerate := PySem.W.mg_none_of X G z_enumerate,
    b_int := PySem.W.mg_none_of X G z_int,
    b_isinstance := PySem.W.mg_none_of X G z_isinstance,
    b_iter := PySem.W.mg_none_of X G z_iter,
    b_len := PySem.W.mg_none_of X G z_len,
    b_list := PySem.W.mg_none_of X G z_list,
    b_property := PySem.W.mg_none_of X G z_property,
    b_range := PySem.W.mg_none_of X G z_range,
    b_staticmethod := PySem.W.mg_none_of X G z_staticmethod,
    b_str := PySem.W.mg_none_of X G z_str,
    b_tuple := PySem.W.mg_none_of X G z_tuple }
  exact ⟨(PySem.W.fnOf "law" "law" (defArgs s_law) (defBody s_law) (defScope s_law) .none kV_law dc_law pm_law an_law cd_law ct_law), fun s v => .of_eq rfl, fun base _ _ => ok_law T⟩
theorem walk {l : PySem.W.OpenLaw} {q : Program} {loose : List Str} {XP : (Str → Option Value) → Heap → Prop} {YP : World → Heap → Prop} {d : DefRec} {K : Params → PySem.W.Frag} (hn : l.most = some 63) (hdf : d.params.defaults = [])
    (hY : ∀ (w : World) (h : Heap), YP w h → (K w.params).In h)
    (F : ∀ (w : World) (mg : Str → Option Value) (fa : Addr) (h : Heap), (K w.params).In h → h.Ns mainGlobals mg → mg d.name = some (.ref fa) →
      ∃ fd : FuncData, (∀ (s : Shared) (u : Value), BindsTo s fd ⟨[u], []⟩ [("_law_script", u)]) ∧ ∀ base : Heap, (K w.params).In base → base.Ns mainGlobals mg → FnOk l.prog w (K w.params) mg base CX0 8 fa fd ["_law_script"] (spLaw (K w.params))) :
    PySem.W.WalkO q loose XP YP l.row.toRowW d [] (fun f vs => PySem.call f vs) :=
  L2.walk_ofB (n := 63) (k := 8) (x := "_law_script") (CX := fun _ => CX0) (sp := fun w => spLaw (K w.params)) hn (by decide) hdf ⟨rfl, by decide, by decide⟩ hY F (fun _ _ a ns hl _ _ hS => ⟨a, ns, rfl, hS, hl, fun _ => rfl⟩) fun _ _ _ _ _ z => z


end Sl
open PySem PySem.W PyProof.Rows
set_option maxRecDepth 100000 in
set_option maxHeartbeats 0 in
theorem PySem.Challenge.cw_slitstairs_k02_whole_heights_places_and_holds : PySem.Challenge.rw_slitstairs_k02_whole_heights_places_and.Holds := by
  w_on; o_law; k_head; (case hw => w_witness2)
  k_fill
  refine Sl.walk (l := PySem.Challenge.rw_slitstairs_k02_whole_heights_places_and) rfl rfl (fun w h Y => PySem.W.kIn_of Y) ?F
  case F =>
    intro w mg fa h KX G hmg
    refine' Sl.all_mk KX G hmg ?ac_CardError ?ac_BadColumn ?ac_BadBoundary ?ac_BadHeights ?ac_Column ?a_is_number ?l_is_number ?c_is_number ?k_is_number ?a_is_whole ?l_is_whole ?c_is_whole ?k_is_whole ?a_is_sequence ?l_is_sequence ?c_is_sequence ?k_is_sequence ?a_word_fault ?l_word_fault ?c_word_fault ?k_word_fault ?a_heights_fault ?l_heights_fault ?c_heights_fault ?k_heights_fault ?a_l_mix ?l_l_mix ?c_l_mix ?k_l_mix ?a_l_hand ?l_l_hand ?c_l_hand ?k_l_hand ?a_l_draw ?l_l_draw ?c_l_draw ?k_l_draw ?a_l_word ?l_l_word ?c_l_word ?k_l_word ?a_l_near ?l_l_near ?c_l_near ?k_l_near ?a_l_heights ?l_l_heights ?c_l_heights ?k_l_heights ?a_l_bends ?l_l_bends ?c_l_bends ?k_l_bends ?a_l_runs ?l_l_runs ?c_l_runs ?k_l_runs ?a_l_refused ?l_l_refused ?c_l_refused ?k_l_refused ?a_l_numbers ?l_l_numbers ?c_l_numbers ?k_l_numbers ?a_l_right ?l_l_right ?c_l_right ?k_l_right ?a_law ?l_law ?c_law ?k_law ?a_BadColumn___init__ ?l_BadColumn___init__ ?c_BadColumn___init__ ?k_BadColumn___init__ ?fn_BadColumn___init__ ?a_BadBoundary___init__ ?l_BadBoundary___init__ ?c_BadBoundary___init__ ?k_BadBoundary___init__ ?fn_BadBoundary___init__ ?a_BadHeights___init__ ?l_BadHeights___init__ ?c_BadHeights___init__ ?k_BadHeights___init__ ?fn_BadHeights___init__ ?a_Column___init__ ?l_Column___init__ ?c_Column___init__ ?k_Column___init__ ?fn_Column___init__ ?a0_Column_of_heights ?a_Column_of_heights ?r_Column_of_heights ?pg_Column_of_heights ?pt_Column_of_heights ?l_Column_of_heights ?c_Column_of_heights ?k_Column_of_heights ?a_Column_many ?l_Column_many ?c_Column_many ?k_Column_many ?fn_Column_many ?a_Column_place ?l_Column_place ?c_Column_place ?k_Column_place ?fn_Column_place ?a_Column_height ?l_Column_height ?c_Column_height ?k_Column_height ?fn_Column_height ?a_Column_places ?r_Column_places ?pg_Column_places ?pt_Column_places ?l_Column_places ?c_Column_places ?k_Column_places ?a_Column_heights ?r_Column_heights ?pg_Column_heights ?pt_Column_heights ?l_Column_heights ?c_Column_heights ?k_Column_heights ?a_Column_runs ?r_Column_runs ?pg_Column_runs ?pt_Column_runs ?l_Column_runs ?c_Column_runs ?k_Column_runs ?a_Column_creases ?r_Column_creases ?pg_Column_creases ?pt_Column_creases ?l_Column_creases ?c_Column_creases ?k_Column_creases ?a_Column_hollows ?r_Column_hollows ?pg_Column_hollows ?pt_Column_hollows ?l_Column_hollows ?c_Column_hollows ?k_Column_hollows ?a_Column_ridges ?r_Column_ridges ?pg_Column_ridges ?pt_Column_ridges ?l_Column_ridges ?c_Column_ridges ?k_Column_ridges ?a_Column_mirrored ?l_Column_mirrored ?c_Column_mirrored ?k_Column_mirrored ?fn_Column_mirrored ?a_Column___eq__ ?l_Column___eq__ ?c_Column___eq__ ?k_Column___eq__ ?fn_Column___eq__ ?a_Column___str__ ?l_Column___str__ ?c_Column___str__ ?k_Column___str__ ?fn_Column___str__ ?a_Column___len__ ?l_Column___len__ ?c_Column___len__ ?k_Column___len__ ?fn_Column___len__ ?a_Column___iter__ ?l_Column___iter__ ?c_Column___iter__ ?k_Column___iter__ ?fn_Column___iter__ ?ec_CardError ?ty_CardError ?ic_CardError ?ss_CardError ?xl_BadColumn ?rv_BadColumn ?sa_BadColumn ?ga_BadColumn ?gg_BadColumn ?kc_BadColumn ?hd_BadColumn ?ti_BadColumn ?ec_BadColumn ?ty_BadColumn ?ic_BadColumn ?ss_BadColumn ?n_BadColumn_what ?up_BadColumn_CardError ?xl_BadBoundary ?rv_BadBoundary ?sa_BadBoundary ?ga_BadBoundary ?gg_BadBoundary ?kc_BadBoundary ?hd_BadBoundary ?ti_BadBoundary ?ec_BadBoundary ?ty_BadBoundary ?ic_BadBoundary ?ss_BadBoundary ?n_BadBoundary_boundary ?up_BadBoundary_CardError ?xl_BadHeights ?rv_BadHeights ?sa_BadHeights ?ga_BadHeights ?gg_BadHeights ?kc_BadHeights ?hd_BadHeights ?ti_BadHeights ?ec_BadHeights ?ty_BadHeights ?ic_BadHeights ?ss_BadHeights ?n_BadHeights_index ?n_BadHeights_what ?up_BadHeights_CardError ?pg_Column ?hd_Column ?po_Column ?sa_Column ?i1_Column ?i4_Column ?ic_Column ?ty_Column ?it_str_Column ?it_int_Column ?it_bool_Column ?it_NoneType_Column ?it_list_Column ?it_tuple_Column ?it_dict_Column ?ti_str_Column ?ti_int_Column ?ti_bool_Column ?ti_list_Column ?ti_tuple_Column ?sub_Column ?ne_Column ?rd_Column ?rg_Column ?mk_Column ?kc_Column ?n_Column_word ?n_Column_size ?kc_MOST_SIZE ?i2 ?i3 ?z_ValueError ?z_abs ?z_all ?z_bool ?z_enumerate ?z_int ?z_isinstance ?z_iter ?z_len ?z_list ?z_property ?z_range ?z_staticmethod ?z_str ?z_tuple
    (case ac_CardError => k_is)
    (case ac_BadColumn => k_is)
    (case ac_BadBoundary => k_is)
    (case ac_BadHeights => k_is)
    (case ac_Column => k_is)
    (case a_is_number => k_is)
    (case l_is_number => k_is)
    (case c_is_number => k_is)
    (case k_is_number => k_is)
    (case a_is_whole => k_is)
    (case l_is_whole => k_is)
    (case c_is_whole => k_is)
    (case k_is_whole => k_is)
    (case a_is_sequence => k_is)
    (case l_is_sequence => k_is)
    (case c_is_sequence => k_is)
    (case k_is_sequence => k_is)
    (case a_word_fault => k_is)
    (case l_word_fault => k_is)
    (case c_word_fault => k_is)
    (case k_word_fault => k_is)
    (case a_heights_fault => k_is)
    (case l_heights_fault => k_is)
    (case c_heights_fault => k_is)
    (case k_heights_fault => k_is)
    (case a_l_mix => k_is)
    (case l_l_mix => k_is)
    (case c_l_mix => k_is)
    (case k_l_mix => k_is)
    (case a_l_hand => k_is)
    (case l_l_hand => k_is)
    (case c_l_hand => k_is)
    (case k_l_hand => k_is)
    (case a_l_draw => k_is)
    (case l_l_draw => k_is)
    (case c_l_draw => k_is)
    (case k_l_draw => k_is)
    (case a_l_word => k_is)
    (case l_l_word => k_is)
    (case c_l_word => k_is)
    (case k_l_word => k_is)
    (case a_l_near => k_is)
    (case l_l_near => k_is)
    (case c_l_near => k_is)
    (case k_l_near => k_is)
    (case a_l_heights => k_is)
    (case l_l_heights => k_is)
    (case c_l_heights => k_is)
    (case k_l_heights => k_is)
    (case a_l_bends => k_is)
    (case l_l_bends => k_is)
    (case c_l_bends => k_is)
    (case k_l_bends => k_is)
    (case a_l_runs => k_is)
    (case l_l_runs => k_is)
    (case c_l_runs => k_is)
    (case k_l_runs => k_is)
    (case a_l_refused => k_is)
    (case l_l_refused => k_is)
    (case c_l_refused => k_is)
    (case k_l_refused => k_is)
    (case a_l_numbers => k_is)
    (case l_l_numbers => k_is)
    (case c_l_numbers => k_is)
    (case k_l_numbers => k_is)
    (case a_l_right => k_is)
    (case l_l_right => k_is)
    (case c_l_right => k_is)
    (case k_l_right => k_is)
    (case a_law => k_is)
    (case l_law => k_is)
    (case c_law => k_is)
    (case k_law => k_is)
    (case a_BadColumn___init__ => k_is)
    (case l_BadColumn___init__ => k_is)
    (case c_BadColumn___init__ => k_is)
    (case k_BadColumn___init__ => k_is)
    (case fn_BadColumn___init__ => k_is)
    (case a_BadBoundary___init__ => k_is)
    (case l_BadBoundary___init__ => k_is)
    (case c_BadBoundary___init__ => k_is)
    (case k_BadBoundary___init__ => k_is)
    (case fn_BadBoundary___init__ => k_is)
    (case a_BadHeights___init__ => k_is)
    (case l_BadHeights___init__ => k_is)
    (case c_BadHeights___init__ => k_is)
    (case k_BadHeights___init__ => k_is)
    (case fn_BadHeights___init__ => k_is)
    (case a_Column___init__ => k_is)
    (case l_Column___init__ => k_is)
    (case c_Column___init__ => k_is)
    (case k_Column___init__ => k_is)
    (case fn_Column___init__ => k_is)
    (case a0_Column_of_heights => k_is)
    (case a_Column_of_heights => k_is)
    (case r_Column_of_heights => k_is)
    (case pg_Column_of_heights => k_is)
    (case pt_Column_of_heights => k_is)
    (case l_Column_of_heights => k_is)
    (case c_Column_of_heights => k_is)
    (case k_Column_of_heights => k_is)
    (case a_Column_many => k_is)
    (case l_Column_many => k_is)
    (case c_Column_many => k_is)
    (case k_Column_many => k_is)
    (case fn_Column_many => k_is)
    (case a_Column_place => k_is)
    (case l_Column_place => k_is)
    (case c_Column_place => k_is)
    (case k_Column_place => k_is)
    (case fn_Column_place => k_is)
    (case a_Column_height => k_is)
    (case l_Column_height => k_is)
    (case c_Column_height => k_is)
    (case k_Column_height => k_is)
    (case fn_Column_height => k_is)
    (case a_Column_places => k_is)
    (case r_Column_places => k_is)
    (case pg_Column_places => k_is)
    (case pt_Column_places => k_is)
    (case l_Column_places => k_is)
    (case c_Column_places => k_is)
    (case k_Column_places => k_is)
    (case a_Column_heights => k_is)
    (case r_Column_heights => k_is)
    (case pg_Column_heights => k_is)
    (case pt_Column_heights => k_is)
    (case l_Column_heights => k_is)
    (case c_Column_heights => k_is)
    (case k_Column_heights => k_is)
    (case a_Column_runs => k_is)
    (case r_Column_runs => k_is)
    (case pg_Column_runs => k_is)
    (case pt_Column_runs => k_is)
    (case l_Column_runs => k_is)
    (case c_Column_runs => k_is)
    (case k_Column_runs => k_is)
    (case a_Column_creases => k_is)
    (case r_Column_creases => k_is)
    (case pg_Column_creases => k_is)
    (case pt_Column_creases => k_is)
    (case l_Column_creases => k_is)
    (case c_Column_creases => k_is)
    (case k_Column_creases => k_is)
    (case a_Column_hollows => k_is)
    (case r_Column_hollows => k_is)
    (case pg_Column_hollows => k_is)
    (case pt_Column_hollows => k_is)
    (case l_Column_hollows => k_is)
    (case c_Column_hollows => k_is)
    (case k_Column_hollows => k_is)
    (case a_Column_ridges => k_is)
    (case r_Column_ridges => k_is)
    (case pg_Column_ridges => k_is)
    (case pt_Column_ridges => k_is)
    (case l_Column_ridges => k_is)
    (case c_Column_ridges => k_is)
    (case k_Column_ridges => k_is)
    (case a_Column_mirrored => k_is)
    (case l_Column_mirrored => k_is)
    (case c_Column_mirrored => k_is)
    (case k_Column_mirrored => k_is)
    (case fn_Column_mirrored => k_is)
    (case a_Column___eq__ => k_is)
    (case l_Column___eq__ => k_is)
    (case c_Column___eq__ => k_is)
    (case k_Column___eq__ => k_is)
    (case fn_Column___eq__ => k_is)
    (case a_Column___str__ => k_is)
    (case l_Column___str__ => k_is)
    (case c_Column___str__ => k_is)
    (case k_Column___str__ => k_is)
    (case fn_Column___str__ => k_is)
    (case a_Column___len__ => k_is)
    (case l_Column___len__ => k_is)
    (case c_Column___len__ => k_is)
    (case k_Column___len__ => k_is)
    (case fn_Column___len__ => k_is)
    (case a_Column___iter__ => k_is)
    (case l_Column___iter__ => k_is)
    (case c_Column___iter__ => k_is)
    (case k_Column___iter__ => k_is)
    (case fn_Column___iter__ => k_is)
    (case ec_CardError => k_is)
    (case ty_CardError => k_is)
    (case ic_CardError => k_is)
    (case ss_CardError => first | rfl | k_is)
    (case xl_BadColumn => k_is)
    (case rv_BadColumn => first | rfl | decide +kernel)
    (case sa_BadColumn => k_is)
    (case ga_BadColumn => k_is)
    (case gg_BadColumn => k_is)
    (case kc_BadColumn => k_is)
    (case hd_BadColumn => k_is)
    (case ti_BadColumn => k_is)
    (case ec_BadColumn => k_is)
    (case ty_BadColumn => k_is)
    (case ic_BadColumn => k_is)
    (case ss_BadColumn => first | rfl | k_is)
    (case n_BadColumn_what => k_is)
    (case up_BadColumn_CardError => k_is)
    (case xl_BadBoundary => k_is)
    (case rv_BadBoundary => first | rfl | decide +kernel)
    (case sa_BadBoundary => k_is)
    (case ga_BadBoundary => k_is)
    (case gg_BadBoundary => k_is)
    (case kc_BadBoundary => k_is)
    (case hd_BadBoundary => k_is)
    (case ti_BadBoundary => k_is)
    (case ec_BadBoundary => k_is)
    (case ty_BadBoundary => k_is)
    (case ic_BadBoundary => k_is)
    (case ss_BadBoundary => first | rfl | k_is)
    (case n_BadBoundary_boundary => k_is)
    (case up_BadBoundary_CardError => k_is)
    (case xl_BadHeights => k_is)
    (case rv_BadHeights => first | rfl | decide +kernel)
    (case sa_BadHeights => k_is)
    (case ga_BadHeights => k_is)
    (case gg_BadHeights => k_is)
    (case kc_BadHeights => k_is)
    (case hd_BadHeights => k_is)
    (case ti_BadHeights => k_is)
    (case ec_BadHeights => k_is)
    (case ty_BadHeights => k_is)
    (case ic_BadHeights => k_is)
    (case ss_BadHeights => first | rfl | k_is)
    (case n_BadHeights_index => k_is)
    (case n_BadHeights_what => k_is)
    (case up_BadHeights_CardError => k_is)
    (case pg_Column => k_is)
    (case hd_Column => k_is)
    (case po_Column => k_is)
    (case sa_Column => k_is)
    (case i1_Column => k_is)
    (case i4_Column => k_is)
    (case ic_Column => k_is)
    (case ty_Column => k_is)
    (case it_str_Column => k_is)
    (case it_int_Column => k_is)
    (case it_bool_Column => k_is)
    (case it_NoneType_Column => k_is)
    (case it_list_Column => k_is)
    (case it_tuple_Column => k_is)
    (case it_dict_Column => k_is)
    (case ti_str_Column => k_is)
    (case ti_int_Column => k_is)
    (case ti_bool_Column => k_is)
    (case ti_list_Column => k_is)
    (case ti_tuple_Column => k_is)
    (case sub_Column => k_is)
    (case ne_Column => k_is)
    (case rd_Column => k_is)
    (case rg_Column => k_is)
    (case mk_Column => k_is)
    (case kc_Column => k_is)
    (case n_Column_word => k_is)
    (case n_Column_size => k_is)
    (case kc_MOST_SIZE => k_is)
    (case i2 => k_is)
    (case i3 => k_is)
    (case z_ValueError => k_is)
    (case z_abs => k_is)
    (case z_all => k_is)
    (case z_bool => k_is)
    (case z_enumerate => k_is)
    (case z_int => k_is)
    (case z_isinstance => k_is)
    (case z_iter => k_is)
    (case z_len => k_is)
    (case z_list => k_is)
    (case z_property => k_is)
    (case z_range => k_is)
    (case z_staticmethod => k_is)
    (case z_str => k_is)
    (case z_tuple => k_is)
