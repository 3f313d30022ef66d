import PyProof.Rows.All
import Wide.All
import OpenK.AllK
import Wide.FinOn
import HandS.ForMost
import HandS.ForExc
import HandS.Flow
import HandS.IsInst
import HandS.More
import HandS.Steps
import HandS.NoneIn
import HandS.Conv
import HandS.RevRange
import PyProof.TypeEq
import PyProof.Rows.CountFlat
import HandS.Style
import HandS.Rev
import PySem.Challenge.RW_stickmarks_k01_seats_in_a_row
set_option Elab.async false
set_option linter.all false
set_option maxRecDepth 100000
set_option maxHeartbeats 4000000
namespace Sk
open PySem PySem.Spec PyProof.Rows L2

/-! ### own rules at values -/
section
variable {X : Cx}
inductive TyN : String → Prop where
  | non : TyN "NoneType" | bl : TyN "bool" | int : TyN "int" | str : TyN "str" | byt : TyN "bytes" | lst : TyN "list" | tup : TyN "tuple" | dK : TyN "dict"
theorem ty_is {n : String} (h : TyN n) (s : Shared) : s.TypeIs (.type n) "type" := by
  cases h with
  | non => exact TypeEq.meta_NoneType s
  | bl => exact TypeEq.meta_bool s
  | int => exact TypeEq.meta_int s
  | str => exact TypeEq.meta_str s
  | byt => exact TypeEq.meta_bytes s
  | lst => exact TypeEq.meta_list s
  | tup => exact TypeEq.meta_tuple s
  | dK => exact TypeEq.meta_dict s
theorem tyN_of {K : PySem.W.Frag} {H : Hp} {x : V} {T : String} (t : TyB K H x T) : TyN T := by
  cases t with
  | non => exact .non
  | bl _ => exact .bl
  | int _ => exact .int
  | str _ => exact .str
  | byt _ => exact .byt
  | lst _ => exact .lst
  | tup _ => exact .tup
  | dK _ => exact .dK
theorem ty_int {K : PySem.W.Frag} {H : Hp} {x : V} {T : String} (t : TyB K H x T) (e : T = "int") : ∃ n, x = .int n := by
  cases t <;> first | exact ⟨_, rfl⟩ | exact absurd e (by decide)
theorem ty_str {K : PySem.W.Frag} {H : Hp} {x : V} {T : String} (t : TyB K H x T) (e : T = "str") : ∃ n, x = .str n := by
  cases t <;> first | exact ⟨_, rfl⟩ | exact absurd e (by decide)
theorem str_ty {K : PySem.W.Frag} {H : Hp} {n : Str} {T : String} (t : TyB K H (.str n) T) : T = "str" := by
  cases t
  rfl
theorem int_ty {K : PySem.W.Frag} {H : Hp} {n : Int} {T : String} (t : TyB K H (.int n) T) : T = "int" := by
  cases t
  rfl
/-- a == b of two built-in types -/
def rEqTy : R2 := fun x y H Q => ∃ a b, x = .ty a ∧ y = .ty b ∧ TyN a ∧ TyN b ∧ Q (.bl (decide (a = b))) H
theorem op_eqTy : OpR X (compareOp .Eq) rEqTy := by
  intro pins s σ H x y v u Q I rx ry h
  obtain ⟨a, b, rfl, rfl, na, nb, q⟩ := h
  cases (show v = Value.type a from rx)
  cases (show u = Value.type b from ry)
  by_cases e : a = b
  · subst e
    refine TypeEq.eq_type_same (fun s' => ty_is na s') ⟨.bl true, H, I, rfl, ?_⟩
    simpa using q
  · refine TypeEq.eq_type_other (fun s' => ty_is na s') (fun s' => ty_is nb s') ?_ ⟨.bl false, H, I, rfl, ?_⟩
    · exact beq_eq_false_iff_ne.mpr fun z => e (Value.type.inj z)
    · simpa [e] using q
def isBl (k : Bool) : Value → Bool := isBoolOf k
theorem isBl_at {h : Heap} (k : Bool) : ∀ {bs : List Bool} {its : List Value}, Vals (bs.map V.bl) its → ∀ y ∈ its, ∀ (A : Around) (s : Shared), SeqAt.EqAt A s y (.bool k) (isBoolOf k y)
  | [], _, r, y, hy, _, _ => by cases r; cases hy
  | b :: bs, _, r, y, hy, A, s => by
    cases r with
    | cons r1 r2 =>
      cases (show _ = Value.bool b from r1)
      rcases List.mem_cons.mp hy with e | hy
      · rw [e]; exact SeqAt.EqAt.bool_bool b k
      · exact isBl_at (h := h) k r2 y hy A s
theorem isBl_count (k : Bool) : ∀ {bs : List Bool} {its : List Value}, Vals (bs.map V.bl) its → its.countP (isBoolOf k) = bs.count k
  | [], _, r => by cases r; rfl
  | b :: bs, _, r => by
    cases r with
    | cons r1 r2 =>
      cases (show _ = Value.bool b from r1)
      rw [List.countP_cons, List.count_cons, isBl_count k r2]
      rfl
/-- xs.count(b), a list of truths -/
def rCntB (K : PySem.W.Frag) : V → List V → Hp → VK → Prop := fun x xs H Q => ∃ (p : Addr) (bs : List Bool) (k : Bool), x = .ref p ∧ xs = [.bl k] ∧ SqL K H p (bs.map V.bl) ∧ Q (.int (bs.count k : Nat)) H
theorem mt_countB : MtR X "list.count" (rCntB X.K) := by
  intro pins s σ H x xs v us Q I rx rxs h
  obtain ⟨p, bs, k, rfl, rfl, hs, q⟩ := h
  cases rx
  obtain ⟨u, rfl, ru⟩ := rxs.one
  cases (show u = Value.bool k from ru)
  obtain ⟨its, rv, ⟨⟨cls, dd, data, sl⟩, n, ho, hc, hdn, hd⟩, hlen⟩ := I.list hs
  simp only at hc hd
  subst hc hd
  refine call_meets PySem.F.slot_list_count ⟨_, ho, rfl⟩ PySem.F.entry_list_count (PySem.F.args_list_count_2 _ _)
    (SeqAt.list_countAt p its.toArray n dd sl (.bool k) (isBoolOf k)) ⟨ho, fun y hy => isBl_at (h := s.heap) k rv y (by simpa using hy) _ _, ?_⟩
  have ec : its.toArray.toList.countP (isBoolOf k) = bs.count k := isBl_count k rv
  refine ⟨.int (bs.count k : Nat), H, I.tok _, ⟨s.toks, ?_⟩, q⟩
  show Value.int ((its.toArray.toList.countP (isBoolOf k) : Nat) : Int) s.toks = Value.int ((bs.count k : Nat) : Int) s.toks
  rw [ec]
end

/-! ### readings, one step each -/
section
variable {σ : L2.St} {H : Hp} {Q : VK} {v x y z : V} {ta tb tc te : TE} {b c : Bool} {K : PySem.W.Frag} {a C dx p : Addr} {fs : List (Str × V)} {f m : Str} {t u : TS} {D : Ends} {QT : Bool → Hp → Prop} {tt tu : TT} {QA : List V → Hp → Prop} {sp : Sp} {E : XK}
variable {nx bk ct : L2.St → Hp → Prop} {rt : VK}
theorem r_seq (h : t ⟨u ⟨nx, rt, bk, ct⟩, rt, bk, ct⟩ σ H) : tSeq t u ⟨nx, rt, bk, ct⟩ σ H := h
theorem r_next (h : nx σ H) : tNext ⟨nx, rt, bk, ct⟩ σ H := h
theorem r_brk (h : bk σ H) : tBreak ⟨nx, rt, bk, ct⟩ σ H := h
theorem r_cont (h : ct σ H) : tCont ⟨nx, rt, bk, ct⟩ σ H := h
def kAsg (i : Nat) (σ : L2.St) (N : L2.St → Hp → Prop) : VK := fun x H1 => N (σ.set i (some x)) H1
theorem r_set {i : Nat} (h : te σ H (kAsg i σ nx)) : tAsg te (gName i) ⟨nx, rt, bk, ct⟩ σ H := h
theorem k_set {i : Nat} {N : L2.St → Hp → Prop} (h : N (σ.set i (some x)) H) : kAsg i σ N x H := h
def kTg (g : TG) (σ : L2.St) (N : L2.St → Hp → Prop) : VK := fun x H1 => g x σ H1 N
theorem r_asg {g : TG} (h : te σ H (kTg g σ nx)) : tAsg te g ⟨nx, rt, bk, ct⟩ σ H := h
def kDrop (σ : L2.St) (N : L2.St → Hp → Prop) : VK := fun _ H1 => N σ H1
theorem r_drop (h : te σ H (kDrop σ nx)) : tDrop te ⟨nx, rt, bk, ct⟩ σ H := h
theorem k_drop {N : L2.St → Hp → Prop} (h : N σ H) : kDrop σ N x H := h
theorem r_ret (h : te σ H rt) : tRet te ⟨nx, rt, bk, ct⟩ σ H := h
theorem r_retN (h : rt .non H) : tRetN ⟨nx, rt, bk, ct⟩ σ H := h
def kIf (t u : TS) (D : Ends) (σ : L2.St) : Bool → Hp → Prop := fun b H1 => if b = true then t D σ H1 else u D σ H1
theorem r_if (h : tt σ H (kIf t u D σ)) : tIfS tt t u D σ H := h
theorem k_if (h1 : b = true → t D σ H) (h2 : b = false → u D σ H) : kIf t u D σ b H := by
  cases b with
  | true => exact h1 rfl
  | false => exact h2 rfl
theorem k_ifT (h1 : t D σ H) : kIf t u D σ true H := h1
theorem k_ifF (h1 : u D σ H) : kIf t u D σ false H := h1
theorem r_var {i : Nat} (h : σ[i]? = some (some v)) (q : Q v H) : tVar i σ H Q := ⟨v, h, q⟩
theorem r_c (q : Q v H) : tC v σ H Q := q
def kOp2 (r : R2) (x : V) (Q : VK) : VK := fun y H2 => r x y H2 Q
def kOp1 (r : R2) (tb : TE) (σ : L2.St) (Q : VK) : VK := fun x H1 => tb σ H1 (kOp2 r x Q)
theorem r_op {r : R2} (h : ta σ H (kOp1 r tb σ Q)) : tOp r ta tb σ H Q := h
theorem k_op1 {r : R2} (h : tb σ H (kOp2 r x Q)) : kOp1 r tb σ Q x H := h
theorem k_op2 {r : R2} (h : r x y H Q) : kOp2 r x Q y H := h
theorem k_I0 {g : Int → Int → V} {i j : Int} (q : Q (g i j) H) : rI0 g (.int i) (.int j) H Q := ⟨i, j, rfl, rfl, q⟩
theorem k_I {Cc : Int → Int → Prop} {g : Int → Int → V} {i j : Int} (hc : Cc i j) (q : Q (g i j) H) : rI Cc g (.int i) (.int j) H Q := ⟨i, j, rfl, rfl, hc, q⟩
theorem k_add {i j : Int} (q : Q (.int (i + j)) H) : rI0 (fun i j => .int (i + j)) (.int i) (.int j) H Q := ⟨i, j, rfl, rfl, q⟩
theorem k_sub {i j : Int} (q : Q (.int (i - j)) H) : rI0 (fun i j => .int (i - j)) (.int i) (.int j) H Q := ⟨i, j, rfl, rfl, q⟩
theorem k_lt {i j : Int} (q : Q (.bl (decide (i < j))) H) : rI0 (fun i j => .bl (decide (i < j))) (.int i) (.int j) H Q := ⟨i, j, rfl, rfl, q⟩
theorem k_le {i j : Int} (q : Q (.bl (decide (i ≤ j))) H) : rI0 (fun i j => .bl (decide (i ≤ j))) (.int i) (.int j) H Q := ⟨i, j, rfl, rfl, q⟩
theorem k_gt {i j : Int} (q : Q (.bl (decide (j < i))) H) : rI0 (fun i j => .bl (decide (j < i))) (.int i) (.int j) H Q := ⟨i, j, rfl, rfl, q⟩
theorem k_ge {i j : Int} (q : Q (.bl (decide (j ≤ i))) H) : rI0 (fun i j => .bl (decide (j ≤ i))) (.int i) (.int j) H Q := ⟨i, j, rfl, rfl, q⟩
theorem k_mul {i j : Int} (hc : CMul i j) (q : Q (.int (i * j)) H) : rI CMul (fun i j => .int (i * j)) (.int i) (.int j) H Q := ⟨i, j, rfl, rfl, hc, q⟩
theorem k_fdiv {i j : Int} (h1 : 0 < j) (h2 : j < 1073741824) (q : Q (.int (i / j)) H) : rI CDiv (fun i j => .int (i / j)) (.int i) (.int j) H Q := ⟨i, j, rfl, rfl, ⟨h1, h2⟩, q⟩
theorem k_mod {i j : Int} (hc : 0 < j) (q : Q (.int (i % j)) H) : rI (fun _ j => 0 < j) (fun i j => .int (i % j)) (.int i) (.int j) H Q := ⟨i, j, rfl, rfl, hc, q⟩
theorem k_neg {i : Int} (q : Q (.int (-i)) H) : rU (fun i => .int (-i)) (.int i) H Q := ⟨i, rfl, q⟩
def rIsNn : R2 := fun x y H Q => y = .non ∧ Q (.bl (decide (x = .non))) H
theorem k_isN (q : Q (.bl (decide (x = .non))) H) : (fun (x y : V) (H : Hp) (Q : VK) => y = .non ∧ Q (.bl (decide (x = .non))) H) x .non H Q := ⟨rfl, q⟩
theorem k_op2isN (q : Q (.bl (decide (x = .non))) H) : kOp2 (fun (x y : V) (H : Hp) (Q : VK) => y = .non ∧ Q (.bl (decide (x = .non))) H) x Q .non H := ⟨rfl, q⟩
theorem k_op2notN (q : Q (.bl (!decide (x = .non))) H) : kOp2 (fun (x y : V) (H : Hp) (Q : VK) => y = .non ∧ Q (.bl (!decide (x = .non))) H) x Q .non H := ⟨rfl, q⟩
theorem k_eq (h : scal x y = true) (q : Q (.bl (decide (x = y))) H) : rEq x y H Q := ⟨h, q⟩
theorem k_ne (h : scal x y = true) (q : Q (.bl (!decide (x = y))) H) : rNe x y H Q := ⟨h, q⟩
theorem k_eqTy {m n : String} (nm : TyN m) (nn : TyN n) (q : Q (.bl (decide (m = n))) H) : rEqTy (.ty m) (.ty n) H Q := ⟨m, n, rfl, rfl, nm, nn, q⟩
def kUn (r : V → Hp → VK → Prop) (Q : VK) : VK := fun x H1 => r x H1 Q
theorem r_un {r : V → Hp → VK → Prop} (h : ta σ H (kUn r Q)) : tUn r ta σ H Q := h
theorem k_un {r : V → Hp → VK → Prop} (h : r x H Q) : kUn r Q x H := h
theorem k_U {g : Int → V} {i : Int} (q : Q (g i) H) : rU g (.int i) H Q := ⟨i, rfl, q⟩
def kTest (QT : Bool → Hp → Prop) : VK := fun x H' => ∃ k, x = .bl k ∧ QT k H'
theorem r_test (h : te σ H (kTest QT)) : tTest te σ H QT := h
theorem r_tB (h : te σ H (kTest QT)) : tB te σ H QT := h
theorem k_test (q : QT b H) : kTest QT (.bl b) H := ⟨b, rfl, q⟩
def kNot (QT : Bool → Hp → Prop) : Bool → Hp → Prop := fun c H1 => QT (!c) H1
theorem r_not (h : tt σ H (kNot QT)) : tNot tt σ H QT := h
theorem k_not (q : QT (!b) H) : kNot QT b H := q
def kAnd (u : TT) (σ : L2.St) (QT : Bool → Hp → Prop) : Bool → Hp → Prop := fun c H1 => if c = true then u σ H1 QT else QT false H1
theorem r_and (h : tt σ H (kAnd tu σ QT)) : tAnd tt tu σ H QT := h
theorem k_and (h1 : b = true → tu σ H QT) (h2 : b = false → QT false H) : kAnd tu σ QT b H := by
  cases b with
  | true => exact h1 rfl
  | false => exact h2 rfl
theorem k_andT (h : tu σ H QT) : kAnd tu σ QT true H := h
theorem k_andF (h : QT false H) : kAnd tu σ QT false H := h
def kOr (u : TT) (σ : L2.St) (QT : Bool → Hp → Prop) : Bool → Hp → Prop := fun c H1 => if c = true then QT true H1 else u σ H1 QT
theorem r_or (h : tt σ H (kOr tu σ QT)) : tOr tt tu σ H QT := h
theorem k_or (h1 : b = true → QT true H) (h2 : b = false → tu σ H QT) : kOr tu σ QT b H := by
  cases b with
  | true => exact h1 rfl
  | false => exact h2 rfl
theorem k_orT (h : QT true H) : kOr tu σ QT true H := h
theorem k_orF (h : tu σ H QT) : kOr tu σ QT false H := h
def kAndV (tb : TE) (σ : L2.St) (Q : VK) : VK := fun x H1 => ∃ c, x = .bl c ∧ if c = true then tb σ H1 Q else Q (.bl false) H1
theorem r_andV (h : ta σ H (kAndV tb σ Q)) : tAndV ta tb σ H Q := h
theorem k_andV (h1 : b = true → tb σ H Q) (h2 : b = false → Q (.bl false) H) : kAndV tb σ Q (.bl b) H := by
  refine ⟨b, rfl, ?_⟩
  cases b with
  | true => exact h1 rfl
  | false => exact h2 rfl
def kOrV (tb : TE) (σ : L2.St) (Q : VK) : VK := fun x H1 => ∃ c, x = .bl c ∧ if c = true then Q (.bl true) H1 else tb σ H1 Q
theorem r_orV (h : ta σ H (kOrV tb σ Q)) : tOrV ta tb σ H Q := h
theorem k_orV (h1 : b = true → Q (.bl true) H) (h2 : b = false → tb σ H Q) : kOrV tb σ Q (.bl b) H := by
  refine ⟨b, rfl, ?_⟩
  cases b with
  | true => exact h1 rfl
  | false => exact h2 rfl
def kNotV (Q : VK) : VK := fun x H1 => ∃ c, x = .bl c ∧ Q (.bl (!c)) H1
theorem r_notV (h : ta σ H (kNotV Q)) : tNotV ta σ H Q := h
theorem k_notV (q : Q (.bl (!b)) H) : kNotV Q (.bl b) H := ⟨b, rfl, q⟩
def kIfE (ta tb : TE) (σ : L2.St) (Q : VK) : Bool → Hp → Prop := fun c H1 => if c = true then ta σ H1 Q else tb σ H1 Q
theorem r_ifE (h : tt σ H (kIfE ta tb σ Q)) : tIf tt ta tb σ H Q := h
theorem k_ifE (h1 : b = true → ta σ H Q) (h2 : b = false → tb σ H Q) : kIfE ta tb σ Q b H := by
  cases b with
  | true => exact h1 rfl
  | false => exact h2 rfl
theorem k_ifET (h : ta σ H Q) : kIfE ta tb σ Q true H := h
theorem k_ifEF (h : tb σ H Q) : kIfE ta tb σ Q false H := h
def kCh3 (Q : VK) (r' : R2) (y : V) (tc : TE) (σ : L2.St) : VK := fun z H3 => ∃ k, z = .bl k ∧ (if k = true then tc σ H3 fun w' H4 => r' y w' H4 Q else Q (.bl false) H3)
def kCh2 (r r' : R2) (x : V) (tc : TE) (σ : L2.St) (Q : VK) : VK := fun y H2 => r x y H2 (kCh3 Q r' y tc σ)
def kCh1 (r r' : R2) (tb tc : TE) (σ : L2.St) (Q : VK) : VK := fun x H1 => tb σ H1 (kCh2 r r' x tc σ Q)
theorem r_chain {r r' : R2} (h : ta σ H (kCh1 r r' tb tc σ Q)) : tChain r r' ta tb tc σ H Q := h
theorem k_ch1 {r r' : R2} (h : tb σ H (kCh2 r r' x tc σ Q)) : kCh1 r r' tb tc σ Q x H := h
theorem k_ch2 {r r' : R2} (h : r x y H (kCh3 Q r' y tc σ)) : kCh2 r r' x tc σ Q y H := h
theorem k_ch3 {r' : R2} (h1 : b = true → tc σ H (kOp2 r' y Q)) (h2 : b = false → Q (.bl false) H) : kCh3 Q r' y tc σ (.bl b) H := by
  refine ⟨b, rfl, ?_⟩
  cases b with
  | true => exact h1 rfl
  | false => exact h2 rfl
def kFld (K : PySem.W.Frag) (f : Str) (Q : VK) : VK := fun x H1 => ∃ a C dx fs v, x = .ref a ∧ H1 a = some (.ins C dx fs) ∧ Cls K C ∧ NoAttr K C f ∧ fs.lookup f = some v ∧ Q v H1
theorem r_fld (h : ta σ H (kFld K f Q)) : tFld K ta f σ H Q := h
theorem k_fld (ho : H a = some (.ins C dx fs)) (hc : Cls K C) (hn : NoAttr K C f) (hl : fs.lookup f = some v) (q : Q v H) : kFld K f Q (.ref a) H := ⟨a, C, dx, fs, v, rfl, ho, hc, hn, hl, q⟩
def kSF2 (K : PySem.W.Frag) (f : Str) (y : V) (σ : L2.St) (N : L2.St → Hp → Prop) : VK := fun x H2 => ∃ a C dx fs, x = .ref a ∧ H2 a = some (.ins C dx fs) ∧ Cls K C ∧ NoAttr K C f ∧ fs.length < 1000 ∧ N σ (upd H2 a (.ins C dx (putF f y fs)))
def kSF1 (K : PySem.W.Frag) (ta : TE) (f : Str) (σ : L2.St) (N : L2.St → Hp → Prop) : VK := fun y H1 => ta σ H1 (kSF2 K f y σ N)
theorem r_sfld (h : tb σ H (kSF1 K ta f σ nx)) : sFld K ta tb f ⟨nx, rt, bk, ct⟩ σ H := h
theorem k_sf1 {N : L2.St → Hp → Prop} (h : ta σ H (kSF2 K f y σ N)) : kSF1 K ta f σ N y H := h
theorem k_sf2 {N : L2.St → Hp → Prop} (ho : H a = some (.ins C dx fs)) (hc : Cls K C) (hn : NoAttr K C f) (hl : fs.length < 1000) (q : N σ (upd H a (.ins C dx (putF f y fs)))) : kSF2 K f y σ N (.ref a) H := ⟨a, C, dx, fs, rfl, ho, hc, hn, hl, q⟩
/-! arguments, calls -/
theorem r_nil (q : QA [] H) : tNil σ H QA := q
def kC2 (x : V) (QA : List V → Hp → Prop) : List V → Hp → Prop := fun xs H2 => QA (x :: xs) H2
def kC1 (tr : TA) (σ : L2.St) (QA : List V → Hp → Prop) : VK := fun x H1 => tr σ H1 (kC2 x QA)
theorem r_cons {tr : TA} (h : te σ H (kC1 tr σ QA)) : tCons te tr σ H QA := h
theorem k_c1 {tr : TA} (h : tr σ H (kC2 x QA)) : kC1 tr σ QA x H := h
theorem k_c2 {xs : List V} (h : QA (x :: xs) H) : kC2 x QA xs H := h
def kCall (sp : Sp) (dvs : List V) (E : XK) (Q : VK) : List V → Hp → Prop := fun vs H1 => sp (vs ++ dvs) H1 Q E
theorem r_call {dvs : List V} {ar : TA} (h : ar σ H (kCall sp dvs E Q)) : tCall sp dvs E ar σ H Q := h
theorem k_call {dvs vs : List V} (h : sp (vs ++ dvs) H Q E) : kCall sp dvs E Q vs H := h
def kMeth2 (sp : Sp) (x : V) (dvs : List V) (E : XK) (Q : VK) : List V → Hp → Prop := fun vs H2 => sp (x :: (vs ++ dvs)) H2 Q E
def kMeth (C : Addr) (m : Str) (sp : Sp) (dvs : List V) (E : XK) (ar : TA) (σ : L2.St) (Q : VK) : VK := fun x H1 => ∃ a dx fs, x = .ref a ∧ H1 a = some (.ins C dx fs) ∧ fs.lookup m = none ∧ ar σ H1 (kMeth2 sp x dvs E Q)
theorem r_meth {dvs : List V} {ar : TA} (h : ta σ H (kMeth C m sp dvs E ar σ Q)) : tMeth C m sp dvs E ta ar σ H Q := h
theorem k_meth {dvs : List V} {ar : TA} (ho : H a = some (.ins C dx fs)) (hl : fs.lookup m = none) (h : ar σ H (kMeth2 sp (.ref a) dvs E Q)) : kMeth C m sp dvs E ar σ Q (.ref a) H := ⟨a, dx, fs, rfl, ho, hl, h⟩
theorem k_meth2 {dvs vs : List V} (h : sp (x :: (vs ++ dvs)) H Q E) : kMeth2 sp x dvs E Q vs H := h
def kMakeQ (x : Addr) (Q : VK) : VK := fun v H2 => v = .non ∧ Q (.ref x) H2
def kMake (C : Addr) (sp : Sp) (dvs : List V) (E : XK) (Q : VK) : List V → Hp → Prop := fun vs H1 => ∀ x dx, H1 x = none → H1 dx = none → dx ≠ x → sp (.ref x :: (vs ++ dvs)) (upd (upd H1 dx (.own x)) x (.ins C dx [])) (kMakeQ x Q) E
theorem r_make {dvs : List V} {ar : TA} (h : ar σ H (kMake C sp dvs E Q)) : tMake C sp dvs E ar σ H Q := h
theorem k_make {dvs vs : List V} (h : ∀ x dx, H x = none → H dx = none → dx ≠ x → sp (.ref x :: (vs ++ dvs)) (upd (upd H dx (.own x)) x (.ins C dx [])) (kMakeQ x Q) E) : kMake C sp dvs E Q vs H := h
theorem k_makeQ {x : Addr} (q : Q (.ref x) H) : kMakeQ x Q .non H := ⟨rfl, q⟩
def kCB (r : List V → Hp → VK → Prop) (Q : VK) : List V → Hp → Prop := fun vs H1 => r vs H1 Q
theorem r_cb {r : List V → Hp → VK → Prop} {ar : TA} (h : ar σ H (kCB r Q)) : tCB r ar σ H Q := h
theorem k_cb {r : List V → Hp → VK → Prop} {vs : List V} (h : r vs H Q) : kCB r Q vs H := h
def kBM2 (r : V → List V → Hp → VK → Prop) (x : V) (Q : VK) : List V → Hp → Prop := fun xs H2 => r x xs H2 Q
def kBM (K : PySem.W.Frag) (T : String) (r : V → List V → Hp → VK → Prop) (ar : TA) (σ : L2.St) (Q : VK) : VK := fun x H1 => tyV K T x H1 ∧ ar σ H1 (kBM2 r x Q)
theorem r_bm {T : String} {r : V → List V → Hp → VK → Prop} {ar : TA} (h : ta σ H (kBM K T r ar σ Q)) : tBM K T r ta ar σ H Q := h
theorem k_bm {T : String} {r : V → List V → Hp → VK → Prop} {ar : TA} (ht : tyV K T x H) (h : ar σ H (kBM2 r x Q)) : kBM K T r ar σ Q x H := ⟨ht, h⟩
theorem k_bm2 {r : V → List V → Hp → VK → Prop} {xs : List V} (h : r x xs H Q) : kBM2 r x Q xs H := h
def kBM0 (K : PySem.W.Frag) (T : String) (r : V → List V → Hp → VK → Prop) (Q : VK) : VK := fun x H1 => tyV K T x H1 ∧ r x [] H1 Q
theorem r_bm0 {T : String} {r : V → List V → Hp → VK → Prop} (h : ta σ H (kBM0 K T r Q)) : tBM0 K T r ta σ H Q := h
theorem k_bm0 {T : String} {r : V → List V → Hp → VK → Prop} (ht : tyV K T x H) (h : r x [] H Q) : kBM0 K T r Q x H := ⟨ht, h⟩
def kTup (Q : VK) : List V → Hp → Prop := fun xs H1 => xs.length ≤ sizeLine ∧ ∀ p, H1 p = none → Q (.ref p) (upd H1 p (.tup xs))
theorem r_tup {ar : TA} (h : ar σ H (kTup Q)) : tTup ar σ H Q := h
theorem k_tup {xs : List V} (hl : xs.length ≤ sizeLine) (h : ∀ p, H p = none → Q (.ref p) (upd H p (.tup xs))) : kTup Q xs H := ⟨hl, h⟩
def kLst (Q : VK) : List V → Hp → Prop := fun xs H1 => xs.length ≤ sizeLine ∧ ∀ p, H1 p = none → Q (.ref p) (upd H1 p (.lst xs))
theorem r_lst {ar : TA} (h : ar σ H (kLst Q)) : tLst ar σ H Q := h
theorem k_lst {xs : List V} (hl : xs.length ≤ sizeLine) (h : ∀ p, H p = none → Q (.ref p) (upd H p (.lst xs))) : kLst Q xs H := ⟨hl, h⟩
theorem tyL {l : Addr} {xs : List V} (h : H l = some (.lst xs)) : tyV K "list" (.ref l) H := Or.inl ⟨rfl, _, Or.inl (Or.inl h)⟩
/-! subscripts -/
theorem k_ixL {xs : List V} {i : Int} (h : SqL K H p xs) (ha : atI xs i = some v) (q : Q v H) : rIxL K (.ref p) (.int i) H Q := ⟨p, xs, i, v, rfl, rfl, h, ha, q⟩
theorem k_ixT {xs : List V} {i : Int} (h : SqT K H p xs) (ha : atI xs i = some v) (q : Q v H) : rIxT K (.ref p) (.int i) H Q := ⟨p, xs, i, v, rfl, rfl, h, ha, q⟩
def kSub3 (ts : TSet) (o i v : V) (σ : L2.St) (N : L2.St → Hp → Prop) (H : Hp) : Prop := ts o i v H fun H3 => N σ H3
def kSub2 (ts : TSet) (o v : V) (σ : L2.St) (N : L2.St → Hp → Prop) : VK := fun i H2 => kSub3 ts o i v σ N H2
def kSub1 (ti : TE) (ts : TSet) (v : V) (σ : L2.St) (N : L2.St → Hp → Prop) : VK := fun o H1 => ti σ H1 (kSub2 ts o v σ N)
theorem k_tgSub {ti : TE} {ts : TSet} {N : L2.St → Hp → Prop} (h : ta σ H (kSub1 ti ts v σ N)) : kTg (gSub ta ti ts) σ N v H := h
theorem k_sub1 {ti : TE} {ts : TSet} {N : L2.St → Hp → Prop} (h : ti σ H (kSub2 ts x v σ N)) : kSub1 ti ts v σ N x H := h
theorem k_sub2L {xs : List V} {i : Int} {j : Nat} {N : L2.St → Hp → Prop} (ho : H p = some (.lst xs)) (hj : ixN xs.length i = some j) (h : N σ (upd H p (.lst (xs.set j v)))) : kSub2 rSetL (.ref p) v σ N (.int i) H := ⟨p, xs, i, j, rfl, rfl, ho, hj, h⟩
def kAug2 (i : Nat) (ti : TIp) (x : V) (σ : L2.St) (N : L2.St → Hp → Prop) : VK := fun y H1 => ti x y H1 fun z H2 => N (σ.set i (some z)) H2
theorem r_aug {i : Nat} {ti : TIp} (h : σ[i]? = some (some x)) (q : te σ H (kAug2 i ti x σ nx)) : tAug i te ti ⟨nx, rt, bk, ct⟩ σ H := ⟨x, h, q⟩
theorem k_augI {i : Nat} {g : Int → Int → Int} {n k : Int} {N : L2.St → Hp → Prop} (q : N (σ.set i (some (.int (g n k)))) H) : kAug2 i (ipI g) (.int n) σ N (.int k) H := ⟨n, k, rfl, rfl, q⟩
/-! while -/
theorem r_while {tw : TT} {tbd : TS} (W : Nat → L2.St → Hp → Prop) (n : Nat) (h0 : W n σ H) (hs : ∀ m σ H, W m σ H → tw σ H (kIf tbd tBreak ⟨fun σ' H' => ∃ m', m' < m ∧ W m' σ' H', rt, nx, fun σ' H' => ∃ m', m' < m ∧ W m' σ' H'⟩ σ))
    (mono : ∀ σ H (Q Q' : Bool → Hp → Prop), (∀ b H1, Q b H1 → Q' b H1) → tw σ H Q → tw σ H Q') : tWhile tw tbd ⟨nx, rt, bk, ct⟩ σ H := by
  refine ⟨W, ⟨n, h0⟩, fun m σ H w => ?_⟩
  refine mono σ H _ _ (fun b H1 q => ?_) (hs m σ H w)
  cases b with
  | true => exact ⟨_, fun _ _ z => z, q⟩
  | false => exact q
end
theorem mono_test {te : TE} (mo : ∀ (σ : L2.St) (H : Hp) (Q Q' : VK), (∀ v H1, Q v H1 → Q' v H1) → te σ H Q → te σ H Q') : ∀ (σ : L2.St) (H : Hp) (Q Q' : Bool → Hp → Prop), (∀ b H1, Q b H1 → Q' b H1) → tTest te σ H Q → tTest te σ H Q' :=
  fun σ H Q Q' h q => mo σ H _ _ (fun _ _ ⟨k, e, z⟩ => ⟨k, e, h _ _ z⟩) q

/-! ### heaps: footprints -/
/-- all that was tracked outside of S is as it was -/
def Fr (S : Addr → Prop) (H H' : Hp) : Prop := ∀ b o, H b = some o → ¬ S b → H' b = some o
/-- what S' holds was in S, or is new -/
def Gr (H : Hp) (S S' : Addr → Prop) : Prop := ∀ b, S' b → S b ∨ H b = none
def Tr (H : Hp) (S : Addr → Prop) : Prop := ∀ b, S b → H b ≠ none
def Ag (S : Addr → Prop) (H H' : Hp) : Prop := ∀ b o, S b → H b = some o → H' b = some o
theorem Same.fr {S : Addr → Prop} {H H' : Hp} (s : Same H H') : Fr S H H' := fun b o e _ => s b o e
theorem Same.ag {S : Addr → Prop} {H H' : Hp} (s : Same H H') : Ag S H H' := fun b o _ e => s b o e
theorem Same.new {H : Hp} {p : Addr} {o : HO} (h : H p = none) : Same H (upd H p o) := fun b u e => by
  rw [upd_ne (ne_of_none e h)]
  exact e
theorem Fr.trans {S S' : Addr → Prop} {H H1 H2 : Hp} (a : Fr S H H1) (g : Gr H S S') (b : Fr S' H1 H2) : Fr S H H2 := fun c o e n => b c o (a c o e n) fun s' => by
  rcases g c s' with z | z
  · exact n z
  · rw [e] at z; cases z
theorem Fr.ag {S T : Addr → Prop} {H H' : Hp} (f : Fr S H H') (d : ∀ b, T b → ¬ S b) : Ag T H H' := fun b o t e => f b o e (d b t)
theorem Fr.at {S : Addr → Prop} {H H' : Hp} {b : Addr} {o : HO} (f : Fr S H H') (e : H b = some o) (n : ¬ S b) : H' b = some o := f b o e n
theorem Gr.refl (H : Hp) (S : Addr → Prop) : Gr H S S := fun _ s => .inl s
theorem Gr.not {S S' : Addr → Prop} {H : Hp} {b : Addr} {o : HO} (g : Gr H S S') (e : H b = some o) (n : ¬ S b) : ¬ S' b := fun s => by
  rcases g b s with z | z
  · exact n z
  · rw [e] at z; cases z
/-! comprehensions: f says which are kept, v what is made of one -/
section
variable {σ : L2.St} {H : Hp} {Q : VK} {K : PySem.W.Frag} {g : TG} {tt : TT} {te tl : TE} {vs : List Nat}
def kLcT (te : TE) (σ2 : L2.St) (Y : VK) (N : Hp → Prop) : Bool → Hp → Prop := fun b H3 => if b = true then te σ2 H3 Y else N H3
def kLcG (tt : TT) (te : TE) (vs : List Nat) (σ : L2.St) (Y : VK) (N : Hp → Prop) : L2.St → Hp → Prop := fun σ2 H2 => wipe σ2 vs = wipe σ vs ∧ tt σ2 H2 (kLcT te σ2 Y N)
theorem k_lcG {Y : VK} {N : Hp → Prop} {σ2 : L2.St} (e : wipe σ2 vs = wipe σ vs) (h : tt σ2 H (kLcT te σ2 Y N)) : kLcG tt te vs σ Y N σ2 H := ⟨e, h⟩
theorem k_lcT {Y : VK} {N : Hp → Prop} {b : Bool} (h1 : b = true → te σ H Y) (h2 : b = false → N H) : kLcT te σ Y N b H := by
  cases b with
  | true => exact h1 rfl
  | false => exact h2 rfl
theorem r_yes {QT : Bool → Hp → Prop} (h : QT true H) : tYes σ H QT := h
def kLcL (K : PySem.W.Frag) (g : TG) (tt : TT) (te : TE) (vs : List Nat) (σ : L2.St) (Q : VK) : VK := fun x H1 => ∃ a, x = .ref a ∧ (∃ xs, SqL K H1 a xs) ∧ ∀ D, H1 D = none → ∃ W : Nat → Nat → Hp → Prop, (∃ m, W 0 m (upd H1 D (.lst []))) ∧ ∀ i m H, W i m H →
  ((Itl K a).stop i H ∧ Q (.ref D) H) ∨ ((Itl K a).go i H ∧ ∃ Nx : Hp → Prop, (∀ H', Nx H' → ∃ m', m' < m ∧ W (i + 1) m' H') ∧ ∀ x H', (Itl K a).yld i H x H' → g x (wipe σ vs) H' fun σ2 H2 => wipe σ2 vs = wipe σ vs ∧ tt σ2 H2 fun b H3 =>
    if b = true then te σ2 H3 fun y H4 => ∃ acc, H4 D = some (.lst acc) ∧ acc.length < sizeLine ∧ Nx (upd H4 D (.lst (acc ++ [y]))) else Nx H3)
theorem r_lcL (h : tl σ H (kLcL K g tt te vs σ Q)) : tLc (iList K tl) g tt te vs σ H Q := h
theorem take_succ_of {α : Type} {l : List α} {i : Nat} {x : α} (h : l[i]? = some x) : l.take (i + 1) = l.take i ++ [x] := by
  rw [List.take_add_one, h]; rfl
theorem k_lcL {a : Addr} {xs : List V} (f : V → Bool) (v : V → V) (hs : SqL K H a xs) (hx : xs.length < sizeLine)
    (hstep : ∀ (i : Nat) (x : V) (H' : Hp) (Y : VK) (N : Hp → Prop), xs[i]? = some x → Same H H' → (f x = true → ∀ H4, Same H' H4 → Y (v x) H4) → (f x = false → ∀ H3, Same H' H3 → N H3) → g x (wipe σ vs) H' (kLcG tt te vs σ Y N))
    (k : ∀ D H', H D = none → Same H H' → H' D = some (.lst ((xs.filter f).map v)) → Q (.ref D) H') : kLcL K g tt te vs σ Q (.ref a) H := by
  refine ⟨a, rfl, ⟨xs, hs⟩, fun D hD => ?_⟩
  refine lc_list (K := K) (a := a) (xs := xs) (fun i H' => Same H H' ∧ H' D = some (.lst (((xs.take i).filter f).map v))) ⟨Same.new hD, upd_same⟩ (fun i H' _ p => Same.seq p.1 hs) ?_ ?_
  · rintro i x H' hi ⟨s, hd⟩
    have ln : (((xs.take i).filter f).map v).length < sizeLine := by
      rw [List.length_map]
      refine Nat.lt_of_le_of_lt (List.length_filter_le _ _) ?_
      rw [List.length_take]
      exact Nat.lt_of_le_of_lt (Nat.min_le_right _ _) hx
    refine hstep i x H' _ _ hi s (fun fx H4 s4 => ?_) (fun fx H3 s3 => ?_)
    · refine ⟨_, s4 _ _ hd, ln, fun b o e => ?_, ?_⟩
      · rw [upd_ne (ne_of_none e hD)]; exact s4 _ _ (s _ _ e)
      · rw [upd_same, take_succ_of hi, List.filter_append, List.map_append]
        simp [List.filter, fx]
    · refine ⟨s.trans s3, ?_⟩
      rw [take_succ_of hi, List.filter_append, List.map_append]
      simp only [List.filter, fx, List.map_nil, List.append_nil]
      exact s3 _ _ hd
  · rintro H' ⟨s, hd⟩
    rw [List.take_length] at hd
    exact k D H' hD s hd
def kLcR1 (g : TG) (tt : TT) (te : TE) (vs : List Nat) (σ : L2.St) (Q : VK) : List V → Hp → Prop := fun us H1 => ∃ j : Int, us = [.int j] ∧ -(2 ^ 62) ≤ j ∧ j < 2 ^ 62 ∧ ∀ D, H1 D = none → ∃ W : Nat → Nat → Hp → Prop, (∃ m, W 0 m (upd H1 D (.lst []))) ∧ ∀ i m H, W i m H →
  ((Itr 0 j.toNat).stop i H ∧ Q (.ref D) H) ∨ ((Itr 0 j.toNat).go i H ∧ ∃ Nx : Hp → Prop, (∀ H', Nx H' → ∃ m', m' < m ∧ W (i + 1) m' H') ∧ ∀ x H', (Itr 0 j.toNat).yld i H x H' → g x (wipe σ vs) H' fun σ2 H2 => wipe σ2 vs = wipe σ vs ∧ tt σ2 H2 fun b H3 =>
    if b = true then te σ2 H3 fun y H4 => ∃ acc, H4 D = some (.lst acc) ∧ acc.length < sizeLine ∧ Nx (upd H4 D (.lst (acc ++ [y]))) else Nx H3)
theorem r_lcR1 {ta : TA} (h : ta σ H (kLcR1 g tt te vs σ Q)) : tLc (iRng1 ta) g tt te vs σ H Q := h
theorem k_lcR1 {n : Nat} (f : Nat → Bool) (v : Nat → V) (hx : n < sizeLine)
    (hstep : ∀ (i : Nat) (H' : Hp) (Y : VK) (N : Hp → Prop), i < n → Same H H' → (f i = true → ∀ H4, Same H' H4 → Y (v i) H4) → (f i = false → ∀ H3, Same H' H3 → N H3) → g (.int (i : Int)) (wipe σ vs) H' (kLcG tt te vs σ Y N))
    (k : ∀ D H', H D = none → Same H H' → H' D = some (.lst (((List.range n).filter f).map v)) → Q (.ref D) H') : kLcR1 g tt te vs σ Q [.int (n : Int)] H := by
  have hx2 : n < 2 ^ 62 := Nat.lt_trans hx (by decide)
  refine ⟨(n : Int), rfl, by omega, by omega, fun D hD => ?_⟩
  rw [Int.toNat_natCast]
  refine lc_range (lo := 0) (n := n) (fun i H' => Same H H' ∧ H' D = some (.lst (((List.range i).filter f).map v))) ⟨Same.new hD, upd_same⟩ ?_ ?_
  · rintro i H' hi ⟨s, hd⟩
    have ln : (((List.range i).filter f).map v).length < sizeLine := by
      rw [List.length_map]
      refine Nat.lt_of_le_of_lt (List.length_filter_le _ _) ?_
      rw [List.length_range]
      exact Nat.lt_trans hi hx
    rw [Int.zero_add]
    refine hstep i H' _ _ hi s (fun fx H4 s4 => ?_) (fun fx H3 s3 => ?_)
    · refine ⟨_, s4 _ _ hd, ln, fun b o e => ?_, ?_⟩
      · rw [upd_ne (ne_of_none e hD)]; exact s4 _ _ (s _ _ e)
      · rw [upd_same, List.range_succ, List.filter_append, List.map_append]
        simp [List.filter, fx]
    · refine ⟨s.trans s3, ?_⟩
      rw [List.range_succ, List.filter_append, List.map_append]
      simp only [List.filter, fx, List.map_nil, List.append_nil]
      exact s3 _ _ hd
  · rintro H' ⟨s, hd⟩
    exact k D H' hD s hd
end

/-! new objects, for loops -/
section
variable {σ : L2.St} {H : Hp} {Q : VK} {K : PySem.W.Frag} {g : TG} {tb : TS} {D : Ends} {tl : TE} {v : V} {p a : Addr}
theorem k_lstN {xs : List V} (hl : xs.length ≤ sizeLine) (h : ∀ p H', H p = none → Same H H' → H' p = some (.lst xs) → Q (.ref p) H') : kLst Q xs H := ⟨hl, fun p hp => h p _ hp (Same.new hp) upd_same⟩
theorem k_tupN {xs : List V} (hl : xs.length ≤ sizeLine) (h : ∀ p H', H p = none → Same H H' → H' p = some (.tup xs) → Q (.ref p) H') : kTup Q xs H := ⟨hl, fun p hp => h p _ hp (Same.new hp) upd_same⟩
theorem Same.mut {H H1 : Hp} {p : Addr} {o : HO} (s : Same H H1) (h : H p = none) : Same H (upd H1 p o) := fun b u e => by
  rw [upd_ne (ne_of_none e h)]
  exact s _ _ e
theorem Same.new2 {H H1 : Hp} (s : Same H H1) {p : Addr} (h : H1 p = none) : H p = none := Same.free s h
def kG (σ : L2.St) (N : L2.St → Hp → Prop) (i : Nat) (v : V) (H : Hp) : Prop := N (σ.set i (some v)) H
theorem g_name {i : Nat} {N : L2.St → Hp → Prop} (h : N (σ.set i (some v)) H) : gName i v σ H N := h
theorem g_tup {n : Nat} {t : TGs} {xs : List V} {N : L2.St → Hp → Prop} (hs : SqT K H a xs) (hn : xs.length = n) (h : t xs σ H N) : gTup K n t (.ref a) σ H N := ⟨a, xs, rfl, hs, hn, h⟩
def kGc (u : TGs) (r : List V) (N : L2.St → Hp → Prop) : L2.St → Hp → Prop := fun σ' H' => u r σ' H' N
theorem g_cons {t : TG} {u : TGs} {r : List V} {N : L2.St → Hp → Prop} (h : t v σ H (kGc u r N)) : gCons t u (v :: r) σ H N := ⟨v, r, rfl, h⟩
theorem k_gc {u : TGs} {r : List V} {N : L2.St → Hp → Prop} (h : u r σ H N) : kGc u r N σ H := h
theorem g_nil {N : L2.St → Hp → Prop} (h : N σ H) : gNil [] σ H N := ⟨rfl, h⟩
theorem k_tg {N : L2.St → Hp → Prop} (h : g v σ H N) : kTg g σ N v H := h
variable {nx bk ct : L2.St → Hp → Prop} {rt : VK}
def kBd (tb : TS) (nx : L2.St → Hp → Prop) (rt : VK) (N : L2.St → Hp → Prop) : L2.St → Hp → Prop := fun σ2 H2 => tb ⟨N, rt, nx, N⟩ σ2 H2
theorem k_bd {N : L2.St → Hp → Prop} (h : tb ⟨N, rt, nx, N⟩ σ H) : kBd tb nx rt N σ H := h
def kForL (K : PySem.W.Frag) (g : TG) (tb : TS) (nx : L2.St → Hp → Prop) (rt : VK) (σ : L2.St) : VK := fun x H1 => ∃ a, x = .ref a ∧ (∃ xs, SqL K H1 a xs) ∧ ∃ W : Nat → Nat → L2.St → Hp → Prop, (∃ m, W 0 m σ H1) ∧ ∀ i m σ H, W i m σ H →
  ((Itl K a).stop i H ∧ nx σ H) ∨ ((Itl K a).go i H ∧ ∃ N : L2.St → Hp → Prop, (∀ σ' H', N σ' H' → ∃ m', m' < m ∧ W (i + 1) m' σ' H') ∧ ∀ x H', (Itl K a).yld i H x H' → g x σ H' fun σ2 H2 => tb ⟨N, rt, nx, N⟩ σ2 H2)
theorem r_forL (h : tl σ H (kForL K g tb nx rt σ)) : tFor (iList K tl) g tb ⟨nx, rt, bk, ct⟩ σ H := h
theorem k_forL {xs : List V} (hs0 : SqL K H a xs) (Pv : Nat → L2.St → Hp → Prop) (h0 : Pv 0 σ H) (hl : ∀ i σ H, i ≤ xs.length → Pv i σ H → SqL K H a xs)
    (hs : ∀ (i : Nat) (x : V) (σ : L2.St) (H : Hp), xs[i]? = some x → Pv i σ H → g x σ H (kBd tb nx rt (Pv (i + 1)))) (hd : ∀ σ H, Pv xs.length σ H → nx σ H) : kForL K g tb nx rt σ (.ref a) H :=
  ⟨a, rfl, ⟨xs, hs0⟩, for_list (K := K) (a := a) (xs := xs) (D := ⟨nx, rt, fun _ _ => False, fun _ _ => False⟩) Pv h0 hl hs hd⟩
def kForT (K : PySem.W.Frag) (g : TG) (tb : TS) (nx : L2.St → Hp → Prop) (rt : VK) (σ : L2.St) : VK := fun x H1 => ∃ a, x = .ref a ∧ (∃ xs, SqT K H1 a xs) ∧ ∃ W : Nat → Nat → L2.St → Hp → Prop, (∃ m, W 0 m σ H1) ∧ ∀ i m σ H, W i m σ H →
  ((Itt K a).stop i H ∧ nx σ H) ∨ ((Itt K a).go i H ∧ ∃ N : L2.St → Hp → Prop, (∀ σ' H', N σ' H' → ∃ m', m' < m ∧ W (i + 1) m' σ' H') ∧ ∀ x H', (Itt K a).yld i H x H' → g x σ H' fun σ2 H2 => tb ⟨N, rt, nx, N⟩ σ2 H2)
theorem r_forT (h : tl σ H (kForT K g tb nx rt σ)) : tFor (iTup K tl) g tb ⟨nx, rt, bk, ct⟩ σ H := h
theorem k_forT {xs : List V} (hs0 : SqT K H a xs) (Pv : Nat → L2.St → Hp → Prop) (h0 : Pv 0 σ H) (hl : ∀ i σ H, i ≤ xs.length → Pv i σ H → SqT K H a xs)
    (hs : ∀ (i : Nat) (x : V) (σ : L2.St) (H : Hp), xs[i]? = some x → Pv i σ H → g x σ H (kBd tb nx rt (Pv (i + 1)))) (hd : ∀ σ H, Pv xs.length σ H → nx σ H) : kForT K g tb nx rt σ (.ref a) H :=
  ⟨a, rfl, ⟨xs, hs0⟩, for_tup (K := K) (a := a) (xs := xs) (D := ⟨nx, rt, fun _ _ => False, fun _ _ => False⟩) Pv h0 hl hs hd⟩
def kForR1 (g : TG) (tb : TS) (nx : L2.St → Hp → Prop) (rt : VK) (σ : L2.St) : List V → Hp → Prop := fun us H1 => ∃ j : Int, us = [.int j] ∧ -(2 ^ 62) ≤ j ∧ j < 2 ^ 62 ∧ ∃ W : Nat → Nat → L2.St → Hp → Prop, (∃ m, W 0 m σ H1) ∧ ∀ i m σ H, W i m σ H →
  ((Itr 0 j.toNat).stop i H ∧ nx σ H) ∨ ((Itr 0 j.toNat).go i H ∧ ∃ N : L2.St → Hp → Prop, (∀ σ' H', N σ' H' → ∃ m', m' < m ∧ W (i + 1) m' σ' H') ∧ ∀ x H', (Itr 0 j.toNat).yld i H x H' → g x σ H' fun σ2 H2 => tb ⟨N, rt, nx, N⟩ σ2 H2)
theorem r_forR1 {ta : TA} (h : ta σ H (kForR1 g tb nx rt σ)) : tFor (iRng1 ta) g tb ⟨nx, rt, bk, ct⟩ σ H := h
theorem k_forR1 {n : Nat} (hn : n < 2 ^ 62) (Pv : Nat → L2.St → Hp → Prop) (h0 : Pv 0 σ H) (hs : ∀ (i : Nat) (σ : L2.St) (H : Hp), i < n → Pv i σ H → g (.int (i : Int)) σ H (kBd tb nx rt (Pv (i + 1)))) (hd : ∀ σ H, Pv n σ H → nx σ H) : kForR1 g tb nx rt σ [.int (n : Int)] H := by
  refine ⟨(n : Int), rfl, by omega, by omega, ?_⟩
  rw [Int.toNat_natCast]
  refine for_range (lo := 0) (n := n) (D := ⟨nx, rt, fun _ _ => False, fun _ _ => False⟩) Pv h0 (fun i σ H hi p => ?_) hd
  rw [Int.zero_add]
  exact hs i σ H hi p
def kForR2 (g : TG) (tb : TS) (nx : L2.St → Hp → Prop) (rt : VK) (σ : L2.St) : List V → Hp → Prop := fun us H1 => ∃ i j : Int, us = [.int i, .int j] ∧ (-(2 ^ 62) ≤ i ∧ i < 2 ^ 62 ∧ -(2 ^ 62) ≤ j ∧ j < 2 ^ 62) ∧ ∃ W : Nat → Nat → L2.St → Hp → Prop, (∃ m, W 0 m σ H1) ∧ ∀ k m σ H, W k m σ H →
  ((Itr i (j - i).toNat).stop k H ∧ nx σ H) ∨ ((Itr i (j - i).toNat).go k H ∧ ∃ N : L2.St → Hp → Prop, (∀ σ' H', N σ' H' → ∃ m', m' < m ∧ W (k + 1) m' σ' H') ∧ ∀ x H', (Itr i (j - i).toNat).yld k H x H' → g x σ H' fun σ2 H2 => tb ⟨N, rt, nx, N⟩ σ2 H2)
theorem r_forR2 {ta : TA} (h : ta σ H (kForR2 g tb nx rt σ)) : tFor (iRng2 ta) g tb ⟨nx, rt, bk, ct⟩ σ H := h
end

/-! slices -/
section
variable {σ : L2.St} {H : Hp} {Q : VK} {K : PySem.W.Frag} {te : TE} {x : V} {a : Addr} {r : V → Option Int → Option Int → Hp → VK → Prop} {tl th : TO} {l u : Option Int} {QO : Option Int → Hp → Prop}
def kSl3 (r : V → Option Int → Option Int → Hp → VK → Prop) (x : V) (l : Option Int) (Q : VK) : Option Int → Hp → Prop := fun u H3 => r x l u H3 Q
def kSl2 (r : V → Option Int → Option Int → Hp → VK → Prop) (x : V) (th : TO) (σ : L2.St) (Q : VK) : Option Int → Hp → Prop := fun l H2 => th σ H2 (kSl3 r x l Q)
def kSl1 (r : V → Option Int → Option Int → Hp → VK → Prop) (tl th : TO) (σ : L2.St) (Q : VK) : VK := fun x H1 => tl σ H1 (kSl2 r x th σ Q)
theorem r_sl (h : te σ H (kSl1 r tl th σ Q)) : tSl r te tl th σ H Q := h
theorem k_sl1 (h : tl σ H (kSl2 r x th σ Q)) : kSl1 r tl th σ Q x H := h
theorem k_sl2 (h : th σ H (kSl3 r x l Q)) : kSl2 r x th σ Q l H := h
theorem k_sl3 (h : r x l u H Q) : kSl3 r x l Q u H := h
theorem r_noPart (h : QO none H) : tNoPart σ H QO := h
def kPart (QO : Option Int → Hp → Prop) : VK := fun x H1 => ∃ i, x = .int i ∧ QO (some i) H1
theorem r_part (h : te σ H (kPart QO)) : tPart te σ H QO := h
theorem k_part {i : Int} (h : QO (some i) H) : kPart QO (.int i) H := ⟨i, rfl, h⟩
theorem k_slL {xs : List V} (hs : SqL K H a xs) (k : ∀ p H', H p = none → Same H H' → H' p = some (.lst (cutV xs l u)) → Q (.ref p) H') : rSlL K (.ref a) l u H Q := ⟨a, xs, rfl, hs, fun p hp => k p _ hp (Same.new hp) upd_same⟩
theorem sIx_nat {n d i : Nat} (h : i ≤ n) : HT.sIx n d (some (i : Int)) = i := by
  rw [HT.sIx_nat]
  exact Nat.min_eq_left h
theorem cut_hi {xs : List V} {j : Nat} (h : j ≤ xs.length) : cutV xs none (some (j : Int)) = xs.take j := by
  unfold cutV
  rw [sIx_nat h]
  show List.take (j - 0) (List.drop 0 xs) = _
  rw [List.drop_zero, Nat.sub_zero]
theorem cut_lo {xs : List V} {j : Nat} (h : j ≤ xs.length) : cutV xs (some (j : Int)) none = xs.drop j := by
  unfold cutV
  rw [sIx_nat h]
  show List.take (xs.length - j) (List.drop j xs) = _
  exact List.take_of_length_le (by rw [List.length_drop]; exact Nat.le_refl _)
theorem cut_both {xs : List V} {i j : Nat} (hi : i ≤ xs.length) (h : j ≤ xs.length) : cutV xs (some (i : Int)) (some (j : Int)) = (xs.drop i).take (j - i) := by
  unfold cutV
  rw [sIx_nat hi, sIx_nat h]
end

/-! ways that meet again -/
section
variable {σ : L2.St} {H : Hp} {t u : TS} {D : Ends} {b : Bool} {tu : TT}
variable {nx bk ct : L2.St → Hp → Prop} {rt : VK}
theorem join (Mid : L2.St → Hp → Prop) (h1 : ∀ σ' H', Mid σ' H' → nx σ' H') (h2 : ∀ nx' : L2.St → Hp → Prop, (∀ σ' H', Mid σ' H' → nx' σ' H') → kIf t u ⟨nx', rt, bk, ct⟩ σ b H) : kIf t u ⟨nx, rt, bk, ct⟩ σ b H := h2 nx h1
theorem joinS {ts : TS} (Mid : L2.St → Hp → Prop) (h1 : ∀ σ' H', Mid σ' H' → nx σ' H') (h2 : ∀ nx' : L2.St → Hp → Prop, (∀ σ' H', Mid σ' H' → nx' σ' H') → ts ⟨nx', rt, bk, ct⟩ σ H) : ts ⟨nx, rt, bk, ct⟩ σ H := h2 nx h1
theorem joinAnd {QT : Bool → Hp → Prop} (Mid : Hp → Prop) (h1 : ∀ H', Mid H' → QT false H') (h2 : ∀ QT' : Bool → Hp → Prop, (∀ H', Mid H' → QT' false H') → kAnd tu σ QT' b H) : kAnd tu σ QT b H := h2 QT h1
theorem joinOr {QT : Bool → Hp → Prop} (Mid : Bool → Hp → Prop) (h1 : ∀ b H', Mid b H' → QT b H') (h2 : ∀ QT' : Bool → Hp → Prop, (∀ b H', Mid b H' → QT' b H') → kOr tu σ QT' b H) : kOr tu σ QT b H := h2 QT h1
theorem joinB {QT : Bool → Hp → Prop} {tt : TT} (Mid : Bool → Hp → Prop) (h1 : ∀ b H', Mid b H' → QT b H') (h2 : ∀ QT' : Bool → Hp → Prop, (∀ b H', Mid b H' → QT' b H') → tt σ H QT') : tt σ H QT := h2 QT h1
theorem joinE {Q : VK} {te : TE} (Mid : V → Hp → Prop) (h1 : ∀ v H', Mid v H' → Q v H') (h2 : ∀ Q' : VK, (∀ v H', Mid v H' → Q' v H') → te σ H Q') : te σ H Q := h2 Q h1
end

/-! dicts; list(range(..)); texts -/
section
variable {σ : L2.St} {H : Hp} {Q : VK} {K : PySem.W.Frag} {ty td te tv : TE} {x y v : V} {nx bk ct : L2.St → Hp → Prop} {rt : VK}
def kDi2 (y : V) (Q : VK) : VK := fun x H2 => ∃ a o, x = .ref a ∧ DGet H2 a y o ∧ Q (.bl o.isSome) H2
def kDi1 (td : TE) (σ : L2.St) (Q : VK) : VK := fun y H1 => td σ H1 (kDi2 y Q)
theorem r_din (h : ty σ H (kDi1 td σ Q)) : tDIn ty td σ H Q := h
theorem k_di1 (h : td σ H (kDi2 y Q)) : kDi1 td σ Q y H := h
def kDn2 (y : V) (Q : VK) : VK := fun x H2 => ∃ a o, x = .ref a ∧ DGet H2 a y o ∧ Q (.bl (!o.isSome)) H2
def kDn1 (td : TE) (σ : L2.St) (Q : VK) : VK := fun y H1 => td σ H1 (kDn2 y Q)
theorem r_dnot (h : ty σ H (kDn1 td σ Q)) : tDNotIn ty td σ H Q := h
theorem k_dn1 (h : td σ H (kDn2 y Q)) : kDn1 td σ Q y H := h
def kDiN2 (y : V) (Q : VK) : VK := fun x H2 => (∃ a o, x = .ref a ∧ DGet H2 a y o ∧ Q (.bl o.isSome) H2) ∨ ∃ a kvs, x = .ref a ∧ y = .non ∧ Rd H2 a (.dK kvs) ∧ Q (.bl false) H2
def kDiN1 (td : TE) (σ : L2.St) (Q : VK) : VK := fun y H1 => td σ H1 (kDiN2 y Q)
theorem r_dinN (h : ty σ H (kDiN1 td σ Q)) : tDInN ty td σ H Q := h
theorem k_diN1 (h : td σ H (kDiN2 y Q)) : kDiN1 td σ Q y H := h
def kLr2 (Q : VK) : Int → Int → Hp → Prop := fun a b H1 => RgOk a b ∧ ∀ q, H1 q = none → Q (.ref q) (upd H1 q (.lst (rgV a b)))
def kRg2 (x : V) (R : Int → Int → Hp → Prop) : VK := fun y H2 => ∃ i j, x = .int i ∧ y = .int j ∧ R i j H2
def kRg1 (tb : TE) (σ : L2.St) (R : Int → Int → Hp → Prop) : VK := fun x H1 => tb σ H1 (kRg2 x R)
theorem r_lrg2 {ta tb : TE} (h : ta σ H (kRg1 tb σ (kLr2 Q))) : tLstRg (tRg2 ta tb) σ H Q := h
theorem k_rg1 {tb : TE} {R : Int → Int → Hp → Prop} (h : tb σ H (kRg2 x R)) : kRg1 tb σ R x H := h
theorem k_rg2 {R : Int → Int → Hp → Prop} {i j : Int} (h : R i j H) : kRg2 (.int i) R (.int j) H := ⟨i, j, rfl, rfl, h⟩
def kRgo (R : Int → Int → Hp → Prop) : VK := fun x H1 => ∃ n, x = .int n ∧ R 0 n H1
theorem r_lrg1 {ta : TE} (h : ta σ H (kRgo (kLr2 Q))) : tLstRg (tRg1 ta) σ H Q := h
theorem k_rgo {R : Int → Int → Hp → Prop} {n : Int} (h : R 0 n H) : kRgo R (.int n) H := ⟨n, rfl, h⟩
theorem k_lr2 {a b : Int} (ok : RgOk a b) (h : ∀ q H', H q = none → Same H H' → H' q = some (.lst (rgV a b)) → Q (.ref q) H') : kLr2 Q a b H := ⟨ok, fun q hq => h q _ hq (Same.new hq) upd_same⟩
theorem k_dnew (h : ∀ p H', H p = none → Same H H' → H' p = some (.dK []) → Q (.ref p) H') : tDNewK σ H Q := fun p hp => h p _ hp (Same.new hp) upd_same
def kDP3 (v x : V) (σ : L2.St) (N : L2.St → Hp → Prop) : VK := fun y H3 => ∃ a H4, x = .ref a ∧ DPut H3 a y v H4 ∧ N σ H4
def kDP2 (ty : TE) (v : V) (σ : L2.St) (N : L2.St → Hp → Prop) : VK := fun x H2 => ty σ H2 (kDP3 v x σ N)
def kDP1 (td ty : TE) (σ : L2.St) (N : L2.St → Hp → Prop) : VK := fun v H1 => td σ H1 (kDP2 ty v σ N)
theorem r_dput (h : tv σ H (kDP1 td ty σ nx)) : sDPut td ty tv ⟨nx, rt, bk, ct⟩ σ H := h
theorem k_dp1 {N : L2.St → Hp → Prop} (h : td σ H (kDP2 ty v σ N)) : kDP1 td ty σ N v H := h
theorem k_dp2 {N : L2.St → Hp → Prop} (h : ty σ H (kDP3 v x σ N)) : kDP2 ty v σ N x H := h
theorem k_dp3 {N : L2.St → Hp → Prop} {a : Addr} {kvs : List (Key × V)} {k : Key} (e : H a = some (.dK kvs)) (hl : kvs.length < sizeLine) (h : N σ (upd H a (.dK (putK kvs k v)))) : kDP3 v (.ref a) σ N (kV k) H := ⟨a, _, rfl, DPut.k e hl, h⟩
def kDD2 (x : V) (σ : L2.St) (N : L2.St → Hp → Prop) : VK := fun y H2 => ∃ a kvs k, x = .ref a ∧ H2 a = some (.dK kvs) ∧ y = kV k ∧ (valV kvs k).isSome = true ∧ N σ (upd H2 a (.dK (dropK kvs k)))
def kDD1 (ty : TE) (σ : L2.St) (N : L2.St → Hp → Prop) : VK := fun x H1 => ty σ H1 (kDD2 x σ N)
theorem r_ddel (h : td σ H (kDD1 ty σ nx)) : sDDel td ty ⟨nx, rt, bk, ct⟩ σ H := h
theorem k_dd1 {N : L2.St → Hp → Prop} (h : ty σ H (kDD2 x σ N)) : kDD1 ty σ N x H := h
theorem k_dd2 {N : L2.St → Hp → Prop} {a : Addr} {kvs : List (Key × V)} {k : Key} (e : H a = some (.dK kvs)) (hk : (valV kvs k).isSome = true) (h : N σ (upd H a (.dK (dropK kvs k)))) : kDD2 (.ref a) σ N (kV k) H := ⟨a, kvs, k, rfl, e, rfl, hk, h⟩
/-- a walk over a text's signs -/
def kForS (g : TG) (tb : TS) (nx : L2.St → Hp → Prop) (rt : VK) (σ : L2.St) : VK := fun v H1 => ∃ x, v = .str x ∧ ∃ W : Nat → Nat → L2.St → Hp → Prop, (∃ m, W 0 m σ H1) ∧ ∀ i m σ H, W i m σ H →
  ((Its x).stop i H ∧ nx σ H) ∨ ((Its x).go i H ∧ ∃ N : L2.St → Hp → Prop, (∀ σ' H', N σ' H' → ∃ m', m' < m ∧ W (i + 1) m' σ' H') ∧ ∀ y H', (Its x).yld i H y H' → g y σ H' fun σ2 H2 => tb ⟨N, rt, nx, N⟩ σ2 H2)
theorem r_forS {g : TG} {tb : TS} (h : te σ H (kForS g tb nx rt σ)) : tFor (iStr te) g tb ⟨nx, rt, bk, ct⟩ σ H := h
theorem k_forS {g : TG} {tb : TS} {x : Str} (Pv : Nat → L2.St → Hp → Prop) (h0 : Pv 0 σ H) (hs : ∀ (i c : Nat) (σ : L2.St) (H : Hp), x.cps[i]? = some c → Pv i σ H → g (.str ⟨#[c]⟩) σ H (kBd tb nx rt (Pv (i + 1)))) (hd : ∀ σ H, Pv x.cps.size σ H → nx σ H) : kForS g tb nx rt σ (.str x) H := by
  refine ⟨x, rfl, fun i m σ H => m = x.cps.size - i ∧ i ≤ x.cps.size ∧ Pv i σ H, ⟨x.cps.size, by simp, Nat.zero_le _, h0⟩, ?_⟩
  rintro i m σ H ⟨rfl, hi, p⟩
  by_cases hlt : i < x.cps.size
  · refine .inr ⟨hlt, Pv (i + 1), fun σ' H' p' => ⟨x.cps.size - (i + 1), by omega, rfl, hlt, p'⟩, fun y H' z => ?_⟩
    obtain ⟨e, c, hc, e2⟩ := z
    subst e e2
    exact hs i c σ _ hc p
  · have e : i = x.cps.size := by omega
    subst e
    exact .inl ⟨Nat.le_refl _, hd σ H p⟩
/-- a comprehension over a text's signs -/
def kLcS (g : TG) (tt : TT) (te : TE) (vs : List Nat) (σ : L2.St) (Q : VK) : VK := fun v H1 => ∃ x, v = .str x ∧ ∀ D, H1 D = none → ∃ W : Nat → Nat → Hp → Prop, (∃ m, W 0 m (upd H1 D (.lst []))) ∧ ∀ i m H, W i m H →
  ((Its x).stop i H ∧ Q (.ref D) H) ∨ ((Its x).go i H ∧ ∃ Nx : Hp → Prop, (∀ H', Nx H' → ∃ m', m' < m ∧ W (i + 1) m' H') ∧ ∀ y H', (Its x).yld i H y H' → g y (wipe σ vs) H' fun σ2 H2 => wipe σ2 vs = wipe σ vs ∧ tt σ2 H2 fun b H3 =>
    if b = true then te σ2 H3 fun y H4 => ∃ acc, H4 D = some (.lst acc) ∧ acc.length < sizeLine ∧ Nx (upd H4 D (.lst (acc ++ [y]))) else Nx H3)
theorem r_lcS {tl : TE} {g : TG} {tt : TT} {vs : List Nat} (h : tl σ H (kLcS g tt te vs σ Q)) : tLc (iStr tl) g tt te vs σ H Q := h
theorem k_lcS {g : TG} {tt : TT} {vs : List Nat} {x : Str} (v : Nat → V) (hx : x.cps.size < sizeLine)
    (hstep : ∀ (i c : Nat) (H' : Hp) (Y : VK) (N : Hp → Prop), x.cps[i]? = some c → Same H H' → (∀ H4, Same H' H4 → Y (v c) H4) → g (.str ⟨#[c]⟩) (wipe σ vs) H' (kLcG tt te vs σ Y N))
    (k : ∀ D H', H D = none → Same H H' → H' D = some (.lst (x.cps.toList.map v)) → Q (.ref D) H') : kLcS g tt te vs σ Q (.str x) H := by
  refine ⟨x, rfl, fun D hD => ?_⟩
  refine ⟨fun i m H' => m = x.cps.size - i ∧ i ≤ x.cps.size ∧ Same H H' ∧ H' D = some (.lst ((x.cps.toList.take i).map v)), ⟨x.cps.size, by simp, Nat.zero_le _, Same.new hD, upd_same⟩, ?_⟩
  rintro i m H' ⟨rfl, hi, s, hd⟩
  by_cases hlt : i < x.cps.size
  · refine .inr ⟨hlt, fun H' => Same H H' ∧ H' D = some (.lst ((x.cps.toList.take (i + 1)).map v)), fun H' p' => ⟨x.cps.size - (i + 1), by omega, rfl, hlt, p'⟩, fun y H2 z => ?_⟩
    obtain ⟨e, c, hc, e2⟩ := z
    subst e e2
    have hc' : x.cps.toList[i]? = some c := by rw [Array.getElem?_toList]; exact hc
    have ln : ((x.cps.toList.take i).map v).length < sizeLine := by
      rw [List.length_map, List.length_take]
      exact Nat.lt_of_le_of_lt (Nat.min_le_left _ _) (Nat.lt_trans hlt hx)
    refine hstep i c _ _ _ hc s (fun H4 s4 => ?_)
    refine ⟨_, s4 _ _ hd, ln, fun b o e => ?_, ?_⟩
    · rw [upd_ne (ne_of_none e hD)]; exact s4 _ _ (s _ _ e)
    · rw [upd_same, take_succ_of hc', List.map_append]; rfl
  · have e : i = x.cps.size := by omega
    subst e
    have et : x.cps.toList.take x.cps.size = x.cps.toList := List.take_of_length_le (by rw [Array.length_toList]; exact Nat.le_refl _)
    rw [et] at hd
    exact .inl ⟨Nat.le_refl _, k D H' hD s hd⟩
end

/-! enumerate(list); slices of texts; items of texts -/
section
variable {σ : L2.St} {H : Hp} {Q : VK} {K : PySem.W.Frag} {g : TG} {tb : TS} {a : Addr} {nx bk ct : L2.St → Hp → Prop} {rt : VK}
def kForE (K : PySem.W.Frag) (g : TG) (tb : TS) (nx : L2.St → Hp → Prop) (rt : VK) (σ : L2.St) : List V → Hp → Prop := fun vs H1 => ∃ a xs, vs = [.ref a] ∧ SqL K H1 a xs ∧ ∃ W : Nat → Nat → L2.St → Hp → Prop, (∃ m, W 0 m σ H1) ∧ ∀ i m σ H, W i m σ H →
  ((Ite K a).stop i H ∧ nx σ H) ∨ ((Ite K a).go i H ∧ ∃ N : L2.St → Hp → Prop, (∀ σ' H', N σ' H' → ∃ m', m' < m ∧ W (i + 1) m' σ' H') ∧ ∀ x H', (Ite K a).yld i H x H' → g x σ H' fun σ2 H2 => tb ⟨N, rt, nx, N⟩ σ2 H2)
theorem r_forE {ta : TA} (h : ta σ H (kForE K g tb nx rt σ)) : tFor (iEnum K ta) g tb ⟨nx, rt, bk, ct⟩ σ H := h
theorem k_forE {xs : List V} (hs0 : SqL K H a xs) (Pv : Nat → L2.St → Hp → Prop) (h0 : Pv 0 σ H) (hl : ∀ i σ H, i ≤ xs.length → Pv i σ H → SqL K H a xs)
    (hs : ∀ (i : Nat) (x : V) (σ : L2.St) (H H' : Hp) (t : Addr), xs[i]? = some x → Pv i σ H → H t = none → Same H H' → H' t = some (.tup [.int (i : Int), x]) → g (.ref t) σ H' (kBd tb nx rt (Pv (i + 1)))) (hd : ∀ σ H, Pv xs.length σ H → nx σ H) : kForE K g tb nx rt σ [.ref a] H := by
  refine ⟨a, xs, rfl, hs0, fun i m σ H => m = xs.length - i ∧ i ≤ xs.length ∧ Pv i σ H, ⟨xs.length, by simp, Nat.zero_le _, h0⟩, ?_⟩
  rintro i m σ H ⟨rfl, hi, p⟩
  have q := hl i σ H hi p
  by_cases hlt : i < xs.length
  · refine .inr ⟨⟨xs, xs[i], q, List.getElem?_eq_getElem hlt⟩, Pv (i + 1), fun σ' H' p' => ⟨xs.length - (i + 1), by omega, rfl, hlt, p'⟩, fun y H' z => ?_⟩
    obtain ⟨t, x, rfl, ht, rfl, hx⟩ := z
    exact hs i x σ H _ t (hx xs q) p ht (Same.new ht) upd_same
  · have e : i = xs.length := by omega
    subst e
    exact .inl ⟨⟨xs, q, Nat.le_refl _⟩, hd σ H p⟩
theorem k_slS {z : Str} {l u : Option Int} (hz : z.length ≤ sizeLine) (q : Q (.str (cutS z l u)) H) : rSlS (.str z) l u H Q := ⟨z, rfl, hz, q⟩
theorem k_ixS {z : Str} {i : Int} {c : Nat} (hz : z.length ≤ sizeLine) (h : atI z.cps.toList i = some c) (q : Q (.str ⟨#[c]⟩) H) : rIxS (.str z) (.int i) H Q := ⟨z, i, c, rfl, rfl, hz, h, q⟩
end
end Sk
/-! The row of seats, as mathematics: a chain of numbers. -/
namespace Sk
open PySem PySem.Spec PyProof.Rows L2

def nv : Option Nat → V
  | none => .non
  | some s => .int (s : Int)
structure Chain (n : Nat) (ord : List Nat) (fst : V) (fol : List V) : Prop where
  nd : ord.Nodup
  mem : ∀ s, s ∈ ord ↔ s < n
  lo : ord.length = n
  len : fol.length = n
  hd : fst = nv ord[0]?
  nx : ∀ (i s : Nat), ord[i]? = some s → fol[s]? = some (nv ord[i + 1]?)
def ins (ord : List Nat) (k x : Nat) : List Nat := ord.take k ++ x :: ord.drop k
theorem Chain.nil : Chain 0 [] .non [] := ⟨List.nodup_nil, fun s => by simp, rfl, rfl, rfl, fun i s h => by simp at h⟩
theorem Chain.lt {n : Nat} {ord : List Nat} {fst : V} {fol : List V} (c : Chain n ord fst fol) {i s : Nat} (h : ord[i]? = some s) : s < n := (c.mem s).mp (List.mem_of_getElem? h)
theorem Chain.ix {n : Nat} {ord : List Nat} {fst : V} {fol : List V} (c : Chain n ord fst fol) {s : Nat} (h : s < n) : ∃ i : Nat, ord[i]? = some s := List.mem_iff_getElem?.mp ((c.mem s).mpr h)
theorem Chain.il {n : Nat} {ord : List Nat} {fst : V} {fol : List V} (c : Chain n ord fst fol) {i s : Nat} (h : ord[i]? = some s) : i < n := by
  have := (List.getElem?_eq_some_iff.mp h).1
  rw [c.lo] at this
  exact this
theorem Chain.inj {n : Nat} {ord : List Nat} {fst : V} {fol : List V} (c : Chain n ord fst fol) {i j s : Nat} (h : ord[i]? = some s) (k : ord[j]? = some s) : i = j := nd_ix c.nd h k
theorem ins_len {ord : List Nat} {k x : Nat} (h : k ≤ ord.length) : (ins ord k x).length = ord.length + 1 := by
  unfold ins
  rw [List.length_append, List.length_take, List.length_cons, List.length_drop]
  omega
theorem ins_lt {ord : List Nat} {k x i : Nat} (h : i < k) (hk : k ≤ ord.length) : (ins ord k x)[i]? = ord[i]? := by
  unfold ins
  rw [List.getElem?_append_left (by rw [List.length_take]; omega), List.getElem?_take_of_lt h]
theorem ins_at {ord : List Nat} {k x : Nat} (hk : k ≤ ord.length) : (ins ord k x)[k]? = some x := by
  unfold ins
  rw [List.getElem?_append_right (by rw [List.length_take]; omega), List.length_take, Nat.min_eq_left hk, Nat.sub_self]
  rfl
theorem ins_gt {ord : List Nat} {k x i : Nat} (h : k ≤ i) (hk : k ≤ ord.length) : (ins ord k x)[i + 1]? = ord[i]? := by
  unfold ins
  rw [List.getElem?_append_right (by rw [List.length_take]; omega), List.length_take, Nat.min_eq_left hk, show i + 1 - k = (i - k) + 1 by omega, List.getElem?_cons_succ, List.getElem?_drop]
  congr 1
  omega
theorem mem_ins {ord : List Nat} {k x s : Nat} : s ∈ ins ord k x ↔ s = x ∨ s ∈ ord := by
  unfold ins
  rw [List.mem_append, List.mem_cons]
  have e : s ∈ ord ↔ s ∈ ord.take k ∨ s ∈ ord.drop k := by
    rw [← List.mem_append, List.take_append_drop]
  rw [e]
  constructor
  · rintro (h | h | h)
    · exact .inr (.inl h)
    · exact .inl h
    · exact .inr (.inr h)
  · rintro (h | h | h)
    · exact .inr (.inl h)
    · exact .inl h
    · exact .inr (.inr h)
theorem nd_ins {ord : List Nat} {k x : Nat} (h : ord.Nodup) (hx : x ∉ ord) : (ins ord k x).Nodup := by
  unfold ins
  have e : (ord.take k ++ ord.drop k).Nodup := by rw [List.take_append_drop]; exact h
  rw [List.nodup_append] at e ⊢
  obtain ⟨h1, h2, h3⟩ := e
  refine ⟨h1, ?_, ?_⟩
  · rw [List.nodup_cons]
    exact ⟨fun z => hx (List.mem_of_mem_drop z), h2⟩
  · intro a ha b hb
    rcases List.mem_cons.mp hb with e | hb
    · subst e
      intro z
      subst z
      exact hx (List.mem_of_mem_take ha)
    · exact h3 a ha b hb
theorem Chain.front {n : Nat} {ord : List Nat} {fst : V} {fol : List V} (c : Chain n ord fst fol) : Chain (n + 1) (ins ord 0 n) (.int (n : Int)) (fol ++ [fst]) := by
  have hn : n ∉ ord := fun h => Nat.lt_irrefl _ ((c.mem n).mp h)
  refine ⟨nd_ins c.nd hn, fun s => ?_, ?_, ?_, ?_, ?_⟩
  · rw [mem_ins, c.mem]; omega
  · rw [ins_len (Nat.zero_le _), c.lo]
  · rw [List.length_append, c.len]; rfl
  · rw [ins_at (Nat.zero_le _)]; rfl
  · intro i s h
    cases i with
    | zero =>
      rw [ins_at (Nat.zero_le _)] at h
      cases h
      rw [ins_gt (Nat.zero_le _) (Nat.zero_le _), List.getElem?_append_right (by rw [c.len]; exact Nat.le_refl _), c.len, Nat.sub_self, ← c.hd]
      rfl
    | succ i =>
      rw [ins_gt (Nat.zero_le _) (Nat.zero_le _)] at h
      rw [ins_gt (Nat.zero_le _) (Nat.zero_le _), List.getElem?_append_left (by rw [c.len]; exact c.lt h)]
      exact c.nx i s h
theorem Chain.behind {n : Nat} {ord : List Nat} {fst : V} {fol : List V} (c : Chain n ord fst fol) {k b : Nat} {v : V} (hb : ord[k]? = some b) (hv : fol[b]? = some v) : Chain (n + 1) (ins ord (k + 1) n) fst ((fol ++ [v]).set b (.int (n : Int))) := by
  have hn : n ∉ ord := fun h => Nat.lt_irrefl _ ((c.mem n).mp h)
  have kl : k + 1 ≤ ord.length := by have := c.il hb; rw [c.lo]; omega
  have bl : b < n := c.lt hb
  have ev : v = nv ord[k + 1]? := by
    have := c.nx k b hb
    rw [hv] at this
    exact Option.some.inj this
  refine ⟨nd_ins c.nd hn, fun s => ?_, ?_, ?_, ?_, ?_⟩
  · rw [mem_ins, c.mem]; omega
  · rw [ins_len kl, c.lo]
  · rw [List.length_set, List.length_append, c.len]; rfl
  · rw [ins_lt (Nat.succ_pos k) kl]; exact c.hd
  · intro i s h
    by_cases h1 : i < k
    · rw [ins_lt (by omega) kl] at h
      rw [ins_lt (by omega) kl]
      have sl := c.lt h
      have sb : s ≠ b := fun z => by subst z; have := c.inj h hb; omega
      rw [List.getElem?_set_ne (Ne.symm sb), List.getElem?_append_left (by rw [c.len]; exact sl)]
      exact c.nx i s h
    · by_cases h2 : i = k
      · subst h2
        rw [ins_lt (Nat.lt_succ_self _) kl] at h
        rw [hb] at h
        cases h
        rw [ins_at kl, List.getElem?_set_self (by rw [List.length_append, c.len, List.length_singleton]; omega)]
        rfl
      · by_cases h3 : i = k + 1
        · subst h3
          rw [ins_at kl] at h
          cases h
          rw [ins_gt (Nat.le_refl _) kl, List.getElem?_set_ne (by omega), List.getElem?_append_right (by rw [c.len]; exact Nat.le_refl _), c.len, Nat.sub_self, ← ev]
          rfl
        · obtain ⟨j, rfl⟩ : ∃ j, i = j + 1 := ⟨i - 1, by omega⟩
          rw [ins_gt (by omega) kl] at h
          rw [ins_gt (by omega) kl]
          have sl := c.lt h
          have sb : s ≠ b := fun z => by subst z; have := c.inj h hb; omega
          rw [List.getElem?_set_ne (Ne.symm sb), List.getElem?_append_left (by rw [c.len]; exact sl)]
          exact c.nx j s h

/-! ### the heap of a row -/
def rf (fst : V) (lf lt : Addr) : List (Str × V) := [("_first", fst), ("_following", .ref lf), ("_taken", .ref lt)]
theorem Q1 : (("_following" : Str) == "_first") = false := by decide +kernel
theorem Q2 : (("_taken" : Str) == "_first") = false := by decide +kernel
theorem Q3 : (("_taken" : Str) == "_following") = false := by decide +kernel
theorem rf_1 (fst : V) (lf lt : Addr) : (rf fst lf lt).lookup ("_first" : Str) = some fst := by
  unfold rf
  rw [List.lookup_cons, beq_self_eq_true]
theorem rf_2 (fst : V) (lf lt : Addr) : (rf fst lf lt).lookup ("_following" : Str) = some (.ref lf) := by
  unfold rf
  rw [List.lookup_cons, Q1, List.lookup_cons, beq_self_eq_true]
theorem rf_3 (fst : V) (lf lt : Addr) : (rf fst lf lt).lookup ("_taken" : Str) = some (.ref lt) := by
  unfold rf
  rw [List.lookup_cons, Q2, List.lookup_cons, Q3, List.lookup_cons, beq_self_eq_true]
def rowNo (m : Str) : Bool := !(m == "_first") && !(m == "_following") && !(m == "_taken")
theorem rf_no {fst : V} {lf lt : Addr} {m : Str} (h : rowNo m = true) : (rf fst lf lt).lookup m = none := by
  unfold rowNo at h
  simp only [Bool.and_eq_true, Bool.not_eq_true'] at h
  unfold rf
  rw [List.lookup_cons, h.1.1, List.lookup_cons, h.1.2, List.lookup_cons, h.2]
  rfl
theorem rf_put1 (fst v : V) (lf lt : Addr) : putF "_first" v (rf fst lf lt) = rf v lf lt := by
  unfold rf
  show (if ("_first" : Str) = "_first" then _ else _) = _
  rw [if_pos rfl]
theorem rf_make (lf lt : Addr) : putF "_taken" (.ref lt) (putF "_following" (.ref lf) (putF "_first" .non [])) = rf .non lf lt := by
  have e1 : ¬ (("_first" : Str) = "_following") := by decide +kernel
  have e2 : ¬ (("_first" : Str) = "_taken") := by decide +kernel
  have e3 : ¬ (("_following" : Str) = "_taken") := by decide +kernel
  unfold rf
  show putF "_taken" (.ref lt) (if ("_first" : Str) = "_following" then _ else (("_first" : Str), V.non) :: [(("_following" : Str), V.ref lf)]) = _
  rw [if_neg e1]
  show (if ("_first" : Str) = "_taken" then _ else (("_first" : Str), V.non) :: (if ("_following" : Str) = "_taken" then _ else (("_following" : Str), V.ref lf) :: [(("_taken" : Str), V.ref lt)])) = _
  rw [if_neg e2, if_neg e3]
theorem rf_len (fst : V) (lf lt : Addr) : (rf fst lf lt).length < 1000 := by show 3 < 1000; decide

/-- at p a row of the seats ord, taken as tk says; it owns the addresses S -/
def RowAt (C : Addr) (H : Hp) (p : Addr) (S : Addr → Prop) (ord : List Nat) (tk : List Bool) : Prop :=
  ∃ (dx lf lt : Addr) (fst : V) (fol : List V), H p = some (.ins C dx (rf fst lf lt)) ∧ H lf = some (.lst fol) ∧ H lt = some (.lst (tk.map V.bl)) ∧ lf ≠ lt ∧ (∀ b, S b ↔ b = p ∨ b = lf ∨ b = lt) ∧ Chain tk.length ord fst fol
section
variable {C p : Addr} {H H' : Hp} {S : Addr → Prop} {ord : List Nat} {tk : List Bool}
theorem RowAt.tr (R : RowAt C H p S ord tk) : Tr H S := by
  obtain ⟨dx, lf, lt, fst, fol, h1, h2, h3, _, hS, _⟩ := R
  intro b hb
  rcases (hS b).mp hb with e | e | e <;> subst e
  · rw [h1]; exact fun z => nomatch z
  · rw [h2]; exact fun z => nomatch z
  · rw [h3]; exact fun z => nomatch z
theorem RowAt.ag (R : RowAt C H p S ord tk) (a : Ag S H H') : RowAt C H' p S ord tk := by
  obtain ⟨dx, lf, lt, fst, fol, h1, h2, h3, h4, hS, c⟩ := R
  exact ⟨dx, lf, lt, fst, fol, a _ _ ((hS _).mpr (.inl rfl)) h1, a _ _ ((hS _).mpr (.inr (.inl rfl))) h2, a _ _ ((hS _).mpr (.inr (.inr rfl))) h3, h4, hS, c⟩
theorem RowAt.same (R : RowAt C H p S ord tk) (a : Same H H') : RowAt C H' p S ord tk := R.ag (Sk.Same.ag a)
theorem RowAt.self (R : RowAt C H p S ord tk) : S p := by
  obtain ⟨dx, lf, lt, fst, fol, h1, h2, h3, h4, hS, c⟩ := R
  exact (hS _).mpr (.inl rfl)
theorem RowAt.ins (R : RowAt C H p S ord tk) : ∃ dx fst lf lt, H p = some (.ins C dx (rf fst lf lt)) := by
  obtain ⟨dx, lf, lt, fst, fol, h1, _⟩ := R
  exact ⟨dx, fst, lf, lt, h1⟩
theorem RowAt.lo (R : RowAt C H p S ord tk) : ord.length = tk.length := by
  obtain ⟨dx, lf, lt, fst, fol, h1, h2, h3, h4, hS, c⟩ := R
  exact c.lo
theorem RowAt.nd (R : RowAt C H p S ord tk) : ord.Nodup := by
  obtain ⟨dx, lf, lt, fst, fol, h1, h2, h3, h4, hS, c⟩ := R
  exact c.nd
theorem RowAt.mem (R : RowAt C H p S ord tk) (s : Nat) : s ∈ ord ↔ s < tk.length := by
  obtain ⟨dx, lf, lt, fst, fol, h1, h2, h3, h4, hS, c⟩ := R
  exact c.mem s
theorem RowAt.ix (R : RowAt C H p S ord tk) {s : Nat} (h : s < tk.length) : ∃ i : Nat, ord[i]? = some s := by
  obtain ⟨dx, lf, lt, fst, fol, h1, h2, h3, h4, hS, c⟩ := R
  exact c.ix h
theorem k_methR {sp : Sp} {E : XK} {Q : VK} {σ : L2.St} {m : Str} {dvs : List V} {ar : TA} (R : RowAt C H p S ord tk) (hm : rowNo m = true) (h : ar σ H (kMeth2 sp (.ref p) dvs E Q)) : kMeth C m sp dvs E ar σ Q (.ref p) H := by
  obtain ⟨dx, fst, lf, lt, ho⟩ := R.ins
  exact k_meth ho (rf_no hm) h
end
/-- is it taken -/
def tkAt (tk : List Bool) (s : Nat) : Bool := tk.getD s false
theorem tk_get {tk : List Bool} {s : Nat} (h : s < tk.length) : (tk.map V.bl)[s]? = some (.bl (tkAt tk s)) := by
  unfold tkAt
  rw [List.getElem?_map, List.getElem?_eq_getElem h, List.getD_eq_getElem?_getD, List.getElem?_eq_getElem h]
  rfl
/-- how many taken ones stand among the first j -/
def ahd (ord : List Nat) (tk : List Bool) (j : Nat) : Nat := (ord.take j).countP (tkAt tk)
theorem ahd_succ {ord : List Nat} {tk : List Bool} {j s : Nat} (h : ord[j]? = some s) : ahd ord tk (j + 1) = ahd ord tk j + (if tkAt tk s then 1 else 0) := by
  unfold ahd
  have hl := (List.getElem?_eq_some_iff.mp h).1
  have e : ord.take (j + 1) = ord.take j ++ [s] := by
    rw [List.take_add_one, h]; rfl
  rw [e, List.countP_append, List.countP_singleton]
theorem cnt_filter (ord : List Nat) (tk : List Bool) (j : Nat) : ((ord.take j).filter (tkAt tk)).length = ahd ord tk j := by
  unfold ahd
  rw [List.countP_eq_length_filter]
theorem tkAt_set {tk : List Bool} {s x : Nat} {b : Bool} (h : s < tk.length) : tkAt (tk.set s b) x = if x = s then b else tkAt tk x := by
  unfold tkAt
  by_cases e : x = s
  · subst e
    rw [if_pos rfl, List.getD_eq_getElem?_getD, List.getElem?_set_self h]; rfl
  · rw [if_neg e, List.getD_eq_getElem?_getD, List.getElem?_set_ne (Ne.symm e), ← List.getD_eq_getElem?_getD]
end Sk
/-! Data that is compared as a whole. -/
namespace Sk
open PySem PySem.Spec PyProof.Rows L2

def nis (l : List Nat) : List V := l.map fun (s : Nat) => V.int (s : Int)
/-- data of depth n at most, without dicts -/
def Dep (n : Nat) (d : PyData) : Prop := d.canLay0 = true ∧ d.depth ≤ n
theorem Dep.mono {m n : Nat} {d : PyData} (h : Dep m d) (e : m ≤ n) : Dep n d := ⟨h.1, Nat.le_trans h.2 e⟩
theorem dep_int (i : Int) : Dep 0 (.int i) := ⟨by simp [PyData.canLay0], by simp [PyData.depth]⟩
theorem dep_bl (b : Bool) : Dep 0 (.bool b) := ⟨by simp [PyData.canLay0], by simp [PyData.depth]⟩
theorem dep_non : Dep 0 .none := ⟨by simp [PyData.canLay0], by simp [PyData.depth]⟩
theorem canLayAll_of : ∀ {ds : List PyData} {n : Nat}, (∀ d, d ∈ ds → Dep n d) → PyData.canLayAll0 ds = true
  | [], _, _ => by simp [PyData.canLayAll0]
  | d :: ds, n, h => by
    simp only [PyData.canLayAll0, Bool.and_eq_true]
    exact ⟨(h d List.mem_cons_self).1, canLayAll_of (n := n) fun e he => h e (List.mem_cons_of_mem _ he)⟩
theorem depthAll_of : ∀ {ds : List PyData} {n : Nat}, (∀ d, d ∈ ds → Dep n d) → PyData.depthAll ds ≤ n
  | [], _, _ => by simp [PyData.depthAll]
  | d :: ds, n, h => by
    simp only [PyData.depthAll]
    have h1 := (h d List.mem_cons_self).2
    have h2 := depthAll_of (n := n) fun e he => h e (List.mem_cons_of_mem _ he)
    omega
theorem dep_list {ds : List PyData} {n : Nat} (h : ∀ d, d ∈ ds → Dep n d) : Dep (n + 1) (.list ds) := ⟨by simp only [PyData.canLay0]; exact canLayAll_of h, by simp only [PyData.depth]; have := depthAll_of h; omega⟩
theorem dep_tup {ds : List PyData} {n : Nat} (h : ∀ d, d ∈ ds → Dep n d) : Dep (n + 1) (.tuple ds) := ⟨by simp only [PyData.canLay0]; exact canLayAll_of h, by simp only [PyData.depth]; have := depthAll_of h; omega⟩
theorem sh_of {d : PyData} {n : Nat} (h : Dep n d) (hn : n ≤ 64) : SeqAt.shaped d = true := by
  unfold SeqAt.shaped
  rw [Bool.and_eq_true]
  exact ⟨h.1, decide_eq_true (Nat.le_trans h.2 hn)⟩
theorem dep_refl {d : PyData} {n : Nat} (h : Dep n d) : PyData.eqv d d = true := SeqAt.eqv_refl d h.1
theorem eqv_nil (ds : List PyData) : PyData.eqv (.list ds) (.list []) = ds.isEmpty := by
  rw [PyData.eqv]
  cases ds <;> simp [PyData.eqvAll]
section
variable {K : PySem.W.Frag} {H : Hp}
theorem dpAll_map {α : Type} {f : α → V} {g : α → PyData} : ∀ {l : List α}, (∀ x, x ∈ l → Dp K H (f x) (g x)) → DpAll K H (l.map f) (l.map g)
  | [], _ => .nil
  | x :: l, h => .cons (h x List.mem_cons_self) (dpAll_map fun y hy => h y (List.mem_cons_of_mem _ hy))
def dI (l : List Nat) : PyData := .list (l.map fun (s : Nat) => PyData.int (s : Int))
theorem dep_dI (l : List Nat) : Dep 1 (dI l) := dep_list fun d hd => by
  obtain ⟨s, _, rfl⟩ := List.mem_map.mp hd
  exact dep_int _
theorem dp_dI {a : Addr} {l : List Nat} (h : SqL K H a (nis l)) : Dp K H (.ref a) (dI l) := .lst h (dpAll_map fun _ _ => .int _)
theorem dp_nil {a : Addr} (h : SqL K H a []) : Dp K H (.ref a) (.list []) := .lst h .nil
/-- equal data -/
theorem k_eqDt {x y : V} {d : PyData} {n : Nat} {Q : VK} (hx : Dp K H x d) (hy : Dp K H y d) (hd : Dep n d) (hn : n ≤ 64) (q : Q (.bl true) H) : rEqD K x y H Q :=
  ⟨d, d, hx, hy, sh_of hd hn, sh_of hd hn, by rw [dep_refl hd]; exact q⟩
theorem k_neDf {x y : V} {d : PyData} {n : Nat} {Q : VK} (hx : Dp K H x d) (hy : Dp K H y d) (hd : Dep n d) (hn : n ≤ 64) (q : Q (.bl false) H) : rNeD K x y H Q :=
  ⟨d, d, hx, hy, sh_of hd hn, sh_of hd hn, by rw [dep_refl hd]; exact q⟩
theorem k_eqDn {x y : V} {ds : List PyData} {n : Nat} {Q : VK} (hx : Dp K H x (.list ds)) (hy : Dp K H y (.list [])) (hd : Dep n (.list ds)) (hn : n ≤ 64) (q : Q (.bl ds.isEmpty) H) : rEqD K x y H Q :=
  ⟨_, _, hx, hy, sh_of hd hn, sh_of (dep_list (n := 0) fun d h => by cases h) (by decide), by rw [eqv_nil]; exact q⟩
theorem k_neDn {x y : V} {ds : List PyData} {n : Nat} {Q : VK} (hx : Dp K H x (.list ds)) (hy : Dp K H y (.list [])) (hd : Dep n (.list ds)) (hn : n ≤ 64) (q : Q (.bl (!ds.isEmpty)) H) : rNeD K x y H Q :=
  ⟨_, _, hx, hy, sh_of hd hn, sh_of (dep_list (n := 0) fun d h => by cases h) (by decide), by rw [eqv_nil]; exact q⟩
end
/-- the place of a number in a list of numbers -/
theorem k_ixOf {K : PySem.W.Frag} {H : Hp} {Q : VK} {a : Addr} {l : List Nat} {j s : Nat} (h : SqL K H a (nis l)) (nd : l.Nodup) (hj : l[j]? = some s) (q : Q (.int (j : Nat)) H) : rIndex K (.ref a) [.int (s : Int)] H Q := by
  refine ⟨a, nis l, .int (s : Int), j, .int (s : Int), rfl, rfl, h, rfl, ?_, ?_, ?_, ?_, q⟩
  · rw [List.all_eq_true]
    intro x hx
    obtain ⟨y, _, rfl⟩ := List.mem_map.mp hx
    rfl
  · unfold nis; rw [List.getElem?_map, hj]; rfl
  · show ((s : Int) == (s : Int)) = true
    exact beq_self_eq_true _
  · intro m z hm hz
    unfold nis at hz
    rw [List.getElem?_map] at hz
    cases e : l[m]? with
    | none => rw [e] at hz; cases hz
    | some y =>
      rw [e] at hz
      cases hz
      show ((y : Int) == (s : Int)) = false
      refine beq_eq_false_iff_ne.mpr fun z => ?_
      obtain rfl : y = s := by omega
      have := nd_ix nd e hj
      omega
theorem count_perm {ord : List Nat} {tk : List Bool} (nd : ord.Nodup) (mem : ∀ s, s ∈ ord ↔ s < tk.length) : tk.count true = (ord.filter (tkAt tk)).length := by
  rw [← List.countP_eq_length_filter]
  have p : ord.Perm (List.range tk.length) := (List.perm_ext_iff_of_nodup nd List.nodup_range).mpr fun s => by rw [mem, List.mem_range]
  rw [p.countP_eq]
  clear p nd mem
  have e : ∀ (pre : List Bool), (List.range tk.length).countP (fun i => tkAt (pre ++ tk) (pre.length + i)) = tk.count true := by
    induction tk with
    | nil => intro pre; rfl
    | cons b tk ih =>
      intro pre
      rw [List.length_cons, List.range_succ_eq_map, List.countP_cons, List.countP_map, List.count_cons]
      have := ih (pre ++ [b])
      rw [List.append_assoc, List.length_append] at this
      have f : ((fun i => tkAt (pre ++ b :: tk) (pre.length + i)) ∘ Nat.succ) = (fun i => tkAt (pre ++ ([b] ++ tk)) (pre.length + [b].length + i)) := by
        funext i
        show tkAt (pre ++ b :: tk) (pre.length + (i + 1)) = tkAt (pre ++ b :: tk) (pre.length + 1 + i)
        congr 1
        omega
      rw [f, this]
      have g : tkAt (pre ++ b :: tk) (pre.length + 0) = b := by
        unfold tkAt
        rw [List.getD_eq_getElem?_getD, List.getElem?_append_right (by omega)]
        simp
      rw [g]
      cases b <;> rfl
  have := e []
  rw [← this]
  congr 1
  funext i
  simp
def flt (tk : List Bool) : V → Bool
  | .int n => tkAt tk n.toNat
  | _ => false
theorem nis_filter (ord : List Nat) (tk : List Bool) : (nis ord).filter (flt tk) = nis (ord.filter (tkAt tk)) := by
  unfold nis
  rw [List.filter_map]
  rfl
theorem nis_at {l : List Nat} {i : Nat} {y : V} (h : (nis l)[i]? = some y) : ∃ z : Nat, l[i]? = some z ∧ y = V.int (z : Int) := by
  unfold nis at h
  rw [List.getElem?_map] at h
  cases e : l[i]? with
  | none => rw [e] at h; cases h
  | some z => rw [e] at h; exact ⟨z, rfl, (Option.some.inj h).symm⟩
theorem nis_len (l : List Nat) : (nis l).length = l.length := List.length_map _
/-! texts as lists of codes -/
def mkS (l : List Nat) : Str := ⟨l.toArray⟩
theorem mkS_app (a b : List Nat) : mkS a ++ mkS b = mkS (a ++ b) := by
  show (⟨a.toArray ++ b.toArray⟩ : Str) = ⟨(a ++ b).toArray⟩
  rw [List.append_toArray]
theorem mkS_len (a : List Nat) : (mkS a).length = a.length := by
  show a.toArray.size = a.length
  simp
theorem mkS_inj {a b : List Nat} (h : mkS a = mkS b) : a = b := by
  have e : (mkS a).cps.toList = (mkS b).cps.toList := by rw [h]
  exact e
theorem sum_one : ∀ l : List Nat, ((l.map fun c => (⟨#[c]⟩ : Str)).map (·.length)).sum = l.length
  | [] => rfl
  | c :: l => by
    rw [List.map_cons, List.map_cons, List.sum_cons, sum_one l, List.length_cons]
    show 1 + l.length = l.length + 1
    omega
theorem joinL_one : ∀ l : List Nat, TL.joinL [] (l.map fun c => [c]) = l
  | [] => rfl
  | [c] => rfl
  | c :: d :: l => by
    show [c] ++ ([] ++ TL.joinL [] ((d :: l).map fun c => [c])) = _
    rw [joinL_one (d :: l)]; rfl
theorem join_mk (l : List Nat) : Txt.join (Str.ofString "") (l.map fun c => (⟨#[c]⟩ : Str)) = mkS l := by
  rw [TL.join_eq]
  have h := TL.tl_join (Str.ofString "") (l.map fun c => (⟨#[c]⟩ : Str))
  rw [List.map_map] at h
  have e0 : TL.tl (Str.ofString "") = [] := by decide +kernel
  have e1 : (TL.tl ∘ fun c => (⟨#[c]⟩ : Str)) = fun c => [c] := rfl
  rw [e0, e1, joinL_one] at h
  have h2 := TL.mk_tl (Str.join (Str.ofString "") (l.map fun c => (⟨#[c]⟩ : Str)))
  rw [h] at h2
  exact h2.symm
theorem mkS_toList (l : List Nat) : (mkS l).cps.toList = l := rfl
theorem cutS_hi {l : List Nat} {j : Nat} (h : j ≤ l.length) : cutS (mkS l) none (some (j : Int)) = mkS (l.take j) := by
  unfold cutS
  rw [sIx_nat (by rw [mkS_len]; exact h)]
  show mkS (List.take (j - 0) (List.drop 0 l)) = _
  rw [List.drop_zero, Nat.sub_zero]
theorem cutS_lo {l : List Nat} {j : Nat} (h : j ≤ l.length) : cutS (mkS l) (some (j : Int)) none = mkS (l.drop j) := by
  unfold cutS
  rw [sIx_nat (by rw [mkS_len]; exact h)]
  show mkS (List.take ((mkS l).length - j) (List.drop j l)) = _
  rw [List.take_of_length_le (by rw [List.length_drop, mkS_len]; exact Nat.le_refl _)]
theorem cutS_both {l : List Nat} {i j : Nat} (hi : i ≤ l.length) (h : j ≤ l.length) : cutS (mkS l) (some (i : Int)) (some (j : Int)) = mkS ((l.drop i).take (j - i)) := by
  unfold cutS
  rw [sIx_nat (i := j) (by rw [mkS_len]; exact h), sIx_nat (i := i) (by rw [mkS_len]; exact hi)]
  rfl
theorem cutV_gen (xs : List V) (i j : Nat) : cutV xs (some (i : Int)) (some (j : Int)) = (xs.drop (min i xs.length)).take (min j xs.length - min i xs.length) := by
  unfold cutV
  rw [HT.sIx_nat, HT.sIx_nat]
theorem cut_gen (ns : List Int) (i j : Nat) (h : i ≤ j) : cutV (ns.map V.int) (some (i : Int)) (some (j : Int)) = ((ns.drop i).take (j - i)).map V.int := by
  rw [cutV_gen, List.map_take, List.map_drop, List.length_map]
  by_cases h1 : j ≤ ns.length
  · rw [Nat.min_eq_left h1, Nat.min_eq_left (by omega)]
  · by_cases h2 : i ≤ ns.length
    · rw [Nat.min_eq_left h2, Nat.min_eq_right (by omega), List.take_of_length_le (by rw [List.length_drop, List.length_map]; omega), List.take_of_length_le (by rw [List.length_drop, List.length_map]; omega)]
    · rw [Nat.min_eq_right (by omega : ns.length ≤ i), Nat.min_eq_right (by omega), Nat.sub_self, List.take_zero, List.drop_eq_nil_iff.mpr (by rw [List.length_map]; omega), List.take_nil]
theorem cut_script (ns : List Int) : cutV (ns.map V.int) (some (3 : Int)) (some (23 : Int)) = ((ns.drop 3).take 20).map V.int := cut_gen ns 3 23 (by decide)
end Sk
/-! More readings. -/
namespace Sk
open PySem PySem.Spec PyProof.Rows L2
section
variable {σ : L2.St} {H : Hp} {Q : VK} {K : PySem.W.Frag} {g : TG} {tb : TS} {te : TE} {x v : V} {a : Addr} {nx bk ct : L2.St → Hp → Prop} {rt : VK}
/-! xs[::-1] -/
def kRevL (K : PySem.W.Frag) (Q : VK) : VK := fun x H1 => ∃ a xs, x = .ref a ∧ SqL K H1 a xs ∧ ∀ p, H1 p = none → Q (.ref p) (upd H1 p (.lst xs.reverse))
theorem r_revL (h : te σ H (kRevL K Q)) : tRevL K te σ H Q := h
theorem k_revL {xs : List V} (hs : SqL K H a xs) (h : ∀ p H', H p = none → Same H H' → H' p = some (.lst xs.reverse) → Q (.ref p) H') : kRevL K Q (.ref a) H := ⟨a, xs, rfl, hs, fun p hp => h p _ hp (Same.new hp) upd_same⟩
/-! a list unpacked -/
theorem g_unl {n : Nat} {t : TGs} {xs : List V} {N : L2.St → Hp → Prop} (hs : SqL K H a xs) (hn : xs.length = n) (h : t xs σ H N) : gUnl K n t (.ref a) σ H N := ⟨a, xs, rfl, hs, hn, h⟩
theorem k_repL {xs : List V} {n : Nat} (h : H a = some (.lst xs)) (hz : xs.length * n ≤ sizeLine) (hn : n < 2 ^ 62) (k : ∀ p H', H p = none → Same H H' → H' p = some (.lst (List.replicate n xs).flatten) → Q (.ref p) H') : rRep (.ref a) (.int (n : Int)) H Q :=
  ⟨a, (n : Int), xs, rfl, rfl, h, by omega, by omega, by rw [Int.toNat_natCast]; exact hz, fun p hp => by rw [Int.toNat_natCast]; exact k p _ hp (Same.new hp) upd_same⟩
end
end Sk
namespace Sk
open PySem PySem.Spec PyProof.Rows L2
local macro_rules | `(tactic| walk_at "st") => `(tactic| (with_reducible (first
  | refine r_seq ?_ | refine r_set ?_ | refine r_asg ?_ | refine r_ret ?_ | refine r_drop ?_ | refine r_if ?_ | refine r_next ?_ | refine r_brk ?_ | refine r_cont ?_ | refine r_retN ?_
  | refine r_c ?_ | refine r_var (by with_unfolding_all exact rfl) ?_
  | refine r_op ?_ | refine r_un ?_ | refine r_test ?_ | refine r_tB ?_ | refine r_not ?_ | refine r_and ?_ | refine r_or ?_ | refine r_andV ?_ | refine r_orV ?_ | refine r_notV ?_ | refine r_ifE ?_ | refine r_chain ?_
  | refine r_fld ?_ | refine r_sfld ?_ | refine r_cons ?_ | refine r_nil ?_ | refine r_call ?_ | refine r_meth ?_ | refine r_make ?_ | refine r_cb ?_ | refine r_bm ?_ | refine r_bm0 ?_ | refine r_tup ?_ | refine r_lst ?_
  | refine k_set ?_ | refine k_drop ?_ | refine k_op1 ?_ | refine k_op2isN ?_ | refine k_op2notN ?_ | refine k_op2 ?_ | refine k_add ?_ | refine k_sub ?_ | refine k_lt ?_ | refine k_le ?_ | refine k_gt ?_ | refine k_ge ?_ | refine k_mod (by first | decide | assumption) ?_ | refine k_fdiv (by decide) (by decide) ?_ | refine k_un ?_ | refine k_neg ?_ | refine k_test ?_ | refine k_not ?_ | refine k_ch1 ?_ | refine k_ch2 ?_
  | refine k_sf1 ?_ | refine k_c1 ?_ | refine k_c2 ?_ | refine k_call ?_ | refine k_meth2 ?_ | refine k_makeQ ?_ | refine k_cb ?_ | refine k_bm2 ?_ | refine k_tgSub ?_ | refine k_sub1 ?_
  | refine r_sl ?_ | refine r_revL ?_ | refine k_sl1 ?_ | refine k_sl2 ?_ | refine k_sl3 ?_ | refine r_noPart ?_ | refine r_part ?_ | refine k_part ?_ | refine r_din ?_ | refine k_di1 ?_ | refine r_dnot ?_ | refine k_dn1 ?_ | refine r_dinN ?_ | refine k_diN1 ?_ | refine r_lrg2 ?_ | refine r_lrg1 ?_ | refine k_rg1 ?_ | refine k_rg2 ?_ | refine k_rgo ?_ | refine r_dput ?_ | refine k_dp1 ?_ | refine k_dp2 ?_ | refine r_ddel ?_ | refine k_dd1 ?_ | refine r_forE ?_ | refine r_forS ?_ | refine r_lcS ?_ | refine r_lcL ?_ | refine r_forL ?_ | refine r_forT ?_ | refine r_forR1 ?_ | refine r_forR2 ?_ | refine g_name ?_ | refine g_cons ?_ | refine k_gc ?_ | refine g_nil ?_ | refine k_bd ?_ | refine k_tg ?_ | refine r_lcR1 ?_ | refine r_yes ?_ | refine k_eq rfl ?_ | refine k_ne rfl ?_)))
local macro_rules | `(tactic| walk_at "go") => `(tactic| repeat walk_at "st")
/-! ### the text -/
def top (i : Nat) : Stmt := PySem.Challenge.pw_stickmarks_k01_seats_in_a_row.main.body.getD i (.Pass ⟨0, 0, 0, 0⟩)
abbrev s_is_within : Stmt := top 1
abbrev N_is_within : List Str := ["value", "least", "most"]
abbrev P_is_within : List Str := ["value", "least", "most"]
theorem sc_is_within : FnScope N_is_within P_is_within (defScope s_is_within) := ⟨rfl, rfl, rfl, by decide +kernel, rfl, by decide +kernel, by decide +kernel⟩
theorem nd_is_within : N_is_within.Nodup := sc_is_within.nd
abbrev s_Row_init : Stmt := inClass (top 7) 0
abbrev N_Row_init : List Str := ["self"]
abbrev P_Row_init : List Str := ["self"]
theorem sc_Row_init : FnScope N_Row_init P_Row_init (defScope s_Row_init) := ⟨rfl, rfl, rfl, by decide +kernel, rfl, by decide +kernel, by decide +kernel⟩
theorem nd_Row_init : N_Row_init.Nodup := sc_Row_init.nd
abbrev s_Row_many : Stmt := inClass (top 7) 4
abbrev N_Row_many : List Str := ["self"]
abbrev P_Row_many : List Str := ["self"]
theorem sc_Row_many : FnScope N_Row_many P_Row_many (defScope s_Row_many) := ⟨rfl, rfl, rfl, by decide +kernel, rfl, by decide +kernel, by decide +kernel⟩
theorem nd_Row_many : N_Row_many.Nodup := sc_Row_many.nd
abbrev s_Row_check_seat : Stmt := inClass (top 7) 10
abbrev N_Row_check_seat : List Str := ["self", "seat"]
abbrev P_Row_check_seat : List Str := ["self", "seat"]
theorem sc_Row_check_seat : FnScope N_Row_check_seat P_Row_check_seat (defScope s_Row_check_seat) := ⟨rfl, rfl, rfl, by decide +kernel, rfl, by decide +kernel, by decide +kernel⟩
theorem nd_Row_check_seat : N_Row_check_seat.Nodup := sc_Row_check_seat.nd
abbrev s_Row_add : Stmt := inClass (top 7) 1
abbrev N_Row_add : List Str := ["self", "behind", "seat"]
abbrev P_Row_add : List Str := ["self", "behind"]
theorem sc_Row_add : FnScope N_Row_add P_Row_add (defScope s_Row_add) := ⟨rfl, rfl, rfl, by decide +kernel, rfl, by decide +kernel, by decide +kernel⟩
theorem nd_Row_add : N_Row_add.Nodup := sc_Row_add.nd
abbrev s_Row_take : Stmt := inClass (top 7) 2
abbrev N_Row_take : List Str := ["self", "seat", "is_taken"]
abbrev P_Row_take : List Str := ["self", "seat", "is_taken"]
theorem sc_Row_take : FnScope N_Row_take P_Row_take (defScope s_Row_take) := ⟨rfl, rfl, rfl, by decide +kernel, rfl, by decide +kernel, by decide +kernel⟩
theorem nd_Row_take : N_Row_take.Nodup := sc_Row_take.nd
abbrev s_Row_is_taken : Stmt := inClass (top 7) 3
abbrev N_Row_is_taken : List Str := ["self", "seat"]
abbrev P_Row_is_taken : List Str := ["self", "seat"]
theorem sc_Row_is_taken : FnScope N_Row_is_taken P_Row_is_taken (defScope s_Row_is_taken) := ⟨rfl, rfl, rfl, by decide +kernel, rfl, by decide +kernel, by decide +kernel⟩
theorem nd_Row_is_taken : N_Row_is_taken.Nodup := sc_Row_is_taken.nd
abbrev s_Row_all_taken : Stmt := inClass (top 7) 5
abbrev N_Row_all_taken : List Str := ["self"]
abbrev P_Row_all_taken : List Str := ["self"]
theorem sc_Row_all_taken : FnScope N_Row_all_taken P_Row_all_taken (defScope s_Row_all_taken) := ⟨rfl, rfl, rfl, by decide +kernel, rfl, by decide +kernel, by decide +kernel⟩
theorem nd_Row_all_taken : N_Row_all_taken.Nodup := sc_Row_all_taken.nd
abbrev s_Row_ahead : Stmt := inClass (top 7) 6
abbrev N_Row_ahead : List Str := ["self", "seat", "place", "other"]
abbrev P_Row_ahead : List Str := ["self", "seat"]
theorem sc_Row_ahead : FnScope N_Row_ahead P_Row_ahead (defScope s_Row_ahead) := ⟨rfl, rfl, rfl, by decide +kernel, rfl, by decide +kernel, by decide +kernel⟩
theorem nd_Row_ahead : N_Row_ahead.Nodup := sc_Row_ahead.nd
abbrev s_Row_order : Stmt := inClass (top 7) 9
abbrev N_Row_order : List Str := ["self", "seats", "seat"]
abbrev P_Row_order : List Str := ["self"]
theorem sc_Row_order : FnScope N_Row_order P_Row_order (defScope s_Row_order) := ⟨rfl, rfl, rfl, by decide +kernel, rfl, by decide +kernel, by decide +kernel⟩
theorem nd_Row_order : N_Row_order.Nodup := sc_Row_order.nd
abbrev s_Row_find : Stmt := inClass (top 7) 7
abbrev N_Row_find : List Str := ["self", "place", "taken", "seat"]
abbrev P_Row_find : List Str := ["self", "place"]
theorem sc_Row_find : FnScope N_Row_find P_Row_find (defScope s_Row_find) := ⟨rfl, rfl, rfl, by decide +kernel, rfl, by decide +kernel, by decide +kernel⟩
theorem nd_Row_find : N_Row_find.Nodup := sc_Row_find.nd
abbrev s_Row_is_ahead : Stmt := inClass (top 7) 8
abbrev N_Row_is_ahead : List Str := ["self", "one", "other", "seat"]
abbrev P_Row_is_ahead : List Str := ["self", "one", "other"]
theorem sc_Row_is_ahead : FnScope N_Row_is_ahead P_Row_is_ahead (defScope s_Row_is_ahead) := ⟨rfl, rfl, rfl, by decide +kernel, rfl, by decide +kernel, by decide +kernel⟩
theorem nd_Row_is_ahead : N_Row_is_ahead.Nodup := sc_Row_is_ahead.nd
abbrev s_law_cell_at : Stmt := top 9
abbrev N_law_cell_at : List Str := ["_law_script", "_law_k"]
abbrev P_law_cell_at : List Str := ["_law_script", "_law_k"]
theorem sc_law_cell_at : FnScope N_law_cell_at P_law_cell_at (defScope s_law_cell_at) := ⟨rfl, rfl, rfl, by decide +kernel, rfl, by decide +kernel, by decide +kernel⟩
theorem nd_law_cell_at : N_law_cell_at.Nodup := sc_law_cell_at.nd
abbrev s_law_whole : Stmt := top 10
abbrev N_law_whole : List Str := ["_law_found"]
abbrev P_law_whole : List Str := ["_law_found"]
theorem sc_law_whole : FnScope N_law_whole P_law_whole (defScope s_law_whole) := ⟨rfl, rfl, rfl, by decide +kernel, rfl, by decide +kernel, by decide +kernel⟩
theorem nd_law_whole : N_law_whole.Nodup := sc_law_whole.nd
abbrev s_law_mixed : Stmt := top 11
abbrev N_law_mixed : List Str := ["_law_cell", "_law_k", "_law_number"]
abbrev P_law_mixed : List Str := ["_law_cell", "_law_k"]
theorem sc_law_mixed : FnScope N_law_mixed P_law_mixed (defScope s_law_mixed) := ⟨rfl, rfl, rfl, by decide +kernel, rfl, by decide +kernel, by decide +kernel⟩
theorem nd_law_mixed : N_law_mixed.Nodup := sc_law_mixed.nd
abbrev s_law_stands : Stmt := top 14
abbrev N_law_stands : List Str := ["_law_row", "_law_plain", "_law_busy", "_law_number", "_law_one", "_law_other", "_law_seat", "_law_taken", "_law_told", "_law_due", "_law_found", "_law_place", "_law_near"]
abbrev P_law_stands : List Str := ["_law_row", "_law_plain", "_law_busy", "_law_number"]
theorem sc_law_stands : FnScope N_law_stands P_law_stands (defScope s_law_stands) := ⟨rfl, rfl, rfl, by decide +kernel, rfl, by decide +kernel, by decide +kernel⟩
theorem nd_law_stands : N_law_stands.Nodup := sc_law_stands.nd
abbrev s_law : Stmt := top 15
abbrev N_law : List Str := ["_law_script", "_law_row", "_law_plain", "_law_busy", "_law_many", "_law_held", "_law_k", "_law_cell", "_law_number", "_law_behind", "_law_found", "_law_seat", "_law_is_due", "_law_told", "_law_one", "_law_copy"]
abbrev P_law : List Str := ["_law_script"]
theorem sc_law : FnScope N_law P_law (defScope s_law) := ⟨rfl, rfl, rfl, by decide +kernel, rfl, by decide +kernel, by decide +kernel⟩
theorem nd_law : N_law.Nodup := sc_law.nd
structure Tx (K : PySem.W.Frag) (mg : Str → Option Value) where
  C_Row : Addr
  f_is_within : Addr
  fd_is_within : FuncData
  f_Row_init : Addr
  fd_Row_init : FuncData
  f_Row_many : Addr
  fd_Row_many : FuncData
  f_Row_check_seat : Addr
  fd_Row_check_seat : FuncData
  f_Row_add : Addr
  fd_Row_add : FuncData
  f_Row_take : Addr
  fd_Row_take : FuncData
  f_Row_is_taken : Addr
  fd_Row_is_taken : FuncData
  f_Row_all_taken : Addr
  fd_Row_all_taken : FuncData
  f_Row_ahead : Addr
  fd_Row_ahead : FuncData
  f_Row_order : Addr
  fd_Row_order : FuncData
  f_Row_find : Addr
  fd_Row_find : FuncData
  f_Row_is_ahead : Addr
  fd_Row_is_ahead : FuncData
  f_law_cell_at : Addr
  fd_law_cell_at : FuncData
  f_law_whole : Addr
  fd_law_whole : FuncData
  f_law_mixed : Addr
  fd_law_mixed : FuncData
  f_law_stands : Addr
  fd_law_stands : FuncData
  f_law : Addr
  fd_law : FuncData
  F_is_within : Fun K "is_within" "is_within" s_is_within f_is_within fd_is_within
  b_is_within : Binds K fd_is_within P_is_within []
  mg_is_within : mg "is_within" = some (.ref f_is_within)
  F_Row_init : Fun K "__init__" "Row.__init__" s_Row_init f_Row_init fd_Row_init
  b_Row_init : Binds K fd_Row_init P_Row_init []
  F_Row_many : Fun K "many" "Row.many" s_Row_many f_Row_many fd_Row_many
  b_Row_many : Binds K fd_Row_many P_Row_many []
  m_Row_many : Meth K C_Row "many" f_Row_many
  F_Row_check_seat : Fun K "_check_seat" "Row._check_seat" s_Row_check_seat f_Row_check_seat fd_Row_check_seat
  b_Row_check_seat : Binds K fd_Row_check_seat P_Row_check_seat []
  m_Row_check_seat : Meth K C_Row "_check_seat" f_Row_check_seat
  F_Row_add : Fun K "add" "Row.add" s_Row_add f_Row_add fd_Row_add
  b_Row_add : Binds K fd_Row_add P_Row_add []
  m_Row_add : Meth K C_Row "add" f_Row_add
  F_Row_take : Fun K "take" "Row.take" s_Row_take f_Row_take fd_Row_take
  b_Row_take : Binds K fd_Row_take P_Row_take []
  m_Row_take : Meth K C_Row "take" f_Row_take
  F_Row_is_taken : Fun K "is_taken" "Row.is_taken" s_Row_is_taken f_Row_is_taken fd_Row_is_taken
  b_Row_is_taken : Binds K fd_Row_is_taken P_Row_is_taken []
  m_Row_is_taken : Meth K C_Row "is_taken" f_Row_is_taken
  F_Row_all_taken : Fun K "all_taken" "Row.all_taken" s_Row_all_taken f_Row_all_taken fd_Row_all_taken
  b_Row_all_taken : Binds K fd_Row_all_taken P_Row_all_taken []
  m_Row_all_taken : Meth K C_Row "all_taken" f_Row_all_taken
  F_Row_ahead : Fun K "ahead" "Row.ahead" s_Row_ahead f_Row_ahead fd_Row_ahead
  b_Row_ahead : Binds K fd_Row_ahead P_Row_ahead []
  m_Row_ahead : Meth K C_Row "ahead" f_Row_ahead
  F_Row_order : Fun K "order" "Row.order" s_Row_order f_Row_order fd_Row_order
  b_Row_order : Binds K fd_Row_order P_Row_order []
  m_Row_order : Meth K C_Row "order" f_Row_order
  F_Row_find : Fun K "find" "Row.find" s_Row_find f_Row_find fd_Row_find
  b_Row_find : Binds K fd_Row_find P_Row_find []
  m_Row_find : Meth K C_Row "find" f_Row_find
  F_Row_is_ahead : Fun K "is_ahead" "Row.is_ahead" s_Row_is_ahead f_Row_is_ahead fd_Row_is_ahead
  b_Row_is_ahead : Binds K fd_Row_is_ahead P_Row_is_ahead []
  m_Row_is_ahead : Meth K C_Row "is_ahead" f_Row_is_ahead
  F_law_cell_at : Fun K "_law_cell_at" "_law_cell_at" s_law_cell_at f_law_cell_at fd_law_cell_at
  b_law_cell_at : Binds K fd_law_cell_at P_law_cell_at []
  mg_law_cell_at : mg "_law_cell_at" = some (.ref f_law_cell_at)
  F_law_whole : Fun K "_law_whole" "_law_whole" s_law_whole f_law_whole fd_law_whole
  b_law_whole : Binds K fd_law_whole P_law_whole []
  mg_law_whole : mg "_law_whole" = some (.ref f_law_whole)
  F_law_mixed : Fun K "_law_mixed" "_law_mixed" s_law_mixed f_law_mixed fd_law_mixed
  b_law_mixed : Binds K fd_law_mixed P_law_mixed []
  mg_law_mixed : mg "_law_mixed" = some (.ref f_law_mixed)
  F_law_stands : Fun K "_law_stands" "_law_stands" s_law_stands f_law_stands fd_law_stands
  b_law_stands : Binds K fd_law_stands P_law_stands []
  mg_law_stands : mg "_law_stands" = some (.ref f_law_stands)
  F_law : Fun K "law" "law" s_law f_law fd_law
  b_law : Binds K fd_law P_law []
  mg_law : mg "law" = some (.ref f_law)
  cl_Row : Cls K C_Row
  mg_Row : mg "Row" = some (.ref C_Row)
  mk_Row : Mk K C_Row f_Row_init
  n_Row_first : NoAttr K C_Row "_first"
  n_Row_following : NoAttr K C_Row "_following"
  n_Row_taken : NoAttr K C_Row "_taken"
  z_bool : mg "bool" = none
  z_int : mg "int" = none
  z_isinstance : mg "isinstance" = none
  z_len : mg "len" = none
  z_list : mg "list" = none
  z_max : mg "max" = none
  z_min : mg "min" = none
  z_range : mg "range" = none
  z_type : mg "type" = none
/-! ### promises of the row -/
def isW : V → Int → Int → Bool
  | .int n, a, b => decide (a ≤ n) && decide (n ≤ b)
  | _, _, _ => false
def sp_within (K : PySem.W.Frag) : Sp := fun vs H Q _ => ∃ (v : V) (a b : Int) (T : String), vs = [v, .int a, .int b] ∧ TyB K H v T ∧ Q (.bl (isW v a b)) H
def sp_rinit (C : Addr) : Sp := fun vs H Q _ => ∃ (p dx : Addr), vs = [.ref p] ∧ H p = some (.ins C dx []) ∧ ∀ H' S, RowAt C H' p S [] [] → Fr (fun b => b = p) H H' → Gr H (fun b => b = p) S → Q .non H'
def sp_many (C : Addr) : Sp := fun vs H Q _ => ∃ (p : Addr) (S : Addr → Prop) (ord : List Nat) (tk : List Bool), vs = [.ref p] ∧ RowAt C H p S ord tk ∧ Q (.int (tk.length : Int)) H
def sp_chk (K : PySem.W.Frag) (C : Addr) : Sp := fun vs H Q _ => ∃ (p : Addr) (S : Addr → Prop) (ord : List Nat) (tk : List Bool) (v : V) (T : String), vs = [.ref p, v] ∧ RowAt C H p S ord tk ∧ TyB K H v T ∧ isW v 0 ((tk.length : Int) - 1) = true ∧ Q .non H
def sp_add (C : Addr) : Sp := fun vs H Q _ => ∃ (p : Addr) (S : Addr → Prop) (ord : List Nat) (tk : List Bool) (bv : V) (k : Nat), vs = [.ref p, bv] ∧ RowAt C H p S ord tk ∧ tk.length < 10000 ∧
  ((bv = .non ∧ k = 0) ∨ ∃ (j b : Nat), bv = .int (b : Int) ∧ ord[j]? = some b ∧ k = j + 1) ∧ ∀ H', RowAt C H' p S (ins ord k tk.length) (tk ++ [false]) → Fr S H H' → Q (.int (tk.length : Int)) H'
def sp_take (C : Addr) : Sp := fun vs H Q _ => ∃ (p : Addr) (S : Addr → Prop) (ord : List Nat) (tk : List Bool) (s : Nat) (b : Bool), vs = [.ref p, .int (s : Int), .bl b] ∧ RowAt C H p S ord tk ∧ s < tk.length ∧
  ∀ H', RowAt C H' p S ord (tk.set s b) → Fr S H H' → Q .non H'
def sp_isTaken (C : Addr) : Sp := fun vs H Q _ => ∃ (p : Addr) (S : Addr → Prop) (ord : List Nat) (tk : List Bool) (s : Nat), vs = [.ref p, .int (s : Int)] ∧ RowAt C H p S ord tk ∧ s < tk.length ∧ Q (.bl (tkAt tk s)) H
def sp_allTaken (C : Addr) : Sp := fun vs H Q _ => ∃ (p : Addr) (S : Addr → Prop) (ord : List Nat) (tk : List Bool), vs = [.ref p] ∧ RowAt C H p S ord tk ∧ Q (.int (tk.count true : Nat)) H
def sp_ahead (C : Addr) : Sp := fun vs H Q _ => ∃ (p : Addr) (S : Addr → Prop) (ord : List Nat) (tk : List Bool) (j s : Nat), vs = [.ref p, .int (s : Int)] ∧ RowAt C H p S ord tk ∧ ord[j]? = some s ∧ Q (.int (ahd ord tk j : Nat)) H
def sp_order (C : Addr) : Sp := fun vs H Q _ => ∃ (p : Addr) (S : Addr → Prop) (ord : List Nat) (tk : List Bool), vs = [.ref p] ∧ RowAt C H p S ord tk ∧ tk.length < 10000 ∧ ∀ H' l, H l = none → Same H H' → H' l = some (.lst (nis ord)) → Q (.ref l) H'
def sp_find (C : Addr) : Sp := fun vs H Q _ => ∃ (p : Addr) (S : Addr → Prop) (ord : List Nat) (tk : List Bool) (j s : Nat), vs = [.ref p, .int (j : Int)] ∧ RowAt C H p S ord tk ∧ tk.length < 10000 ∧ (ord.filter (tkAt tk))[j]? = some s ∧ ∀ H', Same H H' → Q (.int (s : Int)) H'
def sp_isAhead (C : Addr) : Sp := fun vs H Q _ => ∃ (p : Addr) (S : Addr → Prop) (ord : List Nat) (tk : List Bool) (i j a b : Nat), vs = [.ref p, .int (a : Int), .int (b : Int)] ∧ RowAt C H p S ord tk ∧ ord[i]? = some a ∧ ord[j]? = some b ∧ Q (.bl (decide (i < j))) H

section
variable {P : Program} {w : World} {K : PySem.W.Frag} {mg : Str → Option Value} {base : Heap}
theorem ok_is_within (T : Tx K mg) : FnOk P w K mg base (L2.CX P w) 1 T.f_is_within T.fd_is_within P_is_within (sp_within K) := by
  refine T.F_is_within.okX sc_is_within (fun vs H Q E h => ?_) (fun cdv A outer s H vs Q E hr h => ?_)
  · obtain ⟨v, a, b, T, rfl, _⟩ := h; rfl
  · obtain ⟨v, a, b, Ty, rfl, ht, k⟩ := h
    refine ⟨_, (pss_one (ps_ret (pe_and (pe_cmpR op_eqTy (pe_callTy call_type1 (by rfl) T.z_type (by decide +kernel) (pa_cons (pv 0) pa_nil)) (pe_bltn (v := .ty "int") (by rfl) T.z_int (by decide +kernel) rfl) (nomark _)) (pe_one (pe_chain op_le op_le (pv 1) (pv 0) (pv 2)))))), ?_⟩
    change (_ : L2.TS) _ [some _, some _, some _] _
    walk_at "go"
    refine ⟨v, Ty, rfl, ht, ?_⟩
    walk_at "go"
    refine k_eqTy (tyN_of ht) TyN.int ?_
    refine k_andV (fun hb => ?_) (fun hb => ?_)
    · obtain ⟨n, rfl⟩ := ty_int ht (of_decide_eq_true hb)
      walk_at "go"
      refine k_ch3 (fun h1 => ?_) (fun h1 => ?_)
      · walk_at "go"
        have e : isW (.int n) a b = decide (n ≤ b) := by show (decide (a ≤ n) && decide (n ≤ b)) = _; rw [h1]; rfl
        rw [← e]; exact k
      · have e : isW (.int n) a b = false := by show (decide (a ≤ n) && decide (n ≤ b)) = _; rw [h1]; rfl
        rw [e] at k; exact k
    · have e : isW v a b = false := by
        cases v with
        | int n => exact absurd (int_ty ht) (of_decide_eq_false hb)
        | _ => rfl
      rw [e] at k; exact k
theorem ok_Row_init (T : Tx K mg) : FnOk P w K mg base (L2.CX P w) 1 T.f_Row_init T.fd_Row_init P_Row_init (sp_rinit T.C_Row) := by
  refine T.F_Row_init.okX sc_Row_init (fun vs H Q E h => ?_) (fun cdv A outer s H vs Q E hr h => ?_)
  · obtain ⟨p, dx, rfl, _⟩ := h; rfl
  · obtain ⟨p, dx, rfl, hp, k⟩ := h
    refine ⟨_, (pss_cons (ps_fld (pv 0) pe_non rfl)
      (pss_cons (ps_fld (pv 0) (pe_lst pa_nil) rfl)
      (pss_one (ps_fld (pv 0) (pe_lst pa_nil) rfl)))), ?_⟩
    change (_ : L2.TS) _ [some _] _
    walk_at "go"
    refine k_sf2 hp T.cl_Row T.n_Row_first (by show 0 < 1000; decide) ?_
    walk_at "go"
    refine k_lst (Nat.zero_le _) fun lf hf => ?_
    have nf : p ≠ lf := ne_of_none upd_same hf
    have hf0 : H lf = none := by rw [upd_ne nf.symm] at hf; exact hf
    walk_at "go"
    refine k_sf2 (dx := dx) (fs := putF "_first" .non []) (by rw [upd_ne nf]; exact upd_same) T.cl_Row T.n_Row_following (by show 1 < 1000; decide) ?_
    walk_at "go"
    refine k_lst (Nat.zero_le _) fun lt ht => ?_
    have nt : p ≠ lt := ne_of_none upd_same ht
    have nl : lf ≠ lt := ne_of_none (by rw [upd_ne nf.symm]; exact upd_same) ht
    have ht0 : H lt = none := by rw [upd_ne nt.symm, upd_ne nl.symm, upd_ne nt.symm] at ht; exact ht
    walk_at "go"
    refine k_sf2 (dx := dx) (fs := putF "_following" (.ref lf) (putF "_first" .non [])) (by rw [upd_ne nt]; exact upd_same) T.cl_Row T.n_Row_taken (by show 2 < 1000; decide) ?_
    walk_at "go"
    refine k _ (fun b => b = p ∨ b = lf ∨ b = lt) ⟨dx, lf, lt, .non, [], ?_, ?_, ?_, nl, fun _ => Iff.rfl, Chain.nil⟩ (fun b o e nb => ?_) (fun b hb => ?_)
    · rw [upd_same, rf_make]
    · rw [upd_ne nf.symm, upd_ne nl, upd_ne nf.symm, upd_same]
    · rw [upd_ne nt.symm, upd_same]; rfl
    · have nb' : b ≠ p := nb
      rw [upd_ne nb', upd_ne (ne_of_none e ht0), upd_ne nb', upd_ne (ne_of_none e hf0), upd_ne nb']; exact e
    · rcases hb with e | e | e
      · exact .inl e
      · exact .inr (e ▸ hf0)
      · exact .inr (e ▸ ht0)
theorem ok_Row_many (T : Tx K mg) : FnOk P w K mg base (L2.CX P w) 1 T.f_Row_many T.fd_Row_many P_Row_many (sp_many T.C_Row) := by
  refine T.F_Row_many.okX sc_Row_many (fun vs H Q E h => ?_) (fun cdv A outer s H vs Q E hr h => ?_)
  · obtain ⟨p, S, ord, tk, rfl, _⟩ := h; rfl
  · obtain ⟨p, S, ord, tk, rfl, R, k⟩ := h
    obtain ⟨dx, lf, lt, fst, fol, h1, h2, h3, h4, hS, c⟩ := id R
    refine ⟨_, (pss_one (ps_ret (pe_callB call_len_seq (by rfl) T.z_len (by decide +kernel) (pa_cons (pe_fld (pv 0) rfl) pa_nil)))), ?_⟩
    change (_ : L2.TS) _ [some _] _
    walk_at "go"
    refine k_fld h1 T.cl_Row T.n_Row_taken (rf_3 _ _ _) ?_
    walk_at "go"
    refine ⟨lt, _, rfl, .inl (SqL.of h3), ?_⟩
    walk_at "go"
    rw [List.length_map]; exact k
theorem ok_Row_check_seat (T : Tx K mg) : FnOk P w K mg base (L2.CX P w) 2 T.f_Row_check_seat T.fd_Row_check_seat P_Row_check_seat (sp_chk K T.C_Row) := by
  refine T.F_Row_check_seat.okX sc_Row_check_seat (fun vs H Q E h => ?_) (fun cdv A outer s H vs Q E hr h => ?_)
  · obtain ⟨p, S, ord, tk, v, T, rfl, _⟩ := h; rfl
  · obtain ⟨p, S, ord, tk, v, Ty, rfl, R, ht, hw, k⟩ := h
    refine ⟨_, (pss_one (ps_if (pt_not (pt_val (pe_call (ok_is_within T) (hr.mono (by decide)) rfl T.mg_is_within T.F_is_within.kp T.b_is_within .nil passL (pa_cons (pv 1) (pa_cons pe_int (pa_cons (pe_op op_sub (pe_meth0 (pv 0) T.cl_Row T.m_Row_many (ok_Row_many T) (hr.mono (by decide)) T.b_Row_many .nil passL) pe_int) pa_nil)))))) (pss_one ps_never) pss_nil)), ?_⟩
    change (_ : L2.TS) _ [some _, some _] _
    walk_at "go"
    refine k_methR R (by decide +kernel) ?_
    walk_at "go"
    refine ⟨p, S, ord, tk, rfl, R, ?_⟩
    walk_at "go"
    refine ⟨v, 0, _, Ty, rfl, ht, ?_⟩
    rw [hw]
    walk_at "go"
    refine k_ifF ?_
    walk_at "go"
    exact k
theorem ok_Row_add (T : Tx K mg) : FnOk P w K mg base (L2.CX P w) 3 T.f_Row_add T.fd_Row_add P_Row_add (sp_add T.C_Row) := by
  refine T.F_Row_add.okX sc_Row_add (fun vs H Q E h => ?_) (fun cdv A outer s H vs Q E hr h => ?_)
  · obtain ⟨p, S, ord, tk, bv, k, rfl, _⟩ := h; rfl
  · obtain ⟨p, S, ord, tk, bv, kk, rfl, R, hlen, hb, k⟩ := h
    obtain ⟨dx, lf, lt, fst, fol, h1, h2, h3, h4, hS, c⟩ := id R
    have npf : p ≠ lf := ne_of h1 h2 (by intro z; cases z)
    have npt : p ≠ lt := ne_of h1 h3 (by intro z; cases z)
    have hfl : fol.length < sizeLine := by rw [c.len]; exact Nat.lt_trans hlen (by decide)
    have htl : (tk.map V.bl).length < sizeLine := by rw [List.length_map]; exact Nat.lt_trans hlen (by decide)
    refine ⟨_, (pss_cons (ps_set (i := 2) nd_Row_add rfl (Or.inl rfl) (pe_meth0 (pv 0) T.cl_Row T.m_Row_many (ok_Row_many T) (hr.mono (by decide)) T.b_Row_many .nil passL))
      (pss_cons (ps_if (pt_cmpR op_isN (pv 1) pe_non (nomark _)) (pss_cons (ps_expr (pe_bm PySem.F.plainAttrs_list PySem.F.slot_list_append PySem.F.type_list_append mt_append (pe_fld (pv 0) rfl) (pa_cons (pe_fld (pv 0) rfl) pa_nil)))
      (pss_one (ps_fld (pv 0) (pv 2) rfl))) (pss_cons (ps_expr (pe_meth (pv 0) T.cl_Row T.m_Row_check_seat (ok_Row_check_seat T) (hr.mono (by decide)) T.b_Row_check_seat .nil passL (pa_cons (pv 1) pa_nil)))
      (pss_cons (ps_expr (pe_bm PySem.F.plainAttrs_list PySem.F.slot_list_append PySem.F.type_list_append mt_append (pe_fld (pv 0) rfl) (pa_cons (pe_ix ix_list (pe_fld (pv 0) rfl) (pv 1) (fun _ _ => rfl)) pa_nil)))
      (pss_one (ps_asg (pv 2) (pg_sub (pe_fld (pv 0) rfl) (pv 1) set_list))))))
      (pss_cons (ps_expr (pe_bm PySem.F.plainAttrs_list PySem.F.slot_list_append PySem.F.type_list_append mt_append (pe_fld (pv 0) rfl) (pa_cons pe_bl pa_nil)))
      (pss_one (ps_ret (pv 2)))))), ?_⟩
    change (_ : L2.TS) _ [some _, some _, Option.none] _
    walk_at "go"
    refine k_methR R (by decide +kernel) ?_
    walk_at "go"
    refine ⟨p, S, ord, tk, rfl, R, ?_⟩
    walk_at "go"
    refine k_if (fun hb1 => ?_) (fun hb1 => ?_)
    · have e : bv = .non := of_decide_eq_true hb1
      subst e
      obtain rfl : kk = 0 := by
        rcases hb with ⟨_, e⟩ | ⟨j, b, e, _⟩
        · exact e
        · cases e
      walk_at "go"
      refine k_fld h1 T.cl_Row T.n_Row_following (rf_2 _ _ _) ?_
      refine k_bm (tyL h2) ?_
      walk_at "go"
      refine k_fld h1 T.cl_Row T.n_Row_first (rf_1 _ _ _) ?_
      walk_at "go"
      refine ⟨lf, fol, fst, rfl, rfl, h2, hfl, ?_⟩
      walk_at "go"
      refine k_sf2 (dx := dx) (fs := rf fst lf lt) (by rw [upd_ne npf]; exact h1) T.cl_Row T.n_Row_first (rf_len _ _ _) ?_
      walk_at "go"
      refine k_fld (dx := dx) (fs := rf (.int (tk.length : Int)) lf lt) (by rw [upd_same, rf_put1]) T.cl_Row T.n_Row_taken (rf_3 _ _ _) ?_
      have h3' : upd (upd H lf (.lst (fol ++ [fst]))) p (.ins T.C_Row dx (putF "_first" (.int (tk.length : Int)) (rf fst lf lt))) lt = some (.lst (tk.map V.bl)) := by rw [upd_ne npt.symm, upd_ne h4.symm]; exact h3
      refine k_bm (tyL h3') ?_
      walk_at "go"
      refine ⟨lt, _, .bl false, rfl, rfl, h3', htl, ?_⟩
      walk_at "go"
      refine k _ ⟨dx, lf, lt, .int (tk.length : Int), fol ++ [fst], ?_, ?_, ?_, h4, hS, ?_⟩ (fun b o e nb => ?_)
      · rw [upd_ne npt, upd_same, rf_put1]
      · rw [upd_ne h4, upd_ne npf.symm, upd_same]
      · rw [upd_same, List.map_append]; rfl
      · rw [List.length_append]; exact c.front
      · have n1 : b ≠ p := fun z => nb ((hS b).mpr (.inl z))
        have n2 : b ≠ lf := fun z => nb ((hS b).mpr (.inr (.inl z)))
        have n3 : b ≠ lt := fun z => nb ((hS b).mpr (.inr (.inr z)))
        rw [upd_ne n3, upd_ne n1, upd_ne n2]; exact e
    · have e : bv ≠ .non := of_decide_eq_false hb1
      obtain ⟨j, b, rfl, hj, rfl⟩ : ∃ (j b : Nat), bv = .int (b : Int) ∧ ord[j]? = some b ∧ kk = j + 1 := by
        rcases hb with ⟨z, _⟩ | z
        · exact absurd z e
        · exact z
      have bl : b < tk.length := c.lt hj
      walk_at "go"
      refine k_methR R (by decide +kernel) ?_
      walk_at "go"
      refine ⟨p, S, ord, tk, .int b, "int", rfl, R, .int _, ?_, ?_⟩
      · show (decide ((0 : Int) ≤ b) && decide ((b : Int) ≤ (tk.length : Int) - 1)) = true
        rw [decide_eq_true (by omega), decide_eq_true (by omega)]; rfl
      walk_at "go"
      refine k_fld h1 T.cl_Row T.n_Row_following (rf_2 _ _ _) ?_
      refine k_bm (tyL h2) ?_
      walk_at "go"
      refine k_fld h1 T.cl_Row T.n_Row_following (rf_2 _ _ _) ?_
      obtain ⟨v, hv⟩ : ∃ v, fol[b]? = some v := ⟨fol[b]'(by rw [c.len]; exact bl), List.getElem?_eq_getElem _⟩
      walk_at "go"
      refine k_ixL (SqL.of h2) (atI_nat hv) ?_
      walk_at "go"
      refine ⟨lf, fol, v, rfl, rfl, h2, hfl, ?_⟩
      walk_at "go"
      refine k_fld (dx := dx) (fs := rf fst lf lt) (by rw [upd_ne npf]; exact h1) T.cl_Row T.n_Row_following (rf_2 _ _ _) ?_
      walk_at "go"
      refine k_sub2L upd_same (j := b) ?_ ?_
      · unfold ixN
        rw [if_pos (by omega), if_pos (by rw [List.length_append, c.len, List.length_singleton]; omega)]
        rfl
      walk_at "go"
      refine k_fld (dx := dx) (fs := rf fst lf lt) (by rw [upd_ne npf, upd_ne npf]; exact h1) T.cl_Row T.n_Row_taken (rf_3 _ _ _) ?_
      have h3' : upd (upd H lf (.lst (fol ++ [v]))) lf (.lst ((fol ++ [v]).set b (.int (tk.length : Int)))) lt = some (.lst (tk.map V.bl)) := by rw [upd_ne h4.symm, upd_ne h4.symm]; exact h3
      refine k_bm (tyL h3') ?_
      walk_at "go"
      refine ⟨lt, _, .bl false, rfl, rfl, h3', htl, ?_⟩
      walk_at "go"
      refine k _ ⟨dx, lf, lt, fst, (fol ++ [v]).set b (.int (tk.length : Int)), ?_, ?_, ?_, h4, hS, ?_⟩ (fun b o e nb => ?_)
      · rw [upd_ne npt, upd_ne npf, upd_ne npf]; exact h1
      · rw [upd_ne h4, upd_same]
      · rw [upd_same, List.map_append]; rfl
      · rw [List.length_append]; exact c.behind hj hv
      · have n2 : b ≠ lf := fun z => nb ((hS b).mpr (.inr (.inl z)))
        have n3 : b ≠ lt := fun z => nb ((hS b).mpr (.inr (.inr z)))
        rw [upd_ne n3, upd_ne n2, upd_ne n2]; exact e
theorem ok_Row_take (T : Tx K mg) : FnOk P w K mg base (L2.CX P w) 3 T.f_Row_take T.fd_Row_take P_Row_take (sp_take T.C_Row) := by
  refine T.F_Row_take.okX sc_Row_take (fun vs H Q E h => ?_) (fun cdv A outer s H vs Q E hr h => ?_)
  · obtain ⟨p, S, ord, tk, x, b, rfl, _⟩ := h; rfl
  · obtain ⟨p, S, ord, tk, x, b, rfl, R, hs, k⟩ := h
    obtain ⟨dx, lf, lt, fst, fol, h1, h2, h3, h4, hS, c⟩ := id R
    have npt : p ≠ lt := ne_of h1 h3 (by intro z; cases z)
    refine ⟨_, (pss_cons (ps_expr (pe_meth (pv 0) T.cl_Row T.m_Row_check_seat (ok_Row_check_seat T) (hr.mono (by decide)) T.b_Row_check_seat .nil passL (pa_cons (pv 1) pa_nil)))
      (pss_one (ps_asg (pe_callTy call_bool1 (by rfl) T.z_bool (by decide +kernel) (pa_cons (pv 2) pa_nil)) (pg_sub (pe_fld (pv 0) rfl) (pv 1) set_list)))), ?_⟩
    change (_ : L2.TS) _ [some _, some _, some _] _
    walk_at "go"
    refine k_methR R (by decide +kernel) ?_
    walk_at "go"
    refine ⟨p, S, ord, tk, .int x, "int", rfl, R, .int _, ?_, ?_⟩
    · show (decide ((0 : Int) ≤ x) && decide ((x : Int) ≤ (tk.length : Int) - 1)) = true
      rw [decide_eq_true (by omega), decide_eq_true (by omega)]; rfl
    walk_at "go"
    refine .inr ⟨b, rfl, ?_⟩
    walk_at "go"
    refine k_fld h1 T.cl_Row T.n_Row_taken (rf_3 _ _ _) ?_
    walk_at "go"
    refine k_sub2L h3 (j := x) ?_ ?_
    · unfold ixN
      rw [if_pos (by omega), if_pos (by rw [List.length_map]; omega)]
      rfl
    walk_at "go"
    refine k _ ⟨dx, lf, lt, fst, fol, ?_, ?_, ?_, h4, hS, ?_⟩ (fun b' o e nb => ?_)
    · rw [upd_ne npt]; exact h1
    · rw [upd_ne h4]; exact h2
    · rw [upd_same, List.map_set]
    · rw [List.length_set]; exact c
    · have n3 : b' ≠ lt := fun z => nb ((hS b').mpr (.inr (.inr z)))
      rw [upd_ne n3]; exact e
theorem ok_Row_is_taken (T : Tx K mg) : FnOk P w K mg base (L2.CX P w) 3 T.f_Row_is_taken T.fd_Row_is_taken P_Row_is_taken (sp_isTaken T.C_Row) := by
  refine T.F_Row_is_taken.okX sc_Row_is_taken (fun vs H Q E h => ?_) (fun cdv A outer s H vs Q E hr h => ?_)
  · obtain ⟨p, S, ord, tk, x, rfl, _⟩ := h; rfl
  · obtain ⟨p, S, ord, tk, x, rfl, R, hs, k⟩ := h
    obtain ⟨dx, lf, lt, fst, fol, h1, h2, h3, h4, hS, c⟩ := id R
    refine ⟨_, (pss_cons (ps_expr (pe_meth (pv 0) T.cl_Row T.m_Row_check_seat (ok_Row_check_seat T) (hr.mono (by decide)) T.b_Row_check_seat .nil passL (pa_cons (pv 1) pa_nil)))
      (pss_one (ps_ret (pe_ix ix_list (pe_fld (pv 0) rfl) (pv 1) (fun _ _ => rfl))))), ?_⟩
    change (_ : L2.TS) _ [some _, some _] _
    walk_at "go"
    refine k_methR R (by decide +kernel) ?_
    walk_at "go"
    refine ⟨p, S, ord, tk, .int x, "int", rfl, R, .int _, ?_, ?_⟩
    · show (decide ((0 : Int) ≤ x) && decide ((x : Int) ≤ (tk.length : Int) - 1)) = true
      rw [decide_eq_true (by omega), decide_eq_true (by omega)]; rfl
    walk_at "go"
    refine k_fld h1 T.cl_Row T.n_Row_taken (rf_3 _ _ _) ?_
    walk_at "go"
    refine k_ixL (SqL.of h3) (atI_nat (tk_get hs)) ?_
    exact k
theorem ok_Row_all_taken (T : Tx K mg) : FnOk P w K mg base (L2.CX P w) 1 T.f_Row_all_taken T.fd_Row_all_taken P_Row_all_taken (sp_allTaken T.C_Row) := by
  refine T.F_Row_all_taken.okX sc_Row_all_taken (fun vs H Q E h => ?_) (fun cdv A outer s H vs Q E hr h => ?_)
  · obtain ⟨p, S, ord, tk, rfl, _⟩ := h; rfl
  · obtain ⟨p, S, ord, tk, rfl, R, k⟩ := h
    obtain ⟨dx, lf, lt, fst, fol, h1, h2, h3, h4, hS, c⟩ := id R
    refine ⟨_, (pss_one (ps_ret (pe_bm PySem.F.plainAttrs_list PySem.F.slot_list_count PySem.F.type_list_count mt_countB (pe_fld (pv 0) rfl) (pa_cons pe_bl pa_nil)))), ?_⟩
    change (_ : L2.TS) _ [some _] _
    walk_at "go"
    refine k_fld h1 T.cl_Row T.n_Row_taken (rf_3 _ _ _) ?_
    refine k_bm (tyL h3) ?_
    walk_at "go"
    exact ⟨lt, tk, true, rfl, rfl, SqL.of h3, k⟩
theorem ok_Row_ahead (T : Tx K mg) : FnOk P w K mg base (L2.CX P w) 3 T.f_Row_ahead T.fd_Row_ahead P_Row_ahead (sp_ahead T.C_Row) := by
  refine T.F_Row_ahead.okX sc_Row_ahead (fun vs H Q E h => ?_) (fun cdv A outer s H vs Q E hr h => ?_)
  · obtain ⟨p, S, ord, tk, j, x, rfl, _⟩ := h; rfl
  · obtain ⟨p, S, ord, tk, j, x, rfl, R, hj, k⟩ := h
    obtain ⟨dx, lf, lt, fst, fol, h1, h2, h3, h4, hS, c⟩ := id R
    have hx : x < tk.length := c.lt hj
    refine ⟨_, (pss_cons (ps_expr (pe_meth (pv 0) T.cl_Row T.m_Row_check_seat (ok_Row_check_seat T) (hr.mono (by decide)) T.b_Row_check_seat .nil passL (pa_cons (pv 1) pa_nil)))
      (pss_cons (ps_set (i := 2) nd_Row_ahead rfl (Or.inl rfl) pe_int)
      (pss_cons (ps_set (i := 3) nd_Row_ahead rfl (Or.inl rfl) (pe_fld (pv 0) rfl))
      (pss_cons (ps_while (passes_of rfl) (pt_cmpR op_ne (pv 3) (pv 1) (nomark _)) (pss_cons (ps_if (pt_val (pe_ix ix_list (pe_fld (pv 0) rfl) (pv 3) (fun _ _ => rfl))) (pss_one (ps_aug (i := 2) nd_Row_ahead rfl (Or.inl rfl) pe_int ip_add)) pss_nil)
      (pss_one (ps_set (i := 3) nd_Row_ahead rfl (Or.inl rfl) (pe_ix ix_list (pe_fld (pv 0) rfl) (pv 3) (fun _ _ => rfl))))))
      (pss_one (ps_ret (pv 2))))))), ?_⟩
    change (_ : L2.TS) _ [some _, some _, Option.none, Option.none] _
    walk_at "go"
    refine k_methR R (by decide +kernel) ?_
    walk_at "go"
    refine ⟨p, S, ord, tk, .int x, "int", rfl, R, .int _, ?_, ?_⟩
    · show (decide ((0 : Int) ≤ x) && decide ((x : Int) ≤ (tk.length : Int) - 1)) = true
      rw [decide_eq_true (by omega), decide_eq_true (by omega)]; rfl
    walk_at "go"
    refine k_fld h1 T.cl_Row T.n_Row_first (rf_1 _ _ _) ?_
    walk_at "go"
    refine r_while (fun m σ H' => ∃ i : Nat, m = j - i ∧ i ≤ j ∧ H' = H ∧ σ = [some (.ref p), some (.int (x : Int)), some (.int (ahd ord tk i : Nat)), some (nv ord[i]?)]) j ⟨0, rfl, Nat.zero_le _, rfl, by rw [c.hd]; rfl⟩ ?_ ?_
    · rintro m σ H' ⟨i, rfl, hi, rfl, rfl⟩
      obtain ⟨y, hy⟩ : ∃ y, ord[i]? = some y := ⟨ord[i]'(by rw [c.lo]; have := c.il hj; omega), List.getElem?_eq_getElem _⟩
      have yl := c.lt hy
      rw [hy]
      walk_at "go"
      walk_at "go"
      refine k_if (fun hb => ?_) (fun hb => ?_)
      · have ne : y ≠ x := fun z => by
          subst z
          rw [decide_eq_true (show nv (some y) = V.int (y : Int) from rfl)] at hb
          cases hb
        have il : i < j := by
          rcases Nat.lt_or_ge i j with z | z
          · exact z
          · obtain rfl : i = j := by omega
            rw [hy] at hj; exact absurd (Option.some.inj hj) ne
        walk_at "go"
        refine k_fld h1 T.cl_Row T.n_Row_taken (rf_3 _ _ _) ?_
        walk_at "go"
        refine k_ixL (i := (y : Int)) (SqL.of h3) (atI_nat (tk_get yl)) ?_
        walk_at "go"
        refine k_if (fun ht => ?_) (fun ht => ?_)
        · refine r_aug (by with_unfolding_all exact rfl) ?_
          walk_at "go"
          refine k_augI ?_
          walk_at "go"
          refine k_fld h1 T.cl_Row T.n_Row_following (rf_2 _ _ _) ?_
          walk_at "go"
          refine k_ixL (i := (y : Int)) (SqL.of h2) (atI_nat (c.nx i y hy)) ?_
          walk_at "go"
          refine ⟨j - (i + 1), by omega, i + 1, rfl, il, rfl, ?_⟩
          rw [ahd_succ hy, ht]; rfl
        · walk_at "go"
          refine k_fld h1 T.cl_Row T.n_Row_following (rf_2 _ _ _) ?_
          walk_at "go"
          refine k_ixL (i := (y : Int)) (SqL.of h2) (atI_nat (c.nx i y hy)) ?_
          walk_at "go"
          refine ⟨j - (i + 1), by omega, i + 1, rfl, il, rfl, ?_⟩
          rw [ahd_succ hy, ht]; rfl
      · have e : y = x := by
          rcases Nat.decEq y x with z | z
          · exfalso
            have q : nv (some y) ≠ V.int (x : Int) := fun q => z (by have := V.int.inj q; omega)
            rw [decide_eq_false q] at hb; cases hb
          · exact z
        subst e
        obtain rfl : i = j := c.inj hy hj
        walk_at "go"
        exact k
    · exact mono_test fun σ H Q Q' h q => by
        obtain ⟨v, e1, u, e2, e3, q⟩ := q
        exact ⟨v, e1, u, e2, e3, h _ _ q⟩
theorem ok_Row_order (T : Tx K mg) : FnOk P w K mg base (L2.CX P w) 1 T.f_Row_order T.fd_Row_order P_Row_order (sp_order T.C_Row) := by
  refine T.F_Row_order.okX sc_Row_order (fun vs H Q E h => ?_) (fun cdv A outer s H vs Q E hr h => ?_)
  · obtain ⟨p, S, ord, tk, rfl, _⟩ := h; rfl
  · obtain ⟨p, S, ord, tk, rfl, R, hlen, k⟩ := h
    obtain ⟨dx, lf, lt, fst, fol, h1, h2, h3, h4, hS, c⟩ := id R
    refine ⟨_, (pss_cons (ps_set (i := 1) nd_Row_order rfl (Or.inl rfl) (pe_lst pa_nil))
      (pss_cons (ps_set (i := 2) nd_Row_order rfl (Or.inl rfl) (pe_fld (pv 0) rfl))
      (pss_cons (ps_while (passes_of rfl) (pt_cmpR op_notN (pv 2) pe_non (nomark _)) (pss_cons (ps_expr (pe_bm PySem.F.plainAttrs_list PySem.F.slot_list_append PySem.F.type_list_append mt_append (pv 1) (pa_cons (pv 2) pa_nil)))
      (pss_one (ps_set (i := 2) nd_Row_order rfl (Or.inl rfl) (pe_ix ix_list (pe_fld (pv 0) rfl) (pv 2) (fun _ _ => rfl))))))
      (pss_one (ps_ret (pv 1)))))), ?_⟩
    change (_ : L2.TS) _ [some _, Option.none, Option.none] _
    walk_at "go"
    refine k_lst (Nat.zero_le _) fun l hl => ?_
    have npl : p ≠ l := ne_of_none h1 hl
    have nfl : lf ≠ l := ne_of_none h2 hl
    walk_at "go"
    refine k_fld (dx := dx) (fs := rf fst lf lt) (by rw [upd_ne npl]; exact h1) T.cl_Row T.n_Row_first (rf_1 _ _ _) ?_
    walk_at "go"
    refine r_while (fun m σ H' => ∃ i : Nat, m = ord.length - i ∧ i ≤ ord.length ∧ Same H H' ∧ H' l = some (.lst (nis (ord.take i))) ∧ σ = [some (.ref p), some (.ref l), some (nv ord[i]?)]) ord.length ⟨0, rfl, Nat.zero_le _, Same.new hl, upd_same, by rw [c.hd]; rfl⟩ ?_ ?_
    · rintro m σ H' ⟨i, rfl, hi, hsm, hL, rfl⟩
      walk_at "go"
      refine k_if (fun hb => ?_) (fun hb => ?_)
      · obtain ⟨y, hy⟩ : ∃ y, ord[i]? = some y := by
          cases e : ord[i]? with
          | none =>
            rw [e, decide_eq_true (show nv none = V.non from rfl)] at hb
            cases hb
          | some y => exact ⟨y, rfl⟩
        have yl := c.lt hy
        have il := (List.getElem?_eq_some_iff.mp hy).1
        have hlt : (nis (ord.take i)).length < sizeLine := by
          unfold nis
          rw [List.length_map, List.length_take, c.lo]
          exact Nat.lt_of_le_of_lt (Nat.min_le_right _ _) (Nat.lt_trans hlen (by decide))
        rw [hy]
        walk_at "go"
        refine k_bm (tyL hL) ?_
        walk_at "go"
        refine ⟨l, _, nv (some y), rfl, rfl, hL, hlt, ?_⟩
        walk_at "go"
        refine k_fld (dx := dx) (fs := rf fst lf lt) (by rw [upd_ne npl]; exact hsm _ _ h1) T.cl_Row T.n_Row_following (rf_2 _ _ _) ?_
        walk_at "go"
        refine k_ixL (p := lf) (xs := fol) (i := (y : Int)) (SqL.of (by rw [upd_ne nfl]; exact hsm _ _ h2)) (atI_nat (c.nx i y hy)) ?_
        walk_at "go"
        refine ⟨ord.length - (i + 1), by omega, i + 1, rfl, il, fun b o e => ?_, ?_, rfl⟩
        · rw [upd_ne (ne_of_none e hl)]; exact hsm _ _ e
        · rw [upd_same, List.take_add_one, hy]
          unfold nis
          rw [List.map_append]; rfl
      · have e : i = ord.length := by
          rcases Nat.lt_or_ge i ord.length with z | z
          · exfalso
            rw [List.getElem?_eq_getElem z, decide_eq_false (show nv (some ord[i]) ≠ V.non from fun q => nomatch q)] at hb
            cases hb
          · omega
        subst e
        rw [List.take_length] at hL
        walk_at "go"
        exact k _ l hl hsm hL
    · exact mono_test fun σ H Q Q' h q => by
        obtain ⟨v, e1, e3, q⟩ := q
        exact ⟨v, e1, e3, h _ _ q⟩
theorem ok_Row_is_ahead (T : Tx K mg) : FnOk P w K mg base (L2.CX P w) 3 T.f_Row_is_ahead T.fd_Row_is_ahead P_Row_is_ahead (sp_isAhead T.C_Row) := by
  refine T.F_Row_is_ahead.okX sc_Row_is_ahead (fun vs H Q E h => ?_) (fun cdv A outer s H vs Q E hr h => ?_)
  · obtain ⟨p, S, ord, tk, i, j, a, b, rfl, _⟩ := h; rfl
  · obtain ⟨p, S, ord, tk, i, j, a, b, rfl, R, hi, hj, k⟩ := h
    obtain ⟨dx, lf, lt, fst, fol, h1, h2, h3, h4, hS, c⟩ := id R
    have al : a < tk.length := c.lt hi
    have bl : b < tk.length := c.lt hj
    refine ⟨_, (pss_cons (ps_expr (pe_meth (pv 0) T.cl_Row T.m_Row_check_seat (ok_Row_check_seat T) (hr.mono (by decide)) T.b_Row_check_seat .nil passL (pa_cons (pv 1) pa_nil)))
      (pss_cons (ps_expr (pe_meth (pv 0) T.cl_Row T.m_Row_check_seat (ok_Row_check_seat T) (hr.mono (by decide)) T.b_Row_check_seat .nil passL (pa_cons (pv 2) pa_nil)))
      (pss_cons (ps_set (i := 3) nd_Row_is_ahead rfl (Or.inl rfl) (pe_ix ix_list (pe_fld (pv 0) rfl) (pv 1) (fun _ _ => rfl)))
      (pss_cons (ps_while (passes_of rfl) (PW.pt (pw_and (pt_cmpR op_notN (pv 3) pe_non (nomark _)) (pw_and1 (pt_cmpR op_ne (pv 3) (pv 2) (nomark _))))) (pss_one (ps_set (i := 3) nd_Row_is_ahead rfl (Or.inl rfl) (pe_ix ix_list (pe_fld (pv 0) rfl) (pv 3) (fun _ _ => rfl)))))
      (pss_one (ps_ret (pe_cmpR op_notN (pv 3) pe_non (nomark _)))))))), ?_⟩
    change (_ : L2.TS) _ [some _, some _, some _, Option.none] _
    walk_at "go"
    refine k_methR R (by decide +kernel) ?_
    walk_at "go"
    refine ⟨p, S, ord, tk, .int a, "int", rfl, R, .int _, ?_, ?_⟩
    · show (decide ((0 : Int) ≤ a) && decide ((a : Int) ≤ (tk.length : Int) - 1)) = true
      rw [decide_eq_true (by omega), decide_eq_true (by omega)]; rfl
    walk_at "go"
    refine k_methR R (by decide +kernel) ?_
    walk_at "go"
    refine ⟨p, S, ord, tk, .int b, "int", rfl, R, .int _, ?_, ?_⟩
    · show (decide ((0 : Int) ≤ b) && decide ((b : Int) ≤ (tk.length : Int) - 1)) = true
      rw [decide_eq_true (by omega), decide_eq_true (by omega)]; rfl
    walk_at "go"
    refine k_fld h1 T.cl_Row T.n_Row_following (rf_2 _ _ _) ?_
    walk_at "go"
    refine k_ixL (i := (a : Int)) (SqL.of h2) (atI_nat (c.nx i a hi)) ?_
    walk_at "go"
    refine r_while (fun m σ H' => ∃ q : Nat, m = ord.length + 1 - q ∧ q ≤ ord.length ∧ i < q ∧ (i < j → q ≤ j) ∧ H' = H ∧ σ = [some (.ref p), some (.int (a : Int)), some (.int (b : Int)), some (nv ord[q]?)]) (ord.length - i) ⟨i + 1, by omega, by have := c.il hi; rw [c.lo]; omega, by omega, fun z => z, rfl, rfl⟩ ?_ ?_
    · rintro m σ H' ⟨q, rfl, hq, iq, hqj, rfl, rfl⟩
      cases hy : ord[q]? with
      | none =>
        have z : ord.length ≤ q := List.getElem?_eq_none_iff.mp hy
        walk_at "go"
        refine k_andF ?_
        refine k_ifF ?_
        walk_at "go"
        have e : ¬ i < j := fun z2 => by have := hqj z2; have := c.il hj; have := c.lo; omega
        rw [decide_eq_false e] at k
        exact k
      | some y =>
        have yl := c.lt hy
        have ql := (List.getElem?_eq_some_iff.mp hy).1
        walk_at "go"
        refine k_andT ?_
        walk_at "go"
        walk_at "go"
        refine k_if (fun hb => ?_) (fun hb => ?_)
        · have ne : y ≠ b := fun z => by
            subst z
            rw [decide_eq_true (show nv (some y) = V.int (y : Int) from rfl)] at hb
            cases hb
          walk_at "go"
          refine k_fld h1 T.cl_Row T.n_Row_following (rf_2 _ _ _) ?_
          walk_at "go"
          refine k_ixL (i := (y : Int)) (SqL.of h2) (atI_nat (c.nx q y hy)) ?_
          walk_at "go"
          refine ⟨ord.length + 1 - (q + 1), by omega, q + 1, rfl, by omega, by omega, fun z => ?_, rfl, rfl⟩
          have z1 := hqj z
          rcases Nat.lt_or_ge q j with z2 | z2
          · omega
          · obtain rfl : q = j := by omega
            rw [hy] at hj; exact absurd (Option.some.inj hj) ne
        · have e : y = b := by
            rcases Nat.decEq y b with z | z
            · exfalso
              have q : nv (some y) ≠ V.int (b : Int) := fun q => z (by have := V.int.inj q; omega)
              rw [decide_eq_false q] at hb; cases hb
            · exact z
          subst e
          obtain rfl : q = j := c.inj hy hj
          walk_at "go"
          rw [decide_eq_true iq] at k
          exact k
    · intro σ H Q Q' h q
      obtain ⟨v, e1, e3, b1, e4, q⟩ := q
      refine ⟨v, e1, e3, b1, e4, ?_⟩
      cases b1 with
      | false => exact h _ _ q
      | true =>
        obtain ⟨v, e1, u, e2, e3, b2, e4, q⟩ := q
        exact ⟨v, e1, u, e2, e3, b2, e4, h _ _ q⟩
theorem ok_Row_find (T : Tx K mg) : FnOk P w K mg base (L2.CX P w) 2 T.f_Row_find T.fd_Row_find P_Row_find (sp_find T.C_Row) := by
  refine T.F_Row_find.okX sc_Row_find (fun vs H Q E h => ?_) (fun cdv A outer s H vs Q E hr h => ?_)
  · obtain ⟨p, S, ord, tk, j, x, rfl, _⟩ := h; rfl
  · obtain ⟨p, S, ord, tk, j, x, rfl, R, hlen, hj, k⟩ := h
    refine ⟨_, (pss_cons (ps_setLc (i := 2) (own := [("seat", 3)]) (tt := (tB (tOp (rIxL K) (tFld K (tVar 0) "_taken") (tVar 3)))) (te := (tVar 3)) (g := (gName 3)) rfl nd_Row_find rfl rfl (sw_true rfl rfl rfl (by decide +kernel)) (pi_list (pe_meth0 (pv 0) T.cl_Row T.m_Row_order (ok_Row_order T) (hr.mono (by decide)) T.b_Row_order .nil passL)) (blkOk_by (N := N_Row_find) (sc := defScope s_Row_find) (by decide +kernel)) (fun _ _ _ _ _ => by exact (pg_name (i := 3) nd_Row_find rfl (Or.inl rfl))) (fun _ _ _ _ _ => by exact pts_one (pt_val (pe_ix ix_list (pe_fld (pv 0) rfl) (pv 3) (fun _ _ => rfl)))) (fun _ _ _ _ _ => by exact (pv 3)))
      (pss_cons (ps_if (pt_not (pt_val (pe_call (ok_is_within T) (hr.mono (by decide)) rfl T.mg_is_within T.F_is_within.kp T.b_is_within .nil passL (pa_cons (pv 1) (pa_cons pe_int (pa_cons (pe_op op_sub (pe_callB call_len_seq (by rfl) T.z_len (by decide +kernel) (pa_cons (pv 2) pa_nil)) pe_int) pa_nil)))))) (pss_one ps_never) pss_nil)
      (pss_one (ps_ret (pe_ix ix_list (pv 2) (pv 1) (fun _ _ => rfl)))))), ?_⟩
    change (_ : L2.TS) _ [some _, some _, Option.none, Option.none] _
    walk_at "go"
    refine k_methR R (by decide +kernel) ?_
    walk_at "go"
    refine ⟨p, S, ord, tk, rfl, R, hlen, fun H1 l hl s1 hL => ?_⟩
    have R1 := R.same s1
    obtain ⟨dx, lf, lt, fst, fol, h1, h2, h3, h4, hS, c⟩ := id R1
    refine k_lcL (fun x => match x with | .int n => tkAt tk n.toNat | _ => false) (fun x => x) (SqL.of hL) ?_ ?_ ?_
    · unfold nis
      rw [List.length_map, c.lo]; exact Nat.lt_trans hlen (by decide)
    · intro i y H' Y N hi s2 hY hN
      obtain ⟨z, hz, rfl⟩ : ∃ z : Nat, ord[i]? = some z ∧ y = V.int (z : Int) := by
        unfold nis at hi
        rw [List.getElem?_map] at hi
        cases e : ord[i]? with
        | none => rw [e] at hi; cases hi
        | some z => rw [e] at hi; exact ⟨z, rfl, (Option.some.inj hi).symm⟩
      refine k_lcG rfl ?_
      walk_at "go"
      refine k_fld (s2 _ _ h1) T.cl_Row T.n_Row_taken (rf_3 _ _ _) ?_
      walk_at "go"
      refine k_ixL (SqL.of (s2 _ _ h3)) (atI_nat (tk_get (c.lt hz))) ?_
      walk_at "go"
      refine k_lcT (fun hb => ?_) (fun hb => ?_)
      · walk_at "go"
        exact hY hb _ (Same.refl _)
      · exact hN hb _ (Same.refl _)
    · intro D H' hD s2 hd
      have e : ((nis ord).filter (fun x => match x with | .int n => tkAt tk n.toNat | _ => false)).map (fun x => x) = nis (ord.filter (tkAt tk)) := by
        unfold nis
        rw [List.map_id', List.filter_map]
        rfl
      rw [e] at hd
      have jl := (List.getElem?_eq_some_iff.mp hj).1
      walk_at "go"
      refine ⟨D, _, rfl, .inl (SqL.of hd), ?_⟩
      walk_at "go"
      refine ⟨.int j, 0, _, "int", rfl, .int _, ?_⟩
      have ew : isW (.int (j : Int)) 0 (((nis (ord.filter (tkAt tk))).length : Int) - 1) = true := by
        unfold nis
        rw [List.length_map]
        show (decide ((0 : Int) ≤ j) && decide ((j : Int) ≤ _ - 1)) = true
        rw [decide_eq_true (by omega), decide_eq_true (by omega)]; rfl
      rw [ew]
      walk_at "go"
      refine k_ifF ?_
      walk_at "go"
      refine k_ixL (v := .int (x : Int)) (SqL.of hd) (atI_nat (by unfold nis; rw [List.getElem?_map, hj]; rfl)) ?_
      exact k _ (s1.trans s2)
end
end Sk
namespace Sk
open PySem PySem.Spec PyProof.Rows L2
local macro_rules | `(tactic| walk_at "st") => `(tactic| (with_reducible (first
  | refine r_seq ?_ | refine r_set ?_ | refine r_asg ?_ | refine r_ret ?_ | refine r_drop ?_ | refine r_if ?_ | refine r_next ?_ | refine r_brk ?_ | refine r_cont ?_ | refine r_retN ?_
  | refine r_c ?_ | refine r_var (by with_unfolding_all exact rfl) ?_
  | refine r_op ?_ | refine r_un ?_ | refine r_test ?_ | refine r_tB ?_ | refine r_not ?_ | refine r_and ?_ | refine r_or ?_ | refine r_andV ?_ | refine r_orV ?_ | refine r_notV ?_ | refine r_ifE ?_ | refine r_chain ?_
  | refine r_fld ?_ | refine r_sfld ?_ | refine r_cons ?_ | refine r_nil ?_ | refine r_call ?_ | refine r_meth ?_ | refine r_make ?_ | refine r_cb ?_ | refine r_bm ?_ | refine r_bm0 ?_ | refine r_tup ?_ | refine r_lst ?_
  | refine k_set ?_ | refine k_drop ?_ | refine k_op1 ?_ | refine k_op2isN ?_ | refine k_op2notN ?_ | refine k_op2 ?_ | refine k_add ?_ | refine k_sub ?_ | refine k_lt ?_ | refine k_le ?_ | refine k_gt ?_ | refine k_ge ?_ | refine k_mod (by first | decide | assumption) ?_ | refine k_fdiv (by decide) (by decide) ?_ | refine k_un ?_ | refine k_neg ?_ | refine k_test ?_ | refine k_not ?_ | refine k_ch1 ?_ | refine k_ch2 ?_
  | refine k_sf1 ?_ | refine k_c1 ?_ | refine k_c2 ?_ | refine k_call ?_ | refine k_meth2 ?_ | refine k_makeQ ?_ | refine k_cb ?_ | refine k_bm2 ?_ | refine k_tgSub ?_ | refine k_sub1 ?_
  | refine r_sl ?_ | refine r_revL ?_ | refine k_sl1 ?_ | refine k_sl2 ?_ | refine k_sl3 ?_ | refine r_noPart ?_ | refine r_part ?_ | refine k_part ?_ | refine r_din ?_ | refine k_di1 ?_ | refine r_dnot ?_ | refine k_dn1 ?_ | refine r_dinN ?_ | refine k_diN1 ?_ | refine r_lrg2 ?_ | refine r_lrg1 ?_ | refine k_rg1 ?_ | refine k_rg2 ?_ | refine k_rgo ?_ | refine r_dput ?_ | refine k_dp1 ?_ | refine k_dp2 ?_ | refine r_ddel ?_ | refine k_dd1 ?_ | refine r_forE ?_ | refine r_forS ?_ | refine r_lcS ?_ | refine r_lcL ?_ | refine r_forL ?_ | refine r_forT ?_ | refine r_forR1 ?_ | refine r_forR2 ?_ | refine g_name ?_ | refine g_cons ?_ | refine k_gc ?_ | refine g_nil ?_ | refine k_bd ?_ | refine k_tg ?_ | refine r_lcR1 ?_ | refine r_yes ?_ | refine k_eq rfl ?_ | refine k_ne rfl ?_)))
local macro_rules | `(tactic| walk_at "go") => `(tactic| repeat walk_at "st")
/-! ### the law's helpers -/
def mixI (c k : Int) : Int := (c * 48271 + 7919 * k + 12345) % 2147483647 * ((c * 48271 + 7919 * k + 12345) % 2147483647) % 2147483647 * ((c * 48271 + 7919 * k + 12345) % 2147483647) % 2147483647
theorem mix_ge (c k : Int) : 0 ≤ mixI c k := Int.emod_nonneg _ (by decide)
theorem mix_lt (c k : Int) : mixI c k < 2147483647 := Int.emod_lt_of_pos _ (by decide)
def sp_cell (K : PySem.W.Frag) : Sp := fun vs H Q _ => ∃ (a : Addr) (ns : List Int) (k : Nat), vs = [.ref a, .int (k : Int)] ∧ SqL K H a (ns.map V.int) ∧ Q (.int (ns.getD k 0)) H
def sp_whole : Sp := fun vs H Q _ => ∃ n : Int, vs = [.int n] ∧ Q (.bl true) H
def sp_mixed : Sp := fun vs H Q _ => ∃ c k : Int, vs = [.int c, .int k] ∧ (-(2 ^ 62) ≤ k ∧ k ≤ 2 ^ 62) ∧ Q (.int (mixI c k)) H
section
variable {K : PySem.W.Frag} {H : Hp} {Q : VK}
theorem k_isIntInt {n : Int} (q : Q (.bl true) H) : rIsi K [.int n, .ty "int"] H Q := ⟨.int n, .ty "int", .type "int", .type "int", true, rfl, .ty _, .base (.int n), kit_ty (by decide +kernel), q⟩
theorem k_isIntBool {n : Int} (q : Q (.bl false) H) : rIsi K [.int n, .ty "bool"] H Q := ⟨.int n, .ty "bool", .type "int", .type "bool", false, rfl, .ty _, .base (.int n), kit_ty (by decide +kernel), q⟩
theorem k_isStrStr {x : Str} (q : Q (.bl true) H) : rIsi K [.str x, .ty "str"] H Q := ⟨.str x, .ty "str", .type "str", .type "str", true, rfl, .ty _, .base (.str x), kit_ty (by decide +kernel), q⟩
theorem k_isBoolBool {b : Bool} (q : Q (.bl true) H) : rIsi K [.bl b, .ty "bool"] H Q := ⟨.bl b, .ty "bool", .type "bool", .type "bool", true, rfl, .ty _, .base (.bl b), kit_ty (by decide +kernel), q⟩
end
section
variable {P : Program} {w : World} {K : PySem.W.Frag} {mg : Str → Option Value} {base : Heap}
theorem ok_law_cell_at (T : Tx K mg) : FnOk P w K mg base (L2.CX P w) 1 T.f_law_cell_at T.fd_law_cell_at P_law_cell_at (sp_cell K) := by
  refine T.F_law_cell_at.okX sc_law_cell_at (fun vs H Q E h => ?_) (fun cdv A outer s H vs Q E hr h => ?_)
  · obtain ⟨a, ns, k, rfl, _⟩ := h; rfl
  · obtain ⟨a, ns, kk, rfl, hs, k⟩ := h
    refine ⟨_, (pss_cons (ps_if (pt_cmpR op_lt (pv 1) (pe_callB call_len_seq (by rfl) T.z_len (by decide +kernel) (pa_cons (pv 0) pa_nil)) (nomark _)) (pss_one (ps_ret (pe_ix ix_list (pv 0) (pv 1) (fun _ _ => rfl)))) pss_nil)
      (pss_one (ps_ret pe_int))), ?_⟩
    change (_ : L2.TS) _ [some _, some _] _
    walk_at "go"
    refine ⟨a, _, rfl, .inl hs, ?_⟩
    walk_at "go"
    rw [List.length_map]
    refine k_if (fun hb => ?_) (fun hb => ?_)
    · have hl : kk < ns.length := by have := of_decide_eq_true hb; omega
      walk_at "go"
      refine k_ixL hs (atI_nat (v := .int (ns.getD kk 0)) ?_) ?_
      · rw [List.getElem?_map, List.getElem?_eq_getElem hl, List.getD_eq_getElem?_getD, List.getElem?_eq_getElem hl]; rfl
      · exact k
    · have hl : ns.length ≤ kk := by have := of_decide_eq_false hb; omega
      walk_at "go"
      rw [List.getD_eq_getElem?_getD, List.getElem?_eq_none hl] at k
      exact k
theorem ok_law_whole (T : Tx K mg) : FnOk P w K mg base (L2.CX P w) 1 T.f_law_whole T.fd_law_whole P_law_whole sp_whole := by
  refine T.F_law_whole.okX sc_law_whole (fun vs H Q E h => ?_) (fun cdv A outer s H vs Q E hr h => ?_)
  · obtain ⟨n, rfl, _⟩ := h; rfl
  · obtain ⟨n, rfl, k⟩ := h
    refine ⟨_, (pss_one (ps_ret (pe_and (pe_callB call_isi (by rfl) T.z_isinstance (by decide +kernel) (pa_cons (pv 0) (pa_cons (pe_bltn (v := .ty "int") (by rfl) T.z_int (by decide +kernel) rfl) pa_nil))) (pe_one (pe_not (pe_callB call_isi (by rfl) T.z_isinstance (by decide +kernel) (pa_cons (pv 0) (pa_cons (pe_bltn (v := .ty "bool") (by rfl) T.z_bool (by decide +kernel) rfl) pa_nil)))))))), ?_⟩
    change (_ : L2.TS) _ [some _] _
    walk_at "go"
    refine k_isIntInt ?_
    refine k_andV (fun _ => ?_) (fun z => nomatch z)
    walk_at "go"
    refine k_isIntBool ?_
    refine k_notV ?_
    exact k
theorem ok_law_mixed (T : Tx K mg) : FnOk P w K mg base (L2.CX P w) 1 T.f_law_mixed T.fd_law_mixed P_law_mixed sp_mixed := by
  refine T.F_law_mixed.okX sc_law_mixed (fun vs H Q E h => ?_) (fun cdv A outer s H vs Q E hr h => ?_)
  · obtain ⟨c, k, rfl, _⟩ := h; rfl
  · obtain ⟨c, kk, rfl, hk, k⟩ := h
    have g0 : 0 ≤ (c * 48271 + 7919 * kk + 12345) % 2147483647 := Int.emod_nonneg _ (by decide)
    have g1 : (c * 48271 + 7919 * kk + 12345) % 2147483647 < 2147483647 := Int.emod_lt_of_pos _ (by decide)
    refine ⟨_, (pss_cons (ps_set (i := 2) nd_law_mixed rfl (Or.inl rfl) (pe_op op_mod (pe_op op_add (pe_op op_add (pe_op op_mul (pv 0) pe_int) (pe_op op_mul pe_int (pv 1))) pe_int) pe_int))
      (pss_one (ps_ret (pe_op op_mod (pe_op op_mul (pe_op op_mod (pe_op op_mul (pv 2) (pv 2)) pe_int) (pv 2)) pe_int)))), ?_⟩
    change (_ : L2.TS) _ [some _, some _, Option.none] _
    walk_at "go"
    refine k_mul (.inr ⟨by decide, by decide⟩) ?_
    walk_at "go"
    refine k_mul (.inl ⟨by decide, by decide⟩) ?_
    walk_at "go"
    refine k_mul (.inl ⟨by omega, by omega⟩) ?_
    walk_at "go"
    refine k_mul (.inr ⟨by omega, by omega⟩) ?_
    walk_at "go"
    exact k
end
def sp_stands (K : PySem.W.Frag) (C : Addr) : Sp := fun vs H Q _ => ∃ (p lp lb : Addr) (S : Addr → Prop) (ord : List Nat) (tk : List Bool) (n : Int), vs = [.ref p, .ref lp, .ref lb, .int n] ∧ RowAt C H p S ord tk ∧
  H lp = some (.lst (nis ord)) ∧ H lb = some (.lst (tk.map V.bl)) ∧ 0 ≤ n ∧ 0 < tk.length ∧ tk.length < 10000 ∧ ∀ H', Same H H' → Q (.bl true) H'
section
variable {P : Program} {w : World} {K : PySem.W.Frag} {mg : Str → Option Value} {base : Heap}
theorem ok_law_stands (T : Tx K mg) : FnOk P w K mg base (L2.CX P w) 4 T.f_law_stands T.fd_law_stands P_law_stands (sp_stands K T.C_Row) := by
  refine T.F_law_stands.okX sc_law_stands (fun vs H Q E h => ?_) (fun cdv A outer s H vs Q E hr h => ?_)
  · obtain ⟨p, lp, lb, S, ord, tk, n, rfl, _⟩ := h; rfl
  · obtain ⟨p, lp, lb, S, ord, tk, n, rfl, R, hp, hb, hn, h0, hlen, k⟩ := h
    have hl : (0 : Int) < ((tk.map V.bl).length : Int) := by rw [List.length_map]; omega
    have dvl : ((tk.map V.bl).length : Int) = (tk.length : Int) := by rw [List.length_map]
    obtain ⟨o, ho, hol⟩ : ∃ o : Nat, n % ((tk.map V.bl).length : Int) = (o : Int) ∧ o < tk.length := by
      rw [dvl]
      refine ⟨(n % (tk.length : Int)).toNat, ?_, ?_⟩
      · have := Int.emod_nonneg n (show (tk.length : Int) ≠ 0 by omega); omega
      · have := Int.emod_nonneg n (show (tk.length : Int) ≠ 0 by omega)
        have := Int.emod_lt_of_pos n (show (0 : Int) < tk.length by omega)
        omega
    obtain ⟨u, hu, hul⟩ : ∃ u : Nat, n / 101 % ((tk.map V.bl).length : Int) = (u : Int) ∧ u < tk.length := by
      rw [dvl]
      refine ⟨(n / 101 % (tk.length : Int)).toNat, ?_, ?_⟩
      · have := Int.emod_nonneg (n / 101) (show (tk.length : Int) ≠ 0 by omega); omega
      · have := Int.emod_nonneg (n / 101) (show (tk.length : Int) ≠ 0 by omega)
        have := Int.emod_lt_of_pos (n / 101) (show (0 : Int) < tk.length by omega)
        omega
    obtain ⟨jo, hjo⟩ := R.ix hol
    obtain ⟨ju, hju⟩ := R.ix hul
    have szo : (nis ord).length < sizeLine := by rw [nis_len, R.lo]; exact Nat.lt_trans hlen (by decide)
    refine ⟨_, (pss_cons (ps_set (i := 4) nd_law_stands rfl (Or.inl rfl) (pe_op op_mod (pv 3) (pe_callB call_len_seq (by rfl) T.z_len (by decide +kernel) (pa_cons (pv 2) pa_nil))))
      (pss_cons (ps_set (i := 5) nd_law_stands rfl (Or.inl rfl) (pe_op op_mod (pe_op op_fdiv (pv 3) pe_int) (pe_callB call_len_seq (by rfl) T.z_len (by decide +kernel) (pa_cons (pv 2) pa_nil))))
      (pss_cons (ps_setLc (i := 7) (own := [("_law_seat", 6)]) (tt := (tB (tOp (rIxL K) (tVar 2) (tVar 6)))) (te := (tVar 6)) (g := (gName 6)) rfl nd_law_stands rfl rfl (sw_true rfl rfl rfl (by decide +kernel)) (pi_list (pv 1)) (blkOk_by (N := N_law_stands) (sc := defScope s_law_stands) (by decide +kernel)) (fun _ _ _ _ _ => by exact (pg_name (i := 6) nd_law_stands rfl (Or.inl rfl))) (fun _ _ _ _ _ => by exact pts_one (pt_val (pe_ix ix_list (pv 2) (pv 6) (fun _ _ => rfl)))) (fun _ _ _ _ _ => by exact (pv 6)))
      (pss_cons (ps_set (i := 8) nd_law_stands rfl (Or.inl rfl) (pe_lst (pa_cons (pe_meth0 (pv 0) T.cl_Row T.m_Row_many (ok_Row_many T) (hr.mono (by decide)) T.b_Row_many .nil passL) (pa_cons (pe_meth0 (pv 0) T.cl_Row T.m_Row_all_taken (ok_Row_all_taken T) (hr.mono (by decide)) T.b_Row_all_taken .nil passL) (pa_cons (pe_meth (pv 0) T.cl_Row T.m_Row_ahead (ok_Row_ahead T) (hr.mono (by decide)) T.b_Row_ahead .nil passL (pa_cons (pv 4) pa_nil)) (pa_cons (pe_meth (pv 0) T.cl_Row T.m_Row_ahead (ok_Row_ahead T) (hr.mono (by decide)) T.b_Row_ahead .nil passL (pa_cons (pv 5) pa_nil)) pa_nil))))))
      (pss_cons (ps_set (i := 9) nd_law_stands rfl (Or.inl rfl) (pe_lst (pa_cons (pe_callB call_len_seq (by rfl) T.z_len (by decide +kernel) (pa_cons (pv 1) pa_nil)) (pa_cons (pe_callB call_len_seq (by rfl) T.z_len (by decide +kernel) (pa_cons (pv 7) pa_nil)) pa_nil))))
      (pss_cons (ps_for (passes_of rfl) rfl (pi_tup (pe_tup (pa_cons (pv 4) (pa_cons (pv 5) pa_nil)))) (pg_name (i := 6) nd_law_stands rfl (Or.inl rfl)) (pss_one (ps_expr (pe_bm PySem.F.plainAttrs_list PySem.F.slot_list_append PySem.F.type_list_append mt_append (pv 9) (pa_cons (pe_callB call_len_seq (by rfl) T.z_len (by decide +kernel) (pa_cons (pe_lc (own := [("_law_near", 12)]) (tt := (tB (tOp (rIxL K) (tVar 2) (tVar 12)))) (te := (tC (.int 1))) (g := (gName 12)) rfl nd_law_stands (pi_list (pe_slice sl_list (pv 1) po_none (po_some (pe_bm PySem.F.plainAttrs_list PySem.F.slot_list_index PySem.F.type_list_index mt_index (pv 1) (pa_cons (pv 6) pa_nil))))) (blkOk_by (N := N_law_stands) (sc := defScope s_law_stands) (by decide +kernel)) (fun _ _ _ _ _ => by exact (pg_name (i := 12) nd_law_stands rfl (Or.inl rfl))) (fun _ _ _ _ _ => by exact pts_one (pt_val (pe_ix ix_list (pv 2) (pv 12) (fun _ _ => rfl)))) (fun _ _ _ _ _ => by exact pe_int)) pa_nil)) pa_nil)))))
      (pss_cons (ps_if (PW.pt (pw_or (pt_cmpR (op_neD hr.units) (pe_lc (own := [("_law_found", 10)]) (tt := (tNot (tB (tCall sp_whole [] E0 (tCons (tVar 10) tNil))))) (te := (tVar 10)) (g := (gName 10)) rfl nd_law_stands (pi_list (pv 8)) (blkOk_by (N := N_law_stands) (sc := defScope s_law_stands) (by decide +kernel)) (fun _ _ _ _ _ => by exact (pg_name (i := 10) nd_law_stands rfl (Or.inl rfl))) (fun _ _ _ _ _ => by exact pts_one (pt_not (pt_val (pe_call (ok_law_whole T) (hr.mono (by decide)) rfl T.mg_law_whole T.F_law_whole.kp T.b_law_whole .nil passL (pa_cons (pv 10) pa_nil))))) (fun _ _ _ _ _ => by exact (pv 10))) (pe_lst pa_nil) (nomark _)) (pw_or1 (pt_cmpR (op_neD hr.units) (pv 8) (pv 9) (nomark _))))) (pss_one (ps_ret pe_bl)) pss_nil)
      (pss_cons (ps_if (PW.pt (pw_or (pt_not (pt_val (pe_callB call_isi (by rfl) T.z_isinstance (by decide +kernel) (pa_cons (pe_meth (pv 0) T.cl_Row T.m_Row_is_taken (ok_Row_is_taken T) (hr.mono (by decide)) T.b_Row_is_taken .nil passL (pa_cons (pv 4) pa_nil)) (pa_cons (pe_bltn (v := .ty "bool") (by rfl) T.z_bool (by decide +kernel) rfl) pa_nil))))) (pw_or1 (pt_cmpR op_ne (pe_meth (pv 0) T.cl_Row T.m_Row_is_taken (ok_Row_is_taken T) (hr.mono (by decide)) T.b_Row_is_taken .nil passL (pa_cons (pv 4) pa_nil)) (pe_ix ix_list (pv 2) (pv 4) (fun _ _ => rfl)) (nomark _))))) (pss_one (ps_ret pe_bl)) pss_nil)
      (pss_cons (ps_set (i := 10) nd_law_stands rfl (Or.inl rfl) (pe_meth (pv 0) T.cl_Row T.m_Row_is_ahead (ok_Row_is_ahead T) (hr.mono (by decide)) T.b_Row_is_ahead .nil passL (pa_cons (pv 4) (pa_cons (pv 5) pa_nil))))
      (pss_cons (ps_if (PW.pt (pw_or (pt_not (pt_val (pe_callB call_isi (by rfl) T.z_isinstance (by decide +kernel) (pa_cons (pv 10) (pa_cons (pe_bltn (v := .ty "bool") (by rfl) T.z_bool (by decide +kernel) rfl) pa_nil))))) (pw_or1 (pt_cmpR op_ne (pv 10) (pe_cmpR op_lt (pe_bm PySem.F.plainAttrs_list PySem.F.slot_list_index PySem.F.type_list_index mt_index (pv 1) (pa_cons (pv 4) pa_nil)) (pe_bm PySem.F.plainAttrs_list PySem.F.slot_list_index PySem.F.type_list_index mt_index (pv 1) (pa_cons (pv 5) pa_nil)) (nomark _)) (nomark _))))) (pss_one (ps_ret pe_bl)) pss_nil)
      (pss_cons (ps_if (pt_cmpR (op_eqD hr.units) (pv 7) (pe_lst pa_nil) (nomark _)) (pss_one (ps_ret pe_bl)) pss_nil)
      (pss_cons (ps_set (i := 11) nd_law_stands rfl (Or.inl rfl) (pe_op op_mod (pe_op op_fdiv (pv 3) pe_int) (pe_callB call_len_seq (by rfl) T.z_len (by decide +kernel) (pa_cons (pv 7) pa_nil))))
      (pss_one (ps_ret (pe_and (pe_call (ok_law_whole T) (hr.mono (by decide)) rfl T.mg_law_whole T.F_law_whole.kp T.b_law_whole .nil passL (pa_cons (pe_meth (pv 0) T.cl_Row T.m_Row_find (ok_Row_find T) (hr.mono (by decide)) T.b_Row_find .nil passL (pa_cons (pv 11) pa_nil)) pa_nil)) (pe_one (pe_cmpR op_eq (pe_meth (pv 0) T.cl_Row T.m_Row_find (ok_Row_find T) (hr.mono (by decide)) T.b_Row_find .nil passL (pa_cons (pv 11) pa_nil)) (pe_ix ix_list (pv 7) (pv 11) (fun _ _ => rfl)) (nomark _)))))))))))))))))), ?_⟩
    change (_ : L2.TS) _ [some _, some _, some _, some _, Option.none, Option.none, Option.none, Option.none, Option.none, Option.none, Option.none, Option.none, Option.none] _
    walk_at "go"
    refine ⟨lb, _, rfl, .inl (SqL.of hb), ?_⟩
    walk_at "go"
    rw [ho]
    refine ⟨lb, _, rfl, .inl (SqL.of hb), ?_⟩
    walk_at "go"
    rw [hu]
    -- taken
    refine k_lcL (flt tk) (fun x => x) (SqL.of hp) szo ?_ ?_
    · intro i y H' Y N hi s2 hY hN
      obtain ⟨z, hz, rfl⟩ := nis_at hi
      have zl : z < tk.length := (R.mem z).mp (List.mem_of_getElem? hz)
      refine k_lcG rfl ?_
      walk_at "go"
      refine k_ixL (SqL.of (s2 _ _ hb)) (atI_nat (tk_get zl)) ?_
      walk_at "go"
      refine k_lcT (fun e => ?_) (fun e => ?_)
      · walk_at "go"
        exact hY e _ (Same.refl _)
      · exact hN e _ (Same.refl _)
    intro lt H1 hlt s1 hT
    rw [List.map_id', nis_filter] at hT
    have R1 := R.same s1
    have hp1 := s1 _ _ hp
    have hb1 := s1 _ _ hb
    walk_at "go"
    refine k_methR R1 (by decide +kernel) ?_
    walk_at "go"
    refine ⟨p, S, ord, tk, rfl, R1, ?_⟩
    walk_at "go"
    refine k_methR R1 (by decide +kernel) ?_
    walk_at "go"
    refine ⟨p, S, ord, tk, rfl, R1, ?_⟩
    walk_at "go"
    refine k_methR R1 (by decide +kernel) ?_
    walk_at "go"
    refine ⟨p, S, ord, tk, jo, o, rfl, R1, hjo, ?_⟩
    walk_at "go"
    refine k_methR R1 (by decide +kernel) ?_
    walk_at "go"
    refine ⟨p, S, ord, tk, ju, u, rfl, R1, hju, ?_⟩
    walk_at "go"
    refine k_lstN (by show 4 ≤ sizeLine; decide) fun ld H2 hld s2 hD => ?_
    have hp2 := s2 _ _ hp1
    have hT2 := s2 _ _ hT
    walk_at "go"
    refine ⟨lp, _, rfl, .inl (SqL.of hp2), ?_⟩
    walk_at "go"
    refine ⟨lt, _, rfl, .inl (SqL.of hT2), ?_⟩
    walk_at "go"
    refine k_lstN (by show 2 ≤ sizeLine; decide) fun le H3 hle s3 hE => ?_
    walk_at "go"
    refine k_tupN (by show 2 ≤ sizeLine; decide) fun tp H4 htp s4 hU => ?_
    have s04 : Same H H4 := ((s1.trans s2).trans s3).trans s4
    have hle0 : H le = none := Same.free (s1.trans s2) hle
    have hle1 : H1 le = none := Same.free s2 hle
    have E4 := s4 _ _ hE
    have nep : tp ≠ le := (ne_of_none hE htp).symm
    have ned : ld ≠ le := ne_of_none hD hle
    have ntp : H tp = none := Same.free ((s1.trans s2).trans s3) htp
    -- for one, other: the places
    refine k_forT (Or.inl (Or.inl hU)) (fun i σ H' => ∃ x : Option V, σ = [some (.ref p), some (.ref lp), some (.ref lb), some (.int n), some (.int o), some (.int u), x, some (.ref lt), some (.ref ld), some (.ref le), none, none, none] ∧ Same H H' ∧ Same H1 H' ∧
      H' tp = some (.tup [.int (o : Int), .int (u : Int)]) ∧ H' ld = some (.lst [.int (tk.length : Int), .int (tk.count true : Nat), .int (ahd ord tk jo : Nat), .int (ahd ord tk ju : Nat)]) ∧
      H' le = some (.lst ([.int ((nis ord).length : Int), .int ((nis (ord.filter (tkAt tk))).length : Int)] ++ ([.int (ahd ord tk jo : Nat), .int (ahd ord tk ju : Nat)] : List V).take i)))
      ⟨none, rfl, s04, (s2.trans s3).trans s4, hU, s4 _ _ (s3 _ _ hD), E4⟩ (fun i σ H' _ ⟨_, _, _, _, h, _⟩ => Or.inl (Or.inl h)) ?_ ?_
    · rintro i y σ H' hi ⟨x, rfl, sH, sH1, hU', hD', hE'⟩
      obtain ⟨z, jz, rfl, hjz, hz, ti⟩ : ∃ (z jz : Nat), y = V.int (z : Int) ∧ ord[jz]? = some z ∧ z < tk.length ∧ ([.int (ahd ord tk jo : Nat), .int (ahd ord tk ju : Nat)] : List V).take (i + 1) = ([.int (ahd ord tk jo : Nat), .int (ahd ord tk ju : Nat)] : List V).take i ++ [V.int (ahd ord tk jz : Nat)] := by
        cases i with
        | zero => exact ⟨o, jo, (Option.some.inj hi).symm, hjo, hol, rfl⟩
        | succ i =>
          cases i with
          | zero => exact ⟨u, ju, (Option.some.inj hi).symm, hju, hul, rfl⟩
          | succ i => cases hi
      walk_at "go"
      refine k_bm (tyL hE') ?_
      walk_at "go"
      have hp' := sH _ _ hp
      refine k_bm (tyL hp') ?_
      walk_at "go"
      refine k_ixOf (SqL.of hp') R.nd hjz ?_
      walk_at "go"
      refine k_slL (SqL.of hp') fun lc H5 hlc s5 hC => ?_
      have jl : jz ≤ (nis ord).length := by rw [nis_len]; exact Nat.le_of_lt (List.getElem?_eq_some_iff.mp hjz).1
      rw [cut_hi jl] at hC
      have ec : (nis ord).take jz = nis (ord.take jz) := by unfold nis; rw [List.map_take]
      rw [ec] at hC
      have szc : (nis (ord.take jz)).length < sizeLine := by
        rw [nis_len, List.length_take]
        rw [nis_len] at szo
        exact Nat.lt_of_le_of_lt (Nat.min_le_right _ _) szo
      refine k_lcL (flt tk) (fun _ => .int 1) (SqL.of hC) szc ?_ ?_
      · intro i y H' Y N hi s2 hY hN
        obtain ⟨z, hz, rfl⟩ := nis_at hi
        have zl : z < tk.length := (R.mem z).mp (List.mem_of_mem_take (List.mem_of_getElem? hz))
        refine k_lcG rfl ?_
        walk_at "go"
        refine k_ixL (SqL.of (s2 _ _ (s5 _ _ (sH _ _ hb)))) (atI_nat (tk_get zl)) ?_
        walk_at "go"
        refine k_lcT (fun e => ?_) (fun e => ?_)
        · walk_at "go"
          exact hY e _ (Same.refl _)
        · exact hN e _ (Same.refl _)
      intro lx H6 hlx s6 hX
      walk_at "go"
      refine ⟨lx, _, rfl, .inl (SqL.of hX), ?_⟩
      walk_at "go"
      have ecl : (((nis (ord.take jz)).filter (flt tk)).map (fun _ => V.int 1)).length = ahd ord tk jz := by
        rw [List.length_map, nis_filter, nis_len, cnt_filter]
      rw [ecl]
      have hE6 := s6 _ _ (s5 _ _ hE')
      refine ⟨le, _, _, rfl, rfl, hE6, ?_, ?_⟩
      · rw [List.length_append, List.length_take]
        refine Nat.lt_of_le_of_lt (Nat.add_le_add_left (Nat.min_le_right _ _) _) ?_
        show 4 < sizeLine; decide
      walk_at "go"
      refine ⟨_, rfl, ?_, ?_, ?_, ?_, ?_⟩
      · exact Sk.Same.mut ((sH.trans s5).trans s6) hle0
      · exact Sk.Same.mut ((sH1.trans s5).trans s6) hle1
      · rw [upd_ne nep]; exact s6 _ _ (s5 _ _ hU')
      · rw [upd_ne ned]; exact s6 _ _ (s5 _ _ hD')
      · rw [upd_same, ti, List.append_assoc]
    · rintro σ H5 ⟨x, rfl, s5, s15, hU5, hD5, hE5⟩
      have hT5 := s15 _ _ hT
      have R5 := R.same s5
      have hp5 := s5 _ _ hp
      have hb5 := s5 _ _ hb
      walk_at "go"
      refine k_lcL (fun _ => false) (fun x => x) (SqL.of hD5) (by show 4 < sizeLine; decide) ?_ ?_
      · intro i y H' Y N hi s2 hY hN
        obtain ⟨z, rfl⟩ : ∃ z : Int, y = V.int z := by
          match i, hi with
          | 0, hi => exact ⟨_, (Option.some.inj hi).symm⟩
          | 1, hi => exact ⟨_, (Option.some.inj hi).symm⟩
          | 2, hi => exact ⟨_, (Option.some.inj hi).symm⟩
          | 3, hi => exact ⟨_, (Option.some.inj hi).symm⟩
          | n + 4, hi => cases hi
        refine k_lcG rfl ?_
        walk_at "go"
        refine ⟨z, rfl, ?_⟩
        walk_at "go"
        exact k_lcT (fun e => nomatch e) (fun e => hN rfl _ (Same.refl _))
      intro lw H6 hlw s6 hW
      have e0 : (([.int (tk.length : Int), .int (tk.count true : Nat), .int (ahd ord tk jo : Nat), .int (ahd ord tk ju : Nat)] : List V).filter (fun _ => false)).map (fun x => x) = [] := rfl
      rw [e0] at hW
      walk_at "go"
      refine k_lstN (Nat.zero_le _) fun l0 H7 hl0 s7 hZ => ?_
      walk_at "go"
      refine k_neDn (dp_nil (SqL.of (s7 _ _ hW))) (dp_nil (SqL.of hZ)) (dep_list (n := 0) fun d h => by cases h) (by decide) ?_
      walk_at "go"
      refine k_orF ?_
      walk_at "go"
      have hD7 := s7 _ _ (s6 _ _ hD5)
      have hE7 := s7 _ _ (s6 _ _ hE5)
      have s07 := (s5.trans s6).trans s7
      have edue : ([.int ((nis ord).length : Int), .int ((nis (ord.filter (tkAt tk))).length : Int)] ++ ([.int (ahd ord tk jo : Nat), .int (ahd ord tk ju : Nat)] : List V).take 2) = nis [tk.length, tk.count true, ahd ord tk jo, ahd ord tk ju] := by
        rw [nis_len, nis_len, R.lo, ← count_perm R.nd R.mem]
        rfl
      have hE8 : H7 le = some (.lst (nis [tk.length, tk.count true, ahd ord tk jo, ahd ord tk ju])) := by rw [hE7]; exact congrArg (fun z => some (HO.lst z)) edue
      refine k_neDf (dp_dI (l := [tk.length, tk.count true, ahd ord tk jo, ahd ord tk ju]) (SqL.of hD7)) (dp_dI (SqL.of hE8)) (dep_dI _) (by decide) ?_
      walk_at "go"
      refine k_ifF ?_
      have R7 := R.same s07
      have hb7 := s07 _ _ hb
      have hp7 := s07 _ _ hp
      walk_at "go"
      refine k_methR R7 (by decide +kernel) ?_
      walk_at "go"
      refine ⟨p, S, ord, tk, o, rfl, R7, hol, ?_⟩
      walk_at "go"
      refine k_isBoolBool ?_
      walk_at "go"
      refine k_orF ?_
      walk_at "go"
      refine k_methR R7 (by decide +kernel) ?_
      walk_at "go"
      refine ⟨p, S, ord, tk, o, rfl, R7, hol, ?_⟩
      walk_at "go"
      refine k_ixL (SqL.of hb7) (atI_nat (tk_get hol)) ?_
      walk_at "go"
      rw [decide_eq_true (show V.bl (tkAt tk o) = V.bl (tkAt tk o) from rfl)]
      refine k_ifF ?_
      walk_at "go"
      refine k_methR R7 (by decide +kernel) ?_
      walk_at "go"
      refine ⟨p, S, ord, tk, jo, ju, o, u, rfl, R7, hjo, hju, ?_⟩
      walk_at "go"
      refine k_isBoolBool ?_
      walk_at "go"
      refine k_orF ?_
      walk_at "go"
      refine k_bm (tyL hp7) ?_
      walk_at "go"
      refine k_ixOf (SqL.of hp7) R.nd hjo ?_
      walk_at "go"
      refine k_bm (tyL hp7) ?_
      walk_at "go"
      refine k_ixOf (SqL.of hp7) R.nd hju ?_
      walk_at "go"
      have eji : decide ((jo : Int) < (ju : Int)) = decide (jo < ju) := by
        by_cases z : jo < ju
        · rw [decide_eq_true z, decide_eq_true (by omega)]
        · rw [decide_eq_false z, decide_eq_false (by omega)]
      rw [eji, decide_eq_true (show V.bl (decide (jo < ju)) = V.bl (decide (jo < ju)) from rfl)]
      refine k_ifF ?_
      walk_at "go"
      have hT7 := s7 _ _ (s6 _ _ hT5)
      refine k_lstN (Nat.zero_le _) fun l1 H8 hl1 s8 hZ1 => ?_
      walk_at "go"
      refine k_eqDn (dp_dI (SqL.of (s8 _ _ hT7))) (dp_nil (SqL.of hZ1)) (dep_dI _) (by decide) ?_
      walk_at "go"
      have s08 := s07.trans s8
      have R8 := R.same s08
      have hT8 := s8 _ _ hT7
      refine k_if (fun hz => ?_) (fun hz => ?_)
      · walk_at "go"
        exact k _ s08
      · have fl : 0 < (ord.filter (tkAt tk)).length := by
          cases e : ord.filter (tkAt tk) with
          | nil => rw [e] at hz; cases hz
          | cons a b => exact Nat.succ_pos _
        walk_at "go"
        refine ⟨lt, _, rfl, .inl (SqL.of hT8), ?_⟩
        have hlt : (0 : Int) < ((nis (ord.filter (tkAt tk))).length : Int) := by rw [nis_len]; omega
        walk_at "go"
        obtain ⟨q, hq, hql⟩ : ∃ q : Nat, n / 10007 % ((nis (ord.filter (tkAt tk))).length : Int) = (q : Int) ∧ q < (ord.filter (tkAt tk)).length := by
          rw [nis_len] at hlt ⊢
          refine ⟨(n / 10007 % ((ord.filter (tkAt tk)).length : Int)).toNat, ?_, ?_⟩
          · have := Int.emod_nonneg (n / 10007) (show ((ord.filter (tkAt tk)).length : Int) ≠ 0 by omega); omega
          · have := Int.emod_nonneg (n / 10007) (show ((ord.filter (tkAt tk)).length : Int) ≠ 0 by omega)
            have := Int.emod_lt_of_pos (n / 10007) hlt
            omega
        rw [hq]
        have hqs : (ord.filter (tkAt tk))[q]? = some ((ord.filter (tkAt tk))[q]) := List.getElem?_eq_getElem hql
        refine k_methR R8 (by decide +kernel) ?_
        walk_at "go"
        refine ⟨p, S, ord, tk, q, _, rfl, R8, hlen, hqs, fun H9 s9 => ?_⟩
        walk_at "go"
        refine ⟨_, rfl, ?_⟩
        refine k_andV (fun _ => ?_) (fun z => nomatch z)
        walk_at "go"
        refine k_methR (R8.same s9) (by decide +kernel) ?_
        walk_at "go"
        refine ⟨p, S, ord, tk, q, _, rfl, R8.same s9, hlen, hqs, fun H10 s10 => ?_⟩
        walk_at "go"
        refine k_ixL (v := .int (((ord.filter (tkAt tk))[q] : Nat) : Int)) (SqL.of (s10 _ _ (s9 _ _ hT8))) (atI_nat (by unfold nis; rw [List.getElem?_map, hqs]; rfl)) ?_
        walk_at "go"
        rw [decide_eq_true rfl]
        exact k _ ((s08.trans s9).trans s10)
end
end Sk
namespace Sk
open PySem PySem.Spec PyProof.Rows L2
local macro_rules | `(tactic| walk_at "st") => `(tactic| (with_reducible (first
  | refine r_seq ?_ | refine r_set ?_ | refine r_asg ?_ | refine r_ret ?_ | refine r_drop ?_ | refine r_if ?_ | refine r_next ?_ | refine r_brk ?_ | refine r_cont ?_ | refine r_retN ?_
  | refine r_c ?_ | refine r_var (by with_unfolding_all exact rfl) ?_
  | refine r_op ?_ | refine r_un ?_ | refine r_test ?_ | refine r_tB ?_ | refine r_not ?_ | refine r_and ?_ | refine r_or ?_ | refine r_andV ?_ | refine r_orV ?_ | refine r_notV ?_ | refine r_ifE ?_ | refine r_chain ?_
  | refine r_fld ?_ | refine r_sfld ?_ | refine r_cons ?_ | refine r_nil ?_ | refine r_call ?_ | refine r_meth ?_ | refine r_make ?_ | refine r_cb ?_ | refine r_bm ?_ | refine r_bm0 ?_ | refine r_tup ?_ | refine r_lst ?_
  | refine k_set ?_ | refine k_drop ?_ | refine k_op1 ?_ | refine k_op2isN ?_ | refine k_op2notN ?_ | refine k_op2 ?_ | refine k_add ?_ | refine k_sub ?_ | refine k_lt ?_ | refine k_le ?_ | refine k_gt ?_ | refine k_ge ?_ | refine k_mod (by first | decide | assumption) ?_ | refine k_fdiv (by decide) (by decide) ?_ | refine k_un ?_ | refine k_neg ?_ | refine k_test ?_ | refine k_not ?_ | refine k_ch1 ?_ | refine k_ch2 ?_
  | refine k_sf1 ?_ | refine k_c1 ?_ | refine k_c2 ?_ | refine k_call ?_ | refine k_meth2 ?_ | refine k_makeQ ?_ | refine k_cb ?_ | refine k_bm2 ?_ | refine k_tgSub ?_ | refine k_sub1 ?_
  | refine r_sl ?_ | refine r_revL ?_ | refine k_sl1 ?_ | refine k_sl2 ?_ | refine k_sl3 ?_ | refine r_noPart ?_ | refine r_part ?_ | refine k_part ?_ | refine r_din ?_ | refine k_di1 ?_ | refine r_dnot ?_ | refine k_dn1 ?_ | refine r_dinN ?_ | refine k_diN1 ?_ | refine r_lrg2 ?_ | refine r_lrg1 ?_ | refine k_rg1 ?_ | refine k_rg2 ?_ | refine k_rgo ?_ | refine r_dput ?_ | refine k_dp1 ?_ | refine k_dp2 ?_ | refine r_ddel ?_ | refine k_dd1 ?_ | refine r_forE ?_ | refine r_forS ?_ | refine r_lcS ?_ | refine r_lcL ?_ | refine r_forL ?_ | refine r_forT ?_ | refine r_forR1 ?_ | refine r_forR2 ?_ | refine g_name ?_ | refine g_cons ?_ | refine k_gc ?_ | refine g_nil ?_ | refine k_bd ?_ | refine k_tg ?_ | refine r_lcR1 ?_ | refine r_yes ?_ | refine k_eq rfl ?_ | refine k_ne rfl ?_)))
local macro_rules | `(tactic| walk_at "go") => `(tactic| repeat walk_at "st")
/-- the held lists are as they were told; none of them is among what is changed -/
def HeldAt (M : Addr → Prop) (H : Hp) (hs : List Addr) : Prop := ∀ t, t ∈ hs → ¬ M t ∧ ∃ (a b : Addr) (o : List Nat), H t = some (.tup [.ref a, .ref b]) ∧ ¬ M a ∧ ¬ M b ∧ H a = some (.lst (nis o)) ∧ H b = some (.lst (nis o))
theorem HeldAt.fr {M : Addr → Prop} {H H' : Hp} {hs : List Addr} (h : HeldAt M H hs) (f : Fr M H H') : HeldAt M H' hs := fun t ht => by
  obtain ⟨nt, a, b, o, e, na, nb, ea, eb⟩ := h t ht
  exact ⟨nt, a, b, o, f _ _ e nt, na, nb, f _ _ ea na, f _ _ eb nb⟩
structure Fix (C : Addr) (H0 : Hp) (p lp lb lh : Addr) (S : Addr → Prop) : Prop where
  nS : ∀ b, S b → H0 b = none
  n1 : H0 lp = none
  n2 : H0 lb = none
  n3 : H0 lh = none
  s1 : ¬ S lp
  s2 : ¬ S lb
  s3 : ¬ S lh
  e1 : lp ≠ lb
  e2 : lp ≠ lh
  e3 : lb ≠ lh
def Mv (S : Addr → Prop) (lp lb lh : Addr) : Addr → Prop := fun b => S b ∨ b = lp ∨ b = lb ∨ b = lh
structure Now (C : Addr) (H0 H : Hp) (p lp lb lh : Addr) (S : Addr → Prop) (ord : List Nat) (tk : List Bool) (hs : List Addr) : Prop where
  R : RowAt C H p S ord tk
  P : H lp = some (.lst (nis ord))
  B : H lb = some (.lst (tk.map V.bl))
  L : H lh = some (.lst (hs.map V.ref))
  hd : HeldAt (Mv S lp lb lh) H hs
  sm : Same H0 H
theorem Now.same {C p lp lb lh : Addr} {H0 H H' : Hp} {S : Addr → Prop} {ord : List Nat} {tk : List Bool} {hs : List Addr} (n : Now C H0 H p lp lb lh S ord tk hs) (s : Same H H') : Now C H0 H' p lp lb lh S ord tk hs :=
  ⟨n.R.same s, s _ _ n.P, s _ _ n.B, s _ _ n.L, n.hd.fr (Sk.Same.fr s), n.sm.trans s⟩
/-- the row was changed -/
theorem Now.row {C p lp lb lh : Addr} {H0 H H' : Hp} {S : Addr → Prop} {ord ord' : List Nat} {tk tk' : List Bool} {hs : List Addr} (F : Fix C H0 p lp lb lh S) (n : Now C H0 H p lp lb lh S ord tk hs) (R' : RowAt C H' p S ord' tk') (f : Fr S H H') :
    H' lp = some (.lst (nis ord)) ∧ H' lb = some (.lst (tk.map V.bl)) ∧ H' lh = some (.lst (hs.map V.ref)) ∧ HeldAt (Mv S lp lb lh) H' hs ∧ Same H0 H' :=
  ⟨f _ _ n.P F.s1, f _ _ n.B F.s2, f _ _ n.L F.s3, n.hd.fr fun b o e nb => f b o e fun z => nb (.inl z), fun b o e => f b o (n.sm _ _ e) fun z => by rw [F.nS b z] at e; cases e⟩
theorem RowAt.upd {C p : Addr} {H : Hp} {S : Addr → Prop} {ord : List Nat} {tk : List Bool} {l : Addr} {o : HO} (R : RowAt C H p S ord tk) (h : ¬ S l) : RowAt C (L2.upd H l o) p S ord tk := R.ag fun b u sb e => by
  have n : b ≠ l := fun z => h (by rw [← z]; exact sb)
  rw [upd_ne n]; exact e
theorem HeldAt.upd {M : Addr → Prop} {H : Hp} {hs : List Addr} {l : Addr} {o : HO} (h : HeldAt M H hs) (m : M l) : HeldAt M (L2.upd H l o) hs := h.fr fun b u e nb => by
  have n : b ≠ l := fun z => nb (by rw [z]; exact m)
  rw [upd_ne n]; exact e
def sp_law (K : PySem.W.Frag) : Sp := fun vs H Q _ => ∃ (a : Addr) (ns : List Int), vs = [.ref a] ∧ SqL K H a (ns.map V.int) ∧ ns.length ≤ 63 ∧ ∀ H', Q (.bl true) H'
section
variable {P : Program} {w : World} {K : PySem.W.Frag} {mg : Str → Option Value} {base : Heap}
theorem ok_law (T : Tx K mg) : FnOk P w K mg base (L2.CX P w) 5 T.f_law T.fd_law P_law (sp_law K) := by
  refine T.F_law.okX sc_law (fun vs H Q E h => ?_) (fun cdv A outer s H vs Q E hr h => ?_)
  · obtain ⟨a, ns, rfl, _⟩ := h; rfl
  · obtain ⟨a, ns, rfl, hsc, hlen, k⟩ := h
    refine ⟨_, (pss_cons (ps_set (i := 1) nd_law rfl (Or.inl rfl) (pe_make0 T.mk_Row (ok_Row_init T) (hr.mono (by decide)) (by rfl) T.mg_Row T.b_Row_init .nil passL))
      (pss_cons (ps_set (i := 2) nd_law rfl (Or.inl rfl) (pe_lst pa_nil))
      (pss_cons (ps_set (i := 3) nd_law rfl (Or.inl rfl) (pe_lst pa_nil))
      (pss_cons (ps_set (i := 4) nd_law rfl (Or.inl rfl) (pe_op op_mul (pe_op op_add pe_int (pe_op op_mod (pe_op op_fdiv (pe_call (ok_law_cell_at T) (hr.mono (by decide)) rfl T.mg_law_cell_at T.F_law_cell_at.kp T.b_law_cell_at .nil passL (pa_cons (pv 0) (pa_cons pe_int pa_nil))) pe_int) pe_int)) (pe_callTy call_int1 (by rfl) T.z_int (by decide +kernel) (pa_cons (pe_cmpR op_eq (pe_op op_mod (pe_call (ok_law_cell_at T) (hr.mono (by decide)) rfl T.mg_law_cell_at T.F_law_cell_at.kp T.b_law_cell_at .nil passL (pa_cons (pv 0) (pa_cons pe_int pa_nil))) pe_int) pe_int (nomark _)) pa_nil))))
      (pss_cons (ps_set (i := 5) nd_law rfl (Or.inl rfl) (pe_lst (pa_cons (pe_tup (pa_cons (pe_meth0 (pv 1) T.cl_Row T.m_Row_order (ok_Row_order T) (hr.mono (by decide)) T.b_Row_order .nil passL) (pa_cons (pe_lst pa_nil) pa_nil))) pa_nil)))
      (pss_cons (ps_if (PW.pt (pw_or (pt_cmpR op_ne (pe_meth0 (pv 1) T.cl_Row T.m_Row_many (ok_Row_many T) (hr.mono (by decide)) T.b_Row_many .nil passL) pe_int (nomark _)) (pw_or1 (pt_cmpR op_ne (pe_meth0 (pv 1) T.cl_Row T.m_Row_all_taken (ok_Row_all_taken T) (hr.mono (by decide)) T.b_Row_all_taken .nil passL) pe_int (nomark _))))) (pss_one (ps_ret pe_bl)) pss_nil)
      (pss_cons (ps_for (passes_of rfl) rfl (pi_range1 rfl T.z_range (pa_cons (pe_op op_add (pv 4) (pe_callB (call_min2 rfl) (by rfl) T.z_min (by decide +kernel) (pa_cons pe_int (pa_cons (pe_callB call_len_seq (by rfl) T.z_len (by decide +kernel) (pa_cons (pv 0) pa_nil)) pa_nil)))) pa_nil)) (pg_name (i := 6) nd_law rfl (Or.inl rfl)) (pss_cons (ps_set (i := 7) nd_law rfl (Or.inl rfl) (pe_call (ok_law_cell_at T) (hr.mono (by decide)) rfl T.mg_law_cell_at T.F_law_cell_at.kp T.b_law_cell_at .nil passL (pa_cons (pv 0) (pa_cons (pe_callB (call_max2 rfl) (by rfl) T.z_max (by decide +kernel) (pa_cons pe_int (pa_cons (pe_op op_sub (pv 6) (pv 4)) pa_nil))) pa_nil))))
      (pss_cons (ps_set (i := 8) nd_law rfl (Or.inl rfl) (pe_call (ok_law_mixed T) (hr.mono (by decide)) rfl T.mg_law_mixed T.F_law_mixed.kp T.b_law_mixed .nil passL (pa_cons (pv 7) (pa_cons (pv 6) pa_nil))))
      (pss_cons (ps_if (PW.pt (pw_or (pt_cmpR (op_eqD hr.units) (pv 2) (pe_lst pa_nil) (nomark _)) (pw_or (pt_cmpR op_lt (pv 6) (pv 4) (nomark _)) (pw_or1 (pt_cmpR op_lt (pe_op op_mod (pv 8) pe_int) pe_int (nomark _)))))) (pss_cons (ps_set (i := 9) nd_law rfl (Or.inl rfl) pe_non)
      (pss_cons (ps_if (PW.pt (pw_and (pt_cmpR (op_neD hr.units) (pv 2) (pe_lst pa_nil) (nomark _)) (pw_and1 (pt_cmpR op_ne (pe_op op_mod (pe_op op_fdiv (pv 8) pe_int) pe_int) pe_int (nomark _))))) (pss_one (ps_set (i := 9) nd_law rfl (Or.inl rfl) (pe_op op_mod (pe_op op_fdiv (pv 8) pe_int) (pe_callB call_len_seq (by rfl) T.z_len (by decide +kernel) (pa_cons (pv 2) pa_nil))))) pss_nil)
      (pss_cons (ps_set (i := 10) nd_law rfl (Or.inl rfl) (pe_meth (pv 1) T.cl_Row T.m_Row_add (ok_Row_add T) (hr.mono (by decide)) T.b_Row_add .nil passL (pa_cons (pv 9) pa_nil)))
      (pss_cons (ps_if (PW.pt (pw_or (pt_not (pt_val (pe_call (ok_law_whole T) (hr.mono (by decide)) rfl T.mg_law_whole T.F_law_whole.kp T.b_law_whole .nil passL (pa_cons (pv 10) pa_nil)))) (pw_or1 (pt_cmpR op_ne (pv 10) (pe_callB call_len_seq (by rfl) T.z_len (by decide +kernel) (pa_cons (pv 2) pa_nil)) (nomark _))))) (pss_one (ps_ret pe_bl)) pss_nil)
      (pss_cons (ps_expr (pe_bm PySem.F.plainAttrs_list PySem.F.slot_list_insert PySem.F.type_list_insert mt_insert (pv 2) (pa_cons (pe_ifExp (pt_cmpR op_isN (pv 9) pe_non (nomark _)) pe_int (pe_op op_add (pe_bm PySem.F.plainAttrs_list PySem.F.slot_list_index PySem.F.type_list_index mt_index (pv 2) (pa_cons (pv 9) pa_nil)) pe_int)) (pa_cons (pv 10) pa_nil))))
      (pss_cons (ps_expr (pe_bm PySem.F.plainAttrs_list PySem.F.slot_list_append PySem.F.type_list_append mt_append (pv 3) (pa_cons pe_bl pa_nil)))
      (pss_one (ps_if (pt_cmpR op_gt (pe_op op_mod (pe_op op_fdiv (pv 8) pe_int) pe_int) pe_int (nomark _)) (pss_cons (ps_expr (pe_meth (pv 1) T.cl_Row T.m_Row_take (ok_Row_take T) (hr.mono (by decide)) T.b_Row_take .nil passL (pa_cons (pv 10) (pa_cons pe_bl pa_nil))))
      (pss_one (ps_asg pe_bl (pg_sub (pv 3) (pv 10) set_list)))) pss_nil)))))))) (pss_cons (ps_set (i := 11) nd_law rfl (Or.inl rfl) (pe_op op_mod (pe_op op_fdiv (pv 8) pe_int) (pe_callB call_len_seq (by rfl) T.z_len (by decide +kernel) (pa_cons (pv 2) pa_nil))))
      (pss_cons (ps_asg (pe_cmpR op_eq (pe_op op_mod (pe_op op_fdiv (pv 8) pe_int) pe_int) pe_int (nomark _)) (pg_sub (pv 3) (pv 11) set_list))
      (pss_one (ps_if (pt_cmpR op_notN (pe_meth (pv 1) T.cl_Row T.m_Row_take (ok_Row_take T) (hr.mono (by decide)) T.b_Row_take .nil passL (pa_cons (pv 11) (pa_cons (pe_ix ix_list (pv 3) (pv 11) (fun _ _ => rfl)) pa_nil))) pe_non (nomark _)) (pss_one (ps_ret pe_bl)) pss_nil)))))
      (pss_cons (ps_set (i := 12) nd_law rfl (Or.inl rfl) (pe_and (pe_cmpR op_ge (pv 6) (pv 4) (nomark _)) (pe_one (pe_or (pe_cmpR op_eq (pv 4) pe_int (nomark _)) (pe_one (pe_cmpR op_eq (pe_op op_mod (pv 6) pe_int) pe_int (nomark _)))))))
      (pss_cons (ps_if (PW.pt (pw_and (pt_val (pv 12)) (pw_and1 (pt_not (pt_val (pe_call (ok_law_stands T) (hr.mono (by decide)) rfl T.mg_law_stands T.F_law_stands.kp T.b_law_stands .nil passL (pa_cons (pv 1) (pa_cons (pv 2) (pa_cons (pv 3) (pa_cons (pe_call (ok_law_mixed T) (hr.mono (by decide)) rfl T.mg_law_mixed T.F_law_mixed.kp T.b_law_mixed .nil passL (pa_cons (pv 7) (pa_cons (pe_op op_add pe_int (pv 6)) pa_nil))) pa_nil)))))))))) (pss_one (ps_ret pe_bl)) pss_nil)
      (pss_one (ps_if (pt_cmpR op_eq (pe_op op_mod (pv 6) pe_int) pe_int (nomark _)) (pss_cons (ps_set (i := 13) nd_law rfl (Or.inl rfl) (pe_meth0 (pv 1) T.cl_Row T.m_Row_order (ok_Row_order T) (hr.mono (by decide)) T.b_Row_order .nil passL))
      (pss_cons (ps_expr (pe_bm PySem.F.plainAttrs_list PySem.F.slot_list_append PySem.F.type_list_append mt_append (pv 5) (pa_cons (pe_tup (pa_cons (pv 13) (pa_cons (pe_callTy call_list_of (by rfl) T.z_list (by decide +kernel) (pa_cons (pv 13) pa_nil)) pa_nil))) pa_nil)))
      (pss_one (ps_if (pt_cmpR (op_neD hr.units) (pv 13) (pv 2) (nomark _)) (pss_one (ps_ret pe_bl)) pss_nil)))) pss_nil))))))))
      (pss_one (ps_ret (pe_and (pe_cmpR (op_eqD hr.units) (pe_meth0 (pv 1) T.cl_Row T.m_Row_order (ok_Row_order T) (hr.mono (by decide)) T.b_Row_order .nil passL) (pv 2) (nomark _)) (pe_one (pe_cmpR (op_eqD hr.units) (pe_lc (own := [("_law_one", 14), ("_law_copy", 15)]) (tt := (tTest (tOp (rNeD K) (tVar 14) (tVar 15)))) (te := (tVar 14)) (g := (gTup K 2 (gCons (gName 14) (gCons (gName 15) gNil)))) rfl nd_law (pi_list (pv 5)) (blkOk_by (N := N_law) (sc := defScope s_law) (by decide +kernel)) (fun _ _ _ _ _ => by exact (pg_tup rfl (pgs_cons (pg_name (i := 14) nd_law rfl (Or.inl rfl)) (pgs_cons (pg_name (i := 15) nd_law rfl (Or.inl rfl)) pgs_nil)))) (fun _ _ _ _ _ => by exact pts_one (pt_cmpR (op_neD hr.units) (pv 14) (pv 15) (nomark _))) (fun _ _ _ _ _ => by exact (pv 14))) (pe_lst pa_nil) (nomark _))))))))))))), ?_⟩
    change (_ : L2.TS) _ [some _, Option.none, Option.none, Option.none, Option.none, Option.none, Option.none, Option.none, Option.none, Option.none, Option.none, Option.none, Option.none, Option.none, Option.none, Option.none] _
    walk_at "go"
    refine k_make fun p dx np ndx ne => ?_
    have s00 : Same H (upd (upd H dx (.own p)) p (.ins T.C_Row dx [])) := (Sk.Same.new ndx).trans (Sk.Same.new (by rw [upd_ne ne.symm]; exact np))
    refine ⟨p, dx, rfl, upd_same, fun H1 S R1 f1 g1 => ?_⟩
    have sm1 : Same H H1 := fun b o e => f1 b o (s00 _ _ e) fun z => by
      have z' : b = p := z
      rw [z', np] at e; cases e
    have nS : ∀ b, S b → H b = none := fun b sb => by
      rcases g1 b sb with z | z
      · have z' : b = p := z
        rw [z']; exact np
      · exact Same.free s00 z
    walk_at "go"
    refine k_lstN (Nat.zero_le _) fun lp H2 hlp s2 hP => ?_
    walk_at "go"
    refine k_lstN (Nat.zero_le _) fun lb H3 hlb s3 hB => ?_
    have sm3 := (sm1.trans s2).trans s3
    walk_at "go"
    refine ⟨a, ns, 0, rfl, sm3.seq hsc, ?_⟩
    walk_at "go"
    refine ⟨a, ns, 0, rfl, sm3.seq hsc, ?_⟩
    walk_at "go"
    refine .inr ⟨_, rfl, ?_⟩
    have m0 := Int.emod_nonneg (ns.getD 0 0 / 8) (show (40 : Int) ≠ 0 by decide)
    have m1 := Int.emod_lt_of_pos (ns.getD 0 0 / 8) (show (0 : Int) < 40 by decide)
    refine k_mul (.inl ⟨by omega, by omega⟩) ?_
    obtain ⟨M, hM, hM99⟩ : ∃ M : Nat, (60 + ns.getD 0 0 / 8 % 40) * (if decide (V.int (ns.getD 0 0 % 8) = V.int 1) = true then 1 else 0) = (M : Int) ∧ M ≤ 99 := by
      by_cases z : decide (V.int (ns.getD 0 0 % 8) = V.int 1) = true
      · rw [if_pos z]
        exact ⟨(60 + ns.getD 0 0 / 8 % 40).toNat, by omega, by omega⟩
      · rw [if_neg z]
        exact ⟨0, by omega, by omega⟩
    rw [hM]
    have R3 := (R1.same s2).same s3
    walk_at "go"
    refine k_methR R3 (by decide +kernel) ?_
    walk_at "go"
    refine ⟨p, S, [], [], rfl, R3, by show 0 < 10000; decide, fun H4 lo hlo s4 hO => ?_⟩
    walk_at "go"
    refine k_lstN (Nat.zero_le _) fun lc H5 hlc s5 hC => ?_
    walk_at "go"
    refine k_tupN (by show 2 ≤ sizeLine; decide) fun lt H6 hlt s6 hT => ?_
    walk_at "go"
    refine k_lstN (by show 1 ≤ sizeLine; decide) fun lh H7 hlh s7 hL => ?_
    have s47 := (s5.trans s6).trans s7
    have s37 := s4.trans s47
    have F : Fix T.C_Row H p lp lb lh S := by
      refine ⟨nS, Same.free sm1 hlp, Same.free (sm1.trans s2) hlb, Same.free (((sm3.trans s4).trans s5).trans s6) hlh, fun z => ?_, fun z => ?_, fun z => ?_, ?_, ?_, ?_⟩
      · exact R1.tr _ z hlp
      · exact (R1.same s2).tr _ z hlb
      · exact (((R3.same s4).same s5).same s6).tr _ z hlh
      · exact ne_of_none hP hlb
      · exact ne_of_none (s6 _ _ (s5 _ _ (s4 _ _ (s3 _ _ hP)))) hlh
      · exact ne_of_none (s6 _ _ (s5 _ _ (s4 _ _ hB))) hlh
    have nM : ∀ b, (upd (upd H dx (.own p)) p (.ins T.C_Row dx [])) b = none → True := fun _ _ => trivial
    have N7 : Now T.C_Row H H7 p lp lb lh S [] [] [lt] := by
      refine ⟨((R3.same s4).same s5).same (s6.trans s7), s37 _ _ (s3 _ _ hP), s37 _ _ hB, hL, ?_, sm3.trans s37⟩
      intro t ht
      obtain rfl : t = lt := List.mem_singleton.mp ht
      refine ⟨?_, lo, lc, [], s7 _ _ hT, ?_, ?_, s47 _ _ hO, (s6.trans s7) _ _ hC⟩
      · rintro (z | z | z | z)
        · exact ((R3.same s4).same s5).tr _ z hlt
        · exact ne_of_none (s5 _ _ (s4 _ _ (s3 _ _ hP))) hlt z.symm
        · exact ne_of_none (s5 _ _ (s4 _ _ hB)) hlt z.symm
        · exact ne_of_none hT hlh z
      · rintro (z | z | z | z)
        · exact R3.tr _ z hlo
        · exact ne_of_none (s3 _ _ hP) hlo z.symm
        · exact ne_of_none hB hlo z.symm
        · exact ne_of_none (s6 _ _ (s5 _ _ hO)) hlh z
      · rintro (z | z | z | z)
        · exact (R3.same s4).tr _ z hlc
        · exact ne_of_none (s4 _ _ (s3 _ _ hP)) hlc z.symm
        · exact ne_of_none (s4 _ _ hB) hlc z.symm
        · exact ne_of_none (s6 _ _ hC) hlh z
    walk_at "go"
    refine k_methR N7.R (by decide +kernel) ?_
    walk_at "go"
    refine ⟨p, S, [], [], rfl, N7.R, ?_⟩
    walk_at "go"
    refine k_orF ?_
    walk_at "go"
    refine k_methR N7.R (by decide +kernel) ?_
    walk_at "go"
    refine ⟨p, S, [], [], rfl, N7.R, ?_⟩
    walk_at "go"
    refine k_ifF ?_
    walk_at "go"
    refine ⟨a, _, rfl, .inl (N7.sm.seq hsc), ?_⟩
    walk_at "go"
    refine ⟨_, _, rfl, ?_⟩
    walk_at "go"
    obtain ⟨n, hn, hn139⟩ : ∃ n : Nat, (M : Int) + (if ((ns.map V.int).length : Int) < 40 then ((ns.map V.int).length : Int) else 40) = (n : Int) ∧ n ≤ 139 := by
      refine ⟨M + (if (ns.map V.int).length < 40 then (ns.map V.int).length else 40), ?_, ?_⟩
      · split <;> split <;> omega
      · split <;> omega
    rw [hn]
    refine k_forR1 (by omega) (fun i σ H' => ∃ (ord : List Nat) (tk : List Bool) (hs : List Addr) (x6 x7 x8 x9 x10 x11 x12 x13 x14 x15 : Option V), σ = [some (.ref a), some (.ref p), some (.ref lp), some (.ref lb), some (.int M), some (.ref lh), x6, x7, x8, x9, x10, x11, x12, x13, x14, x15] ∧ Now T.C_Row H H' p lp lb lh S ord tk hs ∧ tk.length ≤ i ∧ hs.length ≤ i + 1)
      ⟨[], [], [lt], none, none, none, none, none, none, none, none, none, none, rfl, N7, Nat.le_refl _, Nat.le_refl _⟩ ?_ ?_
    · rintro i σ H8 hi ⟨ord, tk, hs, x6, x7, x8, x9, x10, x11, x12, x13, x14, x15, rfl, N, htk, hhs⟩
      walk_at "go"
      refine ⟨_, _, rfl, ?_⟩
      walk_at "go"
      obtain ⟨kk, hkk⟩ : ∃ kk : Nat, (if ((i : Int) - (M : Int)) > 0 then ((i : Int) - (M : Int)) else 0) = (kk : Int) := by
        refine ⟨i - M, ?_⟩
        split <;> omega
      rw [hkk]
      refine ⟨a, ns, kk, rfl, N.sm.seq hsc, ?_⟩
      walk_at "go"
      generalize ns.getD kk 0 = c
      refine ⟨c, i, rfl, ⟨by omega, by omega⟩, ?_⟩
      have gm := mix_ge c i
      generalize mixI c i = num at gm
      refine k_set ?_
      refine r_seq ?_
      -- the deed; both ways meet behind it
      refine joinS (fun σ' H' => ∃ (ord' : List Nat) (tk' : List Bool) (y9 y10 y11 : Option V), σ' = [some (.ref a), some (.ref p), some (.ref lp), some (.ref lb), some (.int M), some (.ref lh), some (.int i), some (.int c), some (.int num), y9, y10, y11, x12, x13, x14, x15] ∧
        Now T.C_Row H H' p lp lb lh S ord' tk' hs ∧ tk'.length ≤ i + 1 ∧ 0 < tk'.length) ?_ ?_
      · rintro σ' H9 ⟨ord', tk', y9, y10, y11, rfl, N9, htk', h0⟩
        refine r_seq ?_
        refine r_set ?_
        refine joinE (fun v H' => (∃ b, v = .bl b) ∧ H9 = H') ?_ ?_
        · rintro v H' ⟨⟨b, rfl⟩, rfl⟩
          walk_at "go"
          refine joinAnd (fun H' => Same H9 H') ?_ ?_
          · intro H' s9
            have N10 := N9.same s9
            refine k_ifF ?_
            walk_at "go"
            refine k_if (fun hz => ?_) (fun hz => ?_)
            · walk_at "go"
              refine k_methR N10.R (by decide +kernel) ?_
              walk_at "go"
              refine ⟨p, S, ord', tk', rfl, N10.R, by omega, fun H11 l11 hl11 s11 hO11 => ?_⟩
              have N11 := N10.same s11
              walk_at "go"
              refine k_bm (tyL N11.L) ?_
              walk_at "go"
              refine ⟨l11, _, rfl, .inl (SqL.of hO11), fun l12 hl12 => ?_⟩
              have s12 : Same H11 (upd H11 l12 (.lst (nis ord'))) := Sk.Same.new hl12
              have hN12 : upd H11 l12 (.lst (nis ord')) l12 = some (.lst (nis ord')) := upd_same
              generalize upd H11 l12 (.lst (nis ord')) = H12 at s12 hN12
              have N12 := N11.same s12
              walk_at "go"
              refine k_tupN (by show 2 ≤ sizeLine; decide) fun t13 H13 ht13 s13 hT13 => ?_
              have N13 := N12.same s13
              walk_at "go"
              refine ⟨lh, _, _, rfl, rfl, N13.L, ?_, ?_⟩
              · rw [List.length_map]; exact Nat.lt_of_le_of_lt hhs (Nat.lt_of_le_of_lt (Nat.succ_le_succ (Nat.le_of_lt hi)) (Nat.lt_of_le_of_lt (Nat.succ_le_succ hn139) (by decide)))
              have nlh : ¬ S lh := F.s3
              have mlh : Mv S lp lb lh lh := .inr (.inr (.inr rfl))
              have notM : ∀ (l : Addr) (HH : Hp), HH l = none → Now T.C_Row H HH p lp lb lh S ord' tk' hs → ¬ Mv S lp lb lh l := by
                rintro l HH hl NN (z | z | z | z)
                · exact NN.R.tr _ z hl
                · rw [z, NN.P] at hl; cases hl
                · rw [z, NN.B] at hl; cases hl
                · rw [z, NN.L] at hl; cases hl
              have m11 := notM l11 _ hl11 N10
              have m12 := notM l12 _ hl12 N11
              have m13 := notM t13 _ ht13 N12
              have N14 : Now T.C_Row H (upd H13 lh (.lst (hs.map V.ref ++ [V.ref t13]))) p lp lb lh S ord' tk' (hs ++ [t13]) := by
                have q : ∀ (b : Addr) (o : HO), ¬ Mv S lp lb lh b → H13 b = some o → upd H13 lh (.lst (hs.map V.ref ++ [V.ref t13])) b = some o := fun b o nb e => by
                  have n : b ≠ lh := fun z => nb (by rw [z]; exact mlh)
                  rw [upd_ne n]; exact e
                refine ⟨RowAt.upd N13.R nlh, ?_, ?_, ?_, ?_, Sk.Same.mut N13.sm F.n3⟩
                · rw [upd_ne F.e2]; exact N13.P
                · rw [upd_ne F.e3]; exact N13.B
                · rw [upd_same, List.map_append]; rfl
                · intro t ht
                  rcases List.mem_append.mp ht with ht | ht
                  · exact HeldAt.upd N13.hd mlh t ht
                  · obtain rfl := List.mem_singleton.mp ht
                    exact ⟨m13, l11, l12, ord', q _ _ m13 hT13, m11, m12, q _ _ m11 (s13 _ _ (s12 _ _ hO11)), q _ _ m12 (s13 _ _ hN12)⟩
              walk_at "go"
              have hO14 : upd H13 lh (.lst (hs.map V.ref ++ [V.ref t13])) l11 = some (.lst (nis ord')) := by
                have n : l11 ≠ lh := fun z => m11 (by rw [z]; exact mlh)
                rw [upd_ne n]; exact s13 _ _ (s12 _ _ hO11)
              refine k_neDf (dp_dI (SqL.of hO14)) (dp_dI (SqL.of N14.P)) (dep_dI _) (by decide) ?_
              walk_at "go"
              refine k_ifF ?_
              walk_at "go"
              exact ⟨ord', tk', hs ++ [t13], _, _, _, _, _, _, _, _, _, _, rfl, N14, htk', by rw [List.length_append, List.length_singleton]; omega⟩
            · walk_at "go"
              exact ⟨ord', tk', hs, _, _, _, _, _, _, _, _, _, _, rfl, N10, htk', by omega⟩
          · intro QT' hQ
            refine k_and (fun _ => ?_) (fun _ => hQ _ (Same.refl _))
            walk_at "go"
            refine ⟨c, 77 + i, rfl, ⟨by omega, by omega⟩, ?_⟩
            walk_at "go"
            refine ⟨p, lp, lb, S, ord', tk', mixI c (77 + i), rfl, N9.R, N9.P, N9.B, mix_ge _ _, h0, by omega, fun H' s => ?_⟩
            walk_at "go"
            exact hQ _ s
        · intro Q' hQ
          walk_at "go"
          refine k_andV (fun _ => ?_) (fun _ => hQ _ _ ⟨⟨_, rfl⟩, rfl⟩)
          walk_at "go"
          refine k_orV (fun _ => hQ _ _ ⟨⟨_, rfl⟩, rfl⟩) (fun _ => ?_)
          walk_at "go"
          exact hQ _ _ ⟨⟨_, rfl⟩, rfl⟩
      · intro D' hD'
        refine r_if ?_
        refine joinB (fun b H9 => Same H8 H9 ∧ (b = false → 0 < tk.length)) ?_ ?_
        · rintro b H9 ⟨s9, hb⟩
          have N9 := N.same s9
          refine k_if (fun _ => ?_) (fun hb' => ?_)
          · refine r_seq ?_
            refine r_set ?_
            refine r_c ?_
            refine k_set ?_
            refine r_seq ?_
            refine joinS (fun σ' H' => ∃ (bv : V) (kx : Nat), σ' = [some (.ref a), some (.ref p), some (.ref lp), some (.ref lb), some (.int M), some (.ref lh), some (.int i), some (.int c), some (.int num), some bv, x10, x11, x12, x13, x14, x15] ∧ Same H9 H' ∧
              ((bv = .non ∧ kx = 0) ∨ ∃ (j b : Nat), bv = .int (b : Int) ∧ ord[j]? = some b ∧ kx = j + 1)) ?_ ?_
            · rintro σ' H10 ⟨bv, kx, rfl, s10, hbv⟩
              have N10 := N9.same s10
              walk_at "go"
              refine k_methR N10.R (by decide +kernel) ?_
              walk_at "go"
              refine ⟨p, S, ord, tk, bv, kx, rfl, N10.R, by omega, hbv, fun H11 R11 f11 => ?_⟩
              obtain ⟨P11, B11, L11, hd11, sm11⟩ := N10.row F R11 f11
              walk_at "go"
              refine ⟨_, rfl, ?_⟩
              walk_at "go"
              refine k_orF ?_
              walk_at "go"
              refine ⟨lp, _, rfl, .inl (SqL.of P11), ?_⟩
              walk_at "go"
              rw [nis_len, N10.R.lo, decide_eq_true rfl]
              refine k_ifF ?_
              walk_at "go"
              refine k_bm (tyL P11) ?_
              refine r_cons ?_
              refine joinE (fun v H' => v = .int (kx : Int) ∧ H11 = H') ?_ ?_
              · rintro v H' ⟨rfl, rfl⟩
                have kxl : kx ≤ ord.length := by
                  rcases hbv with ⟨_, e⟩ | ⟨j, b, _, hj, e⟩
                  · omega
                  · have := (List.getElem?_eq_some_iff.mp hj).1; omega
                have eins : (nis ord).take ((kx : Int)).toNat ++ [V.int (tk.length : Int)] ++ (nis ord).drop ((kx : Int)).toNat = nis (ins ord kx tk.length) := by
                  unfold nis ins
                  rw [Int.toNat_natCast, List.map_append, List.map_cons, List.map_take, List.map_drop, List.append_assoc]
                  rfl
                walk_at "go"
                refine ⟨lp, _, (kx : Int), _, rfl, rfl, P11, by rw [nis_len, N10.R.lo]; exact Nat.lt_of_le_of_lt htk (Nat.lt_of_le_of_lt (Nat.le_of_lt hi) (Nat.lt_of_le_of_lt hn139 (by decide))), by omega, by have := N10.R.lo; omega, ?_⟩
                rw [eins]
                walk_at "go"
                have B12 : upd H11 lp (.lst (nis (ins ord kx tk.length))) lb = some (.lst (tk.map V.bl)) := by rw [upd_ne F.e1.symm]; exact B11
                refine k_bm (tyL B12) ?_
                walk_at "go"
                refine ⟨lb, _, .bl false, rfl, rfl, B12, by rw [List.length_map]; exact Nat.lt_of_le_of_lt htk (Nat.lt_of_le_of_lt (Nat.le_of_lt hi) (Nat.lt_of_le_of_lt hn139 (by decide))), ?_⟩
                have N12 : Now T.C_Row H (upd (upd H11 lp (.lst (nis (ins ord kx tk.length)))) lb (.lst (tk.map V.bl ++ [V.bl false]))) p lp lb lh S (ins ord kx tk.length) (tk ++ [false]) hs := by
                  refine ⟨RowAt.upd (RowAt.upd R11 F.s1) F.s2, ?_, ?_, ?_, HeldAt.upd (HeldAt.upd hd11 (.inr (.inl rfl))) (.inr (.inr (.inl rfl))), Sk.Same.mut (Sk.Same.mut sm11 F.n1) F.n2⟩
                  · rw [upd_ne F.e1, upd_same]
                  · rw [upd_same, List.map_append]; rfl
                  · rw [upd_ne F.e3.symm, upd_ne F.e2.symm]; exact L11
                generalize upd (upd H11 lp (.lst (nis (ins ord kx tk.length)))) lb (.lst (tk.map V.bl ++ [V.bl false])) = H13 at N12
                have tl : (tk ++ [false]).length = tk.length + 1 := by rw [List.length_append]; rfl
                walk_at "go"
                refine k_if (fun _ => ?_) (fun _ => ?_)
                · walk_at "go"
                  refine k_methR N12.R (by decide +kernel) ?_
                  walk_at "go"
                  refine ⟨p, S, _, _, tk.length, true, rfl, N12.R, by omega, fun H14 R14 f14 => ?_⟩
                  obtain ⟨P14, B14, L14, hd14, sm14⟩ := N12.row F R14 f14
                  walk_at "go"
                  refine k_sub2L B14 (j := tk.length) ?_ ?_
                  · unfold ixN
                    rw [if_pos (by omega), if_pos (by rw [List.length_map, tl]; omega)]
                    rfl
                  refine hD' _ _ ⟨_, _, _, _, _, rfl, ⟨RowAt.upd R14 F.s2, ?_, ?_, ?_, HeldAt.upd hd14 (.inr (.inr (.inl rfl))), Sk.Same.mut sm14 F.n2⟩, ?_, ?_⟩
                  · rw [upd_ne F.e1]; exact P14
                  · rw [upd_same, List.map_set]
                  · rw [upd_ne F.e3.symm]; exact L14
                  · rw [List.length_set, tl]; omega
                  · rw [List.length_set, tl]; omega
                · walk_at "go"
                  exact hD' _ _ ⟨_, _, _, _, _, rfl, N12, by omega, by omega⟩
              · intro Q' hQ
                walk_at "go"
                rcases hbv with ⟨rfl, rfl⟩ | ⟨j, b, rfl, hj, rfl⟩
                · refine k_ifET ?_
                  walk_at "go"
                  exact hQ _ _ ⟨rfl, rfl⟩
                · refine k_ifEF ?_
                  walk_at "go"
                  refine k_bm (tyL P11) ?_
                  walk_at "go"
                  refine k_ixOf (SqL.of P11) N10.R.nd hj ?_
                  walk_at "go"
                  exact hQ _ _ ⟨congrArg V.int (by omega), rfl⟩
            · intro D2 hD2
              walk_at "go"
              refine k_lstN (Nat.zero_le _) fun l0 H10 hl0 s10 hZ => ?_
              have N10 := N9.same s10
              walk_at "go"
              refine k_neDn (dp_dI (SqL.of N10.P)) (dp_nil (SqL.of hZ)) (dep_dI _) (by decide) ?_
              walk_at "go"
              refine k_and (fun he => ?_) (fun _ => ?_)
              · have h0 : 0 < tk.length := by
                  rw [← N.R.lo]
                  cases e : ord with
                  | nil => rw [e] at he; cases he
                  | cons x y => exact Nat.succ_pos _
                have hl0 : (0 : Int) < ((nis ord).length : Int) := by rw [nis_len, N.R.lo]; omega
                walk_at "go"
                refine k_if (fun _ => ?_) (fun _ => ?_)
                · walk_at "go"
                  refine ⟨lp, _, rfl, .inl (SqL.of N10.P), ?_⟩
                  walk_at "go"
                  obtain ⟨b, hb1, hb2⟩ : ∃ b : Nat, num / 35 % ((nis ord).length : Int) = (b : Int) ∧ b < tk.length := by
                    rw [nis_len, N.R.lo] at hl0 ⊢
                    have := Int.emod_nonneg (num / 35) (show (tk.length : Int) ≠ 0 by omega)
                    have := Int.emod_lt_of_pos (num / 35) hl0
                    exact ⟨(num / 35 % (tk.length : Int)).toNat, by omega, by omega⟩
                  rw [hb1]
                  obtain ⟨j, hj⟩ := N.R.ix hb2
                  exact hD2 _ _ ⟨_, j + 1, rfl, s10, .inr ⟨j, b, rfl, hj, rfl⟩⟩
                · walk_at "go"
                  exact hD2 _ _ ⟨_, 0, rfl, s10, .inl ⟨rfl, rfl⟩⟩
              · refine k_ifF ?_
                walk_at "go"
                exact hD2 _ _ ⟨_, 0, rfl, s10, .inl ⟨rfl, rfl⟩⟩
          · have h0 := hb hb'
            have hl0 : (0 : Int) < ((nis ord).length : Int) := by rw [nis_len, N.R.lo]; omega
            obtain ⟨x, hx1, hx2⟩ : ∃ x : Nat, num / 5 % ((nis ord).length : Int) = (x : Int) ∧ x < tk.length := by
              have hl1 := hl0
              rw [nis_len, N.R.lo] at hl1 ⊢
              have := Int.emod_nonneg (num / 5) (show (tk.length : Int) ≠ 0 by omega)
              have := Int.emod_lt_of_pos (num / 5) hl1
              exact ⟨(num / 5 % (tk.length : Int)).toNat, by omega, by omega⟩
            walk_at "go"
            refine ⟨lp, _, rfl, .inl (SqL.of N9.P), ?_⟩
            walk_at "go"
            rw [hx1]
            generalize decide (V.int (num / 5003 % 2) = V.int 1) = bb
            refine k_sub2L N9.B (j := x) ?_ ?_
            · unfold ixN
              rw [if_pos (by omega), if_pos (by rw [List.length_map]; omega)]
              rfl
            have R10 : RowAt T.C_Row (upd H9 lb (.lst ((tk.map V.bl).set x (.bl bb)))) p S ord tk := RowAt.upd N9.R F.s2
            have B10 : upd H9 lb (.lst ((tk.map V.bl).set x (.bl bb))) lb = some (.lst ((tk.set x bb).map V.bl)) := by rw [upd_same, List.map_set]
            have P10 : upd H9 lb (.lst ((tk.map V.bl).set x (.bl bb))) lp = some (.lst (nis ord)) := by rw [upd_ne F.e1]; exact N9.P
            have L10 : upd H9 lb (.lst ((tk.map V.bl).set x (.bl bb))) lh = some (.lst (hs.map V.ref)) := by rw [upd_ne F.e3.symm]; exact N9.L
            have hd10 : HeldAt (Mv S lp lb lh) (upd H9 lb (.lst ((tk.map V.bl).set x (.bl bb)))) hs := HeldAt.upd N9.hd (.inr (.inr (.inl rfl)))
            have sm10 : Same H (upd H9 lb (.lst ((tk.map V.bl).set x (.bl bb)))) := Sk.Same.mut N9.sm F.n2
            generalize upd H9 lb (.lst ((tk.map V.bl).set x (.bl bb))) = H10 at R10 B10 P10 L10 hd10 sm10
            walk_at "go"
            refine k_methR R10 (by decide +kernel) ?_
            walk_at "go"
            have gx : ((tk.set x bb).map V.bl)[x]? = some (V.bl bb) := by rw [List.getElem?_map, List.getElem?_set_self hx2]; rfl
            refine k_ixL (v := V.bl bb) (SqL.of B10) (atI_nat gx) ?_
            walk_at "go"
            refine ⟨p, S, ord, tk, x, bb, rfl, R10, hx2, fun H11 R11 f11 => ?_⟩
            walk_at "go"
            refine k_ifF ?_
            walk_at "go"
            refine hD' _ _ ⟨_, _, _, _, _, rfl, ⟨R11, f11 _ _ P10 F.s1, f11 _ _ B10 F.s2, f11 _ _ L10 F.s3, hd10.fr fun b o e nb => f11 b o e fun z => nb (.inl z), fun b o e => f11 b o (sm10 _ _ e) fun z => by rw [F.nS b z] at e; cases e⟩, ?_, ?_⟩
            · rw [List.length_set]; omega
            · rw [List.length_set]; exact h0
        · intro QT' hQ
          walk_at "go"
          refine k_lstN (Nat.zero_le _) fun l0 H9 hl0 s9 hZ => ?_
          have N9 := N.same s9
          walk_at "go"
          refine k_eqDn (dp_dI (SqL.of N9.P)) (dp_nil (SqL.of hZ)) (dep_dI _) (by decide) ?_
          walk_at "go"
          refine k_or (fun _ => hQ _ _ ⟨s9, fun z => nomatch z⟩) (fun he => ?_)
          have h0 : 0 < tk.length := by
            rw [← N.R.lo]
            cases e : ord with
            | nil => rw [e] at he; cases he
            | cons x y => exact Nat.succ_pos _
          walk_at "go"
          refine k_or (fun _ => hQ _ _ ⟨s9, fun _ => h0⟩) (fun he => ?_)
          walk_at "go"
          exact hQ _ _ ⟨s9, fun _ => h0⟩
    · rintro σ H8 ⟨ord, tk, hs, x6, x7, x8, x9, x10, x11, x12, x13, x14, x15, rfl, N, htk, hhs⟩
      walk_at "go"
      refine k_methR N.R (by decide +kernel) ?_
      walk_at "go"
      refine ⟨p, S, ord, tk, rfl, N.R, by omega, fun H9 l9 hl9 s9 hO9 => ?_⟩
      walk_at "go"
      have N9 := N.same s9
      refine k_eqDt (dp_dI (SqL.of hO9)) (dp_dI (SqL.of N9.P)) (dep_dI _) (by decide) ?_
      refine k_andV (fun _ => ?_) (fun z => nomatch z)
      walk_at "go"
      refine k_lcL (fun _ => false) (fun x => x) (SqL.of N9.L) (by rw [List.length_map]; exact Nat.lt_of_le_of_lt hhs (Nat.lt_of_le_of_lt (Nat.succ_le_succ hn139) (by decide))) ?_ ?_
      · intro j y H' Y Nn hj s2 hY hN
        obtain ⟨t, ht, rfl⟩ : ∃ t, t ∈ hs ∧ y = V.ref t := by
          rw [List.getElem?_map] at hj
          cases e : hs[j]? with
          | none => rw [e] at hj; cases hj
          | some t => rw [e] at hj; exact ⟨t, List.mem_of_getElem? e, (Option.some.inj hj).symm⟩
        obtain ⟨_, ta, tb, o, h1, _, _, h2, h3⟩ := N9.hd t ht
        refine g_tup (Or.inl (Or.inl (s2 _ _ h1))) rfl ?_
        walk_at "go"
        refine k_lcG rfl ?_
        walk_at "go"
        refine k_neDf (dp_dI (SqL.of (s2 _ _ h2))) (dp_dI (SqL.of (s2 _ _ h3))) (dep_dI _) (by decide) ?_
        walk_at "go"
        exact k_lcT (fun z => nomatch z) (fun _ => hN rfl _ (Same.refl _))
      intro ly H10 hly s10 hY
      have e0 : ((hs.map V.ref).filter (fun _ => false)).map (fun x => x) = ([] : List V) := by
        rw [List.map_id']
        exact List.filter_eq_nil_iff.mpr fun _ _ => Bool.false_ne_true
      rw [e0] at hY
      walk_at "go"
      refine k_lstN (Nat.zero_le _) fun l0 H11 hl0 s11 hZ => ?_
      walk_at "go"
      refine k_eqDt (dp_nil (SqL.of (s11 _ _ hY))) (dp_nil (SqL.of hZ)) (dep_list (n := 0) fun d h => by cases h) (by decide) ?_
      exact k _
end
end Sk
namespace Sk
open PySem PySem.Spec PyProof.Rows L2
/-! ### what the top has written; the end -/
theorem all_mk {l : PySem.W.OpenLaw} {w : World} {K : PySem.W.Frag} {h : Heap} {mg : Str → Option Value} {fa C_Row f_is_within f_Row_init f_Row_many f_Row_check_seat f_Row_add f_Row_take f_Row_is_taken f_Row_all_taken f_Row_ahead f_Row_order f_Row_find f_Row_is_ahead f_law_cell_at f_law_whole f_law_mixed f_law_stands f_law : Addr} (X : K.In h) (G : h.Ns mainGlobals mg) (hfa : mg "law" = some (.ref fa))
    {od_is_within an_is_within : Option Addr} {sl_is_within : Array (Option Value)} {oc_is_within kV_is_within dc_is_within pm_is_within cd_is_within ct_is_within : Value}
    {od_Row_init an_Row_init : Option Addr} {sl_Row_init : Array (Option Value)} {oc_Row_init kV_Row_init dc_Row_init pm_Row_init cd_Row_init ct_Row_init : Value}
    {od_Row_many an_Row_many : Option Addr} {sl_Row_many : Array (Option Value)} {oc_Row_many kV_Row_many dc_Row_many pm_Row_many cd_Row_many ct_Row_many : Value}
    {od_Row_check_seat an_Row_check_seat : Option Addr} {sl_Row_check_seat : Array (Option Value)} {oc_Row_check_seat kV_Row_check_seat dc_Row_check_seat pm_Row_check_seat cd_Row_check_seat ct_Row_check_seat : Value}
    {od_Row_add an_Row_add : Option Addr} {sl_Row_add : Array (Option Value)} {oc_Row_add kV_Row_add dc_Row_add pm_Row_add cd_Row_add ct_Row_add : Value}
    {od_Row_take an_Row_take : Option Addr} {sl_Row_take : Array (Option Value)} {oc_Row_take kV_Row_take dc_Row_take pm_Row_take cd_Row_take ct_Row_take : Value}
    {od_Row_is_taken an_Row_is_taken : Option Addr} {sl_Row_is_taken : Array (Option Value)} {oc_Row_is_taken kV_Row_is_taken dc_Row_is_taken pm_Row_is_taken cd_Row_is_taken ct_Row_is_taken : Value}
    {od_Row_all_taken an_Row_all_taken : Option Addr} {sl_Row_all_taken : Array (Option Value)} {oc_Row_all_taken kV_Row_all_taken dc_Row_all_taken pm_Row_all_taken cd_Row_all_taken ct_Row_all_taken : Value}
    {od_Row_ahead an_Row_ahead : Option Addr} {sl_Row_ahead : Array (Option Value)} {oc_Row_ahead kV_Row_ahead dc_Row_ahead pm_Row_ahead cd_Row_ahead ct_Row_ahead : Value}
    {od_Row_order an_Row_order : Option Addr} {sl_Row_order : Array (Option Value)} {oc_Row_order kV_Row_order dc_Row_order pm_Row_order cd_Row_order ct_Row_order : Value}
    {od_Row_find an_Row_find : Option Addr} {sl_Row_find : Array (Option Value)} {oc_Row_find kV_Row_find dc_Row_find pm_Row_find cd_Row_find ct_Row_find : Value}
    {od_Row_is_ahead an_Row_is_ahead : Option Addr} {sl_Row_is_ahead : Array (Option Value)} {oc_Row_is_ahead kV_Row_is_ahead dc_Row_is_ahead pm_Row_is_ahead cd_Row_is_ahead ct_Row_is_ahead : Value}
    {od_law_cell_at an_law_cell_at : Option Addr} {sl_law_cell_at : Array (Option Value)} {oc_law_cell_at kV_law_cell_at dc_law_cell_at pm_law_cell_at cd_law_cell_at ct_law_cell_at : Value}
    {od_law_whole an_law_whole : Option Addr} {sl_law_whole : Array (Option Value)} {oc_law_whole kV_law_whole dc_law_whole pm_law_whole cd_law_whole ct_law_whole : Value}
    {od_law_mixed an_law_mixed : Option Addr} {sl_law_mixed : Array (Option Value)} {oc_law_mixed kV_law_mixed dc_law_mixed pm_law_mixed cd_law_mixed ct_law_mixed : Value}
    {od_law_stands an_law_stands : Option Addr} {sl_law_stands : Array (Option Value)} {oc_law_stands kV_law_stands dc_law_stands pm_law_stands cd_law_stands ct_law_stands : Value}
    {od_law an_law : Option Addr} {sl_law : Array (Option Value)} {oc_law kV_law dc_law pm_law cd_law ct_law : Value}
    (aC_Row : PySem.W.nsIn K mainGlobals "Row" = some (some (.ref C_Row)))
    (pg_Row : PySem.W.plainGet K C_Row Str.empty = true)
    (hd_Row : PySem.W.hasDictIn K C_Row = true)
    (po_Row : PySem.W.plainOver K C_Row = true)
    (sa_Row : PySem.W.findIn K (.ref C_Row) "__setattr__" = some (some (.builtin "object.__setattr__")))
    (mk_Row : PySem.W.makesIn K C_Row = true)
    (kc_Row : PySem.W.keepIn K (.ref C_Row) = true)
    (n_Row_first : PySem.W.findIn K (.ref C_Row) "_first" = some none)
    (n_Row_following : PySem.W.findIn K (.ref C_Row) "_following" = some none)
    (n_Row_taken : PySem.W.findIn K (.ref C_Row) "_taken" = some none)
    (a_is_within : PySem.W.nsIn K mainGlobals "is_within" = some (some (.ref f_is_within)))
    (l_is_within : K.lookup f_is_within = some ⟨oc_is_within, od_is_within, .func (PySem.W.fnOf "is_within" "is_within" (defArgs s_is_within) (defBody s_is_within) (defScope s_is_within) .none kV_is_within dc_is_within pm_is_within an_is_within cd_is_within ct_is_within), sl_is_within⟩)
    (c_is_within : PySem.W.codeIn K cd_is_within "is_within" = true)
    (k_is_within : PySem.W.keepIn K (.ref f_is_within) = true)
    (a_Row_init : PySem.W.findIn K (.ref C_Row) "__init__" = some (some (.ref f_Row_init)))
    (i_Row_init : PySem.W.isFn K (.ref f_Row_init) = true)
    (l_Row_init : K.lookup f_Row_init = some ⟨oc_Row_init, od_Row_init, .func (PySem.W.fnOf "__init__" "Row.__init__" (defArgs s_Row_init) (defBody s_Row_init) (defScope s_Row_init) .none kV_Row_init dc_Row_init pm_Row_init an_Row_init cd_Row_init ct_Row_init), sl_Row_init⟩)
    (c_Row_init : PySem.W.codeIn K cd_Row_init "Row.__init__" = true)
    (k_Row_init : PySem.W.keepIn K (.ref f_Row_init) = true)
    (a_Row_many : PySem.W.findIn K (.ref C_Row) "many" = some (some (.ref f_Row_many)))
    (i_Row_many : PySem.W.isFn K (.ref f_Row_many) = true)
    (l_Row_many : K.lookup f_Row_many = some ⟨oc_Row_many, od_Row_many, .func (PySem.W.fnOf "many" "Row.many" (defArgs s_Row_many) (defBody s_Row_many) (defScope s_Row_many) .none kV_Row_many dc_Row_many pm_Row_many an_Row_many cd_Row_many ct_Row_many), sl_Row_many⟩)
    (c_Row_many : PySem.W.codeIn K cd_Row_many "Row.many" = true)
    (k_Row_many : PySem.W.keepIn K (.ref f_Row_many) = true)
    (a_Row_check_seat : PySem.W.findIn K (.ref C_Row) "_check_seat" = some (some (.ref f_Row_check_seat)))
    (i_Row_check_seat : PySem.W.isFn K (.ref f_Row_check_seat) = true)
    (l_Row_check_seat : K.lookup f_Row_check_seat = some ⟨oc_Row_check_seat, od_Row_check_seat, .func (PySem.W.fnOf "_check_seat" "Row._check_seat" (defArgs s_Row_check_seat) (defBody s_Row_check_seat) (defScope s_Row_check_seat) .none kV_Row_check_seat dc_Row_check_seat pm_Row_check_seat an_Row_check_seat cd_Row_check_seat ct_Row_check_seat), sl_Row_check_seat⟩)
    (c_Row_check_seat : PySem.W.codeIn K cd_Row_check_seat "Row._check_seat" = true)
    (k_Row_check_seat : PySem.W.keepIn K (.ref f_Row_check_seat) = true)
    (a_Row_add : PySem.W.findIn K (.ref C_Row) "add" = some (some (.ref f_Row_add)))
    (i_Row_add : PySem.W.isFn K (.ref f_Row_add) = true)
    (l_Row_add : K.lookup f_Row_add = some ⟨oc_Row_add, od_Row_add, .func (PySem.W.fnOf "add" "Row.add" (defArgs s_Row_add) (defBody s_Row_add) (defScope s_Row_add) .none kV_Row_add dc_Row_add pm_Row_add an_Row_add cd_Row_add ct_Row_add), sl_Row_add⟩)
    (c_Row_add : PySem.W.codeIn K cd_Row_add "Row.add" = true)
    (k_Row_add : PySem.W.keepIn K (.ref f_Row_add) = true)
    (a_Row_take : PySem.W.findIn K (.ref C_Row) "take" = some (some (.ref f_Row_take)))
    (i_Row_take : PySem.W.isFn K (.ref f_Row_take) = true)
    (l_Row_take : K.lookup f_Row_take = some ⟨oc_Row_take, od_Row_take, .func (PySem.W.fnOf "take" "Row.take" (defArgs s_Row_take) (defBody s_Row_take) (defScope s_Row_take) .none kV_Row_take dc_Row_take pm_Row_take an_Row_take cd_Row_take ct_Row_take), sl_Row_take⟩)
    (c_Row_take : PySem.W.codeIn K cd_Row_take "Row.take" = true)
    (k_Row_take : PySem.W.keepIn K (.ref f_Row_take) = true)
    (a_Row_is_taken : PySem.W.findIn K (.ref C_Row) "is_taken" = some (some (.ref f_Row_is_taken)))
    (i_Row_is_taken : PySem.W.isFn K (.ref f_Row_is_taken) = true)
    (l_Row_is_taken : K.lookup f_Row_is_taken = some ⟨oc_Row_is_taken, od_Row_is_taken, .func (PySem.W.fnOf "is_taken" "Row.is_taken" (defArgs s_Row_is_taken) (defBody s_Row_is_taken) (defScope s_Row_is_taken) .none kV_Row_is_taken dc_Row_is_taken pm_Row_is_taken an_Row_is_taken cd_Row_is_taken ct_Row_is_taken), sl_Row_is_taken⟩)
    (c_Row_is_taken : PySem.W.codeIn K cd_Row_is_taken "Row.is_taken" = true)
    (k_Row_is_taken : PySem.W.keepIn K (.ref f_Row_is_taken) = true)
    (a_Row_all_taken : PySem.W.findIn K (.ref C_Row) "all_taken" = some (some (.ref f_Row_all_taken)))
    (i_Row_all_taken : PySem.W.isFn K (.ref f_Row_all_taken) = true)
    (l_Row_all_taken : K.lookup f_Row_all_taken = some ⟨oc_Row_all_taken, od_Row_all_taken, .func (PySem.W.fnOf "all_taken" "Row.all_taken" (defArgs s_Row_all_taken) (defBody s_Row_all_taken) (defScope s_Row_all_taken) .none kV_Row_all_taken dc_Row_all_taken pm_Row_all_taken an_Row_all_taken cd_Row_all_taken ct_Row_all_taken), sl_Row_all_taken⟩)
    (c_Row_all_taken : PySem.W.codeIn K cd_Row_all_taken "Row.all_taken" = true)
    (k_Row_all_taken : PySem.W.keepIn K (.ref f_Row_all_taken) = true)
    (a_Row_ahead : PySem.W.findIn K (.ref C_Row) "ahead" = some (some (.ref f_Row_ahead)))
    (i_Row_ahead : PySem.W.isFn K (.ref f_Row_ahead) = true)
    (l_Row_ahead : K.lookup f_Row_ahead = some ⟨oc_Row_ahead, od_Row_ahead, .func (PySem.W.fnOf "ahead" "Row.ahead" (defArgs s_Row_ahead) (defBody s_Row_ahead) (defScope s_Row_ahead) .none kV_Row_ahead dc_Row_ahead pm_Row_ahead an_Row_ahead cd_Row_ahead ct_Row_ahead), sl_Row_ahead⟩)
    (c_Row_ahead : PySem.W.codeIn K cd_Row_ahead "Row.ahead" = true)
    (k_Row_ahead : PySem.W.keepIn K (.ref f_Row_ahead) = true)
    (a_Row_order : PySem.W.findIn K (.ref C_Row) "order" = some (some (.ref f_Row_order)))
    (i_Row_order : PySem.W.isFn K (.ref f_Row_order) = true)
    (l_Row_order : K.lookup f_Row_order = some ⟨oc_Row_order, od_Row_order, .func (PySem.W.fnOf "order" "Row.order" (defArgs s_Row_order) (defBody s_Row_order) (defScope s_Row_order) .none kV_Row_order dc_Row_order pm_Row_order an_Row_order cd_Row_order ct_Row_order), sl_Row_order⟩)
    (c_Row_order : PySem.W.codeIn K cd_Row_order "Row.order" = true)
    (k_Row_order : PySem.W.keepIn K (.ref f_Row_order) = true)
    (a_Row_find : PySem.W.findIn K (.ref C_Row) "find" = some (some (.ref f_Row_find)))
    (i_Row_find : PySem.W.isFn K (.ref f_Row_find) = true)
    (l_Row_find : K.lookup f_Row_find = some ⟨oc_Row_find, od_Row_find, .func (PySem.W.fnOf "find" "Row.find" (defArgs s_Row_find) (defBody s_Row_find) (defScope s_Row_find) .none kV_Row_find dc_Row_find pm_Row_find an_Row_find cd_Row_find ct_Row_find), sl_Row_find⟩)
    (c_Row_find : PySem.W.codeIn K cd_Row_find "Row.find" = true)
    (k_Row_find : PySem.W.keepIn K (.ref f_Row_find) = true)
    (a_Row_is_ahead : PySem.W.findIn K (.ref C_Row) "is_ahead" = some (some (.ref f_Row_is_ahead)))
    (i_Row_is_ahead : PySem.W.isFn K (.ref f_Row_is_ahead) = true)
    (l_Row_is_ahead : K.lookup f_Row_is_ahead = some ⟨oc_Row_is_ahead, od_Row_is_ahead, .func (PySem.W.fnOf "is_ahead" "Row.is_ahead" (defArgs s_Row_is_ahead) (defBody s_Row_is_ahead) (defScope s_Row_is_ahead) .none kV_Row_is_ahead dc_Row_is_ahead pm_Row_is_ahead an_Row_is_ahead cd_Row_is_ahead ct_Row_is_ahead), sl_Row_is_ahead⟩)
    (c_Row_is_ahead : PySem.W.codeIn K cd_Row_is_ahead "Row.is_ahead" = true)
    (k_Row_is_ahead : PySem.W.keepIn K (.ref f_Row_is_ahead) = true)
    (a_law_cell_at : PySem.W.nsIn K mainGlobals "_law_cell_at" = some (some (.ref f_law_cell_at)))
    (l_law_cell_at : K.lookup f_law_cell_at = some ⟨oc_law_cell_at, od_law_cell_at, .func (PySem.W.fnOf "_law_cell_at" "_law_cell_at" (defArgs s_law_cell_at) (defBody s_law_cell_at) (defScope s_law_cell_at) .none kV_law_cell_at dc_law_cell_at pm_law_cell_at an_law_cell_at cd_law_cell_at ct_law_cell_at), sl_law_cell_at⟩)
    (c_law_cell_at : PySem.W.codeIn K cd_law_cell_at "_law_cell_at" = true)
    (k_law_cell_at : PySem.W.keepIn K (.ref f_law_cell_at) = true)
    (a_law_whole : PySem.W.nsIn K mainGlobals "_law_whole" = some (some (.ref f_law_whole)))
    (l_law_whole : K.lookup f_law_whole = some ⟨oc_law_whole, od_law_whole, .func (PySem.W.fnOf "_law_whole" "_law_whole" (defArgs s_law_whole) (defBody s_law_whole) (defScope s_law_whole) .none kV_law_whole dc_law_whole pm_law_whole an_law_whole cd_law_whole ct_law_whole), sl_law_whole⟩)
    (c_law_whole : PySem.W.codeIn K cd_law_whole "_law_whole" = true)
    (k_law_whole : PySem.W.keepIn K (.ref f_law_whole) = true)
    (a_law_mixed : PySem.W.nsIn K mainGlobals "_law_mixed" = some (some (.ref f_law_mixed)))
    (l_law_mixed : K.lookup f_law_mixed = some ⟨oc_law_mixed, od_law_mixed, .func (PySem.W.fnOf "_law_mixed" "_law_mixed" (defArgs s_law_mixed) (defBody s_law_mixed) (defScope s_law_mixed) .none kV_law_mixed dc_law_mixed pm_law_mixed an_law_mixed cd_law_mixed ct_law_mixed), sl_law_mixed⟩)
    (c_law_mixed : PySem.W.codeIn K cd_law_mixed "_law_mixed" = true)
    (k_law_mixed : PySem.W.keepIn K (.ref f_law_mixed) = true)
    (a_law_stands : PySem.W.nsIn K mainGlobals "_law_stands" = some (some (.ref f_law_stands)))
    (l_law_stands : K.lookup f_law_stands = some ⟨oc_law_stands, od_law_stands, .func (PySem.W.fnOf "_law_stands" "_law_stands" (defArgs s_law_stands) (defBody s_law_stands) (defScope s_law_stands) .none kV_law_stands dc_law_stands pm_law_stands an_law_stands cd_law_stands ct_law_stands), sl_law_stands⟩)
    (c_law_stands : PySem.W.codeIn K cd_law_stands "_law_stands" = true)
    (k_law_stands : PySem.W.keepIn K (.ref f_law_stands) = true)
    (a_law : PySem.W.nsIn K mainGlobals "law" = some (some (.ref f_law)))
    (l_law : K.lookup f_law = some ⟨oc_law, od_law, .func (PySem.W.fnOf "law" "law" (defArgs s_law) (defBody s_law) (defScope s_law) .none kV_law dc_law pm_law an_law cd_law ct_law), sl_law⟩)
    (c_law : PySem.W.codeIn K cd_law "law" = true)
    (k_law : PySem.W.keepIn K (.ref f_law) = true)
    (z_bool : PySem.W.nsIn K mainGlobals "bool" = some none)
    (z_int : PySem.W.nsIn K mainGlobals "int" = some none)
    (z_isinstance : PySem.W.nsIn K mainGlobals "isinstance" = some none)
    (z_len : PySem.W.nsIn K mainGlobals "len" = some none)
    (z_list : PySem.W.nsIn K mainGlobals "list" = some none)
    (z_max : PySem.W.nsIn K mainGlobals "max" = some none)
    (z_min : PySem.W.nsIn K mainGlobals "min" = some none)
    (z_range : PySem.W.nsIn K mainGlobals "range" = some none)
    (z_type : PySem.W.nsIn K mainGlobals "type" = some none) :
    ∃ fd : FuncData, (∀ (s : Shared) (v : Value), BindsTo s fd ⟨[v], []⟩ [("_law_script", v)]) ∧ ∀ base : Heap, K.In base → base.Ns mainGlobals mg → FnOk l.prog w K mg base (L2.CX l.prog w) 5 fa fd ["_law_script"] (sp_law K) := by
  have e := hfa.symm.trans (PySem.W.mg_of X G a_law)
  cases e
  have F_is_within := fun_mk (st := s_is_within) l_is_within c_is_within k_is_within
  have b_is_within := F_is_within.binds (ps := P_is_within) fun _ _ _ _ _ _ us hl => match us, hl with | [_, _, _], _ => rfl
  have F_Row_init := fun_mk (st := s_Row_init) l_Row_init c_Row_init k_Row_init
  have b_Row_init := F_Row_init.binds (ps := P_Row_init) fun _ _ _ _ _ _ us hl => match us, hl with | [_], _ => rfl
  have F_Row_many := fun_mk (st := s_Row_many) l_Row_many c_Row_many k_Row_many
  have b_Row_many := F_Row_many.binds (ps := P_Row_many) fun _ _ _ _ _ _ us hl => match us, hl with | [_], _ => rfl
  have F_Row_check_seat := fun_mk (st := s_Row_check_seat) l_Row_check_seat c_Row_check_seat k_Row_check_seat
  have b_Row_check_seat := F_Row_check_seat.binds (ps := P_Row_check_seat) fun _ _ _ _ _ _ us hl => match us, hl with | [_, _], _ => rfl
  have F_Row_add := fun_mk (st := s_Row_add) l_Row_add c_Row_add k_Row_add
  have b_Row_add := F_Row_add.binds (ps := P_Row_add) fun _ _ _ _ _ _ us hl => match us, hl with | [_, _], _ => rfl
  have F_Row_take := fun_mk (st := s_Row_take) l_Row_take c_Row_take k_Row_take
  have b_Row_take := F_Row_take.binds (ps := P_Row_take) fun _ _ _ _ _ _ us hl => match us, hl with | [_, _, _], _ => rfl
  have F_Row_is_taken := fun_mk (st := s_Row_is_taken) l_Row_is_taken c_Row_is_taken k_Row_is_taken
  have b_Row_is_taken := F_Row_is_taken.binds (ps := P_Row_is_taken) fun _ _ _ _ _ _ us hl => match us, hl with | [_, _], _ => rfl
  have F_Row_all_taken := fun_mk (st := s_Row_all_taken) l_Row_all_taken c_Row_all_taken k_Row_all_taken
  have b_Row_all_taken := F_Row_all_taken.binds (ps := P_Row_all_taken) fun _ _ _ _ _ _ us hl => match us, hl with | [_], _ => rfl
  have F_Row_ahead := fun_mk (st := s_Row_ahead) l_Row_ahead c_Row_ahead k_Row_ahead
  have b_Row_ahead := F_Row_ahead.binds (ps := P_Row_ahead) fun _ _ _ _ _ _ us hl => match us, hl with | [_, _], _ => rfl
  have F_Row_order := fun_mk (st := s_Row_order) l_Row_order c_Row_order k_Row_order
  have b_Row_order := F_Row_order.binds (ps := P_Row_order) fun _ _ _ _ _ _ us hl => match us, hl with | [_], _ => rfl
  have F_Row_find := fun_mk (st := s_Row_find) l_Row_find c_Row_find k_Row_find
  have b_Row_find := F_Row_find.binds (ps := P_Row_find) fun _ _ _ _ _ _ us hl => match us, hl with | [_, _], _ => rfl
  have F_Row_is_ahead := fun_mk (st := s_Row_is_ahead) l_Row_is_ahead c_Row_is_ahead k_Row_is_ahead
  have b_Row_is_ahead := F_Row_is_ahead.binds (ps := P_Row_is_ahead) fun _ _ _ _ _ _ us hl => match us, hl with | [_, _, _], _ => rfl
  have F_law_cell_at := fun_mk (st := s_law_cell_at) l_law_cell_at c_law_cell_at k_law_cell_at
  have b_law_cell_at := F_law_cell_at.binds (ps := P_law_cell_at) fun _ _ _ _ _ _ us hl => match us, hl with | [_, _], _ => rfl
  have F_law_whole := fun_mk (st := s_law_whole) l_law_whole c_law_whole k_law_whole
  have b_law_whole := F_law_whole.binds (ps := P_law_whole) fun _ _ _ _ _ _ us hl => match us, hl with | [_], _ => rfl
  have F_law_mixed := fun_mk (st := s_law_mixed) l_law_mixed c_law_mixed k_law_mixed
  have b_law_mixed := F_law_mixed.binds (ps := P_law_mixed) fun _ _ _ _ _ _ us hl => match us, hl with | [_, _], _ => rfl
  have F_law_stands := fun_mk (st := s_law_stands) l_law_stands c_law_stands k_law_stands
  have b_law_stands := F_law_stands.binds (ps := P_law_stands) fun _ _ _ _ _ _ us hl => match us, hl with | [_, _, _, _], _ => rfl
  have F_law := fun_mk (st := s_law) l_law c_law k_law
  have b_law := F_law.binds (ps := P_law) fun _ _ _ _ _ _ us hl => match us, hl with | [_], _ => rfl
  let T : Tx K mg := {
    C_Row := C_Row,
    f_is_within := f_is_within, fd_is_within := _, F_is_within := F_is_within, b_is_within := b_is_within,
    mg_is_within := PySem.W.mg_of X G a_is_within,
    f_Row_init := f_Row_init, fd_Row_init := _, F_Row_init := F_Row_init, b_Row_init := b_Row_init,
    f_Row_many := f_Row_many, fd_Row_many := _, F_Row_many := F_Row_many, b_Row_many := b_Row_many,
    m_Row_many := ⟨a_Row_many, i_Row_many, k_Row_many⟩,
    f_Row_check_seat := f_Row_check_seat, fd_Row_check_seat := _, F_Row_check_seat := F_Row_check_seat, b_Row_check_seat := b_Row_check_seat,
    m_Row_check_seat := ⟨a_Row_check_seat, i_Row_check_seat, k_Row_check_seat⟩,
    f_Row_add := f_Row_add, fd_Row_add := _, F_Row_add := F_Row_add, b_Row_add := b_Row_add,
    m_Row_add := ⟨a_Row_add, i_Row_add, k_Row_add⟩,
    f_Row_take := f_Row_take, fd_Row_take := _, F_Row_take := F_Row_take, b_Row_take := b_Row_take,
    m_Row_take := ⟨a_Row_take, i_Row_take, k_Row_take⟩,
    f_Row_is_taken := f_Row_is_taken, fd_Row_is_taken := _, F_Row_is_taken := F_Row_is_taken, b_Row_is_taken := b_Row_is_taken,
    m_Row_is_taken := ⟨a_Row_is_taken, i_Row_is_taken, k_Row_is_taken⟩,
    f_Row_all_taken := f_Row_all_taken, fd_Row_all_taken := _, F_Row_all_taken := F_Row_all_taken, b_Row_all_taken := b_Row_all_taken,
    m_Row_all_taken := ⟨a_Row_all_taken, i_Row_all_taken, k_Row_all_taken⟩,
    f_Row_ahead := f_Row_ahead, fd_Row_ahead := _, F_Row_ahead := F_Row_ahead, b_Row_ahead := b_Row_ahead,
    m_Row_ahead := ⟨a_Row_ahead, i_Row_ahead, k_Row_ahead⟩,
    f_Row_order := f_Row_order, fd_Row_order := _, F_Row_order := F_Row_order, b_Row_order := b_Row_order,
    m_Row_order := ⟨a_Row_order, i_Row_order, k_Row_order⟩,
    f_Row_find := f_Row_find, fd_Row_find := _, F_Row_find := F_Row_find, b_Row_find := b_Row_find,
    m_Row_find := ⟨a_Row_find, i_Row_find, k_Row_find⟩,
    f_Row_is_ahead := f_Row_is_ahead, fd_Row_is_ahead := _, F_Row_is_ahead := F_Row_is_ahead, b_Row_is_ahead := b_Row_is_ahead,
    m_Row_is_ahead := ⟨a_Row_is_ahead, i_Row_is_ahead, k_Row_is_ahead⟩,
    f_law_cell_at := f_law_cell_at, fd_law_cell_at := _, F_law_cell_at := F_law_cell_at, b_law_cell_at := b_law_cell_at,
    mg_law_cell_at := PySem.W.mg_of X G a_law_cell_at,
    f_law_whole := f_law_whole, fd_law_whole := _, F_law_whole := F_law_whole, b_law_whole := b_law_whole,
    mg_law_whole := PySem.W.mg_of X G a_law_whole,
    f_law_mixed := f_law_mixed, fd_law_mixed := _, F_law_mixed := F_law_mixed, b_law_mixed := b_law_mixed,
    mg_law_mixed := PySem.W.mg_of X G a_law_mixed,
    f_law_stands := f_law_stands, fd_law_stands := _, F_law_stands := F_law_stands, b_law_stands := b_law_stands,
    mg_law_stands := PySem.W.mg_of X G a_law_stands,
    f_law := fa, fd_law := _, F_law := F_law, b_law := b_law,
    mg_law := PySem.W.mg_of X G a_law,
    cl_Row := ⟨pg_Row, hd_Row, po_Row, sa_Row⟩, mg_Row := PySem.W.mg_of X G aC_Row,
    mk_Row := ⟨mk_Row, a_Row_init, i_Row_init, kc_Row⟩,
    n_Row_first := n_Row_first,
    n_Row_following := n_Row_following,
    n_Row_taken := n_Row_taken,
    z_bool := PySem.W.mg_none_of X G z_bool,
    z_int := PySem.W.mg_none_of X G z_int,
    z_isinstance := PySem.W.mg_none_of X G z_isinstance,
    z_len := PySem.W.mg_none_of X G z_len,
    z_list := PySem.W.mg_none_of X G z_list,
    z_max := PySem.W.mg_none_of X G z_max,
    z_min := PySem.W.mg_none_of X G z_min,
    z_range := PySem.W.mg_none_of X G z_range,
    z_type := PySem.W.mg_none_of X G z_type }
  exact ⟨_, fun s v => .of_eq rfl, fun base _ _ => ok_law T⟩
theorem walk {l : PySem.W.OpenLaw} {q : Program} {loose : List Str} {XP : (Str → Option Value) → Heap → Prop} {YP : World → Heap → Prop} {d : DefRec} {K : Params → PySem.W.Frag} (hn : l.most = some 63) (hdf : d.params.defaults = [])
    (hY : ∀ (w : World) (h : Heap), YP w h → (K w.params).In h)
    (F : ∀ (w : World) (mg : Str → Option Value) (fa : Addr) (h : Heap), (K w.params).In h → h.Ns mainGlobals mg → mg d.name = some (.ref fa) →
      ∃ fd : FuncData, (∀ (s : Shared) (u : Value), BindsTo s fd ⟨[u], []⟩ [("_law_script", u)]) ∧ ∀ base : Heap, (K w.params).In base → base.Ns mainGlobals mg → FnOk l.prog w (K w.params) mg base (L2.CX l.prog w) 5 fa fd ["_law_script"] (sp_law (K w.params))) :
    PySem.W.WalkO q loose XP YP l.row.toRowW d [] (fun f vs => PySem.call f vs) :=
  L2.walk_of (n := 63) (k := 5) (x := "_law_script") (CX := fun w => L2.CX l.prog w) (sp := fun w => sp_law (K w.params)) hn (by decide) hdf ⟨rfl, by decide, by decide⟩ hY F (fun _ H a ns hl hO hS => ⟨a, ns, rfl, hS, hl, fun _ => rfl⟩) fun _ _ _ _ _ z => by
    obtain ⟨_, _, _, _, _, _, _, _, _, _, _, _, z⟩ := z
    exact z
end Sk
open PySem PySem.W PyProof.Rows in
set_option maxRecDepth 100000 in
set_option maxHeartbeats 0 in
theorem PySem.Challenge.cw_stickmarks_k01_seats_in_a_row_holds : PySem.Challenge.rw_stickmarks_k01_seats_in_a_row.Holds := by
  w_on; o_law; k_head; (case hw => w_witness2)
  k_fill
  refine Sk.walk (l := PySem.Challenge.rw_stickmarks_k01_seats_in_a_row) rfl rfl (fun w h Y => PySem.W.kIn_of Y) ?F
  case F =>
    intro w mg fa h KX G hmg
    refine' Sk.all_mk KX G hmg ?aC_Row ?pg_Row ?hd_Row ?po_Row ?sa_Row ?mk_Row ?kc_Row ?n_Row_first ?n_Row_following ?n_Row_taken ?a_is_within ?l_is_within ?c_is_within ?k_is_within ?a_Row_init ?i_Row_init ?l_Row_init ?c_Row_init ?k_Row_init ?a_Row_many ?i_Row_many ?l_Row_many ?c_Row_many ?k_Row_many ?a_Row_check_seat ?i_Row_check_seat ?l_Row_check_seat ?c_Row_check_seat ?k_Row_check_seat ?a_Row_add ?i_Row_add ?l_Row_add ?c_Row_add ?k_Row_add ?a_Row_take ?i_Row_take ?l_Row_take ?c_Row_take ?k_Row_take ?a_Row_is_taken ?i_Row_is_taken ?l_Row_is_taken ?c_Row_is_taken ?k_Row_is_taken ?a_Row_all_taken ?i_Row_all_taken ?l_Row_all_taken ?c_Row_all_taken ?k_Row_all_taken ?a_Row_ahead ?i_Row_ahead ?l_Row_ahead ?c_Row_ahead ?k_Row_ahead ?a_Row_order ?i_Row_order ?l_Row_order ?c_Row_order ?k_Row_order ?a_Row_find ?i_Row_find ?l_Row_find ?c_Row_find ?k_Row_find ?a_Row_is_ahead ?i_Row_is_ahead ?l_Row_is_ahead ?c_Row_is_ahead ?k_Row_is_ahead ?a_law_cell_at ?l_law_cell_at ?c_law_cell_at ?k_law_cell_at ?a_law_whole ?l_law_whole ?c_law_whole ?k_law_whole ?a_law_mixed ?l_law_mixed ?c_law_mixed ?k_law_mixed ?a_law_stands ?l_law_stands ?c_law_stands ?k_law_stands ?a_law ?l_law ?c_law ?k_law ?z_bool ?z_int ?z_isinstance ?z_len ?z_list ?z_max ?z_min ?z_range ?z_type
    (case aC_Row => k_is)
    (case pg_Row => k_is)
    (case hd_Row => k_is)
    (case po_Row => k_is)
    (case sa_Row => k_is)
    (case mk_Row => k_is)
    (case kc_Row => k_is)
    (case n_Row_first => k_is)
    (case n_Row_following => k_is)
    (case n_Row_taken => k_is)
    (case a_is_within => k_is)
    (case l_is_within => k_is)
    (case c_is_within => k_is)
    (case k_is_within => k_is)
    (case a_Row_init => k_is)
    (case i_Row_init => k_is)
    (case l_Row_init => k_is)
    (case c_Row_init => k_is)
    (case k_Row_init => k_is)
    (case a_Row_many => k_is)
    (case i_Row_many => k_is)
    (case l_Row_many => k_is)
    (case c_Row_many => k_is)
    (case k_Row_many => k_is)
    (case a_Row_check_seat => k_is)
    (case i_Row_check_seat => k_is)
    (case l_Row_check_seat => k_is)
    (case c_Row_check_seat => k_is)
    (case k_Row_check_seat => k_is)
    (case a_Row_add => k_is)
    (case i_Row_add => k_is)
    (case l_Row_add => k_is)
    (case c_Row_add => k_is)
    (case k_Row_add => k_is)
    (case a_Row_take => k_is)
    (case i_Row_take => k_is)
    (case l_Row_take => k_is)
    (case c_Row_take => k_is)
    (case k_Row_take => k_is)
    (case a_Row_is_taken => k_is)
    (case i_Row_is_taken => k_is)
    (case l_Row_is_taken => k_is)
    (case c_Row_is_taken => k_is)
    (case k_Row_is_taken => k_is)
    (case a_Row_all_taken => k_is)
    (case i_Row_all_taken => k_is)
    (case l_Row_all_taken => k_is)
    (case c_Row_all_taken => k_is)
    (case k_Row_all_taken => k_is)
    (case a_Row_ahead => k_is)
    (case i_Row_ahead => k_is)
    (case l_Row_ahead => k_is)
    (case c_Row_ahead => k_is)
    (case k_Row_ahead => k_is)
    (case a_Row_order => k_is)
    (case i_Row_order => k_is)
    (case l_Row_order => k_is)
    (case c_Row_order => k_is)
    (case k_Row_order => k_is)
    (case a_Row_find => k_is)
    (case i_Row_find => k_is)
    (case l_Row_find => k_is)
    (case c_Row_find => k_is)
    (case k_Row_find => k_is)
    (case a_Row_is_ahead => k_is)
    (case i_Row_is_ahead => k_is)
    (case l_Row_is_ahead => k_is)
    (case c_Row_is_ahead => k_is)
    (case k_Row_is_ahead => k_is)
    (case a_law_cell_at => k_is)
    (case l_law_cell_at => k_is)
    (case c_law_cell_at => k_is)
    (case k_law_cell_at => k_is)
    (case a_law_whole => k_is)
    (case l_law_whole => k_is)
    (case c_law_whole => k_is)
    (case k_law_whole => k_is)
    (case a_law_mixed => k_is)
    (case l_law_mixed => k_is)
    (case c_law_mixed => k_is)
    (case k_law_mixed => k_is)
    (case a_law_stands => k_is)
    (case l_law_stands => k_is)
    (case c_law_stands => k_is)
    (case k_law_stands => k_is)
    (case a_law => k_is)
    (case l_law => k_is)
    (case c_law => k_is)
    (case k_law => k_is)
    (case z_bool => k_is)
    (case z_int => k_is)
    (case z_isinstance => k_is)
    (case z_len => k_is)
    (case z_list => k_is)
    (case z_max => k_is)
    (case z_min => k_is)
    (case z_range => k_is)
    (case z_type => k_is)
