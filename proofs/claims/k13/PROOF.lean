import PyProof.Rows.All
import Wide.All
import OpenK.AllK
import Wide.FinOn
import HandS.ForMost
import HandS.ForExc
import HandS.IsInst
import HandS.WideBits
import HandS.Wide
import PyProof.InstEq
import KE.KExcInit
import PyProof.ExcBaseAll.ArithmeticError
import HandS.ExcInit
import PyProof.Rows.SeqMore
import KE.KIsAll
import KE.KTryMore
import HandS.ExcIs
import PyProof.Rows.BitMore
import HandS.ExcField
import HandS.ExcOwn
import HandS.Star
import HandS.CallLocal
import HandS.More
import PyProof.NoPylong
import HandS.Style
import HandS.Ends
import HandS.Deep
import HandS.Defaults
import HandS.FStr
import HandS.Zip
import HandS.TryOnly
import KE.KDictZip
import KE.KItemsList
import HandS.ListItems
import HandS.Lambda
import HandS.EndTab
import KE.KNestM
import HandS.Codes
import HandS.Walk
import HandS.List
import HandS.MakeKwOnly
import KE.KIntText
import KE.KxAffix
import HandS.Conv
import PySem.Challenge.RW_upvalues_k13_whole_rooms_of_grown_tables
set_option Elab.async false
set_option linter.all false
set_option maxRecDepth 100000
set_option maxHeartbeats 0
set_option pp.deepTerms false
set_option pp.deepTerms.threshold 5
set_option pp.maxSteps 3000
namespace U
open PySem L2

/-! ## a def that can be called -/
structure Cal (P : Program) (w : World) (K : PySem.W.Frag) (mg : Str → Option Value) (base : Heap) (CX : CXT) (k : Nat) (x : Str) (ps : List Str) (sp : Sp) : Prop where
  ex : ∃ (f : Addr) (fd : FuncData), mg x = some (.ref f) ∧ PySem.W.keepIn K (.ref f) = true ∧ Binds K fd ps [] ∧ FnOk P w K mg base CX k f fd ps sp
theorem passE {X : Cx} : Passes (L2.CX X.prog X.w) X E0 := passL
section
variable {X : Cx} {k k0 : Nat} {x : Str} {ps : List Str} {sp : Sp} {e : Expr} {es : List Expr} {t : TA} {p pos : Pos}
/-- f(e, ..), nothing is raised -/
theorem pe_c (G : Cal X.prog X.w X.K X.mg X.base CX0 k x ps sp) (hr : Room k0 X.A) (ha : PA X (e :: es) t) (hk : k ≤ k0 := by decide) (hg : Gl X x := by rfl) (hdb : (x == ("__debug__" : Str)) = false := by decide)
    (he : starEach (e :: es) X.env = (false, eval e X.env) :: starEach es X.env := by rfl) (hpl : (backTo pos (starEach es X.env)).any (·.1) = false := by rfl) :
    PE X (.Call (.Name x p) (e :: es) [] pos) (tCall sp [] E0 t) := by
  obtain ⟨f, fd, hm, kp, hb, F⟩ := G.ex
  exact pe_call F (hr.mono hk) hg hm kp hb .nil pass0 ha hdb he hpl
theorem pe_c0 (G : Cal X.prog X.w X.K X.mg X.base CX0 k x ps sp) (hr : Room k0 X.A) (hk : k ≤ k0 := by decide) (hg : Gl X x := by rfl) (hdb : (x == ("__debug__" : Str)) = false := by decide) :
    PE X (.Call (.Name x p) [] [] pos) (tCall sp [] E0 tNil) := by
  obtain ⟨f, fd, hm, kp, hb, F⟩ := G.ex
  exact pe_call0 F (hr.mono hk) hg hm kp hb .nil pass0 hdb
/-- the same of a def that may raise, where it does not -/
theorem pe_cL (G : Cal X.prog X.w X.K X.mg X.base (L2.CX X.prog X.w) k x ps sp) (hr : Room k0 X.A) (ha : PA X (e :: es) t) (hk : k ≤ k0 := by decide) (hg : Gl X x := by rfl) (hdb : (x == ("__debug__" : Str)) = false := by decide)
    (he : starEach (e :: es) X.env = (false, eval e X.env) :: starEach es X.env := by rfl) (hpl : (backTo pos (starEach es X.env)).any (·.1) = false := by rfl) :
    PE X (.Call (.Name x p) (e :: es) [] pos) (tCall sp [] E0 t) := by
  obtain ⟨f, fd, hm, kp, hb, F⟩ := G.ex
  exact pe_call F (hr.mono hk) hg hm kp hb .nil passL ha hdb he hpl
end

section
variable {X : Cx} {k k0 : Nat} {x : Str} {ps : List Str} {sp : Sp} {e : Expr} {es : List Expr} {t : TA} {p pos : Pos} {E : XK}
/-- the same where what is raised leaves this def, too -/
theorem pe_cR (G : Cal X.prog X.w X.K X.mg X.base (L2.CX X.prog X.w) k x ps sp) (hr : Room k0 X.A) (tk : Takes X (fun cls d _ H => E cls d H)) (ha : PA X (e :: es) t) (hk : k ≤ k0 := by decide) (hg : Gl X x := by rfl) (hdb : (x == ("__debug__" : Str)) = false := by decide)
    (he : starEach (e :: es) X.env = (false, eval e X.env) :: starEach es X.env := by rfl) (hpl : (backTo pos (starEach es X.env)).any (·.1) = false := by rfl) :
    PE X (.Call (.Name x p) (e :: es) [] pos) (tCall sp [] E t) := by
  obtain ⟨f, fd, hm, kp, hb, F⟩ := G.ex
  exact pe_call F (hr.mono hk) hg hm kp hb .nil (passes_call tk fun _ _ _ _ h => h) ha hdb he hpl
theorem pe_gc {C : Addr} (h : X.mg x = some (.ref C)) (hg : Gl X x := by rfl) (hd : (x == ("__debug__" : Str)) = false := by decide) : PE X (.Name x pos) (tC (.ref C)) := pe_glob hg h rfl hd
end
/-- a field, where the context is that of a comprehension -/
theorem pe_fldK {X : Cx} {K : PySem.W.Frag} {e : Expr} {ta : TE} {f : Str} {pos : Pos} (he : PE X e ta) (hb : attributeBase e f X.env (eval e X.env) = eval e X.env) (hK : X.K = K := by rfl) : PE X (.Attribute e f pos) (tFld K ta f) := by
  subst hK
  exact pe_fld he hb
/-! ## heaps that grow -/
theorem sameUpd {H : Hp} {p : Addr} {o : HO} (h : H p = none) : Same H (upd H p o) := fun b u e => by
  rw [upd_ne (ne_of_none e h)]
  exact e
theorem sameGet {H H' : Hp} {a : Addr} {o : HO} (e : Same H H') (h : H a = some o) : H' a = some o := e a o h
theorem sameT {K : PySem.W.Frag} {H H' : Hp} {a : Addr} {xs : List V} (e : Same H H') (h : SqT K H a xs) : SqT K H' a xs := by
  rcases h with (h | ⟨o, h⟩) | h
  · exact .inl (.inl (e _ _ h))
  · exact .inl (.inr ⟨o, e _ _ h⟩)
  · exact .inr h

def NewT (xs : List V) (H1 : Hp) (Q : VK) : Prop := xs.length ≤ sizeLine ∧ ∀ p, H1 p = none → Q (.ref p) (upd H1 p (.tup xs))
def NewL (xs : List V) (H1 : Hp) (Q : VK) : Prop := xs.length ≤ sizeLine ∧ ∀ p, H1 p = none → Q (.ref p) (upd H1 p (.lst xs))
/-! ## one slot changes -/
def SetG (i : Nat) (v : V) (σ : St) (Q : St → Hp → Prop) (H : Hp) : Prop := Q (σ.set i (some v)) H
def SetH (i : Nat) (v : V) (σ : St) (Q : St → Hp → Prop) (H : Hp) : Prop := Q (σ.set i (some v)) H
section
variable {Q : St → Hp → Prop} {H : Hp} {v : V} {l : St}
theorem l_sg {i : Nat} {σ : St} (h : SetH i v σ Q H) : SetG i v σ Q H := h
theorem l_sg0 { x : Option V} (h : Q (some v :: l) H) : SetH 0 v (x :: l) Q H := h
theorem l_sg1 {a0 x : Option V} (h : Q (a0 :: some v :: l) H) : SetH 1 v (a0 :: x :: l) Q H := h
theorem l_sg2 {a0 a1 x : Option V} (h : Q (a0 :: a1 :: some v :: l) H) : SetH 2 v (a0 :: a1 :: x :: l) Q H := h
theorem l_sg3 {a0 a1 a2 x : Option V} (h : Q (a0 :: a1 :: a2 :: some v :: l) H) : SetH 3 v (a0 :: a1 :: a2 :: x :: l) Q H := h
theorem l_sg4 {a0 a1 a2 a3 x : Option V} (h : Q (a0 :: a1 :: a2 :: a3 :: some v :: l) H) : SetH 4 v (a0 :: a1 :: a2 :: a3 :: x :: l) Q H := h
theorem l_sg5 {a0 a1 a2 a3 a4 x : Option V} (h : Q (a0 :: a1 :: a2 :: a3 :: a4 :: some v :: l) H) : SetH 5 v (a0 :: a1 :: a2 :: a3 :: a4 :: x :: l) Q H := h
theorem l_sg6 {a0 a1 a2 a3 a4 a5 x : Option V} (h : Q (a0 :: a1 :: a2 :: a3 :: a4 :: a5 :: some v :: l) H) : SetH 6 v (a0 :: a1 :: a2 :: a3 :: a4 :: a5 :: x :: l) Q H := h
theorem l_sg7 {a0 a1 a2 a3 a4 a5 a6 x : Option V} (h : Q (a0 :: a1 :: a2 :: a3 :: a4 :: a5 :: a6 :: some v :: l) H) : SetH 7 v (a0 :: a1 :: a2 :: a3 :: a4 :: a5 :: a6 :: x :: l) Q H := h
theorem l_sg8 {a0 a1 a2 a3 a4 a5 a6 a7 x : Option V} (h : Q (a0 :: a1 :: a2 :: a3 :: a4 :: a5 :: a6 :: a7 :: some v :: l) H) : SetH 8 v (a0 :: a1 :: a2 :: a3 :: a4 :: a5 :: a6 :: a7 :: x :: l) Q H := h
theorem l_sg9 {a0 a1 a2 a3 a4 a5 a6 a7 a8 x : Option V} (h : Q (a0 :: a1 :: a2 :: a3 :: a4 :: a5 :: a6 :: a7 :: a8 :: some v :: l) H) : SetH 9 v (a0 :: a1 :: a2 :: a3 :: a4 :: a5 :: a6 :: a7 :: a8 :: x :: l) Q H := h
theorem l_sg10 {a0 a1 a2 a3 a4 a5 a6 a7 a8 a9 x : Option V} (h : Q (a0 :: a1 :: a2 :: a3 :: a4 :: a5 :: a6 :: a7 :: a8 :: a9 :: some v :: l) H) : SetH 10 v (a0 :: a1 :: a2 :: a3 :: a4 :: a5 :: a6 :: a7 :: a8 :: a9 :: x :: l) Q H := h
theorem l_sg11 {a0 a1 a2 a3 a4 a5 a6 a7 a8 a9 a10 x : Option V} (h : Q (a0 :: a1 :: a2 :: a3 :: a4 :: a5 :: a6 :: a7 :: a8 :: a9 :: a10 :: some v :: l) H) : SetH 11 v (a0 :: a1 :: a2 :: a3 :: a4 :: a5 :: a6 :: a7 :: a8 :: a9 :: a10 :: x :: l) Q H := h
theorem l_sg12 {a0 a1 a2 a3 a4 a5 a6 a7 a8 a9 a10 a11 x : Option V} (h : Q (a0 :: a1 :: a2 :: a3 :: a4 :: a5 :: a6 :: a7 :: a8 :: a9 :: a10 :: a11 :: some v :: l) H) : SetH 12 v (a0 :: a1 :: a2 :: a3 :: a4 :: a5 :: a6 :: a7 :: a8 :: a9 :: a10 :: a11 :: x :: l) Q H := h
theorem l_sg13 {a0 a1 a2 a3 a4 a5 a6 a7 a8 a9 a10 a11 a12 x : Option V} (h : Q (a0 :: a1 :: a2 :: a3 :: a4 :: a5 :: a6 :: a7 :: a8 :: a9 :: a10 :: a11 :: a12 :: some v :: l) H) : SetH 13 v (a0 :: a1 :: a2 :: a3 :: a4 :: a5 :: a6 :: a7 :: a8 :: a9 :: a10 :: a11 :: a12 :: x :: l) Q H := h
end
theorem st0 {t : TS} {D : Ends} {σ σ' : St} {H : Hp} (e : σ = σ') (h : t D σ' H) : t D σ H := e ▸ h
/-! ## one step of a reading -/
section
variable {σ : St} {H : Hp} {ta tb tc te : TE} {Q : VK} {r r' : R2} {v x y : V} {D : Ends} {t u : TS} {c c' : TT} {a : TA} {K : PySem.W.Frag}
theorem l_var {i : Nat} (h : σ[i]? = some (some v)) (q : Q v H) : tVar i σ H Q := ⟨v, h, q⟩
theorem l_c (q : Q v H) : tC v σ H Q := q
theorem l_op (h : ta σ H fun x H1 => tb σ H1 fun y H2 => r x y H2 Q) : tOp r ta tb σ H Q := h
theorem l_un {r : V → Hp → VK → Prop} (h : ta σ H fun x H1 => r x H1 Q) : tUn r ta σ H Q := h
theorem l_I0 {g : Int → Int → V} {i j : Int} (q : Q (g i j) H) : rI0 g (.int i) (.int j) H Q := ⟨i, j, rfl, rfl, q⟩
theorem l_I {C : Int → Int → Prop} {g : Int → Int → V} {i j : Int} (hc : C i j) (q : Q (g i j) H) : rI C g (.int i) (.int j) H Q := ⟨i, j, rfl, rfl, hc, q⟩
theorem l_U {g : Int → V} {i : Int} (q : Q (g i) H) : rU g (.int i) H Q := ⟨i, rfl, q⟩
theorem l_bits (h : ta σ H fun x H1 => ∃ i, x = .int i ∧ Q (.int (Builtin.Int.intBits i : Nat)) H1) : tBits ta σ H Q := h
theorem l_int {i : Int} {M : Int → Prop} (q : M i) : ∃ j, V.int i = .int j ∧ M j := ⟨i, rfl, q⟩
theorem l_eq (h : scal x y = true) (q : Q (.bl (decide (x = y))) H) : rEq x y H Q := ⟨h, q⟩
theorem l_ne (h : scal x y = true) (q : Q (.bl (!decide (x = y))) H) : rNe x y H Q := ⟨h, q⟩
theorem l_test {Q : Bool → Hp → Prop} (h : te σ H fun x H' => ∃ k, x = .bl k ∧ Q k H') : tTest te σ H Q := h
theorem l_tB {Q : Bool → Hp → Prop} (h : te σ H fun x H' => ∃ k, x = .bl k ∧ Q k H') : tB te σ H Q := h
theorem l_bl {b : Bool} {M : Bool → Prop} (q : M b) : ∃ k, V.bl b = .bl k ∧ M k := ⟨b, rfl, q⟩
theorem l_and {Q : Bool → Hp → Prop} (h : c σ H fun b H1 => if b = true then c' σ H1 Q else Q false H1) : tAnd c c' σ H Q := h
theorem l_or {Q : Bool → Hp → Prop} (h : c σ H fun b H1 => if b = true then Q true H1 else c' σ H1 Q) : tOr c c' σ H Q := h
theorem l_not {Q : Bool → Hp → Prop} (h : c σ H fun b H1 => Q (!b) H1) : tNot c σ H Q := h
theorem l_andV (h : ta σ H fun x H1 => ∃ b, x = .bl b ∧ if b = true then tb σ H1 Q else Q (.bl false) H1) : tAndV ta tb σ H Q := h
theorem l_orV (h : ta σ H fun x H1 => ∃ b, x = .bl b ∧ if b = true then Q (.bl true) H1 else tb σ H1 Q) : tOrV ta tb σ H Q := h
theorem l_notV (h : ta σ H fun x H1 => ∃ b, x = .bl b ∧ Q (.bl (!b)) H1) : tNotV ta σ H Q := h
theorem l_ifE (h : c σ H fun b H1 => if b = true then ta σ H1 Q else tb σ H1 Q) : tIf c ta tb σ H Q := h
theorem l_chain (h : ta σ H fun x H1 => tb σ H1 fun y H2 => r x y H2 fun z H3 => ∃ k, z = .bl k ∧ if k = true then tc σ H3 (fun z' H4 => r' y z' H4 Q) else Q (.bl false) H3) : tChain r r' ta tb tc σ H Q := h
theorem l_nil {Q : List V → Hp → Prop} (q : Q [] H) : tNil σ H Q := q
theorem l_cons {Q : List V → Hp → Prop} (h : ta σ H fun x H1 => a σ H1 fun xs H2 => Q (x :: xs) H2) : tCons ta a σ H Q := h
theorem l_sfld {f : Str} {to tv : TE} (h : tv σ H fun y H1 => to σ H1 fun x H2 => ∃ a C dx fs, x = .ref a ∧ H2 a = some (.ins C dx fs) ∧ Cls K C ∧ NoAttr K C f ∧ fs.length < 1000 ∧ D.nx σ (upd H2 a (.ins C dx (putF f y fs)))) : sFld K to tv f D σ H := h
theorem l_seq (h : t { D with nx := u D } σ H) : tSeq t u D σ H := h
theorem l_next (h : D.nx σ H) : tNext D σ H := h
theorem l_if (h : c σ H fun b H1 => if b = true then t D σ H1 else u D σ H1) : tIfS c t u D σ H := h
theorem l_drop (h : te σ H fun _ H1 => D.nx σ H1) : tDrop te D σ H := h
theorem l_ret (h : te σ H D.rt) : tRet te D σ H := h
theorem l_retN (h : D.rt .non H) : tRetN D σ H := h
theorem l_set {i : Nat} (h : te σ H fun v H1 => SetG i v σ D.nx H1) : tAsg te (gName i) D σ H := h
theorem l_asg {g : TG} (h : te σ H fun v H1 => g v σ H1 D.nx) : tAsg te g D σ H := h
theorem l_par {i j : Nat} (h : a σ H fun vs H1 => ∃ v w, vs = [v, w] ∧ SetG i v σ (fun σ' H' => SetG j w σ' D.nx H') H1) : tPar i j a D σ H := h
theorem l_par2 {v w : V} {M : V → V → Prop} (h : M v w) : ∃ v' w', [v, w] = [v', w'] ∧ M v' w' := ⟨v, w, rfl, h⟩
theorem l_gname {i : Nat} {Q : St → Hp → Prop} (h : SetG i v σ Q H) : gName i v σ H Q := h
theorem l_gnil {Q : St → Hp → Prop} (h : Q σ H) : gNil [] σ H Q := ⟨rfl, h⟩
theorem l_gcons {g : TG} {gs : TGs} {xs : List V} {Q : St → Hp → Prop} (h : g v σ H fun σ' H' => gs xs σ' H' Q) : gCons g gs (v :: xs) σ H Q := ⟨v, xs, rfl, h⟩
theorem l_gtup {n : Nat} {gs : TGs} {p : Addr} {xs : List V} {Q : St → Hp → Prop} (hp : SqT K H p xs) (hl : xs.length = n) (h : gs xs σ H Q) : gTup K n gs (.ref p) σ H Q := ⟨p, xs, rfl, hp, hl, h⟩
theorem l_tup (h : a σ H fun xs H1 => NewT xs H1 Q) : tTup a σ H Q := h
theorem l_lst (h : a σ H fun xs H1 => NewL xs H1 Q) : tLst a σ H Q := h
theorem l_newT {xs : List V} (hl : xs.length ≤ sizeLine) (q : ∀ p H2, H p = none → Same H H2 → H2 p = some (.tup xs) → Q (.ref p) H2) : NewT xs H Q := ⟨hl, fun p hn => q p _ hn (sameUpd hn) upd_same⟩
theorem l_newL {xs : List V} (hl : xs.length ≤ sizeLine) (q : ∀ p H2, H p = none → Same H H2 → H2 p = some (.lst xs) → Q (.ref p) H2) : NewL xs H Q := ⟨hl, fun p hn => q p _ hn (sameUpd hn) upd_same⟩
theorem l_cb {r : List V → Hp → VK → Prop} (h : a σ H fun vs H1 => r vs H1 Q) : tCB r a σ H Q := h
theorem l_call {sp : Sp} {dvs : List V} {E : XK} (h : a σ H fun vs H1 => sp (vs ++ dvs) H1 Q E) : tCall sp dvs E a σ H Q := h
theorem l_ixL {p : Addr} {xs : List V} {i : Int} (h : SqL K H p xs) (ha : atI xs i = some v) (q : Q v H) : rIxL K (.ref p) (.int i) H Q := ⟨p, xs, i, v, rfl, rfl, h, ha, q⟩
theorem l_ixT {p : Addr} {xs : List V} {i : Int} (h : SqT K H p xs) (ha : atI xs i = some v) (q : Q v H) : rIxT K (.ref p) (.int i) H Q := ⟨p, xs, i, v, rfl, rfl, h, ha, q⟩
theorem l_fld {f : Str} (h : ta σ H fun x H1 => ∃ a C dx fs v, x = .ref a ∧ H1 a = some (.ins C dx fs) ∧ Cls K C ∧ NoAttr K C f ∧ fs.lookup f = some v ∧ Q v H1) : tFld K ta f σ H Q := h
/-- the ends -/
theorem iteD {c A B : Prop} [Decidable c] (h1 : c → A) (h2 : ¬ c → B) : if decide c = true then A else B := by
  by_cases h : c
  · rw [if_pos (decide_eq_true h)]; exact h1 h
  · rw [if_neg (by simpa using h)]; exact h2 h
theorem iteN {c A B : Prop} [Decidable c] (h1 : ¬ c → A) (h2 : c → B) : if (!decide c) = true then A else B := by
  by_cases h : c
  · rw [if_neg (by simpa using h)]; exact h2 h
  · rw [if_pos (by simpa using h)]; exact h1 h
theorem iteVI {i j : Int} {A B : Prop} (h1 : i = j → A) (h2 : ¬ i = j → B) : if decide (V.int i = V.int j) = true then A else B :=
  iteD (fun h => h1 (V.int.inj h)) fun h => h2 fun e => h (by rw [e])
theorem iteVIN {i j : Int} {A B : Prop} (h1 : ¬ i = j → A) (h2 : i = j → B) : if (!decide (V.int i = V.int j)) = true then A else B :=
  iteN (fun h => h1 fun e => h (by rw [e])) fun h => h2 (V.int.inj h)
theorem iteB {b : Bool} {A B : Prop} (h1 : b = true → A) (h2 : b = false → B) : if b = true then A else B := by
  cases b with
  | true => rw [if_pos rfl]; exact h1 rfl
  | false => rw [if_neg Bool.false_ne_true]; exact h2 rfl
theorem iteNB {b : Bool} {A B : Prop} (h1 : b = false → A) (h2 : b = true → B) : if (!b) = true then A else B := by
  cases b with
  | true => exact h2 rfl
  | false => exact h1 rfl
theorem iteVS {i j : Str} {A B : Prop} (h1 : i = j → A) (h2 : ¬ i = j → B) : if decide (V.str i = V.str j) = true then A else B :=
  iteD (fun h => h1 (V.str.inj h)) fun h => h2 fun e => h (by rw [e])
theorem iteVIS {i : Int} {j : Str} {A B : Prop} (h2 : B) : if decide (V.int i = V.str j) = true then A else B :=
  iteD (fun h => nomatch h) fun _ => h2
theorem iteVSI {i : Int} {j : Str} {A B : Prop} (h2 : B) : if decide (V.str j = V.int i) = true then A else B :=
  iteD (fun h => nomatch h) fun _ => h2
theorem iteNF {A B : Prop} (h : A) : if (!false) = true then A else B := h
theorem iteNT {A B : Prop} (h : B) : if (!true) = true then A else B := by
  rw [if_neg (by decide)]
  exact h
end
theorem updSame {H H2 : Hp} {p : Addr} {o : HO} (hU : upd H p o = H2) (hn : H p = none) : Same H H2 := by
  rw [← hU]; exact sameUpd hn
theorem updAt {H H2 : Hp} {p : Addr} {o : HO} (hU : upd H p o = H2) : H2 p = some o := by
  rw [← hU]; exact upd_same

section
variable {K : PySem.W.Frag} {H : Hp} {Q : VK} {x c v : V} {p : Addr} {xs : List V}
theorem l_isi {t u : Value} {b : Bool} (hc : ClsV c u) (ty : TyX K H x t) (e : PySem.W.kitOne K t u = some b) (q : Q (.bl b) H) : rIsi K [x, c] H Q := ⟨x, c, t, u, b, rfl, hc, ty, e, q⟩
theorem l_isiC {C : Addr} {t : Value} {b : Bool} (ty : TyX K H x t) (e : PySem.W.kitOne K t (.ref C) = some b) (q : Q (.bl b) H) : rIsi K [x, .ref C] H Q := ⟨x, _, t, _, b, rfl, .own C, ty, e, q⟩
theorem l_inT (h : SqT K H p xs) (hx : flatV x = true) (hf : xs.all flatV = true) (q : Q (.bl (inV x xs)) H) : rIn K false x (.ref p) H Q := ⟨p, xs, rfl, Or.inr h, hx, hf, q⟩
theorem l_niT (h : SqT K H p xs) (hx : flatV x = true) (hf : xs.all flatV = true) (q : Q (.bl (!inV x xs)) H) : rIn K true x (.ref p) H Q := ⟨p, xs, rfl, Or.inr h, hx, hf, q⟩
end
theorem ends {Q : VK} {v v' : V} {H : Hp} (k : Q v H) (e : v = v') : Q v' H := e ▸ k
section
variable {CX : CXT} {P : Program} {w : World} {K : PySem.W.Frag} {mg : Str → Option Value} {base : Heap} {N : List Str} {qual : Str} {scope : Scope} {f : Addr} {cd : Value} {A : Around} {outer : List Env} {s : Shared} {H : Hp} {E : XK}
theorem nox_K : (cxOf CX P w K mg base N qual scope f cd A outer s H E).nox.K = K := rfl
theorem cxOf_K : (cxOf CX P w K mg base N qual scope f cd A outer s H E).K = K := rfl
end
end U
namespace U
open PySem L2
section
variable {K : PySem.W.Frag} {M : Model} {A : Around} {E : Value → Shared → Prop} {s : Shared} {x C : Addr} {ox : Obj} {od : Option Obj} {name : Str} {id : String}
theorem boundB {args : List Value} {Q : Option Value → Shared → Prop} (kin : K.In s.heap) (I : PySem.W.InstAt s.heap x ox C od) (hs : PySem.W.findIn K (.ref C) name = some (some (.builtin id)))
    (hb : ∀ self, bindSpecial (.builtin id) self = pure (.builtin id, [self])) (go : wpAny M A (call (.builtin id) (.ref x :: args)) (fun v => Q (some v)) E s) : wpAny M A (callSpecialIfBound? (.ref x) name args) Q E s := by
  simp only [callSpecialIfBound?, bindSpecialIfBound?]
  refine wpAny_holding ?_
  refine wpAny_bind (wpAny_bind (wpAny_bind (I.type.here ((PySem.W.looks_findIn kin hs).here ?_))))
  simp only [hb]
  refine wpAny_bind (wpAny_askSetting (wpAny_ite ?_))
  have last : wpAny M A (call (.builtin id) ([.ref x] ++ args) >>= fun v => pure (some v)) Q E s := wpAny_bind (wpAny_mono go (fun _ _ q => wpAny_pure q) fun _ _ q => q)
  split
  · exact wpAny_bind (wpAny_pure (wpAny_pure last))
  · exact wpAny_tryCatch (wpAny_bind (wpAny_pure (wpAny_pure last)))
end
section
variable {prog : Program} {w : World} {A : Around} {E : Value → Shared → Prop} {s : Shared} {K : PySem.W.Frag} {x C f : Addr} {ox : Obj} {od : Option Obj} {b tb : Value}
/-- != of an instance whose class has its own == alone -/
theorem neOwn {Q : Value → Shared → Prop} (hu : A.units + 1 < cLine) (kin : K.In s.heap) (I : PySem.W.InstAt s.heap x ox C od)
    (hb : PySem.W.Looks (model prog w) s.heap (typeOf b) tb) (hn : PySem.W.notFirst K C tb = true)
    (hne : PySem.W.findIn K (.ref C) "__ne__" = some (some (.builtin "object.__ne__"))) (heq : PySem.W.findIn K (.ref C) "__eq__" = some (some (.ref f))) (hf : PySem.W.isFn K (.ref f) = true)
    (hm : PySem.W.mroIn K C (.type "object") = some true)
    (go : wpAny (model prog w) A.in1 (call (.ref f) [.ref x, b]) (fun v s' => ∃ c, v = .bool c ∧ Q (.bool (!c)) s') E s) : wpAny (model prog w) A (richCompare .NotEq (.ref x) b) Q E s := by
  have sub : PySem.W.Looks (model prog w) s.heap (isInstance (.ref x) (.type "object")) true := I.type.andThen (PySem.W.looks_mroIn kin hm)
  have SN := PySem.F.cmp_object.ne
  have body : wpAny (model prog w) A.in1 (Builtin.«object.__ne__» ⟨[.ref x, b], []⟩) (fun fin s' => match fin with
      | .done fl => wants (fun v s' => ∃ c, v = .bool c ∧ Q (.bool c) s') E (.ok fl) s'
      | .again c' => c'.quiet = true ∧ codeAny (model prog w) A c' (wants (fun v s' => ∃ c, v = .bool c ∧ Q (.bool c) s') E) s') (fun e s' => wants (fun v s' => ∃ c, v = .bool c ∧ Q (.bool c) s') E (.error e) s') s := by
    obtain ⟨hp, g, d, t, os⟩ := s
    unfold Builtin.«object.__ne__»
    have room : A.in1.units < cLine := hu
    repeat (first
      | with_reducible refine wpAny_cRoomFor room ?_
      | (refine wpAny_bind (m := callSpecialIfBound? (.ref x) (Str.ofString "__eq__") [b]) (PySem.W.ifBound_K kin I heq hf (wpAny_mono go (fun v s' hr => by
          obtain ⟨c, rfl, hq⟩ := hr
          repeat (first | exact ⟨_, rfl, hq⟩ | exact wpAny_pure ⟨_, rfl, hq⟩ | (refine wpAny_bind (m := truthy (.bool _)) (wpAny_truthy_bool ?_)) | wp_step)) fun _ _ e => e)))
      | wp_step)
  have one : wpAny (model prog w) A (tryCompare (.ref x) "__ne__" b) (fun r s' => ∃ v, r = some v ∧ Q v s') E s := by
    unfold tryCompare
    refine wpAny_bind (boundB kin I hne SN.bind (wpAny_mono (wpAny_call (codeAny_call_builtin SN.plain PySem.F.cmpEntry_ne (@PySem.W.check_slot (model prog w) _ _ s "object.__ne__" "object" "__ne__" (.ref x) [b] [] _ PySem.F.cmpKind_ne PySem.F.cmpSplit_ne sub (PySem.F.cmpArgs_ne (.ref x) b) body))) (fun v s' hv => ?_) fun _ _ e => e))
    obtain ⟨c, rfl, hq⟩ := hv
    exact wpAny_pure ⟨_, rfl, hq⟩
  unfold richCompare
  simp only [oneThing_ref]
  refine wpAny_holding (wpAny_bind (wpAny_cRoomFor (Nat.lt_of_succ_lt hu) ?_))
  refine wpAny_bind (I.type.here (wpAny_bind (hb.here ?_)))
  split
  · rename_i q
    have e : PySem.W.subIn K tb (.ref C) = some false := by
      rcases Bool.or_eq_true_iff.mp hn with z | z
      · rw [beq_iff_eq.mp z] at q
        simp at q
      · exact beq_iff_eq.mp z
    refine wpAny_bind ((PySem.W.looks_subIn kin e).here ?_)
    simp only [Bool.false_eq_true, if_false]
    refine wpAny_bind (wpAny_mono one (fun r s' z => ?_) fun _ _ z => z)
    obtain ⟨v, rfl, hq⟩ := z
    exact wpAny_pure hq
  · refine wpAny_bind (wpAny_pure ?_)
    simp only [Bool.false_eq_true, if_false]
    refine wpAny_bind (wpAny_mono one (fun r s' z => ?_) fun _ _ z => z)
    obtain ⟨v, rfl, hq⟩ := z
    exact wpAny_pure hq
end

/-! ## a method that can be called, by its class -/
structure CalM (P : Program) (w : World) (K : PySem.W.Frag) (mg : Str → Option Value) (base : Heap) (CX : CXT) (k : Nat) (C : Addr) (m : Str) (ps : List Str) (sp : Sp) : Prop where
  ex : ∃ (f : Addr) (fd : FuncData), PySem.W.findIn K (.ref C) m = some (some (.ref f)) ∧ PySem.W.isFn K (.ref f) = true ∧ Binds K fd ps [] ∧ FnOk P w K mg base CX k f fd ps sp
/-- what the written part says of a class with its own == -/
structure EqC (K : PySem.W.Frag) (C : Addr) : Prop where
  ne : PySem.W.findIn K (.ref C) "__ne__" = some (some (.builtin "object.__ne__"))
  ob : PySem.W.mroIn K C (.type "object") = some true
/-- x == y: the promise of the class's own def -/
def rOe (K : PySem.W.Frag) (C : Addr) (neg : Bool) (sp : Sp) : R2 := fun x y H Q => ∃ (a dx : Addr) (fs : List (Str × V)) (ty : Value), x = .ref a ∧ H a = some (.ins C dx fs) ∧ TyX K H y ty ∧ PySem.W.notFirst K C ty = true ∧
  sp [x, y] H (fun v H' => ∃ c, v = .bl c ∧ Q (.bl (c ^^ neg)) H') E0
section
variable {X : Cx} {CX : CXT} {k k0 : Nat} {C : Addr} {ps : List Str} {sp : Sp}
theorem callAt {f : Addr} {fd : FuncData} {pins : List (Addr × Obj)} {σ : St} {H : Hp} {s : Shared} {Q : VK} {us : List Value} {vs : List V} {A : Around} (F : FnOk X.prog X.w X.K X.mg X.base CX k f fd ps sp) (hr : Room k A) (ha : Env0 X.prog X.w X.K X.mg X.base A X.stack s H)
    (hb : Binds X.K fd ps []) (hx : Passes CX X E0) (I : Inv X pins σ H s) (r : Vals vs us) (h : sp vs H Q E0) : wpAny (model X.prog X.w) A (call (.ref f) us) (EP X pins σ Q) X.xe s := by
  have len : (us ++ []).length = ps.length := by
    rw [List.append_nil, ← r.length]
    exact F.len _ _ _ _ h
  have bd := hb s us I.kIn len
  rw [List.append_nil] at bd
  refine wpAny_call (codeAny_mono (F.run A X.stack s H ⟨us, []⟩ us vs Q E0 hr ha bd r h) fun res s' hq => ?_)
  cases res with
  | error e => exact hx pins σ H s e s' I hq
  | ok fl =>
    cases fl with
    | ret u => exact I.after hq
    | next => exact False.elim hq
    | brk => exact False.elim hq
    | cont => exact False.elim hq
theorem op_oe (G : CalM X.prog X.w X.K X.mg X.base CX k C "__eq__" ps sp) (hr : Room k0 X.A) (hx : Passes CX X E0) (hk : k ≤ k0 := by decide) : OpR X (compareOp .Eq) (rOe X.K C false sp) := by
  intro pins s σ H x y v u Q I rx ry h
  obtain ⟨a, dx, fs, ty, rfl, ha, hty, hn, q⟩ := h
  obtain ⟨f, fd, hs, hf, hb, F⟩ := G.ex
  cases (show v = Value.ref a from rx)
  obtain ⟨mA, J, _⟩ := ins_get I.hok ha
  obtain ⟨od, J, _⟩ := J.look
  obtain ⟨P, Z, p, _⟩ := kit_of I ry hty
  obtain ⟨m, hF⟩ := I.fr
  show wpAny (model X.prog X.w) X.A (richCompare .Eq _ u) (EP X pins σ Q) X.xe s
  refine PySem.W.cmp_K (op := .Eq) (tb := ty) (hr.mono hk).units0 hF I.ok.mod.kin J (Z.ty _ _ I.kIn p) hn hs hf ?_
  refine wpAny_mono (callAt F (hr.mono hk) I.env0 hb hx I (us := [.ref a, u]) (vs := [.ref a, y]) (.cons rfl (.cons ry .nil)) q) (fun w s' z => ?_) fun _ _ e => e
  obtain ⟨z', H', I', rz, c, rfl, qz⟩ := z
  cases (show w = Value.bool c from rz)
  exact ⟨.bl c, H', I', rfl, by rw [Bool.xor_false] at qz; exact qz⟩
theorem op_on (G : CalM X.prog X.w X.K X.mg X.base CX k C "__eq__" ps sp) (EC : EqC X.K C) (hr : Room k0 X.A) (hx : Passes CX X E0) (hk : k + 1 ≤ k0 := by decide) : OpR X (compareOp .NotEq) (rOe X.K C true sp) := by
  intro pins s σ H x y v u Q I rx ry h
  obtain ⟨a, dx, fs, ty, rfl, ha, hty, hn, q⟩ := h
  obtain ⟨f, fd, hs, hf, hb, F⟩ := G.ex
  cases (show v = Value.ref a from rx)
  obtain ⟨mA, J, _⟩ := ins_get I.hok ha
  obtain ⟨od, J, _⟩ := J.look
  obtain ⟨P, Z, p, _⟩ := kit_of I ry hty
  have hr1 : Room (k + 1) X.A := hr.mono hk
  have hu : X.A.units + 1 < cLine := by
    have z := hr1.un
    omega
  show wpAny (model X.prog X.w) X.A (richCompare .NotEq _ u) (EP X pins σ Q) X.xe s
  refine neOwn hu I.kIn J (Z.ty _ _ I.kIn p) hn EC.ne hs hf EC.ob ?_
  refine wpAny_mono (callAt F hr1.in1 I.env0.in1 hb hx I (us := [.ref a, u]) (vs := [.ref a, y]) (.cons rfl (.cons ry .nil)) q) (fun w s' z => ?_) fun _ _ e => e
  obtain ⟨z', H', I', rz, c, rfl, qz⟩ := z
  cases (show w = Value.bool c from rz)
  exact ⟨c, rfl, .bl (!c), H', I', rfl, by rw [Bool.xor_true] at qz; exact qz⟩
end
end U
namespace U
open PySem L2
abbrev arT : List Value := [.type "ArithmeticError", .type "Exception", .type "BaseException", .type "object"]
/-- what the written part says of an own class of errors under ArithmeticError -/
structure ArC (K : PySem.W.Frag) (C : Addr) : Prop where
  cls : ∃ (nm q : Str) (N : Addr) (bs bm : List Value) (sn : List Str) (sub : List Value) (ab : Bool) (col : Option Bool) (dd : Option Addr) (k0 k1 k2 k3 k5 : Option Value),
    K.lookup C = some (PySem.excClassObj nm q C N bs bm true sn sub ab col dd k0 k1 k2 k3 k5 "ArithmeticError.__new__") ∧ PySem.W.excTail arT bm = true
  sa : PySem.W.findIn K (.ref C) "__setattr__" = some (some (.builtin "object.__setattr__"))
  exC : PySem.W.subIn K (.ref C) (.type "BaseException") = some true
  tyC : PySem.W.typeIn K (.ref C) = some (.type "type")
  kC : PySem.W.keepIn K (.ref C) = true
section
variable {prog : Program} {w : World} {A : Around} {E : Value → Shared → Prop} {R : Result → Shared → Prop} {hp : Heap} {g : Array GenState} {d : Drawn} {t : Nat} {os : OsState} {K : PySem.W.Frag} {x C : Addr}
theorem ArC.over (T : ArC K C) : PySem.W.excOver K C arT = true := by
  obtain ⟨nm, q, N, bs, bm, sn, sub, ab, col, dd, k0, k1, k2, k3, k5, hC, hbm⟩ := T.cls
  unfold PySem.W.excOver PySem.W.clsIn
  rw [hC]
  show (C == C && PySem.W.excTail arT bm) = true
  rw [hbm, beq_self_eq_true]
  rfl
theorem ArC.clsIn (T : ArC K C) : ∃ cd, PySem.W.clsIn K C = some cd ∧ cd.hasDict = true := by
  obtain ⟨nm, q, N, bs, bm, sn, sub, ab, col, dd, k0, k1, k2, k3, k5, hC, hbm⟩ := T.cls
  exact ⟨_, by unfold PySem.W.clsIn; rw [hC] <;> rfl, rfl⟩
/-- the first field of an error that is being made -/
theorem arNew {name : Str} {tk : Tok} {v : Value} {fv : Array Value} (T : ArC K C) (kin : K.In hp) (hx : hp.get? x = some { cls := .ref C, data := .fields fv }) (ht : PySem.W.takerIn K C name = some none)
    (go : ∀ h' tk' dx, (∀ b o, b ≠ x → hp.get? b = some o → h'.get? b = some o) → hp.objs.size ≤ dx → dx ≠ x → h'.get? x = some { cls := .ref C, dict := some dx, data := .fields fv } →
      h'.Ns1 dx (fun y => if y = name then some v else none) → R (.ok (.ret .none)) ⟨h', g, d, tk', os⟩) :
    codeAny (model prog w) A (.call (.builtin "object.__setattr__") ⟨[.ref x, .str name tk, v], []⟩) R ⟨hp, g, d, t, os⟩ := by
  have I : PySem.W.InstAt hp x { cls := .ref C, data := .fields fv } C none := ⟨hx, rfl, rfl, trivial⟩
  have far : x ≠ hp.objs.size := Nat.ne_of_lt (Heap.lt_size hx)
  obtain ⟨cd, hcd, hh⟩ := T.clsIn
  have hcls : PySem.W.Looks (model prog w) hp (classData C) cd := PySem.W.looks_clsIn kin hcd
  refine PySem.W.osa_openX (s := ⟨hp, g, d, t, os⟩) PySem.F.store_ArithmeticError kin I T.over ht (fun b => ?_)
  obtain ⟨nm, bs, mro, ns, qn, hd, sn, sb, ab, col, del⟩ := cd
  dsimp only at hh
  subst hh
  show wpAny _ _ (Builtin.ObjectAttr.storeInOwnDict (.ref x) (.ref C) (.str name tk) name v b) _ _ _
  unfold Builtin.ObjectAttr.storeInOwnDict Builtin.ObjectAttr.ownDictForStores
  repeat (first | with_reducible refine PySem.HandSPX.store_in_new ?_ ?_ | with_reducible refine wpAny_loadPart_at hx ?_ | with_reducible refine hcls.at ?_ | wp_step)
  · exact ⟨_, #[], _, (Heap.get?_update_ne _ _ _ _ far.symm).trans (Heap.get?_push_at rfl rfl), rfl, fun e he => absurd he (by simp), fun _ => rfl⟩
  · intro h' tk' hn' hs
    have hx1 : (hp.push { cls := .type "dict", data := .dict #[] }).get? x = some { cls := .ref C, data := .fields fv } := Heap.get?_push_of_some _ hx
    refine go h' tk' hp.objs.size (fun b o hb ho => ?_) (Nat.le_refl _) far.symm ?_ hn'
    · exact (hs.2 b (Nat.ne_of_lt (Heap.lt_size ho))).trans ((Heap.get?_update_ne _ _ _ _ hb).trans (Heap.get?_push_of_some _ ho))
    · exact (hs.2 x far).trans (Heap.get?_update_self _ hx1 rfl)
/-- a further one -/
theorem arOld {name : Str} {tk : Tok} {v : Value} {dx : Addr} {fv : Array Value} {m0 : Str → Option Value} {nl : List Str} (T : ArC K C) (kin : K.In hp) (hx : hp.get? x = some { cls := .ref C, dict := some dx, data := .fields fv }) (hns : hp.Ns1 dx m0)
    (hw : Within m0 nl) (hz : nl.length ≤ 1000) (ht : PySem.W.takerIn K C name = some none)
    (go : ∀ h' tk', (∀ b o, b ≠ dx → hp.get? b = some o → h'.get? b = some o) → h'.Ns1 dx (fun y => if y = name then some v else m0 y) → R (.ok (.ret .none)) ⟨h', g, d, tk', os⟩) :
    codeAny (model prog w) A (.call (.builtin "object.__setattr__") ⟨[.ref x, .str name tk, v], []⟩) R ⟨hp, g, d, t, os⟩ := by
  obtain ⟨oD, esD, epD, hoD, hdD, _⟩ := hns.count hw
  have I : PySem.W.InstAt hp x { cls := .ref C, dict := some dx, data := .fields fv } C (some oD) := ⟨hx, rfl, rfl, hoD⟩
  obtain ⟨cd, hcd, hh⟩ := T.clsIn
  have hcls : PySem.W.Looks (model prog w) hp (classData C) cd := PySem.W.looks_clsIn kin hcd
  refine PySem.W.osa_openX (s := ⟨hp, g, d, t, os⟩) PySem.F.store_ArithmeticError kin I T.over ht (fun b => ?_)
  obtain ⟨nm, bs, mro, ns, qn, hd, sn, sb, ab, col, del⟩ := cd
  dsimp only at hh
  subst hh
  show wpAny _ _ (Builtin.ObjectAttr.storeInOwnDict (.ref x) (.ref C) (.str name tk) name v b) _ _ _
  unfold Builtin.ObjectAttr.storeInOwnDict Builtin.ObjectAttr.ownDictForStores
  repeat (first | with_reducible refine PySem.OEX.store_in_old hns hw hz ?_ | with_reducible refine wpAny_loadPart_at hx ?_ | with_reducible refine hcls.at ?_ | wp_step)
  intro h' tk' hn' hs
  exact go h' tk' (fun b o hb ho => (hs.2 b hb).trans ho) hn'
end

section
variable {X : Cx} {pins : List (Addr × Obj)} {σ : St} {H : Hp} {s : Shared} {a C dx : Addr} {f : Str} {y : V} {u : Value} {fs : List (Str × V)} {Q : Unit → Shared → Prop} {E : Value → Shared → Prop} {A : Around}
theorem arSet1 (T : ArC X.K C) (I : Inv X pins σ H s) (e : H a = some (exo a C none)) (ht : PySem.W.takerIn X.K C f = some none) (ry : RelV y u)
    (go : ∀ dx s', H dx = none → dx ≠ a → Inv X pins σ (upd (upd H dx (exd dx [(f, y)])) a (exo a C (some dx))) s' → Q () s') : wpAny (model X.prog X.w) A (setAttr (.ref a) f u) Q E s := by
  obtain ⟨t0, ob⟩ := exo_at I.hok e
  obtain ⟨hp, g, d, t, os⟩ := s
  have J : PySem.W.InstAt hp a { cls := .ref C, dict := none, data := .fields #[.ref t0, .none, .none, .none, .bool false, .none] } C none := ⟨ob, rfl, rfl, trivial⟩
  refine PySem.W.set_plain I.kIn J T.sa ?_
  refine arNew T I.kIn ob ht (fun h' tk' dx kept big ne at_ ns => ?_)
  have fresh : H dx = none := I.hok.fresh big
  have old : ∀ {b : Addr} {o : Obj}, hp.get? b = some o → b ≠ dx := fun {b o} q => Nat.ne_of_lt (Nat.lt_of_lt_of_le (Heap.lt_size q) big)
  have nota : ∀ {b : Addr}, H b = none → b ≠ a := fun {b} n z => by
    subst z
    rw [e] at n
    cases n
  have U1 : Un X.fs [] H (upd (upd H dx (exd dx [(f, y)])) a (exo a C (some dx))) hp h' := by
    constructor
    · exact fun b o q n _ _ => kept b o (nota n) q
    · exact fun b o q n _ _ => ⟨o.slots, kept b o (nota n) q⟩
    · intro b o q n _
      rw [upd_ne (nota n), upd_ne (old q)]
      exact n
    · intro b o q _
      by_cases z : b = a
      · subst z
        exact ⟨_, at_⟩
      · exact ⟨o, kept b o z q⟩
    · intro b xs q
      rw [upd_ne (at_ne e q exo_tup), upd_ne (ne_of_none q fresh)]
      exact q
    · intro b o v q
      rw [upd_ne (at_ne e q exo_frz), upd_ne (ne_of_none q fresh)]
      exact q
    · intro b ps q
      refine ⟨#[], ?_⟩
      rw [upd_ne (at_ne e q exo_tbl), upd_ne (ne_of_none q fresh), q]
      simp
  refine go dx _ fresh ne (I.un (t' := tk') U1 fun b o q => ?_)
  by_cases hb : b = a
  · subst hb
    rw [upd_same] at q
    cases q
    exact exo_ok at_
  rw [upd_ne hb] at q
  by_cases hd : b = dx
  · subst hd
    rw [upd_same] at q
    cases q
    exact exd_ok ns (relO_put (fs := []) ry fun _ => True.intro)
  rw [upd_ne hd] at q
  refine (I.hok b o q).stay (fun c v hc z => kept c v ?_ z) (fun c hc => ?_) (fun c xs hc => ?_)
  · rcases hc with hc | hc
    · rw [hc]
      exact hb
    · exact at_ne e hc exo_own
  · rw [upd_ne (at_ne e hc exo_own), upd_ne (ne_of_none hc fresh)]
    exact hc
  · rw [upd_ne (at_ne e hc exo_tup), upd_ne (ne_of_none hc fresh)]
    exact hc
theorem arSet2 (T : ArC X.K C) (I : Inv X pins σ H s) (e : H a = some (exo a C (some dx))) (ed : H dx = some (exd dx fs)) (few : fs.length ≤ 900) (ht : PySem.W.takerIn X.K C f = some none) (ry : RelV y u)
    (go : ∀ s', Inv X pins σ (upd H dx (exd dx ((f, y) :: fs))) s' → Q () s') : wpAny (model X.prog X.w) A (setAttr (.ref a) f u) Q E s := by
  obtain ⟨t0, ob⟩ := exo_at I.hok e
  obtain ⟨mA, hns, rel⟩ := exd_at I.hok ed
  have hw := within_of rel
  obtain ⟨hp, g, d, t, os⟩ := s
  obtain ⟨oD, _, _, hoD, _, _⟩ := hns.count hw
  have J : PySem.W.InstAt hp a { cls := .ref C, dict := some dx, data := .fields #[.ref t0, .none, .none, .none, .bool false, .none] } C (some oD) := ⟨ob, rfl, rfl, hoD⟩
  refine PySem.W.set_plain I.kIn J T.sa ?_
  refine arOld T I.kIn ob hns hw ?_ ht (fun h' tk' kept ns => ?_)
  · rw [List.length_map]
    omega
  have there : ∃ o, h'.get? dx = some o := by
    obtain ⟨o, _, _, z, _⟩ := ns
    exact ⟨o, z⟩
  have mu : Mut (H dx) := by
    rw [ed]
    exact True.intro
  exact go _ (I.write (t' := tk') (x := dx) (e := dx) (o := exd dx ((f, y) :: fs)) mu (.inl rfl) kept there (exd_ok ns (relO_put ry rel)))
end
/-- self.f = e on an error in the making -/
def tArS (K : PySem.W.Frag) (f : Str) (to te : TE) : TS := fun D σ H => te σ H fun y H1 => to σ H1 fun x H2 => ∃ a C : Addr, x = .ref a ∧ ArC K C ∧ PySem.W.takerIn K C f = some none ∧
  ((H2 a = some (exo a C none) ∧ ∀ dx, H2 dx = none → dx ≠ a → D.nx σ (upd (upd H2 dx (exd dx [(f, y)])) a (exo a C (some dx)))) ∨
    ∃ (dx : Addr) (fs : List (Str × V)), H2 a = some (exo a C (some dx)) ∧ H2 dx = some (exd dx fs) ∧ fs.length ≤ 900 ∧ D.nx σ (upd H2 dx (exd dx ((f, y) :: fs))))
theorem l_mko {C : Addr} {sp : Sp} {dvs : List V} {ta : TA} {σ : St} {H : Hp} {Q : XK} (h : ta σ H fun vs H1 => vs.length ≤ 1000 ∧ ∀ a, H1 a = none → sp (.ref a :: (vs ++ dvs)) (upd H1 a (exo a C none))
  (fun v H2 => v = .non ∧ ∃ (d : Addr) (fs : List (Str × V)), H2 a = some (exo a C (some d)) ∧ H2 d = some (exd d fs) ∧ H1 d = none ∧ Q (.ref C) (some d) (upd (del H2 a) d (.xd fs))) (fun _ _ _ => False)) : tMkO C sp dvs ta σ H Q := h
theorem l_arS {K : PySem.W.Frag} {f : Str} {to te : TE} {D : Ends} {σ : St} {H : Hp} (h : te σ H fun y H1 => to σ H1 fun x H2 => ∃ a C : Addr, x = .ref a ∧ ArC K C ∧ PySem.W.takerIn K C f = some none ∧
  ((H2 a = some (exo a C none) ∧ ∀ dx, H2 dx = none → dx ≠ a → D.nx σ (upd (upd H2 dx (exd dx [(f, y)])) a (exo a C (some dx)))) ∨
    ∃ (dx : Addr) (fs : List (Str × V)), H2 a = some (exo a C (some dx)) ∧ H2 dx = some (exd dx fs) ∧ fs.length ≤ 900 ∧ D.nx σ (upd H2 dx (exd dx ((f, y) :: fs))))) : tArS K f to te D σ H := h
/-- a class of errors that can be made: its own __init__ keeps sp -/
structure CalX (P : Program) (w : World) (K : PySem.W.Frag) (mg : Str → Option Value) (base : Heap) (k : Nat) (x : Str) (C : Addr) (ps : List Str) (sp : Sp) : Prop where
  ar : ArC K C
  at_ : mg x = some (.ref C)
  ex : ∃ (fI : Addr) (fd : FuncData), PySem.W.findIn K (.ref C) "__init__" = some (some (.ref fI)) ∧ PySem.W.typeIn K (.ref fI) = some (.type "function") ∧ Binds K fd ps [] ∧ FnOk P w K mg base CX0 k fI fd ps sp
section
variable {X : Cx} {o e : Expr} {es : List Expr} {to te : TE} {ta : TA} {f : Str} {p p' p1 p2 pos : Pos}
theorem ps_arS (ho : PE X o to) (he : PE X e te) (hs : swapsWith e (some (.Attribute o f p')) pos.line X.env = pure false := by rfl) : PS X (.Assign [.Attribute o f p'] e pos) (tArS X.K f to te) := by
  refine ⟨fun pins s σ H D I h => plainObj_wpAny_Assign_Attribute ?_ hs⟩
  refine thn (he.run pins s σ H _ I h) fun v s1 ⟨y, H1, I1, r1, q1⟩ => ?_
  refine thn (ho.run pins s1 σ H1 _ I1 q1) fun u s2 ⟨x, H2, I2, r2, a, C, ex, T, ht, q⟩ => ?_
  subst ex
  cases (show u = Value.ref a from r2)
  rcases q with ⟨ea, q⟩ | ⟨dx, fs, ea, ed, hl, q⟩
  · exact arSet1 T I2 ea ht r1 fun dx s' n ne J => ⟨σ, _, J, q dx n ne⟩
  · exact arSet2 T I2 ea ed hl ht r1 fun s' J => ⟨σ, _, J, q⟩
theorem pmk_ar {x : Str} {C : Addr} {k k0 : Nat} {ps : List Str} {sp : Sp} (G : CalX X.prog X.w X.K X.mg X.base k x C ps sp) (hr : Room k0 X.A) (ha : PA X (e :: es) ta) (hk : k + 1 ≤ k0 := by decide) (hg : Gl X x := by rfl)
    (hdb : (x == ("__debug__" : Str)) = false := by decide) (he : starEach (e :: es) X.env = (false, eval e X.env) :: starEach es X.env := by rfl) (hpl : (backTo pos (starEach es X.env)).any (·.1) = false := by rfl) :
    PMk X (.Call (.Name x p) (e :: es) [] pos) (tMkO C sp [] ta) := by
  intro pins s σ H Q I h
  obtain ⟨T, hm, fI, fd, iC, tI, hb, F1⟩ := G
  have hr1 : Room (k + 1) X.A := hr.mono hk
  obtain ⟨nm, q, N, bs, bm, sn, sub, ab, col, dd, k0, k1, k2, k3, k5, hC, hbm⟩ := T.cls
  refine wpAny_Call_Name_kw (ld_glob I hg hm ?_ hdb)
  refine PySem.W.callWith_K (h₀ := X.base) I.ok.mod.kin T.kC (thn (ha.run pos pins s σ H _ I h) fun us s1 ⟨vs, H1, I1, r1, hz, q1⟩ => ⟨I1.kIn, ?_⟩) he hpl
  show wpAny _ _ (call (.ref C) us) _ _ _
  obtain ⟨hp, g, dr, tk, os⟩ := s1
  have big : hp.objs.size ≤ hp.objs.size + 1 := Nat.le_succ _
  have hn : H1 (hp.objs.size + 1) = none := I1.hok.fresh big
  have hq := q1 (hp.objs.size + 1) hn
  rw [List.append_nil] at hq
  have kk : ∀ b o, hp.get? b = some o → ((hp.push (PySem.W.kdv_tup us)).push (PySem.HandSPX.excO C hp.objs.size)).get? b = some o := fun b o z => Heap.get?_push_of_some _ (Heap.get?_push_of_some _ z)
  have at1 : ((hp.push (PySem.W.kdv_tup us)).push (PySem.HandSPX.excO C hp.objs.size)).get? (hp.objs.size + 1) = some (PySem.HandSPX.excO C hp.objs.size) := by heap_get
  have I2 := I1.laid (t' := tk) (a := hp.objs.size + 1) (o := exo (hp.objs.size + 1) C none) (h' := (hp.push (PySem.W.kdv_tup us)).push (PySem.HandSPX.excO C hp.objs.size)) kk big (exo_ok at1)
  have r2 : Vals (V.ref (hp.objs.size + 1) :: vs) (Value.ref (hp.objs.size + 1) :: us) := .cons rfl r1
  have hl : (Value.ref (hp.objs.size + 1) :: us ++ []).length = ps.length := by
    rw [List.append_nil, ← r2.length]
    exact F1.len _ _ _ _ hq
  have hus : us.length ≤ sizeLine := by
    rw [← Paired.length r1, sizeLine_eq]
    omega
  have bd := hb _ (Value.ref (hp.objs.size + 1) :: us) I2.kIn hl
  rw [List.append_nil] at bd
  refine wpAny_call (PySem.HandSPX.call_own PySem.F.excBase_ArithmeticError (fun Y => PySem.W.excTail_contains Y bm hbm) (I1.kIn _ _ hC) (PySem.W.looks_findIn I1.kIn iC) (fun self => PySem.W.bind_fn I1.kIn self tI) hus ?_)
  refine codeAny_mono (F1.run _ X.stack _ _ ⟨Value.ref (hp.objs.size + 1) :: us, []⟩ (Value.ref (hp.objs.size + 1) :: us) _ _ (fun _ _ _ => False) (hr1.make C us []) (I2.env0.make C us []) bd r2 hq) fun res s' z => ?_
  cases res with
  | error er => exact False.elim z
  | ok fl =>
    cases fl with
    | ret u =>
      obtain ⟨v, H2, os2, bare2, un2, hok2, rv, ev, d, fs, ea, ed, hd1, q2⟩ := z
      subst ev
      obtain ⟨h2, g2, d2, t2, os'⟩ := s'
      exact ⟨rv, mk_end (raises_own T.exC T.tyC) I1 big kk un2 hok2 os2 bare2 ea ed hd1 q2⟩
    | next => exact False.elim z
    | brk => exact False.elim z
    | cont => exact False.elim z
end

/-- what such an __init__ with one field promises -/
def spAr1 (K : PySem.W.Frag) (f : Str) : Sp := fun vs H Q _ => ∃ (a C : Addr) (v : V), vs = [.ref a, v] ∧ ArC K C ∧ PySem.W.takerIn K C f = some none ∧ H a = some (exo a C none) ∧
  ∀ d, H d = none → d ≠ a → Q .non (upd (upd H d (exd d [(f, v)])) a (exo a C (some d)))
theorem arMade {K : PySem.W.Frag} {C : Addr} {f : Str} {v : V} {H1 : Hp} {W : XK} (T : ArC K C) (ht : PySem.W.takerIn K C f = some none)
    (go : ∀ d G, H1 d = none → Same H1 G → G d = some (.xd [(f, v)]) → W (.ref C) (some d) G) :
    ([v] : List V).length ≤ 1000 ∧ ∀ a, H1 a = none → spAr1 K f (.ref a :: ([v] ++ [])) (upd H1 a (exo a C none))
      (fun u H2 => u = .non ∧ ∃ (d : Addr) (fs : List (Str × V)), H2 a = some (exo a C (some d)) ∧ H2 d = some (exd d fs) ∧ H1 d = none ∧ W (.ref C) (some d) (upd (del H2 a) d (.xd fs))) (fun _ _ _ => False) := by
  refine ⟨by show 1 ≤ 1000; decide, fun a ha => ⟨a, C, v, rfl, T, ht, upd_same, fun d hd ne => ⟨rfl, d, [(f, v)], upd_same, ?_, ?_, ?_⟩⟩⟩
  · rw [upd_ne ne, upd_same]
  · rw [upd_ne ne] at hd
    exact hd
  · rw [upd_ne ne] at hd
    refine go d _ hd (fun b o e => ?_) upd_same
    have nd : b ≠ d := ne_of_none e hd
    have na : b ≠ a := ne_of_none e ha
    rw [upd_ne nd, del_ne na, upd_ne na, upd_ne nd, upd_ne na]
    exact e
end U
namespace U
open PySem PySem.Spec PyProof.Rows L2
/-! ## list + list where one may be given by the caller -/
def rCatL (K : PySem.W.Frag) : R2 := fun x y H Q => ∃ l b xs zs, x = .ref l ∧ y = .ref b ∧ SqL K H l xs ∧ SqL K H b zs ∧ xs.length + zs.length ≤ sizeLine ∧ ∀ p, H p = none → Q (.ref p) (upd H p (.lst (xs ++ zs)))
theorem op_catL {X : Cx} : OpR X (binaryOp .Add) (rCatL X.K) := by
  intro pins s σ H x y v u Q I rx ry h
  obtain ⟨l, b, xs, zs, rfl, rfl, hH, hB, hz, q⟩ := h
  cases rx
  cases ry
  obtain ⟨its, r1, ⟨⟨cls, dd, data, sl⟩, n, ho, hc, hdd, hd⟩, _⟩ := I.list hH
  obtain ⟨its2, r2, ⟨⟨cls2, dd2, data2, sl2⟩, n2, ho2, hc2, hdd2, hd2⟩, _⟩ := I.list hB
  simp only at hc hd hc2 hd2
  subst hc hd hc2 hd2
  have e1 := r1.length
  have e2 := r2.length
  have ea : its.toArray ++ its2.toArray = (its ++ its2).toArray := by simp
  refine concat_meets ⟨_, ho, rfl⟩ ⟨_, ho2, rfl⟩ noFill_list_add seq_list_add PySem.F.slot_list_add PySem.F.entry_list_add (PySem.F.args_list_add_2 _ _) (list_addW l b its.toArray its2.toArray n n2 dd dd2 sl sl2 (by simp only [List.size_toArray]; omega)) ⟨ho, ho2, ?_⟩
  rw [ea]
  exact ⟨.ref _, _, I.lnew (t' := s.toks) (r1.append r2) (by rw [List.length_append]; omega), rfl, q _ I.fresh⟩
theorem sameS {K : PySem.W.Frag} {H H' : Hp} {a : Addr} {xs : List V} (e : Same H H') (h : SqL K H a xs) : SqL K H' a xs := by
  rcases h with (h | ⟨o, h⟩) | h
  · exact .inl (.inl (e _ _ h))
  · exact .inl (.inr ⟨o, e _ _ h⟩)
  · exact .inr h
theorem l_catL {K : PySem.W.Frag} {l b : Addr} {H : Hp} {xs zs : List V} {Q : VK} (h1 : SqL K H l xs) (h2 : SqL K H b zs) (hl : xs.length + zs.length ≤ sizeLine) (q : ∀ p H2, H p = none → Same H H2 → H2 p = some (.lst (xs ++ zs)) → Q (.ref p) H2) : rCatL K (.ref l) (.ref b) H Q :=
  ⟨l, b, xs, zs, rfl, rfl, h1, h2, hl, fun p hn => q p _ hn (sameUpd hn) upd_same⟩
/-! ## isinstance and an own class -/
theorem kit_self {K : PySem.W.Frag} {C : Addr} : PySem.W.kitOne K (.ref C) (.ref C) = some true := by
  unfold PySem.W.kitOne
  rw [if_pos (beq_self_eq_true _)]
theorem kit_oT {K : PySem.W.Frag} {C : Addr} {T : String} {b : Bool} (m : PySem.W.kitMeta T = true) (h : PySem.W.subIn K (.ref C) (.type T) = some b) : PySem.W.kitOne K (.ref C) (.type T) = some b := by
  show (if (Value.ref C == Value.type T) = true then some true else if PySem.W.kitMeta T = true then PySem.W.subIn K (.ref C) (.type T) else none) = some b
  have ne : ¬ (Value.ref C == Value.type T) = true := fun z => by cases (beq_iff_eq.mp z)
  rw [if_neg ne, if_pos m]
  exact h
theorem kit_tO {K : PySem.W.Frag} {C : Addr} {T : String} {b : Bool} (hd : PySem.W.hasDictIn K C = true) (ty : PySem.W.typeIn K (.ref C) = some (.type "type")) (h : PySem.W.subIn K (.type T) (.ref C) = some b) : PySem.W.kitOne K (.type T) (.ref C) = some b := by
  obtain ⟨cd, hc, _⟩ := PySem.W.any_some hd
  have e2 : ((PySem.W.clsIn K C).isSome && PySem.W.typeIn K (.ref C) == some (.type "type")) = true := by rw [hc, ty] <;> rfl
  show (if (Value.type T == Value.ref C) = true then some true else if ((PySem.W.clsIn K C).isSome && PySem.W.typeIn K (.ref C) == some (.type "type")) = true then PySem.W.subIn K (.type T) (.ref C) else none) = some b
  have ne : ¬ (Value.type T == Value.ref C) = true := fun z => by cases (beq_iff_eq.mp z)
  rw [if_neg ne, if_pos e2]
  exact h
end U
namespace U
open PySem L2
theorem pe_gi {X : Cx} {x : Str} {pos : Pos} {i : Int} (h : ∃ t, X.mg x = some (.int i t)) (hg : Gl X x := by rfl) (hd : (x == ("__debug__" : Str)) = false := by decide) : PE X (.Name x pos) (tC (.int i)) := by
  obtain ⟨t, h⟩ := h
  exact pe_glob hg h ⟨_, rfl⟩ hd

/-! ## floats as objects -/
/-- what the written part says of the class Float, at C -/
structure FloC (K : PySem.W.Frag) (C : Addr) : Prop where
  cl : Cls K C
  eqc : EqC K C
  nS : NoAttr K C "sign"
  nT : NoAttr K C "top"
  nP : NoAttr K C "power"
  ha : PySem.W.findIn K (.ref C) "__class__" = some (some (.builtin "object.__class__"))
  hn : PySem.W.specialIn K (.builtin "object.__class__") "__get__" = some (some (.builtin "getset_descriptor.__get__"))
  ht : PySem.W.takesIn K (.builtin "object.__class__") = some true
  kF : PySem.W.kitOne K (.ref C) (.ref C) = some true
  kI : PySem.W.kitOne K (.ref C) (.type "int") = some false
  kB : PySem.W.kitOne K (.ref C) (.type "bool") = some false
  kS : PySem.W.kitOne K (.ref C) (.type "str") = some false
  jI : PySem.W.kitOne K (.type "int") (.ref C) = some false
  jB : PySem.W.kitOne K (.type "bool") (.ref C) = some false
  jS : PySem.W.kitOne K (.type "str") (.ref C) = some false
  jN : PySem.W.kitOne K (.type "NoneType") (.ref C) = some false
  jL : PySem.W.kitOne K (.type "list") (.ref C) = some false
  jT : PySem.W.kitOne K (.type "tuple") (.ref C) = some false
  jD : PySem.W.kitOne K (.type "dict") (.ref C) = some false
  fF : PySem.W.notFirst K C (.ref C) = true
  fI : PySem.W.notFirst K C (.type "int") = true
  fB : PySem.W.notFirst K C (.type "bool") = true
  fS : PySem.W.notFirst K C (.type "str") = true
  fN : PySem.W.notFirst K C (.type "NoneType") = true
  fL : PySem.W.notFirst K C (.type "list") = true
  fT : PySem.W.notFirst K C (.type "tuple") = true
def ffs (s : Int) (t : V) (p : Int) : List (Str × V) := [("sign", .int s), ("top", t), ("power", .int p)]
/-- at x a Float with these parts -/
def Flt (C : Addr) (H : Hp) (x : Addr) (s : Int) (t : V) (p : Int) : Prop := ∃ dx, H x = some (.ins C dx (ffs s t p))
theorem Flt.same {C : Addr} {H H' : Hp} {x : Addr} {s : Int} {t : V} {p : Int} (h : Flt C H x s t p) (e : Same H H') : Flt C H' x s t p := by
  obtain ⟨dx, h⟩ := h
  exact ⟨dx, e _ _ h⟩
theorem ffs_sign {s : Int} {t : V} {p : Int} : (ffs s t p).lookup ("sign" : Str) = some (.int s) := by with_unfolding_all rfl
theorem ffs_top {s : Int} {t : V} {p : Int} : (ffs s t p).lookup ("top" : Str) = some t := by with_unfolding_all rfl
theorem ffs_power {s : Int} {t : V} {p : Int} : (ffs s t p).lookup ("power" : Str) = some (.int p) := by with_unfolding_all rfl
theorem ffs_put {s : Int} {t : V} {p : Int} : putF "power" (.int p) (putF "top" t (putF "sign" (.int s) [])) = ffs s t p := by with_unfolding_all rfl

/-! ## what sort of thing a value is -/
inductive Ak where
  | int (i : Int) | str (s : Str) | oth
  deriving DecidableEq
def IsA (K : PySem.W.Frag) (H : Hp) (v : V) : Ak → Prop
  | .int i => v = .int i
  | .str s => v = .str s
  | .oth => ∃ ty b1 b2, TyX K H v ty ∧ PySem.W.kitOne K ty (.type "int") = some b1 ∧ PySem.W.kitOne K ty (.type "bool") = some b2 ∧ (b1 && !b2) = false ∧ PySem.W.kitOne K ty (.type "str") = some false
section
variable {K : PySem.W.Frag} {H H' : Hp} {v : V} {ty : Value} {a : Ak}
theorem tyOf_same (e : Same H H') (h : TyOf K H v ty) : TyOf K H' v ty := by
  cases h with
  | non => exact .non
  | bl x => exact .bl x
  | int i => exact .int i
  | str x => exact .str x
  | flt x => exact .flt x
  | lst q => exact .lst (e _ _ q)
  | frz q => exact .frz (e _ _ q)
  | tup q => exact .tup (e _ _ q)
  | dK q => exact .dK (e _ _ q)
  | dT q => exact .dT (e _ _ q)
  | ins q cl ha hn ht hm => exact .ins (e _ _ q) cl ha hn ht hm
theorem tyX_same (e : Same H H') (h : TyX K H v ty) : TyX K H' v ty := by
  cases h with
  | base q => exact .base (tyOf_same e q)
  | byt b => exact .byt b
  | set q => exact .set (e _ _ q)
  | kList q c => exact .kList q c
  | kTuple q c => exact .kTuple q c
  | kDict q c => exact .kDict q c
  | fTuple q => exact .fTuple (e _ _ q)
  | fDict q => exact .fDict (e _ _ q)
theorem IsA.same (e : Same H H') (h : IsA K H v a) : IsA K H' v a := by
  cases a with
  | int i => exact h
  | str s => exact h
  | oth =>
    obtain ⟨ty, b1, b2, x, r⟩ := h
    exact ⟨ty, b1, b2, tyX_same e x, r⟩
def Ak.isI : Ak → Bool
  | .int _ => true
  | _ => false
def Ak.isS : Ak → Bool
  | .str _ => true
  | _ => false
/-- isinstance(v, int) and not isinstance(v, bool) -/
theorem IsA.asI (h : IsA K H v a) : ∃ ty b1 b2, TyX K H v ty ∧ PySem.W.kitOne K ty (.type "int") = some b1 ∧ PySem.W.kitOne K ty (.type "bool") = some b2 ∧ (b1 && !b2) = a.isI := by
  cases a with
  | int i =>
    cases (show v = .int i from h)
    exact ⟨_, true, false, .base (.int i), kit_ty (by decide +kernel), kit_ty (by decide +kernel), rfl⟩
  | str s =>
    cases (show v = .str s from h)
    exact ⟨_, false, false, .base (.str s), kit_ty (by decide +kernel), kit_ty (by decide +kernel), rfl⟩
  | oth =>
    obtain ⟨ty, b1, b2, x, h1, h2, h3, _⟩ := h
    exact ⟨ty, b1, b2, x, h1, h2, h3⟩
theorem IsA.asS (h : IsA K H v a) : ∃ ty, TyX K H v ty ∧ PySem.W.kitOne K ty (.type "str") = some a.isS := by
  cases a with
  | int i =>
    cases (show v = .int i from h)
    exact ⟨.type "int", .base (.int i), (show PySem.W.kitOne K (.type "int") (.type "str") = some false from kit_ty (by decide +kernel))⟩
  | str s =>
    cases (show v = .str s from h)
    exact ⟨.type "str", .base (.str s), (show PySem.W.kitOne K (.type "str") (.type "str") = some true from kit_ty (by decide +kernel))⟩
  | oth =>
    obtain ⟨ty, b1, b2, x, _, _, _, h⟩ := h
    exact ⟨ty, x, h⟩
theorem isA_int {i : Int} : IsA K H (.int i) (.int i) := rfl
theorem isA_str {z : Str} : IsA K H (.str z) (.str z) := rfl
theorem isA_non : IsA K H .non .oth := ⟨_, false, false, .base .non, kit_ty (by decide +kernel), kit_ty (by decide +kernel), rfl, kit_ty (by decide +kernel)⟩
theorem isA_bl {b : Bool} : IsA K H (.bl b) .oth := ⟨_, true, true, .base (.bl b), kit_ty (by decide +kernel), kit_ty (by decide +kernel), rfl, kit_ty (by decide +kernel)⟩
theorem isA_lst {p : Addr} {xs : List V} (h : H p = some (.lst xs)) : IsA K H (.ref p) .oth := ⟨_, false, false, .base (.lst h), kit_ty (by decide +kernel), kit_ty (by decide +kernel), rfl, kit_ty (by decide +kernel)⟩
theorem isA_tup {p : Addr} {xs : List V} (h : H p = some (.tup xs)) : IsA K H (.ref p) .oth := ⟨_, false, false, .base (.tup h), kit_ty (by decide +kernel), kit_ty (by decide +kernel), rfl, kit_ty (by decide +kernel)⟩
theorem isA_dK {p : Addr} {xs : List (Key × V)} (h : H p = some (.dK xs)) : IsA K H (.ref p) .oth := ⟨_, false, false, .base (.dK h), kit_ty (by decide +kernel), kit_ty (by decide +kernel), rfl, kit_ty (by decide +kernel)⟩
theorem FloC.isA {C : Addr} {x : Addr} {s p : Int} {t : V} (F : FloC K C) (h : Flt C H x s t p) : IsA K H (.ref x) .oth := by
  obtain ⟨dx, h⟩ := h
  exact ⟨.ref C, false, false, .base (.ins h F.cl F.ha F.hn F.ht F.eqc.ob), F.kI, F.kB, rfl, F.kS⟩
theorem FloC.tyX {C : Addr} {x : Addr} {s p : Int} {t : V} (F : FloC K C) (h : Flt C H x s t p) : TyX K H (.ref x) (.ref C) := by
  obtain ⟨dx, h⟩ := h
  exact .base (.ins h F.cl F.ha F.hn F.ht F.eqc.ob)
end
section
variable {K : PySem.W.Frag} {C : Addr} {H : Hp} {x : Addr} {s p : Int} {t : V} {M : V → Prop}
theorem l_fS (F : FloC K C) (h : Flt C H x s t p) (q : M (.int s)) : ∃ a C dx fs v, V.ref x = .ref a ∧ H a = some (.ins C dx fs) ∧ Cls K C ∧ NoAttr K C "sign" ∧ fs.lookup ("sign" : Str) = some v ∧ M v := by
  obtain ⟨dx, h⟩ := h
  exact ⟨x, C, dx, _, _, rfl, h, F.cl, F.nS, ffs_sign, q⟩
theorem l_fT (F : FloC K C) (h : Flt C H x s t p) (q : M t) : ∃ a C dx fs v, V.ref x = .ref a ∧ H a = some (.ins C dx fs) ∧ Cls K C ∧ NoAttr K C "top" ∧ fs.lookup ("top" : Str) = some v ∧ M v := by
  obtain ⟨dx, h⟩ := h
  exact ⟨x, C, dx, _, _, rfl, h, F.cl, F.nT, ffs_top, q⟩
theorem l_fP (F : FloC K C) (h : Flt C H x s t p) (q : M (.int p)) : ∃ a C dx fs v, V.ref x = .ref a ∧ H a = some (.ins C dx fs) ∧ Cls K C ∧ NoAttr K C "power" ∧ fs.lookup ("power" : Str) = some v ∧ M v := by
  obtain ⟨dx, h⟩ := h
  exact ⟨x, C, dx, _, _, rfl, h, F.cl, F.nP, ffs_power, q⟩
end
end U
namespace U
open PySem
theorem bits_def (i : Int) : Builtin.Int.intBits i = if i = 0 then 0 else i.natAbs.log2 + 1 := by
  unfold Builtin.Int.intBits
  by_cases h : i = 0
  · subst h; rfl
  · rw [if_neg h, if_neg (by simpa using h)]
theorem and_pred (c j : Nat) : (2 ^ (j + 1) * c + 2 ^ j) &&& (2 ^ (j + 1) * c + (2 ^ j - 1)) = 2 ^ (j + 1) * c := by
  have hp : 0 < 2 ^ j := Nat.two_pow_pos j
  have h1 : 2 ^ j < 2 ^ (j + 1) := by rw [Nat.pow_succ]; omega
  have h2 : 2 ^ j - 1 < 2 ^ (j + 1) := by omega
  have h3 : 2 ^ (j + 1) * c = 2 ^ (j + 1) * c + 0 := rfl
  apply Nat.eq_of_testBit_eq
  intro i
  rw [Nat.testBit_and, Nat.testBit_two_pow_mul_add _ h1, Nat.testBit_two_pow_mul_add _ h2]
  conv => rhs; rw [h3, Nat.testBit_two_pow_mul_add _ (Nat.two_pow_pos (j + 1))]
  by_cases h : i < j + 1
  · rw [if_pos h, if_pos h, if_pos h, Nat.testBit_two_pow, Nat.testBit_two_pow_sub_one]
    by_cases e : j = i
    · subst e; simp
    · simp [e]
  · rw [if_neg h, if_neg h, if_neg h, Bool.and_self]
theorem odd_parts (n : Nat) (h : 0 < n) : ∃ m j, m % 2 = 1 ∧ n = m * 2 ^ j := by
  induction n using Nat.strongRecOn with
  | _ n ih =>
    by_cases e : n % 2 = 1
    · exact ⟨n, 0, e, by simp⟩
    · obtain ⟨m, j, hm, hn⟩ := ih (n / 2) (by omega) (by omega)
      refine ⟨m, j + 1, hm, ?_⟩
      rw [Nat.pow_succ, ← Nat.mul_assoc, ← hn]
      omega
theorem bitAnd_neg {m j : Nat} (hm : m % 2 = 1) : Builtin.bitAnd ((m * 2 ^ j : Nat) : Int) (-((m * 2 ^ j : Nat) : Int)) = ((2 ^ j : Nat) : Int) := by
  obtain ⟨c, rfl⟩ : ∃ c, m = 2 * c + 1 := ⟨m / 2, by omega⟩
  have hp : 0 < 2 ^ j := Nat.two_pow_pos j
  have e : (2 * c + 1) * 2 ^ j = 2 ^ (j + 1) * c + 2 ^ j := by
    rw [Nat.pow_succ, Nat.add_mul, Nat.one_mul, Nat.mul_comm (2 ^ j) 2, Nat.mul_assoc, Nat.mul_assoc, Nat.mul_comm c]
  have hpos : 0 < (2 * c + 1) * 2 ^ j := Nat.mul_pos (by omega) hp
  have a := PyProof.Rows.bitAnd_pn (x := (((2 * c + 1) * 2 ^ j : Nat) : Int)) (y := -(((2 * c + 1) * 2 ^ j : Nat) : Int)) (by omega) (by omega)
  rw [a]
  have b : (Builtin.bitNot (-(((2 * c + 1) * 2 ^ j : Nat) : Int))).toNat = (2 * c + 1) * 2 ^ j - 1 := by
    unfold Builtin.bitNot
    omega
  rw [b, Int.toNat_natCast, e]
  have d : 2 ^ (j + 1) * c + 2 ^ j - 1 = 2 ^ (j + 1) * c + (2 ^ j - 1) := by omega
  rw [d, and_pred]
  omega
def zer (t : Int) : Int := (Builtin.Int.intBits (Builtin.bitAnd t (-t)) : Int) - 1
def oddF (t p : Int) : Int × Int := if t = 0 then (0, 0) else (t / 2 ^ (zer t).toNat, p + zer t)
def bits (t : Int) : Int := (Builtin.Int.intBits t : Nat)
def isF (t p : Int) : Bool := decide (bits t ≤ 53) && (decide (-1074 ≤ p) && decide (bits t + p ≤ 1024))
theorem bits_two (j : Nat) : Builtin.Int.intBits ((2 ^ j : Nat) : Int) = j + 1 := by
  have hp : 0 < 2 ^ j := Nat.two_pow_pos j
  rw [bits_def, if_neg (by omega), Int.natAbs_natCast, Nat.log2_two_pow]
theorem zer_eq {m j : Nat} (hm : m % 2 = 1) : zer ((m * 2 ^ j : Nat) : Int) = j := by
  unfold zer
  rw [bitAnd_neg hm, bits_two]
  omega
theorem split_of {t : Int} (h : 0 < t) : ∃ m j : Nat, m % 2 = 1 ∧ t = ((m * 2 ^ j : Nat) : Int) := by
  obtain ⟨m, j, hm, e⟩ := odd_parts t.toNat (by omega)
  exact ⟨m, j, hm, by omega⟩
theorem zer_nonneg {t : Int} (h : 0 < t) : 0 ≤ zer t := by
  obtain ⟨m, j, hm, rfl⟩ := split_of h
  rw [zer_eq hm]
  omega
theorem oddF_char {m j : Nat} (hm : m % 2 = 1) (p : Int) : oddF ((m * 2 ^ j : Nat) : Int) p = ((m : Int), p + j) := by
  have hp : 0 < 2 ^ j := Nat.two_pow_pos j
  have hpos : 0 < m * 2 ^ j := Nat.mul_pos (by omega) hp
  unfold oddF
  rw [if_neg (by omega), zer_eq hm, Int.toNat_natCast]
  congr 1
  rw [Int.natCast_mul]
  have e : ((2 ^ j : Nat) : Int) = 2 ^ j := by simp
  rw [e]
  exact Int.mul_ediv_cancel _ (by rw [← e]; omega)
theorem oddF_zero (p : Int) : oddF 0 p = (0, 0) := if_pos rfl
theorem oddF_shift {t : Int} (h : 0 ≤ t) (k : Nat) (p : Int) : oddF (t * 2 ^ k) (p - k) = oddF t p := by
  by_cases e : t = 0
  · subst e
    rw [Int.zero_mul, oddF_zero, oddF_zero]
  · obtain ⟨m, j, hm, rfl⟩ := split_of (show 0 < t by omega)
    have q : (((m * 2 ^ j : Nat) : Int) * 2 ^ k) = ((m * 2 ^ (j + k) : Nat) : Int) := by
      simp [Nat.pow_add, Nat.mul_assoc, Int.mul_assoc]
    rw [q, oddF_char hm, oddF_char hm]
    congr 1
    simp only [Int.natCast_add]
    omega
theorem bits_shift {m : Nat} (hm : 0 < m) (j : Nat) : bits ((m * 2 ^ j : Nat) : Int) = bits (m : Int) + j := by
  have hp : 0 < 2 ^ j := Nat.two_pow_pos j
  have hpos : 0 < m * 2 ^ j := Nat.mul_pos hm hp
  unfold bits
  rw [bits_def, bits_def, if_neg (by omega), if_neg (by omega), Int.natAbs_natCast, Int.natAbs_natCast]
  have e : (m * 2 ^ j).log2 = m.log2 + j := by
    refine (Nat.log2_eq_iff (by omega)).mpr ⟨?_, ?_⟩
    · rw [Nat.pow_add]
      exact Nat.mul_le_mul_right _ (Nat.log2_self_le (by omega))
    · have : m < 2 ^ (m.log2 + 1) := Nat.lt_log2_self
      calc m * 2 ^ j < 2 ^ (m.log2 + 1) * 2 ^ j := Nat.mul_lt_mul_of_pos_right this hp
        _ = 2 ^ (m.log2 + j + 1) := by rw [← Nat.pow_add]; congr 1; omega
  rw [e]
  omega
theorem bits_le {t : Int} {n : Nat} (h0 : 0 ≤ t) (h : t < 2 ^ n) : bits t ≤ n := by
  unfold bits
  rw [bits_def]
  split
  · omega
  · rename_i z
    have e : t.natAbs < 2 ^ n := by
      have : ((2 ^ n : Nat) : Int) = 2 ^ n := by simp
      omega
    have := (Nat.log2_lt (by omega)).mpr e
    omega
theorem bits_nonneg (t : Int) : 0 ≤ bits t := by
  unfold bits
  omega
/-- finite ones -/
theorem isF_of {t p : Int} (h0 : 0 ≤ t) (h1 : t < 2 ^ 53) (h2 : -1074 ≤ p) (h3 : p ≤ 971) : isF (oddF t p).1 (oddF t p).2 = true := by
  by_cases e : t = 0
  · subst e
    rw [oddF_zero]
    decide
  · obtain ⟨m, j, hm, rfl⟩ := split_of (show 0 < t by omega)
    rw [oddF_char hm]
    have b1 := bits_shift (show 0 < m by omega) j
    have b2 := bits_le h0 h1
    have b3 := bits_nonneg (m : Int)
    unfold isF
    simp only [Bool.and_eq_true, decide_eq_true_eq]
    refine ⟨by omega, by omega, by omega⟩
theorem oddF_succ {t : Int} (h : 0 ≤ t) (p : Int) : ¬ oddF (t + 1) p = oddF t p := by
  intro e
  obtain ⟨m, j, hm, q⟩ := split_of (show 0 < t + 1 by omega)
  rw [q, oddF_char hm] at e
  by_cases z : t = 0
  · subst z
    rw [oddF_zero] at e
    have := congrArg Prod.fst e
    simp only at this
    omega
  · obtain ⟨m', j', hm', q'⟩ := split_of (show 0 < t by omega)
    rw [q', oddF_char hm'] at e
    have e1 := congrArg Prod.fst e
    have e2 := congrArg Prod.snd e
    simp only at e1 e2
    have f1 : m = m' := by omega
    have f2 : j = j' := by omega
    subst f1 f2
    omega
theorem oddF_top_nonneg {t : Int} (h : 0 ≤ t) (p : Int) : 0 ≤ (oddF t p).1 := by
  by_cases e : t = 0
  · subst e
    rw [oddF_zero]
    decide
  · obtain ⟨m, j, hm, rfl⟩ := split_of (show 0 < t by omega)
    rw [oddF_char hm]
    show (0 : Int) ≤ m
    omega
theorem oddF_half {t p : Int} (h : 0 ≤ t) (e : t.fmod 2 = 0) : oddF (t.fdiv 2) (p + 1) = oddF t p := by
  rw [Int.fdiv_eq_ediv_of_nonneg t (by decide)]
  rw [Int.fmod_eq_emod_of_nonneg t (by decide)] at e
  have q : t = t / 2 * 2 ^ 1 := by omega
  have z := oddF_shift (t := t / 2) (by omega) 1 (p + 1)
  rw [← q] at z
  have w : p + 1 - ((1 : Nat) : Int) = p := by omega
  rw [w] at z
  exact z.symm
theorem oddF_odd {t p : Int} (h : 0 ≤ t) (e : ¬ t.fmod 2 = 0) : oddF t p = (t, p) := by
  rw [Int.fmod_eq_emod_of_nonneg t (by decide)] at e
  have z := oddF_char (m := t.toNat) (j := 0) (by omega) p
  have q : ((t.toNat * 2 ^ 0 : Nat) : Int) = t := by
    rw [Nat.pow_zero, Nat.mul_one]
    omega
  rw [q] at z
  rw [z]
  refine Prod.ext ?_ ?_
  · show (t.toNat : Int) = t
    omega
  · show p + ((0 : Nat) : Int) = p
    omega
theorem oddF_pos {t : Int} (h : 0 < t) (p : Int) : ¬ (oddF t p).1 = 0 := by
  obtain ⟨m, j, hm, rfl⟩ := split_of h
  rw [oddF_char hm]
  show ¬ (m : Int) = 0
  omega
theorem sucB {t p : Int} (h : 0 < t) (z : (decide ((oddF t p).1 = 0) || isF (oddF t p).1 (oddF t p).2) = true) : isF (oddF t p).1 (oddF t p).2 = true := by
  rw [decide_eq_false (oddF_pos h p), Bool.false_or] at z
  exact z
end U
namespace U
open PySem L2
/-! ## built-ins by their names -/
def rInt : List V → Hp → VK → Prop := fun xs H Q => (∃ i, xs = [.int i] ∧ Q (.int i) H) ∨ ∃ k, xs = [.bl k] ∧ Q (.int (if k then 1 else 0)) H
def rLen (K : PySem.W.Frag) : List V → Hp → VK → Prop := fun xs H Q => ∃ p ys, xs = [.ref p] ∧ (SqL K H p ys ∨ SqT K H p ys) ∧ Q (.int ys.length) H
def rMin2 : List V → Hp → VK → Prop := fun xs H Q => ∃ i j, xs = [.int i, .int j] ∧ Q (.int (if j < i then j else i)) H
def rMax2 : List V → Hp → VK → Prop := fun xs H Q => ∃ i j, xs = [.int i, .int j] ∧ Q (.int (if j > i then j else i)) H
def rAbs : List V → Hp → VK → Prop := fun xs H Q => ∃ i, xs = [.int i] ∧ Q (.int (if i < 0 then -i else i)) H
section
variable {X : Cx}
theorem cInt : CallR X (.type "int") rInt := call_int1
theorem cLen : CallR X (.builtin "len") (rLen X.K) := call_len_seq
theorem cMin (hc : X.calm = true) : CallR X (.builtin "min") rMin2 := call_min2 hc
theorem cMax (hc : X.calm = true) : CallR X (.builtin "max") rMax2 := call_max2 hc
theorem cAbs : CallR X (.builtin "abs") rAbs := call_abs
end
/-! ## the source of draws: a list of three ints, changed by each draw -/
def Well (w : Addr) (H : Hp) : Prop := ∃ a b c : Int, H w = some (.lst [.int a, .int b, .int c])
/-- all but the well is as it was -/
structure Ex (w : Addr) (H H' : Hp) : Prop where
  was : Well w H
  kept : ∀ b o, b ≠ w → H b = some o → H' b = some o
  well : Well w H'
section
variable {w a : Addr} {H H1 H2 : Hp} {K : PySem.W.Frag} {o : HO}
theorem Well.same (h : Well w H) (e : Same H H1) : Well w H1 := by
  obtain ⟨a, b, c, h⟩ := h
  exact ⟨a, b, c, e _ _ h⟩
theorem Ex.refl (h : Well w H) : Ex w H H := ⟨h, fun _ _ _ e => e, h⟩
theorem Ex.trans (x : Ex w H H1) (y : Ex w H1 H2) : Ex w H H2 := ⟨x.was, fun b o n e => y.kept b o n (x.kept b o n e), y.well⟩
theorem Ex.andSame (x : Ex w H H1) (y : Same H1 H2) : Ex w H H2 := ⟨x.was, fun b o n e => y b o (x.kept b o n e), x.well.same y⟩
theorem Ex.new {xs : List V} {x y z : Int} (hw : Well w H) : Ex w H (upd H w (.lst [.int x, .int y, .int z])) :=
  ⟨hw, fun b o n e => by rw [upd_ne n]; exact e, ⟨x, y, z, upd_same⟩⟩
theorem exTup {xs : List V} (x : Ex w H H1) (h : H a = some (.tup xs)) : H1 a = some (.tup xs) := by
  obtain ⟨p, q, r, hw⟩ := x.was
  exact x.kept _ _ (fun e => by subst e; rw [h] at hw; cases hw) h
theorem exIns {C dx : Addr} {fs : List (Str × V)} (x : Ex w H H1) (h : H a = some (.ins C dx fs)) : H1 a = some (.ins C dx fs) := by
  obtain ⟨p, q, r, hw⟩ := x.was
  exact x.kept _ _ (fun e => by subst e; rw [h] at hw; cases hw) h
theorem exLst {xs : List V} (x : Ex w H H1) (n : a ≠ w) (h : H a = some (.lst xs)) : H1 a = some (.lst xs) := x.kept _ _ n h
theorem exDK {kvs : List (Key × V)} (x : Ex w H H1) (h : H a = some (.dK kvs)) : H1 a = some (.dK kvs) := by
  obtain ⟨p, q, r, hw⟩ := x.was
  exact x.kept _ _ (fun e => by subst e; rw [h] at hw; cases hw) h
theorem Flt.ex {C : Addr} {x : Addr} {s p : Int} {t : V} (h : Flt C H x s t p) (e : Ex w H H1) : Flt C H1 x s t p := by
  obtain ⟨dx, h⟩ := h
  exact ⟨dx, exIns e h⟩
theorem neWell (hw : Well w H) (h : H a = none) : a ≠ w := by
  obtain ⟨p, q, r, hw⟩ := hw
  exact fun e => by subst e; rw [h] at hw; cases hw
theorem l_newTW {xs : List V} {Q : VK} (hw : Well w H) (hl : xs.length ≤ sizeLine) (q : ∀ p H2, H p = none → Same H H2 → H2 p = some (.tup xs) → Well w H2 → p ≠ w → Q (.ref p) H2) : NewT xs H Q :=
  l_newT hl fun p H2 hn hs hp => q p H2 hn hs hp (hw.same hs) (neWell hw hn)
theorem l_newLW {xs : List V} {Q : VK} (hw : Well w H) (hl : xs.length ≤ sizeLine) (q : ∀ p H2, H p = none → Same H H2 → H2 p = some (.lst xs) → Well w H2 → p ≠ w → Q (.ref p) H2) : NewL xs H Q :=
  l_newL hl fun p H2 hn hs hp => q p H2 hn hs hp (hw.same hs) (neWell hw hn)
theorem l_newLE {xs : List V} {Q : VK} (hl : xs.length ≤ sizeLine) (q : ∀ p H2, H p = none → Same H H2 → H2 p = some (.lst xs) → Q (.ref p) H2) : NewL xs H Q := l_newL hl q
/-! further steps -/
theorem l_int1 {i : Int} {Q : VK} (q : Q (.int i) H) : rInt [.int i] H Q := .inl ⟨i, rfl, q⟩
theorem l_int1b {b : Bool} {Q : VK} (q : Q (.int (if b then 1 else 0)) H) : rInt [.bl b] H Q := .inr ⟨b, rfl, q⟩
theorem l_lenL {p : Addr} {xs : List V} {Q : VK} (h : SqL K H p xs) (q : Q (.int xs.length) H) : rLen K [.ref p] H Q := ⟨p, xs, rfl, .inl h, q⟩
theorem l_lenT {p : Addr} {xs : List V} {Q : VK} (h : SqT K H p xs) (q : Q (.int xs.length) H) : rLen K [.ref p] H Q := ⟨p, xs, rfl, .inr h, q⟩
theorem l_min {i j : Int} {Q : VK} (q : Q (.int (if j < i then j else i)) H) : rMin2 [.int i, .int j] H Q := ⟨i, j, rfl, q⟩
theorem l_max {i j : Int} {Q : VK} (q : Q (.int (if j > i then j else i)) H) : rMax2 [.int i, .int j] H Q := ⟨i, j, rfl, q⟩
theorem l_abs {i : Int} {Q : VK} (q : Q (.int (if i < 0 then -i else i)) H) : rAbs [.int i] H Q := ⟨i, rfl, q⟩
theorem cmulF {a c j : Int} (h0 : 0 < c) (h1 : c ≤ 2 ^ 64) : CMul (a.fmod c) j := by
  have r : 0 ≤ a.fmod c ∧ a.fmod c < c := by
    rw [Int.fmod_eq_emod_of_nonneg a (by omega)]
    exact ⟨Int.emod_nonneg a (by omega), Int.emod_lt_of_pos a h0⟩
  exact Or.inl ⟨by omega, by omega⟩
theorem l_gsub {to ti : TE} {t : TSet} {v : V} {σ : St} {Q : St → Hp → Prop} (h : to σ H fun o H1 => ti σ H1 fun i H2 => t o i v H2 fun H3 => Q σ H3) : gSub to ti t v σ H Q := h
theorem l_setL {p : Addr} {xs : List V} {k : Int} {j : Nat} {v : V} {Q : Hp → Prop} (h : H p = some (.lst xs)) (hj : ixN xs.length k = some j) (q : Q (upd H p (.lst (xs.set j v)))) : rSetL (.ref p) (.int k) v H Q := ⟨p, xs, k, j, rfl, rfl, h, hj, q⟩
theorem l_setW {w : Addr} {a b c k n : Int} {j : Nat} {Q : Hp → Prop} (h : H w = some (.lst [.int a, .int b, .int c])) (hj : ixN 3 k = some j) (q : ∀ (a' b' c' : Int) H2, Ex w H H2 → H2 w = some (.lst [.int a', .int b', .int c']) → Q H2) : rSetL (.ref w) (.int k) (.int n) H Q := by
  have hw : Well w H := ⟨a, b, c, h⟩
  refine ⟨w, _, k, j, rfl, rfl, h, hj, ?_⟩
  match j with
  | 0 => exact q n b c _ (Ex.new (xs := []) hw) upd_same
  | 1 => exact q a n c _ (Ex.new (xs := []) hw) upd_same
  | 2 => exact q a b n _ (Ex.new (xs := []) hw) upd_same
  | j + 3 => exact q a b c _ (Ex.new (xs := []) hw) upd_same
theorem l_cat {l b : Addr} {xs zs : List V} {Q : VK} (h1 : H l = some (.lst xs)) (h2 : H b = some (.lst zs)) (hl : xs.length + zs.length ≤ sizeLine) (q : ∀ p H2, H p = none → Same H H2 → H2 p = some (.lst (xs ++ zs)) → Q (.ref p) H2) : rCat (.ref l) (.ref b) H Q :=
  ⟨l, b, xs, zs, rfl, rfl, h1, h2, hl, fun p hn => q p _ hn (sameUpd hn) upd_same⟩
/-- what a written list's item is -/
theorem at_mem {xs : List V} {d : Int} (h0 : 0 ≤ d) (h1 : d < xs.length) : ∃ v, atI xs d = some v ∧ v ∈ xs := by
  have h : d.toNat < xs.length := by omega
  refine ⟨xs[d.toNat], ?_, List.getElem_mem h⟩
  exact at_of (j := d.toNat) (by omega) (by rw [List.getElem?_eq_getElem h])
theorem fmod_range {a m : Int} (h : 0 < m) : 0 ≤ a.fmod m ∧ a.fmod m < m := by
  rw [Int.fmod_eq_emod_of_nonneg a (by omega)]
  exact ⟨Int.emod_nonneg a (by omega), Int.emod_lt_of_pos a h⟩
end
/-! ## what the draws promise -/
def spWell : Sp := fun vs H Q _ => ∃ c : Int, vs = [.int c] ∧ ∀ w H', H w = none → Same H H' → Well w H' → Q (.ref w) H'
def spDraw : Sp := fun vs H Q _ => ∃ (w : Addr) (m : Int), vs = [.ref w, .int m] ∧ 0 < m ∧ m < 1073741824 ∧ Well w H ∧ ∀ (d : Int) H', 0 ≤ d → d < m → Ex w H H' → Q (.int d) H'
def spOne (K : PySem.W.Frag) : Sp := fun vs H Q _ => ∃ (w l : Addr) (xs : List V), vs = [.ref w, .ref l] ∧ l ≠ w ∧ H l = some (.lst xs) ∧ 0 < xs.length ∧ xs.length < 1000 ∧ Well w H ∧ ∀ v H', v ∈ xs → Ex w H H' → Q v H'
def spGreat : Sp := fun vs H Q _ => ∃ (w : Addr) (b : Int), vs = [.ref w, .int b] ∧ 0 ≤ b ∧ b ≤ 1000 ∧ Well w H ∧ ∀ (n : Int) H', 0 ≤ n → n < 2 ^ b.toNat → Ex w H H' → Q (.int n) H'
def spFinite : Sp := fun vs H Q _ => ∃ w : Addr, vs = [.ref w] ∧ Well w H ∧ ∀ (q : Addr) (s t p : Int) H', (s = 1 ∨ s = -1) → 0 ≤ t → t < 2 ^ 53 → -1074 ≤ p → p ≤ 971 → Ex w H H' → H' q = some (.tup [.int s, .int t, .int p]) → Q (.ref q) H'
section
variable {H : Hp} {Q : VK} {E : XK} {w l : Addr} {K : PySem.W.Frag}
theorem l_draw {m : Int} (hm : 0 < m) (hm2 : m < 1073741824) (hw : Well w H) (q : ∀ (d : Int) H', 0 ≤ d → d < m → Ex w H H' → Q (.int d) H') : spDraw ([.ref w, .int m] ++ []) H Q E := ⟨w, m, rfl, hm, hm2, hw, q⟩
theorem l_one {xs : List V} (hw : Well w H) (hl : H l = some (.lst xs)) (ne : l ≠ w) (h0 : 0 < xs.length) (h1 : xs.length < 1000) (q : ∀ v H', v ∈ xs → Ex w H H' → Q v H') : spOne K ([.ref w, .ref l] ++ []) H Q E := ⟨w, l, xs, rfl, ne, hl, h0, h1, hw, q⟩
theorem l_great {b : Int} (hw : Well w H) (h0 : 0 ≤ b) (h1 : b ≤ 1000) (q : ∀ (n : Int) H', 0 ≤ n → n < 2 ^ b.toNat → Ex w H H' → Q (.int n) H') : spGreat ([.ref w, .int b] ++ []) H Q E := ⟨w, b, rfl, h0, h1, hw, q⟩
theorem l_finite (hw : Well w H) (q : ∀ (q : Addr) (s t p : Int) H', (s = 1 ∨ s = -1) → 0 ≤ t → t < 2 ^ 53 → -1074 ≤ p → p ≤ 971 → Ex w H H' → H' q = some (.tup [.int s, .int t, .int p]) → Q (.ref q) H') : spFinite ([.ref w] ++ []) H Q E := ⟨w, rfl, hw, q⟩
theorem l_well {c : Int} (q : ∀ w H', H w = none → Same H H' → Well w H' → Q (.ref w) H') : spWell ([.int c] ++ []) H Q E := ⟨c, rfl, q⟩
end
/-! ## loops -/
def rRng : List V → Hp → (It → Hp → Prop) → Prop := fun vs H1 R => ∃ j : Int, vs = [.int j] ∧ -(2 ^ 62) ≤ j ∧ j < 2 ^ 62 ∧ R (Itr 0 j.toNat) H1
def rIL (K : PySem.W.Frag) : V → Hp → (It → Hp → Prop) → Prop := fun x H1 R => ∃ a, x = .ref a ∧ (∃ xs, SqL K H1 a xs) ∧ R (Itl K a) H1
section
variable {σ : St} {H : Hp} {K : PySem.W.Frag}
theorem l_for {wi : TI} {g : TG} {tb : TS} {D : Ends} (h : wi σ H fun J H1 => ∃ W : Nat → Nat → St → Hp → Prop, (∃ m, W 0 m σ H1) ∧ ∀ i m σ H, W i m σ H →
  (J.stop i H ∧ D.nx σ H) ∨ (J.go i H ∧ ∃ N : St → Hp → Prop, (∀ σ' H', N σ' H' → ∃ m', m' < m ∧ W (i + 1) m' σ' H') ∧ ∀ x H', J.yld i H x H' → g x σ H' fun σ2 H2 => tb { D with nx := N, ct := N, bk := D.nx } σ2 H2)) : tFor wi g tb D σ H := h
theorem l_iRng1 {ta : TA} {R : It → Hp → Prop} (h : ta σ H fun vs H1 => rRng vs H1 R) : iRng1 ta σ H R := h
theorem l_rRng {n : Int} {R : It → Hp → Prop} (h0 : -4611686018427387904 ≤ n) (h1 : n < 4611686018427387904) (q : R (Itr 0 n.toNat) H) : rRng [.int n] H R := ⟨n, rfl, by omega, by omega, q⟩
theorem l_iList {tl : TE} {R : It → Hp → Prop} (h : tl σ H fun x H1 => rIL K x H1 R) : iList K tl σ H R := h
theorem l_rIL {a : Addr} {xs : List V} {R : It → Hp → Prop} (h : SqL K H a xs) (q : R (Itl K a) H) : rIL K (.ref a) H R := ⟨a, rfl, ⟨xs, h⟩, q⟩
end
/-- a list of ints -/
def AllI (M : Int → Prop) : List V → Prop
  | [] => True
  | .int i :: l => M i ∧ AllI M l
  | _ => False
theorem AllI.of {M : Int → Prop} {v : V} : ∀ {l : List V}, AllI M l → v ∈ l → ∃ i, v = .int i ∧ M i
  | [], _, h => nomatch h
  | .int i :: l, a, h => (List.mem_cons.mp h).elim (fun e => ⟨i, e, a.1⟩) fun h => AllI.of a.2 h
  | .ref _ :: _, a, _ => a.elim
  | .non :: _, a, _ => a.elim
  | .bl _ :: _, a, _ => a.elim
  | .str _ :: _, a, _ => a.elim
  | .ty _ :: _, a, _ => a.elim
  | .flt _ :: _, a, _ => a.elim
  | .byt _ :: _, a, _ => a.elim
theorem AllI.of' {M : Int → Prop} {v : V} {l : List V} (h : v ∈ l) (a : AllI M l) : ∃ i, v = .int i ∧ M i := a.of h
theorem l_catW {w l b : Addr} {H : Hp} {xs zs : List V} {Q : VK} (hw : Well w H) (h1 : H l = some (.lst xs)) (h2 : H b = some (.lst zs)) (hl : xs.length + zs.length ≤ sizeLine) (q : ∀ p H2, H p = none → Same H H2 → H2 p = some (.lst (xs ++ zs)) → Well w H2 → p ≠ w → Q (.ref p) H2) : rCat (.ref l) (.ref b) H Q :=
  l_cat h1 h2 hl fun p H2 hn hs hp => q p H2 hn hs hp (hw.same hs) (neWell hw hn)
theorem pow_le {b : Int} {n : Nat} (h : b ≤ n) : (2 : Int) ^ b.toNat ≤ 2 ^ n := by
  have h1 : b.toNat ≤ n := by omega
  have h2 : (2 : Nat) ^ b.toNat ≤ 2 ^ n := Nat.pow_le_pow_right (by decide) h1
  exact_mod_cast h2
section
theorem pm_cases {v : V} (h : v ∈ [V.int 1, V.int (-1)]) : ∃ s : Int, v = .int s ∧ (s = 1 ∨ s = -1) := by
  simp only [List.mem_cons, List.not_mem_nil, or_false] at h
  rcases h with rfl | rfl
  · exact ⟨_, rfl, .inl rfl⟩
  · exact ⟨_, rfl, .inr rfl⟩
end
end U
namespace U
open PySem PySem.Spec PySem.Calls PyProof.Rows L2
section
variable {prog : Program} {w : World} {A : Around} {E : Value → Shared → Prop} {s : Shared} {K : PySem.W.Frag} {e C : Addr} {oe : Obj} {od : Option Obj}
open PySem.W in
theorem findDesc {n : Str} {at_ g : Value} (h1 : (clsIn K C).isSome = true) (h2 : findIn K (.ref C) n = some (some at_)) (h3 : specialIn K at_ "__get__" = some (some g))
    (h4 : takesIn K at_ = some true) : findObj K C od n = some (.bind g at_) := by
  obtain ⟨z, hz⟩ := Option.isSome_iff_exists.mp h1
  unfold findObj
  rw [hz, Option.bind_some, h2, Option.bind_some]
  simp [h3, h4]
open PySem.W in
/-- e.__class__ of a caught error with fields -/
theorem classOfErr {Q : Option Value → Shared → Prop} (T : ExcC K C) (kin : K.In s.heap) (I : InstAt s.heap e oe C od) (q : Q (some (.ref C)) { s with toks := s.toks + 1 }) :
    wpAny (model prog w) A (getAttr? (.ref e) "__class__") Q E s := by
  have found : findObj K C od "__class__" = some (.bind (.builtin "getset_descriptor.__get__") (.builtin "object.__class__")) :=
    findDesc (by obtain ⟨z, hz, _⟩ := any_some T.hd; rw [hz]; rfl) T.ha T.hn T.ht
  obtain ⟨hp, g, d, t, os⟩ := s
  have atC := I.type (M := model prog w)
  have atG := looks_findIn (M := model prog w) kin T.hg
  have atK := looks_findIn (M := model prog w) kin T.hk
  have atF := looks_find (M := model prog w) kin I found
  have under : Looks (model prog w) hp (isInstance (.ref e) (.type "BaseException")) true := atC.andThen (looks_subIn kin T.hs)
  have z0 : (false && onTheHeap (Value.builtin "BaseException.__getattribute__")) = false := rfl
  have z1 : (onTheHeap (Value.ref C) && Value.builtin "BaseException.__getattribute__" == Value.builtin "object.__getattribute__") = false := by
    rw [show (Value.builtin "BaseException.__getattribute__" == Value.builtin "object.__getattribute__") = false by decide +kernel, Bool.and_false]
  unfold getAttr? getAttrBy? getAttrBy
  refine wpAny_bind (wpAny_mkText (wpAny_bind (wpAny_attempt (wpAny_holding (wpAny_bind (atC.at (wpAny_bind (atG.at ?_))))))))
  show wpAny _ _ (if (onTheHeap (Value.ref C) && Value.builtin "BaseException.__getattribute__" == Value.builtin "object.__getattribute__") = true then _ else _) _ _ _
  rw [z1, if_neg Bool.false_ne_true]
  unfold getAttrByItsOwn hookBefore
  refine wpAny_bind ?_
  rw [if_pos (show onTheHeap (Value.ref C) = true from rfl)]
  refine atK.at (wpAny_bind (wpAny_attempt (wpAny_holding ?_)))
  unfold callGetattribute
  rw [z0, if_neg Bool.false_ne_true]
  unfold boundAndCalled
  rw [PySem.F.excAttr_ValueError.ga.bind (.ref e)]
  refine wpAny_bind (wpAny_pure ?_)
  show wpAny _ _ (call (.builtin "BaseException.__getattribute__") [.ref e, .str "__class__" t]) _ _ _
  refine wpAny_call (codeAny_call_builtin PySem.F.excAttr_ValueError.ga.plain PySem.F.entry_bexc_ga (@check_slot (model prog w) _ _ ⟨hp, g, d, t + 1, os⟩ "BaseException.__getattribute__" "BaseException" "__getattribute__" (.ref e) [.str "__class__" t] [] _
    (by decide +kernel) (by decide +kernel) under (PySem.F.args_bexc_ga (.ref e) (.str "__class__" t)) ?_))
  unfold Builtin.«object.__getattribute__»
  refine wpAny_bind (wpAny_of_eq (a := ((Value.ref e : Value), [Value.str "__class__" t])) (by first | rfl | (simp only [slotArgs]; rfl)) (wpAny_bind (wpAny_pure (wpAny_bind (atC.at (wpAny_bind (atF.at ?_)))))))
  show wpAny _ _ (holding [Value.builtin "object.__class__"] (call (.builtin "getset_descriptor.__get__") [.builtin "object.__class__", .ref e, .ref C]) >>= ret) _ _ _
  refine wpAny_bind (wpAny_holding (wpAny_call (class_get (s := ⟨hp, g, d, t + 1, os⟩) (ox := oe) (od := od) kin I T.hm (wpAny_pure ?_))))
  show wpAny _ _ (handedOut (.ref C)) _ _ _
  rw [handedOut_of (v := .ref C) rfl]
  first
    | exact wpAny_pure (wpAny_pure q)
    | exact wpAny_pure q
    | exact wpAny_pure (wpAny_bind (wpAny_pure (wpAny_pure q)))
open PySem.W in
theorem kitErr (T : ExcC K C) : KitX K (.ref e) (.ref C) (fun h => InstAt h e oe C od) where
  ty := fun _ _ _ I => I.type
  it := fun M h kin I => by
    obtain ⟨z, hz, _⟩ := any_some T.hd
    unfold clsIn at hz
    split at hz
    · rename_i ho
      intro A' Q' E' s' k q
      unfold isType loadHead
      exact wpAny_bind (wpAny_loadPart (k _ _ (kin _ _ ho)) (wpAny_pure q))
    · cases hz
  ne := fun h tp dd its n sl kin htp => by
    refine Bool.eq_false_iff.mpr fun q => ?_
    obtain rfl : C = tp := Value.ref.inj (beq_iff_eq.mp q)
    obtain ⟨z, hz, _⟩ := any_some T.hd
    unfold clsIn at hz
    split at hz
    · rename_i ho
      cases (kin _ _ ho).symm.trans htp
    · cases hz
  ca := fun kin I k => classOfErr T kin I k
end
/-- isinstance(e, c), e the caught error: its class cls, its dict at d -/
def rIsX (K : PySem.W.Frag) (cls : Value) (d : Option Addr) (a : Addr) : List V → Hp → VK → Prop := fun xs H Q => ∃ (D : Addr) (c : V) (cv : Value) (b : Bool) (dd : Addr) (fs : List (Str × V)),
  cls = .ref D ∧ d = some dd ∧ ExcC K D ∧ H dd = some (.xd fs) ∧ xs = [.ref a, c] ∧ (∀ u, RelV c u → u = cv) ∧ PySem.W.kitOne K (.ref D) cv = some b ∧ Q (.bl b) H
theorem call_isX {X : Cx} {a : Addr} {cls : Value} {d : Option Addr} {oe : Obj} {pn : List (Addr × Obj)} (hz : Zc cls d oe) (hf : ∃ vs, oe.data = .fields vs) : CallR (X.suite a ((a, oe) :: pn)) (.builtin "isinstance") (rIsX X.K cls d a) := by
  intro pins s σ H xs us Q I r h
  obtain ⟨D, c, cv, b, dd, fs, rfl, rfl, T, hd, rfl, hcv, hb, q⟩ := h
  cases r with
  | cons rx rr =>
    cases rr with
    | cons rt rr =>
      cases rr
      cases rx
      have ec := hcv _ rt
      subst ec
      obtain ⟨hget, _⟩ := I.pin (a, oe) (List.mem_append.mpr (.inl List.mem_cons_self))
      obtain ⟨vs, hv⟩ := hf
      have hx : ObjOk X.prog X.w H s.heap dd (.xd fs) := I.hok dd _ hd
      obtain ⟨mA, ⟨od, x1, x2, ho, x3⟩, hr⟩ := hx
      have J : PySem.W.InstAt s.heap a oe D (some od) := ⟨hget, hz.1, by unfold PySem.W.notCls; rw [hv] <;> rfl, by rw [hz.2]; exact ho⟩
      exact PySem.W.kia_one (kitErr T) I.kIn J hb (fun z => nomatch z) fun tk => ⟨.bl b, H, I.kept (t' := tk) fun _ _ z => z, rfl, q⟩
/-! ## a class is called, its __init__ may raise -/
section
variable {X : Cx} {CX : CXT} {k k0 : Nat} {C f : Addr} {fd : FuncData} {ps : List Str} {ds : List Value} {dvs : List V} {sp : Sp} {E : L2.St → XK}
theorem makeAt {pins : List (Addr × Obj)} {σ : L2.St} {H : Hp} {s : Shared} {Q : VK} {us : List Value} {vs : List V} (M : Mk X.K C f) (F : FnOk X.prog X.w X.K X.mg X.base CX k f fd ps sp) (hr : Room (k + 1) X.A) (hb : Binds X.K fd ps []) (hx : PassesAt CX X σ (E σ))
    (I : Inv X pins σ H s) (r : Vals vs us) (h : ∀ a dx, H a = none → H dx = none → dx ≠ a → sp (.ref a :: (vs ++ [])) (upd (upd H dx (.own a)) a (.ins C dx [])) (fun v H2 => v = .non ∧ Q (.ref a) H2) (E σ)) :
    wpAny (model X.prog X.w) X.A (call (.ref C) us) (EP X pins σ Q) X.xe s := by
  have big := Nat.le_succ s.heap.objs.size
  have q := h _ _ (I.hok.fresh big) (I.hok.fresh (Nat.le_refl _)) (Nat.ne_of_lt (Nat.lt_succ_self s.heap.objs.size))
  have J := Inv.made (C := C) I
  rw [List.append_nil] at q
  have rr : Vals (V.ref (s.heap.objs.size + 1) :: vs) (Value.ref (s.heap.objs.size + 1) :: us) := .cons rfl r
  have len : (Value.ref (s.heap.objs.size + 1) :: us ++ []).length = ps.length := by
    rw [List.append_nil, ← F.len _ _ _ _ q]
    exact rr.length.symm
  have bd := hb ⟨(s.heap.push PySem.W.emptyDict).push (PySem.W.instObj C s.heap.objs.size), s.gens, s.drawn, s.toks, s.os⟩ (Value.ref (s.heap.objs.size + 1) :: us) J.kIn len
  rw [List.append_nil] at bd
  refine wpAny_call (make_map (f := f) I.kIn M.makes M.init (beq_iff_eq.mp M.fn) (codeAny_mono (F.run _ X.stack _ _ ⟨Value.ref (s.heap.objs.size + 1) :: us, []⟩ (Value.ref (s.heap.objs.size + 1) :: us) _ _ (E σ) (hr.make C us []) (J.env0.make C us []) bd rr q) fun z s' hz => ?_))
  cases z with
  | error er => exact hx pins _ _ er s' J hz
  | ok fl =>
    cases fl with
    | ret u =>
      obtain ⟨v, H', J', rv, ev, qq⟩ := J.after hz
      subst ev
      exact ⟨rv, V.ref (s.heap.objs.size + 1), H', J', rfl, qq⟩
    | next => exact False.elim hz
    | brk => exact False.elim hz
    | cont => exact False.elim hz
end
/-- a class that can be made by its name, at C -/
structure CalC (P : Program) (w : World) (K : PySem.W.Frag) (mg : Str → Option Value) (base : Heap) (CX : CXT) (k : Nat) (x : Str) (C : Addr) (ps : List Str) (sp : Sp) : Prop where
  at_ : mg x = some (.ref C)
  ex : ∃ (f : Addr) (fd : FuncData), Mk K C f ∧ Binds K fd ps [] ∧ FnOk P w K mg base CX k f fd ps sp
def tMakeS (C : Addr) (sp : Sp) (E : L2.St → XK) (t : TA) : TE := fun σ H Q => t σ H fun vs H1 => ∀ a dx, H1 a = none → H1 dx = none → dx ≠ a → sp (.ref a :: (vs ++ [])) (upd (upd H1 dx (.own a)) a (.ins C dx [])) (fun v H2 => v = .non ∧ Q (.ref a) H2) (E σ)
section
variable {X : Cx} {k k0 : Nat} {C : Addr} {x : Str} {ps : List Str} {sp : Sp} {E : L2.St → XK} {e : Expr} {es : List Expr} {t : TA} {p pos : Pos}
theorem pe_mkS (G : CalC X.prog X.w X.K X.mg X.base (L2.CX X.prog X.w) k x C ps sp) (hr : Room k0 X.A) (hx : ∀ σ, PassesAt (L2.CX X.prog X.w) X σ (E σ)) (ha : PA X (e :: es) t) (hk : k + 1 ≤ k0 := by decide) (hg : Gl X x := by rfl)
    (hdb : (x == ("__debug__" : Str)) = false := by decide) (he : starEach (e :: es) X.env = (false, eval e X.env) :: starEach es X.env := by rfl) (hpl : (backTo pos (starEach es X.env)).any (·.1) = false := by rfl) :
    PE X (.Call (.Name x p) (e :: es) [] pos) (tMakeS C sp E t) := by
  obtain ⟨hm, f, fd, M, hb, F⟩ := G
  refine ⟨fun pins s σ H Q I h => wpAny_Call_Name_kw (ld_glob I hg hm ?_ hdb)⟩
  exact PySem.W.callWith_K (h₀ := X.base) I.ok.mod.kin M.kp (thn (ha.run pos pins s σ H _ I h) fun us s1 ⟨vs, H1, I1, r, q⟩ => ⟨I1.kIn, makeAt M F (hr.mono hk) hb (hx σ) I1 r q⟩) he hpl
/-- where nothing is raised -/
theorem pe_mk (G : CalC X.prog X.w X.K X.mg X.base (L2.CX X.prog X.w) k x C ps sp) (hr : Room k0 X.A) (ha : PA X (e :: es) t) (hk : k + 1 ≤ k0 := by decide) (hg : Gl X x := by rfl)
    (hdb : (x == ("__debug__" : Str)) = false := by decide) (he : starEach (e :: es) X.env = (false, eval e X.env) :: starEach es X.env := by rfl) (hpl : (backTo pos (starEach es X.env)).any (·.1) = false := by rfl) :
    PE X (.Call (.Name x p) (e :: es) [] pos) (tMake C sp [] E0 t) := by
  obtain ⟨hm, f, fd, M, hb, F⟩ := G
  exact pe_make M F (hr.mono hk) hg hm hb .nil passL ha hdb he hpl
end
end U
namespace U
open PySem L2
/-! ### what each def computes -/
def wordB : Ak → Bool
  | .str s => s == "inf" || s == "nan"
  | _ => false
def badS : Ak → Ak → Bool
  | .int i, b => !(i == 1 || i == -1) || (i == -1 && b == .str "nan")
  | _, _ => true
def badT : Ak → Bool
  | .int t => decide (t < 0)
  | b => !wordB b
def badP : Ak → Ak → Bool
  | b, .int p => wordB b && p != 0
  | _, _ => true
def verdict (a b c : Ak) : Option Str := if badS a b then some "sign" else if badT b then some "top" else if badP b c then some "power" else none
inductive Made where
  | no (part : Str) | yes (s : Int) (t : V) (p : Int)
  deriving DecidableEq
def made : Ak → Ak → Ak → Made
  | .int s, .int t, .int p => if isF (oddF t p).1 (oddF t p).2 then .yes s (.int (oddF t p).1) (oddF t p).2 else .no "top"
  | .int s, .str w, .int p => .yes s (.str w) p
  | _, _, _ => .no ""
def floatOf (a b c : Ak) : Made := match verdict a b c with
  | some m => .no m
  | none => made a b c
theorem ni_ : (("nan" : Str) = "inf") = False := eq_false (by decide +kernel)
theorem in_ : (("inf" : Str) = "nan") = False := eq_false (by decide +kernel)
theorem inV_pm (s : Int) : inV (V.int s) [V.int 1, V.int (-1)] = (s == 1 || s == -1) := by
  simp only [inV, eqV, List.any_cons, List.any_nil, Bool.or_false]
  rw [Bool.beq_comm (a := s), Bool.beq_comm (a := s)]
theorem inV_words (z : Str) : inV (V.str z) [V.str "inf", V.str "nan"] = (z == "inf" || z == "nan") := by
  simp only [inV, eqV, List.any_cons, List.any_nil, Bool.or_false]
  rw [Bool.beq_comm (a := z), Bool.beq_comm (a := z)]
/-! ### the promises -/
theorem none_a {a b c : Ak} (h : verdict a b c = none) : ∃ i, a = .int i := by
  cases a with
  | int i => exact ⟨i, rfl⟩
  | _ => exact absurd h (by unfold verdict badS; rw [if_pos rfl]; exact fun z => nomatch z)
theorem none_c {a b c : Ak} (h : verdict a b c = none) : ∃ i, c = .int i := by
  cases c with
  | int i => exact ⟨i, rfl⟩
  | _ =>
    revert h
    unfold verdict
    simp only [badP, if_true]
    repeat' split
    all_goals exact fun z => nomatch z
theorem none_b {a c : Ak} : ¬ verdict a .oth c = none := by
  unfold verdict
  simp only [badT, wordB, Bool.not_false, if_true]
  repeat' split
  all_goals exact fun z => nomatch z
theorem none_t {a c : Ak} {t : Int} (h : verdict a (.int t) c = none) : 0 ≤ t := by
  rcases Int.lt_or_le t 0 with z | z
  · revert h
    unfold verdict
    simp only [badT, decide_eq_true z, if_true]
    repeat' split
    all_goals exact fun z => nomatch z
  · exact z
def spOddForm : Sp := fun vs H Q _ => ∃ s t p : Int, vs = [.int s, .int t, .int p] ∧ 0 ≤ t ∧ ∀ a H', Same H H' → H' a = some (.tup [.int s, .int (oddF t p).1, .int (oddF t p).2]) → Q (.ref a) H'
def spOddForm2 : Sp := fun vs H Q _ => ∃ t p : Int, vs = [.int t, .int p] ∧ 0 ≤ t ∧ ∀ a H', Same H H' → H' a = some (.tup [.int (oddF t p).1, .int (oddF t p).2]) → Q (.ref a) H'
def spLIsF : Sp := fun vs H Q _ => ∃ t p : Int, vs = [.int t, .int p] ∧ Q (.bl (decide (t = 0) || isF t p)) H
def spIsFloat : Sp := fun vs H Q _ => ∃ t p : Int, vs = [.int t, .int p] ∧ Q (.bl (isF t p)) H
def spIsInt (K : PySem.W.Frag) : Sp := fun vs H Q _ => ∃ v a, vs = [v] ∧ IsA K H v a ∧ Q (.bl a.isI) H
def spFits : Sp := fun vs H Q _ => ∃ i : Int, vs = [.int i] ∧ Q (.bl (decide (-9223372036854775808 ≤ i) && decide (i ≤ 9223372036854775807))) H
def spCheck (K : PySem.W.Frag) (IA : Addr) : Sp := fun vs H Q E => ∃ s t p a b c, vs = [s, t, p] ∧ IsA K H s a ∧ IsA K H t b ∧ IsA K H p c ∧
  (∀ part, verdict a b c = some part → ∀ d G, H d = none → Same H G → G d = some (.xd [("part", .str part)]) → E (.ref IA) (some d) G) ∧ (verdict a b c = none → ∀ G, Same H G → Q .non G)
def spInit (K : PySem.W.Frag) (C IA : Addr) : Sp := fun vs H Q E => ∃ x dx s t p a b c, vs = [.ref x, s, t, p] ∧ H x = some (.ins C dx []) ∧ IsA K H s a ∧ IsA K H t b ∧ IsA K H p c ∧
  (∀ part, floatOf a b c = .no part → ∀ d G, H d = none → Same H G → G d = some (.xd [("part", .str part)]) → E (.ref IA) (some d) G) ∧
  (∀ s' t' p', floatOf a b c = .yes s' t' p' → ∀ G, (∀ b o, b ≠ x → H b = some o → G b = some o) → G x = some (.ins C dx (ffs s' t' p')) → Q .non G)
def spEq (K : PySem.W.Frag) (C : Addr) : Sp := fun vs H Q _ => ∃ x s t p y, vs = [.ref x, y] ∧ Flt C H x s t p ∧ scal t t = true ∧ ((∃ x' s' t' p', y = .ref x' ∧ Flt C H x' s' t' p' ∧ scal t t' = true ∧ Q (.bl (decide (s = s') && (decide (t = t') && decide (p = p')))) H) ∨
  (∃ ty, TyX K H y ty ∧ PySem.W.kitOne K ty (.ref C) = some false ∧ Q (.bl false) H))
def spIsNumber (K : PySem.W.Frag) (C : Addr) : Sp := fun vs H Q _ => ∃ v a ty b, vs = [v] ∧ IsA K H v a ∧ TyX K H v ty ∧ PySem.W.kitOne K ty (.ref C) = some b ∧ Q (.bl (a.isI || b)) H
def spToFloatF (C : Addr) : Sp := fun vs H Q _ => ∃ x s t p, vs = [.ref x] ∧ Flt C H x s t p ∧ Q (.ref x) H
def spWholeW (C : Addr) : Sp := fun vs H Q _ => ∃ x s w p, vs = [.ref x] ∧ Flt C H x s (.str w) p ∧ Q .non H
/-- the well is drawn from, and True told -/
def spGood : Sp := fun vs H Q _ => ∃ w : Addr, vs = [.ref w] ∧ Well w H ∧ ∀ H', Ex w H H' → Q (.bl true) H'
def spSaid (K : PySem.W.Frag) (C : Addr) : Sp := fun vs H Q _ => ∃ s t p a b c, vs = [s, t, p] ∧ IsA K H s a ∧ IsA K H t b ∧ IsA K H p c ∧
  (∀ part, floatOf a b c = .no part → ∀ G, Same H G → Q (.str part) G) ∧ (∀ s' t' p', floatOf a b c = .yes s' t' p' → ∀ x G, H x = none → Same H G → Flt C G x s' t' p' → Q (.ref x) G)
theorem l_isInt {K : PySem.W.Frag} {v : V} {a : Ak} {H : Hp} {Q : VK} {E : XK} (h : IsA K H v a) (q : Q (.bl a.isI) H) : spIsInt K ([v] ++ []) H Q E := ⟨v, a, rfl, h, q⟩
theorem l_odd {s t p : Int} {H : Hp} {Q : VK} {E : XK} (h0 : 0 ≤ t) (q : ∀ a H', Same H H' → H' a = some (.tup [.int s, .int (oddF t p).1, .int (oddF t p).2]) → Q (.ref a) H') : spOddForm ([.int s, .int t, .int p] ++ []) H Q E := ⟨s, t, p, rfl, h0, q⟩
theorem l_isF {t p : Int} {H : Hp} {Q : VK} {E : XK} (q : Q (.bl (isF t p)) H) : spIsFloat ([.int t, .int p] ++ []) H Q E := ⟨t, p, rfl, q⟩

/-! ## a Float is made -/
section
variable {K : PySem.W.Frag} {C IA : Addr} {H : Hp} {Q : VK} {E : XK} {s t p : V} {a b c : Ak}
def MkAt (C : Addr) (sp : Sp) (E : XK) (vs : List V) (H1 : Hp) (Q : VK) : Prop := ∀ x dx, H1 x = none → H1 dx = none → dx ≠ x → sp (.ref x :: (vs ++ [])) (upd (upd H1 dx (.own x)) x (.ins C dx [])) (fun v H2 => v = .non ∧ Q (.ref x) H2) E
theorem l_mkS {sp : Sp} {E : St → XK} {ta : TA} {σ : St} (h : ta σ H fun vs H1 => MkAt C sp (E σ) vs H1 Q) : tMakeS C sp E ta σ H Q := h
theorem l_mk {sp : Sp} {ta : TA} {σ : St} (h : ta σ H fun vs H1 => MkAt C sp E vs H1 Q) : tMake C sp [] E ta σ H Q := h
theorem same2 {x dx : Addr} {o1 o2 : HO} (hx : H x = none) (hd : H dx = none) : Same H (upd (upd H dx o1) x o2) := fun b o e => by
  rw [upd_ne (ne_of_none e hx), upd_ne (ne_of_none e hd)]
  exact e
theorem l_flo (hs : IsA K H s a) (ht : IsA K H t b) (hp : IsA K H p c)
    (kE : ∀ part, floatOf a b c = .no part → ∀ d G, H d = none → Same H G → G d = some (.xd [("part", .str part)]) → E (.ref IA) (some d) G)
    (kQ : ∀ s' t' p', floatOf a b c = .yes s' t' p' → ∀ x G, H x = none → Same H G → Flt C G x s' t' p' → Q (.ref x) G) :
    MkAt C (spInit K C IA) E [s, t, p] H Q := by
  intro x dx hx hd ne
  have sm : Same H (upd (upd H dx (.own x)) x (.ins C dx [])) := same2 hx hd
  refine ⟨x, dx, s, t, p, a, b, c, rfl, upd_same, hs.same sm, ht.same sm, hp.same sm, fun part hv d G hdn hG hg => ?_, fun s' t' p' hy G hG hg => ⟨rfl, ?_⟩⟩
  · exact kE part hv d G (sm.free hdn) (sm.trans hG) hg
  · refine kQ s' t' p' hy x G hx (fun y o e => ?_) ⟨dx, hg⟩
    exact hG y o (ne_of_none e hx) (sm y o e)
theorem l_floY {s' p' : Int} {t' : V} (hs : IsA K H s a) (ht : IsA K H t b) (hp : IsA K H p c) (hy : floatOf a b c = .yes s' t' p') (kQ : ∀ x G, H x = none → Same H G → Flt C G x s' t' p' → Q (.ref x) G) :
    MkAt C (spInit K C IA) E [s, t, p] H Q :=
  l_flo hs ht hp (fun part hv => by rw [hy] at hv; cases hv) fun s2 t2 p2 h2 => by
    rw [hy] at h2
    cases h2
    exact kQ
theorem floatOf_fin {s t p : Int} (hs : s = 1 ∨ s = -1) (h0 : 0 ≤ t) (hf : isF (oddF t p).1 (oddF t p).2 = true) : floatOf (.int s) (.int t) (.int p) = .yes s (.int (oddF t p).1) (oddF t p).2 := by
  have v : verdict (.int s) (.int t) (.int p) = none := by
    have e : ((Ak.int t) == Ak.str "nan") = false := by
      rw [beq_eq_false_iff_ne]
      exact fun z => nomatch z
    have d : decide (t < 0) = false := decide_eq_false (by omega)
    rcases hs with rfl | rfl <;> simp [verdict, badS, badT, badP, wordB, d]
  unfold floatOf
  rw [v]
  show (if isF (oddF t p).1 (oddF t p).2 then _ else _) = _
  rw [if_pos hf]
theorem floatOf_shift {s t p m : Int} (hs : s = 1 ∨ s = -1) (h0 : 0 ≤ t) (hm : 0 ≤ m) (hf : isF (oddF t p).1 (oddF t p).2 = true) : floatOf (.int s) (.int (t * 2 ^ m.toNat)) (.int (p - m)) = .yes s (.int (oddF t p).1) (oddF t p).2 := by
  have e : oddF (t * 2 ^ m.toNat) (p - m) = oddF t p := by
    have z := oddF_shift h0 m.toNat p
    rw [show ((m.toNat : Nat) : Int) = m by omega] at z
    exact z
  have h1 : 0 ≤ t * 2 ^ m.toNat := Int.mul_nonneg h0 (Int.le_of_lt (Int.pow_pos (by decide)))
  rw [floatOf_fin hs h1 (by rw [e]; exact hf), e]
theorem neg_pm {s : Int} (hs : s = 1 ∨ s = -1) : 0 - s = 1 ∨ 0 - s = -1 := by omega
theorem floatOf_inf {s : Int} (hs : s = 1 ∨ s = -1) : floatOf (.int s) (.str "inf") (.int 0) = .yes s (.str "inf") 0 := by
  rcases hs with rfl | rfl <;> decide +kernel
theorem floatOf_nan : floatOf (.int 1) (.str "nan") (.int 0) = .yes 1 (.str "nan") 0 := by decide +kernel
/-! ## two Floats, or a Float and something else, compared -/
section
variable {x : Addr} {s p : Int} {t y : V} {neg : Bool}
theorem l_oeF {y : Addr} {s' p' : Int} {t' : V} (F : FloC K C) (hx : Flt C H x s t p) (hy : Flt C H y s' t' p') (h1 : scal t t = true) (h2 : scal t t' = true) (q : Q (.bl ((decide (s = s') && (decide (t = t') && decide (p = p'))) ^^ neg)) H) : rOe K C neg (spEq K C) (.ref x) (.ref y) H Q := by
  obtain ⟨dx, h⟩ := id hx
  exact ⟨x, dx, _, .ref C, rfl, h, F.tyX hy, F.fF, x, s, t, p, .ref y, rfl, hx, h1, .inl ⟨y, s', t', p', rfl, hy, h2, _, rfl, q⟩⟩
theorem l_oeO {ty : Value} (F : FloC K C) (hx : Flt C H x s t p) (h1 : scal t t = true) (hty : TyX K H y ty) (nf : PySem.W.notFirst K C ty = true) (ki : PySem.W.kitOne K ty (.ref C) = some false) (q : Q (.bl neg) H) : rOe K C neg (spEq K C) (.ref x) y H Q := by
  obtain ⟨dx, h⟩ := id hx
  exact ⟨x, dx, _, ty, rfl, h, hty, nf, x, s, t, p, y, rfl, hx, h1, .inr ⟨ty, hty, ki, _, rfl, by rw [Bool.false_xor]; exact q⟩⟩
theorem l_toF (hx : Flt C H x s t p) (q : Q (.ref x) H) : spToFloatF C ([.ref x] ++ []) H Q E := ⟨x, s, t, p, rfl, hx, q⟩
theorem l_isN {ty : Value} {b : Bool} (hv : IsA K H t a) (hty : TyX K H t ty) (hk : PySem.W.kitOne K ty (.ref C) = some b) (q : Q (.bl (a.isI || b)) H) : spIsNumber K C ([t] ++ []) H Q E := ⟨t, a, ty, b, rfl, hv, hty, hk, q⟩
theorem l_oddL {t p : Int} (h0 : 0 ≤ t) (q : ∀ a H', Same H H' → H' a = some (.tup [.int (oddF t p).1, .int (oddF t p).2]) → Q (.ref a) H') : spOddForm2 ([.int t, .int p] ++ []) H Q E := ⟨t, p, rfl, h0, q⟩
theorem l_isFL {t p : Int} (q : Q (.bl (decide (t = 0) || isF t p)) H) : spLIsF ([.int t, .int p] ++ []) H Q E := ⟨t, p, rfl, q⟩
theorem l_catT {a b : Addr} {x y : V} {xs ys : List V} (h1 : SqT K H a (x :: xs)) (h2 : SqT K H b (y :: ys)) (hl : (x :: xs).length + (y :: ys).length ≤ sizeLine) (q : ∀ p H2, H p = none → Same H H2 → H2 p = some (.tup (x :: xs ++ y :: ys)) → Q (.ref p) H2) : rCatT K (.ref a) (.ref b) H Q :=
  ⟨a, b, _, _, rfl, rfl, h1, h2, List.cons_ne_nil _ _, hl, fun z => absurd z (List.cons_ne_nil _ _), fun _ p hn => q p _ hn (sameUpd hn) upd_same⟩
theorem l_neD {x y : V} {d e : PyData} (hx : Dp K H x d) (hy : Dp K H y e) (sx : SeqAt.shaped d = true) (sy : SeqAt.shaped e = true) (q : Q (.bl (!PyData.eqv d e)) H) : rNeD K x y H Q := ⟨d, e, hx, hy, sx, sy, q⟩
theorem l_eqD {x y : V} {d e : PyData} (hx : Dp K H x d) (hy : Dp K H y e) (sx : SeqAt.shaped d = true) (sy : SeqAt.shaped e = true) (q : Q (.bl (PyData.eqv d e)) H) : rEqD K x y H Q := ⟨d, e, hx, hy, sx, sy, q⟩
end
end
/-! ## a comprehension over a written list -/
def LcG (g : TG) (te : TE) (vs : List Nat) (σ : St) (Q : VK) (J : It) (H1 : Hp) : Prop := ∀ D, H1 D = none → ∃ W : Nat → Nat → Hp → Prop, (∃ m, W 0 m (upd H1 D (.lst []))) ∧ ∀ i m H, W i m H →
    (J.stop i H ∧ Q (.ref D) H) ∨ (J.go i H ∧ ∃ Nx : Hp → Prop, (∀ H', Nx H' → ∃ m', m' < m ∧ W (i + 1) m' H') ∧ ∀ x H', J.yld i H x H' → g x (wipe σ vs) H' fun σ2 H2 => wipe σ2 vs = wipe σ vs ∧ tYes σ2 H2 fun b H3 =>
      if b = true then te σ2 H3 fun y H4 => ∃ acc, H4 D = some (.lst acc) ∧ acc.length < sizeLine ∧ Nx (upd H4 D (.lst (acc ++ [y]))) else Nx H3)
theorem l_lc {wi : TI} {g : TG} {te : TE} {vs : List Nat} {σ : St} {H : Hp} {Q : VK} (h : wi σ H fun J H1 => LcG g te vs σ Q J H1) : tLc wi g tYes te vs σ H Q := h
theorem lc_all {K : PySem.W.Frag} {a : Addr} {xs : List V} {g : TG} {te : TE} {vs : List Nat} {σ : St} {H1 : Hp} {Q : VK} (P : Nat → V → Hp → Prop) (ha : H1 a = some (.lst xs)) (hz : xs.length < sizeLine)
    (hP : ∀ i y H H' D acc, H D = some (.lst acc) → (∀ b o, b ≠ D → H b = some o → H' b = some o) → P i y H → P i y H')
    (step : ∀ i x H (R : VK) (R' : Hp → Prop), (∀ y H3, Same H H3 → P i y H3 → R y H3) → xs[i]? = some x → Same H1 H → g x (wipe σ vs) H fun σ2 H2 => wipe σ2 vs = wipe σ vs ∧ tYes σ2 H2 fun b H3 => if b = true then te σ2 H3 R else R' H3)
    (hd : ∀ D ys H, ys.length = xs.length → (∀ i y, ys[i]? = some y → P i y H) → H1 D = none → Same H1 H → H D = some (.lst ys) → Q (.ref D) H) :
    LcG g te vs σ Q (Itl K a) H1 := by
  intro D hD
  have far : a ≠ D := fun e => by rw [e, hD] at ha; cases ha
  refine lc_list (xs := xs) (fun i H => Same H1 H ∧ ∃ ys, H D = some (.lst ys) ∧ ys.length = i ∧ i ≤ xs.length ∧ ∀ j y, ys[j]? = some y → P j y H) ⟨sameUpd hD, [], upd_same, rfl, Nat.zero_le _, fun j y e => by simp at e⟩ ?_ ?_ ?_
  · rintro i H hi ⟨sm, _⟩
    exact SqL.of (sm _ _ ha)
  · rintro i x H hx ⟨sm, ys, hy, rfl, hi, hp⟩
    have key : ∀ y H3, Same H H3 → P ys.length y H3 → ∃ acc, H3 D = some (.lst acc) ∧ acc.length < sizeLine ∧ (Same H1 (upd H3 D (.lst (acc ++ [y]))) ∧ ∃ ys', upd H3 D (.lst (acc ++ [y])) D = some (.lst ys') ∧ ys'.length = ys.length + 1 ∧ ys.length + 1 ≤ xs.length ∧ ∀ j y', ys'[j]? = some y' → P j y' (upd H3 D (.lst (acc ++ [y])))) := by
      intro y H3 s3 p3
      have hy3 := s3 _ _ hy
      have lt : ys.length < xs.length := (List.getElem?_eq_some_iff.mp hx).1
      have keep : ∀ b o, b ≠ D → H3 b = some o → upd H3 D (.lst (ys ++ [y])) b = some o := fun b o hb e => by rw [upd_ne hb]; exact e
      refine ⟨ys, hy3, by omega, fun b o e => ?_, ys ++ [y], upd_same, by simp, by omega, fun j v e => ?_⟩
      · have hb : b ≠ D := fun q => by rw [q, hD] at e; cases e
        rw [upd_ne hb]
        exact s3 _ _ (sm _ _ e)
      · rcases Nat.lt_or_ge j ys.length with hj | hj
        · rw [List.getElem?_append_left hj] at e
          exact hP _ _ _ _ D _ hy3 keep (hP _ _ _ _ D _ hy (fun b o _ q => s3 b o q) (hp j v e))
        · rw [List.getElem?_append_right hj] at e
          have e0 : j - ys.length = 0 := by
            rcases Nat.eq_zero_or_pos (j - ys.length) with q | q
            · exact q
            · rw [List.getElem?_eq_none (by simp; omega)] at e
              cases e
          have ej : j = ys.length := by omega
          rw [e0] at e
          obtain rfl : y = v := Option.some.inj e
          rw [ej]
          exact hP _ _ _ _ D _ hy3 keep p3
    have z := step _ x H _ (fun H3 => Same H1 H3 ∧ ∃ ys', H3 D = some (.lst ys') ∧ ys'.length = ys.length + 1 ∧ ys.length + 1 ≤ xs.length ∧ ∀ j y, ys'[j]? = some y → P j y H3) key hx sm
    exact z
  · rintro H ⟨sm, ys, hy, hl, _, hp⟩
    exact hd D ys H hl hp hD sm hy
theorem keepT {l : List V} : ∀ (i : Nat) (y : V) (H H' : Hp) (D : Addr) (acc : List V), H D = some (.lst acc) → (∀ b o, b ≠ D → H b = some o → H' b = some o) → (∃ q, y = .ref q ∧ H q = some (.tup l)) → ∃ q, y = .ref q ∧ H' q = some (.tup l) := by
  rintro i y H H' D acc hD kp ⟨q, rfl, hq⟩
  exact ⟨q, rfl, kp _ _ (fun e => by rw [e, hD] at hq; cases hq) hq⟩
theorem len2 {ys : List V} (h : ys.length = 2) : ∃ a b, ys = [a, b] :=
  match ys, h with
  | [a, b], _ => ⟨a, b, rfl⟩
theorem l_tYes {σ : St} {H : Hp} {Q : Bool → Hp → Prop} (h : Q true H) : tYes σ H Q := h
/-- a loop over a written list that changes one slot -/
theorem for_all {K : PySem.W.Frag} {a : Addr} {xs : List V} {g : TG} {tb : TS} {D : Ends} {σ0 : St} {H1 : Hp} {v0 : Option V} (k : Nat) (ha : H1 a = some (.lst xs)) (hk : σ0[k]? = some v0)
    (step : ∀ x, x ∈ xs → ∀ v H, Same H1 H → g x (σ0.set k v) H fun σ2 H2 => tb { D with nx := fun σ' H' => (∃ v, σ' = σ0.set k v) ∧ Same H1 H', ct := fun σ' H' => (∃ v, σ' = σ0.set k v) ∧ Same H1 H', bk := D.nx } σ2 H2)
    (hd : ∀ v H, Same H1 H → D.nx (σ0.set k v) H) : ∃ W : Nat → Nat → St → Hp → Prop, (∃ m, W 0 m σ0 H1) ∧ ∀ i m σ H, W i m σ H →
      ((Itl K a).stop i H ∧ D.nx σ H) ∨ ((Itl K a).go i H ∧ ∃ N : St → Hp → Prop, (∀ σ' H', N σ' H' → ∃ m', m' < m ∧ W (i + 1) m' σ' H') ∧ ∀ x H', (Itl K a).yld i H x H' → g x σ H' fun σ2 H2 => tb { D with nx := N, ct := N, bk := D.nx } σ2 H2) := by
  refine for_list (xs := xs) (fun _ σ H => (∃ v, σ = σ0.set k v) ∧ Same H1 H) ⟨⟨v0, ?_⟩, Same.refl _⟩ ?_ ?_ ?_
  · obtain ⟨hlt, e⟩ := List.getElem?_eq_some_iff.mp hk
    rw [← e, List.set_getElem_self]
  · rintro i σ H _ ⟨_, sm⟩
    exact SqL.of (sm _ _ ha)
  · rintro i x σ H hx ⟨⟨v, rfl⟩, sm⟩
    exact step x (List.mem_of_getElem? hx) v H sm
  · rintro σ H ⟨⟨v, rfl⟩, sm⟩
    exact hd v H sm
/-- the same where the slots keep something -/
theorem for_allS {K : PySem.W.Frag} {a : Addr} {xs : List V} {g : TG} {tb : TS} {D : Ends} {σ0 : St} {H1 : Hp} (S : St → Prop) (ha : H1 a = some (.lst xs)) (h0 : S σ0)
    (step : ∀ x, x ∈ xs → ∀ σ, S σ → ∀ H, Same H1 H → g x σ H fun σ2 H2 => tb { D with nx := fun σ' H' => S σ' ∧ Same H1 H', ct := fun σ' H' => S σ' ∧ Same H1 H', bk := D.nx } σ2 H2)
    (hd : ∀ σ, S σ → ∀ H, Same H1 H → D.nx σ H) : ∃ W : Nat → Nat → St → Hp → Prop, (∃ m, W 0 m σ0 H1) ∧ ∀ i m σ H, W i m σ H →
      ((Itl K a).stop i H ∧ D.nx σ H) ∨ ((Itl K a).go i H ∧ ∃ N : St → Hp → Prop, (∀ σ' H', N σ' H' → ∃ m', m' < m ∧ W (i + 1) m' σ' H') ∧ ∀ x H', (Itl K a).yld i H x H' → g x σ H' fun σ2 H2 => tb { D with nx := N, ct := N, bk := D.nx } σ2 H2) := by
  refine for_list (xs := xs) (fun _ σ H => S σ ∧ Same H1 H) ⟨h0, Same.refl _⟩ ?_ ?_ ?_
  · rintro i σ H _ ⟨_, sm⟩
    exact SqL.of (sm _ _ ha)
  · rintro i x σ H hx ⟨hs, sm⟩
    exact step x (List.mem_of_getElem? hx) σ hs H sm
  · rintro σ H ⟨hs, sm⟩
    exact hd σ hs H sm
def set4 (σ : St) (i j k l : Nat) (a b c d : Option V) : St := (((σ.set i a).set j b).set k c).set l d
theorem for_all4 {K : PySem.W.Frag} {a : Addr} {xs : List V} {g : TG} {tb : TS} {D : Ends} {σ0 : St} {H1 : Hp} (i j k l : Nat) (h0 : ∃ a b c d, σ0 = set4 σ0 i j k l a b c d) (ha : H1 a = some (.lst xs))
    (step : ∀ x, x ∈ xs → ∀ a b c d H, Same H1 H → g x (set4 σ0 i j k l a b c d) H fun σ2 H2 => tb { D with nx := fun σ' H' => (∃ a b c d, σ' = set4 σ0 i j k l a b c d) ∧ Same H1 H', ct := fun σ' H' => (∃ a b c d, σ' = set4 σ0 i j k l a b c d) ∧ Same H1 H', bk := D.nx } σ2 H2)
    (hd : ∀ a b c d H, Same H1 H → D.nx (set4 σ0 i j k l a b c d) H) : ∃ W : Nat → Nat → St → Hp → Prop, (∃ m, W 0 m σ0 H1) ∧ ∀ i m σ H, W i m σ H →
      ((Itl K a).stop i H ∧ D.nx σ H) ∨ ((Itl K a).go i H ∧ ∃ N : St → Hp → Prop, (∀ σ' H', N σ' H' → ∃ m', m' < m ∧ W (i + 1) m' σ' H') ∧ ∀ x H', (Itl K a).yld i H x H' → g x σ H' fun σ2 H2 => tb { D with nx := N, ct := N, bk := D.nx } σ2 H2) :=
  for_allS (fun σ => ∃ a b c d, σ = set4 σ0 i j k l a b c d) ha h0 (fun x hx σ ⟨a, b, c, d, e⟩ H sm => e ▸ step x hx a b c d H sm) fun σ ⟨a, b, c, d, e⟩ H sm => e ▸ hd a b c d H sm
/-! ## further facts of the law's own functions -/
theorem lisf_eq {t p : Int} (h0 : 0 ≤ t) : (decide ((oddF t p).1 = 0) || isF (oddF t p).1 (oddF t p).2) = isF (oddF t p).1 (oddF t p).2 := by
  by_cases e : t = 0
  · subst e
    rw [oddF_zero]
    decide +kernel
  · rw [decide_eq_false (oddF_pos (by omega) p), Bool.false_or]
theorem floatOf_no {s t p : Int} (hs : s = 1 ∨ s = -1) (h0 : 0 ≤ t) (hf : isF (oddF t p).1 (oddF t p).2 = false) : floatOf (.int s) (.int t) (.int p) = .no "top" := by
  have v : verdict (.int s) (.int t) (.int p) = none := by
    have e : ((Ak.int t) == Ak.str "nan") = false := by
      rw [beq_eq_false_iff_ne]
      exact fun z => nomatch z
    have d : decide (t < 0) = false := decide_eq_false (by omega)
    rcases hs with rfl | rfl <;> simp [verdict, badS, badT, badP, wordB, d]
  unfold floatOf
  rw [v]
  show (if isF (oddF t p).1 (oddF t p).2 then _ else _) = _
  rw [if_neg (by rw [hf]; exact Bool.false_ne_true)]
/-- nothing is drawn, and True told -/
def spTrue : Sp := fun vs H Q _ => vs = [] ∧ ∀ H', Same H H' → Q (.bl true) H'
def rIsn : R2 := fun x y H Q => y = .non ∧ Q (.bl (decide (x = .non))) H
def rNotn : R2 := fun x y H Q => y = .non ∧ Q (.bl (!decide (x = .non))) H
theorem op_isn {X : Cx} : OpR X (compareOp .Is) rIsn := op_isN
theorem op_notn {X : Cx} : OpR X (compareOp .IsNot) rNotn := op_notN
section
variable {K : PySem.W.Frag} {C : Addr} {H : Hp} {Q : VK} {E : XK} {v : V} {a b c : Ak} {s t p : V}
theorem l_isn0 (q : Q (.bl true) H) : rIsn .non .non H Q := ⟨rfl, q⟩
theorem l_notn0 (q : Q (.bl false) H) : rNotn .non .non H Q := ⟨rfl, q⟩
theorem l_isnR {x : Addr} (q : Q (.bl false) H) : rIsn (.ref x) .non H Q := ⟨rfl, q⟩
theorem l_notnR {x : Addr} (q : Q (.bl true) H) : rNotn (.ref x) .non H Q := ⟨rfl, q⟩
theorem l_isnI {i : Int} (q : Q (.bl false) H) : rIsn (.int i) .non H Q := ⟨rfl, q⟩
theorem l_notnI {i : Int} (q : Q (.bl true) H) : rNotn (.int i) .non H Q := ⟨rfl, q⟩
theorem l_isFK {t p : Int} {b : Bool} (h0 : 0 ≤ t) (hb : isF (oddF t p).1 (oddF t p).2 = b) (q : Q (.bl b) H) : spLIsF ([.int (oddF t p).1, .int (oddF t p).2] ++ []) H Q E := ⟨_, _, rfl, by rw [lisf_eq h0, hb]; exact q⟩
theorem l_saidN {part : Str} (hs : IsA K H s a) (ht : IsA K H t b) (hp : IsA K H p c) (hv : floatOf a b c = .no part) (q : ∀ G, Same H G → Q (.str part) G) : spSaid K C ([s, t, p] ++ []) H Q E :=
  ⟨s, t, p, a, b, c, rfl, hs, ht, hp, fun part' h G hG => by rw [hv] at h; cases h; exact q G hG, fun s' t' p' h => by rw [hv] at h; cases h⟩
theorem l_saidY {s' p' : Int} {t' : V} (hs : IsA K H s a) (ht : IsA K H t b) (hp : IsA K H p c) (hv : floatOf a b c = .yes s' t' p') (q : ∀ x G, H x = none → Same H G → Flt C G x s' t' p' → Q (.ref x) G) : spSaid K C ([s, t, p] ++ []) H Q E :=
  ⟨s, t, p, a, b, c, rfl, hs, ht, hp, fun part' h => (by rw [hv] at h; cases h), fun s2 t2 p2 h => by rw [hv] at h; cases h; exact q⟩
theorem l_isNI {i : Int} (F : FloC K C) (q : Q (.bl true) H) : spIsNumber K C ([.int i] ++ []) H Q E := ⟨_, .int i, .type "int", false, rfl, rfl, .base (.int i), F.jI, q⟩
theorem l_isNF {x : Addr} {s p : Int} {t : V} (F : FloC K C) (hx : Flt C H x s t p) (q : Q (.bl true) H) : spIsNumber K C ([.ref x] ++ []) H Q E := ⟨_, .oth, .ref C, true, rfl, F.isA hx, F.tyX hx, F.kF, q⟩
theorem l_isNN {ty : Value} (hv : IsA K H v a) (hi : a.isI = false) (hty : TyX K H v ty) (hk : PySem.W.kitOne K ty (.ref C) = some false) (q : Q (.bl false) H) : spIsNumber K C ([v] ++ []) H Q E := ⟨_, a, ty, false, rfl, hv, hty, hk, by rw [hi]; exact q⟩
theorem l_dnew {σ : St} (q : ∀ p H2, H p = none → Same H H2 → H2 p = some (.dK []) → Q (.ref p) H2) : tDNewK σ H Q := fun p hn => q p _ hn (sameUpd hn) upd_same
theorem l_rep {l : Addr} {xs ys : List V} {k : Int} (h : H l = some (.lst xs)) (h0 : -(2 ^ 63) ≤ k) (h1 : k < 2 ^ 63) (hl : xs.length * k.toNat ≤ sizeLine) (hy : (List.replicate k.toNat xs).flatten = ys)
    (q : ∀ p H2, H p = none → Same H H2 → H2 p = some (.lst ys) → Q (.ref p) H2) : rRep (.ref l) (.int k) H Q :=
  ⟨l, k, xs, rfl, rfl, h, h0, h1, hl, fun p hn => by rw [hy]; exact q p _ hn (sameUpd hn) upd_same⟩
end
/-! ## the law's frame -/
/-- a script of whole numbers is told True -/
def spLaw (K : PySem.W.Frag) : Sp := fun vs H Q _ => ∃ (l : Addr) (ns : List Int), vs = [.ref l] ∧ SqL K H l (ns.map V.int) ∧ ns.length ≤ 63 ∧ ∀ H', Q (.bl true) H'
section
variable {K : PySem.W.Frag} {H : Hp} {Q : VK} {E : XK} {w : Addr} {σ : St}
theorem l_good (hw : Well w H) (q : ∀ H', Ex w H H' → Q (.bl true) H') : spGood ([.ref w] ++ []) H Q E := ⟨w, rfl, hw, q⟩
theorem l_true (q : ∀ H', Same H H' → Q (.bl true) H') : spTrue ([] ++ []) H Q E := ⟨rfl, q⟩
theorem l_slice {r : V → Option Int → Option Int → Hp → VK → Prop} {te : TE} {tl th : TO} (h : te σ H fun x H1 => tl σ H1 fun l H2 => th σ H2 fun u H3 => r x l u H3 Q) : L2.tSl r te tl th σ H Q := h
theorem l_poN {R : Option Int → Hp → Prop} (h : R none H) : tNoPart σ H R := h
theorem l_poS {te : TE} {R : Option Int → Hp → Prop} (h : te σ H fun x H1 => ∃ i, x = .int i ∧ R (some i) H1) : tPart te σ H R := h
theorem l_slL {a : Addr} {xs : List V} {lo hi : Option Int} (h : SqL K H a xs) (q : ∀ p H2, H p = none → Same H H2 → H2 p = some (.lst (cutV xs lo hi)) → Q (.ref p) H2) : rSlL K (.ref a) lo hi H Q :=
  ⟨a, xs, rfl, h, fun p hn => q p _ hn (sameUpd hn) upd_same⟩
theorem mem_cut {xs : List V} {lo hi : Option Int} {x : V} (h : x ∈ cutV xs lo hi) : x ∈ xs := by
  unfold cutV at h
  exact List.mem_of_mem_drop (List.mem_of_mem_take h)
theorem mem_ints {ns : List Int} {b : List V} {x : V} (h : x ∈ ns.map V.int ++ b) (hb : ∀ y ∈ b, ∃ i, y = V.int i) : ∃ i, x = V.int i := by
  rcases List.mem_append.mp h with h | h
  · obtain ⟨i, _, e⟩ := List.mem_map.mp h
    exact ⟨i, e.symm⟩
  · exact hb x h
theorem Ex.fresh {H H2 H' : Hp} (x : Ex w H2 H') (hn : H w = none) (sm : Same H H2) : Same H H' := fun b o e =>
  x.kept b o (fun q => by rw [q, hn] at e; cases e) (sm b o e)
end
section
variable {K : PySem.W.Frag} {C : Addr} {H : Hp} {Q : VK} {E : XK}
theorem l_whoW {x : Addr} {s p : Int} {w : Str} (hx : Flt C H x s (.str w) p) (q : Q .non H) : spWholeW C ([.ref x] ++ []) H Q E := ⟨x, s, w, p, rfl, hx, q⟩
end
theorem ys_of {ys : List V} {f : Nat → V} {n : Nat} (hl : ys.length = n) (h : ∀ i y, ys[i]? = some y → y = f i) : ys = (List.range n).map f := by
  apply List.ext_getElem (by simp [hl])
  intro i h1 h2
  rw [List.getElem_map, List.getElem_range]
  exact h i _ (List.getElem?_eq_getElem h1)
end U
namespace U
open PySem
/-! ## rounding, by comparisons with numbers times powers of two -/
theorem tp (n : Nat) : (0 : Int) < 2 ^ n := Int.pow_pos (by decide)
theorem tpa (a b : Nat) : (2 : Int) ^ (a + b) = 2 ^ a * 2 ^ b := Int.pow_add 2 a b
theorem tps (n : Nat) : (2 : Int) ^ (n + 1) = 2 * 2 ^ n := by rw [Int.pow_succ, Int.mul_comm]
theorem tple {a b : Nat} (h : a ≤ b) : (2 : Int) ^ a ≤ 2 ^ b := by
  have h2 : (2 : Nat) ^ a ≤ 2 ^ b := Nat.pow_le_pow_right (by decide) h
  exact_mod_cast h2
theorem tplt {a b : Nat} (h : a < b) : (2 : Int) ^ a < 2 ^ b := by
  have h2 : (2 : Nat) ^ a < 2 ^ b := Nat.pow_lt_pow_right (by decide) h
  exact_mod_cast h2
theorem tp1 (n : Nat) : (1 : Int) ≤ 2 ^ n := by have := tp n; omega
/-- what stands between powers of two -/
theorem bits_lo {t : Int} (h : 0 < t) : 2 ^ (bits t - 1).toNat ≤ t := by
  unfold bits
  rw [bits_def, if_neg (by omega)]
  have e : t.natAbs ≠ 0 := by omega
  have z := Nat.log2_self_le e
  have c : ((2 ^ t.natAbs.log2 : Nat) : Int) = 2 ^ t.natAbs.log2 := by simp
  have d : (((t.natAbs.log2 + 1 : Nat) : Int) - 1).toNat = t.natAbs.log2 := by omega
  rw [d]
  omega
theorem bits_hi {t : Int} (h : 0 < t) : t < 2 ^ (bits t).toNat := by
  unfold bits
  rw [bits_def, if_neg (by omega)]
  have z : t.natAbs < 2 ^ (t.natAbs.log2 + 1) := Nat.lt_log2_self
  have c : ((2 ^ (t.natAbs.log2 + 1) : Nat) : Int) = 2 ^ (t.natAbs.log2 + 1) := by simp
  have d : ((t.natAbs.log2 + 1 : Nat) : Int).toNat = t.natAbs.log2 + 1 := by omega
  rw [d]
  omega
theorem bits_pos {t : Int} (h : 0 < t) : 1 ≤ bits t := by
  unfold bits
  rw [bits_def, if_neg (by omega)]
  omega
theorem bits_ge {t : Int} {n : Nat} (h : 2 ^ n ≤ t) : (n : Int) + 1 ≤ bits t := by
  have h0 : 0 < t := Int.lt_of_lt_of_le (tp n) h
  have z := bits_hi h0
  rcases Nat.lt_or_ge n (bits t).toNat with w | w
  · have := bits_nonneg t
    omega
  · have := tple w
    omega
/-- the law's own form: the top grown to 53 bits, or down to the least power -/
def Norm (t p M P : Int) : Prop := if t = 0 then M = 0 ∧ P = -1074 else ∃ j : Nat, M = t * 2 ^ j ∧ P = p - j ∧ M < 2 ^ 53 ∧ -1074 ≤ P ∧ (2 ^ 52 ≤ M ∨ P = -1074)
theorem norm_can {t p M P : Int} (h : 0 < t) (c : (2 ^ 52 ≤ t ∧ -1074 ≤ p ∨ p = -1074) ∧ t < 2 ^ 53) (n : Norm (oddF t p).1 (oddF t p).2 M P) : M = t ∧ P = p := by
  obtain ⟨m, i, hm, e⟩ := split_of h
  rw [e, oddF_char hm] at n
  unfold Norm at n
  simp only at n
  rw [if_neg (by omega)] at n
  obtain ⟨j, hM, hP, h53, hp, hs⟩ := n
  have hmp : (0 : Int) < m := by omega
  have ei : t = m * 2 ^ i := by rw [e, Int.natCast_mul]; simp
  clear e
  obtain ⟨c, c2⟩ := c
  rcases Nat.lt_trichotomy j i with w | w | w
  · obtain ⟨d, rfl⟩ : ∃ d, i = j + 1 + d := ⟨i - (j + 1), by omega⟩
    rw [show j + 1 + d = j + (d + 1) by omega, tpa, tps, ← Int.mul_assoc, ← hM] at ei
    have := tp1 d
    have z : M * (2 * 2 ^ d) = 2 * (M * 2 ^ d) := by rw [← Int.mul_assoc, Int.mul_comm M 2, Int.mul_assoc]
    have y : M ≤ M * 2 ^ d := by
      have hM0 : 0 ≤ M := by rw [hM]; exact Int.mul_nonneg (by omega) (Int.le_of_lt (tp j))
      have := Int.mul_le_mul_of_nonneg_left this hM0
      omega
    omega
  · subst w
    exact ⟨by rw [hM, ei], by omega⟩
  · obtain ⟨d, rfl⟩ : ∃ d, j = i + 1 + d := ⟨j - (i + 1), by omega⟩
    rw [show i + 1 + d = i + (d + 1) by omega, tpa, tps, ← Int.mul_assoc, ← ei] at hM
    have := tp1 d
    have z : t * (2 * 2 ^ d) = 2 * (t * 2 ^ d) := by rw [← Int.mul_assoc, Int.mul_comm t 2, Int.mul_assoc]
    have y : t ≤ t * 2 ^ d := by
      have := Int.mul_le_mul_of_nonneg_left this (Int.le_of_lt h)
      omega
    omega
/-- an exact number: the law's form has no greater power -/
theorem norm_up {t p M P : Int} (h : 0 < t) (c1 : t < 2 ^ 53) (c2 : -1074 ≤ p) (n : Norm (oddF t p).1 (oddF t p).2 M P) : ∃ j : Nat, M = t * 2 ^ j ∧ P = p - j := by
  obtain ⟨m, i, hm, e⟩ := split_of h
  rw [e, oddF_char hm] at n
  unfold Norm at n
  simp only at n
  rw [if_neg (by omega)] at n
  obtain ⟨j, hM, hP, h53, hp, hs⟩ := n
  have hmp : (0 : Int) < m := by omega
  have ei : t = m * 2 ^ i := by rw [e, Int.natCast_mul]; simp
  clear e
  rcases Nat.lt_or_ge j i with w | w
  · exfalso
    obtain ⟨d, rfl⟩ : ∃ d, i = j + 1 + d := ⟨i - (j + 1), by omega⟩
    rw [show j + 1 + d = j + (d + 1) by omega, tpa, tps, ← Int.mul_assoc, ← hM] at ei
    have := tp1 d
    have z : M * (2 * 2 ^ d) = 2 * (M * 2 ^ d) := by rw [← Int.mul_assoc, Int.mul_comm M 2, Int.mul_assoc]
    have y : M ≤ M * 2 ^ d := by
      have hM0 : 0 ≤ M := by rw [hM]; exact Int.mul_nonneg (by omega) (Int.le_of_lt (tp j))
      have := Int.mul_le_mul_of_nonneg_left this hM0
      omega
    omega
  · obtain ⟨d, rfl⟩ : ∃ d, j = i + d := ⟨j - i, by omega⟩
    refine ⟨d, ?_, by omega⟩
    rw [hM, ei, tpa, Int.mul_assoc]
/-! ### what rounding makes -/
inductive Fl where
  | fin (s t p : Int) | inf (s : Int) | nan
  deriving DecidableEq
def cutF (t : Int) (d : Nat) : Int := if t - t / 2 ^ d * 2 ^ d > 2 ^ (d - 1) ∨ (t - t / 2 ^ d * 2 ^ d = 2 ^ (d - 1) ∧ t / 2 ^ d % 2 = 1) then t / 2 ^ d + 1 else t / 2 ^ d
def endF (s t p : Int) : Fl := if bits t + p > 1024 then .inf s else .fin s (oddF t p).1 (oddF t p).2
def rndF (s t p : Int) : Fl := if max (bits t - 53) (-1074 - p) > bits t then .fin s 0 0 else
  if max (bits t - 53) (-1074 - p) > 0 then endF s (cutF t (max (bits t - 53) (-1074 - p)).toNat) (p + max (bits t - 53) (-1074 - p)) else endF s t p
/-- a number between those with powers of two: q * 2 ** m, or (g = 1) something less than one unit of q beside it -/
structure RV (lt eq : Int → Int → Prop) (q m g : Int) : Prop where
  g01 : g = 0 ∨ g = 1 ∧ 3 ≤ max (bits q - 53) (-1074 - m)
  up : ∀ c k, m + g ≤ k → (lt c k ↔ q < c * 2 ^ (k - m).toNat) ∧ (eq c k ↔ q = c * 2 ^ (k - m).toNat)
  dn : g = 0 → ∀ c k, k ≤ m → (lt c k ↔ q * 2 ^ (m - k).toNat < c) ∧ (eq c k ↔ q * 2 ^ (m - k).toNat = c)
  lo : ∀ c k, k ≤ m → c ≤ (q - g) * 2 ^ (m - k).toNat → ¬ lt c k
def CondOk (lt eq : Int → Int → Prop) (M P : Int) : Prop := (lt (2 * M + 1) (P - 1) ∨ (eq (2 * M + 1) (P - 1) ∧ M % 2 = 0)) ∧
  (M = 0 ∨ (¬ (M = 2 ^ 52 ∧ P > -1074) ∧ ¬ lt (2 * M - 1) (P - 1) ∧ (eq (2 * M - 1) (P - 1) → M % 2 = 0)) ∨ ((M = 2 ^ 52 ∧ P > -1074) ∧ ¬ lt (4 * M - 1) (P - 2) ∧ (eq (4 * M - 1) (P - 2) → M % 2 = 0)))
def edgeC : Int := 18014398509481983
def Good (lt eq : Int → Int → Prop) (s : Int) : Fl → Prop
  | .nan => False
  | .inf s' => s' = s ∧ ¬ lt edgeC 970
  | .fin s' t p => s' = s ∧ lt edgeC 970 ∧ ∀ M P, Norm t p M P → CondOk lt eq M P
/-- facts of the cut -/
theorem cut_facts {t : Int} (d : Nat) (h : 0 < t) (hd : 0 < d) : ∃ k r h2 : Int, h2 = 2 ^ (d - 1) ∧ 2 ^ d = 2 * h2 ∧ t = k * (2 * h2) + r ∧ 0 ≤ r ∧ r < 2 * h2 ∧ 0 ≤ k ∧ k = t / 2 ^ d ∧
    ((cutF t d = k ∧ (r < h2 ∨ (r = h2 ∧ k % 2 = 0))) ∨ (cutF t d = k + 1 ∧ (h2 < r ∨ (r = h2 ∧ k % 2 = 1)))) := by
  have e : (2 : Int) ^ d = 2 * 2 ^ (d - 1) := by
    rw [← tps]
    congr 1
    omega
  have hp := tp (d - 1)
  have hp2 : (0 : Int) < 2 ^ d := tp d
  refine ⟨t / 2 ^ d, t - t / 2 ^ d * 2 ^ d, 2 ^ (d - 1), rfl, e, by rw [← e]; omega, ?_, ?_, Int.ediv_nonneg (by omega) (by omega), rfl, ?_⟩
  · have := Int.ediv_mul_le t (show (2 : Int) ^ d ≠ 0 by omega)
    omega
  · have := Int.lt_ediv_add_one_mul_self t hp2
    rw [Int.add_mul] at this
    omega
  · have k2 : t / 2 ^ d % 2 = 0 ∨ t / 2 ^ d % 2 = 1 := by omega
    unfold cutF
    split
    · exact .inr ⟨rfl, by omega⟩
    · exact .inl ⟨rfl, by omega⟩
theorem endF_shift (s p : Int) : endF s (2 ^ 53) p = endF s (2 ^ 52) (p + 1) := by
  have e : oddF ((2 : Int) ^ 52 * 2 ^ 1) (p + 1 - ((1 : Nat) : Int)) = oddF (2 ^ 52) (p + 1) := oddF_shift (by decide) 1 (p + 1)
  rw [show (2 : Int) ^ 52 * 2 ^ 1 = 2 ^ 53 by decide, show p + 1 - ((1 : Nat) : Int) = p by omega] at e
  have b1 : bits (2 ^ 53) = 54 := by decide +kernel
  have b2 : bits (2 ^ 52) = 53 := by decide +kernel
  unfold endF
  rw [e, b1, b2]
  by_cases h : 54 + p > 1024
  · rw [if_pos h, if_pos (by omega)]
  · rw [if_neg h, if_neg (by omega)]
theorem end_good {lt eq : Int → Int → Prop} {s t p : Int} (h : 0 < t) (c : (2 ^ 52 ≤ t ∧ -1074 ≤ p ∨ p = -1074) ∧ t < 2 ^ 53) (ok : CondOk lt eq t p) (h1 : bits t + p > 1024 → ¬ lt edgeC 970) (h2 : bits t + p ≤ 1024 → lt edgeC 970) : Good lt eq s (endF s t p) := by
  unfold endF
  split
  · exact ⟨rfl, h1 (by assumption)⟩
  · refine ⟨rfl, h2 (by omega), fun M P n => ?_⟩
    obtain ⟨rfl, rfl⟩ := norm_can h c n
    exact ok
theorem cond_mid {lt eq : Int → Int → Prop} {q m g : Int} (V : RV lt eq q m g) {D : Nat} {k r h2 t : Int} (hD : 0 < D) (gD : g = 0 ∨ g = 1 ∧ 3 ≤ D) (e : h2 = 2 ^ (D - 1)) (hq : q = k * (2 * h2) + r) (r0 : 0 ≤ r) (r1 : r < 2 * h2)
    (ht : (t = k ∧ (r < h2 ∨ (r = h2 ∧ k % 2 = 0))) ∨ (t = k + 1 ∧ (h2 < r ∨ (r = h2 ∧ k % 2 = 1)))) (sp : t = 2 ^ 52 → m + D > -1074 → t = k) : CondOk lt eq t (m + D) := by
  have hp : 0 < h2 := by rw [e]; exact tp _
  have eq' : q = 2 * (k * h2) + r := by rw [hq, ← Int.mul_assoc, Int.mul_comm k 2, Int.mul_assoc]
  have u1 := V.up (2 * t + 1) (m + D - 1) (by omega)
  have u2 := V.up (2 * t - 1) (m + D - 1) (by omega)
  rw [show (m + (D : Int) - 1 - m).toNat = D - 1 by omega, ← e] at u1 u2
  have x1 : (2 * t + 1) * h2 = 2 * (t * h2) + h2 := by rw [Int.add_mul, Int.one_mul, Int.mul_assoc]
  have x2 : (2 * t - 1) * h2 = 2 * (t * h2) - h2 := by rw [Int.sub_mul, Int.one_mul, Int.mul_assoc]
  rw [x1] at u1
  rw [x2] at u2
  refine ⟨?_, ?_⟩
  · rcases ht with ⟨rfl, w | ⟨w, w2⟩⟩ | ⟨rfl, w | ⟨w, w2⟩⟩
    · exact .inl (u1.1.mpr (by omega))
    · exact .inr ⟨u1.2.mpr (by omega), w2⟩
    · refine .inl (u1.1.mpr ?_)
      rw [Int.add_mul, Int.one_mul]
      omega
    · refine .inl (u1.1.mpr ?_)
      rw [Int.add_mul, Int.one_mul]
      omega
  by_cases hs : t = 2 ^ 52 ∧ m + (D : Int) > -1074
  · refine .inr (.inr ⟨hs, ?_⟩)
    have ek := sp hs.1 hs.2
    subst ek
    have y : ¬ lt (4 * t - 1) (m + D - 2) ∧ ¬ eq (4 * t - 1) (m + D - 2) := by
      by_cases hd1 : D = 1
      · have g0 : g = 0 := by omega
        have z := V.dn g0 (4 * t - 1) (m + D - 2) (by omega)
        subst hd1
        rw [show (m - (m + ((1 : Nat) : Int) - 2)).toNat = 1 by omega] at z
        have h1 : h2 = 1 := by rw [e]; rfl
        rw [h1, Int.mul_one] at eq'
        rw [z.1, z.2]
        have p1 : (2 : Int) ^ 1 = 2 := by decide
        rw [p1]
        omega
      · have z := V.up (4 * t - 1) (m + D - 2) (by omega)
        rw [show (m + (D : Int) - 2 - m).toNat = D - 2 by omega] at z
        have e2 : h2 = 2 * 2 ^ (D - 2) := by
          rw [e, ← tps]
          congr 1
          omega
        have hp2 := tp (D - 2)
        rw [z.1, z.2]
        have x3 : (4 * t - 1) * 2 ^ (D - 2) = 4 * (t * 2 ^ (D - 2)) - 2 ^ (D - 2) := by rw [Int.sub_mul, Int.one_mul, Int.mul_assoc]
        have x4 : t * h2 = 2 * (t * 2 ^ (D - 2)) := by rw [e2, ← Int.mul_assoc, Int.mul_comm t 2, Int.mul_assoc]
        rw [x3]
        omega
    exact ⟨y.1, fun z => absurd z y.2⟩
  · refine .inr (.inl ⟨hs, ?_⟩)
    rcases ht with ⟨rfl, w⟩ | ⟨rfl, w | ⟨w, w2⟩⟩
    · refine ⟨fun z => ?_, fun z => ?_⟩
      · have := u2.1.mp z
        omega
      · have := u2.2.mp z
        omega
    · rw [Int.add_mul, Int.one_mul] at u2
      refine ⟨fun z => ?_, fun z => ?_⟩
      · have := u2.1.mp z
        omega
      · have := u2.2.mp z
        omega
    · rw [Int.add_mul, Int.one_mul] at u2
      refine ⟨fun z => ?_, fun z => by omega⟩
      have := u2.1.mp z
      omega
end U
namespace U
open PySem
theorem rnd_good {lt eq : Int → Int → Prop} {s q m g : Int} (hq : 0 < q) (V : RV lt eq q m g) : Good lt eq s (rndF s q m) := by
  have blo := bits_lo hq
  have bhi := bits_hi hq
  have b1 := bits_pos hq
  have g01 := V.g01
  unfold rndF
  generalize eL : bits q = L at *
  have hLn : ((L.toNat : Nat) : Int) = L := by omega
  by_cases hA : max (L - 53) (-1074 - m) > L
  · rw [if_pos hA]
    refine ⟨rfl, ?_, fun M P n => ?_⟩
    · refine (V.up edgeC 970 (by omega)).1.mpr ?_
      have z := tple (show L.toNat ≤ (970 - m).toNat by omega)
      unfold edgeC
      omega
    · unfold Norm at n
      rw [if_pos rfl] at n
      obtain ⟨rfl, rfl⟩ := n
      refine ⟨.inl ((V.up _ _ (by omega)).1.mpr ?_), .inl rfl⟩
      have z := tple (show L.toNat ≤ (-1074 - 1 - m).toNat by omega)
      omega
  rw [if_neg hA]
  by_cases hB : max (L - 53) (-1074 - m) > 0
  · rw [if_pos hB]
    obtain ⟨D, hD⟩ : ∃ D : Nat, max (L - 53) (-1074 - m) = D := ⟨(max (L - 53) (-1074 - m)).toNat, by omega⟩
    rw [hD] at hA hB g01 ⊢
    rw [Int.toNat_natCast]
    have hD0 : 0 < D := by omega
    obtain ⟨k, r, h2, e2, eD, eq', r0, r1, k0, ek, ht⟩ := cut_facts D hq hD0
    generalize eT : cutF q D = t at *
    have h2p : 0 < h2 := by rw [e2]; exact tp _
    have gD : g = 0 ∨ g = 1 ∧ 3 ≤ D := by omega
    have h4 : g = 1 → 4 ≤ h2 := fun h => by
      have z := tple (show 2 ≤ D - 1 by omega)
      rw [e2]
      omega
    have hk : q = 2 * (k * h2) + r := by rw [eq', ← Int.mul_assoc, Int.mul_comm k 2, Int.mul_assoc]
    -- the upper bound of the kept part
    have kU : k < 2 ^ 53 := by
      rw [ek]
      refine Int.ediv_lt_of_lt_mul (tp D) ?_
      have z := tple (show L.toNat ≤ 53 + D by omega)
      rw [tpa] at z
      omega
    have kU2 : k * h2 + h2 ≤ 9007199254740992 * h2 := by
      have := Int.mul_le_mul_of_nonneg_right (show k + 1 ≤ 9007199254740992 by omega) (Int.le_of_lt h2p)
      rw [Int.add_mul, Int.one_mul] at this
      exact this
    -- edges
    have small : m + D ≤ 970 → lt edgeC 970 := fun h => by
      refine (V.up edgeC 970 (by omega)).1.mpr ?_
      have z := tple (show D ≤ (970 - m).toNat by omega)
      rw [eD] at z
      unfold edgeC
      omega
    by_cases h53 : t = 2 ^ 53
    · have ht2 : t = k + 1 ∧ (h2 < r ∨ (r = h2 ∧ k % 2 = 1)) := by
        rcases ht with w | w
        · omega
        · exact w
      obtain ⟨w1, w2⟩ := ht2
      have ek2 : k = 9007199254740991 := by omega
      have low : 18014398509481983 * h2 ≤ q := by rw [hk, ek2]; omega
      rw [h53, endF_shift]
      have hp' : -1074 ≤ m + D := by omega
      refine end_good (by decide) ⟨.inl ⟨Int.le_refl _, by omega⟩, by decide⟩ ⟨.inl ?_, .inr (.inr ⟨⟨rfl, by omega⟩, ?_⟩)⟩ (fun h => ?_) (fun h => ?_)
      · refine (V.up _ _ (by omega)).1.mpr ?_
        rw [show (m + (D : Int) + 1 - 1 - m).toNat = D by omega, eD]
        omega
      · have z := V.up (4 * 2 ^ 52 - 1) (m + D + 1 - 2) (by omega)
        rw [show (m + (D : Int) + 1 - 2 - m).toNat = D - 1 by omega, ← e2] at z
        refine ⟨fun y => ?_, fun _ => by decide⟩
        have := z.1.mp y
        omega
      · rw [show bits (2 ^ 52) = 53 by decide +kernel] at h
        by_cases hm : m + g ≤ 970
        · rw [(V.up edgeC 970 hm).1]
          have z := tple (show (970 - m).toNat ≤ D - 1 by omega)
          rw [← e2] at z
          unfold edgeC
          omega
        · refine V.lo edgeC 970 (by omega) ?_
          have z := tp1 (m - 970).toNat
          have y : (q - g) * 1 ≤ (q - g) * 2 ^ (m - 970).toNat := Int.mul_le_mul_of_nonneg_left z (by omega)
          unfold edgeC
          omega
      · rw [show bits (2 ^ 52) = 53 by decide +kernel] at h
        exact small (by omega)
    -- below 2 ** 53
    have tU : t < 2 ^ 53 := by omega
    have mid : (t = 2 ^ 52 → m + D > -1074 → t = k) → CondOk lt eq t (m + D) := cond_mid V hD0 gD e2 eq' r0 r1 ht
    have nine : m + D = 971 → lt edgeC 970 := fun h => by
      refine (V.up edgeC 970 (by omega)).1.mpr ?_
      rw [show (970 - m).toNat = D - 1 by omega, ← e2]
      unfold edgeC
      rcases ht with ⟨w1, w2⟩ | ⟨w1, w2⟩
      · by_cases z : k = 9007199254740991
        · rw [z] at hk
          omega
        · have := Int.mul_le_mul_of_nonneg_right (show k ≤ 9007199254740990 by omega) (Int.le_of_lt h2p)
          omega
      · have := Int.mul_le_mul_of_nonneg_right (show k ≤ 9007199254740990 by omega) (Int.le_of_lt h2p)
        omega
    by_cases hC : L - 53 ≥ -1074 - m
    · have hDL : (D : Int) = L - 53 := by omega
      have kL : 2 ^ 52 ≤ k := by
        rw [ek]
        refine (Int.le_ediv_iff_mul_le (tp D)).mpr ?_
        rw [← tpa, show 52 + D = (L - 1).toNat by omega]
        exact blo
      have tL : 2 ^ 52 ≤ t := by omega
      have b53 : bits t = 53 := by
        have z1 := bits_ge tL
        have z2 := bits_le (n := 53) (by omega) tU
        omega
      refine end_good (by omega) ⟨.inl ⟨tL, by omega⟩, tU⟩ (mid (fun z _ => by omega)) (fun h => ?_) (fun h => ?_)
      · rw [b53] at h
        have kL2 := Int.mul_le_mul_of_nonneg_right (show 4503599627370496 ≤ k by omega) (Int.le_of_lt h2p)
        by_cases hm : m + g ≤ 970
        · rw [(V.up edgeC 970 hm).1]
          have z := tple (show (970 - m).toNat + 2 ≤ D by omega)
          rw [eD, tpa, show (2 : Int) ^ 2 = 4 by decide] at z
          unfold edgeC
          omega
        · refine V.lo edgeC 970 (by omega) ?_
          rcases gD with g0 | ⟨g1, g3⟩
          · rw [g0, Int.sub_zero]
            have z := tple (show 2 ≤ D + (m - 970).toNat by omega)
            rw [tpa, eD, show (2 : Int) ^ 2 = 4 by decide] at z
            have y : (2 * (4503599627370496 * h2)) * 2 ^ (m - 970).toNat ≤ q * 2 ^ (m - 970).toNat := Int.mul_le_mul_of_nonneg_right (by omega) (Int.le_of_lt (tp _))
            have x : (2 * (4503599627370496 * h2)) * 2 ^ (m - 970).toNat = 4503599627370496 * (2 * h2 * 2 ^ (m - 970).toNat) := by
              rw [← Int.mul_assoc, Int.mul_comm 2 4503599627370496, Int.mul_assoc, Int.mul_assoc, Int.mul_assoc]
            unfold edgeC
            omega
          · have := h4 g1
            have z := tp1 (m - 970).toNat
            have y : (q - g) * 1 ≤ (q - g) * 2 ^ (m - 970).toNat := Int.mul_le_mul_of_nonneg_left z (by omega)
            unfold edgeC
            omega
      · rw [b53] at h
        by_cases z : m + D = 971
        · exact nine z
        · exact small (by omega)
    · have hDm : m + (D : Int) = -1074 := by omega
      have kU3 : k < 2 ^ 52 := by
        rw [ek]
        refine Int.ediv_lt_of_lt_mul (tp D) ?_
        have z := tple (show L.toNat ≤ 52 + D by omega)
        rw [tpa] at z
        omega
      have cond := mid (fun _ z => by omega)
      by_cases t0 : t = 0
      · rw [t0, hDm]
        rw [t0, hDm] at cond
        show Good lt eq s (if bits 0 + -1074 > 1024 then _ else _)
        rw [if_neg (by decide +kernel), oddF_zero]
        refine ⟨rfl, small (by omega), fun M P n => ?_⟩
        unfold Norm at n
        rw [if_pos rfl] at n
        obtain ⟨rfl, rfl⟩ := n
        exact cond
      · refine end_good (by omega) ⟨.inr hDm, tU⟩ cond (fun h => ?_) (fun _ => small (by omega))
        exfalso
        have := bits_le (n := 53) (by omega) tU
        omega
  · rw [if_neg hB]
    have g0 : g = 0 := by omega
    subst g0
    have qU : q < 2 ^ 53 := by
      have z := tple (show L.toNat ≤ 53 by omega)
      omega
    unfold endF
    rw [eL]
    split
    · rename_i h
      refine ⟨rfl, ?_⟩
      by_cases hm : m ≤ 970
      · rw [(V.up edgeC 970 (by omega)).1]
        have z := tple (show 54 + (970 - m).toNat ≤ (L - 1).toNat by omega)
        rw [tpa, show (2 : Int) ^ 54 = 18014398509481984 by decide] at z
        have := tp (970 - m).toNat
        unfold edgeC
        omega
      · refine V.lo edgeC 970 (by omega) ?_
        rw [Int.sub_zero]
        have z := tple (show 54 ≤ (L - 1).toNat + (m - 970).toNat by omega)
        rw [tpa, show (2 : Int) ^ 54 = 18014398509481984 by decide] at z
        have y : 2 ^ (L - 1).toNat * 2 ^ (m - 970).toNat ≤ q * 2 ^ (m - 970).toNat := Int.mul_le_mul_of_nonneg_right blo (Int.le_of_lt (tp _))
        unfold edgeC
        omega
    · rename_i h
      refine ⟨rfl, ?_, fun M P n => ?_⟩
      · by_cases hm : m ≤ 970
        · refine (V.up edgeC 970 (by omega)).1.mpr ?_
          have := tp1 (970 - m).toNat
          unfold edgeC
          omega
        · refine (V.dn rfl edgeC 970 (by omega)).1.mpr ?_
          have z := tple (show L.toNat + (m - 970).toNat ≤ 54 by omega)
          rw [tpa, show (2 : Int) ^ 54 = 18014398509481984 by decide] at z
          have w := tple (show 1 ≤ (m - 970).toNat by omega)
          have y : q * 2 ^ (m - 970).toNat ≤ (2 ^ L.toNat - 1) * 2 ^ (m - 970).toNat := Int.mul_le_mul_of_nonneg_right (by omega) (Int.le_of_lt (tp _))
          rw [Int.sub_mul, Int.one_mul] at y
          unfold edgeC
          omega
      · obtain ⟨j, rfl, rfl⟩ := norm_up hq qU (by omega) n
        have z1 := V.dn rfl (2 * (q * 2 ^ j) + 1) (m - j - 1) (by omega)
        have z2 := V.dn rfl (2 * (q * 2 ^ j) - 1) (m - j - 1) (by omega)
        have z3 := V.dn rfl (4 * (q * 2 ^ j) - 1) (m - j - 2) (by omega)
        have e1 : q * 2 ^ (j + 1) = 2 * (q * 2 ^ j) := by rw [tps, Int.mul_left_comm]
        have e2 : q * 2 ^ (j + 1 + 1) = 4 * (q * 2 ^ j) := by
          rw [tps, Int.mul_left_comm, e1]
          omega
        rw [show (m - (m - (j : Int) - 1)).toNat = j + 1 by omega, e1] at z1 z2
        rw [show (m - (m - (j : Int) - 2)).toNat = j + 1 + 1 by omega, e2] at z3
        refine ⟨.inl (z1.1.mpr (by omega)), ?_⟩
        by_cases hs : q * 2 ^ j = 2 ^ 52 ∧ m - (j : Int) > -1074
        · exact .inr (.inr ⟨hs, fun y => by have := z3.1.mp y; omega, fun y => by have := z3.2.mp y; omega⟩)
        · exact .inr (.inl ⟨hs, fun y => by have := z2.1.mp y; omega, fun y => by have := z2.2.mp y; omega⟩)
end U
namespace U
open PySem
/-! ## fractions beside numbers times powers of two -/
def ltF (T B c k : Int) : Prop := T * 2 ^ (-k).toNat < c * 2 ^ k.toNat * B
def eqF (T B c k : Int) : Prop := T * 2 ^ (-k).toNat = c * 2 ^ k.toNat * B
theorem mul_eq_r {a b c : Int} (h : 0 < c) : a * c = b * c ↔ a = b := ⟨fun e => Int.eq_of_mul_eq_mul_right (by omega) e, fun e => by rw [e]⟩
theorem rv_exact {e T B : Int} {a b : Nat} (hT : T = e * 2 ^ a) (hB : B = 2 ^ b) : RV (ltF T B) (eqF T B) e ((a : Int) - b) 0 := by
  have dn : ∀ c k, k ≤ (a : Int) - b → (ltF T B c k ↔ e * 2 ^ ((a : Int) - b - k).toNat < c) ∧ (eqF T B c k ↔ e * 2 ^ ((a : Int) - b - k).toNat = c) := by
    intro c k hk
    unfold ltF eqF
    have Y : (0 : Int) < 2 ^ k.toNat * 2 ^ b := Int.mul_pos (tp _) (tp _)
    have x : (2 : Int) ^ a * 2 ^ (-k).toNat = 2 ^ ((a : Int) - b - k).toNat * (2 ^ k.toNat * 2 ^ b) := by
      rw [← tpa, ← tpa, ← tpa]
      congr 1
      omega
    have l : T * 2 ^ (-k).toNat = e * 2 ^ ((a : Int) - b - k).toNat * (2 ^ k.toNat * 2 ^ b) := by rw [hT, Int.mul_assoc, x]; ac_rfl
    have r : c * 2 ^ k.toNat * B = c * (2 ^ k.toNat * 2 ^ b) := by rw [hB, Int.mul_assoc]
    rw [l, r, Int.mul_lt_mul_right Y, mul_eq_r Y]
    exact ⟨Iff.rfl, Iff.rfl⟩
  refine ⟨.inl rfl, fun c k hk => ?_, fun _ => dn, fun c k hk hc => ?_⟩
  · unfold ltF eqF
    have X : (0 : Int) < 2 ^ a * 2 ^ (-k).toNat := Int.mul_pos (tp _) (tp _)
    have x : (2 : Int) ^ k.toNat * 2 ^ b = 2 ^ (k - ((a : Int) - b)).toNat * (2 ^ a * 2 ^ (-k).toNat) := by
      rw [← tpa, ← tpa, ← tpa]
      congr 1
      omega
    have l : T * 2 ^ (-k).toNat = e * (2 ^ a * 2 ^ (-k).toNat) := by rw [hT, Int.mul_assoc]
    have r : c * 2 ^ k.toNat * B = c * 2 ^ (k - ((a : Int) - b)).toNat * (2 ^ a * 2 ^ (-k).toNat) := by rw [hB, Int.mul_assoc, x, Int.mul_assoc]
    rw [l, r, Int.mul_lt_mul_right X, mul_eq_r X]
    exact ⟨Iff.rfl, Iff.rfl⟩
  · rw [(dn c k hk).1]
    rw [Int.sub_zero] at hc
    omega
theorem rv_sticky {t1 t2 w r T B : Int} {a b sh : Nat} (h2 : 0 < t2) (hw : t1 * 2 ^ sh = w * t2 + r) (r0 : 0 ≤ r) (r1 : r < t2) (hT : T = t1 * 2 ^ a) (hB : B = t2 * 2 ^ b) (big : 2 ^ 54 ≤ w) :
    RV (ltF T B) (eqF T B) (2 * w + (if r = 0 then 0 else 1)) ((a : Int) - b - sh - 1) (if r = 0 then 0 else 1) := by
  have S := tp sh
  have key : ∀ c k, (ltF T B c k ↔ (w * t2 + r) * (2 ^ a * 2 ^ (-k).toNat) < c * t2 * (2 ^ k.toNat * 2 ^ b * 2 ^ sh)) ∧ (eqF T B c k ↔ (w * t2 + r) * (2 ^ a * 2 ^ (-k).toNat) = c * t2 * (2 ^ k.toNat * 2 ^ b * 2 ^ sh)) := by
    intro c k
    unfold ltF eqF
    rw [← Int.mul_lt_mul_right S, ← mul_eq_r S]
    have l : T * 2 ^ (-k).toNat * 2 ^ sh = (w * t2 + r) * (2 ^ a * 2 ^ (-k).toNat) := by rw [← hw, hT]; ac_rfl
    have r : c * 2 ^ k.toNat * B * 2 ^ sh = c * t2 * (2 ^ k.toNat * 2 ^ b * 2 ^ sh) := by rw [hB]; ac_rfl
    rw [l, r]
    exact ⟨Iff.rfl, Iff.rfl⟩
  by_cases hr : r = 0
  · simp only [if_pos hr]
    subst hr
    have dn : ∀ c k, k ≤ (a : Int) - b - sh - 1 → (ltF T B c k ↔ (2 * w + 0) * 2 ^ ((a : Int) - b - sh - 1 - k).toNat < c) ∧ (eqF T B c k ↔ (2 * w + 0) * 2 ^ ((a : Int) - b - sh - 1 - k).toNat = c) := by
      intro c k hk
      rw [(key c k).1, (key c k).2]
      have Y : (0 : Int) < t2 * (2 ^ k.toNat * 2 ^ b * 2 ^ sh) := Int.mul_pos h2 (Int.mul_pos (Int.mul_pos (tp _) (tp _)) S)
      have x : (2 : Int) ^ a * 2 ^ (-k).toNat = 2 * (2 ^ ((a : Int) - b - sh - 1 - k).toNat * (2 ^ k.toNat * 2 ^ b * 2 ^ sh)) := by
        rw [← tpa, ← tpa, ← tpa, ← tpa, ← tps]
        congr 1
        omega
      have l : (w * t2 + 0) * (2 ^ a * 2 ^ (-k).toNat) = (2 * w + 0) * 2 ^ ((a : Int) - b - sh - 1 - k).toNat * (t2 * (2 ^ k.toNat * 2 ^ b * 2 ^ sh)) := by
        rw [x, Int.add_zero, Int.add_zero]
        ac_rfl
      have r : c * t2 * (2 ^ k.toNat * 2 ^ b * 2 ^ sh) = c * (t2 * (2 ^ k.toNat * 2 ^ b * 2 ^ sh)) := Int.mul_assoc _ _ _
      rw [l, r, Int.mul_lt_mul_right Y, mul_eq_r Y]
      exact ⟨Iff.rfl, Iff.rfl⟩
    refine ⟨.inl rfl, fun c k hk => ?_, fun _ => dn, fun c k hk hc => ?_⟩
    · rw [(key c k).1, (key c k).2]
      have X : (0 : Int) < t2 * (2 ^ a * 2 ^ (-k).toNat) := Int.mul_pos h2 (Int.mul_pos (tp _) (tp _))
      have x : 2 * ((2 : Int) ^ k.toNat * 2 ^ b * 2 ^ sh) = 2 ^ (k - ((a : Int) - b - sh - 1)).toNat * (2 ^ a * 2 ^ (-k).toNat) := by
        rw [← tpa, ← tpa, ← tpa, ← tpa, ← tps]
        congr 1
        omega
      have l : 2 * ((w * t2 + 0) * (2 ^ a * 2 ^ (-k).toNat)) = (2 * w + 0) * (t2 * (2 ^ a * 2 ^ (-k).toNat)) := by
        rw [Int.add_zero, Int.add_zero]
        ac_rfl
      have r : 2 * (c * t2 * (2 ^ k.toNat * 2 ^ b * 2 ^ sh)) = c * 2 ^ (k - ((a : Int) - b - sh - 1)).toNat * (t2 * (2 ^ a * 2 ^ (-k).toNat)) := by
        have : 2 * (c * t2 * (2 ^ k.toNat * 2 ^ b * 2 ^ sh)) = c * t2 * (2 * (2 ^ k.toNat * 2 ^ b * 2 ^ sh)) := by ac_rfl
        rw [this, x]
        ac_rfl
      have e1 := Int.mul_lt_mul_right (b := 2 * w + 0) (c := c * 2 ^ (k - ((a : Int) - b - sh - 1)).toNat) X
      have e2 := mul_eq_r (a := 2 * w + 0) (b := c * 2 ^ (k - ((a : Int) - b - sh - 1)).toNat) X
      rw [← l, ← r] at e1 e2
      rw [← e1, ← e2]
      exact ⟨⟨fun h => by omega, fun h => by omega⟩, ⟨fun h => by omega, fun h => by omega⟩⟩
    · rw [(dn c k hk).1]
      rw [Int.sub_zero] at hc
      omega
  · simp only [if_neg hr]
    refine ⟨.inr ⟨rfl, ?_⟩, fun c k hk => ?_, fun h => absurd h (by decide), fun c k hk hc => ?_⟩
    · have z := bits_ge (n := 55) (t := 2 * w + 1) (by omega)
      omega
    · rw [(key c k).1, (key c k).2]
      have X : (0 : Int) < 2 ^ a * 2 ^ (-k).toNat := Int.mul_pos (tp _) (tp _)
      have x : (2 : Int) ^ k.toNat * 2 ^ b * 2 ^ sh = 2 ^ (k - ((a : Int) - b - sh - 1) - 1).toNat * (2 ^ a * 2 ^ (-k).toNat) := by
        rw [← tpa, ← tpa, ← tpa, ← tpa]
        congr 1
        omega
      have y : (2 : Int) ^ (k - ((a : Int) - b - sh - 1)).toNat = 2 * 2 ^ (k - ((a : Int) - b - sh - 1) - 1).toNat := by
        rw [← tps]
        congr 1
        omega
      have rr : c * t2 * (2 ^ k.toNat * 2 ^ b * 2 ^ sh) = c * 2 ^ (k - ((a : Int) - b - sh - 1) - 1).toNat * t2 * (2 ^ a * 2 ^ (-k).toNat) := by
        rw [x]
        ac_rfl
      have z : c * (2 * 2 ^ (k - ((a : Int) - b - sh - 1) - 1).toNat) = 2 * (c * 2 ^ (k - ((a : Int) - b - sh - 1) - 1).toNat) := by ac_rfl
      rw [rr, Int.mul_lt_mul_right X, mul_eq_r X, y, z]
      generalize c * 2 ^ (k - ((a : Int) - b - sh - 1) - 1).toNat = E
      rcases Int.lt_or_le w E with q | q
      · have := Int.mul_le_mul_of_nonneg_right (show w + 1 ≤ E by omega) (Int.le_of_lt h2)
        rw [Int.add_mul, Int.one_mul] at this
        exact ⟨⟨fun _ => by omega, fun _ => by omega⟩, ⟨fun _ => by omega, fun _ => by omega⟩⟩
      · have := Int.mul_le_mul_of_nonneg_right q (Int.le_of_lt h2)
        exact ⟨⟨fun _ => by omega, fun _ => by omega⟩, ⟨fun _ => by omega, fun _ => by omega⟩⟩
    · rw [(key c k).1]
      have Y : (0 : Int) < t2 * (2 ^ k.toNat * 2 ^ b * 2 ^ sh) := Int.mul_pos h2 (Int.mul_pos (Int.mul_pos (tp _) (tp _)) S)
      have X : (0 : Int) < 2 ^ a * 2 ^ (-k).toNat := Int.mul_pos (tp _) (tp _)
      have x : (2 : Int) ^ a * 2 ^ (-k).toNat = 2 * (2 ^ ((a : Int) - b - sh - 1 - k).toNat * (2 ^ k.toNat * 2 ^ b * 2 ^ sh)) := by
        rw [← tpa, ← tpa, ← tpa, ← tpa, ← tps]
        congr 1
        omega
      have l : w * t2 * (2 ^ a * 2 ^ (-k).toNat) = 2 * w * 2 ^ ((a : Int) - b - sh - 1 - k).toNat * (t2 * (2 ^ k.toNat * 2 ^ b * 2 ^ sh)) := by
        rw [x]
        ac_rfl
      have r' : c * t2 * (2 ^ k.toNat * 2 ^ b * 2 ^ sh) = c * (t2 * (2 ^ k.toNat * 2 ^ b * 2 ^ sh)) := Int.mul_assoc _ _ _
      have m1 := Int.mul_le_mul_of_nonneg_right hc (Int.le_of_lt Y)
      rw [show 2 * w + 1 - 1 = 2 * w by omega, ← l] at m1
      have m2 : w * t2 * (2 ^ a * 2 ^ (-k).toNat) ≤ (w * t2 + r) * (2 ^ a * 2 ^ (-k).toNat) := Int.mul_le_mul_of_nonneg_right (by omega) (Int.le_of_lt X)
      rw [r']
      omega
end U
namespace U
open PySem
/-! ## reckoning with floats -/
def sgnI (e : Int) : Int := if e > 0 then 1 else -1
def absI (e : Int) : Int := (e.natAbs : Int)
def alF (s t p u : Int) : Int := s * t * 2 ^ (p - u).toNat
def Fl.opp : Fl → Fl
  | .fin s t p => .fin (-s) t p
  | .inf s => .inf (-s)
  | .nan => .nan
def totF (s t p s' t' p' : Int) : Fl := if alF s t p (min p p') + alF s' t' p' (min p p') = 0 then .fin (if s < 0 ∧ s' < 0 then -1 else 1) 0 0 else
  rndF (sgnI (alF s t p (min p p') + alF s' t' p' (min p p'))) (absI (alF s t p (min p p') + alF s' t' p' (min p p'))) (min p p')
def addF : Fl → Fl → Fl
  | .nan, _ => .nan
  | _, .nan => .nan
  | .inf s, .inf s' => if s ≠ s' then .nan else .inf s
  | .inf s, .fin _ _ _ => .inf s
  | .fin _ _ _, .inf s => .inf s
  | .fin s t p, .fin s' t' p' => totF s t p s' t' p'
def mulF : Fl → Fl → Fl
  | .nan, _ => .nan
  | _, .nan => .nan
  | .inf s, .inf s' => .inf (s * s')
  | .inf s, .fin s' t _ => if t = 0 then .nan else .inf (s * s')
  | .fin s t _, .inf s' => if t = 0 then .nan else .inf (s * s')
  | .fin s t p, .fin s' t' p' => rndF (s * s') (t * t') (p + p')
def shF (t t' : Int) : Int := max 0 (55 + bits t' - bits t)
def quoF (s t p s' t' p' : Int) : Fl := rndF (s * s') (2 * (t * 2 ^ (shF t t').toNat / t') + (if t * 2 ^ (shF t t').toNat % t' = 0 then 0 else 1)) (p - p' - shF t t' - 1)
def divF : Fl → Fl → Fl
  | .nan, _ => .nan
  | _, .nan => .nan
  | .inf _, .inf _ => .nan
  | .inf s, .fin s' _ _ => .inf (s * s')
  | .fin s _ _, .inf s' => .fin (s * s') 0 0
  | .fin s t p, .fin s' t' p' => if t = 0 ∧ t' = 0 then .nan else if t' = 0 then .inf (s * s') else quoF s t p s' t' p'
def Fl.ok : Fl → Prop
  | .fin s t p => (s = 1 ∨ s = -1) ∧ 0 ≤ t ∧ oddF t p = (t, p) ∧ isF t p = true
  | .inf s => s = 1 ∨ s = -1
  | .nan => True
theorem oddF_idem (t p : Int) (h : 0 ≤ t) : oddF (oddF t p).1 (oddF t p).2 = oddF t p := by
  by_cases e : t = 0
  · subst e
    rw [oddF_zero, oddF_zero]
  · obtain ⟨m, j, hm, rfl⟩ := split_of (show 0 < t by omega)
    rw [oddF_char hm]
    have z := oddF_char (m := m) (j := 0) hm (p + j)
    rw [Nat.pow_zero, Nat.mul_one] at z
    rw [z]
    exact Prod.ext rfl (by show p + (j : Int) + ((0 : Nat) : Int) = p + j; omega)
theorem isF_end {t p : Int} (h : 0 < t) (h1 : t ≤ 2 ^ 53) (h2 : -1074 ≤ p) (h3 : bits t + p ≤ 1024) : isF (oddF t p).1 (oddF t p).2 = true := by
  obtain ⟨m, j, hm, rfl⟩ := split_of h
  rw [oddF_char hm]
  have b1 := bits_shift (show 0 < m by omega) j
  have b2 : bits (((m * 2 ^ j : Nat) : Int)) ≤ 54 := bits_le (n := 54) (by omega) (by omega)
  have b3 := bits_nonneg (m : Int)
  have b4 : bits (m : Int) ≤ 53 := by
    by_cases j0 : j = 0
    · subst j0
      rw [Nat.pow_zero, Nat.mul_one] at h1
      refine bits_le (n := 53) (by omega) ?_
      have : (m : Int) ≠ 2 ^ 53 := by omega
      omega
    · omega
  unfold isF
  simp only [Bool.and_eq_true, decide_eq_true_eq]
  exact ⟨b4, by omega, by omega⟩
theorem zero_ok {s : Int} (hs : s = 1 ∨ s = -1) : Fl.ok (.fin s 0 0) := ⟨hs, by decide, oddF_zero 0, by decide +kernel⟩
theorem end_ok {s t p : Int} (hs : s = 1 ∨ s = -1) (h : 0 ≤ t) (h1 : t ≤ 2 ^ 53) (h2 : 0 < t → -1074 ≤ p) : Fl.ok (endF s t p) := by
  unfold endF
  split
  · exact hs
  · by_cases e : t = 0
    · subst e
      rw [oddF_zero]
      exact zero_ok hs
    · exact ⟨hs, oddF_top_nonneg h p, oddF_idem t p h, isF_end (by omega) h1 (h2 (by omega)) (by omega)⟩
theorem rnd_ok {s q m : Int} (hs : s = 1 ∨ s = -1) (hq : 0 ≤ q) : Fl.ok (rndF s q m) := by
  unfold rndF
  by_cases hA : max (bits q - 53) (-1074 - m) > bits q
  · rw [if_pos hA]
    exact zero_ok hs
  rw [if_neg hA]
  by_cases hq0 : q = 0
  · subst hq0
    have b0 : bits 0 = 0 := by decide +kernel
    rw [b0] at hA ⊢
    rw [if_neg (by omega)]
    exact end_ok hs (by decide) (by decide) (fun h => absurd h (by decide))
  have h0 : 0 < q := by omega
  have bhi := bits_hi h0
  have b1 := bits_pos h0
  by_cases hB : max (bits q - 53) (-1074 - m) > 0
  · rw [if_pos hB]
    obtain ⟨D, hD⟩ : ∃ D : Nat, max (bits q - 53) (-1074 - m) = D := ⟨(max (bits q - 53) (-1074 - m)).toNat, by omega⟩
    rw [hD] at hA hB ⊢
    rw [Int.toNat_natCast]
    obtain ⟨k, r, h2, e2, eD, eq', r0, r1, k0, ek, ht⟩ := cut_facts D h0 (by omega)
    have kU : k < 2 ^ 53 := by
      rw [ek]
      refine Int.ediv_lt_of_lt_mul (tp D) ?_
      have z := tple (show (bits q).toNat ≤ 53 + D by omega)
      rw [tpa] at z
      omega
    exact end_ok hs (by omega) (by omega) (fun _ => by omega)
  · rw [if_neg hB]
    have qU : q < 2 ^ 53 := by
      have z := tple (show (bits q).toNat ≤ 53 by omega)
      omega
    exact end_ok hs hq (by omega) (fun _ => by omega)
theorem rnd_zero {s m : Int} (h : m ≤ 1024) : rndF s 0 m = .fin s 0 0 := by
  unfold rndF
  have b0 : bits 0 = 0 := by decide +kernel
  rw [b0]
  by_cases hA : max (0 - 53) (-1074 - m) > 0
  · rw [if_pos hA]
  · rw [if_neg hA, if_neg hA]
    unfold endF
    rw [b0, if_neg (by omega), oddF_zero]
/-! ### what valid parts are -/
theorem ok_bounds {s t p : Int} (h : Fl.ok (.fin s t p)) : (s = 1 ∨ s = -1) ∧ 0 ≤ t ∧ t < 2 ^ 53 ∧ (t = 0 → p = 0) ∧ -1074 ≤ p ∧ p ≤ 1024 := by
  obtain ⟨hs, h0, ho, hf⟩ := h
  unfold isF at hf
  simp only [Bool.and_eq_true, decide_eq_true_eq] at hf
  have b := bits_nonneg t
  refine ⟨hs, h0, ?_, fun e => ?_, hf.2.1, by omega⟩
  · by_cases e : t = 0
    · omega
    · have z := bits_hi (show 0 < t by omega)
      have y := tple (show (bits t).toNat ≤ 53 by omega)
      omega
  · subst e
    rw [oddF_zero] at ho
    exact (congrArg Prod.snd ho).symm
theorem opp_ok {f : Fl} (h : f.ok) : f.opp.ok := by
  cases f with
  | fin s t p => exact ⟨by have := h.1; omega, h.2⟩
  | inf s =>
    have h : s = 1 ∨ s = -1 := h
    show -s = 1 ∨ -s = -1
    omega
  | nan => exact True.intro
theorem sgnI_pm (e : Int) : sgnI e = 1 ∨ sgnI e = -1 := by
  unfold sgnI
  split <;> omega
theorem mul_pm {s s' : Int} (h : s = 1 ∨ s = -1) (h' : s' = 1 ∨ s' = -1) : s * s' = 1 ∨ s * s' = -1 := by
  rcases h with rfl | rfl <;> rcases h' with rfl | rfl <;> decide
theorem tot_ok {s t p s' t' p' : Int} : Fl.ok (totF s t p s' t' p') := by
  unfold totF
  split
  · exact zero_ok (by split <;> omega)
  · exact rnd_ok (sgnI_pm _) (by unfold absI; omega)
theorem ite_ok {c : Prop} [Decidable c] {a b : Fl} (ha : a.ok) (hb : b.ok) : (if c then a else b).ok := by
  split
  · exact ha
  · exact hb
theorem add_ok {f g : Fl} (hf : f.ok) (hg : g.ok) : (addF f g).ok := by
  cases f <;> cases g
  · exact tot_ok
  · exact hg
  · exact True.intro
  · exact hf
  · exact ite_ok (a := .nan) True.intro hf
  all_goals exact True.intro
theorem mul_ok {f g : Fl} (hf : f.ok) (hg : g.ok) : (mulF f g).ok := by
  cases f with
  | fin s t p =>
    cases g with
    | fin s' t' p' => exact rnd_ok (mul_pm hf.1 hg.1) (Int.mul_nonneg hf.2.1 hg.2.1)
    | inf s' => exact ite_ok (c := t = 0) (a := .nan) (b := .inf (s * s')) True.intro (mul_pm hf.1 hg)
    | nan => exact True.intro
  | inf s =>
    cases g with
    | fin s' t' p' => exact ite_ok (c := t' = 0) (a := .nan) (b := .inf (s * s')) True.intro (mul_pm hf hg.1)
    | inf s' => exact mul_pm hf hg
    | nan => exact True.intro
  | nan => cases g <;> exact True.intro
theorem quo_ok {s t p s' t' p' : Int} (hs : s = 1 ∨ s = -1) (hs' : s' = 1 ∨ s' = -1) (h : 0 ≤ t) (h' : 0 ≤ t') : Fl.ok (quoF s t p s' t' p') := by
  refine rnd_ok (mul_pm hs hs') ?_
  have := Int.ediv_nonneg (Int.mul_nonneg h (Int.le_of_lt (tp (shF t t').toNat))) h'
  split <;> omega
theorem div_ok {f g : Fl} (hf : f.ok) (hg : g.ok) : (divF f g).ok := by
  cases f with
  | fin s t p =>
    cases g with
    | fin s' t' p' => exact ite_ok (c := t = 0 ∧ t' = 0) (a := .nan) (b := if t' = 0 then .inf (s * s') else quoF s t p s' t' p') True.intro (ite_ok (a := .inf (s * s')) (mul_pm hf.1 hg.1) (quo_ok hf.1 hg.1 hf.2.1 hg.2.1))
    | inf s' => exact zero_ok (mul_pm hf.1 hg)
    | nan => exact True.intro
  | inf s =>
    cases g with
    | fin s' t' p' => exact mul_pm hf hg.1
    | inf s' => exact True.intro
    | nan => exact True.intro
  | nan => cases g <;> exact True.intro
/-! ### turned about -/
theorem tot_comm (s t p s' t' p' : Int) : totF s t p s' t' p' = totF s' t' p' s t p := by
  unfold totF
  rw [Int.min_comm p' p, Int.add_comm (alF s' t' p' (min p p'))]
  have e : (if s < 0 ∧ s' < 0 then (-1 : Int) else 1) = if s' < 0 ∧ s < 0 then -1 else 1 := by
    by_cases h : s < 0 ∧ s' < 0
    · rw [if_pos h, if_pos ⟨h.2, h.1⟩]
    · rw [if_neg h, if_neg (fun z => h ⟨z.2, z.1⟩)]
  rw [e]
theorem add_comm' (f g : Fl) : addF f g = addF g f := by
  cases f <;> cases g <;> first | rfl | exact tot_comm _ _ _ _ _ _ | skip
  rename_i a b
  show (if a ≠ b then Fl.nan else .inf a) = if b ≠ a then Fl.nan else .inf b
  by_cases h : a = b
  · subst h
    rfl
  · rw [if_pos h, if_pos (fun z => h z.symm)]
theorem mul_comm' (f g : Fl) : mulF f g = mulF g f := by
  cases f <;> cases g <;> first | rfl | skip
  · rename_i s t p s' t' p'
    show rndF (s * s') (t * t') (p + p') = rndF (s' * s) (t' * t) (p' + p)
    rw [Int.mul_comm s, Int.mul_comm t, Int.add_comm p]
  · rename_i s t p s'
    show (if t = 0 then Fl.nan else .inf (s * s')) = if t = 0 then Fl.nan else .inf (s' * s)
    rw [Int.mul_comm s]
  · rename_i s' s t p
    show (if t = 0 then Fl.nan else .inf (s' * s)) = if t = 0 then Fl.nan else .inf (s * s')
    rw [Int.mul_comm s]
  · rename_i s s'
    show Fl.inf (s * s') = .inf (s' * s)
    rw [Int.mul_comm s]
end U
namespace U
open PySem
/-! ## what is reckoned is the nearest float -/
def ExactOk (f : Fl) (T B z : Int) : Prop := (T = 0 → f = .fin z 0 0) ∧ (T ≠ 0 → Good (ltF (absI T) B) (eqF (absI T) B) (sgnI T) f)
theorem sgn_mul {e : Int} (n : Nat) : sgnI (e * 2 ^ n) = sgnI e := by
  unfold sgnI
  have := tp n
  by_cases h : e > 0
  · rw [if_pos h, if_pos (Int.mul_pos h this)]
  · have z := Int.mul_le_mul_of_nonneg_right (show e ≤ 0 by omega) (Int.le_of_lt this)
    rw [if_neg h, if_neg (by omega)]
theorem abs_mul2 {e : Int} (n : Nat) : absI (e * 2 ^ n) = absI e * 2 ^ n := by
  unfold absI
  rw [Int.natAbs_mul]
  have h : ((2 : Int) ^ n).natAbs = 2 ^ n := by
    have := tp n
    have c : ((2 ^ n : Nat) : Int) = 2 ^ n := by simp
    omega
  rw [h]
  simp
theorem abs_pos {e : Int} (h : e ≠ 0) : 0 < absI e := by
  unfold absI
  omega
theorem mul_zero_pow {e : Int} {n : Nat} : e * 2 ^ n = 0 ↔ e = 0 := by
  have := tp n
  constructor
  · intro h
    rcases Int.mul_eq_zero.mp h with h | h <;> omega
  · intro h
    rw [h, Int.zero_mul]
theorem tot_exact {s t p s' t' p' : Int} (h1 : Fl.ok (.fin s t p)) (h2 : Fl.ok (.fin s' t' p')) :
    ExactOk (totF s t p s' t' p') (s * (t * 2 ^ p.toNat) * 2 ^ (-p').toNat + s' * (t' * 2 ^ p'.toNat) * 2 ^ (-p).toNat) (2 ^ (-p).toNat * 2 ^ (-p').toNat) (if s + s' ≥ 0 ∨ t + t' > 0 then 1 else -1) := by
  obtain ⟨hs, ht, -⟩ := ok_bounds h1
  obtain ⟨hs', ht', -⟩ := ok_bounds h2
  have hT : s * (t * 2 ^ p.toNat) * 2 ^ (-p').toNat + s' * (t' * 2 ^ p'.toNat) * 2 ^ (-p).toNat = (alF s t p (min p p') + alF s' t' p' (min p p')) * 2 ^ (min p p' + (-p).toNat + (-p').toNat).toNat := by
    unfold alF
    rw [Int.add_mul]
    have e1 : (2 : Int) ^ (p - min p p').toNat * 2 ^ (min p p' + (-p).toNat + (-p').toNat).toNat = 2 ^ p.toNat * 2 ^ (-p').toNat := by
      rw [← tpa, ← tpa]
      congr 1
      omega
    have e2 : (2 : Int) ^ (p' - min p p').toNat * 2 ^ (min p p' + (-p).toNat + (-p').toNat).toNat = 2 ^ p'.toNat * 2 ^ (-p).toNat := by
      rw [← tpa, ← tpa]
      congr 1
      omega
    rw [Int.mul_assoc (s * t), e1, Int.mul_assoc (s' * t'), e2]
    ac_rfl
  have hB : (2 : Int) ^ (-p).toNat * 2 ^ (-p').toNat = 2 ^ ((-p).toNat + (-p').toNat) := (tpa _ _).symm
  have tz : alF s t p (min p p') + alF s' t' p' (min p p') = 0 → s < 0 → s' < 0 → t + t' = 0 := by
    intro e a b
    have es : s = -1 := by omega
    have es' : s' = -1 := by omega
    subst es es'
    unfold alF at e
    have y1 := Int.mul_le_mul_of_nonneg_left (tp1 (p - min p p').toNat) ht
    have y2 := Int.mul_le_mul_of_nonneg_left (tp1 (p' - min p p').toNat) ht'
    rw [Int.mul_assoc, Int.mul_assoc] at e
    omega
  rw [hT, hB]
  unfold totF
  generalize alF s t p (min p p') + alF s' t' p' (min p p') = e at tz ⊢
  refine ⟨fun h => ?_, fun h => ?_⟩
  · have e0 := mul_zero_pow.mp h
    rw [if_pos e0]
    congr 1
    by_cases c : s < 0 ∧ s' < 0
    · have := tz e0 c.1 c.2
      rw [if_pos c, if_neg (by omega)]
    · rw [if_neg c, if_pos (by omega)]
  · have e0 : e ≠ 0 := fun q => h (mul_zero_pow.mpr q)
    rw [if_neg e0, sgn_mul, abs_mul2]
    have V := rv_exact (e := absI e) (T := absI e * 2 ^ (min p p' + (-p).toNat + (-p').toNat).toNat) (B := 2 ^ ((-p).toNat + (-p').toNat)) rfl rfl
    rw [show (((min p p' + ((-p).toNat : Int) + ((-p').toNat : Int)).toNat : Nat) : Int) - (((-p).toNat + (-p').toNat : Nat) : Int) = min p p' by omega] at V
    exact rnd_good (abs_pos e0) V
theorem sub_exact {s t p s' t' p' : Int} (h1 : Fl.ok (.fin s t p)) (h2 : Fl.ok (.fin s' t' p')) :
    ExactOk (totF s t p (-s') t' p') (s * (t * 2 ^ p.toNat) * 2 ^ (-p').toNat - s' * (t' * 2 ^ p'.toNat) * 2 ^ (-p).toNat) (2 ^ (-p).toNat * 2 ^ (-p').toNat) (if s - s' ≥ 0 ∨ t + t' > 0 then 1 else -1) := by
  have z := tot_exact h1 (opp_ok h2)
  rw [Int.neg_mul, Int.neg_mul] at z
  rw [Int.sub_eq_add_neg, Int.sub_eq_add_neg]
  exact z
theorem sgn_pm {s : Int} (h : s = 1 ∨ s = -1) {a : Int} (ha : 0 < a) : sgnI (s * a) = s ∧ absI (s * a) = a := by
  unfold sgnI absI
  rcases h with rfl | rfl
  · rw [Int.one_mul, if_pos ha]
    omega
  · rw [show (-1 : Int) * a = -a by omega, if_neg (by omega)]
    omega
theorem mul_exact {s t p s' t' p' : Int} (h1 : Fl.ok (.fin s t p)) (h2 : Fl.ok (.fin s' t' p')) :
    ExactOk (rndF (s * s') (t * t') (p + p')) (s * (t * 2 ^ p.toNat) * (s' * (t' * 2 ^ p'.toNat))) (2 ^ (-p).toNat * 2 ^ (-p').toNat) (s * s') := by
  obtain ⟨hs, ht, -, hp0, -, hpU⟩ := ok_bounds h1
  obtain ⟨hs', ht', -, hp0', -, hpU'⟩ := ok_bounds h2
  have hT : s * (t * 2 ^ p.toNat) * (s' * (t' * 2 ^ p'.toNat)) = s * s' * (t * t' * 2 ^ (p.toNat + p'.toNat)) := by
    rw [tpa]
    ac_rfl
  have hpm := mul_pm hs hs'
  rw [hT, ← tpa]
  refine ⟨fun h => ?_, fun h => ?_⟩
  · have e0 : t * t' = 0 := by
      rcases Int.mul_eq_zero.mp h with h | h
      · omega
      · exact mul_zero_pow.mp h
    rw [e0]
    refine rnd_zero ?_
    rcases Int.mul_eq_zero.mp e0 with h | h
    · have := hp0 h
      omega
    · have := hp0' h
      omega
  · have e0 : t * t' ≠ 0 := fun q => h (by rw [q, Int.zero_mul, Int.mul_zero])
    have q0 : 0 < t * t' := by
      have := Int.mul_nonneg ht ht'
      omega
    obtain ⟨e1, e2⟩ := sgn_pm hpm (Int.mul_pos q0 (tp (p.toNat + p'.toNat)))
    rw [e1, e2]
    have V := rv_exact (e := t * t') (T := t * t' * 2 ^ (p.toNat + p'.toNat)) (B := 2 ^ ((-p).toNat + (-p').toNat)) rfl rfl
    rw [show (((p.toNat + p'.toNat : Nat) : Int)) - (((-p).toNat + (-p').toNat : Nat) : Int) = p + p' by omega] at V
    exact rnd_good q0 V
theorem quo_exact {s t p s' t' p' : Int} (h1 : Fl.ok (.fin s t p)) (h2 : Fl.ok (.fin s' t' p')) (n0 : t' ≠ 0) :
    ExactOk (quoF s t p s' t' p') (s' * (s * (t * 2 ^ p.toNat) * 2 ^ (-p').toNat)) (s' * (2 ^ (-p).toNat * (s' * (t' * 2 ^ p'.toNat)))) (s * s') := by
  obtain ⟨hs, ht, hU, hp0, hpL, hpU⟩ := ok_bounds h1
  obtain ⟨hs', ht', hU', hp0', hpL', hpU'⟩ := ok_bounds h2
  have t2 : 0 < t' := by omega
  have hpm := mul_pm hs hs'
  have ss : s' * s' = 1 := by rcases hs' with rfl | rfl <;> decide
  have hT : s' * (s * (t * 2 ^ p.toNat) * 2 ^ (-p').toNat) = s * s' * (t * 2 ^ (p.toNat + (-p').toNat)) := by
    rw [tpa]
    ac_rfl
  have hB : s' * (2 ^ (-p).toNat * (s' * (t' * 2 ^ p'.toNat))) = t' * 2 ^ ((-p).toNat + p'.toNat) := by
    rw [tpa]
    calc s' * (2 ^ (-p).toNat * (s' * (t' * 2 ^ p'.toNat))) = s' * s' * (t' * (2 ^ (-p).toNat * 2 ^ p'.toNat)) := by ac_rfl
      _ = _ := by rw [ss, Int.one_mul]
  rw [hT, hB]
  have bp := bits_pos t2
  have b2 := bits_nonneg t
  have shE : shF t t' = ((shF t t').toNat : Int) := by unfold shF; omega
  unfold quoF
  refine ⟨fun h => ?_, fun h => ?_⟩
  · have e0 : t = 0 := by
      rcases Int.mul_eq_zero.mp h with h | h
      · omega
      · exact mul_zero_pow.mp h
    have p0 := hp0 e0
    have b0 : bits 0 = 0 := by decide +kernel
    rw [e0, Int.zero_mul, Int.zero_ediv, Int.zero_emod, if_pos rfl]
    refine rnd_zero ?_
    unfold shF
    omega
  · have e0 : t ≠ 0 := fun q => h (by rw [q, Int.zero_mul, Int.mul_zero])
    have t1 : 0 < t := by omega
    obtain ⟨e1, e2⟩ := sgn_pm hpm (Int.mul_pos t1 (tp (p.toNat + (-p').toNat)))
    rw [e1, e2]
    have hw : t * 2 ^ (shF t t').toNat = t * 2 ^ (shF t t').toNat / t' * t' + t * 2 ^ (shF t t').toNat % t' := (Int.ediv_mul_add_emod _ _).symm
    have r0 := Int.emod_nonneg (t * 2 ^ (shF t t').toNat) n0
    have r1 := Int.emod_lt_of_pos (t * 2 ^ (shF t t').toNat) t2
    have big : 2 ^ 54 ≤ t * 2 ^ (shF t t').toNat / t' := by
      refine (Int.le_ediv_iff_mul_le t2).mpr ?_
      have lo := bits_lo t1
      have hi := bits_hi t2
      have b1 := bits_pos t1
      have m1 := Int.mul_le_mul_of_nonneg_right lo (Int.le_of_lt (tp (shF t t').toNat))
      have m2 : (2 : Int) ^ 54 * t' ≤ 2 ^ 54 * 2 ^ (bits t').toNat := Int.mul_le_mul_of_nonneg_left (Int.le_of_lt hi) (by decide)
      rw [← tpa] at m1 m2
      have z := tple (show 54 + (bits t').toNat ≤ (bits t - 1).toNat + (shF t t').toNat by unfold shF; omega)
      omega
    have V := rv_sticky (T := t * 2 ^ (p.toNat + (-p').toNat)) (B := t' * 2 ^ ((-p).toNat + p'.toNat)) t2 hw r0 r1 rfl rfl big
    rw [show (((p.toNat + (-p').toNat : Nat) : Int)) - (((-p).toNat + p'.toNat : Nat) : Int) - ((shF t t').toNat : Int) - 1 = p - p' - shF t t' - 1 by omega] at V
    refine rnd_good ?_ V
    split <;> omega
/-- an int as a float -/
def toF (n : Int) : Fl := rndF (if n < 0 then -1 else 1) (absI n) 0
theorem toF_ok (n : Int) : (toF n).ok := rnd_ok (by split <;> omega) (by unfold absI; omega)
theorem toF_exact (n : Int) : ExactOk (toF n) n 1 1 := by
  refine ⟨fun h => ?_, fun h => ?_⟩
  · subst h
    exact rnd_zero (by decide)
  · unfold toF
    have V := rv_exact (e := absI n) (T := absI n) (B := 1) (a := 0) (b := 0) (by rw [Int.pow_zero, Int.mul_one]) (by rw [Int.pow_zero])
    have e : sgnI n = if n < 0 then -1 else 1 := by
      unfold sgnI
      by_cases c : n > 0
      · rw [if_pos c, if_neg (by omega)]
      · rw [if_neg c, if_pos (by omega)]
    rw [e]
    exact rnd_good (abs_pos h) V
end U
namespace U
open PySem L2
/-! ## floats as tuples and as objects -/
def Fl.l : Fl → List V
  | .fin s t p => [.int s, .int t, .int p]
  | .inf s => [.int s, .str "inf", .int 0]
  | .nan => [.int 1, .str "nan", .int 0]
def FlL (f : Fl) (xs : List V) : Prop := xs = f.l
theorem flL_fin {s t p : Int} : FlL (.fin s t p) [.int s, .int t, .int p] := rfl
theorem flL_inf {s : Int} : FlL (.inf s) [.int s, .str "inf", .int 0] := rfl
theorem flL_nan : FlL .nan [.int 1, .str "nan", .int 0] := rfl
def FltF (C : Addr) (H : Hp) (x : Addr) : Fl → Prop
  | .fin s t p => Flt C H x s (.int t) p
  | .inf s => Flt C H x s (.str "inf") 0
  | .nan => Flt C H x 1 (.str "nan") 0
theorem FltF.same {C : Addr} {H H' : Hp} {x : Addr} {f : Fl} (h : FltF C H x f) (e : Same H H') : FltF C H' x f := by
  cases f <;> exact Flt.same h e
theorem FltF.ex {C : Addr} {H H' : Hp} {x w : Addr} {f : Fl} (h : FltF C H x f) (e : Ex w H H') : FltF C H' x f := by
  cases f <;> exact Flt.ex h e
def Fl.isN : Fl → Bool
  | .nan => true
  | _ => false
/-- a number: a Float, or an int that goes in as one -/
def Nv (C : Addr) (H : Hp) (v : V) (f : Fl) : Prop := (∃ x, v = .ref x ∧ FltF C H x f ∧ f.ok) ∨ (∃ n, v = .int n ∧ -18446744073709551616 ≤ n ∧ n ≤ 18446744073709551616 ∧ f = toF n)
theorem nv_ref {C : Addr} {H : Hp} {x : Addr} {f : Fl} (h : FltF C H x f) (k : f.ok) : Nv C H (.ref x) f := .inl ⟨x, rfl, h, k⟩
theorem nv_int {C : Addr} {H : Hp} {n : Int} (h1 : -18446744073709551616 ≤ n) (h2 : n ≤ 18446744073709551616) : Nv C H (.int n) (toF n) := .inr ⟨n, rfl, h1, h2, rfl⟩
theorem Nv.ok {C : Addr} {H : Hp} {v : V} {f : Fl} (h : Nv C H v f) : f.ok := by
  rcases h with ⟨_, _, _, k⟩ | ⟨n, _, _, _, rfl⟩
  · exact k
  · exact toF_ok n
theorem Nv.same {C : Addr} {H H' : Hp} {v : V} {f : Fl} (h : Nv C H v f) (e : Same H H') : Nv C H' v f := by
  rcases h with ⟨x, rfl, hx, k⟩ | h
  · exact .inl ⟨x, rfl, hx.same e, k⟩
  · exact .inr h
inductive Wd where
  | add | sub | mul | div
def Wd.s : Wd → Str
  | .add => "add" | .sub => "sub" | .mul => "mul" | .div => "div"
def Wd.F : Wd → Fl → Fl → Fl
  | .add, f, g => addF f g | .sub, f, g => addF f g.opp | .mul, f, g => mulF f g | .div, f, g => divF f g
theorem wd_ok {w : Wd} {f g : Fl} (hf : f.ok) (hg : g.ok) : (w.F f g).ok := by
  cases w
  · exact add_ok hf hg
  · exact add_ok hf (opp_ok hg)
  · exact mul_ok hf hg
  · exact div_ok hf hg
/-! ### the promises -/
def spCut : Sp := fun vs H Q _ => ∃ t d : Int, vs = [.int t, .int d] ∧ 0 ≤ t ∧ 0 < d ∧ bits t ≤ 50000 ∧ d ≤ 50000 ∧ Q (.int (cutF t d.toNat)) H
def spRnd : Sp := fun vs H Q _ => ∃ s t p : Int, vs = [.int s, .int t, .int p] ∧ 0 ≤ t ∧ bits t ≤ 40000 ∧ -40000 ≤ p ∧ p ≤ 40000 ∧ ∀ r H' zs, Same H H' → H' r = some (.tup zs) → FlL (rndF s t p) zs → Q (.ref r) H'
def spAli (K : PySem.W.Frag) : Sp := fun vs H Q _ => ∃ (a b : Addr) (s t p s' t' p' : Int), vs = [.ref a, .ref b] ∧ SqT K H a [.int s, .int t, .int p] ∧ SqT K H b [.int s', .int t', .int p'] ∧ Fl.ok (.fin s t p) ∧ Fl.ok (.fin s' t' p') ∧
  ∀ r H', Same H H' → H' r = some (.tup [.int (alF s t p (min p p')), .int (alF s' t' p' (min p p')), .int (min p p')]) → Q (.ref r) H'
def spHn (K : PySem.W.Frag) : Sp := fun vs H Q _ => ∃ (a b : Addr) (xs ys : List V) (f g : Fl), vs = [.ref a, .ref b] ∧ SqT K H a xs ∧ SqT K H b ys ∧ FlL f xs ∧ FlL g ys ∧ Q (.bl (f.isN || g.isN)) H
def spTwo (K : PySem.W.Frag) (F : Fl → Fl → Fl) : Sp := fun vs H Q _ => ∃ (a b : Addr) (xs ys : List V) (f g : Fl), vs = [.ref a, .ref b] ∧ SqT K H a xs ∧ SqT K H b ys ∧ FlL f xs ∧ FlL g ys ∧ f.ok ∧ g.ok ∧
  ∀ r H' zs, Same H H' → SqT K H' r zs → FlL (F f g) zs → Q (.ref r) H'
def spOpp (K : PySem.W.Frag) : Sp := fun vs H Q _ => ∃ (a : Addr) (xs : List V) (f : Fl), vs = [.ref a] ∧ SqT K H a xs ∧ FlL f xs ∧ ∀ r H' zs, Same H H' → SqT K H' r zs → FlL f.opp zs → Q (.ref r) H'
def spRec (K : PySem.W.Frag) : Sp := fun vs H Q _ => ∃ (z : Str) (w : Wd) (a b : Addr) (xs ys : List V) (f g : Fl), vs = [.str z, .ref a, .ref b] ∧ z = w.s ∧ SqT K H a xs ∧ SqT K H b ys ∧ FlL f xs ∧ FlL g ys ∧ f.ok ∧ g.ok ∧
  ∀ r H' zs, Same H H' → SqT K H' r zs → FlL (w.F f g) zs → Q (.ref r) H'
def spPart (C : Addr) : Sp := fun vs H Q _ => ∃ v, vs = [v] ∧ ((∃ (x : Addr) (f : Fl), v = .ref x ∧ FltF C H x f ∧ ∀ r H' zs, Same H H' → H' r = some (.tup zs) → FlL f zs → Q (.ref r) H') ∨
  (∃ n : Int, v = .int n ∧ ∀ r H', Same H H' → H' r = some (.tup [.int (if n < 0 then -1 else 1), .int (absI n), .int 0]) → Q (.ref r) H'))
def spToFl (C : Addr) : Sp := fun vs H Q _ => ∃ (v : V) (f : Fl), vs = [v] ∧ Nv C H v f ∧ ∀ x H', Same H H' → FltF C H' x f → Q (.ref x) H'
def spAri (C : Addr) : Sp := fun vs H Q _ => ∃ (z : Str) (w : Wd) (v u : V) (f g : Fl), vs = [.str z, v, u] ∧ z = w.s ∧ Nv C H v f ∧ Nv C H u g ∧ (w = .div ∨ (∃ x, v = .ref x) ∨ ∃ x, u = .ref x) ∧ ∀ x H', Same H H' → FltF C H' x (w.F f g) → Q (.ref x) H'
def spNeg (C : Addr) : Sp := fun vs H Q _ => ∃ (x : Addr) (f : Fl), vs = [.ref x] ∧ FltF C H x f ∧ f.ok ∧ ∀ y H', Same H H' → FltF C H' y f.opp → Q (.ref y) H'
/-! ### a class is called with a row of arguments -/
def tMakeSt (K : PySem.W.Frag) (C : Addr) (sp : Sp) (E : XK) (te : TE) : TE := fun σ H Q => te σ H fun y H1 => ∃ a xs, y = V.ref a ∧ (SqT K H1 a xs ∨ SqL K H1 a xs) ∧ MkAt C sp E xs H1 Q
section
variable {X : Cx} {k k0 : Nat} {C : Addr} {x : Str} {ps : List Str} {sp : Sp} {e : Expr} {te : TE} {p pos sp_ : Pos}
theorem pe_mkSt (G : CalC X.prog X.w X.K X.mg X.base (L2.CX X.prog X.w) k x C ps sp) (hr : Room k0 X.A) (he : PE X e te) (hk : k + 1 ≤ k0 := by decide) (hg : Gl X x := by rfl) (hdb : (x == ("__debug__" : Str)) = false := by decide)
    (hst : starEach [.Starred e sp_] X.env = [(true, eval e X.env)] := by rfl) : PE X (.Call (.Name x p) [.Starred e sp_] [] pos) (tMakeSt X.K C sp E0 te) := by
  obtain ⟨hm, f, fd, M, hb, F⟩ := G
  refine ⟨fun pins s σ H Q I h => wpAny_Call_Name_kw (ld_glob I hg hm ?_ hdb)⟩
  refine PySem.W.callWith_S (h₀ := X.base) I.ok.mod.kin M.kp (thn (he.run pins s σ H _ I h) fun v s1 ⟨y, H1, I1, ry, a, xs, ey, hxs, q⟩ => ?_) hst
  subst ey
  obtain rfl : v = Value.ref a := ry
  exact StX.star_any I1 hxs fun us s2 I2 rv => ⟨I2.kIn, makeAt (E := fun _ => E0) M F (hr.mono hk) hb (fun pins H s e s' I c => passL pins σ H s e s' I c) I2 rv q⟩
end
section
variable {K : PySem.W.Frag} {C IA : Addr} {H : Hp} {Q : VK} {E : XK} {σ : St}
theorem floatOf_ok {f : Fl} {xs : List V} (h : FlL f xs) (k : f.ok) : ∃ s t p a, xs = [.int s, t, .int p] ∧ IsA K H t a ∧ floatOf (.int s) a (.int p) = .yes s t p ∧ ∀ C H x, Flt C H x s t p → FltF C H x f := by
  cases f with
  | fin s t p =>
    refine ⟨s, .int t, p, .int t, h, rfl, ?_, fun _ _ _ z => z⟩
    obtain ⟨hs, h0, ho, hf⟩ := k
    have z := floatOf_fin (p := p) hs h0 (by rw [ho]; exact hf)
    rw [ho] at z
    exact z
  | inf s => exact ⟨s, .str "inf", 0, .str "inf", h, rfl, floatOf_inf k, fun _ _ _ z => z⟩
  | nan => exact ⟨1, .str "nan", 0, .str "nan", h, rfl, floatOf_nan, fun _ _ _ z => z⟩
theorem l_mkSt {sp : Sp} {te : TE} (h : te σ H fun y H1 => ∃ a xs, y = V.ref a ∧ (SqT K H1 a xs ∨ SqL K H1 a xs) ∧ MkAt C sp E xs H1 Q) : tMakeSt K C sp E te σ H Q := h
/-- Float(*row) -/
theorem l_floSt {a : Addr} {xs : List V} {f : Fl} (hx : SqT K H a xs) (h : FlL f xs) (k : f.ok) (q : ∀ x G, Same H G → FltF C G x f → Q (.ref x) G) : ∃ a' xs', V.ref a = V.ref a' ∧ (SqT K H a' xs' ∨ SqL K H a' xs') ∧ MkAt C (spInit K C IA) E xs' H Q := by
  obtain ⟨s, t, p, b, rfl, hb, hy, hF⟩ := floatOf_ok (K := K) (H := H) h k
  exact ⟨a, _, rfl, .inl hx, l_floY (IA := IA) isA_int hb isA_int hy fun x G _ sm hf => q x G sm (hF _ _ _ hf)⟩
/-- Float(s, t, p) of valid parts -/
theorem l_floV {s t p : V} {f : Fl} (h : FlL f [s, t, p]) (k : f.ok) (q : ∀ x G, Same H G → FltF C G x f → Q (.ref x) G) : MkAt C (spInit K C IA) E [s, t, p] H Q := by
  obtain ⟨s', t', p', b, e, hb, hy, hF⟩ := floatOf_ok (K := K) (H := H) h k
  cases e
  exact l_floY (IA := IA) isA_int hb isA_int hy fun x G _ sm hf => q x G sm (hF _ _ _ hf)
theorem fin_lt {C : Addr} {H : Hp} {x : Addr} {s t p : Int} (h : FltF C H x (.fin s t p)) : Flt C H x s (.int t) p := h
/-- == of two Floats -/
theorem l_oeFF {x y : Addr} {f g : Fl} {neg : Bool} (F : FloC K C) (hx : FltF C H x f) (hy : FltF C H y g) (q : Q (.bl (decide (f = g) ^^ neg)) H) : rOe K C neg (spEq K C) (.ref x) (.ref y) H Q := by
  have key : ∀ {s t p s' t' p'}, Flt C H x s t p → Flt C H y s' t' p' → scal t t = true → scal t t' = true → (decide (s = s') && (decide (t = t') && decide (p = p'))) = decide (f = g) → rOe K C neg (spEq K C) (.ref x) (.ref y) H Q :=
    fun h1 h2 h3 h4 e => l_oeF F h1 h2 h3 h4 (by rw [e]; exact q)
  have ni := ni_
  have in' := in_
  cases f <;> cases g
  · exact key hx hy rfl rfl (by simp)
  · exact key hx hy rfl rfl (by simp)
  · exact key hx hy rfl rfl (by simp)
  · exact key hx hy rfl rfl (by simp)
  · exact key hx hy rfl rfl (by simp)
  · exact key hx hy rfl rfl (by simp [in'])
  · exact key hx hy rfl rfl (by simp)
  · exact key hx hy rfl rfl (by simp [ni])
  · exact key hx hy rfl rfl (by simp)
theorem l_oeT {x y : Addr} {f g : Fl} (F : FloC K C) (hx : FltF C H x f) (hy : FltF C H y g) (e : f = g) (q : Q (.bl true) H) : rOe K C false (spEq K C) (.ref x) (.ref y) H Q :=
  l_oeFF F hx hy (by rw [decide_eq_true e]; exact q)
theorem l_onT {x y : Addr} {f g : Fl} (F : FloC K C) (hx : FltF C H x f) (hy : FltF C H y g) (e : f = g) (q : Q (.bl false) H) : rOe K C true (spEq K C) (.ref x) (.ref y) H Q :=
  l_oeFF F hx hy (by rw [decide_eq_true e]; exact q)
/-! ### one step of a call -/
theorem l_cut {t d : Int} (h0 : 0 ≤ t) (h1 : 0 < d) (h2 : bits t ≤ 50000) (h3 : d ≤ 50000) (q : Q (.int (cutF t d.toNat)) H) : spCut ([.int t, .int d] ++ []) H Q E := ⟨t, d, rfl, h0, h1, h2, h3, q⟩
theorem l_rnd {s t p : Int} (h0 : 0 ≤ t) (h1 : bits t ≤ 40000) (h2 : -40000 ≤ p) (h3 : p ≤ 40000) (q : ∀ r H' zs, Same H H' → H' r = some (.tup zs) → FlL (rndF s t p) zs → Q (.ref r) H') : spRnd ([.int s, .int t, .int p] ++ []) H Q E := ⟨s, t, p, rfl, h0, h1, h2, h3, q⟩
theorem l_ali {a b : Addr} {s t p s' t' p' : Int} (h1 : SqT K H a [.int s, .int t, .int p]) (h2 : SqT K H b [.int s', .int t', .int p']) (h3 : Fl.ok (.fin s t p)) (h4 : Fl.ok (.fin s' t' p'))
    (q : ∀ r H', Same H H' → H' r = some (.tup [.int (alF s t p (min p p')), .int (alF s' t' p' (min p p')), .int (min p p')]) → Q (.ref r) H') : spAli K ([.ref a, .ref b] ++ []) H Q E := ⟨a, b, s, t, p, s', t', p', rfl, h1, h2, h3, h4, q⟩
theorem l_hnT {a b : Addr} {xs ys : List V} {f g : Fl} (h1 : SqT K H a xs) (h2 : SqT K H b ys) (h3 : FlL f xs) (h4 : FlL g ys) (e : (f.isN || g.isN) = true) (q : Q (.bl true) H) : spHn K ([.ref a, .ref b] ++ []) H Q E := ⟨a, b, xs, ys, f, g, rfl, h1, h2, h3, h4, by rw [e]; exact q⟩
theorem l_hnF {a b : Addr} {xs ys : List V} {f g : Fl} (h1 : SqT K H a xs) (h2 : SqT K H b ys) (h3 : FlL f xs) (h4 : FlL g ys) (e : (f.isN || g.isN) = false) (q : Q (.bl false) H) : spHn K ([.ref a, .ref b] ++ []) H Q E := ⟨a, b, xs, ys, f, g, rfl, h1, h2, h3, h4, by rw [e]; exact q⟩
theorem l_two {F : Fl → Fl → Fl} {a b : Addr} {xs ys : List V} {f g : Fl} (h1 : SqT K H a xs) (h2 : SqT K H b ys) (h3 : FlL f xs) (h4 : FlL g ys) (h5 : f.ok) (h6 : g.ok) (q : ∀ r H' zs, Same H H' → SqT K H' r zs → FlL (F f g) zs → Q (.ref r) H') : spTwo K F ([.ref a, .ref b] ++ []) H Q E := ⟨a, b, xs, ys, f, g, rfl, h1, h2, h3, h4, h5, h6, q⟩
theorem l_opp {a : Addr} {xs : List V} {f : Fl} (h1 : SqT K H a xs) (h3 : FlL f xs) (q : ∀ r H' zs, Same H H' → SqT K H' r zs → FlL f.opp zs → Q (.ref r) H') : spOpp K ([.ref a] ++ []) H Q E := ⟨a, xs, f, rfl, h1, h3, q⟩
theorem l_rec {z : Str} {w : Wd} {a b : Addr} {xs ys : List V} {f g : Fl} (hz : z = w.s) (h1 : SqT K H a xs) (h2 : SqT K H b ys) (h3 : FlL f xs) (h4 : FlL g ys) (h5 : f.ok) (h6 : g.ok) (q : ∀ r H' zs, Same H H' → SqT K H' r zs → FlL (w.F f g) zs → Q (.ref r) H') : spRec K ([.str z, .ref a, .ref b] ++ []) H Q E := ⟨z, w, a, b, xs, ys, f, g, rfl, hz, h1, h2, h3, h4, h5, h6, q⟩
theorem l_partF {x : Addr} {f : Fl} (h : FltF C H x f) (q : ∀ r H' zs, Same H H' → H' r = some (.tup zs) → FlL f zs → Q (.ref r) H') : spPart C ([.ref x] ++ []) H Q E := ⟨_, rfl, .inl ⟨x, f, rfl, h, q⟩⟩
theorem l_partI {n : Int} (q : ∀ r H', Same H H' → H' r = some (.tup [.int (if n < 0 then -1 else 1), .int (absI n), .int 0]) → Q (.ref r) H') : spPart C ([.int n] ++ []) H Q E := ⟨_, rfl, .inr ⟨n, rfl, q⟩⟩
theorem l_toFl {v : V} {f : Fl} (h : Nv C H v f) (q : ∀ x H', Same H H' → FltF C H' x f → Q (.ref x) H') : spToFl C ([v] ++ []) H Q E := ⟨v, f, rfl, h, q⟩
theorem l_ari {z : Str} {w : Wd} {v u : V} {f g : Fl} (hz : z = w.s) (h1 : Nv C H v f) (h2 : Nv C H u g) (h3 : w = .div ∨ (∃ x, v = .ref x) ∨ ∃ x, u = .ref x) (q : ∀ x H', Same H H' → FltF C H' x (w.F f g) → Q (.ref x) H') : spAri C ([.str z, v, u] ++ []) H Q E := ⟨z, w, v, u, f, g, rfl, hz, h1, h2, h3, q⟩
theorem l_neg {x : Addr} {f : Fl} (h : FltF C H x f) (k : f.ok) (q : ∀ y H', Same H H' → FltF C H' y f.opp → Q (.ref y) H') : spNeg C ([.ref x] ++ []) H Q E := ⟨x, f, rfl, h, k, q⟩
theorem l_maxM {i j : Int} (q : Q (.int (max i j)) H) : rMax2 [.int i, .int j] H Q := l_max (by
  rw [show (if j > i then j else i) = max i j by rw [Int.max_def]; split <;> split <;> omega]
  exact q)
theorem l_minM {i j : Int} (q : Q (.int (min i j)) H) : rMin2 [.int i, .int j] H Q := l_min (by
  rw [show (if j < i then j else i) = min i j by rw [Int.min_def]; split <;> split <;> omega]
  exact q)
theorem l_absM {i : Int} (q : Q (.int (absI i)) H) : rAbs [.int i] H Q := l_abs (by
  rw [show (if i < 0 then -i else i) = absI i by unfold absI; split <;> omega]
  exact q)
/-! ### texts and tests -/
theorem iteSe {i : Str} {A B : Prop} (h : A) : if decide (V.str i = V.str i) = true then A else B := by
  rw [if_pos (decide_eq_true rfl)]
  exact h
theorem iteSn {i j : Str} {A B : Prop} (e : (i = j) = False) (h : B) : if decide (V.str i = V.str j) = true then A else B := by
  rw [if_neg (fun z => e.mp (V.str.inj (of_decide_eq_true z)))]
  exact h
theorem iteSeN {i : Str} {A B : Prop} (h : B) : if (!decide (V.str i = V.str i)) = true then A else B := iteN (fun z => absurd rfl z) fun _ => h
theorem iteSnN {i j : Str} {A B : Prop} (e : (i = j) = False) (h : A) : if (!decide (V.str i = V.str j)) = true then A else B := iteN (fun _ => h) fun z => (e.mp (V.str.inj z)).elim
end
end U
namespace U
open PySem L2
/-! ## sizes -/
theorem bits_mono {a b : Int} (h : 0 ≤ a) (l : a ≤ b) : bits a ≤ bits b := by
  by_cases e : a = 0
  · subst e
    have := bits_nonneg b
    have z : bits 0 = 0 := by decide +kernel
    omega
  · have z := bits_ge (Int.le_trans (bits_lo (show 0 < a by omega)) l)
    have := bits_pos (show 0 < a by omega)
    omega
theorem bits_div {t : Int} (d : Nat) (h : 0 ≤ t) : bits (t / 2 ^ d) ≤ bits t := by
  refine bits_mono (Int.ediv_nonneg h (Int.le_of_lt (tp d))) ?_
  have := Int.ediv_le_self (b := 2 ^ d) h
  exact this
theorem bits_neg (t : Int) : bits (-t) = bits t := by
  unfold bits
  rw [bits_def, bits_def, Int.natAbs_neg]
  by_cases h : t = 0
  · subst h; rfl
  · rw [if_neg (by omega), if_neg h]
theorem bits_pm {s t : Int} (h : s = 1 ∨ s = -1) : bits (s * t) = bits t := by
  rcases h with rfl | rfl
  · rw [Int.one_mul]
  · rw [show (-1 : Int) * t = -t by omega, bits_neg]
theorem bits_abs (t : Int) : bits (absI t) = bits t := by
  unfold absI
  rcases Int.natAbs_eq t with h | h
  · rw [← h]
  · conv => rhs; rw [h, bits_neg]
theorem bits_le_abs {t : Int} {n : Nat} (h1 : -(2 ^ n) < t) (h2 : t < 2 ^ n) : bits t ≤ n := by
  rw [← bits_abs]
  refine bits_le (by unfold absI; omega) ?_
  unfold absI
  omega
theorem absI_lt {t : Int} {n : Nat} (h1 : bits t ≤ n) : absI t < 2 ^ n := by
  rw [← bits_abs] at h1
  by_cases e : absI t = 0
  · rw [e]; exact tp n
  · have h0 : 0 < absI t := by unfold absI at *; omega
    exact Int.lt_of_lt_of_le (bits_hi h0) (tple (by omega))
theorem bits_add {a b : Int} {n : Nat} (ha : bits a ≤ n) (hb : bits b ≤ n) : bits (a + b) ≤ n + 1 := by
  have x := absI_lt ha
  have y := absI_lt hb
  have z := tps n
  unfold absI at x y
  have := bits_le_abs (t := a + b) (n := n + 1) (by omega) (by omega)
  omega
theorem bits_mul {a b : Int} {m n : Nat} (ha : bits a ≤ m) (hb : bits b ≤ n) : bits (a * b) ≤ m + n := by
  have x := absI_lt ha
  have y := absI_lt hb
  have e : absI (a * b) = absI a * absI b := by unfold absI; rw [Int.natAbs_mul]; simp
  rw [← bits_abs, e]
  have z : absI a * absI b < 2 ^ (m + n) := by
    rw [tpa]
    have h0 : 0 ≤ absI a := by unfold absI; omega
    have h1 : 0 ≤ absI b := by unfold absI; omega
    have s1 : absI a * absI b ≤ absI a * 2 ^ n := Int.mul_le_mul_of_nonneg_left (Int.le_of_lt y) h0
    have s2 : absI a * 2 ^ n < 2 ^ m * 2 ^ n := Int.mul_lt_mul_of_pos_right x (tp n)
    omega
  have := bits_le (n := m + n) (Int.mul_nonneg (by unfold absI; omega) (by unfold absI; omega)) z
  omega
theorem bits_pow (n : Nat) : bits (2 ^ n) = n + 1 := by
  have := bits_two n
  unfold bits
  rw [show ((2 : Int) ^ n) = ((2 ^ n : Nat) : Int) by simp, this]
  omega
theorem bits_shl {t : Int} {n m : Nat} (h : bits t ≤ m) : bits (t * 2 ^ n) ≤ m + n := by
  by_cases e : t = 0
  · subst e
    rw [Int.zero_mul]
    have z : bits 0 = 0 := by decide +kernel
    omega
  · have p : 0 < absI t := by unfold absI; omega
    have x := absI_lt h
    rw [← bits_abs, abs_mul2]
    have y : absI t * 2 ^ n < 2 ^ (m + n) := by rw [tpa]; exact Int.mul_lt_mul_of_pos_right x (tp n)
    have := bits_le (n := m + n) (Int.mul_nonneg (Int.le_of_lt p) (Int.le_of_lt (tp n))) y
    omega
theorem cshl_of {i j : Int} (h0 : 0 ≤ j) (hj : j ≤ 60000) (hb : bits i ≤ 60000) : CShl i j := by
  unfold bits at hb
  exact ⟨h0, by show _ ≤ (134217728 : Int); omega⟩
theorem cmulX_of {i j : Int} (hi : bits i ≤ 60000) (hj : bits j ≤ 60000) : CMulX i j := by
  unfold bits at hi hj
  show _ ≤ (134217728 : Int)
  omega
theorem cdivP_of {i j : Int} (h0 : 0 < j) (hj : j < 9007199254740992) : CDivP i j := by
  refine ⟨h0, PyProof.noPylong_of_log2 ?_⟩
  have := (Nat.log2_lt (n := j.natAbs) (k := 53) (by omega)).mpr (by omega)
  omega
theorem cutF_nonneg {t : Int} (h : 0 ≤ t) (d : Nat) : 0 ≤ cutF t d := by
  have := Int.ediv_nonneg h (Int.le_of_lt (tp d))
  unfold cutF
  split <;> omega
theorem absI_nonneg (e : Int) : 0 ≤ absI e := by unfold absI; omega
/-! ### steps -/
theorem sqAll {K : PySem.W.Frag} {a : Addr} {xs : List V} {H : Hp} (h : ∀ H, SqT K H a xs) : SqT K H a xs := h H
def tTru (K : PySem.W.Frag) (ta : TE) : TT := fun σ H Q => ta σ H fun x H1 => ∃ k, TruV K x H1 k ∧ Q k H1
theorem pt_tru {X : Cx} {K : PySem.W.Frag} {a : Expr} {ta : TE} (ha : PE X a ta) (he : ∀ whole, isTrue a X.env whole = (do let v ← whole; standAt a.pos; holding [v] (truthy v))) (hK : X.K = K := by rfl) : PT X a (tTru K ta) := by
  subst hK
  exact pt_truth ha he
def TruQ (K : PySem.W.Frag) (Q : Bool → Hp → Prop) (x : V) (H : Hp) : Prop := ∃ k, TruV K x H k ∧ Q k H
def rOdd : R2 := fun x y H Q => ∃ n : Nat, x = .int (n : Int) ∧ y = .int 1 ∧ Q (.int ((n % 2 : Nat) : Int)) H
theorem op_oddR {X : Cx} : OpR X (binaryOp .BitAnd) rOdd := op_odd
def rDivW : List V → Hp → VK → Prop := fun xs H Q => ∃ i j, xs = [.int i, .int j] ∧ CDivP i j ∧ ∀ p, H p = none → Q (.ref p) (upd H p (.tup [.int (i / j), .int (i % j)]))
theorem cDivW {X : Cx} : CallR X (.builtin "divmod") rDivW := call_divmodW
section
variable {K : PySem.W.Frag} {H : Hp} {Q : VK} {σ : St} {w : World}
theorem l_tru {ta : TE} {Q : Bool → Hp → Prop} (h : ta σ H fun x H1 => TruQ K Q x H1) : tTru K ta σ H Q := h
theorem l_truI {i : Int} {Q : Bool → Hp → Prop} (q : Q (!decide (i = 0)) H) : TruQ K Q (.int i) H := ⟨_, rfl, by
  rw [show (i != 0) = !decide (i = 0) by by_cases h : i = 0 <;> simp [h]]
  exact q⟩
theorem l_oddB {k : Int} (h : 0 ≤ k) (q : Q (.int (k % 2)) H) : rOdd (.int k) (.int 1) H Q := ⟨k.toNat, by rw [show ((k.toNat : Nat) : Int) = k by omega], rfl, by
  rw [show ((k.toNat % 2 : Nat) : Int) = k % 2 by omega]
  exact q⟩
theorem l_divW {i j : Int} (h : CDivP i j) (q : ∀ p H2, H p = none → Same H H2 → H2 p = some (.tup [.int (i / j), .int (i % j)]) → Q (.ref p) H2) : rDivW [.int i, .int j] H Q := ⟨i, j, rfl, h, fun p hn => q p _ hn (sameUpd hn) upd_same⟩
theorem l_kd {p : Addr} {z : Str} {v : V} (h : KDct K w p z v) (q : Q v H) : rIxD K w (.ref p) (.str z) H Q := ⟨p, z, v, rfl, rfl, h, q⟩
theorem l_inF {x : V} {p : Addr} {xs : List V} (h : SqT K H p xs) (hx : flatV x = true) (hf : xs.all flatV = true) (e : inV x xs = false) (q : Q (.bl false) H) : rIn K false x (.ref p) H Q := l_inT h hx hf (by rw [e]; exact q)
theorem l_inTr {x : V} {p : Addr} {xs : List V} (h : SqT K H p xs) (hx : flatV x = true) (hf : xs.all flatV = true) (e : inV x xs = true) (q : Q (.bl true) H) : rIn K false x (.ref p) H Q := l_inT h hx hf (by rw [e]; exact q)
theorem l_callA {i : Nat} {S : Addr → Option Sp} {t : TA} {f : Addr} {sp : Sp} (hs : σ[i]? = some (some (.ref f))) (hS : S f = some sp) (h : t σ H fun vs H1 => sp vs H1 Q (fun _ _ _ => False)) : tCallA i S t σ H Q := ⟨f, sp, hs, hS, h⟩
end
theorem inV_q {t : Int} : inV (V.int t) [V.str "inf", V.int 0] = decide (t = 0) := by
  simp only [inV, eqV, List.any_cons, List.any_nil, Bool.or_false, Bool.false_or]
  by_cases h : t = 0
  · subst h; rfl
  · rw [decide_eq_false h]
    exact beq_eq_false_iff_ne.mpr (fun z => h z.symm)
theorem inf_lt {C : Addr} {H : Hp} {x : Addr} {s : Int} (h : FltF C H x (.inf s)) : Flt C H x s (.str "inf") 0 := h
theorem nan_lt {C : Addr} {H : Hp} {x : Addr} (h : FltF C H x .nan) : Flt C H x 1 (.str "nan") 0 := h
theorem wd_add : ("add" : Str) = Wd.s .add := rfl
theorem wd_sub : ("sub" : Str) = Wd.s .sub := rfl
theorem wd_mul : ("mul" : Str) = Wd.s .mul := rfl
theorem wd_div : ("div" : Str) = Wd.s .div := rfl
/-! ### the ways of rounding -/
theorem flL_eq {f g : Fl} {zs : List V} (e : f = g) (h : FlL g zs) : FlL f zs := e ▸ h
theorem rnd_A {s t p : Int} (h : bits t < max (bits t - 53) (-1074 - p)) : rndF s t p = .fin s 0 0 := if_pos h
theorem rnd_B1 {s t p : Int} (h : ¬ bits t < max (bits t - 53) (-1074 - p)) (h2 : 0 < max (bits t - 53) (-1074 - p)) (h3 : 1024 < bits (cutF t (max (bits t - 53) (-1074 - p)).toNat) + (p + max (bits t - 53) (-1074 - p))) : rndF s t p = .inf s := by
  unfold rndF endF
  rw [if_neg h, if_pos h2, if_pos h3]
theorem rnd_B2 {s t p : Int} (h : ¬ bits t < max (bits t - 53) (-1074 - p)) (h2 : 0 < max (bits t - 53) (-1074 - p)) (h3 : ¬ 1024 < bits (cutF t (max (bits t - 53) (-1074 - p)).toNat) + (p + max (bits t - 53) (-1074 - p))) : rndF s t p = .fin s (oddF (cutF t (max (bits t - 53) (-1074 - p)).toNat) (p + max (bits t - 53) (-1074 - p))).1 (oddF (cutF t (max (bits t - 53) (-1074 - p)).toNat) (p + max (bits t - 53) (-1074 - p))).2 := by
  unfold rndF endF
  rw [if_neg h, if_pos h2, if_neg h3]
theorem rnd_C1 {s t p : Int} (h : ¬ bits t < max (bits t - 53) (-1074 - p)) (h2 : ¬ 0 < max (bits t - 53) (-1074 - p)) (h3 : 1024 < bits t + p) : rndF s t p = .inf s := by
  unfold rndF endF
  rw [if_neg h, if_neg h2, if_pos h3]
theorem rnd_C2 {s t p : Int} (h : ¬ bits t < max (bits t - 53) (-1074 - p)) (h2 : ¬ 0 < max (bits t - 53) (-1074 - p)) (h3 : ¬ 1024 < bits t + p) : rndF s t p = .fin s (oddF t p).1 (oddF t p).2 := by
  unfold rndF endF
  rw [if_neg h, if_neg h2, if_neg h3]
/-- two tops over one power -/
theorem ali_bits {s t p s' t' p' : Int} (h : Fl.ok (.fin s t p)) (h' : Fl.ok (.fin s' t' p')) : bits (alF s t p (min p p') + alF s' t' p' (min p p')) ≤ 40000 := by
  obtain ⟨hs, ht, hU, -, hl, hu⟩ := ok_bounds h
  obtain ⟨hs', ht', hU', -, hl', hu'⟩ := ok_bounds h'
  have b1 : bits (s * t) ≤ (53 : Nat) := by rw [bits_pm hs]; exact bits_le ht hU
  have b2 : bits (s' * t') ≤ (53 : Nat) := by rw [bits_pm hs']; exact bits_le ht' hU'
  have c1 := bits_shl (n := (p - min p p').toNat) b1
  have c2 := bits_shl (n := (p' - min p p').toNat) b2
  have d1 : bits (alF s t p (min p p')) ≤ (10000 : Nat) := by unfold alF; omega
  have d2 : bits (alF s' t' p' (min p p')) ≤ (10000 : Nat) := by unfold alF; omega
  have := bits_add d1 d2
  omega
theorem ok_bits {s t p : Int} (h : Fl.ok (.fin s t p)) : bits t ≤ 53 := by
  obtain ⟨-, ht, hU, -⟩ := ok_bounds h
  exact bits_le (n := 53) ht hU
theorem tot_z1 {s t p s' t' p' : Int} (h : alF s t p (min p p') + alF s' t' p' (min p p') = 0) (a : s < 0) (b : s' < 0) : addF (.fin s t p) (.fin s' t' p') = .fin (-1) 0 0 := by
  show totF s t p s' t' p' = _
  unfold totF
  rw [if_pos h, if_pos ⟨a, b⟩]
theorem tot_z2 {s t p s' t' p' : Int} (h : alF s t p (min p p') + alF s' t' p' (min p p') = 0) (a : ¬ s < 0) : addF (.fin s t p) (.fin s' t' p') = .fin 1 0 0 := by
  show totF s t p s' t' p' = _
  unfold totF
  rw [if_pos h, if_neg (fun z => a z.1)]
theorem tot_z3 {s t p s' t' p' : Int} (h : alF s t p (min p p') + alF s' t' p' (min p p') = 0) (b : ¬ s' < 0) : addF (.fin s t p) (.fin s' t' p') = .fin 1 0 0 := by
  show totF s t p s' t' p' = _
  unfold totF
  rw [if_pos h, if_neg (fun z => b z.2)]
theorem tot_p {s t p s' t' p' : Int} (h : ¬ alF s t p (min p p') + alF s' t' p' (min p p') = 0) (a : 0 < alF s t p (min p p') + alF s' t' p' (min p p')) : addF (.fin s t p) (.fin s' t' p') = rndF 1 (absI (alF s t p (min p p') + alF s' t' p' (min p p'))) (min p p') := by
  show totF s t p s' t' p' = _
  unfold totF sgnI
  rw [if_neg h, if_pos a]
theorem tot_n {s t p s' t' p' : Int} (h : ¬ alF s t p (min p p') + alF s' t' p' (min p p') = 0) (a : ¬ 0 < alF s t p (min p p') + alF s' t' p' (min p p')) : addF (.fin s t p) (.fin s' t' p') = rndF (-1) (absI (alF s t p (min p p') + alF s' t' p' (min p p'))) (min p p') := by
  show totF s t p s' t' p' = _
  unfold totF sgnI
  rw [if_neg h, if_neg a]
theorem inf_ne {s s' : Int} (h : ¬ s = s') : addF (.inf s) (.inf s') = .nan := if_pos h
theorem inf_eq {s s' : Int} (h : s = s') : addF (.inf s) (.inf s') = .inf s := if_neg (fun z => z h)
theorem div_q {s t p s' t' p' : Int} (h : ¬ t' = 0) : divF (.fin s t p) (.fin s' t' p') = quoF s t p s' t' p' := by
  show (if t = 0 ∧ t' = 0 then Fl.nan else if t' = 0 then .inf (s * s') else quoF s t p s' t' p') = _
  rw [if_neg (fun z => h z.2), if_neg h]
theorem div_z {s t p s' p' : Int} (h : ¬ t = 0) : divF (.fin s t p) (.fin s' 0 p') = .inf (s * s') := by
  show (if t = 0 ∧ (0 : Int) = 0 then Fl.nan else if (0 : Int) = 0 then .inf (s * s') else quoF s t p s' 0 p') = _
  rw [if_neg (fun z => h z.1), if_pos rfl]
section
variable {CX : CXT} {P : Program} {w : World} {K : PySem.W.Frag} {mg : Str → Option Value} {base : Heap} {N : List Str} {qual : Str} {scope : Scope} {f : Addr} {cd : Value} {A : Around} {outer : List Env} {s : Shared} {H : Hp} {E : XK}
theorem nox_w : (cxOf CX P w K mg base N qual scope f cd A outer s H E).nox.w = w := rfl
theorem cxOf_w : (cxOf CX P w K mg base N qual scope f cd A outer s H E).w = w := rfl
end
/-- the four defs that a word stands for -/
def SF (K : PySem.W.Frag) (aT aS aM aQ : Addr) (f : Addr) : Option Sp :=
  if f = aT then some (spTwo K addF) else if f = aS then some (spTwo K fun f g => addF f g.opp) else if f = aM then some (spTwo K mulF) else if f = aQ then some (spTwo K divF) else none
theorem SF_held {P : Program} {w : World} {K : PySem.W.Frag} {mg : Str → Option Value} {base : Heap} {aT aS aM aQ : Addr} {k : Nat} (h1 : Held P w K mg base k aT (spTwo K addF)) (h2 : Held P w K mg base k aS (spTwo K fun f g => addF f g.opp)) (h3 : Held P w K mg base k aM (spTwo K mulF)) (h4 : Held P w K mg base k aQ (spTwo K divF)) :
    ∀ f sp, SF K aT aS aM aQ f = some sp → Held P w K mg base k f sp := by
  intro f sp h
  unfold SF at h
  split at h
  · cases h; rename_i e; subst e; exact h1
  · split at h
    · cases h; rename_i e; subst e; exact h2
    · split at h
      · cases h; rename_i e; subst e; exact h3
      · split at h
        · cases h; rename_i e; subst e; exact h4
        · cases h
theorem FltF.tyX {K : PySem.W.Frag} {C : Addr} {H : Hp} {x : Addr} {f : Fl} (F : FloC K C) (h : FltF C H x f) : TyX K H (.ref x) (.ref C) := by
  cases f <;> exact F.tyX h
theorem FltF.isA {K : PySem.W.Frag} {C : Addr} {H : Hp} {x : Addr} {f : Fl} (F : FloC K C) (h : FltF C H x f) : IsA K H (.ref x) .oth := by
  cases f <;> exact F.isA h
section
variable {K : PySem.W.Frag} {aT aS aM aQ : Addr}
theorem SF1 : SF K aT aS aM aQ aT = some (spTwo K addF) := if_pos rfl
theorem SF2 (a : aT ≠ aS) : SF K aT aS aM aQ aS = some (spTwo K fun f g => addF f g.opp) := by
  unfold SF
  rw [if_neg a.symm, if_pos rfl]
theorem SF3 (a : aT ≠ aM) (b : aS ≠ aM) : SF K aT aS aM aQ aM = some (spTwo K mulF) := by
  unfold SF
  rw [if_neg a.symm, if_neg b.symm, if_pos rfl]
theorem SF4 (a : aT ≠ aQ) (b : aS ≠ aQ) (c : aM ≠ aQ) : SF K aT aS aM aQ aQ = some (spTwo K divF) := by
  unfold SF
  rw [if_neg a.symm, if_neg b.symm, if_neg c.symm, if_pos rfl]
end
def CMulE (i j : Int) : Prop := CMul i j ∨ CMulX i j
theorem op_mulE {X : Cx} : OpR X (binaryOp .Mult) (rI CMulE fun i j => .int (i * j)) := by
  intro pins s σ H x y v u Q I rx ry h
  obtain ⟨i, j, rfl, rfl, hc, q⟩ := h
  rcases hc with hc | hc
  · exact op_mul _ _ _ _ _ _ _ _ _ I rx ry ⟨i, j, rfl, rfl, hc, q⟩
  · exact op_mulX _ _ _ _ _ _ _ _ _ I rx ry ⟨i, j, rfl, rfl, hc, q⟩
end U
namespace U
open PySem L2
/-! ## the law's own promises -/
def spFloatD (C : Addr) : Sp := fun vs H Q _ => ∃ w : Addr, vs = [.ref w] ∧ Well w H ∧ ∀ x f H', Ex w H H' → FltF C H' x f → f.ok → Q (.ref x) H'
def spRatio (C : Addr) : Sp := fun vs H Q _ => ∃ (x : Addr) (s t p : Int), vs = [.ref x] ∧ FltF C H x (.fin s t p) ∧ Fl.ok (.fin s t p) ∧ ∀ r H', Same H H' → H' r = some (.tup [.int (t * 2 ^ p.toNat), .int (2 ^ (-p).toNat)]) → Q (.ref r) H'
def spTopR (C : Addr) : Sp := fun vs H Q _ => ∃ (x : Addr) (s t p : Int), vs = [.ref x] ∧ FltF C H x (.fin s t p) ∧ Fl.ok (.fin s t p) ∧ ∀ r H', Same H H' → H' r = some (.tup [.int (s * (t * 2 ^ p.toNat)), .int (2 ^ (-p).toNat)]) → Q (.ref r) H'
def spScaled : Sp := fun vs H Q _ => ∃ c q : Int, vs = [.int c, .int q] ∧ -40000 ≤ q ∧ q ≤ 40000 ∧ bits c ≤ 10000 ∧ ∀ r H', Same H H' → H' r = some (.tup [.int (c * 2 ^ q.toNat), .int (2 ^ (-q).toNat)]) → Q (.ref r) H'
def spNear (C : Addr) : Sp := fun vs H Q _ => ∃ (x : Addr) (f : Fl) (s T B : Int), vs = [.ref x, .int s, .int T, .int B] ∧ FltF C H x f ∧ f.ok ∧ bits T ≤ 20000 ∧ bits B ≤ 20000 ∧ Good (ltF T B) (eqF T B) s f ∧ ∀ H', Same H H' → Q (.bl true) H'
def spExactR (C : Addr) : Sp := fun vs H Q _ => ∃ (x : Addr) (f : Fl) (T B z : Int), vs = [.ref x, .int T, .int B, .int z] ∧ FltF C H x f ∧ f.ok ∧ (z = 1 ∨ z = -1) ∧ bits T ≤ 20000 ∧ bits B ≤ 20000 ∧ ExactOk f T B z ∧ ∀ H', Same H H' → Q (.bl true) H'
def spFinR (C : Addr) : Sp := fun vs H Q _ => ∃ (x y : Addr) (s t p s' t' p' : Int), vs = [.ref x, .ref y] ∧ FltF C H x (.fin s t p) ∧ FltF C H y (.fin s' t' p') ∧ Fl.ok (.fin s t p) ∧ Fl.ok (.fin s' t' p') ∧ ∀ H', Same H H' → Q (.bl true) H'
def Fl.isFin : Fl → Bool
  | .fin _ _ _ => true
  | _ => false
def spDue (C : Addr) : Sp := fun vs H Q _ => ∃ (z : Str) (w : Wd) (x y : Addr) (f g : Fl), vs = [.str z, .ref x, .ref y] ∧ z = w.s ∧ FltF C H x f ∧ FltF C H y g ∧ f.ok ∧ g.ok ∧ (f.isFin && g.isFin) = false ∧ ∀ r H', Same H H' → FltF C H' r (w.F f g) → Q (.ref r) H'
def spPairR (C : Addr) : Sp := fun vs H Q _ => ∃ (x y : Addr) (f g : Fl), vs = [.ref x, .ref y] ∧ FltF C H x f ∧ FltF C H y g ∧ f.ok ∧ g.ok ∧ ∀ H', Same H H' → Q (.bl true) H'
def spNearD (C : Addr) : Sp := fun vs H Q _ => ∃ (w x : Addr) (s t p : Int), vs = [.ref w, .ref x] ∧ Well w H ∧ FltF C H x (.fin s t p) ∧ Fl.ok (.fin s t p) ∧ ∀ y g H', Ex w H H' → FltF C H' y g → g.ok → Q (.ref y) H'
def spWholeR (C : Addr) : Sp := fun vs H Q _ => ∃ (w x : Addr) (f : Fl), vs = [.ref w, .ref x] ∧ Well w H ∧ FltF C H x f ∧ f.ok ∧ ∀ H', Ex w H H' → Q (.bl true) H'
section
variable {K : PySem.W.Frag} {C : Addr} {H : Hp} {Q : VK} {E : XK}
theorem l_fltD {w : Addr} (hw : Well w H) (q : ∀ x f H', Ex w H H' → FltF C H' x f → f.ok → Q (.ref x) H') : spFloatD C ([.ref w] ++ []) H Q E := ⟨w, rfl, hw, q⟩
theorem l_ratio {x : Addr} {s t p : Int} (h : FltF C H x (.fin s t p)) (k : Fl.ok (.fin s t p)) (q : ∀ r H', Same H H' → H' r = some (.tup [.int (t * 2 ^ p.toNat), .int (2 ^ (-p).toNat)]) → Q (.ref r) H') : spRatio C ([.ref x] ++ []) H Q E := ⟨x, s, t, p, rfl, h, k, q⟩
theorem l_topR {x : Addr} {s t p : Int} (h : FltF C H x (.fin s t p)) (k : Fl.ok (.fin s t p)) (q : ∀ r H', Same H H' → H' r = some (.tup [.int (s * (t * 2 ^ p.toNat)), .int (2 ^ (-p).toNat)]) → Q (.ref r) H') : spTopR C ([.ref x] ++ []) H Q E := ⟨x, s, t, p, rfl, h, k, q⟩
theorem l_scaled {c p : Int} (h1 : -40000 ≤ p) (h2 : p ≤ 40000) (h3 : bits c ≤ 10000) (q : ∀ r H', Same H H' → H' r = some (.tup [.int (c * 2 ^ p.toNat), .int (2 ^ (-p).toNat)]) → Q (.ref r) H') : spScaled ([.int c, .int p] ++ []) H Q E := ⟨c, p, rfl, h1, h2, h3, q⟩
theorem l_nearR {x : Addr} {f : Fl} {s T B : Int} (h : FltF C H x f) (k : f.ok) (h1 : bits T ≤ 20000) (h2 : bits B ≤ 20000) (g : Good (ltF T B) (eqF T B) s f) (q : ∀ H', Same H H' → Q (.bl true) H') : spNear C ([.ref x, .int s, .int T, .int B] ++ []) H Q E := ⟨x, f, s, T, B, rfl, h, k, h1, h2, g, q⟩
theorem l_exactR {x : Addr} {f : Fl} {T B z : Int} (h : FltF C H x f) (k : f.ok) (hz : z = 1 ∨ z = -1) (h1 : bits T ≤ 20000) (h2 : bits B ≤ 20000) (g : ExactOk f T B z) (q : ∀ H', Same H H' → Q (.bl true) H') : spExactR C ([.ref x, .int T, .int B, .int z] ++ []) H Q E := ⟨x, f, T, B, z, rfl, h, k, hz, h1, h2, g, q⟩
theorem l_finR {x y : Addr} {s t p s' t' p' : Int} (h : FltF C H x (.fin s t p)) (h' : FltF C H y (.fin s' t' p')) (k : Fl.ok (.fin s t p)) (k' : Fl.ok (.fin s' t' p')) (q : ∀ H', Same H H' → Q (.bl true) H') : spFinR C ([.ref x, .ref y] ++ []) H Q E := ⟨x, y, s, t, p, s', t', p', rfl, h, h', k, k', q⟩
theorem l_due {z : Str} {w : Wd} {x y : Addr} {f g : Fl} (hz : z = w.s) (h : FltF C H x f) (h' : FltF C H y g) (k : f.ok) (k' : g.ok) (n : (f.isFin && g.isFin) = false) (q : ∀ r H', Same H H' → FltF C H' r (w.F f g) → Q (.ref r) H') : spDue C ([.str z, .ref x, .ref y] ++ []) H Q E := ⟨z, w, x, y, f, g, rfl, hz, h, h', k, k', n, q⟩
theorem l_pairR {x y : Addr} {f g : Fl} (h : FltF C H x f) (h' : FltF C H y g) (k : f.ok) (k' : g.ok) (q : ∀ H', Same H H' → Q (.bl true) H') : spPairR C ([.ref x, .ref y] ++ []) H Q E := ⟨x, y, f, g, rfl, h, h', k, k', q⟩
theorem l_nearD {w x : Addr} {s t p : Int} (hw : Well w H) (h : FltF C H x (.fin s t p)) (k : Fl.ok (.fin s t p)) (q : ∀ y g H', Ex w H H' → FltF C H' y g → g.ok → Q (.ref y) H') : spNearD C ([.ref w, .ref x] ++ []) H Q E := ⟨w, x, s, t, p, rfl, hw, h, k, q⟩
theorem l_wholeR {w x : Addr} {f : Fl} (hw : Well w H) (h : FltF C H x f) (k : f.ok) (q : ∀ H', Ex w H H' → Q (.bl true) H') : spWholeR C ([.ref w, .ref x] ++ []) H Q E := ⟨w, x, f, rfl, hw, h, k, q⟩
end
section
variable {K : PySem.W.Frag} {C IA : Addr} {H : Hp} {Q : VK} {E : XK}
theorem odd_ok {s t p : Int} (hs : s = 1 ∨ s = -1) (h0 : 0 ≤ t) (h1 : t < 2 ^ 53) (h2 : -1074 ≤ p) (h3 : p ≤ 971) : Fl.ok (.fin s (oddF t p).1 (oddF t p).2) := ⟨hs, oddF_top_nonneg h0 p, oddF_idem t p h0, isF_of h0 h1 h2 h3⟩
/-- Float(s, t, p) of parts that are drawn -/
theorem l_floN {s t p : Int} (hs : s = 1 ∨ s = -1) (h0 : 0 ≤ t) (h1 : t < 2 ^ 53) (h2 : -1074 ≤ p) (h3 : p ≤ 971) (q : ∀ x G, Same H G → FltF C G x (.fin s (oddF t p).1 (oddF t p).2) → Fl.ok (.fin s (oddF t p).1 (oddF t p).2) → Q (.ref x) G) : MkAt C (spInit K C IA) E [.int s, .int t, .int p] H Q :=
  l_floY (IA := IA) isA_int isA_int isA_int (floatOf_fin hs h0 (isF_of h0 h1 h2 h3)) fun x G _ sm hf => q x G sm hf (odd_ok hs h0 h1 h2 h3)
end
theorem edge_num : edgeC * 2 ^ (970 : Int).toNat = 1 * 2 ^ (1024 : Int).toNat - 1 * 2 ^ (970 : Int).toNat := by decide +kernel
theorem edge_iff {T B : Int} : ltF T B edgeC 970 ↔ T < (1 * 2 ^ (1024 : Int).toNat - 1 * 2 ^ (970 : Int).toNat) * B := by
  unfold ltF
  rw [edge_num, show (-970 : Int).toNat = 0 by decide, Int.pow_zero, Int.mul_one]
theorem edge_bits : bits (1 * 2 ^ (1024 : Int).toNat - 1 * 2 ^ (970 : Int).toNat) ≤ 20000 := by decide +kernel
theorem good_p {f : Fl} {T B : Int} (h : 0 < T) (g : Good (ltF (absI T) B) (eqF (absI T) B) (sgnI T) f) : Good (ltF (absI T) B) (eqF (absI T) B) 1 f := by
  rw [show sgnI T = 1 from if_pos h] at g
  exact g
theorem good_n {f : Fl} {T B : Int} (h : ¬ 0 < T) (g : Good (ltF (absI T) B) (eqF (absI T) B) (sgnI T) f) : Good (ltF (absI T) B) (eqF (absI T) B) (-1) f := by
  rw [show sgnI T = -1 from if_neg h] at g
  exact g
theorem imp_use {A B : Prop} (h : A → B) (a : A) : B := h a
theorem fltF_eq {C : Addr} {H : Hp} {x : Addr} {f g : Fl} (h : FltF C H x g) (e : f = g) : FltF C H x f := e ▸ h
theorem inV_0a {t : Int} : inV (V.int 0) [V.str "inf", V.int t] = decide (t = 0) := by
  simp only [inV, eqV, List.any_cons, List.any_nil, Bool.or_false, Bool.false_or]
  by_cases h : t = 0
  · subst h; rfl
  · rw [decide_eq_false h]
    exact beq_eq_false_iff_ne.mpr h
theorem inV_0b {t : Int} : inV (V.int 0) [V.int t, V.str "inf"] = decide (t = 0) := by
  simp only [inV, eqV, List.any_cons, List.any_nil, Bool.or_false, Bool.false_or]
  by_cases h : t = 0
  · subst h; rfl
  · rw [decide_eq_false h]
    exact beq_eq_false_iff_ne.mpr h
theorem in0a {t : Int} (h : inV (V.int 0) [V.str "inf", V.int t] = true) : t = 0 := by rw [inV_0a] at h; exact of_decide_eq_true h
theorem in0b {t : Int} (h : inV (V.int 0) [V.int t, V.str "inf"] = true) : t = 0 := by rw [inV_0b] at h; exact of_decide_eq_true h
theorem nin0a {t : Int} (h : inV (V.int 0) [V.str "inf", V.int t] = false) : ¬ t = 0 := by rw [inV_0a] at h; exact of_decide_eq_false h
theorem nin0b {t : Int} (h : inV (V.int 0) [V.int t, V.str "inf"] = false) : ¬ t = 0 := by rw [inV_0b] at h; exact of_decide_eq_false h
theorem mul_if {s s' t p : Int} (h : t = 0) : mulF (.inf s) (.fin s' t p) = .nan := if_pos h
theorem mul_if' {s s' t p : Int} (h : ¬ t = 0) : mulF (.inf s) (.fin s' t p) = .inf (s * s') := if_neg h
theorem mul_fi {s s' t p : Int} (h : t = 0) : mulF (.fin s t p) (.inf s') = .nan := if_pos h
theorem mul_fi' {s s' t p : Int} (h : ¬ t = 0) : mulF (.fin s t p) (.inf s') = .inf (s * s') := if_neg h
theorem grow_pow {t p M P : Int} {j : Nat} (h : Fl.ok (.fin s t p)) (hM : M = t * 2 ^ j) (hP : P = p - j) (hM2 : 4503599627370496 ≤ M) : P ≤ 971 := by
  obtain ⟨hs, ht, hU, hp0, hl, hu⟩ := ok_bounds h
  have hf := h.2.2.2
  unfold isF at hf
  simp only [Bool.and_eq_true, decide_eq_true_eq] at hf
  have t0 : 0 < t := by
    by_cases e : t = 0
    · rw [e, Int.zero_mul] at hM
      omega
    · omega
  have b := bits_shift (m := t.toNat) (by omega) j
  have e : ((t.toNat * 2 ^ j : Nat) : Int) = M := by
    rw [hM, Int.natCast_mul, show ((t.toNat : Nat) : Int) = t by omega]
    simp
  rw [e, show ((t.toNat : Nat) : Int) = t by omega] at b
  have := bits_ge (t := M) (n := 52) (by omega)
  omega
theorem wd_add_comm (f g : Fl) : Wd.F .add f g = Wd.F .add g f := add_comm' f g
theorem wd_mul_comm (f g : Fl) : Wd.F .mul f g = Wd.F .mul g f := mul_comm' f g
theorem wd_sub_add (f g : Fl) : Wd.F .sub f g = Wd.F .add f g.opp := rfl
section
variable {K : PySem.W.Frag} {H : Hp} {Q : VK} {σ : St}
theorem l_isSI {i : Int} (q : Q (.bl false) H) : rIsi K [.int i, .ty "str"] H Q := l_isi (ClsV.ty _) (TyX.base (TyOf.int i)) (kit_ty (by decide +kernel)) q
theorem l_isSS {z : Str} (q : Q (.bl true) H) : rIsi K [.str z, .ty "str"] H Q := l_isi (ClsV.ty _) (TyX.base (TyOf.str z)) (kit_ty (by decide +kernel)) q
theorem l_par3 {i j l : Nat} {ta : TA} {D : Ends} (h : ta σ H fun vs H1 => ∃ u v w, vs = [u, v, w] ∧ SetG i u σ (fun σ1 H2 => SetG j v σ1 (fun σ2 H3 => SetG l w σ2 D.nx H3) H2) H1) : tPar3 i j l ta D σ H := h
theorem l_par3e {u v w : V} {M : V → V → V → Prop} (h : M u v w) : ∃ u' v' w', [u, v, w] = [u', v', w'] ∧ M u' v' w' := ⟨u, v, w, rfl, h⟩
end
theorem fdiv_abs {x q M : Int} (h1 : -M ≤ x) (h2 : x ≤ M) (hM : 0 ≤ M) (hq : 1 ≤ q) : -M ≤ x.fdiv q ∧ x.fdiv q ≤ M := by
  rw [Int.fdiv_eq_ediv_of_nonneg x (by omega)]
  have m := Int.mul_le_mul_of_nonneg_left hq hM
  rw [Int.mul_one] at m
  refine ⟨(Int.le_ediv_iff_mul_le (by omega)).mpr ?_, ?_⟩
  · rw [Int.neg_mul]
    omega
  · have : x / q < M + 1 := by
      refine Int.ediv_lt_of_lt_mul (by omega) ?_
      rw [Int.add_mul, Int.one_mul]
      omega
    omega
theorem wmul_if {s s' t p : Int} (h : inV (V.int 0) [V.str "inf", V.int t] = true) : Wd.F .mul (.inf s) (.fin s' t p) = .nan := mul_if (p := p) (in0a h)
theorem wmul_if' {s s' t p : Int} (h : inV (V.int 0) [V.str "inf", V.int t] = false) : Wd.F .mul (.inf s) (.fin s' t p) = .inf (s * s') := mul_if' (p := p) (nin0a h)
theorem wmul_fi {s s' t p : Int} (h : inV (V.int 0) [V.int t, V.str "inf"] = true) : Wd.F .mul (.fin s t p) (.inf s') = .nan := mul_fi (p := p) (in0b h)
theorem wmul_fi' {s s' t p : Int} (h : inV (V.int 0) [V.int t, V.str "inf"] = false) : Wd.F .mul (.fin s t p) (.inf s') = .inf (s * s') := mul_fi' (p := p) (nin0b h)
theorem wd_nanL {wd : Wd} {g : Fl} : wd.F .nan g = .nan := by cases wd <;> cases g <;> rfl
theorem wd_nanR {wd : Wd} {f : Fl} : wd.F f .nan = .nan := by cases wd <;> cases f <;> rfl
theorem wd_of {x : V} (h : x = .str "add" ∨ x = .str "sub" ∨ x = .str "mul" ∨ x = .str "div") : ∃ z wd, x = .str z ∧ z = Wd.s wd := by
  rcases h with rfl | rfl | rfl | rfl
  · exact ⟨_, .add, rfl, rfl⟩
  · exact ⟨_, .sub, rfl, rfl⟩
  · exact ⟨_, .mul, rfl, rfl⟩
  · exact ⟨_, .div, rfl, rfl⟩
end U
namespace U
open PySem
/-! ## floors and what is left -/
theorem rnd_small {s r m : Int} (h0 : 0 < r) (h1 : r < 2 ^ 53) (h2 : -1074 ≤ m) (h3 : bits r + m ≤ 1024) : rndF s r m = .fin s (oddF r m).1 (oddF r m).2 := by
  have b := bits_le (n := 53) (Int.le_of_lt h0) h1
  have b1 := bits_pos h0
  unfold rndF endF
  rw [if_neg (by omega), if_neg (by omega), if_neg (by omega)]
theorem ltF_scale {T B : Int} (u : Nat) : ltF (T * 2 ^ u) (B * 2 ^ u) = ltF T B := by
  funext c k
  have hu := tp u
  unfold ltF
  rw [show T * 2 ^ u * 2 ^ (-k).toNat = T * 2 ^ (-k).toNat * 2 ^ u by ac_rfl, show c * 2 ^ k.toNat * (B * 2 ^ u) = c * 2 ^ k.toNat * B * 2 ^ u by ac_rfl]
  exact propext (Int.mul_lt_mul_right hu)
theorem eqF_scale {T B : Int} (u : Nat) : eqF (T * 2 ^ u) (B * 2 ^ u) = eqF T B := by
  funext c k
  have hu := tp u
  unfold eqF
  rw [show T * 2 ^ u * 2 ^ (-k).toNat = T * 2 ^ (-k).toNat * 2 ^ u by ac_rfl, show c * 2 ^ k.toNat * (B * 2 ^ u) = c * 2 ^ k.toNat * B * 2 ^ u by ac_rfl]
  exact propext (mul_eq_r hu)
theorem good_scale {T B T' B' s : Int} {f : Fl} (u v : Nat) (hT : T * 2 ^ u = T' * 2 ^ v) (hB : B * 2 ^ u = B' * 2 ^ v) (g : Good (ltF T B) (eqF T B) s f) : Good (ltF T' B') (eqF T' B') s f := by
  rw [← ltF_scale u, ← eqF_scale u, hT, hB, ltF_scale, eqF_scale] at g
  exact g
/-- what is left of one top over another, both over one power -/
def remF (t p t' p' : Int) : Int := (t * 2 ^ (p - min p p').toNat) % (t' * 2 ^ (p' - min p p').toNat)
theorem rem_facts {s t p s' t' p' : Int} (h1 : Fl.ok (.fin s t p)) (h2 : Fl.ok (.fin s' t' p')) (n0 : ¬ t' = 0) : 0 ≤ remF t p t' p' ∧ remF t p t' p' < 2 ^ 53 ∧ (0 < remF t p t' p' → bits (remF t p t' p') + min p p' ≤ 1024) ∧ remF t p t' p' < t' * 2 ^ (p' - min p p').toNat := by
  obtain ⟨hs, ht, hU, hp0, hl, hu⟩ := ok_bounds h1
  obtain ⟨hs', ht', hU', hp0', hl', hu'⟩ := ok_bounds h2
  have hf := h1.2.2.2
  unfold isF at hf
  simp only [Bool.and_eq_true, decide_eq_true_eq] at hf
  have A1 : 0 ≤ t * 2 ^ (p - min p p').toNat := Int.mul_nonneg ht (Int.le_of_lt (tp _))
  have A2 : 0 < t' * 2 ^ (p' - min p p').toNat := Int.mul_pos (by omega) (tp _)
  have r0 : 0 ≤ remF t p t' p' := Int.emod_nonneg _ (by omega)
  have r1 : remF t p t' p' < t' * 2 ^ (p' - min p p').toNat := Int.emod_lt_of_pos _ A2
  have r2 : remF t p t' p' ≤ t * 2 ^ (p - min p p').toNat := by
    have := Int.emod_add_mul_ediv (t * 2 ^ (p - min p p').toNat) (t' * 2 ^ (p' - min p p').toNat)
    have q := Int.ediv_nonneg A1 (Int.le_of_lt A2)
    have w := Int.mul_nonneg (Int.le_of_lt A2) q
    unfold remF
    omega
  refine ⟨r0, ?_, fun h => ?_, r1⟩
  · by_cases c : p ≤ p'
    · rw [show min p p' = p by omega, show (p - p).toNat = 0 by omega, Int.pow_zero, Int.mul_one] at r2
      omega
    · rw [show min p p' = p' by omega, show (p' - p').toNat = 0 by omega, Int.pow_zero, Int.mul_one] at r1
      omega
  · have b := bits_ge (Int.le_trans (bits_lo h) r2)
    have t0 : 0 < t := by
      by_cases e : t = 0
      · have z : t * 2 ^ (p - min p p').toNat = 0 := by rw [e, Int.zero_mul]
        omega
      · omega
    have e := bits_shift (m := t.toNat) (by omega) (p - min p p').toNat
    have e2 : ((t.toNat * 2 ^ (p - min p p').toNat : Nat) : Int) = t * 2 ^ (p - min p p').toNat := by
      rw [Int.natCast_mul, show ((t.toNat : Nat) : Int) = t by omega]
      simp
    rw [e2, show ((t.toNat : Nat) : Int) = t by omega] at e
    have := bits_pos h
    omega
/-- modulo, of floats -/
def modF : Fl → Fl → Fl
  | .nan, _ => .nan
  | _, .nan => .nan
  | .inf _, _ => .nan
  | .fin s t p, .inf s' => if t = 0 ∨ s = s' then .fin s t p else .inf s'
  | .fin s t p, .fin s' t' p' => if t' = 0 then .nan else
    if remF t p t' p' = 0 then .fin s 0 0 else if s = s' then .fin s (oddF (remF t p t' p') (min p p')).1 (oddF (remF t p t' p') (min p p')).2 else
      totF s (oddF (remF t p t' p') (min p p')).1 (oddF (remF t p t' p') (min p p')).2 s' t' p'
theorem left_ok {s t p s' t' p' : Int} (h1 : Fl.ok (.fin s t p)) (h2 : Fl.ok (.fin s' t' p')) (n0 : ¬ t' = 0) (nr : ¬ remF t p t' p' = 0) : Fl.ok (.fin s (oddF (remF t p t' p') (min p p')).1 (oddF (remF t p t' p') (min p p')).2) := by
  obtain ⟨r0, r1, r2, r3⟩ := rem_facts h1 h2 n0
  obtain ⟨hs, ht, hU, hp0, hl, hu⟩ := ok_bounds h1
  obtain ⟨hs', ht', hU', hp0', hl', hu'⟩ := ok_bounds h2
  exact ⟨hs, oddF_top_nonneg r0 _, oddF_idem _ _ r0, isF_end (by omega) (by omega) (by omega) (r2 (by omega))⟩
theorem mod_ok {f g : Fl} (hf : f.ok) (hg : g.ok) : (modF f g).ok := by
  cases f with
  | nan => cases g <;> exact True.intro
  | inf s => cases g <;> exact True.intro
  | fin s t p =>
    cases g with
    | nan => exact True.intro
    | inf s' => exact ite_ok (c := t = 0 ∨ s = s') (a := .fin s t p) (b := .inf s') hf hg
    | fin s' t' p' =>
      show Fl.ok (if t' = 0 then Fl.nan else if remF t p t' p' = 0 then .fin s 0 0 else if s = s' then .fin s (oddF (remF t p t' p') (min p p')).1 (oddF (remF t p t' p') (min p p')).2 else totF s (oddF (remF t p t' p') (min p p')).1 (oddF (remF t p t' p') (min p p')).2 s' t' p')
      by_cases c1 : t' = 0
      · rw [if_pos c1]
        exact True.intro
      · rw [if_neg c1]
        by_cases c2 : remF t p t' p' = 0
        · rw [if_pos c2]
          exact zero_ok hf.1
        · rw [if_neg c2]
          by_cases c3 : s = s'
          · rw [if_pos c3]
            exact left_ok hf hg c1 c2
          · rw [if_neg c3]
            exact tot_ok
/-- the law's gap, in whole numbers -/
theorem gap_eq {t p t' p' : Int} (h : 0 ≤ t) (h' : 0 < t') : (t * 2 ^ p.toNat * 2 ^ (-p').toNat) % (t' * 2 ^ p'.toNat * 2 ^ (-p).toNat) = remF t p t' p' * 2 ^ (min p p' + (-p).toNat + (-p').toNat).toNat ∧
    t' * 2 ^ p'.toNat * 2 ^ (-p).toNat = t' * 2 ^ (p' - min p p').toNat * 2 ^ (min p p' + (-p).toNat + (-p').toNat).toNat := by
  have e1 : (2 : Int) ^ p.toNat * 2 ^ (-p').toNat = 2 ^ (p - min p p').toNat * 2 ^ (min p p' + (-p).toNat + (-p').toNat).toNat := by
    rw [← tpa, ← tpa]
    congr 1
    omega
  have e2 : (2 : Int) ^ p'.toNat * 2 ^ (-p).toNat = 2 ^ (p' - min p p').toNat * 2 ^ (min p p' + (-p).toNat + (-p').toNat).toNat := by
    rw [← tpa, ← tpa]
    congr 1
    omega
  rw [Int.mul_assoc, e1, Int.mul_assoc t', e2]
  refine ⟨?_, by ac_rfl⟩
  have c := tp (min p p' + (-p).toNat + (-p').toNat).toNat
  rw [show t * (2 ^ (p - min p p').toNat * 2 ^ (min p p' + (-p).toNat + (-p').toNat).toNat) = 2 ^ (min p p' + (-p).toNat + (-p').toNat).toNat * (t * 2 ^ (p - min p p').toNat) by ac_rfl,
    show t' * (2 ^ (p' - min p p').toNat * 2 ^ (min p p' + (-p).toNat + (-p').toNat).toNat) = 2 ^ (min p p' + (-p).toNat + (-p').toNat).toNat * (t' * 2 ^ (p' - min p p').toNat) by ac_rfl,
    Int.mul_emod_mul_of_pos _ _ c]
  unfold remF
  ac_rfl
/-- the same sign: exact -/
theorem mod_same {s t p s' t' p' : Int} (h1 : Fl.ok (.fin s t p)) (h2 : Fl.ok (.fin s' t' p')) (n0 : ¬ t' = 0) (nr : ¬ remF t p t' p' = 0) :
    Good (ltF (remF t p t' p' * 2 ^ (min p p' + (-p).toNat + (-p').toNat).toNat) (2 ^ (-p).toNat * 2 ^ (-p').toNat)) (eqF (remF t p t' p' * 2 ^ (min p p' + (-p).toNat + (-p').toNat).toNat) (2 ^ (-p).toNat * 2 ^ (-p').toNat)) s
      (.fin s (oddF (remF t p t' p') (min p p')).1 (oddF (remF t p t' p') (min p p')).2) := by
  obtain ⟨r0, r1, r2, r3⟩ := rem_facts h1 h2 n0
  obtain ⟨hs, ht, hU, hp0, hl, hu⟩ := ok_bounds h1
  obtain ⟨hs', ht', hU', hp0', hl', hu'⟩ := ok_bounds h2
  have rp : 0 < remF t p t' p' := by omega
  have V := rv_exact (e := remF t p t' p') (T := remF t p t' p' * 2 ^ (min p p' + (-p).toNat + (-p').toNat).toNat) (B := 2 ^ ((-p).toNat + (-p').toNat)) rfl rfl
  rw [show (((min p p' + ((-p).toNat : Int) + ((-p').toNat : Int)).toNat : Nat) : Int) - (((-p).toNat + (-p').toNat : Nat) : Int) = min p p' by omega] at V
  have g := rnd_good (s := s) rp V
  rw [rnd_small rp r1 (by omega) (r2 rp)] at g
  rw [← tpa]
  exact g
/-- unlike signs: the other is added -/
theorem mod_diff {s t p s' t' p' : Int} (h1 : Fl.ok (.fin s t p)) (h2 : Fl.ok (.fin s' t' p')) (n0 : ¬ t' = 0) (nr : ¬ remF t p t' p' = 0) (ns : ¬ s = s') :
    Good (ltF ((t' * 2 ^ (p' - min p p').toNat - remF t p t' p') * 2 ^ (min p p' + (-p).toNat + (-p').toNat).toNat) (2 ^ (-p).toNat * 2 ^ (-p').toNat))
      (eqF ((t' * 2 ^ (p' - min p p').toNat - remF t p t' p') * 2 ^ (min p p' + (-p).toNat + (-p').toNat).toNat) (2 ^ (-p).toNat * 2 ^ (-p').toNat)) s'
      (totF s (oddF (remF t p t' p') (min p p')).1 (oddF (remF t p t' p') (min p p')).2 s' t' p') := by
  have lk := left_ok h1 h2 n0 nr
  obtain ⟨r0, r1, r2, r3⟩ := rem_facts h1 h2 n0
  obtain ⟨hs, ht, hU, hp0, hl, hu⟩ := ok_bounds h1
  obtain ⟨hs', ht', hU', hp0', hl', hu'⟩ := ok_bounds h2
  have rp : 0 < remF t p t' p' := by omega
  obtain ⟨m, i, hm, e⟩ := split_of rp
  have oc := oddF_char (j := i) hm (min p p')
  have er : remF t p t' p' = (m : Int) * 2 ^ i := by rw [e, Int.natCast_mul]; simp
  rw [← e] at oc
  rw [oc] at lk ⊢
  have A := (tot_exact lk h2).2
  have X1 : (m : Int) * 2 ^ (min p p' + (i : Int)).toNat * 2 ^ (-p').toNat * 2 ^ (-p).toNat = remF t p t' p' * 2 ^ (min p p' + (-p).toNat + (-p').toNat).toNat * 2 ^ (-(min p p' + (i : Int))).toNat := by
    rw [er]
    have q : (2 : Int) ^ (min p p' + (i : Int)).toNat * 2 ^ (-p').toNat * 2 ^ (-p).toNat = 2 ^ i * 2 ^ (min p p' + (-p).toNat + (-p').toNat).toNat * 2 ^ (-(min p p' + (i : Int))).toNat := by
      rw [← tpa, ← tpa, ← tpa, ← tpa]
      congr 1
      omega
    rw [show (m : Int) * 2 ^ (min p p' + (i : Int)).toNat * 2 ^ (-p').toNat * 2 ^ (-p).toNat = m * (2 ^ (min p p' + (i : Int)).toNat * 2 ^ (-p').toNat * 2 ^ (-p).toNat) by ac_rfl, q]
    ac_rfl
  have X2 : t' * 2 ^ p'.toNat * 2 ^ (-(min p p' + (i : Int))).toNat * 2 ^ (-p).toNat = t' * 2 ^ (p' - min p p').toNat * 2 ^ (min p p' + (-p).toNat + (-p').toNat).toNat * 2 ^ (-(min p p' + (i : Int))).toNat := by
    have q : (2 : Int) ^ p'.toNat * 2 ^ (-p).toNat = 2 ^ (p' - min p p').toNat * 2 ^ (min p p' + (-p).toNat + (-p').toNat).toNat := by
      rw [← tpa, ← tpa]
      congr 1
      omega
    rw [show t' * 2 ^ p'.toNat * 2 ^ (-(min p p' + (i : Int))).toNat * 2 ^ (-p).toNat = t' * (2 ^ p'.toNat * 2 ^ (-p).toNat) * 2 ^ (-(min p p' + (i : Int))).toNat by ac_rfl, q]
    ac_rfl
  -- the exact sum
  have sgnE : s = -s' := by omega
  have XT : s * ((m : Int) * 2 ^ (min p p' + (i : Int)).toNat) * 2 ^ (-p').toNat + s' * (t' * 2 ^ p'.toNat) * 2 ^ (-(min p p' + (i : Int))).toNat = s' * (t' * 2 ^ p'.toNat * 2 ^ (-(min p p' + (i : Int))).toNat - m * 2 ^ (min p p' + (i : Int)).toNat * 2 ^ (-p').toNat) := by
    rw [sgnE, Int.neg_mul, Int.neg_mul, Int.mul_sub, Int.mul_assoc s', Int.mul_assoc s']
    omega
  have XP : (t' * 2 ^ p'.toNat * 2 ^ (-(min p p' + (i : Int))).toNat - m * 2 ^ (min p p' + (i : Int)).toNat * 2 ^ (-p').toNat) * 2 ^ (-p).toNat = (t' * 2 ^ (p' - min p p').toNat - remF t p t' p') * 2 ^ (min p p' + (-p).toNat + (-p').toNat).toNat * 2 ^ (-(min p p' + (i : Int))).toNat := by
    rw [Int.sub_mul, Int.sub_mul, Int.sub_mul, X1, X2]
  have pos : 0 < t' * 2 ^ p'.toNat * 2 ^ (-(min p p' + (i : Int))).toNat - m * 2 ^ (min p p' + (i : Int)).toNat * 2 ^ (-p').toNat := by
    have q : 0 < (t' * 2 ^ (p' - min p p').toNat - remF t p t' p') * 2 ^ (min p p' + (-p).toNat + (-p').toNat).toNat * 2 ^ (-(min p p' + (i : Int))).toNat := Int.mul_pos (Int.mul_pos (by omega) (tp _)) (tp _)
    rw [← XP] at q
    rcases Int.lt_or_le 0 (t' * 2 ^ p'.toNat * 2 ^ (-(min p p' + (i : Int))).toNat - m * 2 ^ (min p p' + (i : Int)).toNat * 2 ^ (-p').toNat) with z | z
    · exact z
    · have y := Int.mul_le_mul_of_nonneg_right z (Int.le_of_lt (tp (-p).toNat))
      rw [Int.zero_mul] at y
      omega
  obtain ⟨g1, g2⟩ := sgn_pm hs' pos
  have nz : s * ((m : Int) * 2 ^ (min p p' + (i : Int)).toNat) * 2 ^ (-p').toNat + s' * (t' * 2 ^ p'.toNat) * 2 ^ (-(min p p' + (i : Int))).toNat ≠ 0 := by
    rw [XT]
    intro z
    rcases Int.mul_eq_zero.mp z with z | z <;> omega
  have g := A nz
  rw [XT, g1, g2] at g
  refine good_scale (-p).toNat (-(min p p' + (i : Int))).toNat XP ?_ g
  ac_rfl
end U
namespace U
open PySem
/-! ## floors of floats -/
theorem absI_nn (e : Int) : 0 ≤ absI e := by unfold absI; omega
def floF : Fl → Fl
  | .fin s t p => if p ≥ 0 then .fin s t p else .fin s (oddF (absI (s * t / 2 ^ (-p).toNat)) 0).1 (oddF (absI (s * t / 2 ^ (-p).toNat)) 0).2
  | f => f
theorem div_pm {s t : Int} (hs : s = 1 ∨ s = -1) (ht : 0 ≤ t) (n : Nat) : absI (s * t / 2 ^ n) ≤ t ∧ (s = 1 → 0 ≤ s * t / 2 ^ n) ∧ (s = -1 → 0 < t → s * t / 2 ^ n < 0) := by
  have hp := tp1 n
  have h0 := tp n
  have lo : s * t / 2 ^ n * 2 ^ n ≤ s * t := Int.ediv_mul_le _ (by omega)
  have hi := Int.lt_ediv_add_one_mul_self (s * t) h0
  rw [Int.add_mul, Int.one_mul] at hi
  generalize hd : s * t / 2 ^ n = d at *
  rcases hs with rfl | rfl
  · rw [Int.one_mul] at lo hi
    have d0 : 0 ≤ d := by
      rcases Int.lt_or_le d 0 with z | z
      · have := Int.mul_le_mul_of_nonneg_right (show d ≤ -1 by omega) (Int.le_of_lt h0)
        omega
      · exact z
    have m := Int.mul_le_mul_of_nonneg_left hp d0
    refine ⟨by unfold absI; omega, fun _ => d0, fun z => absurd z (by decide)⟩
  · rw [show (-1 : Int) * t = -t by omega] at lo hi
    have dn : d ≤ 0 := by
      rcases Int.lt_or_le 0 d with z | z
      · have := Int.mul_le_mul_of_nonneg_right (show 1 ≤ d by omega) (Int.le_of_lt h0)
        omega
      · exact z
    have up : -t ≤ d := by
      rcases Int.lt_or_le d (-t) with z | z
      · have := Int.mul_le_mul_of_nonneg_right (show d + 1 ≤ -t by omega) (Int.le_of_lt h0)
        rw [Int.add_mul, Int.one_mul] at this
        have y := Int.mul_le_mul_of_nonneg_left hp ht
        rw [Int.neg_mul] at this
        omega
      · exact z
    refine ⟨by unfold absI; omega, fun z => absurd z (by decide), fun _ tpos => ?_⟩
    rcases Int.lt_or_le d 0 with z | z
    · exact z
    · have : d = 0 := by omega
      rw [this, Int.zero_mul] at lo
      omega
theorem flo_ok {f : Fl} (h : f.ok) : (floF f).ok := by
  cases f with
  | inf s => exact h
  | nan => exact True.intro
  | fin s t p =>
    obtain ⟨hs, ht, hU, hp0, hl, hu⟩ := ok_bounds h
    obtain ⟨d1, -, -⟩ := div_pm hs ht (-p).toNat
    have d0 := absI_nn (s * t / 2 ^ (-p).toNat)
    show Fl.ok (if p ≥ 0 then .fin s t p else .fin s (oddF (absI (s * t / 2 ^ (-p).toNat)) 0).1 (oddF (absI (s * t / 2 ^ (-p).toNat)) 0).2)
    by_cases c : p ≥ 0
    · rw [if_pos c]
      exact h
    · rw [if_neg c]
      by_cases z : absI (s * t / 2 ^ (-p).toNat) = 0
      · rw [z, oddF_zero]
        exact zero_ok hs
      · refine ⟨hs, oddF_top_nonneg d0 _, oddF_idem _ _ d0, isF_end (by omega) (by omega) (by decide) ?_⟩
        have := bits_le (n := 53) d0 (by omega)
        omega
/-- the law's words: with a whole number due, the sign times the top is it -/
theorem flo_due {s t p : Int} (h : Fl.ok (.fin s t p)) (t0 : ¬ t = 0) (d : Int) (hd : d = t * 2 ^ p.toNat * s / 2 ^ (-p).toNat) :
    (d = 0 → floF (.fin s t p) = .fin 1 0 0) ∧ (¬ d = 0 → ∃ o1 o2 : Int, floF (.fin s t p) = .fin s o1 o2 ∧ Fl.ok (.fin s o1 o2) ∧ s * (o1 * 2 ^ o2.toNat) = d * 2 ^ (-o2).toNat) := by
  obtain ⟨hs, ht, hU, hp0, hl, hu⟩ := ok_bounds h
  by_cases c : p ≥ 0
  · have e : floF (.fin s t p) = .fin s t p := if_pos c
    have n0 : (-p).toNat = 0 := by omega
    rw [n0, Int.pow_zero, Int.ediv_one] at hd
    refine ⟨fun z => ?_, fun _ => ⟨t, p, e, h, ?_⟩⟩
    all_goals first
      | (rw [n0, Int.pow_zero, Int.mul_one, hd]; ac_rfl)
      | skip
    exfalso
    rw [hd] at z
    have pos : 0 < t * 2 ^ p.toNat := Int.mul_pos (by omega) (tp _)
    rcases Int.mul_eq_zero.mp z with z | z <;> omega
  · have e : floF (.fin s t p) = .fin s (oddF (absI (s * t / 2 ^ (-p).toNat)) 0).1 (oddF (absI (s * t / 2 ^ (-p).toNat)) 0).2 := if_neg c
    have n0 : p.toNat = 0 := by omega
    rw [n0, Int.pow_zero, Int.mul_one, Int.mul_comm] at hd
    rw [e, ← hd]
    obtain ⟨d1, d2, d3⟩ := div_pm hs ht (-p).toNat
    rw [← hd] at d1 d2 d3
    have fk := flo_ok h
    rw [e, ← hd] at fk
    refine ⟨fun z => ?_, fun z => ⟨_, _, rfl, fk, ?_⟩⟩
    · subst z
      have hs1 : s = 1 := by
        rcases hs with q | q
        · exact q
        · have := d3 q (by omega)
          omega
      rw [show absI 0 = 0 by rfl, oddF_zero, hs1]
    · have dp : 0 < absI d := abs_pos z
      obtain ⟨m, j, hm, ed⟩ := split_of dp
      have oc := oddF_char (j := j) hm 0
      rw [← ed] at oc
      rw [oc]
      have e1 : absI d = (m : Int) * 2 ^ j := by rw [ed, Int.natCast_mul]; simp
      rw [show (0 + (j : Int)).toNat = j by omega, show (-(0 + (j : Int))).toNat = 0 by omega, Int.pow_zero, Int.mul_one, ← e1]
      rcases hs with q | q
      · have := d2 q
        rw [q, Int.one_mul]
        unfold absI
        omega
      · have := d3 q (by omega)
        rw [q]
        unfold absI
        omega
/-! ## ints of 64 bits -/
def wrF (n : Int) : Int := (n + 9223372036854775808) % 18446744073709551616 - 9223372036854775808
theorem wrF_range (n : Int) : -9223372036854775808 ≤ wrF n ∧ wrF n ≤ 9223372036854775807 := by
  unfold wrF
  omega
theorem wrF_same {n : Int} (h1 : -9223372036854775808 ≤ n) (h2 : n ≤ 9223372036854775807) : wrF n = n := by
  unfold wrF
  omega
theorem wrF_step (n k : Int) : wrF (n + 18446744073709551616 * k) = wrF n := by
  unfold wrF
  omega
end U
namespace U
open PySem PySem.Spec PyProof.Rows L2
/-- the end of a law row, with what the head tells of names that are read -/
theorem walk_ofX {l : PySem.W.OpenLaw} {n k : Nat} {q : Program} {loose : List Str} {XP : (Str → Option Value) → Heap → Prop} {YP : World → Heap → Prop} {d : DefRec} {K : Params → PySem.W.Frag} {CX : World → CXT} {sp : World → Sp} {x : Str}
    (hn : l.most = some n) (hn2 : n ≤ sizeLine) (hdf : d.params.defaults = []) (hr : Room k callerA)
    (hY : ∀ (w : World) (h : Heap), YP w h → (K w.params).In h)
    (F : ∀ (w : World) (mg : Str → Option Value) (fa : Addr) (h : Heap), (K w.params).In h → XP mg h → h.Ns mainGlobals mg → mg d.name = some (.ref fa) →
      ∃ fd : FuncData, (∀ (s : Shared) (u : Value), BindsTo s fd ⟨[u], []⟩ [(x, u)]) ∧
        ∀ base : Heap, (K w.params).In base → base.Ns mainGlobals mg → FnOk l.prog w (K w.params) mg base (CX w) k fa fd [x] (sp w))
    (hsp : ∀ (w : World) (H : Hp) (a : Addr) (ns : List Int), ns.length ≤ n → Only H → SqL (K w.params) H a (ns.map V.int) → sp w [.ref a] H (fun v _ => v = .bl true) fun _ _ _ => False)
    (hCX : ∀ (w : World) (H : Hp) (s : Shared) (e : Value) (s' : Shared), CX w [] H s (fun _ _ _ => False) e s' → False) :
    PySem.W.WalkO q loose XP YP l.row.toRowW d [] (fun f vs => PySem.call f vs) := by
  refine Att.attach_call hn hdf fun w s₀ s₁ mg mb fa o pm cd doc a vs ns G Y ho hd hcd hmg hobj hints hlen hg => ?_
  have KX := hY w _ Y
  obtain ⟨fd, hb, hF⟩ := F w mg fa _ KX G.X G.T.g hmg
  exact law_call KX G.T.g G.T.b G.T.builtins G.T.nolimit hg hobj hints (Nat.le_trans hlen hn2) hr hF hb (fun H hO hS => hsp w H a ns hlen hO hS) fun H e s' => hCX w H s₁ e s'
/-- a name that the head reads as an int -/
theorem xl_int {p : Program} {lv : List (Str × PySem.W.WData)} {mg : Str → Option Value} {h : Heap} {x : Str} {n : Int} (X : PySem.W.XL p lv mg h) (hq : (x, PySem.W.WData.int n) ∈ lv) : ∃ t, mg x = some (.int n t) := by
  obtain ⟨v, a, b⟩ := X.2.val _ hq
  cases b
  exact ⟨_, a⟩
end U
namespace U
open PySem L2
/-! ## floors and what is left, as the program has them -/
def spFlo (K : PySem.W.Frag) : Sp := fun vs H Q _ => ∃ (a : Addr) (xs : List V) (f : Fl), vs = [.ref a] ∧ SqT K H a xs ∧ FlL f xs ∧ f.ok ∧ ∀ r H' zs, Same H H' → SqT K H' r zs → FlL (floF f) zs → Q (.ref r) H'
theorem l_flo1 {K : PySem.W.Frag} {H : Hp} {Q : VK} {E : XK} {a : Addr} {xs : List V} {f : Fl} (h1 : SqT K H a xs) (h3 : FlL f xs) (h : f.ok) (q : ∀ r H' zs, Same H H' → SqT K H' r zs → FlL (floF f) zs → Q (.ref r) H') : spFlo K ([.ref a] ++ []) H Q E := ⟨a, xs, f, rfl, h1, h3, h, q⟩
theorem absI_al {s t p u : Int} (hs : s = 1 ∨ s = -1) (ht : 0 ≤ t) : absI (alF s t p u) = t * 2 ^ (p - u).toNat := by
  have h0 : 0 ≤ t * 2 ^ (p - u).toNat := Int.mul_nonneg ht (Int.le_of_lt (tp _))
  unfold alF
  rcases hs with rfl | rfl
  · rw [Int.one_mul]
    unfold absI
    omega
  · rw [show (-1 : Int) * t * 2 ^ (p - u).toNat = -(t * 2 ^ (p - u).toNat) by rw [show (-1 : Int) * t = -t by omega, Int.neg_mul]]
    unfold absI
    omega
theorem rem_eq {s t p s' t' p' : Int} (hs : s = 1 ∨ s = -1) (ht : 0 ≤ t) (hs' : s' = 1 ∨ s' = -1) (ht' : 0 ≤ t') : (absI (alF s t p (min p p'))).fmod (absI (alF s' t' p' (min p p'))) = remF t p t' p' := by
  rw [absI_al hs ht, absI_al hs' ht']
  exact Int.fmod_eq_emod_of_nonneg _ (Int.mul_nonneg ht' (Int.le_of_lt (tp _)))
theorem mod_a {s t p s' t' p' : Int} (h : t' = 0) : modF (.fin s t p) (.fin s' t' p') = .nan := if_pos h
theorem mod_b {s t p s' t' p' : Int} (h : ¬ t' = 0) (h2 : remF t p t' p' = 0) : modF (.fin s t p) (.fin s' t' p') = .fin s 0 0 := (if_neg h).trans (if_pos h2)
theorem mod_c {s t p s' t' p' : Int} (h : ¬ t' = 0) (h2 : ¬ remF t p t' p' = 0) (h3 : s = s') : modF (.fin s t p) (.fin s' t' p') = .fin s (oddF (remF t p t' p') (min p p')).1 (oddF (remF t p t' p') (min p p')).2 := (if_neg h).trans ((if_neg h2).trans (if_pos h3))
theorem mod_d {s t p s' t' p' : Int} (h : ¬ t' = 0) (h2 : ¬ remF t p t' p' = 0) (h3 : ¬ s = s') : modF (.fin s t p) (.fin s' t' p') = addF (.fin s (oddF (remF t p t' p') (min p p')).1 (oddF (remF t p t' p') (min p p')).2) (.fin s' t' p') := (if_neg h).trans ((if_neg h2).trans (if_neg h3))
theorem odd_zero_of {r u : Int} (h0 : 0 ≤ r) (h : (oddF r u).1 = 0) : r = 0 := by
  by_cases e : r = 0
  · exact e
  · exact absurd h (oddF_pos (by omega) u)
theorem flL_z {s r u : Int} (h0 : 0 ≤ r) (h : (oddF r u).1 = 0) : FlL (.fin s 0 0) [.int s, .int (oddF r u).1, .int (oddF r u).2] := by
  rw [odd_zero_of h0 h, oddF_zero]
  rfl
theorem odd_nz {r u : Int} (h : ¬ (oddF r u).1 = 0) : ¬ r = 0 := fun z => h (by rw [z, oddF_zero])
/-! ## ints of 64 bits, as the program has them -/
def rAndM : R2 := fun x y H Q => ∃ (i : Int) (k : Nat), x = .int i ∧ y = .int (2 ^ k - 1) ∧ Q (.int (i % 2 ^ k)) H
theorem op_andMR {X : Cx} : OpR X (binaryOp .BitAnd) rAndM := op_andM
theorem l_andM {H : Hp} {Q : VK} {i : Int} (q : Q (.int (i % 18446744073709551616)) H) : rAndM (.int i) (.int 18446744073709551615) H Q := ⟨i, 64, rfl, rfl, q⟩
def spWr : Sp := fun vs H Q _ => ∃ n : Int, vs = [.int n] ∧ Q (.int (wrF n)) H
theorem l_wr {H : Hp} {Q : VK} {E : XK} {n : Int} (q : Q (.int (wrF n)) H) : spWr ([.int n] ++ []) H Q E := ⟨n, rfl, q⟩
section
open PySem.Spec PyProof.Rows
/-- // by a divisor of either sign and of any size but the greatest -/
def CDivE (_ j : Int) : Prop := j ≠ 0 ∧ j.natAbs.log2 < 9000
theorem op_fdivE {X : Cx} : OpR X (binaryOp .FloorDiv) (rI CDivE fun i j => .int (i.fdiv j)) := opI fun _ _ _ _ _ _ _ hc q => floordiv_int hc.1 q (.inl (PyProof.noPylong_of_log2 hc.2))
end
theorem cdivE_of {i j : Int} (h : ¬ j = 0) (hb : bits j ≤ 8000) : CDivE i j := by
  refine ⟨h, ?_⟩
  unfold bits at hb
  rw [bits_def, if_neg h] at hb
  omega
/-! ## what may be raised -/
def RaiseV (TH : Addr) (E : XK) (H : Hp) (msg : Str) : Prop := ∀ d G, H d = none → Same H G → G d = some (.xd [("value", .str msg)]) → E (.ref TH) (some d) G
def spFlI (TH : Addr) : Sp := fun vs H Q E => ∃ a b : Int, vs = [.int a, .int b] ∧ bits b ≤ 8000 ∧ (¬ b = 0 → Q (.int (wrF (a.fdiv b))) H) ∧ (b = 0 → RaiseV TH E H "attempt to perform 'n//0'")
def spMoI (TH : Addr) : Sp := fun vs H Q E => ∃ a b : Int, vs = [.int a, .int b] ∧ (¬ b = 0 → Q (.int (a.fmod b)) H) ∧ (b = 0 → RaiseV TH E H "attempt to perform 'n mod 0'")
inductive Wi where
  | add | sub | mul | flo | mod
def Wi.s : Wi → Str
  | .add => "add" | .sub => "sub" | .mul => "mul" | .flo => "floor" | .mod => "mod"
def Wi.F : Wi → Int → Int → Int
  | .add, a, b => wrF (a + b) | .sub, a, b => wrF (a - b) | .mul, a, b => wrF (a * b) | .flo, a, b => wrF (a.fdiv b) | .mod, a, b => a.fmod b
def Wi.isQ : Wi → Bool
  | .flo => true | .mod => true | _ => false
def Wi.msg : Wi → Str
  | .mod => "attempt to perform 'n mod 0'" | _ => "attempt to perform 'n//0'"
def spInt (TH : Addr) : Sp := fun vs H Q E => ∃ (z : Str) (w : Wi) (a b : Int), vs = [.str z, .int a, .int b] ∧ z = w.s ∧ -9223372036854775808 ≤ a ∧ a ≤ 9223372036854775807 ∧ -9223372036854775808 ≤ b ∧ b ≤ 9223372036854775807 ∧
  (¬ (w.isQ = true ∧ b = 0) → Q (.int (w.F a b)) H) ∧ (w.isQ = true ∧ b = 0 → RaiseV TH E H w.msg)
/-! ## six words on floats -/
inductive W6 where
  | add | sub | mul | div | flo | mod
def W6.s : W6 → Str
  | .add => "add" | .sub => "sub" | .mul => "mul" | .div => "div" | .flo => "floor" | .mod => "mod"
def W6.F : W6 → Fl → Fl → Fl
  | .add, f, g => addF f g | .sub, f, g => addF f g.opp | .mul, f, g => mulF f g | .div, f, g => divF f g | .flo, f, g => floF (divF f g) | .mod, f, g => modF f g
theorem w6_ok {w : W6} {f g : Fl} (hf : f.ok) (hg : g.ok) : (w.F f g).ok := by
  cases w
  · exact add_ok hf hg
  · exact add_ok hf (opp_ok hg)
  · exact mul_ok hf hg
  · exact div_ok hf hg
  · exact flo_ok (div_ok hf hg)
  · exact mod_ok hf hg
def S6 (K : PySem.W.Frag) (aT aS aM aQ aF aO : Addr) (f : Addr) : Option Sp :=
  if f = aT then some (spTwo K addF) else if f = aS then some (spTwo K fun f g => addF f g.opp) else if f = aM then some (spTwo K mulF) else if f = aQ then some (spTwo K divF) else
  if f = aF then some (spTwo K fun f g => floF (divF f g)) else if f = aO then some (spTwo K modF) else none
theorem S6_held {P : Program} {w : World} {K : PySem.W.Frag} {mg : Str → Option Value} {base : Heap} {aT aS aM aQ aF aO : Addr} {k : Nat} (h1 : Held P w K mg base k aT (spTwo K addF)) (h2 : Held P w K mg base k aS (spTwo K fun f g => addF f g.opp)) (h3 : Held P w K mg base k aM (spTwo K mulF)) (h4 : Held P w K mg base k aQ (spTwo K divF))
    (h5 : Held P w K mg base k aF (spTwo K fun f g => floF (divF f g))) (h6 : Held P w K mg base k aO (spTwo K modF)) : ∀ f sp, S6 K aT aS aM aQ aF aO f = some sp → Held P w K mg base k f sp := by
  intro f sp h
  unfold S6 at h
  split at h
  · cases h; rename_i e; subst e; exact h1
  · split at h
    · cases h; rename_i e; subst e; exact h2
    · split at h
      · cases h; rename_i e; subst e; exact h3
      · split at h
        · cases h; rename_i e; subst e; exact h4
        · split at h
          · cases h; rename_i e; subst e; exact h5
          · split at h
            · cases h; rename_i e; subst e; exact h6
            · cases h
/-- all six are unlike -/
def Apart6 (aT aS aM aQ aF aO : Addr) : Prop := (aT ≠ aS ∧ aT ≠ aM ∧ aT ≠ aQ ∧ aT ≠ aF ∧ aT ≠ aO) ∧ (aS ≠ aM ∧ aS ≠ aQ ∧ aS ≠ aF ∧ aS ≠ aO) ∧ (aM ≠ aQ ∧ aM ≠ aF ∧ aM ≠ aO) ∧ (aQ ≠ aF ∧ aQ ≠ aO) ∧ aF ≠ aO
def W6.at_ (aT aS aM aQ aF aO : Addr) : W6 → Addr
  | .add => aT | .sub => aS | .mul => aM | .div => aQ | .flo => aF | .mod => aO
theorem S6_at {K : PySem.W.Frag} {aT aS aM aQ aF aO : Addr} (n : Apart6 aT aS aM aQ aF aO) (w : W6) : S6 K aT aS aM aQ aF aO (w.at_ aT aS aM aQ aF aO) = some (spTwo K w.F) := by
  obtain ⟨⟨n1, n2, n3, n4, n5⟩, ⟨n6, n7, n8, n9⟩, ⟨m1, m2, m3⟩, ⟨m4, m5⟩, m6⟩ := n
  cases w
  · exact if_pos rfl
  · exact (if_neg n1.symm).trans (if_pos rfl)
  · exact (if_neg n2.symm).trans ((if_neg n6.symm).trans (if_pos rfl))
  · exact (if_neg n3.symm).trans ((if_neg n7.symm).trans ((if_neg m1.symm).trans (if_pos rfl)))
  · exact (if_neg n4.symm).trans ((if_neg n8.symm).trans ((if_neg m2.symm).trans ((if_neg m4.symm).trans (if_pos rfl))))
  · exact (if_neg n5.symm).trans ((if_neg n9.symm).trans ((if_neg m3.symm).trans ((if_neg m5.symm).trans ((if_neg m6.symm).trans (if_pos rfl)))))
def spRec6 (K : PySem.W.Frag) : Sp := fun vs H Q _ => ∃ (z : Str) (w : W6) (a b : Addr) (xs ys : List V) (f g : Fl), vs = [.str z, .ref a, .ref b] ∧ z = w.s ∧ SqT K H a xs ∧ SqT K H b ys ∧ FlL f xs ∧ FlL g ys ∧ f.ok ∧ g.ok ∧
  ∀ r H' zs, Same H H' → SqT K H' r zs → FlL (w.F f g) zs → Q (.ref r) H'
theorem l_rec6 {K : PySem.W.Frag} {H : Hp} {Q : VK} {E : XK} {z : Str} {w : W6} {a b : Addr} {xs ys : List V} {f g : Fl} (hz : z = w.s) (h1 : SqT K H a xs) (h2 : SqT K H b ys) (h3 : FlL f xs) (h4 : FlL g ys) (h5 : f.ok) (h6 : g.ok) (q : ∀ r H' zs, Same H H' → SqT K H' r zs → FlL (w.F f g) zs → Q (.ref r) H') : spRec6 K ([.str z, .ref a, .ref b] ++ []) H Q E :=
  ⟨z, w, a, b, xs, ys, f, g, rfl, hz, h1, h2, h3, h4, h5, h6, q⟩
def spA6 (TH C : Addr) : Sp := fun vs H Q E => ∃ (z : Str) (v u : V), vs = [.str z, v, u] ∧
  ((∃ (w : Wi) (a b : Int), v = .int a ∧ u = .int b ∧ z = w.s ∧ -9223372036854775808 ≤ a ∧ a ≤ 9223372036854775807 ∧ -9223372036854775808 ≤ b ∧ b ≤ 9223372036854775807 ∧ (¬ (w.isQ = true ∧ b = 0) → Q (.int (w.F a b)) H) ∧ (w.isQ = true ∧ b = 0 → RaiseV TH E H w.msg)) ∨
   (∃ (w : W6) (f g : Fl), z = w.s ∧ Nv C H v f ∧ Nv C H u g ∧ ((∃ x, v = .ref x) ∨ ∃ x, u = .ref x) ∧ ∀ x H', Same H H' → FltF C H' x (w.F f g) → Q (.ref x) H'))
/-- the law's wrapping, of numbers that two ints of 64 bits can come to -/
def spWrL : Sp := fun vs H Q _ => ∃ n : Int, vs = [.int n] ∧ -(2 ^ 126) ≤ n ∧ n ≤ 2 ^ 126 ∧ Q (.int (wrF n)) H
theorem l_wrL {H : Hp} {Q : VK} {E : XK} {n : Int} (h1 : -(2 ^ 126) ≤ n) (h2 : n ≤ 2 ^ 126) (q : Q (.int (wrF n)) H) : spWrL ([.int n] ++ []) H Q E := ⟨n, rfl, h1, h2, q⟩
section
variable {X : Cx} {k k0 : Nat} {x : Str} {ps : List Str} {sp : Sp} {e : Expr} {es : List Expr} {t : TA} {p pos : Pos} {E : L2.St → XK}
/-- a def that may raise, called in a try -/
theorem pe_cT (G : Cal X.prog X.w X.K X.mg X.base (L2.CX X.prog X.w) k x ps sp) (hr : Room k0 X.A) (hx : ∀ σ, PassesAt (L2.CX X.prog X.w) X σ (E σ)) (ha : PA X (e :: es) t) (hk : k ≤ k0 := by decide) (hg : Gl X x := by rfl) (hdb : (x == ("__debug__" : Str)) = false := by decide)
    (he : starEach (e :: es) X.env = (false, eval e X.env) :: starEach es X.env := by rfl) (hpl : (backTo pos (starEach es X.env)).any (·.1) = false := by rfl) :
    PE X (.Call (.Name x p) (e :: es) [] pos) (tCallS sp E t) := by
  obtain ⟨f, fd, hm, kp, hb, F⟩ := G.ex
  exact pe_callS F (hr.mono hk) hg hm kp hb hx ha hdb he hpl
end
theorem l_callS {sp : Sp} {E : L2.St → XK} {t : TA} {σ : L2.St} {H : Hp} {Q : VK} (h : t σ H fun vs H1 => sp vs H1 Q (E σ)) : tCallS sp E t σ H Q := h
def spSI : Sp := fun vs H Q _ => ∃ (z : Str) (w : Wi) (a b : Int), vs = [.str z, .int a, .int b] ∧ z = w.s ∧ -9223372036854775808 ≤ a ∧ a ≤ 9223372036854775807 ∧ -9223372036854775808 ≤ b ∧ b ≤ 9223372036854775807 ∧
  (¬ (w.isQ = true ∧ b = 0) → ∀ H', Same H H' → Q (.int (w.F a b)) H') ∧ (w.isQ = true ∧ b = 0 → ∀ r H', Same H H' → H' r = some (.lst [.str w.msg]) → Q (.ref r) H')
theorem mul_bd {a b : Int} (a1 : -9223372036854775808 ≤ a) (a2 : a ≤ 9223372036854775807) (b1 : -9223372036854775808 ≤ b) (b2 : b ≤ 9223372036854775807) : -(2 ^ 126) ≤ a * b ∧ a * b ≤ 2 ^ 126 := by
  have h : (a * b).natAbs ≤ 9223372036854775808 * 9223372036854775808 := by
    rw [Int.natAbs_mul]
    exact Nat.mul_le_mul (by omega) (by omega)
  omega
theorem l_said_add {a b : Int} {H : Hp} {Q : VK} {E : XK} (a1 : -9223372036854775808 ≤ a) (a2 : a ≤ 9223372036854775807) (b1 : -9223372036854775808 ≤ b) (b2 : b ≤ 9223372036854775807) (q : ∀ H', Same H H' → Q (.int (wrF (a + b))) H') : spSI ([.str "add", .int a, .int b] ++ []) H Q E := ⟨_, .add, a, b, rfl, rfl, a1, a2, b1, b2, fun _ => q, fun h => absurd h (fun h => by cases h.1)⟩
theorem l_said_sub {a b : Int} {H : Hp} {Q : VK} {E : XK} (a1 : -9223372036854775808 ≤ a) (a2 : a ≤ 9223372036854775807) (b1 : -9223372036854775808 ≤ b) (b2 : b ≤ 9223372036854775807) (q : ∀ H', Same H H' → Q (.int (wrF (a - b))) H') : spSI ([.str "sub", .int a, .int b] ++ []) H Q E := ⟨_, .sub, a, b, rfl, rfl, a1, a2, b1, b2, fun _ => q, fun h => absurd h (fun h => by cases h.1)⟩
theorem l_said_mul {a b : Int} {H : Hp} {Q : VK} {E : XK} (a1 : -9223372036854775808 ≤ a) (a2 : a ≤ 9223372036854775807) (b1 : -9223372036854775808 ≤ b) (b2 : b ≤ 9223372036854775807) (q : ∀ H', Same H H' → Q (.int (wrF (a * b))) H') : spSI ([.str "mul", .int a, .int b] ++ []) H Q E := ⟨_, .mul, a, b, rfl, rfl, a1, a2, b1, b2, fun _ => q, fun h => absurd h (fun h => by cases h.1)⟩
theorem l_said_flo {a b : Int} {H : Hp} {Q : VK} {E : XK} (a1 : -9223372036854775808 ≤ a) (a2 : a ≤ 9223372036854775807) (b1 : -9223372036854775808 ≤ b) (b2 : b ≤ 9223372036854775807) (hb : ¬ b = 0) (q : ∀ H', Same H H' → Q (.int (wrF (a.fdiv b))) H') : spSI ([.str "floor", .int a, .int b] ++ []) H Q E := ⟨_, .flo, a, b, rfl, rfl, a1, a2, b1, b2, fun _ => q, fun h => absurd h (fun h => hb h.2)⟩
theorem l_saidR_flo {a b : Int} {H : Hp} {Q : VK} {E : XK} (a1 : -9223372036854775808 ≤ a) (a2 : a ≤ 9223372036854775807) (b1 : -9223372036854775808 ≤ b) (b2 : b ≤ 9223372036854775807) (hb : b = 0) (q : ∀ r H', Same H H' → H' r = some (.lst [.str (Wi.msg .flo)]) → Q (.ref r) H') : spSI ([.str "floor", .int a, .int b] ++ []) H Q E := ⟨_, .flo, a, b, rfl, rfl, a1, a2, b1, b2, fun h => absurd ⟨rfl, hb⟩ h, fun _ => q⟩
theorem l_a6_flo {TH C : Addr} {a b : Int} {H : Hp} {Q : VK} {E : XK} (a1 : -9223372036854775808 ≤ a) (a2 : a ≤ 9223372036854775807) (b1 : -9223372036854775808 ≤ b) (b2 : b ≤ 9223372036854775807) (hb : ¬ b = 0) (q : Q (.int (wrF (a.fdiv b))) H) : spA6 TH C ([.str "floor", .int a, .int b] ++ []) H Q E := ⟨_, _, _, rfl, .inl ⟨.flo, a, b, rfl, rfl, rfl, a1, a2, b1, b2, fun _ => q, fun h => absurd h.2 hb⟩⟩
theorem l_said_mod {a b : Int} {H : Hp} {Q : VK} {E : XK} (a1 : -9223372036854775808 ≤ a) (a2 : a ≤ 9223372036854775807) (b1 : -9223372036854775808 ≤ b) (b2 : b ≤ 9223372036854775807) (hb : ¬ b = 0) (q : ∀ H', Same H H' → Q (.int (a.fmod b)) H') : spSI ([.str "mod", .int a, .int b] ++ []) H Q E := ⟨_, .mod, a, b, rfl, rfl, a1, a2, b1, b2, fun _ => q, fun h => absurd h (fun h => hb h.2)⟩
theorem l_saidR_mod {a b : Int} {H : Hp} {Q : VK} {E : XK} (a1 : -9223372036854775808 ≤ a) (a2 : a ≤ 9223372036854775807) (b1 : -9223372036854775808 ≤ b) (b2 : b ≤ 9223372036854775807) (hb : b = 0) (q : ∀ r H', Same H H' → H' r = some (.lst [.str (Wi.msg .mod)]) → Q (.ref r) H') : spSI ([.str "mod", .int a, .int b] ++ []) H Q E := ⟨_, .mod, a, b, rfl, rfl, a1, a2, b1, b2, fun h => absurd ⟨rfl, hb⟩ h, fun _ => q⟩
theorem l_a6_mod {TH C : Addr} {a b : Int} {H : Hp} {Q : VK} {E : XK} (a1 : -9223372036854775808 ≤ a) (a2 : a ≤ 9223372036854775807) (b1 : -9223372036854775808 ≤ b) (b2 : b ≤ 9223372036854775807) (hb : ¬ b = 0) (q : Q (.int (a.fmod b)) H) : spA6 TH C ([.str "mod", .int a, .int b] ++ []) H Q E := ⟨_, _, _, rfl, .inl ⟨.mod, a, b, rfl, rfl, rfl, a1, a2, b1, b2, fun _ => q, fun h => absurd h.2 hb⟩⟩
def spIntsR : Sp := fun vs H Q _ => ∃ a b : Int, vs = [.int a, .int b] ∧ -9223372036854775808 ≤ a ∧ a ≤ 9223372036854775807 ∧ -9223372036854775808 ≤ b ∧ b ≤ 9223372036854775807 ∧ ∀ H', Same H H' → Q (.bl true) H'
def spIntD : Sp := fun vs H Q _ => ∃ w : Addr, vs = [.ref w] ∧ Well w H ∧ ∀ (n : Int) H', -9223372036854775808 ≤ n → n ≤ 9223372036854775807 → Ex w H H' → Q (.int n) H'
theorem l_intD {w : Addr} {H : Hp} {Q : VK} {E : XK} (hw : Well w H) (q : ∀ (n : Int) H', -9223372036854775808 ≤ n → n ≤ 9223372036854775807 → Ex w H H' → Q (.int n) H') : spIntD ([.ref w] ++ []) H Q E := ⟨w, rfl, hw, q⟩
/-! whole quotients of two ints of 64 bits -/
theorem fm1 {a b : Int} : b * a.fdiv b + a.fmod b = a := Int.mul_fdiv_add_fmod a b
theorem fm2 {a b : Int} (h : 0 < b) : 0 ≤ a.fmod b ∧ a.fmod b < b := ⟨Int.fmod_nonneg_of_pos a h, Int.fmod_lt_of_pos a h⟩
theorem fm3 {a b : Int} (h : b < 0) : b < a.fmod b ∧ a.fmod b ≤ 0 := by
  have e : (-a).fmod (-b) = -(a.fmod b) := Int.neg_fmod_neg a b
  have := fm2 (a := -a) (b := -b) (by omega)
  omega
theorem qr {a b : Int} (a1 : -9223372036854775808 ≤ a) (a2 : a ≤ 9223372036854775807) (h : ¬ b = 0) (hn : ¬ (a = -9223372036854775808 ∧ b = -1)) : -9223372036854775808 ≤ a.fdiv b ∧ a.fdiv b ≤ 9223372036854775807 := by
  have e := fm1 (a := a) (b := b)
  generalize hq : a.fdiv b = q at *
  by_cases hb : 0 < b
  · have r := fm2 (a := a) hb
    generalize a.fmod b = m at *
    constructor
    · by_cases c : -9223372036854775808 ≤ q
      · exact c
      · have := Int.mul_le_mul_of_nonneg_left (show q + 1 ≤ -9223372036854775808 by omega) (show 0 ≤ b by omega)
        rw [Int.mul_add, Int.mul_one] at this
        omega
    · by_cases c : q ≤ 9223372036854775807
      · exact c
      · have := Int.mul_le_mul_of_nonneg_left (show 9223372036854775808 ≤ q by omega) (show 0 ≤ b by omega)
        omega
  · have r := fm3 (a := a) (b := b) (by omega)
    generalize a.fmod b = m at *
    constructor
    · by_cases c : -9223372036854775808 ≤ q
      · exact c
      · have := Int.mul_le_mul_of_nonneg_left (show q + 1 ≤ -9223372036854775808 by omega) (show 0 ≤ -b by omega)
        rw [Int.mul_add, Int.mul_one, Int.neg_mul] at this
        omega
    · by_cases c : q ≤ 9223372036854775807
      · exact c
      · have := Int.mul_le_mul_of_nonneg_left (show 9223372036854775808 ≤ q by omega) (show 0 ≤ -b by omega)
        simp only [Int.neg_mul] at this
        omega
theorem wq {a b : Int} (a1 : -9223372036854775808 ≤ a) (a2 : a ≤ 9223372036854775807) (h : ¬ b = 0) :
    (a = -9223372036854775808 ∧ b = -1 ∧ a.fdiv b = 9223372036854775808 ∧ a.fmod b = 0) ∨
    (¬ (a.fdiv b = -9223372036854775808 ∧ b = -1) ∧ -9223372036854775808 ≤ a.fdiv b ∧ a.fdiv b ≤ 9223372036854775807 ∧ a = b * a.fdiv b + a.fmod b ∧ (a.fmod b).natAbs < b.natAbs ∧ (a.fmod b = 0 ∨ (a.fmod b < 0 ↔ b < 0))) := by
  by_cases hn : a = -9223372036854775808 ∧ b = -1
  · obtain ⟨rfl, rfl⟩ := hn
    exact .inl ⟨rfl, rfl, by decide, by decide⟩
  · refine .inr ?_
    have r := qr a1 a2 h hn
    have e := fm1 (a := a) (b := b)
    have hh : (a.fmod b).natAbs < b.natAbs ∧ (a.fmod b = 0 ∨ (a.fmod b < 0 ↔ b < 0)) := by
      by_cases hb : 0 < b
      · have := fm2 (a := a) hb
        omega
      · have := fm3 (a := a) (b := b) (by omega)
        omega
    refine ⟨?_, r.1, r.2, e.symm, hh.1, hh.2⟩
    rintro ⟨c, rfl⟩
    rw [c] at e
    omega
end U
namespace U
open PySem
/-! ## the order of numbers -/
def Fl.wide : Fl → Prop
  | .fin s t p => (s = 1 ∨ s = -1) ∧ 0 ≤ t ∧ t < 2 ^ 65 ∧ -1074 ≤ p ∧ p ≤ 1024
  | .inf s => s = 1 ∨ s = -1
  | .nan => True
theorem ok_wide {f : Fl} (h : f.ok) : f.wide := by
  cases f with
  | nan => exact True.intro
  | inf s => exact h
  | fin s t p =>
    obtain ⟨a, b, c, -, d, e⟩ := ok_bounds h
    exact ⟨a, b, by omega, d, e⟩
/-- an int by its parts -/
def ptI (n : Int) : Fl := .fin (if n < 0 then -1 else 1) (absI n) 0
theorem ptI_wide {n : Int} (h1 : -18446744073709551616 ≤ n) (h2 : n ≤ 18446744073709551616) : (ptI n).wide := by
  unfold ptI
  refine ⟨?_, ?_, ?_, by decide, by decide⟩
  · split
    · exact .inr rfl
    · exact .inl rfl
  · unfold absI; omega
  · unfold absI; omega
def Fl.isNan : Fl → Bool
  | .nan => true
  | _ => false
def ltFl : Fl → Fl → Bool
  | .inf s, .inf s' => decide (s < s')
  | .inf s, .fin _ _ _ => decide (s < 0)
  | .fin _ _ _, .inf s' => decide (0 < s')
  | .fin s t p, .fin s' t' p' => decide (alF s t p (min p p') < alF s' t' p' (min p p'))
  | _, _ => false
def cLt (f g : Fl) : Bool := !f.isNan && (!g.isNan && ltFl f g)
def cLe (f g : Fl) : Bool := !f.isNan && (!g.isNan && !ltFl g f)
def cEq (f g : Fl) : Bool := cLe f g && cLe g f
def Fl.num : Fl → Int
  | .fin s t p => s * (t * 2 ^ p.toNat)
  | .inf s => s * 2 ^ 2000
  | .nan => 0
def Fl.den : Fl → Int
  | .fin _ _ p => 2 ^ (-p).toNat
  | _ => 1
theorem sgn_absI (n : Int) : (if n < 0 then -1 else 1) * absI n = n := by
  unfold absI
  by_cases h : n < 0
  · rw [if_pos h]; omega
  · rw [if_neg h]; omega
theorem ltFl_int (i j : Int) : ltFl (ptI i) (ptI j) = decide (i < j) := by
  show decide (alF _ _ _ _ < alF _ _ _ _) = _
  unfold alF
  rw [sgn_absI, sgn_absI]
  simp
theorem den_pos (f : Fl) : 0 < f.den := by
  cases f with
  | fin s t p => exact tp _
  | inf s => exact Int.zero_lt_one
  | nan => exact Int.zero_lt_one
theorem mul_pos_lt {a b c : Int} (h : 0 < c) : a * c < b * c ↔ a < b := by
  constructor
  · intro z
    rcases Int.lt_or_le a b with y | y
    · exact y
    · have := Int.mul_le_mul_of_nonneg_right y (Int.le_of_lt h)
      omega
  · intro z
    exact Int.mul_lt_mul_of_pos_right z h
theorem fin_bound {s t p : Int} (h : Fl.wide (.fin s t p)) (n : Nat) (hn : n ≤ 1100) : -(2 ^ 2000) < s * (t * 2 ^ p.toNat) * 2 ^ 0 ∧ s * (t * 2 ^ p.toNat) * 2 ^ 0 < 2 ^ 2000 := by
  obtain ⟨hs, h0, h1, h2, h3⟩ := h
  have a : t * 2 ^ p.toNat < 2 ^ 65 * 2 ^ p.toNat := Int.mul_lt_mul_of_pos_right h1 (tp _)
  rw [← tpa] at a
  have b := tple (show 65 + p.toNat ≤ 2000 by omega)
  have c : 0 ≤ t * 2 ^ p.toNat := Int.mul_nonneg h0 (Int.le_of_lt (tp _))
  rw [Int.pow_zero, Int.mul_one]
  rcases hs with rfl | rfl
  · rw [Int.one_mul]; omega
  · rw [show (-1 : Int) * (t * 2 ^ p.toNat) = -(t * 2 ^ p.toNat) by omega]; omega
/-- the order by fractions -/
theorem lt_frac {f g : Fl} (hf : f.wide) (hg : g.wide) (nf : f.isNan = false) (ng : g.isNan = false) : ltFl f g = decide (f.num * g.den < g.num * f.den) := by
  cases f with
  | nan => cases nf
  | inf s =>
    have hs : s = 1 ∨ s = -1 := hf
    cases g with
    | nan => cases ng
    | inf s' =>
      have hs' : s' = 1 ∨ s' = -1 := hg
      refine decide_eq_decide.mpr ?_
      show s < s' ↔ s * 2 ^ 2000 * 1 < s' * 2 ^ 2000 * 1
      rw [Int.mul_one, Int.mul_one, mul_pos_lt (tp 2000)]
    | fin s' t p =>
      obtain ⟨b1, b2⟩ := fin_bound hg 0 (by omega)
      rw [Int.pow_zero, Int.mul_one] at b1 b2
      refine decide_eq_decide.mpr ?_
      show s < 0 ↔ s * 2 ^ 2000 * 2 ^ (-p).toNat < s' * (t * 2 ^ p.toNat) * 1
      rw [Int.mul_one]
      have d := tp1 (-p).toNat
      have e : 2 ^ 2000 ≤ 2 ^ 2000 * (2 : Int) ^ (-p).toNat := by
        have := Int.mul_le_mul_of_nonneg_left d (Int.le_of_lt (tp 2000))
        rw [Int.mul_one] at this
        exact this
      rcases hs with rfl | rfl
      · rw [Int.one_mul]; constructor <;> intro z <;> omega
      · rw [show (-1 : Int) * 2 ^ 2000 * 2 ^ (-p).toNat = -(2 ^ 2000 * 2 ^ (-p).toNat) by rw [Int.neg_mul, Int.one_mul, Int.neg_mul]]; constructor <;> intro z <;> omega
  | fin s t p =>
    cases g with
    | nan => cases ng
    | inf s' =>
      have hs' : s' = 1 ∨ s' = -1 := hg
      obtain ⟨b1, b2⟩ := fin_bound hf 0 (by omega)
      rw [Int.pow_zero, Int.mul_one] at b1 b2
      refine decide_eq_decide.mpr ?_
      show 0 < s' ↔ s * (t * 2 ^ p.toNat) * 1 < s' * 2 ^ 2000 * 2 ^ (-p).toNat
      rw [Int.mul_one]
      have d := tp1 (-p).toNat
      have e : 2 ^ 2000 ≤ 2 ^ 2000 * (2 : Int) ^ (-p).toNat := by
        have := Int.mul_le_mul_of_nonneg_left d (Int.le_of_lt (tp 2000))
        rw [Int.mul_one] at this
        exact this
      rcases hs' with rfl | rfl
      · rw [Int.one_mul]; constructor <;> intro z <;> omega
      · rw [show (-1 : Int) * 2 ^ 2000 * 2 ^ (-p).toNat = -(2 ^ 2000 * 2 ^ (-p).toNat) by rw [Int.neg_mul, Int.one_mul, Int.neg_mul]]; constructor <;> intro z <;> omega
    | fin s' t' p' =>
      refine decide_eq_decide.mpr ?_
      show alF s t p (min p p') < alF s' t' p' (min p p') ↔ s * (t * 2 ^ p.toNat) * 2 ^ (-p').toNat < s' * (t' * 2 ^ p'.toNat) * 2 ^ (-p).toNat
      have e1 : (2 : Int) ^ p.toNat * 2 ^ (-p').toNat = 2 ^ (p - min p p').toNat * 2 ^ (min p p' + (-p).toNat + (-p').toNat).toNat := by
        rw [← tpa, ← tpa]
        congr 1
        omega
      have e2 : (2 : Int) ^ p'.toNat * 2 ^ (-p).toNat = 2 ^ (p' - min p p').toNat * 2 ^ (min p p' + (-p).toNat + (-p').toNat).toNat := by
        rw [← tpa, ← tpa]
        congr 1
        omega
      have x1 : s * (t * 2 ^ p.toNat) * 2 ^ (-p').toNat = alF s t p (min p p') * 2 ^ (min p p' + (-p).toNat + (-p').toNat).toNat := by
        unfold alF
        rw [show s * (t * 2 ^ p.toNat) * 2 ^ (-p').toNat = s * t * (2 ^ p.toNat * 2 ^ (-p').toNat) by ac_rfl, e1]
        ac_rfl
      have x2 : s' * (t' * 2 ^ p'.toNat) * 2 ^ (-p).toNat = alF s' t' p' (min p p') * 2 ^ (min p p' + (-p).toNat + (-p').toNat).toNat := by
        unfold alF
        rw [show s' * (t' * 2 ^ p'.toNat) * 2 ^ (-p).toNat = s' * t' * (2 ^ p'.toNat * 2 ^ (-p).toNat) by ac_rfl, e2]
        ac_rfl
      rw [x1, x2]
      exact (mul_pos_lt (tp _)).symm
/-- what the law asks for, by its gap -/
theorem dues {f g : Fl} (hf : f.wide) (hg : g.wide) (nf : f.isNan = false) (ng : g.isNan = false) :
    cLt f g = decide (f.num * g.den - g.num * f.den < 0) ∧ cLe f g = decide (f.num * g.den - g.num * f.den ≤ 0) ∧ cEq f g = decide (f.num * g.den - g.num * f.den = 0) := by
  unfold cEq cLt cLe
  rw [nf, ng, lt_frac hf hg nf ng, lt_frac hg hf ng nf]
  generalize f.num * g.den = a
  generalize g.num * f.den = b
  refine ⟨?_, ?_, ?_⟩ <;> (rw [Bool.eq_iff_iff]; simp; omega)
theorem dues_nan {f g : Fl} (h : f.isNan = true ∨ g.isNan = true) : cLt f g = false ∧ cLe f g = false ∧ cEq f g = false := by
  unfold cEq cLt cLe
  rcases h with h | h <;> simp [h]
end U
namespace U
open PySem PySem.Spec PyProof.Rows PySem.SeqAt L2
open AutoSeq1 (wpAny_loadPart')
open MeetsSeq
section
variable {M : Model} {prog : Program} {w : World} {A : Around} {E : Value → Shared → Prop} {s : Shared} {K : PySem.W.Frag} {x y C D : Addr} {ox oy : Obj} {od od' : Option Obj} {a : Value}
/-- what a class without an == of its own has -/
structure IdC (K : PySem.W.Frag) (C : Addr) : Prop where
  eq : PySem.W.findIn K (.ref C) "__eq__" = some (some (.builtin "object.__eq__"))
  ob : PySem.W.mroIn K C (.type "object") = some true
  nN : PySem.W.subIn K (.ref C) (.type "NoneType") = some false
  nB : PySem.W.subIn K (.ref C) (.type "bool") = some false
  nI : PySem.W.subIn K (.ref C) (.type "int") = some false
  nS : PySem.W.subIn K (.ref C) (.type "str") = some false
theorem oEntry {Q : Fin → Shared → Prop} (hs : isSame (.ref x) a = pure false) (hq : Q (.done (.ret .notImplemented)) s) : wpAny M A (Builtin.«object.__eq__» ⟨[.ref x, a], []⟩) Q E s := by
  unfold Builtin.«object.__eq__»
  repeat (first | with_reducible refine wpAny_of_eq hs (wpAny_pure ?_) | wp_step)
  all_goals first | exact hq | skip
theorem oCall {Q : Value → Shared → Prop} (hs : isSame (.ref x) a = pure false) (X : K.In s.heap) (I : PySem.W.InstAt s.heap x ox C od) (hm : PySem.W.mroIn K C (.type "object") = some true) (hq : Q .notImplemented s) :
    wpAny (model prog w) A (call (.builtin "object.__eq__") [.ref x, a]) Q E s :=
  wpAny_call (codeAny_call_builtin F.cmp_object.eq.plain F.cmpEntry_eq (PySem.W.check_slot F.cmpKind_eq F.cmpSplit_eq (I.type.andThen (PySem.W.looks_mroIn X hm)) (F.cmpArgs_eq _ _) (oEntry hs hq)))
end
theorem int_inst_bool (b : Bool) (l C dx : Addr) :
    Meets (Builtin.«int.__eq__» ⟨[.bool b, .ref l], []⟩) (fun _ R s => s.heap.get? l = some (PySem.W.instObj C dx) ∧ R (.ok (.ret .notImplemented)) s) :=
  .of_wp fun prog w A R s h => by obtain ⟨hp, g, d, tk, os⟩ := s; obtain ⟨hl, h⟩ := h; unfold PySem.W.instObj at hl; wp_walk using wpAny_loadPart' hl, wpAny_load hl; exact ⟨_, rfl, h⟩
theorem int_inst_int (b : Int) (u : Tok) (l C dx : Addr) :
    Meets (Builtin.«int.__eq__» ⟨[.int b u, .ref l], []⟩) (fun _ R s => s.heap.get? l = some (PySem.W.instObj C dx) ∧ R (.ok (.ret .notImplemented)) s) :=
  .of_wp fun prog w A R s h => by obtain ⟨hp, g, d, tk, os⟩ := s; obtain ⟨hl, h⟩ := h; unfold PySem.W.instObj at hl; wp_walk using wpAny_loadPart' hl, wpAny_load hl; exact ⟨_, rfl, h⟩
theorem str_inst_str (b : Str) (u : Tok) (l C dx : Addr) :
    Meets (Builtin.«str.__eq__» ⟨[.str b u, .ref l], []⟩) (fun _ R s => s.heap.get? l = some (PySem.W.instObj C dx) ∧ R (.ok (.ret .notImplemented)) s) :=
  .of_wp fun prog w A R s h => by obtain ⟨hp, g, d, tk, os⟩ := s; obtain ⟨hl, h⟩ := h; unfold PySem.W.instObj at hl; wp_walk using wpAny_loadPart' hl, wpAny_load hl; exact ⟨_, rfl, h⟩
/-- None, a bool, an int, a text -/
def isSc : V → Bool
  | .non => true | .bl _ => true | .int _ => true | .str _ => true | _ => false
def tySc : V → String
  | .bl _ => "bool" | .int _ => "int" | .str _ => "str" | _ => "NoneType"
section
variable {prog : Program} {w : World} {A : Around} {E : Value → Shared → Prop} {s : Shared} {K : PySem.W.Frag} {x y C D dx dy : Addr} {v : V} {u : Value}
theorem sc_ty (r : RelV v u) (h : isSc v = true) : s.TypeIs u (tySc v) := by
  cases v with
  | non => cases r; exact rfl
  | bl b => cases r; exact rfl
  | int i => obtain ⟨t, rfl⟩ := r; exact rfl
  | str z => obtain ⟨t, rfl⟩ := r; exact typeIs_str s z t
  | _ => cases h
theorem sc_same (r : RelV v u) (h : isSc v = true) : isSame (.ref x) u = pure false ∧ isSame u (.ref x) = pure false := by
  cases v with
  | non => cases r; exact ⟨rfl, rfl⟩
  | bl b => cases r; exact ⟨rfl, rfl⟩
  | int i => obtain ⟨t, rfl⟩ := r; exact ⟨rfl, rfl⟩
  | str z => obtain ⟨t, rfl⟩ := r; exact ⟨rfl, rfl⟩
  | _ => cases h
theorem sc_sub1 (I : IdC K C) (h : isSc v = true) : PySem.W.subIn K (.ref C) (.type (tySc v)) = some false := by
  cases v with
  | non => exact I.nN
  | bl b => exact I.nB
  | int i => exact I.nI
  | str z => exact I.nS
  | _ => cases h
theorem sub_ty (T : String) {l : List Value} (e : fastBuiltinMro T = some l) (n : l.contains (.ref C) = false) : PySem.W.subIn K (.type T) (.ref C) = some false := by
  show (fastBuiltinMro T).map (·.contains (.ref C)) = some false
  rw [e]
  exact congrArg some n
theorem sc_sub2 (h : isSc v = true) : PySem.W.subIn K (.type (tySc v)) (.ref C) = some false := by
  cases v with
  | non => exact sub_ty "NoneType" (l := [.type "NoneType", .type "object"]) (by decide +kernel) rfl
  | bl b => exact sub_ty "bool" (l := [.type "bool", .type "int", .type "object"]) (by decide +kernel) rfl
  | int i => exact sub_ty "int" (l := [.type "int", .type "object"]) (by decide +kernel) rfl
  | str z => exact sub_ty "str" (l := [.type "str", .type "object"]) (by decide +kernel) rfl
  | _ => cases h
/-- a scalar's own == knows nothing of an instance -/
theorem sc_declines (r : RelV v u) (h : isSc v = true) (hl : s.heap.get? x = some (PySem.W.instObj C dx)) : wpAny (model prog w) A (tryCompare u "__eq__" (.ref x)) (fun r s' => r = none ∧ s' = s) E s := by
  cases v with
  | non =>
    cases r
    exact wpAny_tryCompare_declines (show s.TypeIs .none "NoneType" from rfl) F.slot_NoneType_eq_refl (call_gives F.slot_NoneType_eq_refl rfl F.entry_NoneType_eq (F.args_NoneType_eq_2 _ _) (NoneType___eq___none_ref_0 x) ⟨rfl, rfl, rfl⟩)
  | bl b =>
    cases r
    exact wpAny_tryCompare_declines (show s.TypeIs (.bool b) "bool" from rfl) F.slot_bool_eq (call_meets F.slot_bool_eq rfl F.entry_int_eq (F.args_int_eq_2 _ _) (int_inst_bool b x C dx) ⟨hl, rfl, rfl, rfl⟩)
  | int i =>
    obtain ⟨t, rfl⟩ := r
    exact wpAny_tryCompare_declines (show s.TypeIs (.int i t) "int" from rfl) F.slot_int_eq (call_meets F.slot_int_eq rfl F.entry_int_eq (F.args_int_eq_2 _ _) (int_inst_int i t x C dx) ⟨hl, rfl, rfl, rfl⟩)
  | str z =>
    obtain ⟨t, rfl⟩ := r
    exact wpAny_tryCompare_declines (typeIs_str s z t) F.slot_str_eq (call_meets F.slot_str_eq (typeIs_str s z t) F.entry_str_eq (F.args_str_eq_2 _ _) (str_inst_str z t x C dx) ⟨hl, rfl, rfl, rfl⟩)
  | _ => cases h
theorem ob_declines (hs : isSame (.ref x) u = pure false) (X : K.In s.heap) {ox : Obj} {od : Option Obj} (J : PySem.W.InstAt s.heap x ox C od) (I : IdC K C) : wpAny (model prog w) A (tryCompare (.ref x) "__eq__" u) (fun r s' => r = none ∧ s' = s) E s := by
  unfold tryCompare
  exact wpAny_bind (HN.ifBound_objEq X J I.eq (oCall hs X J I.ob (wpAny_pure ⟨rfl, rfl⟩)))
theorem rcL (hu : A.units < cLine) (X : K.In s.heap) {ox : Obj} {od : Option Obj} (J : PySem.W.InstAt s.heap x ox C od) (hl : s.heap.get? x = some (PySem.W.instObj C dx)) (I : IdC K C) (r : RelV v u) (h : isSc v = true) {Q : Value → Shared → Prop} (q : Q (.bool false) s) :
    wpAny (model prog w) A (richCompare .Eq (.ref x) u) Q E s := by
  have one := ob_declines (prog := prog) (w := w) (A := A) (E := E) (sc_same (x := x) r h).1 X J I
  have two := sc_declines (prog := prog) (w := w) (A := A) (E := E) r h hl
  simp only [richCompare, cmpInfo_Eq, oneThing_ref]
  refine wpAny_holding (wpAny_bind (wpAny_cRoomFor hu ?_))
  refine wpAny_bind (J.type.here ?_)
  refine wpAny_bind (wpAny_typeOf (sc_ty r h) ?_)
  split
  · refine wpAny_bind ((PySem.W.looks_subIn X (sc_sub2 h)).here ?_)
    simp only [Bool.false_eq_true, if_false, Bool.not_false, if_true]
    refine wpAny_bind (m := tryCompare (.ref x) _ u) (wpAny_mono one (fun r s1 z => ?_) fun _ _ e => e)
    obtain ⟨z1, z2⟩ := z
    subst z1
    subst z2
    refine wpAny_bind (m := tryCompare u _ (.ref x)) (wpAny_mono two (fun r s2 z => ?_) fun _ _ e => e)
    obtain ⟨z1, z2⟩ := z
    subst z1
    subst z2
    exact wpAny_bind (wpAny_rule (wpAny_bind (wpAny_of_eq (sc_same ‹RelV v u› h).1 (wpAny_pure q))))
  · rename_i z
    exact absurd (by simp) z
theorem rcR (hu : A.units < cLine) (X : K.In s.heap) {ox : Obj} {od : Option Obj} (J : PySem.W.InstAt s.heap x ox C od) (hl : s.heap.get? x = some (PySem.W.instObj C dx)) (I : IdC K C) (r : RelV v u) (h : isSc v = true) {Q : Value → Shared → Prop} (q : Q (.bool false) s) :
    wpAny (model prog w) A (richCompare .Eq u (.ref x)) Q E s := by
  have one := ob_declines (prog := prog) (w := w) (A := A) (E := E) (sc_same (x := x) r h).1 X J I
  have two := sc_declines (prog := prog) (w := w) (A := A) (E := E) r h hl
  simp only [richCompare, cmpInfo_Eq, (sc_ty (s := s) r h).oneThing_none]
  refine wpAny_holding (wpAny_bind (wpAny_cRoomFor hu ?_))
  refine wpAny_bind (wpAny_typeOf (sc_ty r h) ?_)
  refine wpAny_bind (J.type.here ?_)
  split
  · refine wpAny_bind ((PySem.W.looks_subIn X (sc_sub1 I h)).here ?_)
    simp only [Bool.false_eq_true, if_false, Bool.not_false, if_true]
    refine wpAny_bind (m := tryCompare u _ (.ref x)) (wpAny_mono two (fun r s1 z => ?_) fun _ _ e => e)
    obtain ⟨z1, z2⟩ := z
    subst z1
    subst z2
    refine wpAny_bind (m := tryCompare (.ref x) _ u) (wpAny_mono one (fun r s2 z => ?_) fun _ _ e => e)
    obtain ⟨z1, z2⟩ := z
    subst z1
    subst z2
    exact wpAny_bind (wpAny_rule (wpAny_bind (wpAny_of_eq (sc_same ‹RelV v u› h).2 (wpAny_pure q))))
  · rename_i z
    exact absurd (by simp) z
theorem rcSame (hu : A.units < cLine) (X : K.In s.heap) {ox : Obj} {od : Option Obj} (J : PySem.W.InstAt s.heap x ox C od) (I : IdC K C) {Q : Value → Shared → Prop} (q : Q (.bool true) s) :
    wpAny (model prog w) A (richCompare .Eq (.ref x) (.ref x)) Q E s := by
  have one : wpAny (model prog w) A (tryCompare (.ref x) "__eq__" (.ref x)) (fun r s' => r = some (.bool true) ∧ s' = s) E s := by
    unfold tryCompare
    refine wpAny_bind (HN.ifBound_objEq X J I.eq (wpAny_call (codeAny_call_builtin F.cmp_object.eq.plain F.cmpEntry_eq (PySem.W.check_slot F.cmpKind_eq F.cmpSplit_eq (J.type.andThen (PySem.W.looks_mroIn X I.ob)) (F.cmpArgs_eq _ _) (objEq_entry_same ?_)))))
    exact wpAny_pure ⟨rfl, rfl⟩
  simp only [richCompare, cmpInfo_Eq, oneThing_ref]
  refine wpAny_holding (wpAny_bind (wpAny_cRoomFor hu ?_))
  refine wpAny_bind (J.type.here ?_)
  refine wpAny_bind (J.type.here ?_)
  split
  · rename_i z
    exact absurd z (by simp)
  · refine wpAny_bind (wpAny_pure ?_)
    simp only [Bool.false_eq_true, if_false]
    refine wpAny_bind (m := tryCompare (.ref x) _ (.ref x)) (wpAny_mono one (fun r s1 z => ?_) fun _ _ e => e)
    obtain ⟨z1, z2⟩ := z
    subst z1
    subst z2
    exact wpAny_pure q
theorem oEntry2 {M : Model} {ox oy : Obj} {Q : Fin → Shared → Prop} (hxy : x ≠ y) (hx : s.heap.get? x = some ox) (hy : s.heap.get? y = some oy) (hnt : ox.cls ≠ .type "tuple") (hq : Q (.done (.ret .notImplemented)) s) : wpAny M A (Builtin.«object.__eq__» ⟨[.ref x, .ref y], []⟩) Q E s :=
  objEq_entry_other hxy hx hy hnt hq
theorem ob_declines2 (hxy : x ≠ y) (X : K.In s.heap) {ox oy : Obj} {od : Option Obj} (J : PySem.W.InstAt s.heap x ox C od) (hy : s.heap.get? y = some oy) (I : IdC K C) : wpAny (model prog w) A (tryCompare (.ref x) "__eq__" (.ref y)) (fun r s' => r = none ∧ s' = s) E s := by
  unfold tryCompare
  have hnt : ox.cls ≠ .type "tuple" := fun e => by rw [J.cls] at e; cases e
  exact wpAny_bind (HN.ifBound_objEq X J I.eq (wpAny_call (codeAny_call_builtin F.cmp_object.eq.plain F.cmpEntry_eq (PySem.W.check_slot F.cmpKind_eq F.cmpSplit_eq (J.type.andThen (PySem.W.looks_mroIn X I.ob)) (F.cmpArgs_eq _ _) (oEntry2 hxy J.at_ hy hnt (wpAny_pure ⟨rfl, rfl⟩))))))
theorem rcOther (hu : A.units < cLine) (hxy : x ≠ y) (X : K.In s.heap) {ox oy : Obj} {od od' : Option Obj} (J : PySem.W.InstAt s.heap x ox C od) (J' : PySem.W.InstAt s.heap y oy D od') (I : IdC K C) (I' : IdC K D) (hs : C = D ∨ PySem.W.subIn K (.ref D) (.ref C) = some false) {Q : Value → Shared → Prop} (q : Q (.bool false) s) :
    wpAny (model prog w) A (richCompare .Eq (.ref x) (.ref y)) Q E s := by
  have one := ob_declines2 (prog := prog) (w := w) (A := A) (E := E) hxy X J J'.at_ I
  have two := ob_declines2 (prog := prog) (w := w) (A := A) (E := E) (Ne.symm hxy) X J' J.at_ I'
  have hnt : ox.cls ≠ .type "tuple" := fun e => by rw [J.cls] at e; cases e
  simp only [richCompare, cmpInfo_Eq, oneThing_ref]
  refine wpAny_holding (wpAny_bind (wpAny_cRoomFor hu ?_))
  refine wpAny_bind (J.type.here ?_)
  refine wpAny_bind (J'.type.here ?_)
  have fin : wpAny (model prog w) A (do
      if let some v ← tryCompare (.ref x) "__eq__" (.ref y) then return v
      if let some v ← tryCompare (.ref y) "__eq__" (.ref x) then return v
      rule "compare.eq-identity"
      return .bool (← isSame (.ref x) (.ref y)) : Sem Value) Q E s := by
    refine wpAny_bind (m := tryCompare (.ref x) _ (.ref y)) (wpAny_mono one (fun r s1 z => ?_) fun _ _ e => e)
    obtain ⟨z1, z2⟩ := z
    subst z1
    subst z2
    refine wpAny_bind (m := tryCompare (.ref y) _ (.ref x)) (wpAny_mono two (fun r s2 z => ?_) fun _ _ e => e)
    obtain ⟨z1, z2⟩ := z
    subst z1
    subst z2
    exact wpAny_bind (wpAny_rule (wpAny_bind (wpAny_isSame_ref_other hxy J.at_ J'.at_ hnt (wpAny_pure q))))
  split
  · rename_i z
    rcases hs with e | e
    · subst e
      exact absurd z (by simp)
    · refine wpAny_bind ((PySem.W.looks_subIn X e).here ?_)
      simp only [Bool.false_eq_true, if_false, Bool.not_false, if_true]
      exact fin
  · refine wpAny_bind (wpAny_pure ?_)
    simp only [Bool.false_eq_true, if_false, Bool.not_false, if_true]
    exact fin
end
/-! ### the operator -/
/-- an instance of a class without its own == -/
def Obj0 (K : PySem.W.Frag) (H : Hp) (v : V) (C : Addr) : Prop := ∃ (a dx : Addr) (fs : List (Str × V)), v = .ref a ∧ H a = some (.ins C dx fs) ∧ IdC K C
/-- == of scalars and of such instances -/
def rEqI (K : PySem.W.Frag) : R2 := fun x y H Q => (scal x y = true ∧ Q (.bl (decide (x = y))) H) ∨ (∃ C, Obj0 K H x C ∧ isSc y = true ∧ Q (.bl false) H) ∨ (∃ C, Obj0 K H y C ∧ isSc x = true ∧ Q (.bl false) H) ∨
  (∃ C D, Obj0 K H x C ∧ Obj0 K H y D ∧ (C = D ∨ PySem.W.subIn K (.ref D) (.ref C) = some false) ∧ Q (.bl (decide (x = y))) H)
theorem op_eqI {X : Cx} (hu : X.A.units + 64 < cLine) : OpR X (compareOp .Eq) (rEqI X.K) := by
  intro pins s σ H x y v u Q I rx ry h
  have hu0 : X.A.units < cLine := by omega
  rcases h with ⟨hs, q⟩ | ⟨C, ⟨a, dx, fs, rfl, ha, hC⟩, hy, q⟩ | ⟨C, ⟨a, dx, fs, rfl, ha, hC⟩, hx, q⟩ | ⟨C, D, ⟨a, dx, fs, rfl, ha, hC⟩, ⟨b, dy, gs, rfl, hb, hD⟩, hs, q⟩
  · exact op_eq pins s σ H x y v u Q I rx ry ⟨hs, q⟩
  · cases (show v = Value.ref a from rx)
    obtain ⟨mA, O, _⟩ := ins_get I.hok ha
    obtain ⟨od, J, _⟩ := O.look
    exact rcL hu0 I.kIn J O.obj hC ry hy ⟨.bl _, H, I, rfl, q⟩
  · cases (show u = Value.ref a from ry)
    obtain ⟨mA, O, _⟩ := ins_get I.hok ha
    obtain ⟨od, J, _⟩ := O.look
    exact rcR hu0 I.kIn J O.obj hC rx hx ⟨.bl _, H, I, rfl, q⟩
  · cases (show v = Value.ref a from rx)
    cases (show u = Value.ref b from ry)
    obtain ⟨mA, O, _⟩ := ins_get I.hok ha
    obtain ⟨od, J, _⟩ := O.look
    obtain ⟨mB, O', _⟩ := ins_get I.hok hb
    obtain ⟨od', J', _⟩ := O'.look
    by_cases e : a = b
    · subst e
      rw [decide_eq_true rfl] at q
      exact rcSame hu0 I.kIn J hC ⟨.bl _, H, I, rfl, q⟩
    · rw [decide_eq_false (fun z => e (V.ref.inj z))] at q
      exact rcOther hu0 e I.kIn J J' hC hD hs ⟨.bl _, H, I, rfl, q⟩
end U
namespace U
open PySem L2
/-! ## comparing, as the program has it -/
def sideF : Fl → Int
  | .inf s => s
  | _ => 0
/-- a number, exact -/
def NmV (C : Addr) (H : Hp) (v : V) (f : Fl) : Prop := (∃ x, v = .ref x ∧ FltF C H x f ∧ f.ok) ∨ (∃ n, v = .int n ∧ -18446744073709551616 ≤ n ∧ n ≤ 18446744073709551616 ∧ f = ptI n)
theorem NmV.wide {C : Addr} {H : Hp} {v : V} {f : Fl} (h : NmV C H v f) : f.wide := by
  rcases h with ⟨_, _, _, k⟩ | ⟨n, _, h1, h2, rfl⟩
  · exact ok_wide k
  · exact ptI_wide h1 h2
theorem NmV.same {C : Addr} {H H' : Hp} {v : V} {f : Fl} (h : NmV C H v f) (e : Same H H') : NmV C H' v f := by
  rcases h with ⟨x, rfl, hx, k⟩ | h
  · exact .inl ⟨x, rfl, hx.same e, k⟩
  · exact .inr h
theorem nm_ref {C : Addr} {H : Hp} {x : Addr} {f : Fl} (h : FltF C H x f) (k : f.ok) : NmV C H (.ref x) f := .inl ⟨x, rfl, h, k⟩
theorem nm_int {C : Addr} {H : Hp} {n : Int} (h1 : -18446744073709551616 ≤ n) (h2 : n ≤ 18446744073709551616) : NmV C H (.int n) (ptI n) := .inr ⟨n, rfl, h1, h2, rfl⟩
theorem ptI_nan {n : Int} : (ptI n).isNan = false := rfl
theorem flL_ptI {n : Int} : FlL (ptI n) [.int (if n < 0 then -1 else 1), .int (absI n), .int 0] := rfl
theorem fltF_any {C : Addr} {H : Hp} {x : Addr} {f : Fl} (h : FltF C H x f) : ∃ s t p, Flt C H x s t p := by
  cases f <;> exact ⟨_, _, _, h⟩
def spAliW (K : PySem.W.Frag) : Sp := fun vs H Q _ => ∃ (a b : Addr) (s t p s' t' p' : Int), vs = [.ref a, .ref b] ∧ SqT K H a [.int s, .int t, .int p] ∧ SqT K H b [.int s', .int t', .int p'] ∧ Fl.wide (.fin s t p) ∧ Fl.wide (.fin s' t' p') ∧
  ∀ r H', Same H H' → H' r = some (.tup [.int (alF s t p (min p p')), .int (alF s' t' p' (min p p')), .int (min p p')]) → Q (.ref r) H'
def spSide (K : PySem.W.Frag) : Sp := fun vs H Q _ => ∃ (a : Addr) (xs : List V) (f : Fl), vs = [.ref a] ∧ SqT K H a xs ∧ FlL f xs ∧ Q (.int (sideF f)) H
def spLess (K : PySem.W.Frag) : Sp := fun vs H Q _ => ∃ (a b : Addr) (xs ys : List V) (f g : Fl), vs = [.ref a, .ref b] ∧ SqT K H a xs ∧ SqT K H b ys ∧ FlL f xs ∧ FlL g ys ∧ f.wide ∧ g.wide ∧ f.isNan = false ∧ g.isNan = false ∧ ∀ H', Same H H' → Q (.bl (ltFl f g)) H'
def spIsNan (C : Addr) : Sp := fun vs H Q _ => ∃ (v : V) (f : Fl), vs = [v] ∧ NmV C H v f ∧ Q (.bl f.isNan) H
def spCmp (C : Addr) : Sp := fun vs H Q _ => ∃ (z : Str) (v u : V) (f g : Fl), vs = [.str z, v, u] ∧ NmV C H v f ∧ NmV C H u g ∧ ((z = "lt" ∧ ∀ H', Same H H' → Q (.bl (cLt f g)) H') ∨ (z = "le" ∧ ∀ H', Same H H' → Q (.bl (cLe f g)) H'))
/-- a class of objects that are neither numbers nor texts, without an == of its own -/
structure ObC (K : PySem.W.Frag) (C TB : Addr) : Prop where
  id : IdC K TB
  cl : Cls K TB
  ha : PySem.W.findIn K (.ref TB) "__class__" = some (some (.builtin "object.__class__"))
  hn : PySem.W.specialIn K (.builtin "object.__class__") "__get__" = some (some (.builtin "getset_descriptor.__get__"))
  ht : PySem.W.takesIn K (.builtin "object.__class__") = some true
  kC : PySem.W.kitOne K (.ref TB) (.ref C) = some false
  kI : PySem.W.kitOne K (.ref TB) (.type "int") = some false
  kB : PySem.W.kitOne K (.ref TB) (.type "bool") = some false
  kS : PySem.W.kitOne K (.ref TB) (.type "str") = some false
theorem ObC.tyX {K : PySem.W.Frag} {C TB a dx : Addr} {H : Hp} {fs : List (Str × V)} (F : ObC K C TB) (h : H a = some (.ins TB dx fs)) : TyX K H (.ref a) (.ref TB) := .base (.ins h F.cl F.ha F.hn F.ht F.id.ob)
theorem ObC.isA {K : PySem.W.Frag} {C TB a dx : Addr} {H : Hp} {fs : List (Str × V)} (F : ObC K C TB) (h : H a = some (.ins TB dx fs)) : IsA K H (.ref a) .oth := ⟨.ref TB, false, false, F.tyX h, F.kI, F.kB, rfl, F.kS⟩
/-- a class that can be made by its name, with what is not written -/
structure CalD (P : Program) (w : World) (K : PySem.W.Frag) (mg : Str → Option Value) (base : Heap) (k : Nat) (x : Str) (C : Addr) (ps : List Str) (sp : Sp) (dvs : List V) : Prop where
  at_ : mg x = some (.ref C)
  ex : ∃ (f : Addr) (fd : FuncData) (ds : List Value), Mk K C f ∧ Binds K fd ps ds ∧ Vals dvs ds ∧ FnOk P w K mg base CX0 k f fd ps sp
theorem pe_mkD {X : Cx} {k k0 : Nat} {C : Addr} {x : Str} {ps : List Str} {sp : Sp} {dvs : List V} {e : Expr} {es : List Expr} {t : TA} {p pos : Pos} (G : CalD X.prog X.w X.K X.mg X.base k x C ps sp dvs) (hr : Room k0 X.A) (ha : PA X (e :: es) t) (hk : k + 1 ≤ k0 := by decide) (hg : Gl X x := by rfl)
    (hdb : (x == ("__debug__" : Str)) = false := by decide) (he : starEach (e :: es) X.env = (false, eval e X.env) :: starEach es X.env := by rfl) (hpl : (backTo pos (starEach es X.env)).any (·.1) = false := by rfl) :
    PE X (.Call (.Name x p) (e :: es) [] pos) (tMake C sp dvs E0 t) := by
  obtain ⟨hm, f, fd, ds, M, hb, hv, F⟩ := G
  exact pe_make M F (hr.mono hk) hg hm hb hv pass0 ha hdb he hpl
/-- no nodes -/
def spUn0 : Sp := fun vs H Q _ => vs = [.int 0] ∧ ∀ r H', Same H H' → H' r = some (.lst []) → Q (.ref r) H'
structure TabA (K : PySem.W.Frag) (TB : Addr) : Prop where
  number : NoAttr K TB "number"
  meta' : NoAttr K TB "meta"
  places : NoAttr K TB "places"
  nodes : NoAttr K TB "nodes"
  free : NoAttr K TB "free"
/-- an empty table -/
def spTabI (K : PySem.W.Frag) (C TB : Addr) : Sp := fun vs H Q _ => ∃ (x dx : Addr) (n : V), vs = [.ref x, n, .int 0, .int 0, .non] ∧ H x = some (.ins TB dx []) ∧ ∀ G fs, (∀ b o, b ≠ x → H b = some o → G b = some o) → G x = some (.ins TB dx fs) → Q .non G
def MkTab (K : PySem.W.Frag) (C TB : Addr) (vs : List V) (H1 : Hp) (Q : VK) : Prop := ∀ x dx, H1 x = none → H1 dx = none → dx ≠ x → spTabI K C TB (.ref x :: (vs ++ [.int 0, .int 0, .non])) (upd (upd H1 dx (.own x)) x (.ins TB dx [])) (fun v H2 => v = .non ∧ Q (.ref x) H2) E0
theorem l_mkT {K : PySem.W.Frag} {C TB : Addr} {ta : TA} {σ : St} {H : Hp} {Q : VK} (h : ta σ H fun vs H1 => MkTab K C TB vs H1 Q) : tMake TB (spTabI K C TB) [.int 0, .int 0, .non] E0 ta σ H Q := h
theorem l_mkT1 {K : PySem.W.Frag} {C TB : Addr} {H : Hp} {Q : VK} {n : V} (q : ∀ x dx fs G, H x = none → Same H G → G x = some (.ins TB dx fs) → Q (.ref x) G) : MkTab K C TB [n] H Q := fun x dx hx hd _ =>
  ⟨x, dx, n, rfl, upd_same, fun G fs hG hg => ⟨rfl, q x dx fs G hx (fun b o e => hG b o (ne_of_none e hx) (same2 hx hd b o e)) hg⟩⟩
theorem l_un0 {H : Hp} {Q : VK} {E : XK} (q : ∀ r H', Same H H' → H' r = some (.lst []) → Q (.ref r) H') : spUn0 ([.int 0] ++ []) H Q E := ⟨rfl, q⟩
/-- what is no number: nil, a truth, a text, an object -/
def Oth (K : PySem.W.Frag) (H : Hp) (TB : Addr) (v : V) : Prop := v = .non ∨ (∃ b, v = .bl b) ∨ (∃ z, v = .str z) ∨ Obj0 K H v TB
def spSame (K : PySem.W.Frag) (C TB : Addr) : Sp := fun vs H Q _ => ∃ (v u : V), vs = [v, u] ∧ ((∃ f g, NmV C H v f ∧ NmV C H u g ∧ ∀ H', Same H H' → Q (.bl (cEq f g)) H') ∨
  (((∃ f, NmV C H v f) ∧ Oth K H TB u ∨ (∃ f, NmV C H u f) ∧ Oth K H TB v) ∧ Q (.bl false) H) ∨ (Oth K H TB v ∧ Oth K H TB u ∧ Q (.bl (decide (v = u))) H))
section
variable {K : PySem.W.Frag} {C TB : Addr} {H : Hp} {Q : VK} {E : XK} {a b x y dx : Addr} {xs ys : List V} {f g : Fl} {v u : V}
theorem l_aliW {s t p s' t' p' : Int} (h1 : SqT K H a [.int s, .int t, .int p]) (h2 : SqT K H b [.int s', .int t', .int p']) (h3 : Fl.wide (.fin s t p)) (h4 : Fl.wide (.fin s' t' p'))
    (q : ∀ r H', Same H H' → H' r = some (.tup [.int (alF s t p (min p p')), .int (alF s' t' p' (min p p')), .int (min p p')]) → Q (.ref r) H') : spAliW K ([.ref a, .ref b] ++ []) H Q E := ⟨a, b, s, t, p, s', t', p', rfl, h1, h2, h3, h4, q⟩
theorem l_side (h : SqT K H a xs) (hf : FlL f xs) (q : Q (.int (sideF f)) H) : spSide K ([.ref a] ++ []) H Q E := ⟨a, xs, f, rfl, h, hf, q⟩
theorem l_less (h1 : SqT K H a xs) (h2 : SqT K H b ys) (h3 : FlL f xs) (h4 : FlL g ys) (h5 : f.wide) (h6 : g.wide) (h7 : f.isNan = false) (h8 : g.isNan = false) (q : ∀ H', Same H H' → Q (.bl (ltFl f g)) H') : spLess K ([.ref a, .ref b] ++ []) H Q E :=
  ⟨a, b, xs, ys, f, g, rfl, h1, h2, h3, h4, h5, h6, h7, h8, q⟩
theorem l_isNan (h : NmV C H v f) (q : Q (.bl f.isNan) H) : spIsNan C ([v] ++ []) H Q E := ⟨v, f, rfl, h, q⟩
theorem l_cmpLt (h : NmV C H v f) (h' : NmV C H u g) (q : ∀ H', Same H H' → Q (.bl (cLt f g)) H') : spCmp C ([.str "lt", v, u] ++ []) H Q E := ⟨_, v, u, f, g, rfl, h, h', .inl ⟨rfl, q⟩⟩
theorem l_cmpLe (h : NmV C H v f) (h' : NmV C H u g) (q : ∀ H', Same H H' → Q (.bl (cLe f g)) H') : spCmp C ([.str "le", v, u] ++ []) H Q E := ⟨_, v, u, f, g, rfl, h, h', .inr ⟨rfl, q⟩⟩
theorem l_sameN (h : NmV C H v f) (h' : NmV C H u g) (q : ∀ H', Same H H' → Q (.bl (cEq f g)) H') : spSame K C TB ([v, u] ++ []) H Q E := ⟨v, u, rfl, .inl ⟨f, g, h, h', q⟩⟩
theorem l_isNFF (F : FloC K C) (hx : FltF C H x f) (q : Q (.bl true) H) : spIsNumber K C ([.ref x] ++ []) H Q E := by
  obtain ⟨s, t, p, h⟩ := fltF_any hx
  exact l_isNF F h q
/-- of a number -/
theorem l_isNV (F : FloC K C) (h : NmV C H v f) (q : Q (.bl true) H) : spIsNumber K C ([v] ++ []) H Q E := by
  rcases h with ⟨x, rfl, hx, k⟩ | ⟨n, rfl, _, _, _⟩
  · exact l_isNFF F hx q
  · exact l_isNI F q
/-- of what is none -/
theorem l_isNO (F : FloC K C) (O : ObC K C TB) (h : Oth K H TB v) (q : Q (.bl false) H) : spIsNumber K C ([v] ++ []) H Q E := by
  rcases h with rfl | ⟨b, rfl⟩ | ⟨z, rfl⟩ | ⟨a, dx, fs, rfl, ha, _⟩
  · exact l_isNN isA_non rfl (.base .non) F.jN q
  · exact l_isNN isA_bl rfl (.base (.bl b)) F.jB q
  · exact l_isNN isA_str rfl (.base (.str z)) F.jS q
  · exact l_isNN (O.isA ha) rfl (O.tyX ha) O.kC q
theorem cLt_int {i j : Int} : cLt (ptI i) (ptI j) = decide (i < j) := by
  unfold cLt
  rw [ptI_nan, ptI_nan, ltFl_int]
  simp
theorem cLe_int {i j : Int} : cLe (ptI i) (ptI j) = decide (i ≤ j) := by
  unfold cLe
  rw [ptI_nan, ptI_nan, ltFl_int]
  rw [Bool.eq_iff_iff]
  simp
theorem cLt_n1 (h : f.isNan = true) : cLt f g = false := by unfold cLt; rw [h]; rfl
theorem cLt_n2 (h : g.isNan = true) : cLt f g = false := by unfold cLt; rw [h]; cases f.isNan <;> rfl
theorem cLe_n1 (h : f.isNan = true) : cLe f g = false := by unfold cLe; rw [h]; rfl
theorem cLe_n2 (h : g.isNan = true) : cLe f g = false := by unfold cLe; rw [h]; cases f.isNan <;> rfl
theorem cLt_of (h : f.isNan = false) (h' : g.isNan = false) : cLt f g = ltFl f g := by unfold cLt; rw [h, h']; rfl
theorem cLe_of (h : f.isNan = false) (h' : g.isNan = false) : cLe f g = !ltFl g f := by unfold cLe; rw [h, h']; rfl
theorem cEq_f1 (h : cLe f g = false) : cEq f g = false := by unfold cEq; rw [h]; rfl
theorem cEq_f2 (h : cLe f g = true) : cEq f g = cLe g f := by unfold cEq; rw [h]; rfl
/-- == of what is no number -/
theorem l_eqO (O : ObC K C TB) (h : Oth K H TB v) (h' : Oth K H TB u) (q : Q (.bl (decide (v = u))) H) : rEqI K v u H Q := by
  rcases h with rfl | ⟨b, rfl⟩ | ⟨z, rfl⟩ | ⟨a, dx, fs, rfl, ha, hi⟩
  · rcases h' with rfl | ⟨b, rfl⟩ | ⟨z, rfl⟩ | ⟨a, dx, fs, rfl, ha, hi⟩
    · exact .inl ⟨rfl, q⟩
    · exact .inl ⟨rfl, q⟩
    · exact .inl ⟨rfl, q⟩
    · exact .inr (.inr (.inl ⟨TB, ⟨a, dx, fs, rfl, ha, hi⟩, rfl, by rw [decide_eq_false (fun z => nomatch z)] at q; exact q⟩))
  · rcases h' with rfl | ⟨b, rfl⟩ | ⟨z, rfl⟩ | ⟨a, dx, fs, rfl, ha, hi⟩
    · exact .inl ⟨rfl, q⟩
    · exact .inl ⟨rfl, q⟩
    · exact .inl ⟨rfl, q⟩
    · exact .inr (.inr (.inl ⟨TB, ⟨a, dx, fs, rfl, ha, hi⟩, rfl, by rw [decide_eq_false (fun z => nomatch z)] at q; exact q⟩))
  · rcases h' with rfl | ⟨b, rfl⟩ | ⟨z, rfl⟩ | ⟨a, dx, fs, rfl, ha, hi⟩
    · exact .inl ⟨rfl, q⟩
    · exact .inl ⟨rfl, q⟩
    · exact .inl ⟨rfl, q⟩
    · exact .inr (.inr (.inl ⟨TB, ⟨a, dx, fs, rfl, ha, hi⟩, rfl, by rw [decide_eq_false (fun z => nomatch z)] at q; exact q⟩))
  · rcases h' with rfl | ⟨b, rfl⟩ | ⟨z, rfl⟩ | ⟨b, dy, gs, rfl, hb, hj⟩
    · exact .inr (.inl ⟨TB, ⟨a, dx, fs, rfl, ha, hi⟩, rfl, by rw [decide_eq_false (fun z => nomatch z)] at q; exact q⟩)
    · exact .inr (.inl ⟨TB, ⟨a, dx, fs, rfl, ha, hi⟩, rfl, by rw [decide_eq_false (fun z => nomatch z)] at q; exact q⟩)
    · exact .inr (.inl ⟨TB, ⟨a, dx, fs, rfl, ha, hi⟩, rfl, by rw [decide_eq_false (fun z => nomatch z)] at q; exact q⟩)
    · exact .inr (.inr (.inr ⟨TB, TB, ⟨a, dx, fs, rfl, ha, hi⟩, ⟨b, dy, gs, rfl, hb, hj⟩, .inl rfl, q⟩))
end
/-! ## what the law asks of two numbers -/
def spFrac (C : Addr) : Sp := fun vs H Q _ => ∃ (v : V) (f : Fl), vs = [v] ∧ NmV C H v f ∧ (f.isNan = true → Q .non H) ∧ (f.isNan = false → ∀ r H', Same H H' → H' r = some (.tup [.int f.num, .int f.den]) → Q (.ref r) H')
def spRightN (C : Addr) : Sp := fun vs H Q _ => ∃ (v u : V) (f g : Fl), vs = [v, u] ∧ NmV C H v f ∧ NmV C H u g ∧ ∀ H', Same H H' → Q (.bl true) H'
section
variable {K : PySem.W.Frag} {C TB : Addr} {H : Hp} {Q : VK} {E : XK} {f g : Fl} {v u : V}
theorem l_frac1 (h : NmV C H v f) (n : f.isNan = true) (q : Q .non H) : spFrac C ([v] ++ []) H Q E := ⟨v, f, rfl, h, fun _ => q, fun z => absurd (z.symm.trans n) Bool.false_ne_true⟩
theorem l_frac0 (h : NmV C H v f) (n : f.isNan = false) (q : ∀ r H', Same H H' → H' r = some (.tup [.int f.num, .int f.den]) → Q (.ref r) H') : spFrac C ([v] ++ []) H Q E := ⟨v, f, rfl, h, fun z => absurd (n.symm.trans z) Bool.false_ne_true, fun _ => q⟩
theorem l_rightN (h : NmV C H v f) (h' : NmV C H u g) (q : ∀ H', Same H H' → Q (.bl true) H') : spRightN C ([v, u] ++ []) H Q E := ⟨v, u, f, g, rfl, h, h', q⟩
end
theorem ptI_num {n : Int} : (ptI n).num = n := by
  show (if n < 0 then -1 else 1) * (absI n * 2 ^ (0 : Int).toNat) = n
  rw [show (0 : Int).toNat = 0 by decide, Int.pow_zero, Int.mul_one, sgn_absI]
theorem ptI_den {n : Int} : (ptI n).den = 1 := by
  show (2 : Int) ^ (-0 : Int).toNat = 1
  decide
theorem num_bits {f : Fl} (h : f.wide) : bits f.num ≤ 3000 := by
  cases f with
  | nan => decide +kernel
  | inf s =>
    show bits (s * 2 ^ 2000) ≤ 3000
    rw [bits_pm h, bits_pow]
    decide
  | fin s t p =>
    obtain ⟨hs, h0, h1, h2, h3⟩ := h
    show bits (s * (t * 2 ^ p.toNat)) ≤ 3000
    rw [bits_pm hs]
    have := bits_shl (n := p.toNat) (m := 65) (bits_le h0 h1)
    omega
theorem den_bits {f : Fl} (h : f.wide) : bits f.den ≤ 3000 := by
  cases f with
  | nan => decide +kernel
  | inf s =>
    show bits 1 ≤ 3000
    decide +kernel
  | fin s t p =>
    obtain ⟨hs, h0, h1, h2, h3⟩ := h
    show bits (2 ^ (-p).toNat) ≤ 3000
    rw [bits_pow]
    omega
theorem eqv3 {a b c a' b' c' : Bool} (h1 : a = a') (h2 : b = b') (h3 : c = c') : PyData.eqv (.list [.bool a, .bool b, .bool c]) (.list [.bool a', .bool b', .bool c']) = true := by
  subst h1
  subst h2
  subst h3
  cases a <;> cases b <;> cases c <;> rfl
theorem call_isiK {X : Cx} {K : PySem.W.Frag} (hK : X.K = K := by rfl) : CallR X (.builtin "isinstance") (rIsi K) := by
  subst hK
  exact call_isi
theorem l_isII {K : PySem.W.Frag} {H : Hp} {Q : VK} {i : Int} (q : Q (.bl true) H) : rIsi K [.int i, .ty "int"] H Q := l_isi (ClsV.ty _) (TyX.base (TyOf.int i)) (kit_ty (by decide +kernel)) q
theorem l_isBB {K : PySem.W.Frag} {H : Hp} {Q : VK} {b : Bool} (q : Q (.bl true) H) : rIsi K [.bl b, .ty "bool"] H Q := l_isi (ClsV.ty _) (TyX.base (TyOf.bl b)) (kit_ty (by decide +kernel)) q
/-- whether all three are truths -/
theorem lc_bools {K : PySem.W.Frag} {p : Addr} {H : Hp} {σ : St} {Q : VK} {a b c : Bool} {i : Nat} (hp : H p = some (.lst [.bl a, .bl b, .bl c])) (hi : i < σ.length)
    (q : ∀ r H', Same H H' → H' r = some (.lst [.bl true, .bl true, .bl true]) → Q (.ref r) H') : LcG (gName i) (tCB (rIsi K) (tCons (tVar i) (tCons (tC (.ty "bool")) tNil))) [i] σ Q (Itl K p) H := by
  refine lc_all (fun _ y _ => y = .bl true) hp (Nat.le_of_ble_eq_true rfl) (fun i y H H' D acc _ _ h => h) ?_ ?_
  · intro k x H7 R R' hR hx sm
    obtain ⟨z, rfl⟩ : ∃ z, x = V.bl z := by
      match k, hx with
      | 0, hx => cases hx; exact ⟨_, rfl⟩
      | 1, hx => cases hx; exact ⟨_, rfl⟩
      | 2, hx => cases hx; exact ⟨_, rfl⟩
      | n + 3, hx => simp at hx
    have e : ((σ.set i none).set i (some (V.bl z)))[i]? = some (some (V.bl z)) := List.getElem?_set_self (by rw [List.length_set]; exact hi)
    refine ⟨?_, l_tYes (iteT ?_)⟩
    · show ((σ.set i none).set i (some (V.bl z))).set i none = σ.set i none
      rw [List.set_set, List.set_set]
    · refine ⟨_, e, l_isBB ?_⟩
      exact hR _ _ (Same.refl _) rfl
  · intro D ys H7 hl hp7 hD sm hy
    have e : ys = [.bl true, .bl true, .bl true] := by
      match ys, hl, hp7 with
      | [x, y, z], _, h => rw [h 0 x rfl, h 1 y rfl, h 2 z rfl]
    rw [e] at hy
    exact q _ _ sm hy
/-- numbers of all sorts -/
def spNums (C : Addr) : Sp := fun vs H Q _ => ∃ w : Addr, vs = [.ref w] ∧ Well w H ∧ ∀ r H' xs, Ex w H H' → H' r = some (.lst xs) → xs.length ≤ 20 → (∀ x ∈ xs, ∃ f, NmV C H' x f) → Q (.ref r) H'
theorem l_nums {C w : Addr} {H : Hp} {Q : VK} {E : XK} (hw : Well w H) (q : ∀ r H' xs, Ex w H H' → H' r = some (.lst xs) → xs.length ≤ 20 → (∀ x ∈ xs, ∃ f, NmV C H' x f) → Q (.ref r) H') : spNums C ([.ref w] ++ []) H Q E := ⟨w, rfl, hw, q⟩
theorem NmV.ex {C w : Addr} {H H' : Hp} {v : V} {f : Fl} (h : NmV C H v f) (e : Ex w H H') : NmV C H' v f := by
  rcases h with ⟨x, rfl, hx, k⟩ | h
  · exact .inl ⟨x, rfl, hx.ex e, k⟩
  · exact .inr h
/-- x in a written tuple of tuples -/
def rInDT (K : PySem.W.Frag) : R2 := fun x y H Q => ∃ d ds, Dp K H x d ∧ Dp K H y (.tuple ds) ∧ SeqAt.shaped d = true ∧ SeqAt.shaped (.tuple ds) = true ∧ Q (.bl (ds.any fun z => PyData.eqv z d)) H
theorem op_inDT {X : Cx} (hu : X.A.units + 65 < cLine) : OpR X (compareOp .In) (rInDT X.K) := by
  intro pins s σ H x y v u Q I rx ry h
  obtain ⟨d, ds, hd, he, sd, se, q⟩ := h
  obtain ⟨as, r1⟩ := Dp.reads I d x v hd rx
  obtain ⟨bs, r2⟩ := Dp.reads I (.tuple ds) y u he ry
  exact SeqAt.in_tuple_reads r2 r1 (SeqAt.canLay_of_shaped se) (SeqAt.canLay_of_shaped sd) (PyProof.Rows.room_in_shaped sd hu) ⟨.bl _, H, I, rfl, q⟩
/-- a loop over enumerate of a written list -/
theorem for_enumS {K : PySem.W.Frag} {a : Addr} {xs : List V} {g : TG} {tb : TS} {D : Ends} {σ0 : St} {H1 : Hp} (S : St → Prop) (ha : H1 a = some (.lst xs)) (h0 : S σ0)
    (step : ∀ (i : Nat) x, xs[i]? = some x → ∀ σ, S σ → ∀ T H, Same H1 H → H T = some (.tup [.int (i : Nat), x]) → g (.ref T) σ H fun σ2 H2 => tb { D with nx := fun σ' H' => S σ' ∧ Same H1 H', ct := fun σ' H' => S σ' ∧ Same H1 H', bk := D.nx } σ2 H2)
    (hd : ∀ σ, S σ → ∀ H, Same H1 H → D.nx σ H) : ∃ W : Nat → Nat → St → Hp → Prop, (∃ m, W 0 m σ0 H1) ∧ ∀ i m σ H, W i m σ H →
      ((Ite K a).stop i H ∧ D.nx σ H) ∨ ((Ite K a).go i H ∧ ∃ N : St → Hp → Prop, (∀ σ' H', N σ' H' → ∃ m', m' < m ∧ W (i + 1) m' σ' H') ∧ ∀ x H', (Ite K a).yld i H x H' → g x σ H' fun σ2 H2 => tb { D with nx := N, ct := N, bk := D.nx } σ2 H2) := by
  refine ⟨fun i m σ H => m = xs.length - i ∧ i ≤ xs.length ∧ S σ ∧ Same H1 H, ⟨xs.length, by simp, Nat.zero_le _, h0, Same.refl _⟩, ?_⟩
  rintro i m σ H ⟨rfl, hi, hS, sm⟩
  have q : SqL K H a xs := SqL.of (sm _ _ ha)
  by_cases hlt : i < xs.length
  · refine .inr ⟨⟨xs, xs[i], q, by simp [hlt]⟩, fun σ' H' => S σ' ∧ Same H1 H', fun σ' H' p' => ⟨xs.length - (i + 1), by omega, rfl, hlt, p'⟩, fun x H' y => ?_⟩
    obtain ⟨T, z, rfl, hT, rfl, hz⟩ := y
    exact step i z (hz xs q) σ hS T _ (sm.trans (sameUpd hT)) upd_same
  · have e : i = xs.length := by omega
    subst e
    exact .inl ⟨⟨xs, q, Nat.le_refl _⟩, hd σ hS H sm⟩
theorem l_iEnum {K : PySem.W.Frag} {ta : TA} {σ : St} {H : Hp} {R : It → Hp → Prop} (h : ta σ H fun vs H1 => ∃ a xs, vs = [.ref a] ∧ SqL K H1 a xs ∧ R (Ite K a) H1) : iEnum K ta σ H R := h
/-- whether two are the same, by what they are -/
def SameB (K : PySem.W.Frag) (C TB : Addr) (H : Hp) (v u : V) (b : Bool) : Prop := (∃ f g, NmV C H v f ∧ NmV C H u g ∧ b = cEq f g) ∨ (((∃ f, NmV C H v f) ∧ Oth K H TB u ∨ (∃ f, NmV C H u f) ∧ Oth K H TB v) ∧ b = false) ∨ (Oth K H TB v ∧ Oth K H TB u ∧ b = decide (v = u))
theorem l_sameB {K : PySem.W.Frag} {C TB : Addr} {H : Hp} {v u : V} {b : Bool} {Q : VK} {E : XK} (h : SameB K C TB H v u b) (q : ∀ H', Same H H' → Q (.bl b) H') : spSame K C TB ([v, u] ++ []) H Q E := by
  rcases h with ⟨f, g, hv, hu, rfl⟩ | ⟨hh, rfl⟩ | ⟨hv, hu, rfl⟩
  · exact ⟨v, u, rfl, .inl ⟨f, g, hv, hu, q⟩⟩
  · exact ⟨v, u, rfl, .inr (.inl ⟨hh, q _ (Same.refl _)⟩)⟩
  · exact ⟨v, u, rfl, .inr (.inr ⟨hv, hu, q _ (Same.refl _)⟩)⟩
theorem Oth.same {K : PySem.W.Frag} {TB : Addr} {H H' : Hp} {v : V} (h : Oth K H TB v) (e : Same H H') : Oth K H' TB v := by
  rcases h with h | h | h | ⟨a, dx, fs, h, ha, hi⟩
  · exact .inl h
  · exact .inr (.inl h)
  · exact .inr (.inr (.inl h))
  · exact .inr (.inr (.inr ⟨a, dx, fs, h, e _ _ ha, hi⟩))
theorem SameB.same {K : PySem.W.Frag} {C TB : Addr} {H H' : Hp} {v u : V} {b : Bool} (h : SameB K C TB H v u b) (e : Same H H') : SameB K C TB H' v u b := by
  rcases h with ⟨f, g, hv, hu, h⟩ | ⟨⟨⟨f, hv⟩, hu⟩ | ⟨⟨f, hv⟩, hu⟩, h⟩ | ⟨hv, hu, h⟩
  · exact .inl ⟨f, g, hv.same e, hu.same e, h⟩
  · exact .inr (.inl ⟨.inl ⟨⟨f, hv.same e⟩, hu.same e⟩, h⟩)
  · exact .inr (.inl ⟨.inr ⟨⟨f, hv.same e⟩, hu.same e⟩, h⟩)
  · exact .inr (.inr ⟨hv.same e, hu.same e, h⟩)
def dueN (i j : Nat) : Bool := decide (i = j) || ((min i j == 4 && max i j == 5) || (min i j == 3 && max i j == 6))
theorem due_in {i j : Nat} (h : ¬ (i : Int) = j) : ([PyData.tuple [.int 4, .int 5], .tuple [.int 3, .int 6]].any fun z => PyData.eqv z (.tuple [.int (min (i : Int) j), .int (max (i : Int) j)])) = dueN i j := by
  have e : ([PyData.tuple [.int 4, .int 5], .tuple [.int 3, .int 6]].any fun z => PyData.eqv z (.tuple [.int (min (i : Int) j), .int (max (i : Int) j)])) =
      ((((4 : Int) == min (i : Int) j) && (((5 : Int) == max (i : Int) j) && true)) || ((((3 : Int) == min (i : Int) j) && (((6 : Int) == max (i : Int) j) && true)) || false)) := by simp only [List.any_cons, List.any_nil, PyData.eqv, PyData.eqvAll]
  rw [e]
  unfold dueN
  rw [Bool.eq_iff_iff]
  simp
  omega
theorem app_x {z : Str} : ¬ z = z ++ ("x" : Str) := by
  intro e
  have := congrArg (fun s : Str => s.cps.size) e
  have e2 : (z ++ ("x" : Str)).cps.size = z.cps.size + 1 := Array.size_append
  omega
theorem others_due {K : PySem.W.Frag} {C TB : Addr} {H : Hp} {f1 f0 t0 t1 : Addr} {z : Str} (h1 : FltF C H f1 (.fin 1 1 0)) (h0 : FltF C H f0 (.fin 1 0 0)) (k1 : Fl.ok (.fin 1 1 0)) (k0 : Fl.ok (.fin 1 0 0)) (ht0 : Obj0 K H (.ref t0) TB) (ht1 : Obj0 K H (.ref t1) TB) (hne : ¬ t0 = t1) :
    ∀ (i j : Nat) (x y : V), ([V.non, V.bl true, V.bl false, V.int 0, V.int 1, V.ref f1, V.ref f0, V.str z, V.str (z ++ "x"), V.ref t0, V.ref t1] : List V)[i]? = some x → ([V.non, V.bl true, V.bl false, V.int 0, V.int 1, V.ref f1, V.ref f0, V.str z, V.str (z ++ "x"), V.ref t0, V.ref t1] : List V)[j]? = some y → SameB K C TB H x y (dueN i j)
  | 0, 0, _, _, e1, e2 => by cases e1; cases e2; exact .inr (.inr ⟨.inl rfl, .inl rfl, (show dueN 0 0 = true by decide +kernel).trans (decide_eq_true rfl).symm⟩)
  | 0, 1, _, _, e1, e2 => by cases e1; cases e2; exact .inr (.inr ⟨.inl rfl, .inr (.inl ⟨_, rfl⟩), (show dueN 0 1 = false by decide +kernel).trans (decide_eq_false (fun e => by cases e)).symm⟩)
  | 0, 2, _, _, e1, e2 => by cases e1; cases e2; exact .inr (.inr ⟨.inl rfl, .inr (.inl ⟨_, rfl⟩), (show dueN 0 2 = false by decide +kernel).trans (decide_eq_false (fun e => by cases e)).symm⟩)
  | 0, 3, _, _, e1, e2 => by cases e1; cases e2; exact .inr (.inl ⟨.inr ⟨⟨_, (nm_int (n := 0) (by decide) (by decide))⟩, .inl rfl⟩, by decide +kernel⟩)
  | 0, 4, _, _, e1, e2 => by cases e1; cases e2; exact .inr (.inl ⟨.inr ⟨⟨_, (nm_int (n := 1) (by decide) (by decide))⟩, .inl rfl⟩, by decide +kernel⟩)
  | 0, 5, _, _, e1, e2 => by cases e1; cases e2; exact .inr (.inl ⟨.inr ⟨⟨_, (nm_ref h1 k1)⟩, .inl rfl⟩, by decide +kernel⟩)
  | 0, 6, _, _, e1, e2 => by cases e1; cases e2; exact .inr (.inl ⟨.inr ⟨⟨_, (nm_ref h0 k0)⟩, .inl rfl⟩, by decide +kernel⟩)
  | 0, 7, _, _, e1, e2 => by cases e1; cases e2; exact .inr (.inr ⟨.inl rfl, .inr (.inr (.inl ⟨_, rfl⟩)), (show dueN 0 7 = false by decide +kernel).trans (decide_eq_false (fun e => by cases e)).symm⟩)
  | 0, 8, _, _, e1, e2 => by cases e1; cases e2; exact .inr (.inr ⟨.inl rfl, .inr (.inr (.inl ⟨_, rfl⟩)), (show dueN 0 8 = false by decide +kernel).trans (decide_eq_false (fun e => by cases e)).symm⟩)
  | 0, 9, _, _, e1, e2 => by cases e1; cases e2; exact .inr (.inr ⟨.inl rfl, .inr (.inr (.inr ht0)), (show dueN 0 9 = false by decide +kernel).trans (decide_eq_false (fun e => by cases e)).symm⟩)
  | 0, 10, _, _, e1, e2 => by cases e1; cases e2; exact .inr (.inr ⟨.inl rfl, .inr (.inr (.inr ht1)), (show dueN 0 10 = false by decide +kernel).trans (decide_eq_false (fun e => by cases e)).symm⟩)
  | 1, 0, _, _, e1, e2 => by cases e1; cases e2; exact .inr (.inr ⟨.inr (.inl ⟨_, rfl⟩), .inl rfl, (show dueN 1 0 = false by decide +kernel).trans (decide_eq_false (fun e => by cases e)).symm⟩)
  | 1, 1, _, _, e1, e2 => by cases e1; cases e2; exact .inr (.inr ⟨.inr (.inl ⟨_, rfl⟩), .inr (.inl ⟨_, rfl⟩), (show dueN 1 1 = true by decide +kernel).trans (decide_eq_true rfl).symm⟩)
  | 1, 2, _, _, e1, e2 => by cases e1; cases e2; exact .inr (.inr ⟨.inr (.inl ⟨_, rfl⟩), .inr (.inl ⟨_, rfl⟩), (show dueN 1 2 = false by decide +kernel).trans (decide_eq_false (fun e => by cases e)).symm⟩)
  | 1, 3, _, _, e1, e2 => by cases e1; cases e2; exact .inr (.inl ⟨.inr ⟨⟨_, (nm_int (n := 0) (by decide) (by decide))⟩, .inr (.inl ⟨_, rfl⟩)⟩, by decide +kernel⟩)
  | 1, 4, _, _, e1, e2 => by cases e1; cases e2; exact .inr (.inl ⟨.inr ⟨⟨_, (nm_int (n := 1) (by decide) (by decide))⟩, .inr (.inl ⟨_, rfl⟩)⟩, by decide +kernel⟩)
  | 1, 5, _, _, e1, e2 => by cases e1; cases e2; exact .inr (.inl ⟨.inr ⟨⟨_, (nm_ref h1 k1)⟩, .inr (.inl ⟨_, rfl⟩)⟩, by decide +kernel⟩)
  | 1, 6, _, _, e1, e2 => by cases e1; cases e2; exact .inr (.inl ⟨.inr ⟨⟨_, (nm_ref h0 k0)⟩, .inr (.inl ⟨_, rfl⟩)⟩, by decide +kernel⟩)
  | 1, 7, _, _, e1, e2 => by cases e1; cases e2; exact .inr (.inr ⟨.inr (.inl ⟨_, rfl⟩), .inr (.inr (.inl ⟨_, rfl⟩)), (show dueN 1 7 = false by decide +kernel).trans (decide_eq_false (fun e => by cases e)).symm⟩)
  | 1, 8, _, _, e1, e2 => by cases e1; cases e2; exact .inr (.inr ⟨.inr (.inl ⟨_, rfl⟩), .inr (.inr (.inl ⟨_, rfl⟩)), (show dueN 1 8 = false by decide +kernel).trans (decide_eq_false (fun e => by cases e)).symm⟩)
  | 1, 9, _, _, e1, e2 => by cases e1; cases e2; exact .inr (.inr ⟨.inr (.inl ⟨_, rfl⟩), .inr (.inr (.inr ht0)), (show dueN 1 9 = false by decide +kernel).trans (decide_eq_false (fun e => by cases e)).symm⟩)
  | 1, 10, _, _, e1, e2 => by cases e1; cases e2; exact .inr (.inr ⟨.inr (.inl ⟨_, rfl⟩), .inr (.inr (.inr ht1)), (show dueN 1 10 = false by decide +kernel).trans (decide_eq_false (fun e => by cases e)).symm⟩)
  | 2, 0, _, _, e1, e2 => by cases e1; cases e2; exact .inr (.inr ⟨.inr (.inl ⟨_, rfl⟩), .inl rfl, (show dueN 2 0 = false by decide +kernel).trans (decide_eq_false (fun e => by cases e)).symm⟩)
  | 2, 1, _, _, e1, e2 => by cases e1; cases e2; exact .inr (.inr ⟨.inr (.inl ⟨_, rfl⟩), .inr (.inl ⟨_, rfl⟩), (show dueN 2 1 = false by decide +kernel).trans (decide_eq_false (fun e => by cases e)).symm⟩)
  | 2, 2, _, _, e1, e2 => by cases e1; cases e2; exact .inr (.inr ⟨.inr (.inl ⟨_, rfl⟩), .inr (.inl ⟨_, rfl⟩), (show dueN 2 2 = true by decide +kernel).trans (decide_eq_true rfl).symm⟩)
  | 2, 3, _, _, e1, e2 => by cases e1; cases e2; exact .inr (.inl ⟨.inr ⟨⟨_, (nm_int (n := 0) (by decide) (by decide))⟩, .inr (.inl ⟨_, rfl⟩)⟩, by decide +kernel⟩)
  | 2, 4, _, _, e1, e2 => by cases e1; cases e2; exact .inr (.inl ⟨.inr ⟨⟨_, (nm_int (n := 1) (by decide) (by decide))⟩, .inr (.inl ⟨_, rfl⟩)⟩, by decide +kernel⟩)
  | 2, 5, _, _, e1, e2 => by cases e1; cases e2; exact .inr (.inl ⟨.inr ⟨⟨_, (nm_ref h1 k1)⟩, .inr (.inl ⟨_, rfl⟩)⟩, by decide +kernel⟩)
  | 2, 6, _, _, e1, e2 => by cases e1; cases e2; exact .inr (.inl ⟨.inr ⟨⟨_, (nm_ref h0 k0)⟩, .inr (.inl ⟨_, rfl⟩)⟩, by decide +kernel⟩)
  | 2, 7, _, _, e1, e2 => by cases e1; cases e2; exact .inr (.inr ⟨.inr (.inl ⟨_, rfl⟩), .inr (.inr (.inl ⟨_, rfl⟩)), (show dueN 2 7 = false by decide +kernel).trans (decide_eq_false (fun e => by cases e)).symm⟩)
  | 2, 8, _, _, e1, e2 => by cases e1; cases e2; exact .inr (.inr ⟨.inr (.inl ⟨_, rfl⟩), .inr (.inr (.inl ⟨_, rfl⟩)), (show dueN 2 8 = false by decide +kernel).trans (decide_eq_false (fun e => by cases e)).symm⟩)
  | 2, 9, _, _, e1, e2 => by cases e1; cases e2; exact .inr (.inr ⟨.inr (.inl ⟨_, rfl⟩), .inr (.inr (.inr ht0)), (show dueN 2 9 = false by decide +kernel).trans (decide_eq_false (fun e => by cases e)).symm⟩)
  | 2, 10, _, _, e1, e2 => by cases e1; cases e2; exact .inr (.inr ⟨.inr (.inl ⟨_, rfl⟩), .inr (.inr (.inr ht1)), (show dueN 2 10 = false by decide +kernel).trans (decide_eq_false (fun e => by cases e)).symm⟩)
  | 3, 0, _, _, e1, e2 => by cases e1; cases e2; exact .inr (.inl ⟨.inl ⟨⟨_, (nm_int (n := 0) (by decide) (by decide))⟩, .inl rfl⟩, by decide +kernel⟩)
  | 3, 1, _, _, e1, e2 => by cases e1; cases e2; exact .inr (.inl ⟨.inl ⟨⟨_, (nm_int (n := 0) (by decide) (by decide))⟩, .inr (.inl ⟨_, rfl⟩)⟩, by decide +kernel⟩)
  | 3, 2, _, _, e1, e2 => by cases e1; cases e2; exact .inr (.inl ⟨.inl ⟨⟨_, (nm_int (n := 0) (by decide) (by decide))⟩, .inr (.inl ⟨_, rfl⟩)⟩, by decide +kernel⟩)
  | 3, 3, _, _, e1, e2 => by cases e1; cases e2; exact .inl ⟨_, _, (nm_int (n := 0) (by decide) (by decide)), (nm_int (n := 0) (by decide) (by decide)), by decide +kernel⟩
  | 3, 4, _, _, e1, e2 => by cases e1; cases e2; exact .inl ⟨_, _, (nm_int (n := 0) (by decide) (by decide)), (nm_int (n := 1) (by decide) (by decide)), by decide +kernel⟩
  | 3, 5, _, _, e1, e2 => by cases e1; cases e2; exact .inl ⟨_, _, (nm_int (n := 0) (by decide) (by decide)), (nm_ref h1 k1), by decide +kernel⟩
  | 3, 6, _, _, e1, e2 => by cases e1; cases e2; exact .inl ⟨_, _, (nm_int (n := 0) (by decide) (by decide)), (nm_ref h0 k0), by decide +kernel⟩
  | 3, 7, _, _, e1, e2 => by cases e1; cases e2; exact .inr (.inl ⟨.inl ⟨⟨_, (nm_int (n := 0) (by decide) (by decide))⟩, .inr (.inr (.inl ⟨_, rfl⟩))⟩, by decide +kernel⟩)
  | 3, 8, _, _, e1, e2 => by cases e1; cases e2; exact .inr (.inl ⟨.inl ⟨⟨_, (nm_int (n := 0) (by decide) (by decide))⟩, .inr (.inr (.inl ⟨_, rfl⟩))⟩, by decide +kernel⟩)
  | 3, 9, _, _, e1, e2 => by cases e1; cases e2; exact .inr (.inl ⟨.inl ⟨⟨_, (nm_int (n := 0) (by decide) (by decide))⟩, .inr (.inr (.inr ht0))⟩, by decide +kernel⟩)
  | 3, 10, _, _, e1, e2 => by cases e1; cases e2; exact .inr (.inl ⟨.inl ⟨⟨_, (nm_int (n := 0) (by decide) (by decide))⟩, .inr (.inr (.inr ht1))⟩, by decide +kernel⟩)
  | 4, 0, _, _, e1, e2 => by cases e1; cases e2; exact .inr (.inl ⟨.inl ⟨⟨_, (nm_int (n := 1) (by decide) (by decide))⟩, .inl rfl⟩, by decide +kernel⟩)
  | 4, 1, _, _, e1, e2 => by cases e1; cases e2; exact .inr (.inl ⟨.inl ⟨⟨_, (nm_int (n := 1) (by decide) (by decide))⟩, .inr (.inl ⟨_, rfl⟩)⟩, by decide +kernel⟩)
  | 4, 2, _, _, e1, e2 => by cases e1; cases e2; exact .inr (.inl ⟨.inl ⟨⟨_, (nm_int (n := 1) (by decide) (by decide))⟩, .inr (.inl ⟨_, rfl⟩)⟩, by decide +kernel⟩)
  | 4, 3, _, _, e1, e2 => by cases e1; cases e2; exact .inl ⟨_, _, (nm_int (n := 1) (by decide) (by decide)), (nm_int (n := 0) (by decide) (by decide)), by decide +kernel⟩
  | 4, 4, _, _, e1, e2 => by cases e1; cases e2; exact .inl ⟨_, _, (nm_int (n := 1) (by decide) (by decide)), (nm_int (n := 1) (by decide) (by decide)), by decide +kernel⟩
  | 4, 5, _, _, e1, e2 => by cases e1; cases e2; exact .inl ⟨_, _, (nm_int (n := 1) (by decide) (by decide)), (nm_ref h1 k1), by decide +kernel⟩
  | 4, 6, _, _, e1, e2 => by cases e1; cases e2; exact .inl ⟨_, _, (nm_int (n := 1) (by decide) (by decide)), (nm_ref h0 k0), by decide +kernel⟩
  | 4, 7, _, _, e1, e2 => by cases e1; cases e2; exact .inr (.inl ⟨.inl ⟨⟨_, (nm_int (n := 1) (by decide) (by decide))⟩, .inr (.inr (.inl ⟨_, rfl⟩))⟩, by decide +kernel⟩)
  | 4, 8, _, _, e1, e2 => by cases e1; cases e2; exact .inr (.inl ⟨.inl ⟨⟨_, (nm_int (n := 1) (by decide) (by decide))⟩, .inr (.inr (.inl ⟨_, rfl⟩))⟩, by decide +kernel⟩)
  | 4, 9, _, _, e1, e2 => by cases e1; cases e2; exact .inr (.inl ⟨.inl ⟨⟨_, (nm_int (n := 1) (by decide) (by decide))⟩, .inr (.inr (.inr ht0))⟩, by decide +kernel⟩)
  | 4, 10, _, _, e1, e2 => by cases e1; cases e2; exact .inr (.inl ⟨.inl ⟨⟨_, (nm_int (n := 1) (by decide) (by decide))⟩, .inr (.inr (.inr ht1))⟩, by decide +kernel⟩)
  | 5, 0, _, _, e1, e2 => by cases e1; cases e2; exact .inr (.inl ⟨.inl ⟨⟨_, (nm_ref h1 k1)⟩, .inl rfl⟩, by decide +kernel⟩)
  | 5, 1, _, _, e1, e2 => by cases e1; cases e2; exact .inr (.inl ⟨.inl ⟨⟨_, (nm_ref h1 k1)⟩, .inr (.inl ⟨_, rfl⟩)⟩, by decide +kernel⟩)
  | 5, 2, _, _, e1, e2 => by cases e1; cases e2; exact .inr (.inl ⟨.inl ⟨⟨_, (nm_ref h1 k1)⟩, .inr (.inl ⟨_, rfl⟩)⟩, by decide +kernel⟩)
  | 5, 3, _, _, e1, e2 => by cases e1; cases e2; exact .inl ⟨_, _, (nm_ref h1 k1), (nm_int (n := 0) (by decide) (by decide)), by decide +kernel⟩
  | 5, 4, _, _, e1, e2 => by cases e1; cases e2; exact .inl ⟨_, _, (nm_ref h1 k1), (nm_int (n := 1) (by decide) (by decide)), by decide +kernel⟩
  | 5, 5, _, _, e1, e2 => by cases e1; cases e2; exact .inl ⟨_, _, (nm_ref h1 k1), (nm_ref h1 k1), by decide +kernel⟩
  | 5, 6, _, _, e1, e2 => by cases e1; cases e2; exact .inl ⟨_, _, (nm_ref h1 k1), (nm_ref h0 k0), by decide +kernel⟩
  | 5, 7, _, _, e1, e2 => by cases e1; cases e2; exact .inr (.inl ⟨.inl ⟨⟨_, (nm_ref h1 k1)⟩, .inr (.inr (.inl ⟨_, rfl⟩))⟩, by decide +kernel⟩)
  | 5, 8, _, _, e1, e2 => by cases e1; cases e2; exact .inr (.inl ⟨.inl ⟨⟨_, (nm_ref h1 k1)⟩, .inr (.inr (.inl ⟨_, rfl⟩))⟩, by decide +kernel⟩)
  | 5, 9, _, _, e1, e2 => by cases e1; cases e2; exact .inr (.inl ⟨.inl ⟨⟨_, (nm_ref h1 k1)⟩, .inr (.inr (.inr ht0))⟩, by decide +kernel⟩)
  | 5, 10, _, _, e1, e2 => by cases e1; cases e2; exact .inr (.inl ⟨.inl ⟨⟨_, (nm_ref h1 k1)⟩, .inr (.inr (.inr ht1))⟩, by decide +kernel⟩)
  | 6, 0, _, _, e1, e2 => by cases e1; cases e2; exact .inr (.inl ⟨.inl ⟨⟨_, (nm_ref h0 k0)⟩, .inl rfl⟩, by decide +kernel⟩)
  | 6, 1, _, _, e1, e2 => by cases e1; cases e2; exact .inr (.inl ⟨.inl ⟨⟨_, (nm_ref h0 k0)⟩, .inr (.inl ⟨_, rfl⟩)⟩, by decide +kernel⟩)
  | 6, 2, _, _, e1, e2 => by cases e1; cases e2; exact .inr (.inl ⟨.inl ⟨⟨_, (nm_ref h0 k0)⟩, .inr (.inl ⟨_, rfl⟩)⟩, by decide +kernel⟩)
  | 6, 3, _, _, e1, e2 => by cases e1; cases e2; exact .inl ⟨_, _, (nm_ref h0 k0), (nm_int (n := 0) (by decide) (by decide)), by decide +kernel⟩
  | 6, 4, _, _, e1, e2 => by cases e1; cases e2; exact .inl ⟨_, _, (nm_ref h0 k0), (nm_int (n := 1) (by decide) (by decide)), by decide +kernel⟩
  | 6, 5, _, _, e1, e2 => by cases e1; cases e2; exact .inl ⟨_, _, (nm_ref h0 k0), (nm_ref h1 k1), by decide +kernel⟩
  | 6, 6, _, _, e1, e2 => by cases e1; cases e2; exact .inl ⟨_, _, (nm_ref h0 k0), (nm_ref h0 k0), by decide +kernel⟩
  | 6, 7, _, _, e1, e2 => by cases e1; cases e2; exact .inr (.inl ⟨.inl ⟨⟨_, (nm_ref h0 k0)⟩, .inr (.inr (.inl ⟨_, rfl⟩))⟩, by decide +kernel⟩)
  | 6, 8, _, _, e1, e2 => by cases e1; cases e2; exact .inr (.inl ⟨.inl ⟨⟨_, (nm_ref h0 k0)⟩, .inr (.inr (.inl ⟨_, rfl⟩))⟩, by decide +kernel⟩)
  | 6, 9, _, _, e1, e2 => by cases e1; cases e2; exact .inr (.inl ⟨.inl ⟨⟨_, (nm_ref h0 k0)⟩, .inr (.inr (.inr ht0))⟩, by decide +kernel⟩)
  | 6, 10, _, _, e1, e2 => by cases e1; cases e2; exact .inr (.inl ⟨.inl ⟨⟨_, (nm_ref h0 k0)⟩, .inr (.inr (.inr ht1))⟩, by decide +kernel⟩)
  | 7, 0, _, _, e1, e2 => by cases e1; cases e2; exact .inr (.inr ⟨.inr (.inr (.inl ⟨_, rfl⟩)), .inl rfl, (show dueN 7 0 = false by decide +kernel).trans (decide_eq_false (fun e => by cases e)).symm⟩)
  | 7, 1, _, _, e1, e2 => by cases e1; cases e2; exact .inr (.inr ⟨.inr (.inr (.inl ⟨_, rfl⟩)), .inr (.inl ⟨_, rfl⟩), (show dueN 7 1 = false by decide +kernel).trans (decide_eq_false (fun e => by cases e)).symm⟩)
  | 7, 2, _, _, e1, e2 => by cases e1; cases e2; exact .inr (.inr ⟨.inr (.inr (.inl ⟨_, rfl⟩)), .inr (.inl ⟨_, rfl⟩), (show dueN 7 2 = false by decide +kernel).trans (decide_eq_false (fun e => by cases e)).symm⟩)
  | 7, 3, _, _, e1, e2 => by cases e1; cases e2; exact .inr (.inl ⟨.inr ⟨⟨_, (nm_int (n := 0) (by decide) (by decide))⟩, .inr (.inr (.inl ⟨_, rfl⟩))⟩, by decide +kernel⟩)
  | 7, 4, _, _, e1, e2 => by cases e1; cases e2; exact .inr (.inl ⟨.inr ⟨⟨_, (nm_int (n := 1) (by decide) (by decide))⟩, .inr (.inr (.inl ⟨_, rfl⟩))⟩, by decide +kernel⟩)
  | 7, 5, _, _, e1, e2 => by cases e1; cases e2; exact .inr (.inl ⟨.inr ⟨⟨_, (nm_ref h1 k1)⟩, .inr (.inr (.inl ⟨_, rfl⟩))⟩, by decide +kernel⟩)
  | 7, 6, _, _, e1, e2 => by cases e1; cases e2; exact .inr (.inl ⟨.inr ⟨⟨_, (nm_ref h0 k0)⟩, .inr (.inr (.inl ⟨_, rfl⟩))⟩, by decide +kernel⟩)
  | 7, 7, _, _, e1, e2 => by cases e1; cases e2; exact .inr (.inr ⟨.inr (.inr (.inl ⟨_, rfl⟩)), .inr (.inr (.inl ⟨_, rfl⟩)), (show dueN 7 7 = true by decide +kernel).trans (decide_eq_true rfl).symm⟩)
  | 7, 8, _, _, e1, e2 => by cases e1; cases e2; exact .inr (.inr ⟨.inr (.inr (.inl ⟨_, rfl⟩)), .inr (.inr (.inl ⟨_, rfl⟩)), (show dueN 7 8 = false by decide +kernel).trans (decide_eq_false (fun e => app_x (V.str.inj e))).symm⟩)
  | 7, 9, _, _, e1, e2 => by cases e1; cases e2; exact .inr (.inr ⟨.inr (.inr (.inl ⟨_, rfl⟩)), .inr (.inr (.inr ht0)), (show dueN 7 9 = false by decide +kernel).trans (decide_eq_false (fun e => by cases e)).symm⟩)
  | 7, 10, _, _, e1, e2 => by cases e1; cases e2; exact .inr (.inr ⟨.inr (.inr (.inl ⟨_, rfl⟩)), .inr (.inr (.inr ht1)), (show dueN 7 10 = false by decide +kernel).trans (decide_eq_false (fun e => by cases e)).symm⟩)
  | 8, 0, _, _, e1, e2 => by cases e1; cases e2; exact .inr (.inr ⟨.inr (.inr (.inl ⟨_, rfl⟩)), .inl rfl, (show dueN 8 0 = false by decide +kernel).trans (decide_eq_false (fun e => by cases e)).symm⟩)
  | 8, 1, _, _, e1, e2 => by cases e1; cases e2; exact .inr (.inr ⟨.inr (.inr (.inl ⟨_, rfl⟩)), .inr (.inl ⟨_, rfl⟩), (show dueN 8 1 = false by decide +kernel).trans (decide_eq_false (fun e => by cases e)).symm⟩)
  | 8, 2, _, _, e1, e2 => by cases e1; cases e2; exact .inr (.inr ⟨.inr (.inr (.inl ⟨_, rfl⟩)), .inr (.inl ⟨_, rfl⟩), (show dueN 8 2 = false by decide +kernel).trans (decide_eq_false (fun e => by cases e)).symm⟩)
  | 8, 3, _, _, e1, e2 => by cases e1; cases e2; exact .inr (.inl ⟨.inr ⟨⟨_, (nm_int (n := 0) (by decide) (by decide))⟩, .inr (.inr (.inl ⟨_, rfl⟩))⟩, by decide +kernel⟩)
  | 8, 4, _, _, e1, e2 => by cases e1; cases e2; exact .inr (.inl ⟨.inr ⟨⟨_, (nm_int (n := 1) (by decide) (by decide))⟩, .inr (.inr (.inl ⟨_, rfl⟩))⟩, by decide +kernel⟩)
  | 8, 5, _, _, e1, e2 => by cases e1; cases e2; exact .inr (.inl ⟨.inr ⟨⟨_, (nm_ref h1 k1)⟩, .inr (.inr (.inl ⟨_, rfl⟩))⟩, by decide +kernel⟩)
  | 8, 6, _, _, e1, e2 => by cases e1; cases e2; exact .inr (.inl ⟨.inr ⟨⟨_, (nm_ref h0 k0)⟩, .inr (.inr (.inl ⟨_, rfl⟩))⟩, by decide +kernel⟩)
  | 8, 7, _, _, e1, e2 => by cases e1; cases e2; exact .inr (.inr ⟨.inr (.inr (.inl ⟨_, rfl⟩)), .inr (.inr (.inl ⟨_, rfl⟩)), (show dueN 8 7 = false by decide +kernel).trans (decide_eq_false (fun e => app_x (V.str.inj e).symm)).symm⟩)
  | 8, 8, _, _, e1, e2 => by cases e1; cases e2; exact .inr (.inr ⟨.inr (.inr (.inl ⟨_, rfl⟩)), .inr (.inr (.inl ⟨_, rfl⟩)), (show dueN 8 8 = true by decide +kernel).trans (decide_eq_true rfl).symm⟩)
  | 8, 9, _, _, e1, e2 => by cases e1; cases e2; exact .inr (.inr ⟨.inr (.inr (.inl ⟨_, rfl⟩)), .inr (.inr (.inr ht0)), (show dueN 8 9 = false by decide +kernel).trans (decide_eq_false (fun e => by cases e)).symm⟩)
  | 8, 10, _, _, e1, e2 => by cases e1; cases e2; exact .inr (.inr ⟨.inr (.inr (.inl ⟨_, rfl⟩)), .inr (.inr (.inr ht1)), (show dueN 8 10 = false by decide +kernel).trans (decide_eq_false (fun e => by cases e)).symm⟩)
  | 9, 0, _, _, e1, e2 => by cases e1; cases e2; exact .inr (.inr ⟨.inr (.inr (.inr ht0)), .inl rfl, (show dueN 9 0 = false by decide +kernel).trans (decide_eq_false (fun e => by cases e)).symm⟩)
  | 9, 1, _, _, e1, e2 => by cases e1; cases e2; exact .inr (.inr ⟨.inr (.inr (.inr ht0)), .inr (.inl ⟨_, rfl⟩), (show dueN 9 1 = false by decide +kernel).trans (decide_eq_false (fun e => by cases e)).symm⟩)
  | 9, 2, _, _, e1, e2 => by cases e1; cases e2; exact .inr (.inr ⟨.inr (.inr (.inr ht0)), .inr (.inl ⟨_, rfl⟩), (show dueN 9 2 = false by decide +kernel).trans (decide_eq_false (fun e => by cases e)).symm⟩)
  | 9, 3, _, _, e1, e2 => by cases e1; cases e2; exact .inr (.inl ⟨.inr ⟨⟨_, (nm_int (n := 0) (by decide) (by decide))⟩, .inr (.inr (.inr ht0))⟩, by decide +kernel⟩)
  | 9, 4, _, _, e1, e2 => by cases e1; cases e2; exact .inr (.inl ⟨.inr ⟨⟨_, (nm_int (n := 1) (by decide) (by decide))⟩, .inr (.inr (.inr ht0))⟩, by decide +kernel⟩)
  | 9, 5, _, _, e1, e2 => by cases e1; cases e2; exact .inr (.inl ⟨.inr ⟨⟨_, (nm_ref h1 k1)⟩, .inr (.inr (.inr ht0))⟩, by decide +kernel⟩)
  | 9, 6, _, _, e1, e2 => by cases e1; cases e2; exact .inr (.inl ⟨.inr ⟨⟨_, (nm_ref h0 k0)⟩, .inr (.inr (.inr ht0))⟩, by decide +kernel⟩)
  | 9, 7, _, _, e1, e2 => by cases e1; cases e2; exact .inr (.inr ⟨.inr (.inr (.inr ht0)), .inr (.inr (.inl ⟨_, rfl⟩)), (show dueN 9 7 = false by decide +kernel).trans (decide_eq_false (fun e => by cases e)).symm⟩)
  | 9, 8, _, _, e1, e2 => by cases e1; cases e2; exact .inr (.inr ⟨.inr (.inr (.inr ht0)), .inr (.inr (.inl ⟨_, rfl⟩)), (show dueN 9 8 = false by decide +kernel).trans (decide_eq_false (fun e => by cases e)).symm⟩)
  | 9, 9, _, _, e1, e2 => by cases e1; cases e2; exact .inr (.inr ⟨.inr (.inr (.inr ht0)), .inr (.inr (.inr ht0)), (show dueN 9 9 = true by decide +kernel).trans (decide_eq_true rfl).symm⟩)
  | 9, 10, _, _, e1, e2 => by cases e1; cases e2; exact .inr (.inr ⟨.inr (.inr (.inr ht0)), .inr (.inr (.inr ht1)), (show dueN 9 10 = false by decide +kernel).trans (decide_eq_false (fun e => hne (V.ref.inj e))).symm⟩)
  | 10, 0, _, _, e1, e2 => by cases e1; cases e2; exact .inr (.inr ⟨.inr (.inr (.inr ht1)), .inl rfl, (show dueN 10 0 = false by decide +kernel).trans (decide_eq_false (fun e => by cases e)).symm⟩)
  | 10, 1, _, _, e1, e2 => by cases e1; cases e2; exact .inr (.inr ⟨.inr (.inr (.inr ht1)), .inr (.inl ⟨_, rfl⟩), (show dueN 10 1 = false by decide +kernel).trans (decide_eq_false (fun e => by cases e)).symm⟩)
  | 10, 2, _, _, e1, e2 => by cases e1; cases e2; exact .inr (.inr ⟨.inr (.inr (.inr ht1)), .inr (.inl ⟨_, rfl⟩), (show dueN 10 2 = false by decide +kernel).trans (decide_eq_false (fun e => by cases e)).symm⟩)
  | 10, 3, _, _, e1, e2 => by cases e1; cases e2; exact .inr (.inl ⟨.inr ⟨⟨_, (nm_int (n := 0) (by decide) (by decide))⟩, .inr (.inr (.inr ht1))⟩, by decide +kernel⟩)
  | 10, 4, _, _, e1, e2 => by cases e1; cases e2; exact .inr (.inl ⟨.inr ⟨⟨_, (nm_int (n := 1) (by decide) (by decide))⟩, .inr (.inr (.inr ht1))⟩, by decide +kernel⟩)
  | 10, 5, _, _, e1, e2 => by cases e1; cases e2; exact .inr (.inl ⟨.inr ⟨⟨_, (nm_ref h1 k1)⟩, .inr (.inr (.inr ht1))⟩, by decide +kernel⟩)
  | 10, 6, _, _, e1, e2 => by cases e1; cases e2; exact .inr (.inl ⟨.inr ⟨⟨_, (nm_ref h0 k0)⟩, .inr (.inr (.inr ht1))⟩, by decide +kernel⟩)
  | 10, 7, _, _, e1, e2 => by cases e1; cases e2; exact .inr (.inr ⟨.inr (.inr (.inr ht1)), .inr (.inr (.inl ⟨_, rfl⟩)), (show dueN 10 7 = false by decide +kernel).trans (decide_eq_false (fun e => by cases e)).symm⟩)
  | 10, 8, _, _, e1, e2 => by cases e1; cases e2; exact .inr (.inr ⟨.inr (.inr (.inr ht1)), .inr (.inr (.inl ⟨_, rfl⟩)), (show dueN 10 8 = false by decide +kernel).trans (decide_eq_false (fun e => by cases e)).symm⟩)
  | 10, 9, _, _, e1, e2 => by cases e1; cases e2; exact .inr (.inr ⟨.inr (.inr (.inr ht1)), .inr (.inr (.inr ht0)), (show dueN 10 9 = false by decide +kernel).trans (decide_eq_false (fun e => hne (V.ref.inj e).symm)).symm⟩)
  | 10, 10, _, _, e1, e2 => by cases e1; cases e2; exact .inr (.inr ⟨.inr (.inr (.inr ht1)), .inr (.inr (.inr ht1)), (show dueN 10 10 = true by decide +kernel).trans (decide_eq_true rfl).symm⟩)
  | n + 11, _, _, _, e1, _ => by simp at e1
  | _, n + 11, _, _, _, e2 => by simp at e2
theorem l_inDT {K : PySem.W.Frag} {H : Hp} {Q : VK} {x y : V} {d : PyData} {ds : List PyData} (hx : Dp K H x d) (hy : Dp K H y (.tuple ds)) (sx : SeqAt.shaped d = true) (sy : SeqAt.shaped (.tuple ds) = true) (q : Q (.bl (ds.any fun z => PyData.eqv z d)) H) : rInDT K x y H Q := ⟨d, ds, hx, hy, sx, sy, q⟩
/-- others than numbers are told apart -/
def spOthR : Sp := fun vs H Q _ => ∃ w : Addr, vs = [.ref w] ∧ Well w H ∧ ∀ H', Ex w H H' → Q (.bl true) H'
theorem l_othR {w : Addr} {H : Hp} {Q : VK} {E : XK} (hw : Well w H) (q : ∀ H', Ex w H H' → Q (.bl true) H') : spOthR ([.ref w] ++ []) H Q E := ⟨w, rfl, hw, q⟩
theorem room65 {k : Nat} {A : Around} (r : Room k A) : A.units + 65 < cLine := by
  have := r.un
  omega
theorem kit_oo {K : PySem.W.Frag} {D C : Addr} {b : Bool} (hd : PySem.W.hasDictIn K C = true) (ty : PySem.W.typeIn K (.ref C) = some (.type "type")) (ne : D ≠ C) (h : PySem.W.subIn K (.ref D) (.ref C) = some b) : PySem.W.kitOne K (.ref D) (.ref C) = some b := by
  obtain ⟨cd, hc, _⟩ := PySem.W.any_some hd
  have e2 : ((PySem.W.clsIn K C).isSome && PySem.W.typeIn K (.ref C) == some (.type "type")) = true := by rw [hc, ty] <;> rfl
  show (if (Value.ref D == Value.ref C) = true then some true else if ((PySem.W.clsIn K C).isSome && PySem.W.typeIn K (.ref C) == some (.type "type")) = true then PySem.W.subIn K (.ref D) (.ref C) else none) = some b
  have ne2 : ¬ (Value.ref D == Value.ref C) = true := fun z => ne (Value.ref.inj (beq_iff_eq.mp z))
  rw [if_neg ne2, if_pos e2]
  exact h
end U
namespace U
open PySem L2
/-! ## the rounds of a loop -/
def rnd (ft fl fu : Fl) : Bool := if cLt (ptI 0) ft = true then cLe fu fl else cLe fl fu
def fitsI (s : Int) : Prop := -9223372036854775808 ≤ s ∧ s ≤ 9223372036854775807
instance (s : Int) : Decidable (fitsI s) := by unfold fitsI; infer_instance
def rI (fl : Fl) (t : Int) : Nat → Int → List Int
  | 0, _ => []
  | k + 1, s => if fitsI s ∧ rnd (ptI t) fl (ptI s) = true then s :: rI fl t k (s + t) else []
def rF (fl ft : Fl) : Nat → Fl → List Fl
  | 0, _ => []
  | k + 1, s => if ft.isNan = false ∧ rnd ft fl s = true then s :: rF fl ft k (addF s ft) else []
theorem rI_s {fl : Fl} {t s : Int} {k : Nat} (h : fitsI s ∧ rnd (ptI t) fl (ptI s) = true) : rI fl t (k + 1) s = s :: rI fl t k (s + t) := if_pos h
theorem rI_n {fl : Fl} {t s : Int} {k : Nat} (h : ¬ (fitsI s ∧ rnd (ptI t) fl (ptI s) = true)) : rI fl t k s = [] := by
  cases k with
  | zero => rfl
  | succ k => exact if_neg h
theorem rF_s {fl ft s : Fl} {k : Nat} (h : ft.isNan = false ∧ rnd ft fl s = true) : rF fl ft (k + 1) s = s :: rF fl ft k (addF s ft) := if_pos h
theorem rF_n {fl ft s : Fl} {k : Nat} (h : ¬ (ft.isNan = false ∧ rnd ft fl s = true)) : rF fl ft k s = [] := by
  cases k with
  | zero => rfl
  | succ k => exact if_neg h
theorem rnd_nan {ft fl fu : Fl} (h : rnd ft fl fu = true) : fl.isNan = false ∧ fu.isNan = false := by
  unfold rnd at h
  unfold cLe at h
  cases e1 : fl.isNan <;> cases e2 : fu.isNan <;> rw [e1, e2] at h <;> first | exact ⟨rfl, rfl⟩ | (split at h <;> simp at h)
/-- the sign of what is not 0 -/
theorem pos_sgn {f : Fl} {s : Int} (k : f.ok) (h : (∃ t p, f = .fin s t p ∧ ¬ t = 0) ∨ f = .inf s) : cLt (ptI 0) f = decide (0 < s) := by
  rcases h with ⟨t, p, rfl, t0⟩ | rfl
  · obtain ⟨hs, h0, -⟩ := ok_bounds k
    show (true && (true && decide (alF 1 0 0 (min 0 p) < alF s t p (min 0 p)))) = _
    rw [Bool.true_and, Bool.true_and]
    refine decide_eq_decide.mpr ?_
    unfold alF
    rw [show (1 : Int) * 0 * 2 ^ (0 - min 0 p).toNat = 0 by omega]
    have q : 0 < t * 2 ^ (p - min 0 p).toNat := Int.mul_pos (by omega) (tp _)
    rw [Int.mul_assoc]
    rcases hs with rfl | rfl
    · rw [Int.one_mul]; constructor <;> intro <;> omega
    · rw [show (-1 : Int) * (t * 2 ^ (p - min 0 p).toNat) = -(t * 2 ^ (p - min 0 p).toNat) by omega]; constructor <;> intro <;> omega
  · rfl
theorem eq_zero {f : Fl} (k : f.ok) : cEq f (ptI 0) = (match f with | .fin _ t _ => decide (t = 0) | _ => false) := by
  cases f with
  | nan => rfl
  | inf s =>
    have hs : s = 1 ∨ s = -1 := k
    show (true && (true && !decide (0 < s)) && (true && (true && !decide (s < 0)))) = false
    rcases hs with rfl | rfl <;> decide
  | fin s t p =>
    obtain ⟨hs, h0, -⟩ := ok_bounds k
    show ((true && (true && !decide (alF 1 0 0 (min 0 p) < alF s t p (min 0 p)))) && (true && (true && !decide (alF s t p (min p 0) < alF 1 0 0 (min p 0))))) = decide (t = 0)
    have z : ∀ m : Int, alF 1 0 0 m = 0 := fun m => by unfold alF; omega
    rw [z, z]
    have a : ∀ m : Int, (alF s t p m < 0 ∨ 0 < alF s t p m) ↔ ¬ t = 0 := fun m => by
      unfold alF
      have q := tp (p - m).toNat
      rw [Int.mul_assoc]
      rcases hs with rfl | rfl
      · rw [Int.one_mul]
        constructor
        · intro h e
          subst e
          rw [Int.zero_mul] at h
          omega
        · intro e
          exact .inr (Int.mul_pos (by omega) q)
      · rw [show (-1 : Int) * (t * 2 ^ (p - m).toNat) = -(t * 2 ^ (p - m).toNat) by omega]
        constructor
        · intro h e
          subst e
          rw [Int.zero_mul] at h
          omega
        · intro e
          have := Int.mul_pos (show 0 < t by omega) q
          exact .inl (by omega)
    rw [Int.min_comm p 0]
    have b := a (min 0 p)
    generalize alF s t p (min 0 p) = x at b
    rw [Bool.eq_iff_iff]
    simp
    omega
/-! ## promises -/
def pfs (v l s : V) : List (Str × V) := [("value", v), ("limit", l), ("step", s)]
def PlanAt (PL : Addr) (H : Hp) (p : Addr) (v l s : V) : Prop := ∃ dx, H p = some (.ins PL dx (pfs v l s))
structure PlanC (K : PySem.W.Frag) (PL : Addr) : Prop where
  cl : Cls K PL
  nV : NoAttr K PL "value"
  nL : NoAttr K PL "limit"
  nS : NoAttr K PL "step"
theorem PlanAt.same {PL p : Addr} {H H' : Hp} {v l s : V} (h : PlanAt PL H p v l s) (e : Same H H') : PlanAt PL H' p v l s := by
  obtain ⟨dx, h⟩ := h
  exact ⟨dx, e _ _ h⟩
/-- all but p is as it was -/
def Frm (p : Addr) (H H' : Hp) : Prop := ∀ b o, b ≠ p → H b = some o → H' b = some o
def RaiseV.same {TH : Addr} {E : XK} {H H' : Hp} {m : Str} (h : RaiseV TH E H m) (e : Same H H') : RaiseV TH E H' m := fun d G hd hG hg => h d G (e.free hd) (e.trans hG) hg
def spPlanI (PL : Addr) : Sp := fun vs H Q _ => ∃ (x dx : Addr) (v l s : V), vs = [.ref x, v, l, s] ∧ H x = some (.ins PL dx []) ∧ ∀ G, Frm x H G → PlanAt PL G x v l s → Q .non G
def MkPlan (PL : Addr) (vs : List V) (H1 : Hp) (Q : VK) : Prop := ∀ x dx, H1 x = none → H1 dx = none → dx ≠ x → spPlanI PL (.ref x :: (vs ++ [])) (upd (upd H1 dx (.own x)) x (.ins PL dx [])) (fun v H2 => v = .non ∧ Q (.ref x) H2) E0
theorem l_mkP {PL : Addr} {ta : TA} {σ : St} {H : Hp} {Q : VK} (h : ta σ H fun vs H1 => MkPlan PL vs H1 Q) : tMake PL (spPlanI PL) [] E0 ta σ H Q := h
theorem l_mkP1 {PL : Addr} {H : Hp} {Q : VK} {v l s : V} (q : ∀ p G, H p = none → Same H G → PlanAt PL G p v l s → Q (.ref p) G) : MkPlan PL [v, l, s] H Q := fun x dx hx hd _ =>
  ⟨x, dx, v, l, s, rfl, upd_same, fun G hG hg => ⟨rfl, q x G hx (fun b o e => hG b o (ne_of_none e hx) (same2 hx hd b o e)) hg⟩⟩
def spIsRound (C PL : Addr) : Sp := fun vs H Q _ => ∃ (p : Addr) (v l s u : V) (fl ft fu : Fl), vs = [.ref p, u] ∧ PlanAt PL H p v l s ∧ NmV C H s ft ∧ NmV C H l fl ∧ NmV C H u fu ∧ ∀ H', Same H H' → Q (.bl (rnd ft fl fu)) H'
def spGoes (C PL : Addr) : Sp := fun vs H Q _ => ∃ (p : Addr) (v l s : V) (fl : Fl), vs = [.ref p] ∧ PlanAt PL H p v l s ∧ NmV C H l fl ∧
  ((∃ a t, v = .int a ∧ s = .int t ∧ fitsI a ∧ fitsI t ∧ (fitsI (a + t) ∧ rnd (ptI t) fl (ptI (a + t)) = true → ∀ H', Frm p H H' → PlanAt PL H' p (.int (a + t)) l s → Q (.bl true) H') ∧ (¬ (fitsI (a + t) ∧ rnd (ptI t) fl (ptI (a + t)) = true) → ∀ H', Same H H' → Q (.bl false) H')) ∨
   (∃ x y fa ft, v = .ref x ∧ s = .ref y ∧ FltF C H x fa ∧ FltF C H y ft ∧ fa.ok ∧ ft.ok ∧ (rnd ft fl (addF fa ft) = true → ∀ r H', Frm p H H' → FltF C H' r (addF fa ft) → PlanAt PL H' p (.ref r) l s → Q (.bl true) H') ∧ (rnd ft fl (addF fa ft) = false → ∀ H', Same H H' → Q (.bl false) H')))
/-- what is no number -/
def NoN (v : V) : Prop := v = .non ∨ (∃ b, v = .bl b) ∨ ∃ z, v = .str z
def msgN (z : Str) : Str := ((Str.empty ++ ("'for' " : Str)) ++ z) ++ (" must be a number" : Str)
def spChkL (TH C : Addr) : Sp := fun vs H Q E => ∃ (v : V) (z : Str), vs = [v, .str z] ∧ z.length ≤ 20 ∧ (((∃ f, NmV C H v f) ∧ Q .non H) ∨ (NoN v ∧ RaiseV TH E H (msgN z)))
def spChkS (TH C : Addr) : Sp := fun vs H Q E => ∃ (v : V) (f : Fl), vs = [v] ∧ NmV C H v f ∧ (cEq f (ptI 0) = true → RaiseV TH E H "'for' step is zero") ∧ (cEq f (ptI 0) = false → ∀ H', Same H H' → Q .non H')
def spSameN (C : Addr) : Sp := fun vs H Q _ => ∃ (v u : V) (f g : Fl), vs = [v, u] ∧ NmV C H v f ∧ NmV C H u g ∧ ∀ H', Same H H' → Q (.bl (cEq f g)) H'
def spAddF (C : Addr) : Sp := fun vs H Q _ => ∃ (x y : Addr) (f g : Fl), vs = [.str "add", .ref x, .ref y] ∧ FltF C H x f ∧ FltF C H y g ∧ f.ok ∧ g.ok ∧ ∀ r H', Same H H' → FltF C H' r (addF f g) → Q (.ref r) H'
def spFitsB : Sp := fun vs H Q _ => ∃ n : Int, vs = [.int n] ∧ Q (.bl (decide (fitsI n))) H
/-- a value, by its kind -/
inductive Kv where
  | i (n : Int) | f (g : Fl) | o
def KvOk (C : Addr) (H : Hp) (v : V) : Kv → Prop
  | .i n => v = .int n ∧ fitsI n
  | .f g => ∃ x, v = .ref x ∧ FltF C H x g ∧ g.ok
  | .o => NoN v
def Kv.fl : Kv → Fl
  | .i n => ptI n | .f g => g | .o => .nan
def Kv.toF : Kv → Fl
  | .i n => U.toF n | .f g => g | .o => .nan
def zeroF : Fl → Bool
  | .fin _ t _ => decide (t = 0)
  | _ => false
def Kv.isO : Kv → Bool
  | .o => true
  | _ => false
def errF (s l t : Kv) : Option Str := if l.isO = true then some (msgN "limit") else if t.isO = true then some (msgN "step") else if s.isO = true then some (msgN "initial value") else if zeroF t.toF = true then some "'for' step is zero" else none
def errI (b : Int) (l : Kv) : Option Str := if b = 0 then some "'for' step is zero" else if l.isO = true then some (msgN "limit") else none
/-- a list of floats -/
def MatF (C : Addr) (H : Hp) : List V → List Fl → Prop
  | [], [] => True
  | v :: vs, f :: fs => (∃ x, v = .ref x ∧ FltF C H x f ∧ f.ok) ∧ MatF C H vs fs
  | _, _ => False
/-- what comes of a loop: its first rounds, or a text -/
def OutAt (C : Addr) (H : Hp) (v : V) (l : Kv) : Kv → Kv → Prop
  | .i a, .i b => match errI b l with
    | some m => v = .str m
    | none => ∃ r, v = .ref r ∧ H r = some (.lst ((rI l.fl b 12 a).map V.int))
  | s, t => match errF s l t with
    | some m => v = .str m
    | none => ∃ r xs, v = .ref r ∧ H r = some (.lst xs) ∧ MatF C H xs (rF l.toF t.toF 12 s.toF)
def spOut (C : Addr) : Sp := fun vs H Q _ => ∃ (a b c : V) (s l t : Kv), vs = [a, b, c] ∧ KvOk C H a s ∧ KvOk C H b l ∧ KvOk C H c t ∧ ∀ v H', Same H H' → OutAt C H' v l s t → Q v H'
def spForP (TH C PL : Addr) : Sp := fun vs H Q E => ∃ (a b c : V) (s l t : Kv), vs = [a, b, c] ∧ KvOk C H a s ∧ KvOk C H b l ∧ KvOk C H c t ∧
  ((∃ m n, s = .i m ∧ t = .i n ∧ (∀ z, errI n l = some z → RaiseV TH E H z) ∧ (errI n l = none → (rnd (ptI n) l.fl (ptI m) = true → ∀ p H', H p = none → Same H H' → PlanAt PL H' p a b c → Q (.ref p) H') ∧ (rnd (ptI n) l.fl (ptI m) = false → ∀ H', Same H H' → Q .non H'))) ∨
   ((∀ m n, ¬ (s = .i m ∧ t = .i n)) ∧ (∀ z, errF s l t = some z → RaiseV TH E H z) ∧ (errF s l t = none → (t.toF.isNan = false ∧ rnd t.toF l.toF s.toF = true → ∀ p x y z H', H p = none → Same H H' → PlanAt PL H' p (.ref x) (.ref y) (.ref z) → FltF C H' x s.toF → FltF C H' y l.toF → FltF C H' z t.toF → Q (.ref p) H') ∧
     (¬ (t.toF.isNan = false ∧ rnd t.toF l.toF s.toF = true) → ∀ H', Same H H' → Q .non H'))))
section
variable {C TH PL : Addr} {H : Hp} {Q : VK} {E : XK} {v u l s : V} {f g fl ft fu : Fl} {p x y : Addr}
theorem l_round (h : PlanAt PL H p v l s) (h1 : NmV C H s ft) (h2 : NmV C H l fl) (h3 : NmV C H u fu) (q : ∀ H', Same H H' → Q (.bl (rnd ft fl fu)) H') : spIsRound C PL ([.ref p, u] ++ []) H Q E := ⟨p, v, l, s, u, fl, ft, fu, rfl, h, h1, h2, h3, q⟩
theorem l_round' (h : PlanAt PL H p v l s) (h1 : NmV C H s ft) (h2 : NmV C H l fl) (h3 : NmV C H u fu) (q : ∀ H', Same H H' → Q (.bl (rnd ft fl fu)) H') : spIsRound C PL (.ref p :: ([u] ++ [])) H Q E := ⟨p, v, l, s, u, fl, ft, fu, rfl, h, h1, h2, h3, q⟩
theorem l_chkN {z : Str} (hz : z.length ≤ 20) (h : NmV C H v f) (q : Q .non H) : spChkL TH C ([v, .str z] ++ []) H Q E := ⟨v, z, rfl, hz, .inl ⟨⟨f, h⟩, q⟩⟩
theorem l_chkO {z : Str} (hz : z.length ≤ 20) (h : NoN v) (q : RaiseV TH E H (msgN z)) : spChkL TH C ([v, .str z] ++ []) H Q E := ⟨v, z, rfl, hz, .inr ⟨h, q⟩⟩
theorem l_chkS (h : NmV C H v f) (q1 : cEq f (ptI 0) = true → RaiseV TH E H "'for' step is zero") (q : cEq f (ptI 0) = false → ∀ H', Same H H' → Q .non H') : spChkS TH C ([v] ++ []) H Q E := ⟨v, f, rfl, h, q1, q⟩
theorem l_sameN' (h : NmV C H v f) (h' : NmV C H u g) (q : ∀ H', Same H H' → Q (.bl (cEq f g)) H') : spSameN C ([v, u] ++ []) H Q E := ⟨v, u, f, g, rfl, h, h', q⟩
theorem l_addF (hx : FltF C H x f) (hy : FltF C H y g) (kf : f.ok) (kg : g.ok) (q : ∀ r H', Same H H' → FltF C H' r (addF f g) → Q (.ref r) H') : spAddF C ([.str "add", .ref x, .ref y] ++ []) H Q E := ⟨x, y, f, g, rfl, hx, hy, kf, kg, q⟩
theorem l_fitsB {n : Int} (q : Q (.bl (decide (fitsI n))) H) : spFitsB ([.int n] ++ []) H Q E := ⟨n, rfl, q⟩
end
/-- a method of a class, by its name -/
structure CalN (P : Program) (w : World) (K : PySem.W.Frag) (mg : Str → Option Value) (base : Heap) (k : Nat) (C : Addr) (m : Str) (ps : List Str) (sp : Sp) : Prop where
  cl : Cls K C
  ex : ∃ (f : Addr) (fd : FuncData), Meth K C m f ∧ Binds K fd ps [] ∧ FnOk P w K mg base CX0 k f fd ps sp
section
variable {X : Cx} {k k0 : Nat} {C : Addr} {m : Str} {ps : List Str} {sp : Sp} {o e : Expr} {es : List Expr} {ta : TE} {t : TA} {pos apos : Pos}
theorem pe_mt1 {pl : Sem Bool} (G : CalN X.prog X.w X.K X.mg X.base k C m ps sp) (hr : Room k0 X.A) (he : PE X o ta) (ha : PA X (e :: es) t) (hk : k ≤ k0 := by decide)
    (hst : starEach (e :: es) X.env = (false, eval e X.env) :: starEach es X.env := by rfl) (hpl : (backTo pos (starEach es X.env)).any (·.1) = false := by rfl)
    (ht : eval (.Call (.Attribute o m apos) (e :: es) [] pos) X.env = (do
      let ov ← eval o X.env
      standAt apos.atName
      let (f, first) ← holding [ov] (getMethod ov m pl)
      callWith pos f first (backTo pos (starEach (e :: es) X.env)) (backToKw pos (keywordEach [] X.env))) := by rfl) :
    PE X (.Call (.Attribute o m apos) (e :: es) [] pos) (tMeth C m sp [] E0 ta t) := by
  obtain ⟨cl, f, fd, hm, hb, F⟩ := G
  exact pe_meth he cl hm F (hr.mono hk) hb .nil pass0 ha hst hpl ht
theorem pe_mt0 {pl : Sem Bool} (G : CalN X.prog X.w X.K X.mg X.base k C m ps sp) (hr : Room k0 X.A) (he : PE X o ta) (hk : k ≤ k0 := by decide)
    (ht : eval (.Call (.Attribute o m apos) [] [] pos) X.env = (do
      let ov ← eval o X.env
      standAt apos.atName
      let (f, first) ← holding [ov] (getMethod ov m pl)
      callWith pos f first (backTo pos (starEach [] X.env)) (backToKw pos (keywordEach [] X.env))) := by rfl) :
    PE X (.Call (.Attribute o m apos) [] [] pos) (tMeth C m sp [] E0 ta tNil) := by
  obtain ⟨cl, f, fd, hm, hb, F⟩ := G
  exact pe_meth0 he cl hm F (hr.mono hk) hb .nil pass0 ht
end
/-! ### one word alone -/
def S1 (K : PySem.W.Frag) (aT : Addr) (f : Addr) : Option Sp := if f = aT then some (spTwo K addF) else none
theorem S1_held {P : Program} {w : World} {K : PySem.W.Frag} {mg : Str → Option Value} {base : Heap} {aT : Addr} {k : Nat} (h : Held P w K mg base k aT (spTwo K addF)) : ∀ f sp, S1 K aT f = some sp → Held P w K mg base k f sp := by
  intro f sp e
  unfold S1 at e
  split at e
  · cases e
    rename_i z
    subst z
    exact h
  · cases e
def spRec1 (K : PySem.W.Frag) : Sp := fun vs H Q _ => ∃ (a b : Addr) (xs ys : List V) (f g : Fl), vs = [.str "add", .ref a, .ref b] ∧ SqT K H a xs ∧ SqT K H b ys ∧ FlL f xs ∧ FlL g ys ∧ f.ok ∧ g.ok ∧ ∀ r H' zs, Same H H' → SqT K H' r zs → FlL (addF f g) zs → Q (.ref r) H'
theorem l_rec1 {K : PySem.W.Frag} {H : Hp} {Q : VK} {E : XK} {a b : Addr} {xs ys : List V} {f g : Fl} (h1 : SqT K H a xs) (h2 : SqT K H b ys) (h3 : FlL f xs) (h4 : FlL g ys) (h5 : f.ok) (h6 : g.ok) (q : ∀ r H' zs, Same H H' → SqT K H' r zs → FlL (addF f g) zs → Q (.ref r) H') : spRec1 K ([.str "add", .ref a, .ref b] ++ []) H Q E :=
  ⟨a, b, xs, ys, f, g, rfl, h1, h2, h3, h4, h5, h6, q⟩
theorem l_msg {σ : St} {H : Hp} {Q : Str → Hp → Prop} {z : Str} (h : σ[1]? = some (some (.str z))) (hz : z.length ≤ 20) (q : Q (msgN z) H) : tJs [tC (.str "'for' "), tFmt (tVar 1), tC (.str " must be a number")] Str.empty σ H Q := by
  have hs := sizeLine_eq
  have e1 : ("'for' " : Str).length = 6 := rfl
  have e2 : (" must be a number" : Str).length = 17 := rfl
  have ap : ∀ a b : Str, (a ++ b).length = a.length + b.length := fun a b => Array.size_append
  have e0 : (Str.empty : Str).length = 0 := rfl
  refine ⟨_, rfl, by rw [ap]; omega, .str z, h, .inl ⟨z, rfl, by omega, z, rfl, by rw [ap, ap]; omega, _, rfl, by rw [ap, ap, ap]; omega, q⟩⟩
theorem rnd_p {ft fl fu : Fl} (h : cLt (ptI 0) ft = true) : rnd ft fl fu = cLe fu fl := if_pos h
theorem rnd_m {ft fl fu : Fl} (h : cLt (ptI 0) ft = false) : rnd ft fl fu = cLe fl fu := if_neg (by rw [h]; decide)
section
variable {K : PySem.W.Frag} {PL p : Addr} {H : Hp} {v l s u : V} {M : V → Prop}
theorem l_pV (PC : PlanC K PL) (h : PlanAt PL H p v l s) (q : M v) : ∃ a C dx fs v', V.ref p = .ref a ∧ H a = some (.ins C dx fs) ∧ Cls K C ∧ NoAttr K C "value" ∧ fs.lookup ("value" : Str) = some v' ∧ M v' := by
  obtain ⟨dx, h⟩ := h
  exact ⟨p, PL, dx, _, v, rfl, h, PC.cl, PC.nV, by with_unfolding_all rfl, q⟩
theorem l_pL (PC : PlanC K PL) (h : PlanAt PL H p v l s) (q : M l) : ∃ a C dx fs v', V.ref p = .ref a ∧ H a = some (.ins C dx fs) ∧ Cls K C ∧ NoAttr K C "limit" ∧ fs.lookup ("limit" : Str) = some v' ∧ M v' := by
  obtain ⟨dx, h⟩ := h
  exact ⟨p, PL, dx, _, l, rfl, h, PC.cl, PC.nL, by with_unfolding_all rfl, q⟩
theorem l_pS (PC : PlanC K PL) (h : PlanAt PL H p v l s) (q : M s) : ∃ a C dx fs v', V.ref p = .ref a ∧ H a = some (.ins C dx fs) ∧ Cls K C ∧ NoAttr K C "step" ∧ fs.lookup ("step" : Str) = some v' ∧ M v' := by
  obtain ⟨dx, h⟩ := h
  exact ⟨p, PL, dx, _, s, rfl, h, PC.cl, PC.nS, by with_unfolding_all rfl, q⟩
theorem pfs_none {m : Str} (h1 : (m == ("value" : Str)) = false) (h2 : (m == ("limit" : Str)) = false) (h3 : (m == ("step" : Str)) = false) : (pfs v l s).lookup m = none := by
  unfold pfs
  rw [List.lookup_cons, h1, List.lookup_cons, h2, List.lookup_cons, h3]
  rfl
/-- a method of a plan is called -/
theorem l_mth {sp : Sp} {m : Str} {ta : TE} {t : TA} {σ : St} {Q : VK} {E : XK} (h : ta σ H fun x H1 => ∃ a dx fs, x = .ref a ∧ H1 a = some (.ins PL dx fs) ∧ fs.lookup m = none ∧ t σ H1 fun vs H2 => sp (x :: (vs ++ [])) H2 Q E) : tMeth PL m sp [] E ta t σ H Q := h
theorem l_mthP {m : Str} {N : Prop} (h : PlanAt PL H p v l s) (hm : (pfs v l s).lookup m = none) (q : N) : ∃ a dx fs, V.ref p = .ref a ∧ H a = some (.ins PL dx fs) ∧ fs.lookup m = none ∧ N := by
  obtain ⟨dx, h⟩ := h
  exact ⟨p, dx, _, rfl, h, hm, q⟩
/-- its value is stored -/
theorem l_pset {M : Hp → Prop} (PC : PlanC K PL) (h : PlanAt PL H p v l s) (q : ∀ H', Frm p H H' → PlanAt PL H' p u l s → M H') : ∃ a C dx fs, V.ref p = .ref a ∧ H a = some (.ins C dx fs) ∧ Cls K C ∧ NoAttr K C "value" ∧ fs.length < 1000 ∧ M (upd H a (.ins C dx (putF "value" u fs))) := by
  obtain ⟨dx, h⟩ := h
  exact ⟨p, PL, dx, _, rfl, h, PC.cl, PC.nV, by show 3 < 1000; decide, q _ (fun b o hb e => by rw [upd_ne hb]; exact e) ⟨dx, by rw [upd_same]; congr 1⟩⟩
end
theorem Frm.of {p : Addr} {H H' H2 : Hp} (e : Same H H') (f : Frm p H' H2) : Frm p H H2 := fun b o hb h => f b o hb (e b o h)
/-- the rest of the floats stays -/
theorem FltF.frm {C PL p : Addr} {H H' : Hp} {x : Addr} {f : Fl} {v l s : V} (h : FltF C H x f) (hp : PlanAt PL H p v l s) (ne : ¬ PL = C) (e : Frm p H H') : FltF C H' x f := by
  obtain ⟨dx, hp⟩ := hp
  have key : ∀ {s t p'}, Flt C H x s t p' → Flt C H' x s t p' := fun h => by
    obtain ⟨dy, hx⟩ := h
    refine ⟨dy, e _ _ (fun z => ?_) hx⟩
    rw [z, hp] at hx
    cases hx
  cases f <;> exact key h
theorem nb_t {b : Bool} (h : (!b) = true) : b = false := by cases b <;> simp_all
theorem nb_f {b : Bool} (h : (!b) = false) : b = true := by cases b <;> simp_all
section
variable {C : Addr} {H : Hp} {v : V} {s l t k : Kv}
theorem KvOk.num (h : KvOk C H v k) (n : k.isO = false) : NmV C H v k.fl ∧ Nv C H v k.toF ∧ k.toF.ok := by
  cases k with
  | i m =>
    obtain ⟨rfl, h1, h2⟩ := h
    exact ⟨nm_int (by omega) (by omega), nv_int (by omega) (by omega), toF_ok m⟩
  | f g =>
    obtain ⟨x, rfl, hx, hk⟩ := h
    exact ⟨nm_ref hx hk, nv_ref hx hk, hk⟩
  | o => cases n
theorem errF_l (h : l.isO = true) : errF s l t = some (msgN "limit") := if_pos h
theorem errF_t (h : l.isO = false) (h2 : t.isO = true) : errF s l t = some (msgN "step") := (if_neg (by rw [h]; decide)).trans (if_pos h2)
theorem errF_s (h : l.isO = false) (h2 : t.isO = false) (h3 : s.isO = true) : errF s l t = some (msgN "initial value") := (if_neg (by rw [h]; decide)).trans ((if_neg (by rw [h2]; decide)).trans (if_pos h3))
theorem errF_z (h : l.isO = false) (h2 : t.isO = false) (h3 : s.isO = false) (h4 : zeroF t.toF = true) : errF s l t = some "'for' step is zero" := (if_neg (by rw [h]; decide)).trans ((if_neg (by rw [h2]; decide)).trans ((if_neg (by rw [h3]; decide)).trans (if_pos h4)))
theorem errF_n (h : l.isO = false) (h2 : t.isO = false) (h3 : s.isO = false) (h4 : zeroF t.toF = false) : errF s l t = none := (if_neg (by rw [h]; decide)).trans ((if_neg (by rw [h2]; decide)).trans ((if_neg (by rw [h3]; decide)).trans (if_neg (by rw [h4]; decide))))
theorem errI_z {b : Int} (h : b = 0) : errI b l = some "'for' step is zero" := if_pos h
theorem errI_l {b : Int} (h : ¬ b = 0) (h2 : l.isO = true) : errI b l = some (msgN "limit") := (if_neg h).trans (if_pos h2)
theorem errI_n {b : Int} (h : ¬ b = 0) (h2 : l.isO = false) : errI b l = none := (if_neg h).trans (if_neg (by rw [h2]; decide))
theorem cEq_int0 {n : Int} : cEq (ptI n) (ptI 0) = decide (n = 0) := by
  unfold cEq
  rw [cLe_int, cLe_int, Bool.eq_iff_iff]
  simp
  omega
theorem cEq_zeroF {f : Fl} (k : f.ok) : cEq f (ptI 0) = zeroF f := by
  rw [eq_zero k]
  cases f <;> rfl
end
theorem NoN.isA {K : PySem.W.Frag} {H : Hp} {v : V} (h : NoN v) : ∃ ak, IsA K H v ak ∧ ak.isI = false := by
  rcases h with rfl | ⟨b, rfl⟩ | ⟨z, rfl⟩
  · exact ⟨_, isA_non, rfl⟩
  · exact ⟨_, isA_bl, rfl⟩
  · exact ⟨_, isA_str, rfl⟩
theorem l_isIntO {K : PySem.W.Frag} {H : Hp} {Q : VK} {E : XK} {v : V} (h : NoN v) (q : Q (.bl false) H) : spIsInt K ([v] ++ []) H Q E := by
  obtain ⟨ak, ha, hf⟩ := h.isA (K := K) (H := H)
  exact l_isInt ha (by rw [hf]; exact q)
/-! ### a list that grows -/
section
variable {K : PySem.W.Frag} {T : String} {r : V → List V → Hp → VK → Prop} {to : TE} {t : TA} {σ : St} {H : Hp} {Q : VK} {p : Addr} {xs : List V} {v : V} {N : Prop}
theorem l_bm (h : to σ H fun x H1 => tyV K T x H1 ∧ t σ H1 fun xs H2 => r x xs H2 Q) : tBM K T r to t σ H Q := h
theorem l_tyL (h : H p = some (.lst xs)) (q : N) : tyV K "list" (.ref p) H ∧ N := ⟨.inl ⟨rfl, xs, .of h⟩, q⟩
theorem l_app (h : H p = some (.lst xs)) (hl : xs.length < sizeLine) (q : ∀ H', Frm p H H' → H' p = some (.lst (xs ++ [v])) → Q .non H') : rAppend (.ref p) [v] H Q := ⟨p, xs, v, rfl, rfl, h, hl, q _ (fun b o hb e => by rw [upd_ne hb]; exact e) upd_same⟩
end
theorem same_frm {p : Addr} {H H' H2 : Hp} (e : Same H H') (hp : H p = none) (f : Frm p H' H2) : Same H H2 := fun b o h => f b o (ne_of_none h hp) (e b o h)
theorem FltF.frmL {C p : Addr} {H H' : Hp} {x : Addr} {f : Fl} {xs : List V} (h : FltF C H x f) (hp : H p = some (.lst xs)) (e : Frm p H H') : FltF C H' x f := by
  have key : ∀ {s t p'}, Flt C H x s t p' → Flt C H' x s t p' := fun h => by
    obtain ⟨dy, hx⟩ := h
    refine ⟨dy, e _ _ (fun z => ?_) hx⟩
    rw [z, hp] at hx
    cases hx
  cases f <;> exact key h
theorem MatF.keep {C : Addr} {H H' : Hp} (k : ∀ x f, FltF C H x f → FltF C H' x f) : ∀ {vs : List V} {fs : List Fl}, MatF C H vs fs → MatF C H' vs fs
  | [], [], _ => True.intro
  | v :: vs, f :: fs, ⟨⟨x, e, hx, hk⟩, h⟩ => ⟨⟨x, e, k x f hx, hk⟩, MatF.keep k h⟩
theorem MatF.snoc {C : Addr} {H : Hp} {x : Addr} {f : Fl} (hx : FltF C H x f) (hk : f.ok) : ∀ {vs : List V} {fs : List Fl}, MatF C H vs fs → MatF C H (vs ++ [.ref x]) (fs ++ [f])
  | [], [], _ => ⟨⟨x, rfl, hx, hk⟩, True.intro⟩
  | v :: vs, g :: fs, ⟨h1, h⟩ => ⟨h1, MatF.snoc hx hk h⟩
theorem MatF.len {C : Addr} {H : Hp} : ∀ {vs : List V} {fs : List Fl}, MatF C H vs fs → vs.length = fs.length
  | [], [], _ => rfl
  | v :: vs, g :: fs, ⟨_, h⟩ => congrArg Nat.succ (MatF.len h)
theorem PlanAt.frmL {PL p r : Addr} {H H' : Hp} {v l s : V} {xs : List V} (h : PlanAt PL H p v l s) (hr : H r = some (.lst xs)) (e : Frm r H H') : PlanAt PL H' p v l s := by
  obtain ⟨dx, h⟩ := h
  refine ⟨dx, e _ _ (fun z => ?_) h⟩
  rw [z, hr] at h
  cases h
theorem lst_frm {PL p r : Addr} {H H' : Hp} {v l s : V} {xs : List V} (hr : H r = some (.lst xs)) (h : PlanAt PL H p v l s) (e : Frm p H H') : H' r = some (.lst xs) := by
  obtain ⟨dx, h⟩ := h
  refine e _ _ (fun z => ?_) hr
  rw [z, h] at hr
  cases hr
/-! ### what comes of a loop -/
section
variable {C : Addr} {H : Hp} {s l t : Kv} {z : Str} {a b : Int} {r : Addr} {xs : List V}
theorem outI_err (h : errI b l = some z) : OutAt C H (.str z) l (.i a) (.i b) := by
  show (match errI b l with | some m => V.str z = .str m | none => ∃ r, V.str z = .ref r ∧ H r = some (.lst ((rI l.fl b 12 a).map V.int)))
  rw [h]
theorem outI_ok (h : errI b l = none) (hr : H r = some (.lst ((rI l.fl b 12 a).map V.int))) : OutAt C H (.ref r) l (.i a) (.i b) := by
  show (match errI b l with | some m => V.ref r = .str m | none => ∃ r', V.ref r = .ref r' ∧ H r' = some (.lst ((rI l.fl b 12 a).map V.int)))
  rw [h]
  exact ⟨r, rfl, hr⟩
theorem outF_eq {v : V} (hn : ∀ m n, ¬ (s = .i m ∧ t = .i n)) : OutAt C H v l s t = (match errF s l t with | some m => v = .str m | none => ∃ r xs, v = .ref r ∧ H r = some (.lst xs) ∧ MatF C H xs (rF l.toF t.toF 12 s.toF)) := by
  cases s with
  | i m =>
    cases t with
    | i n => exact absurd ⟨rfl, rfl⟩ (hn m n)
    | f g => rfl
    | o => rfl
  | f g => rfl
  | o => rfl
theorem outF_err (hn : ∀ m n, ¬ (s = .i m ∧ t = .i n)) (h : errF s l t = some z) : OutAt C H (.str z) l s t := by
  rw [outF_eq hn, h]
theorem outF_ok (hn : ∀ m n, ¬ (s = .i m ∧ t = .i n)) (h : errF s l t = none) (hr : H r = some (.lst xs)) (hm : MatF C H xs (rF l.toF t.toF 12 s.toF)) : OutAt C H (.ref r) l s t := by
  rw [outF_eq hn, h]
  exact ⟨r, xs, rfl, hr, hm⟩
end
def spNumK (C : Addr) : Sp := fun vs H Q _ => ∃ w : Addr, vs = [.ref w] ∧ Well w H ∧ ∀ v k H', Ex w H H' → KvOk C H' v k → k.isO = false → Q v H'
theorem l_numK {C w : Addr} {H : Hp} {Q : VK} {E : XK} (hw : Well w H) (q : ∀ v k H', Ex w H H' → KvOk C H' v k → k.isO = false → Q v H') : spNumK C ([.ref w] ++ []) H Q E := ⟨w, rfl, hw, q⟩
theorem stepI {fl : Fl} {t cur : Int} {acc R : List Int} (hl : acc.length < 12) (h : fitsI cur ∧ rnd (ptI t) fl (ptI cur) = true) (e : acc ++ rI fl t (12 - acc.length) cur = R) : (acc ++ [cur]) ++ rI fl t (12 - (acc ++ [cur]).length) (cur + t) = R := by
  rw [show 12 - acc.length = (11 - acc.length) + 1 by omega, rI_s h] at e
  rw [List.length_append, show 12 - (acc.length + [cur].length) = 11 - acc.length by simp <;> omega, List.append_assoc]
  exact e
theorem stepI0 {fl : Fl} {t cur : Int} {acc R : List Int} (hl : acc.length < 12) (h : fitsI cur ∧ rnd (ptI t) fl (ptI cur) = true) (e : acc ++ rI fl t (12 - acc.length) cur = R) (hn : ¬ (fitsI (cur + t) ∧ rnd (ptI t) fl (ptI (cur + t)) = true)) : acc ++ [cur] = R := by
  have z := stepI hl h e
  rw [rI_n hn, List.append_nil] at z
  exact z
theorem endIl {fl : Fl} {t cur : Int} {acc R : List Int} (hl : acc.length ≤ 12) (hl2 : ¬ acc.length < 12) (e : acc ++ rI fl t (12 - acc.length) cur = R) : acc = R := by
  rw [show 12 - acc.length = 0 by omega] at e
  exact (List.append_nil acc).symm.trans e
theorem stepF {fl ft cur : Fl} {acc R : List Fl} (hl : acc.length < 12) (h : ft.isNan = false ∧ rnd ft fl cur = true) (e : acc ++ rF fl ft (12 - acc.length) cur = R) : (acc ++ [cur]) ++ rF fl ft (12 - (acc ++ [cur]).length) (addF cur ft) = R := by
  rw [show 12 - acc.length = (11 - acc.length) + 1 by omega, rF_s h] at e
  rw [List.length_append, show 12 - (acc.length + [cur].length) = 11 - acc.length by simp <;> omega, List.append_assoc]
  exact e
theorem stepF0 {fl ft cur : Fl} {acc R : List Fl} (hl : acc.length < 12) (h : ft.isNan = false ∧ rnd ft fl cur = true) (e : acc ++ rF fl ft (12 - acc.length) cur = R) (hn : ¬ (ft.isNan = false ∧ rnd ft fl (addF cur ft) = true)) : acc ++ [cur] = R := by
  have z := stepF hl h e
  rw [rF_n hn, List.append_nil] at z
  exact z
theorem endFl {fl ft cur : Fl} {acc R : List Fl} (hl : acc.length ≤ 12) (hl2 : ¬ acc.length < 12) (e : acc ++ rF fl ft (12 - acc.length) cur = R) : acc = R := by
  rw [show 12 - acc.length = 0 by omega] at e
  exact (List.append_nil acc).symm.trans e
theorem map_snoc {acc : List Int} {x : Int} : acc.map V.int ++ [V.int x] = (acc ++ [x]).map V.int := by rw [List.map_append]; rfl
theorem errF_none {s l t : Kv} (h : errF s l t = none) : l.isO = false ∧ t.isO = false ∧ s.isO = false := by
  unfold errF at h
  cases h1 : l.isO <;> cases h2 : t.isO <;> cases h3 : s.isO <;> rw [h1, h2, h3] at h <;> simp at h ⊢
/-! ## the law's side -/
def Fl.sg : Fl → Int
  | .fin s _ _ => s | .inf s => s | .nan => 1
def Fl.tv : Fl → V
  | .fin _ t _ => .int t | .inf _ => .str "inf" | .nan => .str "nan"
def Fl.pw : Fl → Int
  | .fin _ _ p => p | _ => 0
theorem fltF_gen {C : Addr} {H : Hp} {x : Addr} {f : Fl} (h : FltF C H x f) : Flt C H x f.sg f.tv f.pw := by cases f <;> exact h
theorem tv_flat (f : Fl) : flatV f.tv = true := by cases f <;> rfl
theorem tv_nan (f : Fl) : eqV f.tv (.str "nan") = f.isNan := by
  cases f with
  | fin s t p => rfl
  | inf s => exact (by decide +kernel : (("inf" : Str) == ("nan" : Str)) = false)
  | nan => exact (by decide +kernel : (("nan" : Str) == ("nan" : Str)) = true)
theorem l_niNan {K : PySem.W.Frag} {H : Hp} {Q : VK} {p : Addr} {f g h : Fl} (hp : SqT K H p [f.tv, g.tv, h.tv]) (q : Q (.bl (!(f.isNan || (g.isNan || h.isNan)))) H) : rIn K true (.str "nan") (.ref p) H Q := by
  refine ⟨p, _, rfl, .inr hp, rfl, ?_, ?_⟩
  · simp only [List.all_cons, List.all_nil, tv_flat]
    rfl
  · have e : inV (.str "nan") [f.tv, g.tv, h.tv] = (f.isNan || (g.isNan || h.isNan)) := by
      unfold inV
      simp only [List.any_cons, List.any_nil, tv_nan, Bool.or_false]
    rw [if_pos rfl, e]
    exact q
theorem l_eqTv {H : Hp} {Q : VK} {f : Fl} (q : Q (.bl (zeroF f)) H) : rEq f.tv (.int 0) H Q := by
  cases f with
  | fin s t p =>
    refine ⟨rfl, ?_⟩
    have e : decide (V.int t = V.int 0) = decide (t = 0) := decide_eq_decide.mpr ⟨V.int.inj, congrArg V.int⟩
    show Q (.bl (decide (V.int t = V.int 0))) H
    rw [e]
    exact q
  | inf s => exact ⟨rfl, q⟩
  | nan => exact ⟨rfl, q⟩
/-- the way of the rounds, by the sign -/
theorem rnd_sg {ft fl fu : Fl} (k : ft.ok) (z : zeroF ft = false) (n : ft.isNan = false) : rnd ft fl fu = if 0 < ft.sg then cLe fu fl else cLe fl fu := by
  have e : cLt (ptI 0) ft = decide (0 < ft.sg) := by
    cases ft with
    | nan => cases n
    | inf s => exact pos_sgn k (.inr rfl)
    | fin s t p => exact pos_sgn k (.inl ⟨t, p, rfl, of_decide_eq_false z⟩)
  unfold rnd
  rw [e]
  by_cases h : 0 < ft.sg
  · rw [if_pos h, if_pos (decide_eq_true h)]
  · rw [if_neg h, if_neg (by rw [decide_eq_false h]; decide)]
theorem rnd_int {t : Int} {fl fu : Fl} : rnd (ptI t) fl fu = if 0 < t then cLe fu fl else cLe fl fu := by
  unfold rnd
  rw [cLt_int]
  by_cases h : 0 < t
  · rw [if_pos h, if_pos (decide_eq_true h)]
  · rw [if_neg h, if_neg (by rw [decide_eq_false h]; decide)]
theorem rF_nn {fl ft : Fl} : ∀ (k : Nat) (s : Fl), ∀ f ∈ rF fl ft k s, f.isNan = false
  | 0, _, f, h => by cases h
  | k + 1, s, f, h => by
    by_cases c : ft.isNan = false ∧ rnd ft fl s = true
    · rw [rF_s c] at h
      rcases List.mem_cons.mp h with e | h
      · rw [e]
        exact (rnd_nan c.2).2
      · exact rF_nn k _ f h
    · rw [rF_n c] at h
      cases h
theorem cEq_refl {f : Fl} (h : f.isNan = false) : cEq f f = true := by
  have e : ltFl f f = false := by
    cases f with
    | nan => cases h
    | inf s => exact decide_eq_false (Int.lt_irrefl s)
    | fin s t p => exact decide_eq_false (Int.lt_irrefl _)
  unfold cEq cLe
  rw [h, e]
  rfl
theorem msg_limit : msgN "limit" = ("'for' limit must be a number" : Str) := by decide +kernel
theorem msg_step : msgN "step" = ("'for' step must be a number" : Str) := by decide +kernel
theorem msg_start : msgN "initial value" = ("'for' initial value must be a number" : Str) := by decide +kernel
def spIsNumL (C : Addr) : Sp := fun vs H Q _ => ∃ v k, vs = [v] ∧ KvOk C H v k ∧ Q (.bl (!k.isO)) H
theorem l_isNumN {C : Addr} {H : Hp} {Q : VK} {E : XK} {v : V} {k : Kv} (h : KvOk C H v k) (n : k.isO = false) (q : Q (.bl true) H) : spIsNumL C ([v] ++ []) H Q E := ⟨v, k, rfl, h, by rw [n]; exact q⟩
theorem l_isNumI {C : Addr} {H : Hp} {Q : VK} {E : XK} {n : Int} (h : fitsI n) (q : Q (.bl true) H) : spIsNumL C ([.int n] ++ []) H Q E := ⟨.int n, .i n, rfl, ⟨rfl, h⟩, q⟩
theorem l_isNumF {C : Addr} {H : Hp} {Q : VK} {E : XK} {x : Addr} {f : Fl} (h : FltF C H x f) (k : f.ok) (q : Q (.bl true) H) : spIsNumL C ([.ref x] ++ []) H Q E := ⟨.ref x, .f f, rfl, ⟨x, rfl, h, k⟩, q⟩
theorem l_isNumO {C : Addr} {H : Hp} {Q : VK} {E : XK} {v : V} (h : NoN v) (q : Q (.bl false) H) : spIsNumL C ([v] ++ []) H Q E := ⟨v, .o, rfl, h, q⟩
theorem KvOk.same {C : Addr} {H H' : Hp} {v : V} {k : Kv} (h : KvOk C H v k) (e : Same H H') : KvOk C H' v k := by
  cases k with
  | i n => exact h
  | f g =>
    obtain ⟨x, h1, h2, h3⟩ := h
    exact ⟨x, h1, h2.same e, h3⟩
  | o => exact h
theorem KvOk.ex {C w : Addr} {H H' : Hp} {v : V} {k : Kv} (h : KvOk C H v k) (e : Ex w H H') : KvOk C H' v k := by
  cases k with
  | i n => exact h
  | f g =>
    obtain ⟨x, h1, h2, h3⟩ := h
    exact ⟨x, h1, h2.ex e, h3⟩
  | o => exact h
/-- the rounds that are due, of ints -/
def spDueI (C : Addr) : Sp := fun vs H Q _ => ∃ (a n : Int) (b : V) (l : Kv), vs = [.int a, b, .int n] ∧ fitsI a ∧ fitsI n ∧ KvOk C H b l ∧ ∀ v H', Same H H' → OutAt C H' v l (.i a) (.i n) → Q v H'
theorem l_outS {C : Addr} {H : Hp} {Q : VK} {E : XK} {a b c : V} {s l t : Kv} (ha : KvOk C H a s) (hb : KvOk C H b l) (hc : KvOk C H c t) (q : ∀ v H', Same H H' → OutAt C H' v l s t → Q v H') : spOut C ([a, b, c] ++ []) H Q E := ⟨a, b, c, s, l, t, rfl, ha, hb, hc, q⟩
theorem l_dueI {C : Addr} {H : Hp} {Q : VK} {E : XK} {a n : Int} {b : V} {l : Kv} (ha : fitsI a) (hn : fitsI n) (hb : KvOk C H b l) (q : ∀ v H', Same H H' → OutAt C H' v l (.i a) (.i n) → Q v H') : spDueI C ([.int a, b, .int n] ++ []) H Q E := ⟨a, n, b, l, rfl, ha, hn, hb, q⟩
/-- both tell the same -/
def spAlike (C : Addr) : Sp := fun vs H Q _ => ∃ (v u : V) (s l t : Kv), vs = [v, u] ∧ OutAt C H v l s t ∧ OutAt C H u l s t ∧ ∀ H', Same H H' → Q (.bl true) H'
theorem l_alike {C : Addr} {H : Hp} {Q : VK} {E : XK} {v u : V} {s l t : Kv} (h : OutAt C H v l s t) (h' : OutAt C H u l s t) (q : ∀ H', Same H H' → Q (.bl true) H') : spAlike C ([v, u] ++ []) H Q E := ⟨v, u, s, l, t, rfl, h, h', q⟩
theorem OutAt.same {C : Addr} {H H' : Hp} {v : V} {s l t : Kv} (h : OutAt C H v l s t) (e : Same H H') : OutAt C H' v l s t := by
  by_cases hi : ∃ m n, s = .i m ∧ t = .i n
  · obtain ⟨m, n, rfl, rfl⟩ := hi
    cases he : errI n l with
    | some z =>
      have h2 : (match errI n l with | some m => v = .str m | none => ∃ r, v = .ref r ∧ H r = some (.lst ((rI l.fl n 12 m).map V.int))) := h
      rw [he] at h2
      rw [h2]
      exact outI_err he
    | none =>
      have h2 : (match errI n l with | some m => v = .str m | none => ∃ r, v = .ref r ∧ H r = some (.lst ((rI l.fl n 12 m).map V.int))) := h
      rw [he] at h2
      obtain ⟨r, h3, hr⟩ := h2
      rw [h3]
      exact outI_ok he (e _ _ hr)
  · have hn : ∀ m n, ¬ (s = .i m ∧ t = .i n) := fun m n h => hi ⟨m, n, h⟩
    rw [outF_eq hn] at h
    cases he : errF s l t with
    | some z =>
      rw [he] at h
      rw [h]
      exact outF_err hn he
    | none =>
      rw [he] at h
      obtain ⟨r, xs, h3, hr, hm⟩ := h
      rw [h3]
      exact outF_ok hn he (e _ _ hr) (hm.keep fun _ _ z => z.same e)
/-! ### a conditional expression as a test; kinds that isinstance tells -/
def tIfT (c t u : TT) : TT := fun σ H Q => c σ H fun b H1 => if b = true then t σ H1 Q else u σ H1 Q
theorem pt_ifT {X : Cx} {c a b : Expr} {tc ta tb : TT} {pos : Pos} (hc : PT X c tc) (ha : PT X a ta) (hb : PT X b tb) : PT X (.IfExp c a b pos) (tIfT tc ta tb) := by
  refine ⟨fun pins s σ H Q I h => ?_⟩
  unfold PySem.isTrue
  refine wpAny_bind (thn (hc.run pins s σ H _ I h) fun d s1 ⟨H1, I1, q1⟩ => ?_)
  cases d with
  | true => exact ha.run pins s1 σ H1 Q I1 q1
  | false => exact hb.run pins s1 σ H1 Q I1 q1
theorem l_ifT {c t u : TT} {σ : St} {H : Hp} {Q : Bool → Hp → Prop} (h : c σ H fun b H1 => if b = true then t σ H1 Q else u σ H1 Q) : tIfT c t u σ H Q := h
section
variable {K : PySem.W.Frag} {H : Hp} {Q : VK} {i : Int} {b : Bool} {z : Str}
theorem l_isIB (q : Q (.bl false) H) : rIsi K [.int i, .ty "bool"] H Q := l_isi (ClsV.ty _) (TyX.base (TyOf.int i)) (kit_ty (by decide +kernel)) q
theorem l_isNoI (q : Q (.bl false) H) : rIsi K [.non, .ty "int"] H Q := l_isi (ClsV.ty _) (TyX.base TyOf.non) (kit_ty (by decide +kernel)) q
theorem l_isBI (q : Q (.bl true) H) : rIsi K [.bl b, .ty "int"] H Q := l_isi (ClsV.ty _) (TyX.base (TyOf.bl b)) (kit_ty (by decide +kernel)) q
theorem l_isStI (q : Q (.bl false) H) : rIsi K [.str z, .ty "int"] H Q := l_isi (ClsV.ty _) (TyX.base (TyOf.str z)) (kit_ty (by decide +kernel)) q
end
theorem endRI {fl : Fl} {t cur : Int} {k : Nat} {acc R : List Int} (e : acc ++ rI fl t k cur = R) (hn : ¬ (fitsI cur ∧ rnd (ptI t) fl (ptI cur) = true)) : acc = R := by
  rw [rI_n hn, List.append_nil] at e
  exact e
theorem endRF {fl ft cur : Fl} {k : Nat} {acc R : List Fl} (e : acc ++ rF fl ft k cur = R) (hn : ¬ (ft.isNan = false ∧ rnd ft fl cur = true)) : acc = R := by
  rw [rF_n hn, List.append_nil] at e
  exact e
theorem rndI_p {t : Int} {fl fu : Fl} (h : 0 < t) : rnd (ptI t) fl fu = cLe fu fl := by rw [rnd_int, if_pos h]
theorem rndI_m {t : Int} {fl fu : Fl} (h : ¬ 0 < t) : rnd (ptI t) fl fu = cLe fl fu := by rw [rnd_int, if_neg h]
theorem rndF_p {ft fl fu : Fl} (k : ft.ok) (z : zeroF ft = false) (n : ft.isNan = false) (h : 0 < ft.sg) : rnd ft fl fu = cLe fu fl := by rw [rnd_sg k z n, if_pos h]
theorem rndF_m {ft fl fu : Fl} (k : ft.ok) (z : zeroF ft = false) (n : ft.isNan = false) (h : ¬ 0 < ft.sg) : rnd ft fl fu = cLe fl fu := by rw [rnd_sg k z n, if_neg h]
theorem nt_t {b : Bool} (h : (!b) = true) : ¬ b = true := by cases b <;> simp_all
theorem nt_f {b : Bool} (h : (!b) = false) : b = true := by cases b <;> simp_all
theorem frm_s {p : Addr} {H H1 H2 : Hp} (e : Same H H1) (f : Frm p H1 H2) : Frm p H H2 := fun b o hb h => f b o hb (e b o h)
/-! ### what is due -/
def Kv.isI : Kv → Bool
  | .i _ => true
  | _ => false
theorem l_isK {K : PySem.W.Frag} {C : Addr} {H : Hp} {Q : VK} {v : V} {k : Kv} (F : FloC K C) (h : KvOk C H v k) (n : k.isO = false) (q : Q (.bl k.isI) H) : rIsi K [v, .ty "int"] H Q := by
  cases k with
  | i m =>
    obtain ⟨rfl, -⟩ := h
    exact l_isII q
  | f g =>
    obtain ⟨x, rfl, hx, -⟩ := h
    exact l_isi (ClsV.ty _) (F.tyX (fltF_gen hx)) F.kI q
  | o => cases n
def rAdW : R2 := fun x y H Q => ∃ i j, x = .str i ∧ y = .str j ∧ i.length + j.length ≤ sizeLine ∧ Q (.str (i ++ j)) H
theorem op_adW {X : Cx} : OpR X (binaryOp .Add) rAdW := op_add_str
theorem l_adW {H : Hp} {Q : VK} {i j : Str} (hi : i.length ≤ 100) (hj : j.length ≤ 100) (q : Q (.str (i ++ j)) H) : rAdW (.str i) (.str j) H Q := ⟨i, j, rfl, rfl, by rw [sizeLine_eq]; omega, q⟩
theorem for_idx {K : PySem.W.Frag} {a : Addr} {xs : List V} {g : TG} {tb : TS} {D : Ends} {σ0 : St} {H1 : Hp} (S : Nat → St → Prop) (ha : H1 a = some (.lst xs)) (h0 : S 0 σ0)
    (step : ∀ (i : Nat) x, xs[i]? = some x → ∀ σ, S i σ → ∀ H, Same H1 H → g x σ H fun σ2 H2 => tb { D with nx := fun σ' H' => S (i + 1) σ' ∧ Same H1 H', ct := fun σ' H' => S (i + 1) σ' ∧ Same H1 H', bk := D.nx } σ2 H2)
    (hd : ∀ σ, S xs.length σ → ∀ H, Same H1 H → D.nx σ H) : ∃ W : Nat → Nat → St → Hp → Prop, (∃ m, W 0 m σ0 H1) ∧ ∀ i m σ H, W i m σ H →
      ((Itl K a).stop i H ∧ D.nx σ H) ∨ ((Itl K a).go i H ∧ ∃ N : St → Hp → Prop, (∀ σ' H', N σ' H' → ∃ m', m' < m ∧ W (i + 1) m' σ' H') ∧ ∀ x H', (Itl K a).yld i H x H' → g x σ H' fun σ2 H2 => tb { D with nx := N, ct := N, bk := D.nx } σ2 H2) := by
  refine for_list (xs := xs) (fun i σ H => S i σ ∧ Same H1 H) ⟨h0, Same.refl _⟩ ?_ ?_ ?_
  · rintro i σ H _ ⟨_, sm⟩
    exact SqL.of (sm _ _ ha)
  · rintro i x σ H hx ⟨hs, sm⟩
    exact step i x hx σ hs H sm
  · rintro σ H ⟨hs, sm⟩
    exact hd σ hs H sm
theorem msg_limit' : (("'for' " : Str) ++ "limit") ++ " must be a number" = msgN "limit" := by decide +kernel
theorem msg_step' : (("'for' " : Str) ++ "step") ++ " must be a number" = msgN "step" := by decide +kernel
theorem msg_start' : (("'for' " : Str) ++ "initial value") ++ " must be a number" = msgN "initial value" := by decide +kernel
theorem KvOk.non {C : Addr} {H : Hp} {v : V} {k : Kv} (h : KvOk C H v k) (n : k.isO = true) : NoN v := by
  cases k with
  | i m => cases n
  | f g => cases n
  | o => exact h
theorem Kv.isI_of {k : Kv} (h : k.isI = true) : ∃ m, k = .i m := by
  cases k with
  | i m => exact ⟨m, rfl⟩
  | f g => cases h
  | o => cases h
theorem bft (b : Bool) : b = false ∨ b = true := by cases b <;> simp
theorem nan3_t {a b c : Bool} (h : (!(a || (b || c))) = true) : a = false ∧ b = false ∧ c = false := by cases a <;> cases b <;> cases c <;> simp_all
theorem nan3_f {a b c : Bool} (h : (!(a || (b || c))) = false) : a = true ∨ b = true ∨ c = true := by cases a <;> cases b <;> cases c <;> simp_all
theorem rF_nan3 {ft fl fu : Fl} (h : fu.isNan = true ∨ fl.isNan = true ∨ ft.isNan = true) : ¬ (ft.isNan = false ∧ rnd ft fl fu = true) := by
  rintro ⟨a, b⟩
  obtain ⟨d, e⟩ := rnd_nan b
  rcases h with h | h | h
  · exact absurd (h.symm.trans e) (by decide)
  · exact absurd (h.symm.trans d) (by decide)
  · exact absurd (h.symm.trans a) (by decide)
/-! ### both rows -/
theorem l_iZip {K : PySem.W.Frag} {ta : TA} {σ : St} {H : Hp} {R : It → Hp → Prop} (h : ta σ H fun vs H1 => ∃ a b xs ys, vs = [.ref a, .ref b] ∧ SqL K H1 a xs ∧ SqL K H1 b ys ∧ R (Itz K a b) H1) : iZip K ta σ H R := h
/-- a loop over two lists at once -/
theorem for_zipL {K : PySem.W.Frag} {a b : Addr} {xs ys : List V} {g : TG} {tb : TS} {D : Ends} {σ0 : St} {H1 : Hp} (S : St → Prop) (ha : H1 a = some (.lst xs)) (hb : H1 b = some (.lst ys)) (hl : xs.length = ys.length) (h0 : S σ0)
    (step : ∀ (i : Nat) x y, xs[i]? = some x → ys[i]? = some y → ∀ σ, S σ → ∀ T H, Same H1 H → H T = some (.tup [x, y]) → g (.ref T) σ H fun σ2 H2 => tb { D with nx := fun σ' H' => S σ' ∧ Same H1 H', ct := fun σ' H' => S σ' ∧ Same H1 H', bk := D.nx } σ2 H2)
    (hd : ∀ σ, S σ → ∀ H, Same H1 H → D.nx σ H) : ∃ W : Nat → Nat → St → Hp → Prop, (∃ m, W 0 m σ0 H1) ∧ ∀ i m σ H, W i m σ H →
      ((Itz K a b).stop i H ∧ D.nx σ H) ∨ ((Itz K a b).go i H ∧ ∃ N : St → Hp → Prop, (∀ σ' H', N σ' H' → ∃ m', m' < m ∧ W (i + 1) m' σ' H') ∧ ∀ x H', (Itz K a b).yld i H x H' → g x σ H' fun σ2 H2 => tb { D with nx := N, ct := N, bk := D.nx } σ2 H2) := by
  refine ⟨fun i m σ H => m = xs.length - i ∧ i ≤ xs.length ∧ S σ ∧ Same H1 H, ⟨xs.length, by simp, Nat.zero_le _, h0, Same.refl _⟩, ?_⟩
  rintro i m σ H ⟨rfl, hi, hS, sm⟩
  have q : SqL K H a xs := SqL.of (sm _ _ ha)
  have q' : SqL K H b ys := SqL.of (sm _ _ hb)
  by_cases hlt : i < xs.length
  · have hlt' : i < ys.length := by omega
    refine .inr ⟨⟨xs, ys, xs[i], ys[i], q, q', by simp [hlt], by simp [hlt']⟩, fun σ' H' => S σ' ∧ Same H1 H', fun σ' H' p' => ⟨xs.length - (i + 1), by omega, rfl, hlt, p'⟩, fun x H' y => ?_⟩
    obtain ⟨T, z, z', rfl, hT, rfl, hz, hz'⟩ := y
    exact step i z z' (hz xs q) (hz' ys q') σ hS T _ (sm.trans (sameUpd hT)) upd_same
  · have e : i = xs.length := by omega
    subst e
    exact .inl ⟨⟨xs, ys, q, q', .inl (Nat.le_refl _)⟩, hd σ hS H sm⟩
/-- two that are the same, one of each row -/
def PairK (C : Addr) (H : Hp) (x y : V) : Prop := (∃ n, x = .int n ∧ y = .int n ∧ fitsI n) ∨ ∃ a b f, x = .ref a ∧ y = .ref b ∧ FltF C H a f ∧ FltF C H b f ∧ f.ok ∧ f.isNan = false
theorem PairK.same {C : Addr} {H H' : Hp} {x y : V} (h : PairK C H x y) (e : Same H H') : PairK C H' x y := by
  rcases h with h | ⟨a, b, f, h1, h2, h3, h4, h5⟩
  · exact .inl h
  · exact .inr ⟨a, b, f, h1, h2, h3.same e, h4.same e, h5⟩
theorem rI_fits {fl : Fl} {t : Int} : ∀ (k : Nat) (s : Int), ∀ n ∈ rI fl t k s, fitsI n
  | 0, _, n, h => by cases h
  | k + 1, s, n, h => by
    by_cases c : fitsI s ∧ rnd (ptI t) fl (ptI s) = true
    · rw [rI_s c] at h
      rcases List.mem_cons.mp h with e | h
      · rw [e]
        exact c.1
      · exact rI_fits k _ n h
    · rw [rI_n c] at h
      cases h
theorem pairI {C : Addr} {H : Hp} {L : List Int} (hf : ∀ n ∈ L, fitsI n) {i : Nat} {x y : V} (hx : (L.map V.int)[i]? = some x) (hy : (L.map V.int)[i]? = some y) : PairK C H x y := by
  rw [hx] at hy
  cases hy
  rw [List.getElem?_map] at hx
  cases e : L[i]? with
  | none => rw [e] at hx; cases hx
  | some n =>
    rw [e] at hx
    cases hx
    exact .inl ⟨n, rfl, rfl, hf n (List.mem_of_getElem? e)⟩
theorem MatF.at {C : Addr} {H : Hp} : ∀ {vs : List V} {fs : List Fl} {i : Nat} {v : V}, MatF C H vs fs → vs[i]? = some v → ∃ x f, fs[i]? = some f ∧ v = .ref x ∧ FltF C H x f ∧ f.ok
  | [], [], i, v, _, e => by simp at e
  | v' :: vs, f :: fs, 0, v, ⟨⟨x, e', hx, hk⟩, h⟩, e => by
    cases e
    exact ⟨x, f, rfl, e', hx, hk⟩
  | v' :: vs, f :: fs, i + 1, v, ⟨_, h⟩, e => MatF.at (i := i) h e
theorem pairF {C : Addr} {H : Hp} {L : List Fl} (hf : ∀ f ∈ L, f.isNan = false) {xs ys : List V} (h1 : MatF C H xs L) (h2 : MatF C H ys L) {i : Nat} {x y : V} (hx : xs[i]? = some x) (hy : ys[i]? = some y) : PairK C H x y := by
  obtain ⟨a, f, e, rfl, ha, hk⟩ := h1.at hx
  obtain ⟨b, g, e', rfl, hb, -⟩ := h2.at hy
  rw [e] at e'
  cases e'
  exact .inr ⟨a, b, f, rfl, rfl, ha, hb, hk, hf f (List.mem_of_getElem? e)⟩
/-- what both are: the same text, or two lists of the same -/
theorem outs {C : Addr} {H : Hp} {v u : V} {s l t : Kv} (h1 : OutAt C H v l s t) (h2 : OutAt C H u l s t) :
    (∃ z, v = .str z ∧ u = .str z) ∨ ∃ (r r' : Addr) (xs ys : List V), v = .ref r ∧ u = .ref r' ∧ H r = some (.lst xs) ∧ H r' = some (.lst ys) ∧ xs.length = ys.length ∧ ∀ (i : Nat) x y, xs[i]? = some x → ys[i]? = some y → PairK C H x y := by
  by_cases hi : ∃ m n, s = .i m ∧ t = .i n
  · obtain ⟨m, n, rfl, rfl⟩ := hi
    have e1 : (match errI n l with | some m => v = .str m | none => ∃ r, v = .ref r ∧ H r = some (.lst ((rI l.fl n 12 m).map V.int))) := h1
    have e2 : (match errI n l with | some m => u = .str m | none => ∃ r, u = .ref r ∧ H r = some (.lst ((rI l.fl n 12 m).map V.int))) := h2
    cases he : errI n l with
    | some z =>
      rw [he] at e1 e2
      exact .inl ⟨z, e1, e2⟩
    | none =>
      rw [he] at e1 e2
      obtain ⟨r, rfl, hr⟩ := e1
      obtain ⟨r', rfl, hr'⟩ := e2
      exact .inr ⟨r, r', _, _, rfl, rfl, hr, hr', rfl, fun i x y hx hy => pairI (rI_fits _ _) hx hy⟩
  · have hn : ∀ m n, ¬ (s = .i m ∧ t = .i n) := fun m n h => hi ⟨m, n, h⟩
    rw [outF_eq hn] at h1 h2
    cases he : errF s l t with
    | some z =>
      rw [he] at h1 h2
      exact .inl ⟨z, h1, h2⟩
    | none =>
      rw [he] at h1 h2
      obtain ⟨r, xs, rfl, hr, hm⟩ := h1
      obtain ⟨r', ys, rfl, hr', hm'⟩ := h2
      exact .inr ⟨r, r', xs, ys, rfl, rfl, hr, hr', hm.len.trans hm'.len.symm, fun i x y hx hy => pairF (rF_nn _ _) hm hm' hx hy⟩
theorem l_isSt {K : PySem.W.Frag} {H : Hp} {Q : VK} {z : Str} (q : Q (.bl true) H) : rIsi K [.str z, .ty "str"] H Q := l_isi (ClsV.ty _) (TyX.base (TyOf.str z)) (kit_ty (by decide +kernel)) q
theorem l_isStL {K : PySem.W.Frag} {H : Hp} {Q : VK} {p : Addr} {xs : List V} (h : H p = some (.lst xs)) (q : Q (.bl false) H) : rIsi K [.ref p, .ty "str"] H Q := l_isi (ClsV.ty _) (TyX.base (TyOf.lst h)) (kit_ty (by decide +kernel)) q
def spCountK (C : Addr) : Sp := fun vs H Q _ => ∃ w : Addr, vs = [.ref w] ∧ Well w H ∧ ∀ H', Ex w H H' → Q (.bl true) H'
theorem l_countK {C w : Addr} {H : Hp} {Q : VK} {E : XK} (hw : Well w H) (q : ∀ H', Ex w H H' → Q (.bl true) H') : spCountK C ([.ref w] ++ []) H Q E := ⟨w, rfl, hw, q⟩
theorem kv_int {C : Addr} {H : Hp} {n : Int} (h : fitsI n) : KvOk C H (.int n) (.i n) := ⟨rfl, h⟩
theorem kv_ref {C : Addr} {H : Hp} {x : Addr} {f : Fl} (h : FltF C H x f) (k : f.ok) : KvOk C H (.ref x) (.f f) := ⟨x, rfl, h, k⟩
theorem far_kv {C : Addr} {H : Hp} {v : V} {a : Int} {x : Addr} {f : Fl} (hv : v ∈ [V.int a, V.ref x, V.int a]) (hx : FltF C H x f) (k : f.ok) (ha : fitsI a) : ∃ kf, KvOk C H v kf := by
  simp only [List.mem_cons, List.not_mem_nil, or_false] at hv
  rcases hv with rfl | rfl | rfl
  · exact ⟨_, kv_int ha⟩
  · exact ⟨_, kv_ref hx k⟩
  · exact ⟨_, kv_int ha⟩
/-! ### the law: a list whose items are changed -/
theorem l_glst {K : PySem.W.Frag} {n : Nat} {gs : TGs} {p : Addr} {xs : List V} {σ : St} {H : Hp} {Q : St → Hp → Prop} (hp : H p = some (.lst xs)) (hl : xs.length = n) (h : gs xs σ H Q) : gLst K n gs (.ref p) σ H Q := ⟨p, xs, rfl, SqL.of hp, hl, h⟩
theorem KvOk.frmL {C p : Addr} {H H' : Hp} {v : V} {k : Kv} {xs : List V} (h : KvOk C H v k) (hp : H p = some (.lst xs)) (e : Frm p H H') : KvOk C H' v k := by
  cases k with
  | i n => exact h
  | f g =>
    obtain ⟨x, h1, h2, h3⟩ := h
    exact ⟨x, h1, h2.frmL hp e, h3⟩
  | o => exact h
def KvE (C : Addr) (H : Hp) (v : V) : Prop := ∃ k, KvOk C H v k
theorem KvE.same {C : Addr} {H H' : Hp} {v : V} (h : KvE C H v) (e : Same H H') : KvE C H' v := h.elim fun k h => ⟨k, h.same e⟩
theorem KvE.ex {C w : Addr} {H H' : Hp} {v : V} (h : KvE C H v) (e : Ex w H H') : KvE C H' v := h.elim fun k h => ⟨k, h.ex e⟩
theorem KvE.frmL {C p : Addr} {H H' : Hp} {v : V} {xs : List V} (h : KvE C H v) (hp : H p = some (.lst xs)) (e : Frm p H H') : KvE C H' v := h.elim fun k h => ⟨k, h.frmL hp e⟩
theorem Ex.frm {w p : Addr} {H H1 H2 : Hp} (x : Ex w H H1) (hn : H p = none) (ne : p ≠ w) (e : Frm p H1 H2) : Ex w H H2 :=
  ⟨x.was, fun b o n h => e b o (ne_of_none h hn) (x.kept b o n h), by obtain ⟨a, b, c, h⟩ := x.well; exact ⟨a, b, c, e _ _ ne.symm h⟩⟩
/-- three values, as they lie -/
def Som (C : Addr) (H : Hp) (p : Addr) : Prop := ∃ x0 x1 x2, H p = some (.lst [x0, x1, x2]) ∧ KvE C H x0 ∧ KvE C H x1 ∧ KvE C H x2
theorem Som.same {C p : Addr} {H H' : Hp} (h : Som C H p) (e : Same H H') : Som C H' p := by
  obtain ⟨a, b, c, h, ka, kb, kc⟩ := h
  exact ⟨a, b, c, e _ _ h, ka.same e, kb.same e, kc.same e⟩
theorem Som.ex {C p w : Addr} {H H' : Hp} (h : Som C H p) (e : Ex w H H') (ne : p ≠ w) : Som C H' p := by
  obtain ⟨a, b, c, h, ka, kb, kc⟩ := h
  exact ⟨a, b, c, e.kept _ _ ne h, ka.ex e, kb.ex e, kc.ex e⟩
theorem Som.frmL {C p r : Addr} {H H' : Hp} {xs : List V} (h : Som C H p) (hr : H r = some (.lst xs)) (ne : p ≠ r) (e : Frm r H H') : Som C H' p := by
  obtain ⟨a, b, c, h, ka, kb, kc⟩ := h
  exact ⟨a, b, c, e _ _ ne h, ka.frmL hr e, kb.frmL hr e, kc.frmL hr e⟩
theorem l_setS {C p : Addr} {H : Hp} {d : Int} {v : V} {Q : Hp → Prop} (h : Som C H p) (hv : KvE C H v) (h0 : 0 ≤ d) (h1 : d < 3) (q : ∀ H', Frm p H H' → Som C H' p → Q H') : rSetL (.ref p) (.int d) v H Q := by
  obtain ⟨a, b, c, h, ka, kb, kc⟩ := h
  have fr : ∀ xs, Frm p H (upd H p (.lst xs)) := fun xs b o hb e => by rw [upd_ne hb]; exact e
  have key : ∀ (j : Nat) x0 x1 x2, [a, b, c].set j v = [x0, x1, x2] → ixN [a, b, c].length d = some j → KvE C H x0 → KvE C H x1 → KvE C H x2 → rSetL (.ref p) (.int d) v H Q := by
    intro j x0 x1 x2 e hj k0 k1 k2
    refine l_setL h hj ?_
    rw [e]
    exact q _ (fr _) ⟨x0, x1, x2, upd_same, k0.frmL h (fr _), k1.frmL h (fr _), k2.frmL h (fr _)⟩
  have hd : d = 0 ∨ d = 1 ∨ d = 2 := by omega
  rcases hd with rfl | rfl | rfl
  · exact key 0 v b c rfl rfl hv kb kc
  · exact key 1 a v c rfl rfl ka hv kc
  · exact key 2 a b v rfl rfl ka kb hv
theorem kve_oth {C : Addr} {H : Hp} {v : V} (hv : v ∈ [V.non, .bl true, .str "1", .str "x", .bl false]) : KvE C H v := by
  refine ⟨.o, ?_⟩
  simp only [List.mem_cons, List.not_mem_nil, or_false] at hv
  rcases hv with rfl | rfl | rfl | rfl | rfl
  · exact .inl rfl
  · exact .inr (.inl ⟨_, rfl⟩)
  · exact .inr (.inr ⟨_, rfl⟩)
  · exact .inr (.inr ⟨_, rfl⟩)
  · exact .inr (.inl ⟨_, rfl⟩)
theorem kve_int {C : Addr} {H : Hp} {n : Int} (h : fitsI n) : KvE C H (.int n) := ⟨_, kv_int h⟩
theorem kve_oth2 {C : Addr} {H : Hp} {v : V} {x : Addr} {f : Fl} (hv : v ∈ [V.non, .bl true, .str "1", .str "x", .bl false, .int 0, .ref x]) (hx : FltF C H x f) (k : f.ok) : KvE C H v := by
  simp only [List.mem_cons, List.not_mem_nil, or_false] at hv
  rcases hv with h | h | h | h | h | h | h
  · exact kve_oth (by simp [h])
  · exact kve_oth (by simp [h])
  · exact kve_oth (by simp [h])
  · exact kve_oth (by simp [h])
  · exact kve_oth (by simp [h])
  · exact h ▸ kve_int (by unfold fitsI; decide)
  · exact h ▸ ⟨_, kv_ref hx k⟩
theorem kve_sm1 {C : Addr} {H : Hp} {v u : V} {d : Int} (hv : v ∈ [V.int d, u]) (hd : fitsI d) (hu : KvE C H u) : KvE C H v := by
  simp only [List.mem_cons, List.not_mem_nil, or_false] at hv
  rcases hv with h | h
  · exact h ▸ kve_int hd
  · exact h ▸ hu
theorem kve_sm2 {C : Addr} {H : Hp} {v u : V} (hv : v ∈ [V.int 1, .int 2, u, .int (-1)]) (hu : KvE C H u) : KvE C H v := by
  simp only [List.mem_cons, List.not_mem_nil, or_false] at hv
  rcases hv with h | h | h | h
  · exact h ▸ kve_int (by unfold fitsI; decide)
  · exact h ▸ kve_int (by unfold fitsI; decide)
  · exact h ▸ hu
  · exact h ▸ kve_int (by unfold fitsI; decide)
theorem Ex.none {w p : Addr} {H H' : Hp} (x : Ex w H H') (ne : p ≠ w) (h : H' p = none) : H p = none := by
  cases e : H p with
  | none => rfl
  | some o => rw [x.kept _ _ ne e] at h; cases h
theorem two_som {C p r : Addr} {H : Hp} {y : V} (hy : y ∈ [V.ref p, V.ref r]) (h1 : Som C H p) (h2 : Som C H r) : ∃ q x0 x1 x2, y = .ref q ∧ H q = some (.lst [x0, x1, x2]) ∧ KvE C H x0 ∧ KvE C H x1 ∧ KvE C H x2 := by
  simp only [List.mem_cons, List.not_mem_nil, or_false] at hy
  rcases hy with rfl | rfl
  · obtain ⟨a, b, c, h⟩ := h1
    exact ⟨p, a, b, c, rfl, h⟩
  · obtain ⟨a, b, c, h⟩ := h2
    exact ⟨r, a, b, c, rfl, h⟩
theorem sz2 {x y : V} : ([x, y] : List V).length < sizeLine := by rw [sizeLine_eq]; exact (by decide : 2 < 16777216)
end U
namespace U
open PySem
/-! ## the bits of an int -/
def bitsL : Nat → Int → List Int
  | 0, _ => []
  | k + 1, n => n % 2 :: bitsL k (n / 2)
def numN : List Int → Int
  | [] => 0
  | b :: bs => b + 2 * numN bs
theorem bitsL_len : ∀ (k : Nat) (n : Int), (bitsL k n).length = k
  | 0, _ => rfl
  | k + 1, n => congrArg Nat.succ (bitsL_len k (n / 2))
theorem div_two_pow (n : Int) (k : Nat) : n / 2 / 2 ^ k = n / 2 ^ (k + 1) := by
  rw [Int.ediv_ediv_of_nonneg (by decide), show (2 : Int) * 2 ^ k = 2 ^ (k + 1) by rw [Int.pow_succ]; omega]
theorem bitsL_snoc : ∀ (k : Nat) (n : Int), bitsL (k + 1) n = bitsL k n ++ [n / 2 ^ k % 2]
  | 0, n => by
    show [n % 2] = [n / 2 ^ 0 % 2]
    rw [Int.pow_zero, Int.ediv_one]
  | k + 1, n => by
    show n % 2 :: bitsL (k + 1) (n / 2) = n % 2 :: (bitsL k (n / 2) ++ [n / 2 ^ (k + 1) % 2])
    rw [bitsL_snoc k (n / 2), div_two_pow]
theorem numN_snoc : ∀ (xs : List Int) (b : Int), numN (xs ++ [b]) = numN xs + b * 2 ^ xs.length
  | [], b => by
    show b + 2 * 0 = 0 + b * 2 ^ 0
    rw [Int.pow_zero]
    omega
  | x :: xs, b => by
    show x + 2 * numN (xs ++ [b]) = x + 2 * numN xs + b * 2 ^ (xs.length + 1)
    rw [numN_snoc xs b, Int.pow_succ, ← Int.mul_assoc]
    generalize b * 2 ^ xs.length = z
    omega
/-- the int with some bits, the last one less than nothing -/
def svL : List Int → Int
  | [] => 0
  | [b] => -b
  | b :: c :: bs => b + 2 * svL (c :: bs)
theorem svL_cons (b : Int) {xs : List Int} (h : xs ≠ []) : svL (b :: xs) = b + 2 * svL xs := by
  cases xs with
  | nil => exact absurd rfl h
  | cons c cs => rfl
theorem svL_snoc : ∀ (xs : List Int) (b : Int), svL (xs ++ [b]) = numN xs - b * 2 ^ xs.length
  | [], b => by
    show -b = 0 - b * 2 ^ 0
    rw [Int.pow_zero]
    omega
  | x :: xs, b => by
    show svL (x :: (xs ++ [b])) = x + 2 * numN xs - b * 2 ^ (xs.length + 1)
    rw [svL_cons x (by simp), svL_snoc xs b, Int.pow_succ, ← Int.mul_assoc]
    generalize b * 2 ^ xs.length = z
    omega
def zipF (f : Int → Int → Int) : List Int → List Int → List Int
  | x :: xs, y :: ys => f x y :: zipF f xs ys
  | _, _ => []
/-- what is done bit by bit -/
theorem svL_op {op f : Int → Int → Int} (hop : ∀ x y, op x y = 2 * op (x / 2) (y / 2) + f (x % 2) (y % 2)) (h0 : ∀ x y, -1 ≤ x → x ≤ 0 → -1 ≤ y → y ≤ 0 → op x y = -f (x % 2) (y % 2)) :
    ∀ (k : Nat) (x y : Int), -2 ^ k ≤ x → x < 2 ^ k → -2 ^ k ≤ y → y < 2 ^ k → svL (zipF f (bitsL (k + 1) x) (bitsL (k + 1) y)) = op x y
  | 0, x, y, a, b, c, d => by
    rw [Int.pow_zero] at a b c d
    exact (h0 x y a (by omega) c (by omega)).symm
  | k + 1, x, y, a, b, c, d => by
    show svL (f (x % 2) (y % 2) :: zipF f (bitsL (k + 1) (x / 2)) (bitsL (k + 1) (y / 2))) = op x y
    rw [Int.pow_succ] at a b c d
    generalize hz : (2 : Int) ^ k = z at a b c d
    rw [svL_cons _ (fun h => by cases h), svL_op hop h0 k (x / 2) (y / 2) (by omega) (by omega) (by omega) (by omega), hop x y]
    omega
theorem svL_bits (k : Nat) (n : Int) (a : -2 ^ k ≤ n) (b : n < 2 ^ k) : svL (bitsL (k + 1) n) = n := by
  induction k generalizing n with
  | zero =>
    rw [Int.pow_zero] at a b
    show -(n % 2) = n
    omega
  | succ k ih =>
    show svL (n % 2 :: bitsL (k + 1) (n / 2)) = n
    rw [Int.pow_succ] at a b
    generalize hz : (2 : Int) ^ k = z at a b
    rw [svL_cons _ (fun h => by cases h), ih (n / 2) (by omega) (by omega)]
    omega
def fXor (a b : Int) : Int := if a = b then 0 else 1
theorem and_halves (x y : Int) : Builtin.bitAnd x y = 2 * Builtin.bitAnd (x / 2) (y / 2) + (x % 2) * (y % 2) := by
  rw [PySem.W.kbt_halves]
  have hx : x % 2 = 0 ∨ x % 2 = 1 := by omega
  have hy : y % 2 = 0 ∨ y % 2 = 1 := by omega
  rcases hx with hx | hx <;> rcases hy with hy | hy <;> rw [hx, hy] <;> simp
theorem not_half (x : Int) : Builtin.bitNot x / 2 = Builtin.bitNot (x / 2) ∧ Builtin.bitNot x % 2 = 1 - x % 2 := by
  unfold Builtin.bitNot
  omega
theorem or_halves (x y : Int) : Builtin.bitOr x y = 2 * Builtin.bitOr (x / 2) (y / 2) + max (x % 2) (y % 2) := by
  have key : ∀ a b : Int, Builtin.bitOr a b = -Builtin.bitAnd (Builtin.bitNot a) (Builtin.bitNot b) - 1 := fun a b => rfl
  rw [key, key, and_halves, (not_half x).1, (not_half y).1, (not_half x).2, (not_half y).2]
  generalize Builtin.bitAnd (Builtin.bitNot (x / 2)) (Builtin.bitNot (y / 2)) = z
  have hx : x % 2 = 0 ∨ x % 2 = 1 := by omega
  have hy : y % 2 = 0 ∨ y % 2 = 1 := by omega
  rcases hx with hx | hx <;> rcases hy with hy | hy <;> rw [hx, hy] <;> simp <;> omega
theorem xor_halves (x y : Int) : Builtin.bitXor x y = 2 * Builtin.bitXor (x / 2) (y / 2) + fXor (x % 2) (y % 2) := by
  have key : ∀ a b : Int, Builtin.bitXor a b = Builtin.bitOr a b - Builtin.bitAnd a b := fun a b => rfl
  rw [key, key, or_halves, and_halves]
  unfold fXor
  have hx : x % 2 = 0 ∨ x % 2 = 1 := by omega
  have hy : y % 2 = 0 ∨ y % 2 = 1 := by omega
  rcases hx with hx | hx <;> rcases hy with hy | hy <;> rw [hx, hy] <;> simp <;> omega
theorem m10 {x : Int} (a : -1 ≤ x) (b : x ≤ 0) : x = -1 ∨ x = 0 := by omega
theorem sv_and {x y : Int} (a : -2 ^ 63 ≤ x) (b : x < 2 ^ 63) (c : -2 ^ 63 ≤ y) (d : y < 2 ^ 63) : svL (zipF (fun a b => a * b) (bitsL 64 x) (bitsL 64 y)) = Builtin.bitAnd x y :=
  svL_op (f := fun a b => a * b) and_halves (fun x y h1 h2 h3 h4 => by rcases m10 h1 h2 with rfl | rfl <;> rcases m10 h3 h4 with rfl | rfl <;> decide) 63 x y a b c d
theorem sv_or {x y : Int} (a : -2 ^ 63 ≤ x) (b : x < 2 ^ 63) (c : -2 ^ 63 ≤ y) (d : y < 2 ^ 63) : svL (zipF max (bitsL 64 x) (bitsL 64 y)) = Builtin.bitOr x y :=
  svL_op or_halves (fun x y h1 h2 h3 h4 => by rcases m10 h1 h2 with rfl | rfl <;> rcases m10 h3 h4 with rfl | rfl <;> decide) 63 x y a b c d
theorem sv_xor {x y : Int} (a : -2 ^ 63 ≤ x) (b : x < 2 ^ 63) (c : -2 ^ 63 ≤ y) (d : y < 2 ^ 63) : svL (zipF fXor (bitsL 64 x) (bitsL 64 y)) = Builtin.bitXor x y :=
  svL_op xor_halves (fun x y h1 h2 h3 h4 => by rcases m10 h1 h2 with rfl | rfl <;> rcases m10 h3 h4 with rfl | rfl <;> decide) 63 x y a b c d
/-- each bit turned -/
theorem svL_not : ∀ (k : Nat) (x : Int), -2 ^ k ≤ x → x < 2 ^ k → svL ((bitsL (k + 1) x).map fun b => 1 - b) = -1 - x
  | 0, x, a, b => by
    rw [Int.pow_zero] at a b
    show -(1 - x % 2) = -1 - x
    omega
  | k + 1, x, a, b => by
    show svL ((1 - x % 2) :: (bitsL (k + 1) (x / 2)).map fun b => 1 - b) = -1 - x
    rw [Int.pow_succ] at a b
    generalize hz : (2 : Int) ^ k = z at a b
    rw [svL_cons _ (fun h => by cases h), svL_not k (x / 2) (by omega) (by omega)]
    omega
/-! ### shifts -/
theorem numN_bits : ∀ (k : Nat) (n : Int), numN (bitsL k n) = n % 2 ^ k
  | 0, n => by
    rw [Int.pow_zero, Int.emod_one]
    rfl
  | k + 1, n => by
    show n % 2 + 2 * numN (bitsL k (n / 2)) = n % 2 ^ (k + 1)
    rw [numN_bits k (n / 2), Int.pow_succ, Int.mul_comm (2 ^ k) 2]
    have hz : (0 : Int) < 2 ^ k := Int.pow_pos (by decide)
    generalize (2 : Int) ^ k = z at hz
    have e := Int.mul_ediv_add_emod (n / 2) z
    have r0 := Int.emod_nonneg (n / 2) (Int.ne_of_gt hz)
    have r1 := Int.emod_lt_of_pos (n / 2) hz
    generalize hq : n / 2 / z = q at e
    generalize n / 2 % z = r at e r0 r1
    have e2 : n = (n % 2 + 2 * r) + (2 * z) * q := by
      rw [Int.mul_assoc]
      generalize z * q = y at e
      omega
    calc n % 2 + 2 * r = (n % 2 + 2 * r) % (2 * z) := (Int.emod_eq_of_lt (by omega) (by omega)).symm
      _ = ((n % 2 + 2 * r) + (2 * z) * q) % (2 * z) := (Int.add_mul_emod_self_left _ _ _).symm
      _ = n % (2 * z) := by rw [← e2]
theorem numN_zeros : ∀ (m : Nat) (xs : List Int), numN (List.replicate m 0 ++ xs) = 2 ^ m * numN xs
  | 0, xs => by
    rw [Int.pow_zero, Int.one_mul]
    rfl
  | m + 1, xs => by
    show 0 + 2 * numN (List.replicate m 0 ++ xs) = 2 ^ (m + 1) * numN xs
    rw [numN_zeros m xs, Int.pow_succ, Int.mul_comm (2 ^ m) 2, Int.mul_assoc]
    omega
theorem numN_app0 : ∀ (xs : List Int) (m : Nat), numN (xs ++ List.replicate m 0) = numN xs
  | [], m => by
    have := numN_zeros m []
    rw [List.append_nil] at this
    show numN (List.replicate m 0) = 0
    rw [this]
    exact Int.mul_zero _
  | x :: xs, m => by
    show x + 2 * numN (xs ++ List.replicate m 0) = x + 2 * numN xs
    rw [numN_app0 xs m]
theorem bitsL_drop : ∀ (m k : Nat) (n : Int), (bitsL (m + k) n).drop m = bitsL k (n / 2 ^ m)
  | 0, k, n => by
    rw [Int.pow_zero, Int.ediv_one, Nat.zero_add]
    rfl
  | m + 1, k, n => by
    rw [show m + 1 + k = (m + k) + 1 by omega]
    show (bitsL (m + k) (n / 2)).drop m = _
    rw [bitsL_drop m k (n / 2), div_two_pow]
theorem bitsL_take : ∀ (m k : Nat) (n : Int), (bitsL (m + k) n).take m = bitsL m n
  | 0, k, n => rfl
  | m + 1, k, n => by
    rw [show m + 1 + k = (m + k) + 1 by omega]
    show n % 2 :: (bitsL (m + k) (n / 2)).take m = n % 2 :: bitsL m (n / 2)
    rw [bitsL_take m k (n / 2)]
theorem svL_numN {xs : List Int} {b : Int} : svL (xs ++ [b]) = numN (xs ++ [b]) - b * 2 ^ (xs.length + 1) := by
  rw [svL_snoc, numN_snoc, Int.pow_succ, ← Int.mul_assoc]
  generalize b * 2 ^ xs.length = z
  omega
end U
namespace U
open PySem L2
/-! ## bits of numbers -/
def shB (a m : Int) : Int := if 64 ≤ m ∨ m ≤ -64 then 0 else if 0 ≤ m then wrF (a * 2 ^ m.toNat) else (a % 18446744073709551616) / 2 ^ (-m).toNat
inductive W5 where
  | band | bor | bxor | shl | shr
def W5.s : W5 → Str
  | .band => "band" | .bor => "bor" | .bxor => "bxor" | .shl => "shl" | .shr => "shr"
def W5.f : W5 → Int → Int → Int
  | .band => Builtin.bitAnd | .bor => Builtin.bitOr | .bxor => Builtin.bitXor | .shl => shB | .shr => fun a b => shB a (-b)
def whF : Fl → Option Int
  | .fin s t p => if p < 0 then none else if fitsI (s * (t * 2 ^ p.toNat)) then some (s * (t * 2 ^ p.toNat)) else none
  | _ => none
def whK : Kv → Option Int
  | .i n => some n | .f g => whF g | .o => none
def oV : Option Int → V
  | some n => .int n | none => .non
def spShift : Sp := fun vs H Q _ => ∃ a m : Int, vs = [.int a, .int m] ∧ fitsI a ∧ Q (.int (shB a m)) H
def spBitsR : Sp := fun vs H Q _ => ∃ (w : W5) (a b : Int), vs = [.str w.s, .int a, .int b] ∧ fitsI a ∧ Q (.int (w.f a b)) H
def spWholeN (C : Addr) : Sp := fun vs H Q _ => ∃ v k, vs = [v] ∧ KvOk C H v k ∧ k.isO = false ∧ Q (oV (whK k)) H
def NOINT : Str := "number has no integer representation"
def spBitsOf (TH C : Addr) : Sp := fun vs H Q E => ∃ v k, vs = [v] ∧ KvOk C H v k ∧ k.isO = false ∧ (∀ n, whK k = some n → fitsI n → Q (.int n) H) ∧ (whK k = none → RaiseV TH E H NOINT)
def spArB (TH C : Addr) : Sp := fun vs H Q E => ∃ (w : W5) (v u : V) (k l : Kv), vs = [.str w.s, v, u] ∧ KvOk C H v k ∧ KvOk C H u l ∧ k.isO = false ∧ l.isO = false ∧ (∀ a b, whK k = some a → whK l = some b → Q (.int (w.f a b)) H) ∧ (whK k = none ∨ whK l = none → RaiseV TH E H NOINT)
def spBitN (TH C : Addr) : Sp := fun vs H Q E => ∃ v k, vs = [v] ∧ KvOk C H v k ∧ k.isO = false ∧ (∀ n, whK k = some n → Q (.int (-1 - n)) H) ∧ (whK k = none → RaiseV TH E H NOINT)
theorem whF_fits {f : Fl} {n : Int} (h : whF f = some n) : fitsI n := by
  unfold whF at h
  split at h
  · split at h
    · cases h
    · split at h
      · rename_i z
        cases h
        exact z
      · cases h
  · cases h
theorem whK_fits {C : Addr} {H : Hp} {v : V} {k : Kv} {n : Int} (h : KvOk C H v k) (e : whK k = some n) : fitsI n := by
  cases k with
  | i m => cases e; exact h.2
  | f g => exact whF_fits e
  | o => cases e
section
variable {C TH : Addr} {H : Hp} {Q : VK} {E : XK} {v u : V} {k l : Kv}
theorem l_shift {a m : Int} (h : fitsI a) (q : Q (.int (shB a m)) H) : spShift ([.int a, .int m] ++ []) H Q E := ⟨a, m, rfl, h, q⟩
theorem l_bitsR {w : W5} {a b : Int} (h : fitsI a) (q : Q (.int (w.f a b)) H) : spBitsR ([.str w.s, .int a, .int b] ++ []) H Q E := ⟨w, a, b, rfl, h, q⟩
theorem l_wholeN (h : KvOk C H v k) (n : k.isO = false) (q : Q (oV (whK k)) H) : spWholeN C ([v] ++ []) H Q E := ⟨v, k, rfl, h, n, q⟩
theorem l_bitsOf (h : KvOk C H v k) (n : k.isO = false) (q1 : whK k = none → RaiseV TH E H NOINT) (q : ∀ n, whK k = some n → fitsI n → Q (.int n) H) : spBitsOf TH C ([v] ++ []) H Q E := ⟨v, k, rfl, h, n, q, q1⟩
end
theorem cshl64 {a m : Int} (h : fitsI a) (h0 : 0 ≤ m) (h1 : m < 64) : CShl a m := by
  obtain ⟨a1, a2⟩ := h
  have e : m = (m.toNat : Int) := by omega
  rw [e]
  refine shl_ok (n := 64) ?_ (by omega)
  have : (2 : Nat) ^ 64 = 18446744073709551616 := by decide
  omega
theorem cshlT {s t p : Int} (h : Fl.ok (.fin s t p)) (h0 : 0 ≤ p) : CShl t p := cshl_of h0 (by have := (ok_bounds h).2.2.2.2.2; omega) (by have := ok_bits h; omega)
theorem cmul_s {s z : Int} (h : s = 1 ∨ s = -1) : CMulE s z := .inl (.inl (by rcases h with rfl | rfl <;> decide))
theorem W5.is {w u : W5} (h : w.s = u.s) : w = u := by cases w <;> cases u <;> first | rfl | exact absurd h (by decide +kernel)
theorem l_isnO {o : Option Int} {H : Hp} {Q : VK} (q1 : o = none → Q (.bl true) H) (q2 : ∀ n, o = some n → Q (.bl false) H) : rIsn (oV o) .non H Q := by
  cases o with
  | none => exact ⟨rfl, q1 rfl⟩
  | some n => exact ⟨rfl, q2 n rfl⟩
def spNegK (C : Addr) : Sp := fun vs H Q _ => ∃ v k, vs = [v] ∧ KvOk C H v k ∧ ((∃ n, k = .i n ∧ Q (.int (wrF (-n))) H) ∨ ∃ g, k = .f g ∧ ∀ r H', Same H H' → FltF C H' r g.opp → Q (.ref r) H')
theorem whF_top {s t p : Int} (h : Fl.ok (.fin s t p)) (hp : 64 < p) : ¬ fitsI (s * (t * 2 ^ p.toNat)) := by
  obtain ⟨hs, h0, -, hz, -⟩ := ok_bounds h
  have ht : 1 ≤ t := by
    rcases Int.lt_or_le 0 t with q | q
    · omega
    · exact absurd (hz (by omega)) (by omega)
  have e : (2 : Int) ^ p.toNat = 2 ^ 64 * 2 ^ (p.toNat - 64) := by rw [← Int.pow_add, show 64 + (p.toNat - 64) = p.toNat by omega]
  have z : (1 : Int) ≤ 2 ^ (p.toNat - 64) := Int.pow_pos (by decide)
  have y : (2 : Int) ^ 64 ≤ t * 2 ^ p.toNat := by
    rw [e]
    have a := Int.mul_le_mul ht (Int.mul_le_mul (Int.le_refl ((2 : Int) ^ 64)) z (by decide) (by decide)) (by decide) (by omega)
    rw [Int.one_mul, Int.mul_one] at a
    exact a
  have w : (2 : Int) ^ 64 = 18446744073709551616 := by decide
  rw [w] at y
  unfold fitsI
  generalize t * 2 ^ p.toNat = x at y
  rcases hs with rfl | rfl <;> omega
theorem fits_eq {n : Int} {a b : Int} (ha : a = -9223372036854775808) (hb : b = 9223372036854775807) : (a ≤ n ∧ n ≤ b) ↔ fitsI n := by subst ha hb; exact Iff.rfl
section
variable {C TH : Addr} {H : Hp} {Q : VK} {E : XK} {v u : V} {k l : Kv}
theorem l_negKI {n : Int} (q : Q (.int (wrF (-n))) H) (h : fitsI n) : spNegK C ([.int n] ++ []) H Q E := ⟨_, .i n, rfl, ⟨rfl, h⟩, .inl ⟨n, rfl, q⟩⟩
end
def spBitsL : Sp := fun vs H Q _ => ∃ n : Int, vs = [.int n] ∧ ∀ r H', H r = none → Same H H' → H' r = some (.lst ((bitsL 64 n).map V.int)) → Q (.ref r) H'
def Bits01 (bs : List Int) : Prop := ∀ b ∈ bs, 0 ≤ b ∧ b ≤ 1
def spNumO : Sp := fun vs H Q _ => ∃ (r : Addr) (bs : List Int), vs = [.ref r] ∧ H r = some (.lst (bs.map V.int)) ∧ bs.length = 64 ∧ Bits01 bs ∧ Q (.int (svL bs)) H
theorem bits_half (m : Int) : (m - m % 2).fdiv 2 = m / 2 := by
  rw [Int.fdiv_eq_ediv_of_nonneg _ (by decide)]
  omega
theorem div_pow2 (n : Int) (i : Nat) : n / 2 ^ i / 2 = n / 2 ^ (i + 1) := by rw [Int.ediv_ediv_of_nonneg (Int.le_of_lt (Int.pow_pos (by decide))), Int.pow_succ]
theorem bits_next (n : Int) (i : Nat) : (n / 2 ^ i - n / 2 ^ i % 2).fdiv 2 = n / 2 ^ (i + 1) := (bits_half _).trans (div_pow2 n i)
theorem bits_map (n : Int) (i : Nat) : (bitsL i n).map V.int ++ [V.int (n / 2 ^ i % 2)] = (bitsL (i + 1) n).map V.int := by rw [bitsL_snoc, List.map_append]; rfl
def gB (bs : List Int) (i : Nat) : Int := bs.getD i 0
theorem gB_01 {bs : List Int} (h : Bits01 bs) (i : Nat) : 0 ≤ gB bs i ∧ gB bs i ≤ 1 := by
  unfold gB
  rw [List.getD_eq_getElem?_getD]
  cases e : bs[i]? with
  | none => exact ⟨by decide, by decide⟩
  | some b => exact h b (List.mem_of_getElem? e)
theorem l_ixB {K : PySem.W.Frag} {H : Hp} {Q : VK} {r : Addr} {bs : List Int} {i : Int} (h : H r = some (.lst (bs.map V.int))) (h0 : 0 ≤ i) (h1 : i < bs.length) (q : Q (.int (gB bs i.toNat)) H) : rIxL K (.ref r) (.int i) H Q := by
  refine l_ixL (SqL.of h) ?_ q
  have hlt : i.toNat < bs.length := by omega
  unfold atI ixN
  rw [if_pos h0, List.length_map, if_pos h1]
  show (bs.map V.int)[i.toNat]? = _
  rw [List.getElem?_map]
  unfold gB
  rw [List.getD_eq_getElem?_getD]
  rw [List.getElem?_eq_getElem hlt]
  rfl
theorem take_one {bs : List Int} {i : Nat} (h : i < bs.length) : bs.take (i + 1) = bs.take i ++ [gB bs i] := by
  unfold gB
  rw [List.getD_eq_getElem?_getD, List.getElem?_eq_getElem h, List.take_succ, List.getElem?_eq_getElem h]
  rfl
theorem num_next {bs : List Int} {i : Nat} (h : i < bs.length) : numN (bs.take (i + 1)) = numN (bs.take i) + gB bs i * 2 ^ i := by
  rw [take_one h, numN_snoc, List.length_take, Nat.min_eq_left (Nat.le_of_lt h)]
theorem num_end {bs : List Int} (h : bs.length = 64) : numN (bs.take 63) - gB bs 63 * 2 ^ 63 = svL bs := by
  have e := take_one (bs := bs) (i := 63) (by omega)
  rw [List.take_of_length_le (by omega)] at e
  have z := svL_snoc (bs.take 63) (gB bs 63)
  rw [← e, List.length_take, Nat.min_eq_left (by omega)] at z
  exact z.symm
theorem cshl01 {bs : List Int} (h : Bits01 bs) {i j : Nat} (hj : j < 64) : CShl (gB bs i) (j : Int) := by
  have z := gB_01 h i
  exact cshl64 ⟨by omega, by omega⟩ (by omega) (by omega)
def spDueB : Sp := fun vs H Q _ => ∃ (w : W5) (a b : Int), vs = [.str w.s, .int a, .int b] ∧ fitsI a ∧ fitsI b ∧ ∀ H', Same H H' → Q (.int (w.f a b)) H'
theorem l_bitsL {n : Int} {H : Hp} {Q : VK} {E : XK} (q : ∀ r H', H r = none → Same H H' → H' r = some (.lst ((bitsL 64 n).map V.int)) → Q (.ref r) H') : spBitsL ([.int n] ++ []) H Q E := ⟨n, rfl, q⟩
theorem l_numO {bs : List Int} {r : Addr} {H : Hp} {Q : VK} {E : XK} (h : H r = some (.lst (bs.map V.int))) (hl : bs.length = 64) (hb : Bits01 bs) (q : Q (.int (svL bs)) H) : spNumO ([.ref r] ++ []) H Q E := ⟨r, bs, rfl, h, hl, hb, q⟩
def spDueS : Sp := fun vs H Q _ => ∃ (w : W5) (a b : Int), (w = .shl ∨ w = .shr) ∧ vs = [.str w.s, .int a, .int b] ∧ fitsI a ∧ fitsI b ∧ ∀ H', Same H H' → Q (.int (w.f a b)) H'
end U
namespace U
open PySem L2
theorem bits_01 : ∀ (k : Nat) (n : Int), Bits01 (bitsL k n)
  | 0, n => fun b h => by cases h
  | k + 1, n => fun b h => by
    rcases List.mem_cons.mp h with e | h
    · rw [e]
      omega
    · exact bits_01 k _ b h
theorem num_range : ∀ {xs : List Int}, Bits01 xs → 0 ≤ numN xs ∧ numN xs < 2 ^ xs.length
  | [], _ => ⟨Int.le_refl _, by decide⟩
  | x :: xs, h => by
    have ih := num_range (xs := xs) (fun b hb => h b (List.mem_cons_of_mem _ hb))
    have hx := h x (List.mem_cons_self ..)
    show 0 ≤ x + 2 * numN xs ∧ x + 2 * numN xs < 2 ^ (xs.length + 1)
    rw [Int.pow_succ]
    generalize (2 : Int) ^ xs.length = z at ih
    omega
/-- with the sign or without -/
theorem sv_wr {xs : List Int} (h : Bits01 xs) (hl : xs.length = 64) : svL xs = wrF (numN xs) := by
  have e := take_one (bs := xs) (i := 63) (by omega)
  rw [List.take_of_length_le (by omega)] at e
  have z := num_end hl
  have y := num_next (bs := xs) (i := 63) (by omega)
  rw [List.take_of_length_le (by omega)] at y
  have r := num_range (xs := xs.take 63) (fun b hb => h b (List.mem_of_mem_take hb))
  rw [List.length_take, Nat.min_eq_left (by omega)] at r
  have g := gB_01 h 63
  have p : (2 : Int) ^ 63 = 9223372036854775808 := by decide
  rw [p] at z y r
  unfold wrF
  generalize numN (xs.take 63) = lo at z y r
  generalize gB xs 63 = b at z y g
  have hb : b = 0 ∨ b = 1 := by omega
  rcases hb with rfl | rfl <;> omega
theorem wr_mod {x : Int} : wrF (x % 18446744073709551616) = wrF x := by
  unfold wrF
  omega
/-- the bits moved -/
def shL (L : List Int) (far : Int) : List Int := (List.range 64).map fun (k : Nat) => if 0 ≤ (k : Int) - far ∧ (k : Int) - far < 64 then gB L ((k : Int) - far).toNat else 0
theorem shL_len (L : List Int) (far : Int) : (shL L far).length = 64 := by unfold shL; rw [List.length_map, List.length_range]
theorem shL_at {L : List Int} {far : Int} {k : Nat} (h : k < 64) : (shL L far)[k]? = some (if 0 ≤ (k : Int) - far ∧ (k : Int) - far < 64 then gB L ((k : Int) - far).toNat else 0) := by
  unfold shL
  rw [List.getElem?_map, List.getElem?_range h]
  rfl
theorem gB_at {L : List Int} {k : Nat} (h : k < L.length) : L[k]? = some (gB L k) := by
  unfold gB
  rw [List.getD_eq_getElem?_getD, List.getElem?_eq_getElem h]
  rfl
theorem shL_01 {L : List Int} (h : Bits01 L) (far : Int) : Bits01 (shL L far) := by
  intro b hb
  unfold shL at hb
  obtain ⟨k, -, rfl⟩ := List.mem_map.mp hb
  split
  · exact gB_01 h _
  · exact ⟨by decide, by decide⟩
theorem list_eq {xs ys : List Int} (h1 : xs.length = ys.length) (h : ∀ k, k < xs.length → xs[k]? = ys[k]?) : xs = ys := by
  refine List.ext_getElem? fun k => ?_
  by_cases hk : k < xs.length
  · exact h k hk
  · rw [List.getElem?_eq_none (by omega), List.getElem?_eq_none (by omega)]
theorem shL_left {L : List Int} {m : Nat} (hl : L.length = 64) (hm : m ≤ 64) : shL L (m : Int) = List.replicate m 0 ++ L.take (64 - m) := by
  refine list_eq ?_ fun k hk => ?_
  · rw [shL_len, List.length_append, List.length_replicate, List.length_take]
    omega
  · rw [shL_len] at hk
    rw [shL_at hk]
    by_cases hkm : k < m
    · rw [if_neg (by omega), List.getElem?_append_left (by rw [List.length_replicate]; exact hkm), List.getElem?_replicate, if_pos hkm]
    · rw [if_pos (by omega), List.getElem?_append_right (by rw [List.length_replicate]; omega), List.length_replicate, List.getElem?_take, if_pos (by omega), gB_at (by omega), show ((k : Int) - (m : Int)).toNat = k - m by omega]
theorem shL_right {L : List Int} {m : Nat} (hl : L.length = 64) (hm : m ≤ 64) : shL L (-(m : Int)) = L.drop m ++ List.replicate m 0 := by
  refine list_eq ?_ fun k hk => ?_
  · rw [shL_len, List.length_append, List.length_replicate, List.length_drop]
    omega
  · rw [shL_len] at hk
    rw [shL_at hk]
    by_cases hkm : k + m < 64
    · rw [if_pos (by omega), List.getElem?_append_left (by rw [List.length_drop]; omega), List.getElem?_drop, gB_at (by omega), show ((k : Int) - -(m : Int)).toNat = m + k by omega]
    · rw [if_neg (by omega), List.getElem?_append_right (by rw [List.length_drop]; omega), List.getElem?_replicate, if_pos (by rw [List.length_drop]; omega)]
theorem shL_zero {L : List Int} {far : Int} (h : 64 ≤ far ∨ far ≤ -64) : shL L far = List.replicate 64 0 := by
  refine list_eq (by rw [shL_len, List.length_replicate]) fun k hk => ?_
  rw [shL_len] at hk
  rw [shL_at hk, if_neg (by omega), List.getElem?_replicate, if_pos hk]
theorem pow_split {m : Nat} (h : m ≤ 64) : (2 : Int) ^ m * 2 ^ (64 - m) = 18446744073709551616 := by
  rw [← Int.pow_add, show m + (64 - m) = 64 by omega]
  decide
/-- what is left of a number that is cut -/
theorem div_mod {a z y : Int} (hz : 0 < z) (hy : 0 < y) : a / z % y = (a % (z * y)) / z := by
  have e := Int.mul_ediv_add_emod a (z * y)
  generalize hr : a % (z * y) = r at e
  generalize a / (z * y) = q at e
  have r0 : 0 ≤ r := hr ▸ Int.emod_nonneg _ (Int.ne_of_gt (Int.mul_pos hz hy))
  have r1 : r < z * y := hr ▸ Int.emod_lt_of_pos _ (Int.mul_pos hz hy)
  have e2 : a = r + z * (y * q) := by rw [← Int.mul_assoc]; omega
  rw [e2, Int.add_mul_ediv_left _ _ (Int.ne_of_gt hz), Int.add_mul_emod_self_left]
  exact Int.emod_eq_of_lt (Int.ediv_nonneg r0 (Int.le_of_lt hz)) (Int.ediv_lt_of_lt_mul hz (by rw [Int.mul_comm]; exact r1))
theorem sv_sh {a far : Int} : svL (shL (bitsL 64 a) far) = shB a far := by
  have hl := bitsL_len 64 a
  have h01 := shL_01 (bits_01 64 a) far
  rw [sv_wr h01 (shL_len _ _)]
  unfold shB
  by_cases h : 64 ≤ far ∨ far ≤ -64
  · rw [if_pos h, shL_zero h]
    decide +kernel
  · rw [if_neg h]
    by_cases h0 : 0 ≤ far
    · rw [if_pos h0]
      have hm : far.toNat ≤ 64 := by omega
      have e : far = (far.toNat : Int) := by omega
      have s := shL_left hl hm
      have p := pow_split hm
      rw [e, s, show far.toNat = far.toNat from rfl, Int.toNat_natCast]
      generalize far.toNat = m at hm s p ⊢
      have t := bitsL_take (64 - m) m a
      rw [show 64 - m + m = 64 by omega] at t
      rw [t, numN_zeros, numN_bits, ← Int.mul_emod_mul_of_pos _ _ (Int.pow_pos (by decide)), p, wr_mod, Int.mul_comm]
    · rw [if_neg h0]
      have hm : (-far).toNat ≤ 64 := by omega
      have hm1 : 1 ≤ (-far).toNat := by omega
      have e : far = -((-far).toNat : Int) := by omega
      have s := shL_right hl hm
      have p := pow_split hm
      generalize hmm : (-far).toNat = m at hm hm1 e s p ⊢
      rw [e, s]
      have t := bitsL_drop m (64 - m) a
      rw [show m + (64 - m) = 64 by omega] at t
      rw [t, numN_app0, numN_bits, div_mod (Int.pow_pos (by decide)) (Int.pow_pos (by decide)), p]
      have r0 := Int.emod_nonneg a (b := 18446744073709551616) (by decide)
      have r1 := Int.emod_lt_of_pos a (b := 18446744073709551616) (by decide)
      generalize a % 18446744073709551616 = r at r0 r1
      have z2 : (2 : Int) ≤ 2 ^ m := by
        rw [show m = (m - 1) + 1 by omega, Int.pow_succ]
        have : (1 : Int) ≤ 2 ^ (m - 1) := Int.pow_pos (by decide)
        omega
      have d0 : 0 ≤ r / 2 ^ m := Int.ediv_nonneg r0 (by omega)
      have d1 : r / 2 ^ m < 9223372036854775808 := Int.ediv_lt_of_lt_mul (by omega) (by
        have := Int.mul_le_mul_of_nonneg_left z2 (show (0 : Int) ≤ 9223372036854775808 by decide)
        omega)
      generalize r / 2 ^ m = d at d0 d1
      unfold wrF
      omega
theorem sh_in {L : List Int} {far : Int} {i : Nat} (hi : i < 64) (h0 : 0 ≤ 0 + (i : Int) - far) (h1 : 0 + (i : Int) - far < 64) : ((shL L far).take i).map V.int ++ [V.int (gB L (0 + (i : Int) - far).toNat)] = ((shL L far).take (i + 1)).map V.int := by
  rw [Int.zero_add] at h0 h1 ⊢
  rw [List.take_succ, shL_at hi, if_pos ⟨h0, h1⟩, List.map_append]
  rfl
theorem sh_out {L : List Int} {far : Int} {i : Nat} (hi : i < 64) (h : ¬ (0 ≤ 0 + (i : Int) - far ∧ 0 + (i : Int) - far < 64)) : ((shL L far).take i).map V.int ++ [V.int 0] = ((shL L far).take (i + 1)).map V.int := by
  rw [Int.zero_add] at h
  rw [List.take_succ, shL_at hi, if_neg h, List.map_append]
  rfl
end U
/-! list(zip(a, b)) of two lists of one length -/
namespace U
open PySem PySem.Spec PySem.Calls PyProof.Rows PyProof.V L2
def ZSt (z TI TO i1 i2 l1 l2 S : Addr) (xs ys : Array Value) (i : Nat) (h : Heap) : Prop :=
  IsPair h TI (.ref i1) (.ref i2) ∧ h.IsListIter i1 l1 i ∧ h.IsListIter i2 l2 i ∧ h.IsList l1 xs ∧ h.IsList l2 ys ∧
    ((IsZip h z TI TO .none ∧ ∃ a b, IsPair h TO a b) ∨ ∃ T f oT, IsZipHeld h z TI TO T f ∧ h.get? T = some oT ∧ T ≠ z ∧ T ≠ i1 ∧ T ≠ i2 ∧ T ≠ S)
structure ZOff (S z TI TO i1 i2 l1 l2 : Addr) : Prop where
  z : S ≠ z
  TI : S ≠ TI
  TO : S ≠ TO
  i1 : S ≠ i1
  i2 : S ≠ i2
  l1 : S ≠ l1
  l2 : S ≠ l2
section
variable {prog : Program} {w : World} {A : Around} {E : Value → Shared → Prop} {s : Shared} {z TI TO i1 i2 l1 l2 S : Addr} {xs ys : Array Value}
theorem ZSt.keep {i : Nat} {h h' : Heap} (O : ZOff S z TI TO i1 i2 l1 l2) (st : ZSt z TI TO i1 i2 l1 l2 S xs ys i h) (hk : ∀ b o, b ≠ S → h.get? b = some o → h'.get? b = some o) : ZSt z TI TO i1 i2 l1 l2 S xs ys i h' := by
  obtain ⟨hTI, h1, h2, hl1, hl2, hz⟩ := st
  refine ⟨hk _ _ O.TI.symm hTI, h1.at fun o e => hk _ o O.i1.symm e, h2.at fun o e => hk _ o O.i2.symm e, hl1.at fun o e => hk _ o O.l1.symm e, hl2.at fun o e => hk _ o O.l2.symm e, ?_⟩
  rcases hz with ⟨hz, a, b, hTO⟩ | ⟨T, f, oT, hz, hT, r1, r2, r3, r4⟩
  · exact .inl ⟨hk _ _ O.z.symm hz, a, b, hk _ _ O.TO.symm hTO⟩
  · exact .inr ⟨T, f, oT, hk _ _ O.z.symm hz, hk _ _ r4 hT, r1, r2, r3, r4⟩
theorem zl_item {i : Nat} {x y : Value} {Q : Option Value → Shared → Prop} (D : ZipApart z TI TO i1 i2 l1 l2) (st : ZSt z TI TO i1 i2 l1 l2 S xs ys i s.heap) (hS : S < s.heap.objs.size) (ex : xs[i]? = some x) (ey : ys[i]? = some y)
    (hQ : ∀ h', ZSt z TI TO i1 i2 l1 l2 S xs ys (i + 1) h' → h'.get? s.heap.objs.size = some { cls := .type "tuple", data := .seq #[x, y] } → h'.objs.size = s.heap.objs.size + 1 →
      (∀ b o, b ≠ z → b ≠ TO → b ≠ i1 → b ≠ i2 → s.heap.get? b = some o → h'.get? b = some o) → Q (some (.ref s.heap.objs.size)) { s with heap := h' }) :
    wpAny (model prog w) A (pyNext (.ref z)) Q E s := by
  obtain ⟨hTI, h1, h2, hl1, hl2, hz⟩ := st
  have lt : ∀ {c o}, s.heap.get? c = some o → s.heap.objs.size ≠ c := fun e => Nat.ne_of_gt (Heap.lt_size e)
  have n1 : s.heap.objs.size ≠ i1 := let ⟨_, e, _⟩ := h1; lt e
  have n2 : s.heap.objs.size ≠ i2 := let ⟨_, e, _⟩ := h2; lt e
  rcases hz with ⟨hz, a, b, hTO⟩ | ⟨T, f, oT, hz, hT, r1, r2, r3, r4⟩
  · refine wpAny_pyNext_zip_item D hz hTI hTO h1 h2 hl1 hl2 ex ey fun h' a1 a2 a3 a4 a5 a6 hk => ?_
    exact hQ h' ⟨hk _ _ D.TIz D.TITO D.TIi1 D.TIi2 hTI, a3, a4, hl1.at fun o e => hk _ o D.l1z D.l1TO D.l1i1 D.l1i2 e, hl2.at fun o e => hk _ o D.l2z D.l2TO D.l2i1 D.l2i2 e,
        .inr ⟨s.heap.objs.size, false, _, a1, a5, lt hz, n1, n2, Nat.ne_of_gt hS⟩⟩ a5 a6 hk
  · refine wpAny_pyNext_zip_item_held D hz hT hTI h1 h2 hl1 hl2 ex ey fun h' a1 a3 a4 a5 a6 hk => ?_
    exact hQ h' ⟨hk _ _ D.TIz D.TIi1 D.TIi2 hTI, a3, a4, hl1.at fun o e => hk _ o D.l1z D.l1i1 D.l1i2 e, hl2.at fun o e => hk _ o D.l2z D.l2i1 D.l2i2 e,
        .inr ⟨T, true, oT, a1, hk _ _ r1 r2 r3 hT, r1, r2, r3, r4⟩⟩ a5 a6 fun b o h1 _ h3 h4 e => hk b o h1 h3 h4 e
theorem zl_done {i : Nat} {Q : Option Value → Shared → Prop} (hA : A.handled = none) (D : ZipApart z TI TO i1 i2 l1 l2) (st : ZSt z TI TO i1 i2 l1 l2 S xs ys i s.heap) (hend : xs[i]? = none ∨ ys[i]? = none)
    (hQ : ∀ h', (∀ b o, b ≠ z → b ≠ TO → b ≠ i1 → b ≠ i2 → s.heap.get? b = some o → h'.get? b = some o) → Q none { s with heap := h' }) :
    wpAny (model prog w) A (pyNext (.ref z)) Q E s := by
  obtain ⟨hTI, h1, h2, hl1, hl2, hz⟩ := st
  rcases hz with ⟨hz, a, b, hTO⟩ | ⟨T, f, oT, hz, hT, r1, r2, r3, r4⟩
  · exact wpAny_pyNext_zip_end hA D hz hTI hTO h1 h2 hl1 hl2 hend fun h' hk => hQ h' hk
  · exact wpAny_pyNext_zip_end_held hA D hz hT hTI h1 h2 hl1 hl2 hend fun h' hk => hQ h' fun b o h1 _ h3 h4 e => hk b o h1 h3 h4 e
structure ZlG (xs ys : Array Value) (lo : Addr) (h : Heap) (as : List Addr) : Prop where
  rise : as.Pairwise (· < ·)
  above : ∀ a ∈ as, lo < a
  pairs : ∀ (j : Nat) (a : Addr), as[j]? = some a → ∃ x y, xs[j]? = some x ∧ ys[j]? = some y ∧ h.get? a = some { cls := .type "tuple", data := .seq #[x, y] }
theorem ZlG.there {lo : Addr} {h : Heap} {as : List Addr} (g : ZlG xs ys lo h as) {a : Addr} (ha : a ∈ as) : a < h.objs.size := by
  obtain ⟨j, hj⟩ := List.mem_iff_getElem?.mp ha
  obtain ⟨_, _, _, _, e⟩ := g.pairs j a hj
  exact Heap.lt_size e
end
section
variable {prog : Program} {w : World} {A : Around} {s : Shared} {R : Result → Shared → Prop} {z TI TO i1 i2 l1 l2 S : Addr} {xs ys : Array Value}
theorem zl_loop {lo : Addr} (hh : A.handled = none) (D : ZipApart z TI TO i1 i2 l1 l2) (O : ZOff S z TI TO i1 i2 l1 l2) (hlo : S ≤ lo) (hzl : z ≤ lo ∧ TO ≤ lo ∧ i1 ≤ lo ∧ i2 ≤ lo) (hsz : ys.size = xs.size) (hn : xs.size ≤ sizeLine) (res : Value) {h₁ : Heap}
    (hR : ∀ h' acc c as, (∀ b o, b ≠ S → b ≠ z → b ≠ TO → b ≠ i1 → b ≠ i2 → h₁.get? b = some o → h'.get? b = some o) → h'.get? S = some { cls := .type "list", dict := none, data := .seq acc c, slots := #[] } → as.length = xs.size → ZlG xs ys lo h' as →
      acc.toList = as.map Value.ref → R (.ok (.ret res)) { s with heap := h' }) :
    ∀ (k i : Nat) (h : Heap) (c : Nat) (acc : Array Value) (as : List Addr), xs.size - i = k → i ≤ xs.size → ZSt z TI TO i1 i2 l1 l2 S xs ys i h → (∀ b o, b ≠ S → b ≠ z → b ≠ TO → b ≠ i1 → b ≠ i2 → h₁.get? b = some o → h.get? b = some o) →
      h.get? S = some { cls := .type "list", dict := none, data := .seq acc c, slots := #[] } → acc.toList = as.map Value.ref → as.length = i → ZlG xs ys lo h as → lo < h.objs.size →
      codeAny (model prog w) A (.builtin "list.extend.loop" ⟨[.ref S, .ref z, res], []⟩) R { s with heap := h } := by
  intro k
  induction k with
  | zero =>
    intro i h c acc as hk hi hst hkeep hS hacc hal hG hIs
    refine codeAny_builtin PySem.F.entry_extend_loop ?_
    rw [Around.under_plainId PySem.F.plain_extend_loop _]
    show wpAny _ A.in1 (pyNext (.ref z) >>= _) _ _ _
    refine wpAny_bind (zl_done (s := { s with heap := h }) (A := A.in1) hh D hst (.inl (Array.getElem?_eq_none (by omega))) fun h' he => ?_)
    refine wpAny_pure (hR h' acc c as (fun b o h1 h2 h3 h4 h5 e => he b o h2 h3 h4 h5 (hkeep b o h1 h2 h3 h4 h5 e)) (he S _ O.z O.TO O.i1 O.i2 hS) (by omega) ⟨hG.rise, hG.above, fun j a hj => ?_⟩ hacc)
    obtain ⟨x, y, e1, e2, e3⟩ := hG.pairs j a hj
    have ha := hG.above a (List.mem_of_getElem? hj)
    exact ⟨x, y, e1, e2, he a _ (Nat.ne_of_gt (Nat.lt_of_le_of_lt hzl.1 ha)) (Nat.ne_of_gt (Nat.lt_of_le_of_lt hzl.2.1 ha)) (Nat.ne_of_gt (Nat.lt_of_le_of_lt hzl.2.2.1 ha)) (Nat.ne_of_gt (Nat.lt_of_le_of_lt hzl.2.2.2 ha)) e3⟩
  | succ k ih =>
    intro i h c acc as hk hi hst hkeep hS hacc hal hG hIs
    have hlt : i < xs.size := by omega
    have hlt2 : i < ys.size := by omega
    have ex := Array.getElem?_eq_getElem hlt
    have ey := Array.getElem?_eq_getElem hlt2
    have hszA : acc.size = i := by rw [← Array.length_toList, hacc, List.length_map, hal]
    refine codeAny_builtin PySem.F.entry_extend_loop ?_
    rw [Around.under_plainId PySem.F.plain_extend_loop _]
    show wpAny _ A.in1 (pyNext (.ref z) >>= _) _ _ _
    refine wpAny_bind (zl_item (s := { s with heap := h }) (S := S) D hst (Heap.lt_size hS) ex ey fun h' hst' ht hz hkp => ?_)
    dsimp only at ht hz hkp ⊢
    have hS' := hkp S _ O.z O.TO O.i1 O.i2 hS
    have up : ∀ b o, b ≠ S → h'.get? b = some o → (h'.update S (Obj.mapSeq (·.push (Value.ref h.objs.size)))).get? b = some o := fun b o hb e => (Heap.get?_update_other _ _ (Ne.symm hb)).trans e
    have hSl : S < h.objs.size := Heap.lt_size hS
    show wpAny _ A.in1 (updateSeq S (·.push (Value.ref h.objs.size)) >>= _) _ _ _
    refine wpAny_bind ?_
    refine wpAny_updateSeq hS' rfl (wpAny_pure ⟨plainId_quiet PySem.F.plain_extend_loop _, ih (i + 1) _ _ (acc.push (Value.ref h.objs.size)) (as ++ [h.objs.size]) (by omega) hlt (hst'.keep O up)
      (fun b o h1 h2 h3 h4 h5 e => up b o h1 (hkp b o h2 h3 h4 h5 (hkeep b o h1 h2 h3 h4 h5 e))) (Heap.get?_update_self _ hS' rfl) (by rw [Array.toList_push, hacc, List.map_append]; rfl) (by rw [List.length_append, hal]; rfl) ⟨?_, ?_, ?_⟩ ?_⟩) (by rw [hszA]; omega) (by show (acc.push (Value.ref h.objs.size)).size ≤ sizeLine + 1; rw [Array.size_push, hszA]; omega)
    · refine List.pairwise_append.mpr ⟨hG.rise, List.pairwise_singleton _ _, fun a ha b hb => ?_⟩
      rw [List.mem_singleton.mp hb]
      exact hG.there ha
    · intro a ha
      rcases List.mem_append.mp ha with ha | ha
      · exact hG.above a ha
      · rw [List.mem_singleton.mp ha]; exact hIs
    · intro j b hj
      rcases Nat.lt_trichotomy j as.length with h1 | h1 | h1
      · rw [List.getElem?_append_left h1] at hj
        obtain ⟨x', y', e1, e2, e3⟩ := hG.pairs j b hj
        have hb := hG.above b (List.mem_of_getElem? hj)
        exact ⟨x', y', e1, e2, up b _ (Nat.ne_of_gt (Nat.lt_of_le_of_lt hlo hb)) (hkp b _ (Nat.ne_of_gt (Nat.lt_of_le_of_lt hzl.1 hb)) (Nat.ne_of_gt (Nat.lt_of_le_of_lt hzl.2.1 hb)) (Nat.ne_of_gt (Nat.lt_of_le_of_lt hzl.2.2.1 hb)) (Nat.ne_of_gt (Nat.lt_of_le_of_lt hzl.2.2.2 hb)) e3)⟩
      · subst h1
        have hb : h.objs.size = b := by simpa using hj
        subst hb
        exact ⟨_, _, by rw [hal]; exact ex, by rw [hal]; exact ey, up _ _ (Nat.ne_of_gt hSl) ht⟩
      · have hnone : (as ++ [h.objs.size])[j]? = none := List.getElem?_eq_none (by rw [List.length_append, List.length_singleton]; omega)
        rw [hnone] at hj; cases hj
    · have e : (h'.update S (Obj.mapSeq (·.push (Value.ref h.objs.size)))).get? h.objs.size = _ := up _ _ (Nat.ne_of_gt hSl) ht
      exact Nat.lt_trans hIs (Heap.lt_size e)
end
theorem zip_no_len : typeLookup (.type "zip") "__len__" = pure none := by rw [typeLookup_type, builtinLookup_eq_fast]; kernel_rfl
theorem zip_no_hint : typeLookup (.type "zip") "__length_hint__" = pure none := by rw [typeLookup_type, builtinLookup_eq_fast]; kernel_rfl
section
variable {prog : Program} {w : World} {A : Around} {E : Value → Shared → Prop} {s : Shared} {z TI TO i1 i2 l1 l2 : Addr} {xs ys : Array Value}
theorem zl_call {Q : Value → Shared → Prop} (hh : A.handled = none) (D : ZipApart z TI TO i1 i2 l1 l2) (hz : IsZip s.heap z TI TO .none) (hTI : IsPair s.heap TI (.ref i1) (.ref i2)) (hTO : ∃ a b, IsPair s.heap TO a b) (h1 : s.heap.IsListIter i1 l1 0) (h2 : s.heap.IsListIter i2 l2 0) (hl1 : s.heap.IsList l1 xs) (hl2 : s.heap.IsList l2 ys)
    (hsz : ys.size = xs.size) (hn : xs.size ≤ sizeLine)
    (hQ : ∀ h' acc c as, (∀ b o, b ≠ z → b ≠ TO → b ≠ i1 → b ≠ i2 → s.heap.get? b = some o → h'.get? b = some o) → h'.get? s.heap.objs.size = some { cls := .type "list", dict := none, data := .seq acc c, slots := #[] } → as.length = xs.size → ZlG xs ys s.heap.objs.size h' as →
      acc.toList = as.map Value.ref → Q (.ref s.heap.objs.size) { s with heap := h' }) :
    wpAny (model prog w) A (call (.type "list") [.ref z]) Q E s := by
  have lt : ∀ {c o}, s.heap.get? c = some o → s.heap.objs.size ≠ c := fun e => Nat.ne_of_gt (Heap.lt_size e)
  have ltz : z < s.heap.objs.size := Heap.lt_size hz
  have ltTO : TO < s.heap.objs.size := let ⟨_, _, e⟩ := hTO; Heap.lt_size e
  have lti1 : i1 < s.heap.objs.size := let ⟨_, e, _⟩ := h1; Heap.lt_size e
  have lti2 : i2 < s.heap.objs.size := let ⟨_, e, _⟩ := h2; Heap.lt_size e
  have O : ZOff s.heap.objs.size z TI TO i1 i2 l1 l2 := ⟨lt hz, lt hTI, let ⟨_, _, e⟩ := hTO; lt e, let ⟨_, e, _⟩ := h1; lt e, let ⟨_, e, _⟩ := h2; lt e, let ⟨_, e, _⟩ := hl1; lt e, let ⟨_, e, _⟩ := hl2; lt e⟩
  refine callType_codes (Q₁ := fun obj s₁ => obj = .ref s.heap.objs.size ∧ s₁ = { s with heap := s.heap.push { cls := .type "list", data := .seq #[] } }) PySem.F.called_list (PySem.F.typeCall_list_1 _) PySem.F.entry_list_init
    (code_list_new _ ⟨rfl, rfl⟩) fun obj s₁ h₁ => ?_
  obtain ⟨rfl, rfl⟩ := h₁
  have hS : (s.heap.push { cls := .type "list", data := .seq #[] }).get? s.heap.objs.size = some { cls := .type "list", data := .seq #[] } := Heap.get?_push_size _ rfl
  have st0 : ZSt z TI TO i1 i2 l1 l2 s.heap.objs.size xs ys 0 s.heap := ⟨hTI, h1, h2, hl1, hl2, .inl ⟨hz, hTO⟩⟩
  refine ⟨⟨_, hS, rfl⟩, PySem.F.args_list_init_2 _ _, ?_⟩
  show wpAny _ A.in1.in1 (do let old ← Builtin.List.listItems (.ref s.heap.objs.size); Builtin.List.listUpdate (.ref s.heap.objs.size) (fun _ => #[]); letGo old.toList.reverse; Builtin.List.listExtendWith (.ref s.heap.objs.size) (.ref z) .none) _ _ _
  refine wpAny_bind ?_
  unfold Builtin.List.listItems
  refine wpAny_bind (wpAny_seqItems hS rfl (wpAny_pure ?_))
  show wpAny _ A.in1.in1 (updateSeq s.heap.objs.size (fun _ => #[]) >>= fun _ => letGo (#[] : Array Value).toList.reverse >>= fun _ => Builtin.List.listExtendWith (.ref s.heap.objs.size) (.ref z) .none) _ _ _
  refine wpAny_bind (wpAny_updateSeq hS rfl ?_)
  have hS2 := Heap.get?_update_self (Obj.mapSeq (fun _ => (#[] : Array Value))) hS rfl
  refine wpAny_bind (wpAny_letGo ?_)
  unfold Builtin.List.listExtendWith
  have k2 : ∀ b o, s.heap.get? b = some o → ((s.heap.push { cls := .type "list", data := .seq #[] }).update s.heap.objs.size (Obj.mapSeq (fun _ => (#[] : Array Value)))).get? b = some o := fun b o e =>
    (Heap.get?_update_other _ _ (Ne.symm (Nat.ne_of_lt (Heap.lt_size e)))).trans (Heap.get?_push_of_some _ e)
  have zT : ∀ {h : Heap}, (∀ b o, s.heap.get? b = some o → h.get? b = some o) → Shared.TypeIs { s with heap := h } (.ref z) "zip" := fun {h} q => ⟨_, q z _ hz, rfl⟩
  refine wpAny_bind (wpAny_typeOf (zT k2) ?_)
  have e1 : Builtin.List.listSameRef (.ref s.heap.objs.size) (.ref z) = false := by simp [Builtin.List.listSameRef, O.z]
  have e2 : (Value.type "zip" == Value.type "list") = false := by decide
  have e3 : (Value.type "zip" == Value.type "tuple") = false := by decide
  simp only [e1, e2, e3, Bool.or_false, Bool.false_eq_true, if_false]
  refine wpAny_bind (wpAny_pyIter_zip (k2 z _ hz) ?_)
  refine wpAny_bind (wpAny_holding ?_)
  unfold Builtin.List.listLengthHint
  refine wpAny_bind (wpAny_specialOf (zT k2) zip_no_len ?_)
  show wpAny _ A.in1.in1 (specialOf (Value.ref z) (Str.ofString "__length_hint__") >>= _) _ _ _
  refine wpAny_bind (wpAny_specialOf (zT k2) zip_no_hint ?_)
  refine wpAny_pure ?_
  have fin : ∀ (h : Heap) (c : Nat), (∀ b o, s.heap.get? b = some o → h.get? b = some o) → h.get? s.heap.objs.size = some { cls := .type "list", data := .seq #[] c } →
      codeAny (model prog w) A.in1 (.builtin "list.extend.loop" ⟨[.ref s.heap.objs.size, .ref z, .none], []⟩) (wants (fun r s₂ => r = Value.none ∧ Q (Value.ref s.heap.objs.size) s₂) E) { s with heap := h } := fun h c hk hSh =>
    zl_loop (A := A.in1) (s := s) (h₁ := s.heap) (lo := s.heap.objs.size) hh D O (Nat.le_refl _) ⟨Nat.le_of_lt ltz, Nat.le_of_lt ltTO, Nat.le_of_lt lti1, Nat.le_of_lt lti2⟩ hsz hn .none
      (fun h' acc c as hk' hS' hl hG hacc => ⟨rfl, hQ h' acc c as (fun b o b1 b2 b3 b4 e => hk' b o (Nat.ne_of_lt (Heap.lt_size e)) b1 b2 b3 b4 e) hS' hl hG hacc⟩)
      xs.size 0 h c #[] [] (Nat.sub_zero _) (Nat.zero_le _) (by
        obtain ⟨a1, a2, a3, a4, a5, a6⟩ := st0
        refine ⟨hk _ _ a1, a2.at fun o e => hk _ o e, a3.at fun o e => hk _ o e, a4.at fun o e => hk _ o e, a5.at fun o e => hk _ o e, .inl ⟨hk _ _ hz, ?_⟩⟩
        obtain ⟨a, b, e⟩ := hTO
        exact ⟨a, b, hk _ _ e⟩)
      (fun b o _ _ _ _ _ e => hk b o e) hSh rfl rfl ⟨List.Pairwise.nil, (fun _ ha => nomatch ha), (fun j a hj => by simp at hj)⟩ (Heap.lt_size hSh)
  show wpAny _ A.in1.in1 (rule "list.extend.makes-room" >>= fun _ => Builtin.List.listTouch (.ref s.heap.objs.size) >>= fun _ =>
    again (.builtin "list.extend.loop" ⟨[.ref s.heap.objs.size, .ref z, .none], []⟩)) _ _ _
  refine wpAny_bind (wpAny_rule ?_)
  refine wpAny_bind ?_
  show wpAny _ A.in1.in1 (updateSeq s.heap.objs.size (·.push .none) >>= fun _ => updateSeq s.heap.objs.size (·.pop)) _ _ _
  refine wpAny_bind (wpAny_updateSeq hS2 rfl ?_)
  have hS3 := Heap.get?_update_self (Obj.mapSeq (·.push Value.none)) hS2 rfl
  refine wpAny_updateSeq (hz := by seq_fits) hS3 rfl ?_
  have hS4 := Heap.get?_update_self (Obj.mapSeq (·.pop)) hS3 rfl
  refine wpAny_pure ⟨plainId_quiet PySem.F.plain_extend_loop _, fin _ _ (fun b o e => ?_) hS4⟩
  have hb : b ≠ s.heap.objs.size := Nat.ne_of_lt (Heap.lt_size e)
  exact (Heap.get?_update_other _ _ (Ne.symm hb)).trans ((Heap.get?_update_other _ _ (Ne.symm hb)).trans (k2 b o e))
end
/-! the tuples tracked at their addresses -/
def putZ : Hp → List Addr → List (V × V) → Hp
  | H, a :: as, p :: ps => putZ (upd H a (.tup [p.1, p.2])) as ps
  | H, _, _ => H
theorem putZ_off {b : Addr} : ∀ (as : List Addr) (ps : List (V × V)) (H : Hp), b ∉ as → putZ H as ps b = H b
  | [], _, _, _ => rfl
  | _ :: _, [], _, _ => rfl
  | a :: as, p :: ps, H, h => by
    show putZ (upd H a (.tup [p.1, p.2])) as ps b = H b
    rw [putZ_off as ps _ (fun z => h (List.mem_cons_of_mem _ z)), upd_ne (fun z => h (by rw [z]; exact List.mem_cons_self))]
theorem putZ_at : ∀ (as : List Addr) (ps : List (V × V)) (H : Hp), as.length = ps.length → as.Nodup → Paired (fun (t : Addr) (p : V × V) => putZ H as ps t = some (.tup [p.1, p.2])) as ps
  | [], [], _, _, _ => .nil
  | [], _ :: _, _, h, _ => by cases h
  | _ :: _, [], _, h, _ => by cases h
  | a :: as, p :: ps, H, h, hn => by
    have hn' := List.nodup_cons.mp hn
    have ih := putZ_at as ps (upd H a (.tup [p.1, p.2])) (Nat.succ.inj h) hn'.2
    refine .cons ?_ ih
    show putZ (upd H a (.tup [p.1, p.2])) as ps a = some (.tup [p.1, p.2])
    rw [putZ_off as ps _ hn'.1, upd_same]
theorem zip_get : ∀ {xs ys : List V} {j : Nat} {q : V × V}, (xs.zip ys)[j]? = some q → xs[j]? = some q.1 ∧ ys[j]? = some q.2
  | [], _, _, _, h => by simp at h
  | _ :: _, [], _, _, h => by simp at h
  | x :: xs, y :: ys, 0, q, h => by
    have e : (x, y) = q := by simpa using h
    subst e
    exact ⟨rfl, rfl⟩
  | x :: xs, y :: ys, j + 1, q, h => zip_get (xs := xs) (ys := ys) (j := j) (by simpa using h)
def ZipQ (xs ys : List V) (H : Hp) (Q : VK) : Prop := ∀ (H' : Hp) (p : Addr) (ts : List Addr), Same H H' → H p = none → (∀ t ∈ ts, H t = none) → p ∉ ts → H' p = some (.lst (ts.map V.ref)) → Paired (fun (t : Addr) (q : V × V) => H' t = some (.tup [q.1, q.2])) ts (xs.zip ys) → Q (.ref p) H'
def rZipL (K : PySem.W.Frag) : List V → Hp → VK → Prop := fun vs H Q => ∃ (a b : Addr) (xs ys : List V), vs = [.ref a, .ref b] ∧ SqL K H a xs ∧ SqL K H b ys ∧ xs.length = ys.length ∧ xs.length ≤ sizeLine ∧ ZipQ xs ys H Q
def tZipL (K : PySem.W.Frag) (ta : TA) : TE := fun σ H Q => ta σ H fun vs H1 => rZipL K vs H1 Q
section
variable {X : Cx}
theorem zip_laid {pins : List (Addr × Obj)} {σ : L2.St} {H : Hp} {s : Shared} {h' : Heap} {tk : Nat} {S : Addr} {xs ys : List V} {us us2 : List Value} {acc : Array Value} {c : Nat} {as : List Addr} (I : Inv X pins σ H s) (rv : Vals xs us) (rv2 : Vals ys us2) (hl2 : xs.length = ys.length) (hz : xs.length ≤ sizeLine)
    (hk : ∀ b o, s.heap.get? b = some o → h'.get? b = some o) (hS0 : s.heap.objs.size ≤ S) (hS : h'.get? S = some { cls := .type "list", dict := none, data := .seq acc c, slots := #[] }) (hl : as.length = xs.length) (hG : ZlG us.toArray us2.toArray S h' as) (hacc : acc.toList = as.map Value.ref) :
    ∃ H' : Hp, Same H H' ∧ H S = none ∧ (∀ t ∈ as, H t = none) ∧ S ∉ as ∧ H' S = some (.lst (as.map V.ref)) ∧ Paired (fun (t : Addr) (q : V × V) => H' t = some (.tup [q.1, q.2])) as (xs.zip ys) ∧ Inv X pins σ H' { s with heap := h', toks := tk } := by
  have lz : as.length = (xs.zip ys).length := by rw [List.length_zip]; omega
  have hSn : S ∉ as := fun z => Nat.lt_irrefl _ (hG.above _ z)
  have nd : as.Nodup := List.Pairwise.imp (fun {a b} (h : a < b) => Nat.ne_of_lt h) hG.rise
  have new : ∀ t ∈ as, H t = none := fun t ht => I.hok.fresh (Nat.le_trans hS0 (Nat.le_of_lt (hG.above t ht)))
  have newS : H S = none := I.hok.fresh hS0
  have atP := putZ_at as (xs.zip ys) (upd H S (.lst (as.map V.ref))) lz nd
  have off : ∀ b, b ∉ as → b ≠ S → putZ (upd H S (.lst (as.map V.ref))) as (xs.zip ys) b = H b := fun b h1 h2 => by rw [putZ_off as _ _ h1, upd_ne h2]
  have low : ∀ b o, s.heap.get? b = some o → b ∉ as ∧ b ≠ S := fun b o e => ⟨fun z => absurd (Heap.lt_size e) (Nat.not_lt.mpr (Nat.le_trans hS0 (Nat.le_of_lt (hG.above b z)))), Nat.ne_of_lt (Nat.lt_of_lt_of_le (Heap.lt_size e) hS0)⟩
  have kp : ∀ b u, H b = some u → (putZ (upd H S (.lst (as.map V.ref))) as (xs.zip ys)) b = some u := fun b u e => by
    rw [off b (fun z => by rw [new b z] at e; cases e) (fun z => by rw [z, newS] at e; cases e)]
    exact e
  have eS : putZ (upd H S (.lst (as.map V.ref))) as (xs.zip ys) S = some (.lst (as.map V.ref)) := by rw [putZ_off as _ _ hSn, upd_same]
  refine ⟨putZ (upd H S (.lst (as.map V.ref))) as (xs.zip ys), kp, newS, new, hSn, eS, atP, ?_⟩
  refine I.call' (ch := []) rfl ⟨fun b o q _ _ _ => hk b o q, fun b o q _ _ _ => ⟨o.slots, hk b o q⟩, fun b o q n _ => ?_, fun b o q _ => ⟨o, hk b o q⟩, fun b xs q => kp b _ q, fun b o u q => kp b _ q, fun b ps q => ⟨#[], by rw [kp b _ q]; simp⟩⟩ (fun b u q => ?_) I.bare fun b z => by simp at z
  · obtain ⟨z1, z2⟩ := low b o q
    rw [off b z1 z2]
    exact n
  · by_cases hb : b ∈ as
    · obtain ⟨j, pk, e1, e2, e3⟩ := LiI.paired_ix atP hb
      rw [e3] at q
      cases q
      obtain ⟨x, y, f1, f2, f3⟩ := hG.pairs j b e1
      obtain ⟨g1, g2⟩ := zip_get e2
      obtain ⟨u, hu, ru⟩ := rv.get g1
      obtain ⟨u2, hu2, ru2⟩ := rv2.get g2
      have f1' : us[j]? = some x := by simpa using f1
      have f2' : us2[j]? = some y := by simpa using f2
      rw [hu] at f1'
      cases f1'
      rw [hu2] at f2'
      cases f2'
      exact ⟨by show 2 ≤ sizeLine; decide, [x, y], .cons ru (.cons ru2 .nil), ⟨_, f3, rfl, _, rfl⟩⟩
    · by_cases hb2 : b = S
      · rw [hb2] at q ⊢
        rw [eS] at q
        cases q
        refine ⟨by rw [List.length_map]; omega, acc.toList, c, by rw [hacc]; exact LiI.vals_refs as, ?_⟩
        rw [Array.toArray_toList]
        exact hS
      · rw [off b hb hb2] at q
        exact (I.hok b u q).stay (fun d v _ y => hk d v y) (fun d y => kp d _ y) fun d xs y => kp d _ y
/-- list(zip(e, e2)) -/
theorem pe_listZip {e e2 : Expr} {ta : TA} {p p2 cpos pos : Pos} (hc : X.calm = true) (ha : PA X [e, e2] ta) (hg : Gl X "list") (hm : X.mg "list" = none) (hv : bootBuiltins "list" = some (.type "list")) (hg2 : Gl X "zip") (hm2 : X.mg "zip" = none)
    (hs : starEach [.Call (.Name "zip" p2) [e, e2] [] cpos] X.env = (false, eval (.Call (.Name "zip" p2) [e, e2] [] cpos) X.env) :: starEach [] X.env := by rfl)
    (hs2 : starEach [e, e2] X.env = (false, eval e X.env) :: starEach [e2] X.env := by rfl) (hpl : (backTo cpos (starEach [e2] X.env)).any (·.1) = false := by rfl) :
    PE X (.Call (.Name "list" p) [.Call (.Name "zip" p2) [e, e2] [] cpos] [] pos) (tZipL X.K ta) := by
  refine ⟨fun pins s σ H Q I hq => ?_⟩
  refine wpAny_Call_Name_kw (ld_blt I hg hm hv ?_)
  refine PyProof.Rows.callWith_type1 ?_ hs rfl
  rw [hs]
  show wpAny _ _ (spliced ((false, eval (.Call (.Name "zip" p2) [e, e2] [] cpos) X.env) :: backTo pos (starEach [] X.env))) _ _ s
  refine Calls.spliced_cons ?_
  refine Call_ (ld_blt I hg2 hm2 PyProof.Rows.boot_zip (PyProof.Rows.callWith_type1 (thn (ha.run cpos pins s σ H _ I hq) fun us s1 ⟨vs, H1, I1, r1, q1⟩ => ?_) hs2 hpl))
  obtain ⟨a, b, xs, ys, ex, hqx, hqy, hl2, hz, hQ⟩ := q1
  subst ex
  cases r1 with
  | cons r rr =>
    cases rr with
    | cons r' rr =>
      cases rr
      cases r
      cases r'
      obtain ⟨its, rv, p1, _⟩ := I1.list hqx
      obtain ⟨its2, rv2, p3, _⟩ := I1.list hqy
      have la := p1.lt
      have lb := p3.lt
      have l1 := rv.length
      have l2 := rv2.length
      refine call_zip_2 p1.isList p3.isList fun h' hz' hTI hTO h1 h2 hsz hk => ?_
      refine Calls.spliced_nil ?_
      refine zl_call (I1.ok.hd hc) (PySem.W.ktu_apart s1.heap.objs.size a b la lb) hz' hTI ⟨_, _, hTO⟩ h1 h2 (p1.isList.at fun o q => hk _ o q) (p3.isList.at fun o q => hk _ o q) (by simp; omega) (by simp; omega) fun h'' acc c as hk2 hS hl hG hacc => ?_
      have ne : ∀ {c o k}, s1.heap.get? c = some o → c ≠ s1.heap.objs.size + k := fun {c o k} q z => by
        have := Heap.lt_size q
        rw [z] at this
        exact absurd this (Nat.not_lt.mpr (Nat.le_add_right _ _))
      have hk3 : ∀ b o, s1.heap.get? b = some o → h''.get? b = some o := fun b o q => hk2 b o (ne q) (ne q) (ne (k := 0) q) (ne q) (hk b o q)
      obtain ⟨H', a1, a2, a3, a4, a5, a6, J⟩ := zip_laid (tk := s1.toks) I1 rv rv2 hl2 hz hk3 (by show s1.heap.objs.size ≤ h'.objs.size; rw [hsz]; exact Nat.le_add_right _ _) hS (by rw [hl]; simp; omega) hG hacc
      exact ⟨.ref _, H', J, rfl, hQ H' _ as a1 a2 a3 a4 a5 a6⟩
end
end U
namespace U
open PySem PySem.Spec PyProof.Rows L2
/-! ## a def with its code object -/
structure FunC (K : PySem.W.Frag) (x qual : Str) (st : Stmt) (f c : Addr) (fd : FuncData) : Prop where
  ex : ∃ (oc : Value) (od : Option Addr) (kV doc pm : Value) (an : Option Addr) (ct : Value) (osl : Array (Option Value)),
    fd = PySem.W.fnOf x qual (defArgs st) (defBody st) (defScope st) .none kV doc pm an (.ref c) ct ∧ K.lookup f = some ⟨oc, od, .func fd, osl⟩ ∧ PySem.W.codeIn K (.ref c) qual = true
  kp : PySem.W.keepIn K (.ref f) = true
section
variable {P : Program} {w : World} {K : PySem.W.Frag} {mg : Str → Option Value} {base : Heap}
theorem FunC.ok {x qual : Str} {st : Stmt} {f c : Addr} {fd : FuncData} {N ps : List Str} {k : Nat} {sp : Sp} (F : FunC K x qual st f c fd) (S : FnScope N ps (defScope st)) (len : ∀ vs H Q E, sp vs H Q E → vs.length = ps.length)
    (hbody : ∀ (A : Around) (outer : List Env) (s : Shared) (H : Hp) (vs : List V) (Q : VK) (E : XK), Room k (A.deeper (envOfC qual (defScope st) s.heap.objs.size f (.ref c))) → sp vs H Q E →
      ∃ t, PSs (cxOf CX0 P w K mg base N qual (defScope st) f (.ref c) A outer s H E).nox (defBody st) t ∧ t { nx := fun _ H' => Q .non H', rt := Q } (start N vs) H) : FnOk P w K mg base CX0 (k + 1) f fd ps sp := by
  obtain ⟨oc, od, kV, doc, pm, an, ct, osl, rfl, lk, hcd⟩ := F.ex
  refine fn_of lk hcd S len fun A outer s H vs Q E hr hsp => ?_
  obtain ⟨t, h, q⟩ := hbody A outer s H vs Q E hr hsp
  exact ⟨t, h.nox, q⟩
theorem funC_mk {x qual : Str} {st : Stmt} {f c : Addr} {oc : Value} {od an : Option Addr} {osl : Array (Option Value)} {kV doc pm ct : Value} (l : K.lookup f = some ⟨oc, od, .func (PySem.W.fnOf x qual (defArgs st) (defBody st) (defScope st) .none kV doc pm an (.ref c) ct), osl⟩)
    (cc : PySem.W.codeIn K (.ref c) qual = true) (k : PySem.W.keepIn K (.ref f) = true) : FunC K x qual st f c (PySem.W.fnOf x qual (defArgs st) (defBody st) (defScope st) .none kV doc pm an (.ref c) ct) := ⟨⟨oc, od, kV, doc, pm, an, ct, osl, rfl, l, cc⟩, k⟩
end
/-! ## try: return a() / except Thrown as e: return [e.value] -/
def TSaid (K : PySem.W.Frag) (TH : Addr) : (XK → Hp → VK → Prop) → Hp → VK → Prop := fun tl H Q =>
  tl (fun cls d H' => cls = .ref TH ∧ ∃ dd v, d = some dd ∧ H' dd = some (.xd [("value", v)]) ∧ ∀ p G, H' p = none → Same H' G → G p = some (.lst [v]) → Q (.ref p) G) H Q
theorem takes_len {X : Cx} {W : WX} (t : Takes X W) : Takes X (fun c d σ H => σ.length = X.N.length → W c d σ H) := fun u s' ⟨a, B, sI, pins, σ, H, cls, d, e, I, nb, up, sky, na, os, ag, w⟩ =>
  t u s' ⟨a, B, sI, pins, σ, H, cls, d, e, I, nb, up, sky, na, os, ag, w I.len⟩
section
variable {X : Cx}
theorem said_gives {Ng : List Str} {x a e q : Str} {sg : Scope} {g TH : Addr} {cdg : Value} {p1 p2 p3 p4 p5 p6 p7 p8 p9 p10 : Pos} (hN : Ng = [a, "e"]) (nd : Ng.Nodup) (hle : sg.names.lookup (PySem.Str.ofString "e") = some NameKind.local) (hge : sg.names.lookup e = some .globalImplicit) (hme : X.mg e = some (.ref TH)) (hde : (e == ("__debug__" : Str)) = false)
    (xf : XfC X.K TH) (nv : PySem.W.findIn X.K (.ref TH) "value" = some none) (hb1 : PySem.W.exmOne X.K (.ref TH) (.ref TH) = some true) :
    LamX.GivesTo X Ng x sg g cdg [.Try [.Return (some (.Call (.Name a p1) [] [] p2)) p3] [.ExceptHandler (some (.Name e p4)) (some "e") [.Return (some (.List [.Attribute (.Name "e" p5) "value" p6] p7)) p8] p9] [] [] p10] a q (TSaid X.K TH) := by
  subst hN
  intro f c' s H Q tl act hc h
  have hgl : Gl (cxOf C8.CX0 X.prog X.w X.K X.mg X.base [a, "e"] x sg g cdg X.A X.stack s H C8.E0).nox e := hge
  refine ⟨_, pss_one (ps_try_as (X := (cxOf C8.CX0 X.prog X.w X.K X.mg X.base [a, "e"] x sg g cdg X.A X.stack s H C8.E0).nox) (c := .ref TH) (i := 1)
      (tb := fun W D σ H => ∃ Ech : XK, (∀ cls d σ' H', Ech cls d H' → σ'.length = 2 → W cls d σ' H') ∧ σ[0]? = some (some (.ref f)) ∧ H c' = some (LamX.CodeO c' q) ∧ tl Ech H D.rt)
      rfl rfl nd rfl hle ⟨hgl, hde, .inl hme⟩ LamX.takes0 (fun W pn xe tk _ => ?_) (fun a oe cls d pn hz hf => pss_one (ps_ret (pe_lst (pa_cons (pe_xf xf nv hz hf (pv 1 rfl (.inl hle))) pa_nil))))), ?_⟩
  · refine ⟨fun pins s' σ H' D I h' => ?_⟩
    obtain ⟨Ech, hW, h1, h2, h3⟩ := h'
    have hp := act (fun c d σ H => σ.length = 2 → W c d σ H) pn xe Ech p1 p2 (takes_len tk) hW
    have hq := pss_one (ps_ret (pos := p3) hp)
    exact hq.run pins s' σ H' D I ⟨h1, h2, h3⟩
  · refine ⟨fun cls d H' => cls = .ref TH ∧ ∃ dd v, d = some dd ∧ H' dd = some (.xd [("value", v)]) ∧ ∀ p G, H' p = none → Same H' G → G p = some (.lst [v]) → Q (.ref p) G, fun cls d σ' H' he hl => ?_, rfl, hc, h⟩
    obtain ⟨rfl, dd, v, rfl, hd, hq⟩ := he
    refine ⟨true, hb1, fun _ a ha => ?_, fun z => nomatch z⟩
    match σ', hl with
    | [s0, s1], _ =>
      refine l_ret (l_lst (l_cons ?_))
      refine ⟨_, rfl, rfl, rfl, dd, _, v, rfl, hd, rfl, ?_⟩
      exact ⟨(Nat.le_of_ble_eq_true rfl : 1 ≤ sizeLine), fun p hp => hq p _ hp (sameUpd hp) upd_same⟩
/-- _law_said, handed a lambda -/
structure SaidC (P : Program) (w : World) (K : PySem.W.Frag) (mg : Str → Option Value) (TH : Addr) (x a : Str) (st : Stmt) : Prop where
  ex : ∃ (f : Addr) (fd : FuncData), mg x = some (.ref f) ∧ Fun K x x st f fd ∧ L2.Binds K fd [a] []
theorem pe_said {T : List (Addr × Str)} {TH c P : Addr} {k k0 : Nat} {x a : Str} {st : Stmt} {params : Arguments} {body : Expr} {scope : Scope} {t : XK → TE} {p lpos pos p1 p2 p3 p4 p5 p6 p7 p8 p9 p10 : Pos} (S : SaidC X.prog X.w X.K X.mg TH x a st) (hg : Gl X x)
    (Sg : FnScope [a, "e"] [a] (defScope st)) (hb : defBody st = [.Try [.Return (some (.Call (.Name a p1) [] [] p2)) p3] [.ExceptHandler (some (.Name "Thrown" p4)) (some "e") [.Return (some (.List [.Attribute (.Name "e" p5) "value" p6] p7)) p8] p9] [] [] p10])
    (hla : (defScope st).names.lookup a = some NameKind.local) (hle : (defScope st).names.lookup (PySem.Str.ofString "e") = some NameKind.local) (hge : (defScope st).names.lookup (PySem.Str.ofString "Thrown") = some .globalImplicit) (hme : X.mg "Thrown" = some (.ref TH))
    (xf : XfC X.K TH) (nv : PySem.W.findIn X.K (.ref TH) "value" = some none) (hb1 : PySem.W.exmOne X.K (.ref TH) (.ref TH) = some true)
    (TB : LamX.TabB X.base X.mg c P) (hcode : X.env.code = .ref c) (hmT : (P, X.env.qual ++ "<lambda>") ∈ T) (hu : ∀ p ∈ T, p.1 = P → p.2 = X.env.qual ++ "<lambda>") (hr : Room k0 X.A) (L : LamX.lamSB X.env.scope scope = true) (hdef : defaultsOf params X.env = ([], []))
    (hbind : ∀ (q : Str) (cl : List (Str × Addr)) (pm cv ctv : Value), bindArgs (PySem.W.kla_fn "<lambda>" q params body scope cl pm cv ctv) ⟨[], []⟩ = pure [])
    (hbody : ∀ (A : Around) (outer : List Env) (s : Shared) (H : Hp) (E : XK) (f c' : Addr), Room k (A.deeper (LamX.lamEnv X scope s.heap.objs.size f c')) → PE (LamX.lamCx X A outer s H E scope f c') body (t E))
    (hk : k + 2 ≤ k0 := by decide) (hdb : (x == ("__debug__" : Str)) = false := by decide) (hd : (a == ("__debug__" : Str)) = false := by decide) (hcd : (a == ("__classdict__" : Str)) = false := by decide) :
    PE X (.Call (.Name x p) [.Lambda params body scope lpos] [] pos) (LamX.tLam T (TSaid X.K TH) t) := by
  obtain ⟨f, fd, hm, F, hbd⟩ := S.ex
  obtain ⟨oc, od, kV, doc, pm, an, cdv, ct, osl, rfl, lk, hcd2⟩ := F.ex
  rw [hb] at lk hbd
  refine LamX.pe_lamcall hg hm F.kp lk hcd2 hbd Sg rfl (.inl hla) ?_ TB hcode hmT hu (hr.mono hk) (LamX.lamS_by L) hdef hbind hbody hdb hd hcd
  exact said_gives rfl Sg.nd hle hge hme (by decide) xf nv hb1
end
end U
namespace U
open PySem L2
def ZipAt (H : Hp) (p : Addr) (xs ys : List V) : Prop := ∃ ts : List Addr, H p = some (.lst (ts.map V.ref)) ∧ Paired (fun (t : Addr) (q : V × V) => H t = some (.tup [q.1, q.2])) ts (xs.zip ys)
section
variable {K : PySem.W.Frag} {σ : St} {H : Hp} {Q : VK} {ta : TA}
theorem l_tZip (h : ta σ H fun vs H1 => rZipL K vs H1 Q) : tZipL K ta σ H Q := h
theorem l_rZip {a b : Addr} {xs ys : List V} (h1 : H a = some (.lst xs)) (h2 : H b = some (.lst ys)) (hl : xs.length = ys.length) (hz : xs.length ≤ sizeLine) (q : ∀ p H', H p = none → Same H H' → ZipAt H' p xs ys → Q (.ref p) H') : rZipL K [.ref a, .ref b] H Q :=
  ⟨a, b, xs, ys, rfl, SqL.of h1, SqL.of h2, hl, hz, fun H' p ts hs hp _ _ e1 e2 => q p H' hp hs ⟨ts, e1, e2⟩⟩
theorem l_rZipB {a b : Addr} {n m : Int} (h1 : H a = some (.lst ((bitsL 64 n).map V.int))) (h2 : H b = some (.lst ((bitsL 64 m).map V.int))) (q : ∀ p H', H p = none → Same H H' → ZipAt H' p ((bitsL 64 n).map V.int) ((bitsL 64 m).map V.int) → Q (.ref p) H') : rZipL K [.ref a, .ref b] H Q :=
  l_rZip h1 h2 (by rw [List.length_map, List.length_map, bitsL_len, bitsL_len]) (by rw [List.length_map, bitsL_len]; exact Nat.le_of_ble_eq_true rfl) q
end
theorem zipF_get {f : Int → Int → Int} : ∀ {as bs : List Int} {i : Nat} {a b : Int}, as[i]? = some a → bs[i]? = some b → (zipF f as bs)[i]? = some (f a b)
  | [], _, _, _, _, h, _ => by simp at h
  | _ :: _, [], _, _, _, _, h => by simp at h
  | x :: as, y :: bs, 0, a, b, h, h' => by
    have e : x = a := by simpa using h
    have e' : y = b := by simpa using h'
    subst e e'
    rfl
  | x :: as, y :: bs, i + 1, a, b, h, h' => zipF_get (as := as) (bs := bs) (i := i) (by simpa using h) (by simpa using h')
theorem zipF_len {f : Int → Int → Int} : ∀ (as bs : List Int), as.length = bs.length → (zipF f as bs).length = as.length
  | [], _, _ => by cases ‹List Int› <;> rfl
  | _ :: _, [], h => by simp at h
  | x :: as, y :: bs, h => congrArg (· + 1) (zipF_len as bs (by simpa using h))
/-- [f(a, b) for a, b in pairs] -/
theorem lc_zipB {K : PySem.W.Frag} {p : Addr} {H : Hp} {Q : VK} {te : TE} {f : Int → Int → Int} {as bs : List Int} {s0 s1 s2 s3 s4 s5 s6 s7 s8 s9 s10 : Option V} (hz : ZipAt H p (as.map V.int) (bs.map V.int)) (hl : as.length = bs.length) (hn : as.length < sizeLine)
    (ha : ∀ x ∈ as, 0 ≤ x ∧ x ≤ 1) (hb : ∀ x ∈ bs, 0 ≤ x ∧ x ≤ 1)
    (hte : ∀ (x y : Int) (H3 : Hp) (R : VK), 0 ≤ x ∧ x ≤ 1 → 0 ≤ y ∧ y ≤ 1 → R (.int (f x y)) H3 → te [s0, s1, s2, s3, s4, s5, s6, s7, s8, some (.int x), some (.int y)] H3 R)
    (q : ∀ r H', H r = none → Same H H' → H' r = some (.lst ((zipF f as bs).map V.int)) → Q (.ref r) H') :
    LcG (gTup K 2 (gCons (gName 9) (gCons (gName 10) gNil))) te [9, 10] [s0, s1, s2, s3, s4, s5, s6, s7, s8, s9, s10] Q (Itl K p) H := by
  obtain ⟨ts, hp, hpr⟩ := hz
  have lt : ts.length = as.length := by rw [Paired.length hpr, List.length_zip, List.length_map, List.length_map]; omega
  refine lc_all (fun i y _ => ((zipF f as bs).map V.int)[i]? = some y) hp (by rw [List.length_map]; omega) (fun i y H H' D acc _ _ h => h) ?_ ?_
  · intro i x H7 R R' hR hx sm
    obtain ⟨t, ht, rfl⟩ : ∃ t, ts[i]? = some t ∧ V.ref t = x := by
      rw [List.getElem?_map] at hx
      cases e : ts[i]? with
      | none => rw [e] at hx; cases hx
      | some t => rw [e] at hx; exact ⟨t, rfl, Option.some.inj hx⟩
    obtain ⟨y, e1, e2⟩ := LiI.paired_get hpr ht
    obtain ⟨g1, g2⟩ := zip_get e1
    have hi : i < as.length := by
      have := (List.getElem?_eq_some_iff.mp ht).1
      omega
    have hi2 : i < bs.length := by omega
    have a1 : as[i]? = some as[i] := List.getElem?_eq_getElem hi
    have b1 : bs[i]? = some bs[i] := List.getElem?_eq_getElem hi2
    rw [List.getElem?_map, a1] at g1
    rw [List.getElem?_map, b1] at g2
    have g1' : V.int as[i] = y.1 := Option.some.inj g1
    have g2' : V.int bs[i] = y.2 := Option.some.inj g2
    have e3 : H7 t = some (.tup [.int as[i], .int bs[i]]) := by rw [g1', g2']; exact sm _ _ e2
    refine ⟨t, _, rfl, SqT.of e3, rfl, ?_⟩
    refine ⟨_, _, rfl, _, _, rfl, rfl, ?_⟩
    refine ⟨rfl, l_tYes (iteT ?_)⟩
    refine hte _ _ _ _ (ha _ (List.getElem_mem _)) (hb _ (List.getElem_mem _)) (hR _ _ (Same.refl _) ?_)
    rw [List.getElem?_map, zipF_get a1 b1]
    rfl
  · intro D ys H7 hl7 hp7 hD sm hy
    have e : ys = (zipF f as bs).map V.int := by
      have l1 : ys.length = ((zipF f as bs).map V.int).length := by
        rw [hl7, List.length_map, List.length_map, zipF_len as bs hl, lt]
      refine List.ext_getElem? fun i => ?_
      by_cases hi : i < ys.length
      · have := hp7 i ys[i] (List.getElem?_eq_getElem hi)
        rw [List.getElem?_eq_getElem hi, this]
      · rw [List.getElem?_eq_none (by omega), List.getElem?_eq_none (by omega)]
    rw [e] at hy
    exact q _ _ hD sm hy
/-- [f(b) for b in bits] in the slots of a def -/
theorem lc_mapB {K : PySem.W.Frag} {p : Addr} {H : Hp} {Q : VK} {te : TE} {f : Int → Int} {bs : List Int} {i : Nat} {σ : St} (hz : H p = some (.lst (bs.map V.int))) (hn : bs.length < sizeLine) (hi : i < σ.length)
    (hte : ∀ (x : Int) (H3 : Hp) (R : VK), R (.int (f x)) H3 → te (σ.set i (some (.int x))) H3 R)
    (q : ∀ r H', H r = none → Same H H' → H' r = some (.lst ((bs.map f).map V.int)) → Q (.ref r) H') :
    LcG (gName i) te [i] σ Q (Itl K p) H := by
  refine lc_all (fun i y _ => ((bs.map f).map V.int)[i]? = some y) hz (by rw [List.length_map]; omega) (fun i y H H' D acc _ _ h => h) ?_ ?_
  · intro j x H7 R R' hR hx sm
    obtain ⟨b, hb, rfl⟩ : ∃ t, bs[j]? = some t ∧ V.int t = x := by
      rw [List.getElem?_map] at hx
      cases e : bs[j]? with
      | none => rw [e] at hx; cases hx
      | some t => rw [e] at hx; exact ⟨t, rfl, Option.some.inj hx⟩
    refine ⟨?_, l_tYes (iteT ?_)⟩
    · show ((σ.set i none).set i (some (V.int b))).set i none = σ.set i none
      rw [List.set_set, List.set_set]
    · show te ((σ.set i none).set i (some (V.int b))) H7 R
      rw [List.set_set]
      refine hte _ _ _ (hR _ _ (Same.refl _) ?_)
      rw [List.getElem?_map, List.getElem?_map, hb]
      rfl
  · intro D ys H7 hl7 hp7 hD sm hy
    have e : ys = (bs.map f).map V.int := by
      have l1 : ys.length = ((bs.map f).map V.int).length := by
        rw [hl7, List.length_map, List.length_map, List.length_map]
      refine List.ext_getElem? fun i => ?_
      by_cases hi : i < ys.length
      · have := hp7 i ys[i] (List.getElem?_eq_getElem hi)
        rw [List.getElem?_eq_getElem hi, this]
      · rw [List.getElem?_eq_none (by omega), List.getElem?_eq_none (by omega)]
    rw [e] at hy
    exact q _ _ hD sm hy
theorem zipF_01 {f : Int → Int → Int} (hf : ∀ x y, 0 ≤ x ∧ x ≤ 1 → 0 ≤ y ∧ y ≤ 1 → 0 ≤ f x y ∧ f x y ≤ 1) : ∀ {as bs : List Int}, Bits01 as → Bits01 bs → Bits01 (zipF f as bs)
  | [], _, _, _ => by intro b h; cases ‹List Int› <;> cases h
  | _ :: _, [], _, _ => by intro b h; cases h
  | x :: as, y :: bs, ha, hb => by
    intro b h
    rcases List.mem_cons.mp h with e | h
    · rw [e]
      exact hf _ _ (ha _ List.mem_cons_self) (hb _ List.mem_cons_self)
    · exact zipF_01 hf (fun z hz => ha z (List.mem_cons_of_mem _ hz)) (fun z hz => hb z (List.mem_cons_of_mem _ hz)) b h
theorem not_01 {bs : List Int} (h : Bits01 bs) : Bits01 (bs.map fun b => 1 - b) := fun b hb => by
  obtain ⟨a, ha, rfl⟩ := List.mem_map.mp hb
  have := h a ha
  omega
theorem mul01 {x y : Int} (hx : 0 ≤ x ∧ x ≤ 1) (hy : 0 ≤ y ∧ y ≤ 1) : 0 ≤ x * y ∧ x * y ≤ 1 := by
  have : x = 0 ∨ x = 1 := by omega
  rcases this with rfl | rfl <;> omega
theorem fX_ne {x y : Int} : (if (!decide (V.int x = V.int y)) = true then (1 : Int) else 0) = fXor x y := by
  unfold fXor
  by_cases h : x = y
  · subst h; simp
  · rw [if_neg h, if_pos (by simpa using h)]
theorem l_rILz {K : PySem.W.Frag} {H : Hp} {p : Addr} {xs ys : List V} {R : It → Hp → Prop} (h : ZipAt H p xs ys) (q : R (Itl K p) H) : rIL K (.ref p) H R := by
  obtain ⟨ts, e, _⟩ := h
  exact l_rIL (SqL.of e) q
theorem cmul01 {x y : Int} (hx : 0 ≤ x ∧ x ≤ 1) : CMul x y := .inl ⟨by omega, by omega⟩
theorem bits_ok {n : Int} : ∀ x ∈ bitsL 64 n, 0 ≤ x ∧ x ≤ 1 := bits_01 64 n
theorem bits_lens {n m : Int} : (bitsL 64 n).length = (bitsL 64 m).length := by rw [bitsL_len, bitsL_len]
theorem bits_lt {n : Int} : (bitsL 64 n).length < sizeLine := by rw [bitsL_len]; exact Nat.le_of_ble_eq_true rfl
/-- the law's own reckoning of a bit word ends with the number of the found bits -/
theorem l_numZ {f : Int → Int → Int} {n m : Int} {r : Addr} {H : Hp} {Q : VK} {E : XK} (hf : ∀ x y, 0 ≤ x ∧ x ≤ 1 → 0 ≤ y ∧ y ≤ 1 → 0 ≤ f x y ∧ f x y ≤ 1) (h : H r = some (.lst ((zipF f (bitsL 64 n) (bitsL 64 m)).map V.int))) (q : Q (.int (svL (zipF f (bitsL 64 n) (bitsL 64 m)))) H) : spNumO ([.ref r] ++ []) H Q E :=
  l_numO h (by rw [zipF_len _ _ bits_lens, bitsL_len]) (zipF_01 hf (bits_01 64 n) (bits_01 64 m)) q
theorem fits63 {n : Int} (h : fitsI n) : -2 ^ 63 ≤ n ∧ n < 2 ^ 63 := by
  obtain ⟨a, b⟩ := h
  have e : (2 : Int) ^ 63 = 9223372036854775808 := by decide
  omega
theorem due_and {n m : Int} (hn : fitsI n) (hm : fitsI m) : svL (zipF (fun a b => a * b) (bitsL 64 n) (bitsL 64 m)) = W5.f .band n m := sv_and (fits63 hn).1 (fits63 hn).2 (fits63 hm).1 (fits63 hm).2
theorem due_or {n m : Int} (hn : fitsI n) (hm : fitsI m) : svL (zipF max (bitsL 64 n) (bitsL 64 m)) = W5.f .bor n m := sv_or (fits63 hn).1 (fits63 hn).2 (fits63 hm).1 (fits63 hm).2
theorem due_xor {n m : Int} (hn : fitsI n) (hm : fitsI m) : svL (zipF fXor (bitsL 64 n) (bitsL 64 m)) = W5.f .bxor n m := sv_xor (fits63 hn).1 (fits63 hn).2 (fits63 hm).1 (fits63 hm).2
theorem due_not {n : Int} (hn : fitsI n) : svL ((bitsL 64 n).map fun b => 1 - b) = -1 - n := svL_not 63 n (fits63 hn).1 (fits63 hn).2
theorem max01 {x y : Int} (hx : 0 ≤ x ∧ x ≤ 1) (hy : 0 ≤ y ∧ y ≤ 1) : 0 ≤ max x y ∧ max x y ≤ 1 := by omega
theorem fX01 {x y : Int} (hx : 0 ≤ x ∧ x ≤ 1) (hy : 0 ≤ y ∧ y ≤ 1) : 0 ≤ fXor x y ∧ fXor x y ≤ 1 := by unfold fXor; split <;> omega
end U
namespace U
open PySem L2
def SaidE (TH : Addr) (Q : VK) : XK := fun cls d H' => cls = .ref TH ∧ ∃ dd v, d = some dd ∧ H' dd = some (.xd [("value", v)]) ∧ ∀ p G, H' p = none → Same H' G → G p = some (.lst [v]) → Q (.ref p) G
theorem l_lam {K : PySem.W.Frag} {TH : Addr} {T : List (Addr × Str)} {t : XK → TE} {σ : St} {H : Hp} {Q : VK} (hT : LamX.Tabs T H) (q : ∀ H1, LamX.ExtN H H1 → LamX.Tabs T H1 → t (SaidE TH Q) σ H1 Q) : LamX.tLam T (TSaid K TH) t σ H Q := ⟨hT, q⟩
theorem l_saidE {TH : Addr} {Q : VK} {H : Hp} {m : Str} (q : ∀ p G, H p = none → Same H G → G p = some (.lst [.str m]) → Q (.ref p) G) : RaiseV TH (SaidE TH Q) H m := fun d G hd hG hg => ⟨rfl, d, _, rfl, hg, fun p G2 hp hs hp2 => q p G2 (hG.free hp) (hG.trans hs) hp2⟩
theorem eqv_int (n : Int) : PyData.eqv (.int n) (.int n) = true := by simp [PyData.eqv]
theorem l_neII {K : PySem.W.Frag} {n : Int} {H : Hp} {Q : VK} (q : Q (.bl false) H) : rNeD K (.int n) (.int n) H Q := l_neD (d := .int n) (e := .int n) (.int n) (.int n) rfl rfl (by
  rw [eqv_int]
  exact q)
theorem l_neLL {K : PySem.W.Frag} {p r : Addr} {H : Hp} {Q : VK} (h1 : H p = some (.lst [.str NOINT])) (h2 : H r = some (.lst [.str ("number has no integer representation" : Str)])) (q : Q (.bl false) H) : rNeD K (.ref p) (.ref r) H Q :=
  l_neD (d := .list [.str NOINT]) (e := .list [.str NOINT]) (.lst (SqL.of h1) (.cons (.str _) .nil)) (.lst (SqL.of h2) (.cons (.str _) .nil)) (by decide +kernel) (by decide +kernel) (by
    have : PyData.eqv (.list [.str NOINT]) (.list [.str NOINT]) = true := by decide +kernel
    rw [this]
    exact q)
section
variable {C TH : Addr} {H : Hp} {Q : VK} {E : XK} {v u : V} {k l : Kv}
theorem l_wholeI {n : Int} (h : KvOk C H v k) (o : k.isO = false) (e : whK k = some n) (q : Q (.int n) H) : spWholeN C ([v] ++ []) H Q E := l_wholeN h o (by rw [e]; exact q)
theorem l_wholeO (h : KvOk C H v k) (o : k.isO = false) (e : whK k = none) (q : Q .non H) : spWholeN C ([v] ++ []) H Q E := l_wholeN h o (by rw [e]; exact q)
theorem l_dueB {w : W5} {a b : Int} (ha : fitsI a) (hb : fitsI b) (q : ∀ H', Same H H' → Q (.int (w.f a b)) H') : spDueB ([.str w.s, .int a, .int b] ++ []) H Q E := ⟨w, a, b, rfl, ha, hb, q⟩
theorem l_arBI {w : W5} {a b : Int} (h : KvOk C H v k) (h2 : KvOk C H u l) (o : k.isO = false) (o2 : l.isO = false) (e : whK k = some a) (e2 : whK l = some b) (q : Q (.int (w.f a b)) H) : spArB TH C ([.str w.s, v, u] ++ []) H Q E :=
  ⟨w, v, u, k, l, rfl, h, h2, o, o2, (fun a' b' ea eb => by rw [e] at ea; rw [e2] at eb; cases ea; cases eb; exact q), fun z => by rw [e, e2] at z; rcases z with z | z <;> cases z⟩
theorem l_arBO {w : W5} (h : KvOk C H v k) (h2 : KvOk C H u l) (o : k.isO = false) (o2 : l.isO = false) (e : whK k = none ∨ whK l = none) (q : RaiseV TH E H NOINT) : spArB TH C ([.str w.s, v, u] ++ []) H Q E :=
  ⟨w, v, u, k, l, rfl, h, h2, o, o2, (fun a' b' ea eb => by rw [ea, eb] at e; rcases e with z | z <;> cases z), fun _ => q⟩
theorem l_bnI {a : Int} (h : KvOk C H v k) (o : k.isO = false) (e : whK k = some a) (q : Q (.int (-1 - a)) H) : spBitN TH C ([v] ++ []) H Q E := ⟨v, k, rfl, h, o, (fun n en => by rw [e] at en; cases en; exact q), fun z => by rw [e] at z; cases z⟩
theorem l_bnO (h : KvOk C H v k) (o : k.isO = false) (e : whK k = none) (q : RaiseV TH E H NOINT) : spBitN TH C ([v] ++ []) H Q E := ⟨v, k, rfl, h, o, (fun n en => by rw [e] at en; cases en), fun _ => q⟩
end
def TBS (PT : Addr) : List (Addr × Str) := [(PT, "_law_pair_right.<locals>.<lambda>")]
def spPR (C PT : Addr) : Sp := fun vs H Q _ => ∃ (v u : V) (k l : Kv), vs = [v, u] ∧ KvOk C H v k ∧ KvOk C H u l ∧ k.isO = false ∧ l.isO = false ∧ LamX.Tabs (TBS PT) H ∧ ∀ H', LamX.ExtN H H' → LamX.Tabs (TBS PT) H' → Q (.bl true) H'
open LamX (ExtN Tabs)
theorem for_allN {K : PySem.W.Frag} {T : List (Addr × Str)} {a : Addr} {xs : List V} {g : TG} {tb : TS} {D : Ends} {σ0 : St} {H1 : Hp} (S : St → Prop) (ha : H1 a = some (.lst xs)) (h0 : S σ0) (hT : Tabs T H1)
    (step : ∀ x, x ∈ xs → ∀ σ, S σ → ∀ H, ExtN H1 H → Tabs T H → g x σ H fun σ2 H2 => tb { D with nx := fun σ' H' => S σ' ∧ ExtN H1 H' ∧ Tabs T H', ct := fun σ' H' => S σ' ∧ ExtN H1 H' ∧ Tabs T H', bk := D.nx } σ2 H2)
    (hd : ∀ σ, S σ → ∀ H, ExtN H1 H → Tabs T H → D.nx σ H) : ∃ W : Nat → Nat → St → Hp → Prop, (∃ m, W 0 m σ0 H1) ∧ ∀ i m σ H, W i m σ H →
      ((Itl K a).stop i H ∧ D.nx σ H) ∨ ((Itl K a).go i H ∧ ∃ N : St → Hp → Prop, (∀ σ' H', N σ' H' → ∃ m', m' < m ∧ W (i + 1) m' σ' H') ∧ ∀ x H', (Itl K a).yld i H x H' → g x σ H' fun σ2 H2 => tb { D with nx := N, ct := N, bk := D.nx } σ2 H2) := by
  refine for_list (xs := xs) (fun _ σ H => S σ ∧ ExtN H1 H ∧ Tabs T H) ⟨h0, ExtN.refl _, hT⟩ ?_ ?_ ?_
  · rintro i σ H _ ⟨_, sm, _⟩
    exact SqL.of (sm _ _ ha (fun ps z => by cases z))
  · rintro i x σ H hx ⟨hs, sm, ht⟩
    exact step x (List.mem_of_getElem? hx) σ hs H sm ht
  · rintro σ H ⟨hs, sm, ht⟩
    exact hd σ hs H sm ht
theorem extLst {H H' : Hp} {a : Addr} {xs : List V} (e : ExtN H H') (h : H a = some (.lst xs)) : H' a = some (.lst xs) := e _ _ h (fun ps z => by cases z)
theorem extIns {H H' : Hp} {a C dx : Addr} {fs : List (Str × V)} (e : ExtN H H') (h : H a = some (.ins C dx fs)) : H' a = some (.ins C dx fs) := e _ _ h (fun ps z => by cases z)
theorem ExtN.andSame {H H1 H2 : Hp} (a : ExtN H H1) (b : Same H1 H2) : ExtN H H2 := a.trans (ExtN.of b)
theorem FltF.extN {C : Addr} {H H' : Hp} {x : Addr} {f : Fl} (h : FltF C H x f) (e : ExtN H H') : FltF C H' x f := by
  cases f <;> (obtain ⟨dx, h⟩ := h; exact ⟨dx, extIns e h⟩)
theorem KvOk.extN {C : Addr} {H H' : Hp} {v : V} {k : Kv} (h : KvOk C H v k) (e : ExtN H H') : KvOk C H' v k := by
  cases k with
  | i n => exact h
  | f g => obtain ⟨x, e1, h1, h2⟩ := h; exact ⟨x, e1, h1.extN e, h2⟩
  | o => exact h
theorem words5 {x : V} (h : x ∈ [V.str "band", V.str "bor", V.str "bxor", V.str "shl", V.str "shr"]) : ∃ w : W5, x = .str w.s := by
  simp only [List.mem_cons, List.not_mem_nil, or_false] at h
  rcases h with rfl | rfl | rfl | rfl | rfl
  · exact ⟨.band, rfl⟩
  · exact ⟨.bor, rfl⟩
  · exact ⟨.bxor, rfl⟩
  · exact ⟨.shl, rfl⟩
  · exact ⟨.shr, rfl⟩
theorem tabsSame {T : List (Addr × Str)} {H H' : Hp} (t : Tabs T H) (e : Same H H') : Tabs T H' := t.ext e
theorem neg_eq {n : Int} (hn : fitsI n) (h : ¬ n = -9223372036854775808) : wrF (-n) = 0 - n := by
  obtain ⟨a, b⟩ := hn
  rw [wrF_same (by omega) (by omega), Int.zero_sub]
theorem neg_least {n : Int} (h : n = -9223372036854775808) : wrF (-n) = n := by
  subst h
  decide +kernel
theorem opp0 {s t p : Int} (h : Fl.ok (.fin s t p)) : Fl.ok (.fin (0 - s) t p) := by
  rw [Int.zero_sub]
  exact opp_ok h
theorem oppI {s : Int} (h : Fl.ok (.inf s)) : Fl.ok (.inf (0 - s)) := by
  rw [Int.zero_sub]
  exact opp_ok h
theorem l_negKF {C : Addr} {H : Hp} {Q : VK} {E : XK} {x : Addr} {g : Fl} (hx : FltF C H x g) (hk : g.ok) (q : ∀ r H', Same H H' → FltF C H' r g.opp → Q (.ref r) H') : spNegK C ([.ref x] ++ []) H Q E := ⟨_, .f g, rfl, ⟨x, rfl, hx, hk⟩, .inr ⟨g, rfl, q⟩⟩
def spLawT (K : PySem.W.Frag) (PT : Addr) : Sp := fun vs H Q _ => ∃ (l : Addr) (ns : List Int), vs = [.ref l] ∧ SqL K H l (ns.map V.int) ∧ ns.length ≤ 63 ∧ Tabs (TBS PT) H ∧ ∀ H', Q (.bl true) H'
theorem l_pr {C PT : Addr} {H : Hp} {Q : VK} {E : XK} {v u : V} {k l : Kv} (hv : KvOk C H v k) (hu : KvOk C H u l) (o : k.isO = false) (o2 : l.isO = false) (hT : Tabs (TBS PT) H) (q : ∀ H', ExtN H H' → Tabs (TBS PT) H' → Q (.bl true) H') : spPR C PT ([v, u] ++ []) H Q E := ⟨v, u, k, l, rfl, hv, hu, o, o2, hT, q⟩
theorem Tabs.exW {T : List (Addr × Str)} {w : Addr} {H H' : Hp} (t : Tabs T H) (e : Ex w H H') : Tabs T H' := by
  obtain ⟨a, b, c, hw⟩ := e.was
  intro p hp
  obtain ⟨ps, h1, h2, h3⟩ := t p hp
  have ne : p.1 ≠ w := fun z => by rw [z, hw] at h1; cases h1
  refine ⟨ps, e.kept _ _ ne h1, h2, fun pos cv hc => ?_⟩
  obtain ⟨c', e1, e2⟩ := h3 pos cv hc
  have ne2 : c' ≠ w := fun z => by
    rw [z, hw] at e2
    cases e2
  exact ⟨c', e1, e.kept _ _ ne2 e2⟩
theorem wellN {w : Addr} {H H' : Hp} (h : Well w H) (e : ExtN H H') : Well w H' := by
  obtain ⟨a, b, c, h⟩ := h
  exact ⟨a, b, c, extLst e h⟩
structure ExN (w : Addr) (H H' : Hp) : Prop where
  kept : ∀ b o, b ≠ w → (∀ ps, o ≠ .tbl ps) → H b = some o → H' b = some o
  well : Well w H'
theorem ExN.refl {w : Addr} {H : Hp} (h : Well w H) : ExN w H H := ⟨fun _ _ _ _ e => e, h⟩
theorem ExN.ex {w : Addr} {H H1 H2 : Hp} (a : ExN w H H1) (b : Ex w H1 H2) : ExN w H H2 := ⟨fun x o n z e => b.kept x o n (a.kept x o n z e), b.well⟩
theorem ExN.same {w : Addr} {H H1 H2 : Hp} (a : ExN w H H1) (b : Same H1 H2) : ExN w H H2 := ⟨fun x o n z e => b x o (a.kept x o n z e), a.well.same b⟩
theorem ExN.ext {w : Addr} {H H1 H2 : Hp} (a : ExN w H H1) (b : ExtN H1 H2) : ExN w H H2 := ⟨fun x o n z e => b x o (a.kept x o n z e) z, wellN a.well b⟩
theorem ExN.fresh {w : Addr} {H5 H6 H' : Hp} (a : ExN w H6 H') (hn : H5 w = none) (s : Same H5 H6) : ExtN H5 H' := fun b o e z => a.kept b o (ne_of_none e hn) z (s b o e)
theorem kv_fin1 {C : Addr} {H : Hp} {x : Addr} {f : Fl} (h : FltF C H x f) (k : f.ok) : KvOk C H (.ref x) (.f f) := ⟨x, rfl, h, k⟩
open PySem.Spec PyProof.Rows in
theorem walk_ofTX {l : PySem.W.OpenLaw} {n k : Nat} {q : Program} {loose : List Str} {XP : (Str → Option Value) → Heap → Prop} {YP : World → Heap → Prop} {d : DefRec} {K : Params → PySem.W.Frag} {CX : World → CXT} {x : Str}
    (hn : l.most = some n) (hn2 : n ≤ sizeLine) (hdf : d.params.defaults = []) (hr : Room k callerA) (hY : ∀ (w : World) (h : Heap), YP w h → (K w.params).In h)
    (F : ∀ (w : World) (mg : Str → Option Value) (fa : Addr) (h : Heap), YP w h → (K w.params).In h → XP mg h → h.Ns mainGlobals mg → mg d.name = some (.ref fa) → LamX.LawAtS l w (K w.params) (CX w) k n x mg fa h)
    (hCX : ∀ (w : World) (H : Hp) (s : Shared) (e : Value) (s' : Shared), CX w [] H s (fun _ _ _ => False) e s' → False) :
    PySem.W.WalkO q loose XP YP l.row.toRowW d [] (fun f vs => PySem.call f vs) := by
  refine Att.attach_callB hn hdf fun w s₀ s₁ mg mb fa o pm cd doc a vs ns G Y ho hd hcd hmg hobj hints hlen hbits hg => ?_
  have KX := hY w _ Y
  obtain ⟨fd, cs, sp, hT, nT, C, hb, hsp, hF⟩ := F w mg fa _ Y KX G.X G.T.g hmg
  exact LamX.law_callTs KX G.T.g G.T.b G.T.builtins G.T.nolimit hg hT nT C G.T.bmain hobj hints (Nat.le_trans hlen hn2) hr hF hb (fun H hH hS => hsp H a ns hlen hbits hH hS) fun H e s' => hCX w H s₁ e s'
theorem law_at {l : PySem.W.OpenLaw} {w : World} {K : PySem.W.Frag} {lvl : Nat} {x : Str} {mg : Str → Option Value} {fa cL PT : Addr} {h : Heap} (KX : K.In h)
    (A : ∃ fd : FuncData, (∀ (s : Shared) (v : Value), BindsTo s fd ⟨[v], []⟩ [(x, v)]) ∧ ∀ base : Heap, K.In base → base.Ns mainGlobals mg → LamX.TabB base mg cL PT → FnOk l.prog w K mg base CX0 lvl fa fd [x] (spLawT K PT))
    (hh : PySem.W.codeHdIn K cL PT = true) (nP : K.lookup PT = none) (htab : h.get? PT = some { cls := .none, data := .fields #[] }) : LamX.LawAtS l w K CX0 lvl 63 x mg fa h := by
  obtain ⟨fd, hb, hF⟩ := A
  refine ⟨fd, [(cL, PT)], spLawT K PT, fun p hp => ?_, fun p hp => ?_, fun p hp => ?_, hb, fun H a ns hl _ hT hS => ⟨a, ns, rfl, hS, hl, fun p hp => ?_, fun _ => rfl⟩, fun base KB GB TB => hF base KB GB (TB _ (List.mem_singleton.mpr rfl))⟩
  · rw [List.mem_singleton.mp hp]; exact htab
  · rw [List.mem_singleton.mp hp]; exact nP
  · rw [List.mem_singleton.mp hp]; exact PySem.W.codeHd_of_K KX hh
  · unfold TBS at hp
    rw [List.mem_singleton.mp hp]
    exact LamX.TabS.nil (hT _ (List.mem_singleton.mpr rfl))
open PySem.Spec PyProof.Rows in
theorem FunC.binds {K : PySem.W.Frag} {x qual : Str} {st : Stmt} {f c : Addr} {fd : FuncData} {ps : List Str} (F : FunC K x qual st f c fd)
    (h : ∀ (kV doc pm : Value) (an : Option Addr) (cdv ct : Value) (us : List Value), us.length = ps.length → bindArgs (PySem.W.fnOf x qual (defArgs st) (defBody st) (defScope st) .none kV doc pm an cdv ct) ⟨us, []⟩ = pure (ps.zip us)) : L2.Binds K fd ps [] := by
  obtain ⟨oc, od, kV, doc, pm, an, ct, osl, rfl, lk, hcd⟩ := F.ex
  exact .all (h kV doc pm an (.ref c) ct)
end U
/-! the nodes of a table: chains, what a key is found by, and what a new key does -/
namespace Tb
structure Nd (κ ν : Type) where
  key : κ
  val : ν
  link : Option Nat
section
variable {κ ν : Type}
abbrev Ns (κ ν : Type) := List (Option (Nd κ ν))
/-- the node at i -/
def At (ns : Ns κ ν) (i : Nat) (nd : Nd κ ν) : Prop := ns[i]? = some (some nd)
theorem At.inj {ns : Ns κ ν} {i : Nat} {a b : Nd κ ν} (h : At ns i a) (h' : At ns i b) : a = b := by
  unfold At at h h'
  rw [h] at h'
  exact Option.some.inj (Option.some.inj h')
theorem At.lt {ns : Ns κ ν} {i : Nat} {a : Nd κ ν} (h : At ns i a) : i < ns.length := (List.getElem?_eq_some_iff.mp h).1
inductive Rc (ns : Ns κ ν) : Nat → Nat → Prop
  | refl (i : Nat) : Rc ns i i
  | step {i j k : Nat} {nd : Nd κ ν} : At ns i nd → nd.link = some j → Rc ns j k → Rc ns i k
theorem Rc.snoc {ns : Ns κ ν} {i j k : Nat} {nd : Nd κ ν} (h : Rc ns i j) (a : At ns j nd) (l : nd.link = some k) : Rc ns i k := by
  induction h with
  | refl i => exact .step a l (.refl _)
  | step b m _ ih => exact .step b m (ih a)
theorem Rc.trans {ns : Ns κ ν} {i j k : Nat} (h : Rc ns i j) (h' : Rc ns j k) : Rc ns i k := by
  induction h with
  | refl i => exact h'
  | step b m _ ih => exact .step b m (ih h')
/-- what holds of the nodes of a table; mp tells where a key belongs -/
structure WF (mp : κ → Nat) (ns : Ns κ ν) (free : Nat) : Prop where
  to : ∀ i nd j, At ns i nd → nd.link = some j → ∃ nd', At ns j nd'
  rank : ∃ r : Nat → Nat, ∀ i nd j, At ns i nd → nd.link = some j → r j < r i
  one : ∀ i i' nd nd' j, At ns i nd → At ns i' nd' → nd.link = some j → nd'.link = some j → i = i'
  reach : ∀ i nd, At ns i nd → Rc ns (mp nd.key) i
  keys : ∀ i i' nd nd', At ns i nd → At ns i' nd' → nd.key = nd'.key → i = i'
  home : ∀ i nd, At ns i nd → ∃ nd', At ns (mp nd.key) nd' ∧ mp nd'.key = mp nd.key
  full : ∀ i, free ≤ i → i < ns.length → ∃ nd, At ns i nd
  le : free ≤ ns.length
theorem WF.new {mp : κ → Nat} (n : Nat) : WF (ν := ν) mp (List.replicate n none) n := by
  have no : ∀ i nd, ¬ At (List.replicate n none : Ns κ ν) i nd := fun i nd h => by
    unfold At at h
    rw [List.getElem?_replicate] at h
    split at h <;> cases h
  refine ⟨fun i nd j h => absurd h (no i nd), ⟨fun _ => 0, fun i nd j h => absurd h (no i nd)⟩, fun i _ nd _ _ h => absurd h (no i nd), fun i nd h => absurd h (no i nd), fun i _ nd _ h => absurd h (no i nd), fun i nd h => absurd h (no i nd), fun i h1 h2 => ?_, ?_⟩
  · rw [List.length_replicate] at h2; omega
  · rw [List.length_replicate]; exact Nat.le_refl _
variable [DecidableEq κ]
/-- where a key is -/
def look (ns : Ns κ ν) (k : κ) : Option Nat := ns.findIdx? fun o => match o with
  | some nd => decide (nd.key = k)
  | none => false
theorem look_some {ns : Ns κ ν} {k : κ} {i : Nat} (h : look ns k = some i) : ∃ nd, At ns i nd ∧ nd.key = k := by
  unfold look at h
  obtain ⟨hl, hp, _⟩ := List.findIdx?_eq_some_iff_getElem.mp h
  cases e : ns[i] with
  | none => rw [e] at hp; cases hp
  | some nd =>
    rw [e] at hp
    exact ⟨nd, by unfold At; rw [List.getElem?_eq_getElem hl, e], of_decide_eq_true hp⟩
theorem look_none {ns : Ns κ ν} {k : κ} (h : look ns k = none) : ∀ i nd, At ns i nd → nd.key ≠ k := fun i nd a e => by
  unfold look at h
  have := List.findIdx?_eq_none_iff.mp h (some nd) (List.mem_of_getElem? a)
  simp [e] at this
theorem look_at {mp : κ → Nat} {ns : Ns κ ν} {free : Nat} (w : WF mp ns free) {i : Nat} {nd : Nd κ ν} (a : At ns i nd) : look ns nd.key = some i := by
  cases e : look ns nd.key with
  | none => exact absurd rfl (look_none e i nd a)
  | some j =>
    obtain ⟨nd', a', k'⟩ := look_some e
    rw [w.keys j i nd' nd a' a k']
theorem look_no {ns : Ns κ ν} {k : κ} (h : ∀ i nd, At ns i nd → nd.key ≠ k) : look ns k = none := by
  cases e : look ns k with
  | none => rfl
  | some j =>
    obtain ⟨nd', a', k'⟩ := look_some e
    exact absurd k' (h j nd' a')
/-! ### the walk from where a key belongs -/
/-- what is known at a step of the walk: all nodes of this key are on the way -/
def On (ns : Ns κ ν) (k : κ) : Option Nat → Prop
  | none => look ns k = none
  | some i => ∀ m nd, At ns m nd → nd.key = k → Rc ns i m
theorem on_start {mp : κ → Nat} {ns : Ns κ ν} {free : Nat} (w : WF mp ns free) (k : κ) : On ns k (some (mp k)) := fun m nd a e => by
  have := w.reach m nd a
  rw [e] at this
  exact this
theorem on_gap {ns : Ns κ ν} {k : κ} {i : Nat} (h : On ns k (some i)) (e : ∀ nd, ¬ At ns i nd) : look ns k = none := by
  refine look_no fun m nd a ek => ?_
  have := h m nd a ek
  cases this with
  | refl => exact e _ a
  | step b _ _ => exact e _ b
theorem on_next {ns : Ns κ ν} {k : κ} {i : Nat} {nd : Nd κ ν} (h : On ns k (some i)) (a : At ns i nd) (ne : nd.key ≠ k) : On ns k nd.link := by
  have key : ∀ m nd', At ns m nd' → nd'.key = k → ∃ j, nd.link = some j ∧ Rc ns j m := fun m nd' a' e => by
    have := h m nd' a' e
    cases this with
    | refl => rw [At.inj a a'] at ne; exact absurd e ne
    | step b l r => rw [At.inj a b]; exact ⟨_, l, r⟩
  cases l : nd.link with
  | none =>
    refine look_no fun m nd' a' e => ?_
    obtain ⟨j, e1, _⟩ := key m nd' a' e
    rw [l] at e1
    cases e1
  | some j =>
    intro m nd' a' e
    obtain ⟨j', e1, e2⟩ := key m nd' a' e
    rw [l] at e1
    cases e1
    exact e2
/-! ### one node changes -/
theorem at_set {ns : Ns κ ν} {i j : Nat} {o : Option (Nd κ ν)} {nd : Nd κ ν} : At (ns.set i o) j nd ↔ (i = j ∧ i < ns.length ∧ o = some nd) ∨ (i ≠ j ∧ At ns j nd) := by
  unfold At
  by_cases e : i = j
  · subst e
    by_cases h : i < ns.length
    · rw [List.getElem?_set_self h]
      constructor
      · intro q; exact .inl ⟨rfl, h, Option.some.inj q⟩
      · rintro (⟨_, _, q⟩ | ⟨q, _⟩)
        · rw [q]
        · exact absurd rfl q
    · rw [List.getElem?_eq_none (by rw [List.length_set]; omega)]
      constructor
      · intro q; cases q
      · rintro (⟨_, q, _⟩ | ⟨q, _⟩)
        · exact absurd q h
        · exact absurd rfl q
  · rw [List.getElem?_set_ne e]
    constructor
    · intro q; exact .inr ⟨e, q⟩
    · rintro (⟨q, _⟩ | ⟨_, q⟩)
      · exact absurd q e
      · exact q
/-- links as they were: what is reached is as it was -/
theorem rc_same {ns ns' : Ns κ ν} (h : ∀ i nd, At ns i nd → ∃ nd', At ns' i nd' ∧ nd'.link = nd.link) {i j : Nat} (r : Rc ns i j) : Rc ns' i j := by
  induction r with
  | refl i => exact .refl i
  | step a l _ ih =>
    obtain ⟨nd', a', l'⟩ := h _ _ a
    exact .step a' (l'.trans l) ih
/-- another value -/
theorem WF.val {mp : κ → Nat} {ns : Ns κ ν} {free i : Nat} {nd : Nd κ ν} (w : WF mp ns free) (a : At ns i nd) (v : ν) : WF mp (ns.set i (some ⟨nd.key, v, nd.link⟩)) free := by
  have b : ∀ j nd', At (ns.set i (some ⟨nd.key, v, nd.link⟩)) j nd' → ∃ nd0, At ns j nd0 ∧ nd0.key = nd'.key ∧ nd0.link = nd'.link := fun j nd' h => by
    rcases at_set.mp h with ⟨e, _, q⟩ | ⟨_, q⟩
    · subst e
      cases q
      exact ⟨nd, a, rfl, rfl⟩
    · exact ⟨nd', q, rfl, rfl⟩
  have f : ∀ j nd0, At ns j nd0 → ∃ nd', At (ns.set i (some ⟨nd.key, v, nd.link⟩)) j nd' ∧ nd'.key = nd0.key ∧ nd'.link = nd0.link := fun j nd0 h => by
    by_cases e : i = j
    · subst e
      rw [At.inj h a]
      exact ⟨_, at_set.mpr (.inl ⟨rfl, a.lt, rfl⟩), rfl, rfl⟩
    · exact ⟨nd0, at_set.mpr (.inr ⟨e, h⟩), rfl, rfl⟩
  refine ⟨fun j nd' k h l => ?_, ?_, fun j j' nd1 nd2 k h h' l l' => ?_, fun j nd' h => ?_, fun j j' nd1 nd2 h h' e => ?_, fun j nd' h => ?_, fun j h1 h2 => ?_, by rw [List.length_set]; exact w.le⟩
  · obtain ⟨nd0, q, _, ql⟩ := b _ _ h
    obtain ⟨nd2, q2⟩ := w.to _ _ _ q (ql.trans l)
    obtain ⟨nd3, q3, _⟩ := f _ _ q2
    exact ⟨nd3, q3⟩
  · obtain ⟨r, hr⟩ := w.rank
    refine ⟨r, fun j nd' k h l => ?_⟩
    obtain ⟨nd0, q, _, ql⟩ := b _ _ h
    exact hr _ _ _ q (ql.trans l)
  · obtain ⟨n1, q1, _, l1⟩ := b _ _ h
    obtain ⟨n2, q2, _, l2⟩ := b _ _ h'
    exact w.one _ _ _ _ _ q1 q2 (l1.trans l) (l2.trans l')
  · obtain ⟨n1, q1, k1, _⟩ := b _ _ h
    rw [← k1]
    exact rc_same (fun i nd a => let ⟨x, y, _, z⟩ := f i nd a; ⟨x, y, z⟩) (w.reach _ _ q1)
  · obtain ⟨n1, q1, k1, _⟩ := b _ _ h
    obtain ⟨n2, q2, k2, _⟩ := b _ _ h'
    exact w.keys _ _ _ _ q1 q2 (k1.trans (e.trans k2.symm))
  · obtain ⟨n1, q1, k1, _⟩ := b _ _ h
    obtain ⟨n2, q2, k2⟩ := w.home _ _ q1
    obtain ⟨n3, q3, k3, _⟩ := f _ _ q2
    rw [← k1]
    exact ⟨n3, q3, by rw [k3]; exact k2⟩
  · rw [List.length_set] at h2
    obtain ⟨n1, q1⟩ := w.full _ h1 h2
    obtain ⟨n3, q3, _⟩ := f _ _ q1
    exact ⟨n3, q3⟩
/-- a node without a value where the key belongs is used for it -/
theorem WF.reuse {mp : κ → Nat} {ns : Ns κ ν} {free : Nat} {nd : Nd κ ν} {k : κ} (w : WF mp ns free) (a : At ns (mp k) nd) (no : look ns k = none) (v : ν) : WF mp (ns.set (mp k) (some ⟨k, v, nd.link⟩)) free := by
  have b : ∀ j nd', At (ns.set (mp k) (some ⟨k, v, nd.link⟩)) j nd' → ∃ nd0, At ns j nd0 ∧ nd0.link = nd'.link ∧ (j ≠ mp k → nd0.key = nd'.key) ∧ (j = mp k → nd'.key = k) := fun j nd' h => by
    rcases at_set.mp h with ⟨e, _, q⟩ | ⟨e, q⟩
    · subst e
      cases q
      exact ⟨nd, a, rfl, fun z => absurd rfl z, fun _ => rfl⟩
    · exact ⟨nd', q, rfl, fun _ => rfl, fun z => absurd z.symm e⟩
  have f : ∀ j nd0, At ns j nd0 → ∃ nd', At (ns.set (mp k) (some ⟨k, v, nd.link⟩)) j nd' ∧ nd'.link = nd0.link ∧ (j ≠ mp k → nd'.key = nd0.key) := fun j nd0 h => by
    by_cases e : mp k = j
    · subst e
      rw [At.inj h a]
      exact ⟨_, at_set.mpr (.inl ⟨rfl, a.lt, rfl⟩), rfl, fun z => absurd rfl z⟩
    · exact ⟨nd0, at_set.mpr (.inr ⟨e, h⟩), rfl, fun _ => rfl⟩
  have self : At (ns.set (mp k) (some ⟨k, v, nd.link⟩)) (mp k) ⟨k, v, nd.link⟩ := at_set.mpr (.inl ⟨rfl, a.lt, rfl⟩)
  refine ⟨fun j nd' i h l => ?_, ?_, fun j j' nd1 nd2 i h h' l l' => ?_, fun j nd' h => ?_, fun j j' nd1 nd2 h h' e => ?_, fun j nd' h => ?_, fun j h1 h2 => ?_, by rw [List.length_set]; exact w.le⟩
  · obtain ⟨nd0, q, ql, _⟩ := b _ _ h
    obtain ⟨nd2, q2⟩ := w.to _ _ _ q (ql.trans l)
    obtain ⟨nd3, q3, _⟩ := f _ _ q2
    exact ⟨nd3, q3⟩
  · obtain ⟨r, hr⟩ := w.rank
    refine ⟨r, fun j nd' i h l => ?_⟩
    obtain ⟨nd0, q, ql, _⟩ := b _ _ h
    exact hr _ _ _ q (ql.trans l)
  · obtain ⟨n1, q1, l1, _⟩ := b _ _ h
    obtain ⟨n2, q2, l2, _⟩ := b _ _ h'
    exact w.one _ _ _ _ _ q1 q2 (l1.trans l) (l2.trans l')
  · obtain ⟨n1, q1, _, k1, k2⟩ := b _ _ h
    by_cases e : j = mp k
    · rw [k2 e, e]
      exact .refl _
    · rw [← k1 e]
      exact rc_same (fun i nd a => let ⟨x, y, z, _⟩ := f i nd a; ⟨x, y, z⟩) (w.reach _ _ q1)
  · obtain ⟨n1, q1, _, k1, m1⟩ := b _ _ h
    obtain ⟨n2, q2, _, k2, m2⟩ := b _ _ h'
    by_cases e1 : j = mp k
    · by_cases e2 : j' = mp k
      · rw [e1, e2]
      · exact absurd ((k2 e2).trans (e.symm.trans (m1 e1))) (look_none no _ _ q2)
    · by_cases e2 : j' = mp k
      · exact absurd ((k1 e1).trans (e.trans (m2 e2))) (look_none no _ _ q1)
      · exact w.keys _ _ _ _ q1 q2 ((k1 e1).trans (e.trans (k2 e2).symm))
  · obtain ⟨n1, q1, _, k1, m1⟩ := b _ _ h
    by_cases e1 : j = mp k
    · rw [m1 e1]
      exact ⟨_, self, rfl⟩
    · obtain ⟨n2, q2, k2⟩ := w.home _ _ q1
      rw [← k1 e1]
      by_cases e2 : mp n1.key = mp k
      · rw [e2]
        exact ⟨_, self, rfl⟩
      · obtain ⟨n3, q3, _, k3⟩ := f _ _ q2
        exact ⟨n3, q3, by rw [k3 e2]; exact k2⟩
  · rw [List.length_set] at h2
    obtain ⟨n1, q1⟩ := w.full _ h1 h2
    obtain ⟨n3, q3, _⟩ := f _ _ q1
    exact ⟨n3, q3⟩
/-- a free place where the key belongs -/
theorem WF.fresh {mp : κ → Nat} {ns : Ns κ ν} {free : Nat} {k : κ} (w : WF mp ns free) (hl : mp k < ns.length) (a : ∀ nd, ¬ At ns (mp k) nd) (no : look ns k = none) (v : ν) : WF mp (ns.set (mp k) (some ⟨k, v, none⟩)) free := by
  have self : At (ns.set (mp k) (some ⟨k, v, none⟩)) (mp k) ⟨k, v, none⟩ := at_set.mpr (.inl ⟨rfl, hl, rfl⟩)
  have f : ∀ j nd0, At ns j nd0 → At (ns.set (mp k) (some ⟨k, v, none⟩)) j nd0 := fun j nd0 h => at_set.mpr (.inr ⟨fun e => a nd0 (by rw [e]; exact h), h⟩)
  have b : ∀ j nd', At (ns.set (mp k) (some ⟨k, v, none⟩)) j nd' → (j = mp k ∧ nd' = ⟨k, v, none⟩) ∨ (j ≠ mp k ∧ At ns j nd') := fun j nd' h => by
    rcases at_set.mp h with ⟨e, _, q⟩ | ⟨e, q⟩
    · cases q
      exact .inl ⟨e.symm, rfl⟩
    · exact .inr ⟨fun z => e z.symm, q⟩
  refine ⟨fun j nd' i h l => ?_, ?_, fun j j' nd1 nd2 i h h' l l' => ?_, fun j nd' h => ?_, fun j j' nd1 nd2 h h' e => ?_, fun j nd' h => ?_, fun j h1 h2 => ?_, by rw [List.length_set]; exact w.le⟩
  · rcases b _ _ h with ⟨_, rfl⟩ | ⟨_, q⟩
    · cases l
    · obtain ⟨nd2, q2⟩ := w.to _ _ _ q l
      exact ⟨nd2, f _ _ q2⟩
  · obtain ⟨r, hr⟩ := w.rank
    refine ⟨r, fun j nd' i h l => ?_⟩
    rcases b _ _ h with ⟨_, rfl⟩ | ⟨_, q⟩
    · cases l
    · exact hr _ _ _ q l
  · rcases b _ _ h with ⟨_, rfl⟩ | ⟨_, q⟩
    · cases l
    · rcases b _ _ h' with ⟨_, rfl⟩ | ⟨_, q'⟩
      · cases l'
      · exact w.one _ _ _ _ _ q q' l l'
  · rcases b _ _ h with ⟨rfl, rfl⟩ | ⟨_, q⟩
    · exact .refl _
    · exact rc_same (fun i nd a => ⟨nd, f i nd a, rfl⟩) (w.reach _ _ q)
  · rcases b _ _ h with ⟨rfl, rfl⟩ | ⟨_, q⟩
    · rcases b _ _ h' with ⟨rfl, rfl⟩ | ⟨_, q'⟩
      · rfl
      · exact absurd e.symm (look_none no _ _ q')
    · rcases b _ _ h' with ⟨rfl, rfl⟩ | ⟨_, q'⟩
      · exact absurd e (look_none no _ _ q)
      · exact w.keys _ _ _ _ q q' e
  · rcases b _ _ h with ⟨rfl, rfl⟩ | ⟨_, q⟩
    · exact ⟨_, self, rfl⟩
    · obtain ⟨n2, q2, k2⟩ := w.home _ _ q
      exact ⟨n2, f _ _ q2, k2⟩
  · rw [List.length_set] at h2
    obtain ⟨n1, q1⟩ := w.full _ h1 h2
    exact ⟨n1, f _ _ q1⟩
/-- the last free place counts down -/
theorem WF.down {mp : κ → Nat} {ns : Ns κ ν} {free f : Nat} (w : WF mp ns free) (hf : f ≤ free) (h : ∀ i, f ≤ i → i < free → ∃ nd, At ns i nd) : WF mp ns f :=
  ⟨w.to, w.rank, w.one, w.reach, w.keys, w.home, fun i h1 h2 => by
    rcases Nat.lt_or_ge i free with q | q
    · exact h i h1 q
    · exact w.full i q h2, Nat.le_trans hf w.le⟩
end
end Tb
namespace Tb
section
variable {κ ν : Type} [DecidableEq κ]
theorem rank_ne {mp : κ → Nat} {ns : Ns κ ν} {free i j : Nat} {nd : Nd κ ν} (w : WF mp ns free) (a : At ns i nd) (l : nd.link = some j) : i ≠ j := fun e => by
  obtain ⟨r, hr⟩ := w.rank
  have := hr _ _ _ a l
  rw [e] at this
  exact Nat.lt_irrefl _ this
/-- the key belongs where a node lies that belongs there, too: the new node is the second one of the chain -/
theorem WF.second {mp : κ → Nat} {ns : Ns κ ν} {free f : Nat} {nd : Nd κ ν} {k : κ} (w : WF mp ns free) (a : At ns (mp k) nd) (hm : mp nd.key = mp k) (no : look ns k = none) (hf : f < free) (he : ∀ x, ¬ At ns f x) (hu : ∀ i, f < i → i < free → ∃ x, At ns i x) (v : ν) :
    WF mp ((ns.set f (some ⟨k, v, nd.link⟩)).set (mp k) (some ⟨nd.key, nd.val, some f⟩)) f := by
  have hfl : f < ns.length := Nat.lt_of_lt_of_le hf w.le
  have nfa : f ≠ mp k := fun e => he nd (by rw [e]; exact a)
  have no1 := look_none no
  generalize hns : (ns.set f (some ⟨k, v, nd.link⟩)).set (mp k) (some ⟨nd.key, nd.val, some f⟩) = ns'
  have b : ∀ j nd', At ns' j nd' → (j = f ∧ nd' = ⟨k, v, nd.link⟩) ∨ (j = mp k ∧ nd' = ⟨nd.key, nd.val, some f⟩) ∨ (j ≠ f ∧ j ≠ mp k ∧ At ns j nd') := fun j nd' h => by
    rw [← hns] at h
    rcases at_set.mp h with ⟨e, _, q⟩ | ⟨e, q⟩
    · cases q; exact .inr (.inl ⟨e.symm, rfl⟩)
    · rcases at_set.mp q with ⟨e2, _, q2⟩ | ⟨e2, q2⟩
      · cases q2; exact .inl ⟨e2.symm, rfl⟩
      · exact .inr (.inr ⟨fun z => e2 z.symm, fun z => e z.symm, q2⟩)
  have sf : At ns' f ⟨k, v, nd.link⟩ := by
    rw [← hns]
    exact at_set.mpr (.inr ⟨nfa.symm, at_set.mpr (.inl ⟨rfl, hfl, rfl⟩)⟩)
  have sa : At ns' (mp k) ⟨nd.key, nd.val, some f⟩ := by
    rw [← hns]
    exact at_set.mpr (.inl ⟨rfl, by rw [List.length_set]; exact a.lt, rfl⟩)
  have so : ∀ j x, At ns j x → j ≠ mp k → At ns' j x := fun j x h e => by
    rw [← hns]
    exact at_set.mpr (.inr ⟨fun z => e z.symm, at_set.mpr (.inr ⟨fun z => he x (by rw [z]; exact h), h⟩)⟩)
  have ex : ∀ j x, At ns j x → ∃ y, At ns' j y ∧ y.key = x.key := fun j x h => by
    by_cases e : j = mp k
    · subst e
      rw [At.inj h a]
      exact ⟨_, sa, rfl⟩
    · exact ⟨x, so j x h e, rfl⟩
  have rc : ∀ i j, Rc ns i j → Rc ns' i j := fun i j h => by
    induction h with
    | refl i => exact .refl i
    | @step i j l x hx hl _ ih =>
      by_cases e : i = mp k
      · subst e
        rw [At.inj hx a] at hl
        exact .step sa rfl (.step sf hl ih)
      · exact .step (so i x hx e) hl ih
  have occ : ∀ j x i, At ns j x → x.link = some i → i ≠ f := fun j x i h l e => by
    obtain ⟨y, hy⟩ := w.to _ _ _ h l
    exact he y (by rw [← e]; exact hy)
  refine ⟨fun j x i h l => ?_, ?_, fun j j' x x' i h h' l l' => ?_, fun j x h => ?_, fun j j' x x' h h' e => ?_, fun j x h => ?_, fun j h1 h2 => ?_, ?_⟩
  · rcases b _ _ h with ⟨_, rfl⟩ | ⟨_, rfl⟩ | ⟨_, _, q⟩
    · obtain ⟨y, hy⟩ := w.to _ _ _ a l
      obtain ⟨z, hz, _⟩ := ex _ _ hy
      exact ⟨z, hz⟩
    · cases l
      exact ⟨_, sf⟩
    · obtain ⟨y, hy⟩ := w.to _ _ _ q l
      obtain ⟨z, hz, _⟩ := ex _ _ hy
      exact ⟨z, hz⟩
  · obtain ⟨r, hr⟩ := w.rank
    refine ⟨fun i => if i = f then 2 * r (mp k) + 1 else 2 * r i + 2, fun j x i h l => ?_⟩
    rcases b _ _ h with ⟨rfl, rfl⟩ | ⟨rfl, rfl⟩ | ⟨n1, _, q⟩
    · have := hr _ _ _ a l
      simp only [if_pos, if_neg (occ _ _ _ a l)]
      omega
    · cases l
      simp only [if_pos, if_neg nfa.symm]
      omega
    · have := hr _ _ _ q l
      simp only [if_neg n1, if_neg (occ _ _ _ q l)]
      omega
  · rcases b _ _ h with ⟨rfl, rfl⟩ | ⟨rfl, rfl⟩ | ⟨n1, m1, q⟩
    · rcases b _ _ h' with ⟨rfl, rfl⟩ | ⟨rfl, rfl⟩ | ⟨n2, m2, q'⟩
      · rfl
      · cases l'
        exact absurd rfl (occ _ _ _ a l)
      · exact absurd (w.one _ _ _ _ _ q' a l' l) m2
    · cases l
      rcases b _ _ h' with ⟨rfl, rfl⟩ | ⟨rfl, rfl⟩ | ⟨n2, m2, q'⟩
      · exact absurd rfl (occ _ _ _ a l')
      · rfl
      · exact absurd rfl (occ _ _ _ q' l')
    · rcases b _ _ h' with ⟨rfl, rfl⟩ | ⟨rfl, rfl⟩ | ⟨n2, m2, q'⟩
      · exact absurd (w.one _ _ _ _ _ q a l l') m1
      · cases l'
        exact absurd rfl (occ _ _ _ q l)
      · exact w.one _ _ _ _ _ q q' l l'
  · rcases b _ _ h with ⟨rfl, rfl⟩ | ⟨rfl, rfl⟩ | ⟨n1, m1, q⟩
    · exact .step sa rfl (.refl _)
    · exact rc _ _ (w.reach _ nd a)
    · exact rc _ _ (w.reach _ _ q)
  · rcases b _ _ h with ⟨rfl, rfl⟩ | ⟨rfl, rfl⟩ | ⟨n1, m1, q⟩
    · rcases b _ _ h' with ⟨rfl, rfl⟩ | ⟨rfl, rfl⟩ | ⟨n2, m2, q'⟩
      · rfl
      · exact absurd e.symm (no1 _ nd a)
      · exact absurd e.symm (no1 _ _ q')
    · rcases b _ _ h' with ⟨rfl, rfl⟩ | ⟨rfl, rfl⟩ | ⟨n2, m2, q'⟩
      · exact absurd e (no1 _ nd a)
      · rfl
      · exact absurd (w.keys _ _ _ _ q' a e.symm) m2
    · rcases b _ _ h' with ⟨rfl, rfl⟩ | ⟨rfl, rfl⟩ | ⟨n2, m2, q'⟩
      · exact absurd e (no1 _ _ q)
      · exact absurd (w.keys _ _ _ _ q a e) m1
      · exact w.keys _ _ _ _ q q' e
  · rcases b _ _ h with ⟨rfl, rfl⟩ | ⟨rfl, rfl⟩ | ⟨n1, m1, q⟩
    · exact ⟨_, sa, hm⟩
    · show ∃ nd', At ns' (mp nd.key) nd' ∧ mp nd'.key = mp nd.key
      rw [hm]
      exact ⟨_, sa, hm⟩
    · obtain ⟨y, hy, ky⟩ := w.home _ _ q
      obtain ⟨z, hz, kz⟩ := ex _ _ hy
      exact ⟨z, hz, by rw [kz]; exact ky⟩
  · have h2 : j < ns.length := by rw [← hns, List.length_set, List.length_set] at h2; exact h2
    rcases Nat.eq_or_lt_of_le h1 with e | e
    · rw [← e]; exact ⟨_, sf⟩
    · have : ∃ x, At ns j x := by
        rcases Nat.lt_or_ge j free with q | q
        · exact hu j e q
        · exact w.full j q h2
      obtain ⟨x, hx⟩ := this
      obtain ⟨z, hz, _⟩ := ex _ _ hx
      exact ⟨z, hz⟩
  · rw [← hns, List.length_set, List.length_set]
    exact Nat.le_of_lt hfl
/-- the key belongs where a node lies that belongs elsewhere: that one moves to the free place -/
theorem WF.move {mp : κ → Nat} {ns : Ns κ ν} {free f p : Nat} {nd pd : Nd κ ν} {k : κ} (w : WF mp ns free) (a : At ns (mp k) nd) (hm : mp nd.key ≠ mp k) (hp : At ns p pd) (hl : pd.link = some (mp k)) (no : look ns k = none) (hf : f < free) (he : ∀ x, ¬ At ns f x)
    (hu : ∀ i, f < i → i < free → ∃ x, At ns i x) (v : ν) : WF mp (((ns.set p (some ⟨pd.key, pd.val, some f⟩)).set f (some nd)).set (mp k) (some ⟨k, v, none⟩)) f := by
  have hfl : f < ns.length := Nat.lt_of_lt_of_le hf w.le
  have nfa : f ≠ mp k := fun e => he nd (by rw [e]; exact a)
  have npf : p ≠ f := fun e => he pd (by rw [← e]; exact hp)
  have npa : p ≠ mp k := rank_ne w hp hl
  have no1 := look_none no
  generalize hns : ((ns.set p (some ⟨pd.key, pd.val, some f⟩)).set f (some nd)).set (mp k) (some ⟨k, v, none⟩) = ns'
  have b : ∀ j x, At ns' j x → (j = mp k ∧ x = ⟨k, v, none⟩) ∨ (j = f ∧ x = nd) ∨ (j = p ∧ x = ⟨pd.key, pd.val, some f⟩) ∨ (j ≠ mp k ∧ j ≠ f ∧ j ≠ p ∧ At ns j x) := fun j x h => by
    rw [← hns] at h
    rcases at_set.mp h with ⟨e, _, q⟩ | ⟨e, q⟩
    · cases q; exact .inl ⟨e.symm, rfl⟩
    · rcases at_set.mp q with ⟨e2, _, q2⟩ | ⟨e2, q2⟩
      · cases q2; exact .inr (.inl ⟨e2.symm, rfl⟩)
      · rcases at_set.mp q2 with ⟨e3, _, q3⟩ | ⟨e3, q3⟩
        · cases q3; exact .inr (.inr (.inl ⟨e3.symm, rfl⟩))
        · exact .inr (.inr (.inr ⟨fun z => e z.symm, fun z => e2 z.symm, fun z => e3 z.symm, q3⟩))
  have sa : At ns' (mp k) ⟨k, v, none⟩ := by
    rw [← hns]
    exact at_set.mpr (.inl ⟨rfl, by rw [List.length_set, List.length_set]; exact a.lt, rfl⟩)
  have sf : At ns' f nd := by
    rw [← hns]
    exact at_set.mpr (.inr ⟨nfa.symm, at_set.mpr (.inl ⟨rfl, by rw [List.length_set]; exact hfl, rfl⟩)⟩)
  have sp : At ns' p ⟨pd.key, pd.val, some f⟩ := by
    rw [← hns]
    exact at_set.mpr (.inr ⟨npa.symm, at_set.mpr (.inr ⟨npf.symm, at_set.mpr (.inl ⟨rfl, hp.lt, rfl⟩)⟩)⟩)
  have so : ∀ j x, At ns j x → j ≠ mp k → j ≠ p → At ns' j x := fun j x h e1 e2 => by
    rw [← hns]
    exact at_set.mpr (.inr ⟨fun z => e1 z.symm, at_set.mpr (.inr ⟨fun z => he x (by rw [z]; exact h), at_set.mpr (.inr ⟨fun z => e2 z.symm, h⟩)⟩)⟩)
  have ex : ∀ j x, At ns j x → ∃ y, At ns' j y ∧ (j ≠ mp k → y.key = x.key) := fun j x h => by
    by_cases e : j = mp k
    · rw [e]
      exact ⟨_, sa, fun z => absurd rfl z⟩
    · by_cases e2 : j = p
      · subst e2
        rw [At.inj h hp]
        exact ⟨_, sp, fun _ => rfl⟩
      · exact ⟨x, so j x h e e2, fun _ => rfl⟩
  have occ : ∀ j x i, At ns j x → x.link = some i → i ≠ f := fun j x i h l e => by
    obtain ⟨y, hy⟩ := w.to _ _ _ h l
    exact he y (by rw [← e]; exact hy)
  have pre : ∀ j x, At ns j x → x.link = some (mp k) → j = p := fun j x h l => w.one _ _ _ _ _ h hp l hl
  have rc : ∀ i j, Rc ns i j → (i ≠ mp k → Rc ns' i (if j = mp k then f else j)) ∧ (i = mp k → Rc ns' f (if j = mp k then f else j)) := fun i j h => by
    induction h with
    | refl i =>
      refine ⟨fun e => ?_, fun e => ?_⟩
      · rw [if_neg e]; exact .refl _
      · rw [if_pos e]; exact .refl _
    | @step i j l x hx hlx _ ih =>
      refine ⟨fun e => ?_, fun e => ?_⟩
      · by_cases ej : j = mp k
        · have ip := pre i x hx (by rw [hlx, ej])
          rw [ip]
          exact .step sp rfl (ih.2 ej)
        · have ip : i ≠ p := fun z => by
            subst z
            rw [At.inj hx hp, hl] at hlx
            exact ej (Option.some.inj hlx).symm
          exact .step (so i x hx e ip) hlx (ih.1 ej)
      · subst e
        have ej : j ≠ mp k := (rank_ne w hx hlx).symm
        rw [At.inj hx a] at hlx
        exact .step sf hlx (ih.1 ej)
  have hom : ∀ j x, At ns j x → mp x.key ≠ mp k := fun j x h e => by
    obtain ⟨y, hy, ky⟩ := w.home _ _ h
    rw [e] at hy ky
    rw [At.inj hy a] at ky
    exact hm ky
  refine ⟨fun j x i h l => ?_, ?_, fun j j' x x' i h h' l l' => ?_, fun j x h => ?_, fun j j' x x' h h' e => ?_, fun j x h => ?_, fun j h1 h2 => ?_, ?_⟩
  · rcases b _ _ h with ⟨_, rfl⟩ | ⟨_, rfl⟩ | ⟨_, rfl⟩ | ⟨_, _, _, q⟩
    · cases l
    · obtain ⟨y, hy⟩ := w.to _ _ _ a l
      obtain ⟨z, hz, _⟩ := ex _ _ hy
      exact ⟨z, hz⟩
    · cases l
      exact ⟨_, sf⟩
    · obtain ⟨y, hy⟩ := w.to _ _ _ q l
      obtain ⟨z, hz, _⟩ := ex _ _ hy
      exact ⟨z, hz⟩
  · obtain ⟨r, hr⟩ := w.rank
    refine ⟨fun i => if i = f then r (mp k) else r i, fun j x i h l => ?_⟩
    rcases b _ _ h with ⟨_, rfl⟩ | ⟨rfl, rfl⟩ | ⟨rfl, rfl⟩ | ⟨_, n2, _, q⟩
    · cases l
    · simp only [if_pos, if_neg (occ _ _ _ a l)]
      exact hr _ _ _ a l
    · cases l
      simp only [if_pos, if_neg npf]
      exact hr _ _ _ hp hl
    · simp only [if_neg n2, if_neg (occ _ _ _ q l)]
      exact hr _ _ _ q l
  · rcases b _ _ h with ⟨_, rfl⟩ | ⟨rfl, rfl⟩ | ⟨rfl, rfl⟩ | ⟨m1, n1, o1, q⟩
    · cases l
    · rcases b _ _ h' with ⟨_, rfl⟩ | ⟨rfl, rfl⟩ | ⟨rfl, rfl⟩ | ⟨m2, n2, o2, q'⟩
      · cases l'
      · rfl
      · cases l'
        exact absurd rfl (occ _ _ _ a l)
      · exact absurd (w.one _ _ _ _ _ q' a l' l) m2
    · cases l
      rcases b _ _ h' with ⟨_, rfl⟩ | ⟨rfl, rfl⟩ | ⟨rfl, rfl⟩ | ⟨m2, n2, o2, q'⟩
      · cases l'
      · exact absurd rfl (occ _ _ _ a l')
      · rfl
      · exact absurd rfl (occ _ _ _ q' l')
    · rcases b _ _ h' with ⟨_, rfl⟩ | ⟨rfl, rfl⟩ | ⟨rfl, rfl⟩ | ⟨m2, n2, o2, q'⟩
      · cases l'
      · exact absurd (w.one _ _ _ _ _ q a l l') m1
      · cases l'
        exact absurd rfl (occ _ _ _ q l)
      · exact w.one _ _ _ _ _ q q' l l'
  · rcases b _ _ h with ⟨rfl, rfl⟩ | ⟨rfl, rfl⟩ | ⟨rfl, rfl⟩ | ⟨m1, n1, o1, q⟩
    · exact .refl _
    · have := (rc _ _ (w.reach _ _ a)).1 hm
      rw [if_pos rfl] at this
      exact this
    · have := (rc _ _ (w.reach _ _ hp)).1 (hom _ _ hp)
      rw [if_neg npa] at this
      exact this
    · have := (rc _ _ (w.reach _ _ q)).1 (hom _ _ q)
      rw [if_neg m1] at this
      exact this
  · have key : ∀ j x, At ns' j x → (j = mp k ∧ x.key = k) ∨ ∃ j0 y, At ns j0 y ∧ y.key = x.key ∧ j = (if j0 = mp k then f else j0) := fun j x h => by
      rcases b _ _ h with ⟨rfl, rfl⟩ | ⟨rfl, rfl⟩ | ⟨rfl, rfl⟩ | ⟨m1, n1, o1, q⟩
      · exact .inl ⟨rfl, rfl⟩
      · exact .inr ⟨_, _, a, rfl, by rw [if_pos rfl]⟩
      · exact .inr ⟨_, _, hp, rfl, by rw [if_neg npa]⟩
      · exact .inr ⟨_, _, q, rfl, by rw [if_neg m1]⟩
    rcases key _ _ h with ⟨e1, k1⟩ | ⟨j1, y1, a1, k1, e1⟩
    · rcases key _ _ h' with ⟨e2, k2⟩ | ⟨j2, y2, a2, k2, e2⟩
      · rw [e1, e2]
      · exact absurd (k2.trans (e.symm.trans k1)) (no1 _ _ a2)
    · rcases key _ _ h' with ⟨e2, k2⟩ | ⟨j2, y2, a2, k2, e2⟩
      · exact absurd (k1.trans (e.trans k2)) (no1 _ _ a1)
      · rw [e1, e2, w.keys _ _ _ _ a1 a2 (k1.trans (e.trans k2.symm))]
  · have fin : ∀ j0 y, At ns j0 y → ∃ z, At ns' (mp y.key) z ∧ mp z.key = mp y.key := fun j0 y hy => by
      obtain ⟨u, hu1, ku⟩ := w.home _ _ hy
      obtain ⟨z, hz, kz⟩ := ex _ _ hu1
      exact ⟨z, hz, by rw [kz (hom _ _ hy)]; exact ku⟩
    rcases b _ _ h with ⟨rfl, rfl⟩ | ⟨rfl, rfl⟩ | ⟨rfl, rfl⟩ | ⟨m1, n1, o1, q⟩
    · exact ⟨_, sa, rfl⟩
    · exact fin _ _ a
    · exact fin _ pd hp
    · exact fin _ _ q
  · have h2 : j < ns.length := by rw [← hns, List.length_set, List.length_set, List.length_set] at h2; exact h2
    rcases Nat.eq_or_lt_of_le h1 with e | e
    · rw [← e]; exact ⟨_, sf⟩
    · have : ∃ x, At ns j x := by
        rcases Nat.lt_or_ge j free with q | q
        · exact hu j e q
        · exact w.full j q h2
      obtain ⟨x, hx⟩ := this
      obtain ⟨z, hz, _⟩ := ex _ _ hx
      exact ⟨z, hz⟩
  · rw [← hns, List.length_set, List.length_set, List.length_set]
    exact Nat.le_of_lt hfl
end
end Tb
namespace Tb
section
variable {κ ν : Type} [DecidableEq κ] [DecidableEq ν]
/-- the next free place, counting down -/
def down (ns : Ns κ ν) : Nat → Option Nat
  | 0 => none
  | n + 1 => match ns[n]? with
    | some none => some n
    | _ => down ns n
theorem down_some {ns : Ns κ ν} : ∀ {n f : Nat}, down ns n = some f → f < n ∧ ns[f]? = some none ∧ ∀ i, f < i → i < n → i < ns.length → ∃ x, At ns i x
  | 0, f, h => by cases h
  | n + 1, f, h => by
    unfold down at h
    split at h
    · rename_i e
      cases h
      exact ⟨Nat.lt_succ_self _, e, fun i h1 h2 => absurd h1 (by omega)⟩
    · rename_i hx
      obtain ⟨a, b, c⟩ := down_some h
      refine ⟨by omega, b, fun i h1 h2 h3 => ?_⟩
      rcases Nat.lt_or_ge i n with q | q
      · exact c i h1 q h3
      · have e : i = n := by omega
        subst e
        cases z : ns[i] with
        | none => exact absurd (by rw [List.getElem?_eq_getElem h3, z]) hx
        | some x => exact ⟨x, by unfold At; rw [List.getElem?_eq_getElem h3, z]⟩
theorem down_none {ns : Ns κ ν} : ∀ {n : Nat}, down ns n = none → ∀ i, i < n → i < ns.length → ∃ x, At ns i x
  | 0, _, i, h1, _ => by omega
  | n + 1, h, i, h1, h3 => by
    unfold down at h
    split at h
    · cases h
    · rename_i hx
      rcases Nat.lt_or_ge i n with q | q
      · exact down_none h i q h3
      · have e : i = n := by omega
        subst e
        cases z : ns[i] with
        | none => exact absurd (by rw [List.getElem?_eq_getElem h3, z]) hx
        | some x => exact ⟨x, by unfold At; rw [List.getElem?_eq_getElem h3, z]⟩
/-- the node that links to j -/
def pred (ns : Ns κ ν) (j : Nat) : Option Nat := ns.findIdx? fun o => match o with
  | some nd => decide (nd.link = some j)
  | none => false
theorem pred_some {ns : Ns κ ν} {j i : Nat} (h : pred ns j = some i) : ∃ nd, At ns i nd ∧ nd.link = some j := by
  unfold pred at h
  obtain ⟨hl, hp, _⟩ := List.findIdx?_eq_some_iff_getElem.mp h
  cases e : ns[i] with
  | none => rw [e] at hp; cases hp
  | some nd =>
    rw [e] at hp
    exact ⟨nd, by unfold At; rw [List.getElem?_eq_getElem hl, e], of_decide_eq_true hp⟩
theorem pred_at {mp : κ → Nat} {ns : Ns κ ν} {free i j : Nat} {nd : Nd κ ν} (w : WF mp ns free) (a : At ns i nd) (l : nd.link = some j) : pred ns j = some i := by
  cases e : pred ns j with
  | none =>
    unfold pred at e
    have := List.findIdx?_eq_none_iff.mp e (some nd) (List.mem_of_getElem? a)
    simp [l] at this
  | some p =>
    obtain ⟨pd, ap, lp⟩ := pred_some e
    rw [w.one _ _ _ _ _ ap a lp l]
/-- a new key: the nodes and the last free place behind it; none: no room -/
def ins (mp : κ → Nat) (nil : ν) (ns : Ns κ ν) (free : Nat) (k : κ) (v : ν) : Option (Ns κ ν × Nat) :=
  match ns[mp k]? with
  | none => none
  | some none => some (ns.set (mp k) (some ⟨k, v, none⟩), free)
  | some (some nd) =>
    if nd.val = nil then some (ns.set (mp k) (some ⟨k, v, nd.link⟩), free) else
    match down ns free with
    | none => none
    | some f =>
      if mp nd.key = mp k then some ((ns.set f (some ⟨k, v, nd.link⟩)).set (mp k) (some ⟨nd.key, nd.val, some f⟩), f) else
      match pred ns (mp k) with
      | none => none
      | some p => match ns[p]? with
        | some (some pd) => some (((ns.set p (some ⟨pd.key, pd.val, some f⟩)).set f (some nd)).set (mp k) (some ⟨k, v, none⟩), f)
        | _ => none
section
variable {mp : κ → Nat} {nil v : ν} {ns : Ns κ ν} {free f p : Nat} {k : κ} {nd pd : Nd κ ν}
theorem ins_fresh (h : ns[mp k]? = some none) : ins mp nil ns free k v = some (ns.set (mp k) (some ⟨k, v, none⟩), free) := by
  unfold ins; rw [h]
theorem ins_reuse (a : At ns (mp k) nd) (h : nd.val = nil) : ins mp nil ns free k v = some (ns.set (mp k) (some ⟨k, v, nd.link⟩), free) := by
  unfold ins; rw [show ns[mp k]? = _ from a]; simp only [if_pos h]
theorem ins_full (a : At ns (mp k) nd) (h : nd.val ≠ nil) (d : down ns free = none) : ins mp nil ns free k v = none := by
  unfold ins; rw [show ns[mp k]? = _ from a]; simp only [if_neg h, d]
theorem ins_second (a : At ns (mp k) nd) (h : nd.val ≠ nil) (d : down ns free = some f) (hm : mp nd.key = mp k) :
    ins mp nil ns free k v = some ((ns.set f (some ⟨k, v, nd.link⟩)).set (mp k) (some ⟨nd.key, nd.val, some f⟩), f) := by
  unfold ins; rw [show ns[mp k]? = _ from a]; simp only [if_neg h, d, if_pos hm]
theorem ins_move (w : WF mp ns free) (a : At ns (mp k) nd) (h : nd.val ≠ nil) (d : down ns free = some f) (hm : mp nd.key ≠ mp k) (hp : At ns p pd) (l : pd.link = some (mp k)) :
    ins mp nil ns free k v = some (((ns.set p (some ⟨pd.key, pd.val, some f⟩)).set f (some nd)).set (mp k) (some ⟨k, v, none⟩), f) := by
  unfold ins; rw [show ns[mp k]? = _ from a]; simp only [if_neg h, d, if_neg hm, pred_at w hp l, show ns[p]? = _ from hp]
/-- a node that lies where it does not belong is linked to -/
theorem has_pred (w : WF mp ns free) {i : Nat} (a : At ns i nd) (hm : mp nd.key ≠ i) : ∃ p pd, At ns p pd ∧ pd.link = some i ∧ Rc ns (mp nd.key) p := by
  have key : ∀ {i j : Nat}, Rc ns i j → i ≠ j → ∃ p pd, At ns p pd ∧ pd.link = some j ∧ Rc ns i p := by
    intro i j h
    induction h with
    | refl i => intro e; exact absurd rfl e
    | @step i j l x hx hl _ ih =>
      intro e
      by_cases q : j = l
      · exact ⟨i, x, hx, by rw [← q]; exact hl, .refl _⟩
      · obtain ⟨p, pd, a1, a2, a3⟩ := ih q
        exact ⟨p, pd, a1, a2, .step hx hl a3⟩
  exact key (w.reach _ _ a) hm
def occ (ns : Ns κ ν) : Nat := ns.countP Option.isSome
theorem occ_le (ns : Ns κ ν) : occ ns ≤ ns.length := List.countP_le_length
theorem occ_new (n : Nat) : occ (List.replicate n none : Ns κ ν) = 0 := by
  unfold occ
  rw [List.countP_eq_zero]
  intro a h
  rw [List.eq_of_mem_replicate h]
  exact Bool.noConfusion
theorem occ_full (h : ∀ i, i < ns.length → ∃ x, At ns i x) : occ ns = ns.length := by
  unfold occ
  rw [List.countP_eq_length]
  intro a ha
  obtain ⟨i, hi⟩ := List.mem_iff_getElem?.mp ha
  obtain ⟨x, hx⟩ := h i (List.getElem?_eq_some_iff.mp hi).1
  unfold At at hx
  rw [hx] at hi
  cases hi
  rfl
theorem occ_set {i : Nat} {x : Nd κ ν} (h : i < ns.length) : occ (ns.set i (some x)) ≤ occ ns + 1 := by
  unfold occ
  rw [List.countP_set h]
  simp

theorem occ_set_at {i : Nat} {x y : Nd κ ν} (h : At ns i y) : occ (ns.set i (some x)) = occ ns := by
  have e : ns[i]'h.lt = some y := by
    have := h
    unfold At at this
    rw [List.getElem?_eq_getElem h.lt] at this
    exact Option.some.inj this
  have pos : 0 < occ ns := by
    unfold occ
    exact List.countP_pos_iff.mpr ⟨some y, by rw [← e]; exact List.getElem_mem _, rfl⟩
  unfold occ at pos ⊢
  rw [List.countP_set h.lt, e]
  simp
  omega
/-- what comes of a new key -/
theorem ins_wf (w : WF mp ns free) (hl : mp k < ns.length) (no : look ns k = none) {ns' : Ns κ ν} {f' : Nat} (h : ins mp nil ns free k v = some (ns', f')) :
    WF mp ns' f' ∧ ns'.length = ns.length ∧ occ ns' ≤ occ ns + 1 ∧ (∀ i x, At ns' i x → (x.key = k ∧ x.val = v) ∨ ∃ j y, At ns j y ∧ y.key = x.key ∧ y.val = x.val) ∧ (∃ i x, At ns' i x ∧ x.key = k ∧ x.val = v) ∧
      (∀ i x, At ns i x → x.val ≠ nil → ∃ j y, At ns' j y ∧ y.key = x.key ∧ y.val = x.val) := by
  cases e : ns[mp k]? with
  | none => rw [List.getElem?_eq_getElem hl] at e; cases e
  | some o =>
    cases o with
    | none =>
      have na : ∀ nd, ¬ At ns (mp k) nd := fun nd a => by unfold At at a; rw [e] at a; cases a
      rw [ins_fresh e] at h
      cases h
      refine ⟨w.fresh hl na no v, List.length_set .., occ_set hl, fun i x a => ?_, ⟨mp k, _, at_set.mpr (.inl ⟨rfl, hl, rfl⟩), rfl, rfl⟩, fun i x a _ => ⟨i, x, at_set.mpr (.inr ⟨fun z => na x (by rw [z]; exact a), a⟩), rfl, rfl⟩⟩
      rcases at_set.mp a with ⟨_, _, q⟩ | ⟨_, q⟩
      · cases q; exact .inl ⟨rfl, rfl⟩
      · exact .inr ⟨_, _, q, rfl, rfl⟩
    | some nd =>
      have a : At ns (mp k) nd := e
      by_cases hv : nd.val = nil
      · rw [ins_reuse a hv] at h
        cases h
        refine ⟨w.reuse a no v, List.length_set .., Nat.le_trans (Nat.le_of_eq (occ_set_at a)) (Nat.le_succ _), fun i x b => ?_, ⟨mp k, _, at_set.mpr (.inl ⟨rfl, hl, rfl⟩), rfl, rfl⟩, fun i x b hx => ⟨i, x, at_set.mpr (.inr ⟨fun z => hx (by rw [← z] at b; rw [At.inj b a]; exact hv), b⟩), rfl, rfl⟩⟩
        rcases at_set.mp b with ⟨_, _, q⟩ | ⟨_, q⟩
        · cases q; exact .inl ⟨rfl, rfl⟩
        · exact .inr ⟨_, _, q, rfl, rfl⟩
      · cases hd : down ns free with
        | none => rw [ins_full a hv hd] at h; cases h
        | some f =>
          obtain ⟨d1, d2, d3⟩ := down_some hd
          have he : ∀ x, ¬ At ns f x := fun x z => by unfold At at z; rw [d2] at z; cases z
          have hu : ∀ i, f < i → i < free → ∃ x, At ns i x := fun i h1 h2 => d3 i h1 h2 (Nat.lt_of_lt_of_le h2 w.le)
          have hfl : f < ns.length := Nat.lt_of_lt_of_le d1 w.le
          have nfa : f ≠ mp k := fun z => he nd (by rw [z]; exact a)
          by_cases hm : mp nd.key = mp k
          · rw [ins_second a hv hd hm] at h
            cases h
            refine ⟨w.second a hm no d1 he hu v, by rw [List.length_set, List.length_set], ?_, fun i x b => ?_, ⟨f', ⟨k, v, nd.link⟩, at_set.mpr (.inr ⟨nfa.symm, at_set.mpr (.inl ⟨rfl, hfl, rfl⟩)⟩), rfl, rfl⟩, fun i x b hx => ?_⟩
            · have a2 : At (ns.set f' (some ⟨k, v, nd.link⟩)) (mp k) nd := at_set.mpr (.inr ⟨nfa, a⟩)
              rw [occ_set_at a2]
              exact occ_set hfl
            · rcases at_set.mp b with ⟨_, _, q⟩ | ⟨_, q⟩
              · cases q; exact .inr ⟨_, _, a, rfl, rfl⟩
              · rcases at_set.mp q with ⟨_, _, q⟩ | ⟨_, q⟩
                · cases q; exact .inl ⟨rfl, rfl⟩
                · exact .inr ⟨_, _, q, rfl, rfl⟩
            · by_cases z : i = mp k
              · subst z
                rw [At.inj b a]
                exact ⟨_, _, at_set.mpr (.inl ⟨rfl, by rw [List.length_set]; exact hl, rfl⟩), rfl, rfl⟩
              · exact ⟨i, x, at_set.mpr (.inr ⟨fun y => z y.symm, at_set.mpr (.inr ⟨fun y => he x (by rw [y]; exact b), b⟩)⟩), rfl, rfl⟩
          · obtain ⟨p, pd, hp, lp, _⟩ := has_pred w a hm
            have npf : p ≠ f := fun z => he pd (by rw [← z]; exact hp)
            have npa : p ≠ mp k := rank_ne w hp lp
            rw [ins_move w a hv hd hm hp lp] at h
            cases h
            refine ⟨w.move a hm hp lp no d1 he hu v, by rw [List.length_set, List.length_set, List.length_set], ?_, fun i x b => ?_, ⟨mp k, _, at_set.mpr (.inl ⟨rfl, by rw [List.length_set, List.length_set]; exact hl, rfl⟩), rfl, rfl⟩, fun i x b hx => ?_⟩
            · have a1 : At (ns.set p (some ⟨pd.key, pd.val, some f'⟩)) (mp k) nd := at_set.mpr (.inr ⟨npa, a⟩)
              have a2 : At ((ns.set p (some ⟨pd.key, pd.val, some f'⟩)).set f' (some nd)) (mp k) nd := at_set.mpr (.inr ⟨nfa, a1⟩)
              rw [occ_set_at a2]
              refine Nat.le_trans (occ_set (by rw [List.length_set]; exact hfl)) ?_
              rw [occ_set_at hp]
              exact Nat.le_refl _
            · rcases at_set.mp b with ⟨_, _, q⟩ | ⟨_, q⟩
              · cases q; exact .inl ⟨rfl, rfl⟩
              · rcases at_set.mp q with ⟨_, _, q⟩ | ⟨_, q⟩
                · cases q; exact .inr ⟨_, _, a, rfl, rfl⟩
                · rcases at_set.mp q with ⟨_, _, q⟩ | ⟨_, q⟩
                  · cases q; exact .inr ⟨_, _, hp, rfl, rfl⟩
                  · exact .inr ⟨_, _, q, rfl, rfl⟩
            · by_cases z : i = mp k
              · subst z
                rw [At.inj b a]
                exact ⟨f', nd, at_set.mpr (.inr ⟨nfa.symm, at_set.mpr (.inl ⟨rfl, by rw [List.length_set]; exact hfl, rfl⟩)⟩), rfl, rfl⟩
              · by_cases z2 : i = p
                · subst z2
                  rw [At.inj b hp]
                  exact ⟨i, ⟨pd.key, pd.val, some f'⟩, at_set.mpr (.inr ⟨npa.symm, at_set.mpr (.inr ⟨npf.symm, at_set.mpr (.inl ⟨rfl, hp.lt, rfl⟩)⟩)⟩), rfl, rfl⟩
                · exact ⟨i, x, at_set.mpr (.inr ⟨fun y => z y.symm, at_set.mpr (.inr ⟨fun y => he x (by rw [y]; exact b), at_set.mpr (.inr ⟨fun y => z2 y.symm, b⟩)⟩)⟩), rfl, rfl⟩
/-- where there is room, a new key finds it -/
theorem ins_room (w : WF mp ns free) (hl : mp k < ns.length) (ho : occ ns < ns.length) : ∃ ns' f', ins mp nil ns free k v = some (ns', f') := by
  cases e : ns[mp k]? with
  | none => rw [List.getElem?_eq_getElem hl] at e; cases e
  | some o =>
    cases o with
    | none => exact ⟨_, _, ins_fresh e⟩
    | some nd =>
      have a : At ns (mp k) nd := e
      by_cases hv : nd.val = nil
      · exact ⟨_, _, ins_reuse a hv⟩
      · cases hd : down ns free with
        | none =>
          refine absurd (occ_full fun i hi => ?_) (Nat.ne_of_lt ho)
          rcases Nat.lt_or_ge i free with q | q
          · exact down_none hd i q hi
          · exact w.full i q hi
        | some f =>
          by_cases hm : mp nd.key = mp k
          · exact ⟨_, _, ins_second a hv hd hm⟩
          · obtain ⟨p, pd, hp, lp, _⟩ := has_pred w a hm
            exact ⟨_, _, ins_move w a hv hd hm hp lp⟩
end
end
end Tb
namespace U
open PySem L2 Tb
/-! ## keys -/
inductive Ky where
  | i (n : Int) | b (c : Bool) | s (z : Str) | f (g : Fl) | t (a : Addr) (num : Int)
  deriving DecidableEq
def Ky.sc : Ky → Bool
  | .i _ | .b _ | .s _ => true
  | _ => false
/-- 31 * found + ord(sign), in 32 bits, sign by sign -/
def sumT : List Nat → Int → Int
  | [], f => f
  | c :: cs, f => sumT cs ((31 * f + (c : Int)) % 4294967296)
def sumFl : Fl → Int
  | .fin s t p => let len : Int := bits t
    let cut := s * (t * 2147483648 / 2 ^ len.toNat)
    let found := (len + p + cut) % 4294967296
    if found < 2147483648 then found else 4294967295 - found
  | _ => 0
def oddN (n : Nat) : Int := 2 * (((n : Int) - 1) / 2) + 1
def mpI (k : Ky) (n : Nat) : Int := match k with
  | .b c => (if c then 1 else 0) % (n : Int)
  | .i m => (m % 18446744073709551616) % oddN n
  | .f g => sumFl g % oddN n
  | .s z => sumT z.cps.toList 0 % (n : Int)
  | .t _ num => num % oddN n
def mpK (n : Nat) (k : Ky) : Nat := (mpI k n).toNat
theorem sumT_nn : ∀ (cs : List Nat) (f : Int), 0 ≤ f → 0 ≤ sumT cs f
  | [], _, h => h
  | c :: cs, f, h => sumT_nn cs _ (Int.emod_nonneg _ (by decide))
theorem oddN_pos {n : Nat} (h : 0 < n) : 0 < oddN n ∧ oddN n ≤ n := by
  unfold oddN
  omega
theorem or_zero : ∀ (m : Nat) (z : Int), 0 ≤ z → z < m → Builtin.bitOr z 0 = z
  | 0, z, h, h2 => by omega
  | m + 1, z, h, h2 => by
    rw [or_halves]
    by_cases e : z = 0
    · subst e; decide
    · rw [show (0 : Int) / 2 = 0 by decide, or_zero m (z / 2) (by omega) (by omega)]
      omega
theorem or_one {n : Nat} (h : 0 < n) : Builtin.bitOr ((n : Int) - 1) 1 = oddN n := by
  unfold oddN
  rw [or_halves, show (1 : Int) / 2 = 0 by decide, or_zero (n + 1) _ (by omega) (by omega)]
  omega
theorem mpI_range {k : Ky} {n : Nat} (h : 0 < n) : 0 ≤ mpI k n ∧ mpI k n < n := by
  have ho := oddN_pos h
  have hn : (0 : Int) < n := by omega
  have key : ∀ x : Int, 0 ≤ x % oddN n ∧ x % oddN n < n := fun x => ⟨Int.emod_nonneg _ (by omega), Int.lt_of_lt_of_le (Int.emod_lt_of_pos _ ho.1) ho.2⟩
  have key2 : ∀ x : Int, 0 ≤ x % (n : Int) ∧ x % (n : Int) < n := fun x => ⟨Int.emod_nonneg _ (by omega), Int.emod_lt_of_pos _ hn⟩
  cases k with
  | i m => exact key _
  | b c => exact key2 _
  | s z => exact key2 _
  | f g => exact key _
  | t a m => exact key _
theorem mpK_int {k : Ky} {n : Nat} (h : 0 < n) : ((mpK n k : Nat) : Int) = mpI k n := by
  have := (mpI_range (k := k) h).1
  unfold mpK
  omega
theorem mpK_lt {k : Ky} {n : Nat} (h : 0 < n) : mpK n k < n := by
  have h1 := (mpI_range (k := k) h).2
  have := mpK_int (k := k) h
  omega
/-- ints as keys: with room beyond 64 bits, for a border's next -/
def fitsK (n : Int) : Prop := -18446744073709551616 ≤ n ∧ n ≤ 18446744073709551615
/-- what a value is as a key -/
def KV (C TC : Addr) (H : Hp) : V → Ky → Prop
  | v, .i n => v = .int n ∧ fitsK n
  | v, .b c => v = .bl c
  | v, .s z => v = .str z ∧ z.length ≤ 1000
  | v, .f g => ∃ x, v = .ref x ∧ FltF C H x g ∧ g.ok ∧ whF g = none ∧ g.isNan = false
  | v, .t a num => v = .ref a ∧ ∃ dx fs, H a = some (.ins TC dx fs) ∧ fs.lookup ("number" : Str) = some (.int num)
theorem KV.same {C TC : Addr} {H H' : Hp} {v : V} {k : Ky} (h : KV C TC H v k) (e : Same H H') : KV C TC H' v k := by
  cases k with
  | i n => exact h
  | b c => exact h
  | s z => exact h
  | f g => obtain ⟨x, e1, h1, h2⟩ := h; exact ⟨x, e1, h1.same e, h2⟩
  | t a n => obtain ⟨e1, dx, fs, h1, h2⟩ := h; exact ⟨e1, dx, fs, e _ _ h1, h2⟩
theorem KV.sc {C TC : Addr} {H H' : Hp} {v : V} {k : Ky} (h : KV C TC H v k) (s : k.sc = true) : KV C TC H' v k := by
  cases k with
  | i n => exact h
  | b c => exact h
  | s z => exact h
  | f g => cases s
  | t a n => cases s
/-! ## tables -/
structure TM where
  num : V
  mt : V
  places : List V
  nodes : Ns Ky V
  free : Nat
structure Tv where
  dx : Addr
  pl : Addr
  nl : Addr
  as : List (Option Addr)
def nodeV : Option Addr → V
  | some a => .ref a | none => .non
def lnV : Option Nat → V
  | some n => .int n | none => .non
def tfs (num mt : V) (pl nl : Addr) (f : Nat) : List (Str × V) := [("number", num), ("meta", mt), ("places", .ref pl), ("nodes", .ref nl), ("free", .int f)]
def nfs (kv v l : V) : List (Str × V) := [("key", kv), ("value", v), ("link", l), ("is_dead", .bl false)]
def Tv.own (w : Tv) (a : Addr) : Addr → Prop := fun b => b = a ∨ b = w.pl ∨ b = w.nl ∨ some b ∈ w.as
def NodeAt (C TC NC : Addr) (H : Hp) (p : Addr) (nd : Nd Ky V) : Prop := ∃ dx kv, H p = some (.ins NC dx (nfs kv nd.val (lnV nd.link))) ∧ KV C TC H kv nd.key
structure TabAt (C TC NC : Addr) (H : Hp) (a : Addr) (t : TM) (w : Tv) : Prop where
  obj : H a = some (.ins TC w.dx (tfs t.num t.mt w.pl w.nl t.free))
  places : H w.pl = some (.lst t.places)
  nodes : H w.nl = some (.lst (w.as.map nodeV))
  len : w.as.length = t.nodes.length
  gaps : ∀ i : Nat, w.as[i]? = some none → t.nodes[i]? = some none
  node : ∀ (i : Nat) (p : Addr), w.as[i]? = some (some p) → ∃ nd, At t.nodes i nd ∧ NodeAt C TC NC H p nd
  ne : w.pl ≠ w.nl
  inj : ∀ (i j : Nat) (p : Addr), w.as[i]? = some (some p) → w.as[j]? = some (some p) → i = j
  cls : TC ≠ NC
theorem TabAt.same {C TC NC : Addr} {H H' : Hp} {a : Addr} {t : TM} {w : Tv} (h : TabAt C TC NC H a t w) (e : Same H H') : TabAt C TC NC H' a t w :=
  ⟨e _ _ h.obj, e _ _ h.places, e _ _ h.nodes, h.len, h.gaps, fun i p hp => by
    obtain ⟨nd, h1, dx, kv, h2, h3⟩ := h.node i p hp
    exact ⟨nd, h1, dx, kv, e _ _ h2, h3.same e⟩, h.ne, h.inj, h.cls⟩
section
variable {C TC NC : Addr} {H : Hp} {a : Addr} {t : TM} {w : Tv}
theorem TabAt.at (h : TabAt C TC NC H a t w) {i : Nat} {nd : Nd Ky V} (x : At t.nodes i nd) : ∃ p dx kv, w.as[i]? = some (some p) ∧ H p = some (.ins NC dx (nfs kv nd.val (lnV nd.link))) ∧ KV C TC H kv nd.key := by
  have hi : i < w.as.length := by rw [h.len]; exact x.lt
  cases e : w.as[i] with
  | none =>
    have := h.gaps i (by rw [List.getElem?_eq_getElem hi, e])
    unfold At at x
    rw [x] at this
    cases this
  | some p =>
    obtain ⟨nd', h1, dx, kv, h2, h3⟩ := h.node i p (by rw [List.getElem?_eq_getElem hi, e])
    rw [At.inj x h1]
    exact ⟨p, dx, kv, by rw [List.getElem?_eq_getElem hi, e], h2, h3⟩
theorem TabAt.gap (h : TabAt C TC NC H a t w) {i : Nat} (x : t.nodes[i]? = some none) : w.as[i]? = some none := by
  have hi : i < w.as.length := by rw [h.len]; exact (List.getElem?_eq_some_iff.mp x).1
  cases e : w.as[i] with
  | none => rw [List.getElem?_eq_getElem hi, e]
  | some p =>
    obtain ⟨nd', h1, _⟩ := h.node i p (by rw [List.getElem?_eq_getElem hi, e])
    unfold At at h1
    rw [x] at h1
    cases h1
end
/-- all but what is told stays -/
def FrO (S : Addr → Prop) (H H' : Hp) : Prop := ∀ b o, ¬ S b → H b = some o → H' b = some o
theorem FrO.refl {S : Addr → Prop} {H : Hp} : FrO S H H := fun _ _ _ e => e
theorem FrO.of {S : Addr → Prop} {H H' : Hp} (e : Same H H') : FrO S H H' := fun b o _ h => e b o h
theorem FrO.trans {S S' : Addr → Prop} {H H1 H2 : Hp} (a : FrO S H H1) (b : FrO S' H1 H2) (s : ∀ b, S' b → S b ∨ H b = none) : FrO S H H2 := fun x o n e =>
  b x o (fun z => (s x z).elim n (fun q => by rw [q] at e; cases e)) (a x o n e)
/-- what a deed on the table at a leaves: its new shape, and that all else stays -/
def TabTo (C TC NC : Addr) (H H' : Hp) (a : Addr) (w : Tv) (t' : TM) : Prop := ∃ w', TabAt C TC NC H' a t' w' ∧ FrO (w.own a) H H' ∧ ∀ b, w'.own a b → w.own a b ∨ H b = none
theorem TabTo.of {C TC NC : Addr} {H H' : Hp} {a : Addr} {t : TM} {w : Tv} (h : TabAt C TC NC H a t w) (e : Same H H') : TabTo C TC NC H H' a w t := ⟨w, h.same e, FrO.of e, fun _ z => .inl z⟩
end U
namespace U
open PySem L2 Tb
/-- what makes keys of objects stays: floats, and the numbers of tables -/
structure Kp (C TC : Addr) (H H' : Hp) : Prop where
  f : ∀ b dx fs, H b = some (.ins C dx fs) → H' b = some (.ins C dx fs)
  t : ∀ b dx fs n, H b = some (.ins TC dx fs) → fs.lookup ("number" : Str) = some (.int n) → ∃ dx' fs', H' b = some (.ins TC dx' fs') ∧ fs'.lookup ("number" : Str) = some (.int n)
section
variable {C TC NC : Addr} {H H' H1 H2 : Hp} {a : Addr} {t : TM} {w : Tv}
theorem Kp.of (e : Same H H') : Kp C TC H H' := ⟨fun _ _ _ h => e _ _ h, fun b dx fs n h l => ⟨dx, fs, e _ _ h, l⟩⟩
theorem Kp.trans (x : Kp C TC H H1) (y : Kp C TC H1 H2) : Kp C TC H H2 := ⟨fun b dx fs h => y.f _ _ _ (x.f _ _ _ h), fun b dx fs n h l => by
  obtain ⟨dx', fs', h', l'⟩ := x.t b dx fs n h l
  exact y.t _ _ _ _ h' l'⟩
theorem KV.kp {v : V} {k : Ky} (h : KV C TC H v k) (e : Kp C TC H H') : KV C TC H' v k := by
  cases k with
  | i n => exact h
  | b c => exact h
  | s z => exact h
  | f g =>
    obtain ⟨x, e1, h1, h2⟩ := h
    refine ⟨x, e1, ?_, h2⟩
    cases g <;> (obtain ⟨dx, h1⟩ := h1; exact ⟨dx, e.f _ _ _ h1⟩)
  | t a n =>
    obtain ⟨e1, dx, fs, h1, h2⟩ := h
    obtain ⟨dx', fs', h1', h2'⟩ := e.t _ _ _ _ h1 h2
    exact ⟨e1, dx', fs', h1', h2'⟩
theorem Kp.put {b : Addr} {o o' : HO} (hb : H b = some o) (h1 : ∀ dx fs, o ≠ .ins C dx fs) (h2 : ∀ dx fs n, o = .ins TC dx fs → fs.lookup ("number" : Str) = some (.int n) → ∃ dx' fs', o' = .ins TC dx' fs' ∧ fs'.lookup ("number" : Str) = some (.int n)) : Kp C TC H (upd H b o') := by
  refine ⟨fun x dx fs h => ?_, fun x dx fs n h l => ?_⟩
  · have : x ≠ b := fun e => by
      rw [e, hb] at h
      exact h1 dx fs (Option.some.inj h)
    rw [upd_ne this]
    exact h
  · by_cases e : x = b
    · subst e
      rw [hb] at h
      obtain ⟨dx', fs', e1, e2⟩ := h2 dx fs n (Option.some.inj h) l
      exact ⟨dx', fs', by rw [upd_same, e1], e2⟩
    · exact ⟨dx, fs, by rw [upd_ne e]; exact h, l⟩
theorem Kp.lst {b : Addr} {xs : List V} {o' : HO} (hb : H b = some (.lst xs)) : Kp C TC H (upd H b o') := Kp.put hb (fun _ _ z => by cases z) (fun _ _ _ z => by cases z)
theorem tfs_num {n m : V} {p q : Addr} {f : Nat} : (tfs n m p q f).lookup ("number" : Str) = some n := by with_unfolding_all rfl
theorem tfs_meta {n m : V} {p q : Addr} {f : Nat} : (tfs n m p q f).lookup ("meta" : Str) = some m := by with_unfolding_all rfl
theorem tfs_places {n m : V} {p q : Addr} {f : Nat} : (tfs n m p q f).lookup ("places" : Str) = some (.ref p) := by with_unfolding_all rfl
theorem tfs_nodes {n m : V} {p q : Addr} {f : Nat} : (tfs n m p q f).lookup ("nodes" : Str) = some (.ref q) := by with_unfolding_all rfl
theorem tfs_free {n m : V} {p q : Addr} {f : Nat} : (tfs n m p q f).lookup ("free" : Str) = some (.int f) := by with_unfolding_all rfl
theorem nfs_key {k v l : V} : (nfs k v l).lookup ("key" : Str) = some k := by with_unfolding_all rfl
theorem nfs_value {k v l : V} : (nfs k v l).lookup ("value" : Str) = some v := by with_unfolding_all rfl
theorem nfs_link {k v l : V} : (nfs k v l).lookup ("link" : Str) = some l := by with_unfolding_all rfl
theorem nfs_dead {k v l : V} : (nfs k v l).lookup ("is_dead" : Str) = some (.bl false) := by with_unfolding_all rfl
theorem tfs_pf {n m : V} {p q : Addr} {f : Nat} {x : Int} (h : x = (f : Int)) {g : Nat} : putF "free" (.int x) (tfs n m p q g) = tfs n m p q f := by subst h; with_unfolding_all rfl
theorem tfs_pp {n m : V} {p q r : Addr} {f : Nat} : putF "places" (.ref r) (tfs n m p q f) = tfs n m r q f := by with_unfolding_all rfl
theorem tfs_pn {n m : V} {p q r : Addr} {f : Nat} : putF "nodes" (.ref r) (tfs n m p q f) = tfs n m p r f := by with_unfolding_all rfl
theorem nfs_pk {k v l x : V} : putF "key" x (nfs k v l) = nfs x v l := by with_unfolding_all rfl
theorem nfs_pv {k v l x : V} : putF "value" x (nfs k v l) = nfs k x l := by with_unfolding_all rfl
theorem nfs_pl {k v l x : V} : putF "link" x (nfs k v l) = nfs k v x := by with_unfolding_all rfl
theorem nfs_pd {k v l : V} : putF "is_dead" (.bl false) (nfs k v l) = nfs k v l := by with_unfolding_all rfl
/-- the classes differ -/
structure Cls3 (C TC NC : Addr) : Prop where
  ct : C ≠ TC
  cn : C ≠ NC
  tn : TC ≠ NC
variable (X : Cls3 C TC NC)
theorem TabAt.apl (h : TabAt C TC NC H a t w) : a ≠ w.pl := fun e => by have := h.obj; rw [e, h.places] at this; cases this
theorem TabAt.anl (h : TabAt C TC NC H a t w) : a ≠ w.nl := fun e => by have := h.obj; rw [e, h.nodes] at this; cases this
theorem TabAt.anode (h : TabAt C TC NC H a t w) {i : Nat} {p : Addr} (q : w.as[i]? = some (some p)) : p ≠ a ∧ p ≠ w.pl ∧ p ≠ w.nl := by
  obtain ⟨nd, _, dx, kv, e, _⟩ := h.node i p q
  refine ⟨fun z => ?_, fun z => ?_, fun z => ?_⟩
  · rw [z, h.obj] at e
    injection e with e
    injection e with e
    exact h.cls e
  · rw [z, h.places] at e; cases e
  · rw [z, h.nodes] at e; cases e
include X in
theorem TabAt.kpO (h : TabAt C TC NC H a t w) {f : Nat} {pl nl : Addr} : Kp C TC H (upd H a (.ins TC w.dx (tfs t.num t.mt pl nl f))) := by
  refine Kp.put h.obj (fun dx fs z => ?_) (fun dx fs n z l => ⟨_, _, rfl, ?_⟩)
  · injection z with z
    exact X.ct z.symm
  · injection z with _ _ z
    rw [← z, tfs_num] at l
    rw [tfs_num]
    exact l
include X in
theorem kpN {p dx : Addr} {kv v l : V} {o' : HO} (h : H p = some (.ins NC dx (nfs kv v l))) : Kp C TC H (upd H p o') := by
  refine Kp.put h (fun dx fs z => ?_) (fun dx fs n z l => ?_)
  · injection z with z
    exact X.cn z.symm
  · injection z with z
    exact absurd z.symm X.tn
include X in
theorem TabAt.setFree (h : TabAt C TC NC H a t w) (f : Nat) : TabAt C TC NC (upd H a (.ins TC w.dx (tfs t.num t.mt w.pl w.nl f))) a { t with free := f } w := by
  have kp := h.kpO X (f := f) (pl := w.pl) (nl := w.nl)
  exact ⟨upd_same, by rw [upd_ne h.apl.symm]; exact h.places, by rw [upd_ne h.anl.symm]; exact h.nodes, h.len, h.gaps, fun i p hp => by
    obtain ⟨nd, h1, dx, kv, h2, h3⟩ := h.node i p hp
    exact ⟨nd, h1, dx, kv, by rw [upd_ne (h.anode hp).1]; exact h2, h3.kp kp⟩, h.ne, h.inj, h.cls⟩
theorem TabAt.setPlace (h : TabAt C TC NC H a t w) (i : Nat) (v : V) : TabAt C TC NC (upd H w.pl (.lst (t.places.set i v))) a { t with places := t.places.set i v } w :=
  ⟨by rw [upd_ne h.apl]; exact h.obj, upd_same, by rw [upd_ne h.ne.symm]; exact h.nodes, h.len, h.gaps, fun i p hp => by
    obtain ⟨nd, h1, dx, kv, h2, h3⟩ := h.node i p hp
    exact ⟨nd, h1, dx, kv, by rw [upd_ne (h.anode hp).2.1]; exact h2, h3.kp (Kp.lst h.places)⟩, h.ne, h.inj, h.cls⟩
include X in
theorem TabAt.setNode (h : TabAt C TC NC H a t w) {i : Nat} {p dx : Addr} {nd : Nd Ky V} {kv0 v0 l0 kv v : V} {l : Option Nat} {k : Ky} (x : At t.nodes i nd) (hp : w.as[i]? = some (some p)) (hn : H p = some (.ins NC dx (nfs kv0 v0 l0))) (hk : KV C TC H kv k) :
    TabAt C TC NC (upd H p (.ins NC dx (nfs kv v (lnV l)))) a { t with nodes := t.nodes.set i (some ⟨k, v, l⟩) } w := by
  have an := h.anode hp
  have kp : Kp C TC H (upd H p (.ins NC dx (nfs kv v (lnV l)))) := kpN X hn
  refine ⟨by rw [upd_ne an.1.symm]; exact h.obj, by rw [upd_ne an.2.1.symm]; exact h.places, by rw [upd_ne an.2.2.symm]; exact h.nodes, by rw [List.length_set]; exact h.len, fun j hj => ?_, fun j q hq => ?_, h.ne, h.inj, h.cls⟩
  · have : i ≠ j := fun e => by
      subst e
      rw [hp] at hj
      cases hj
    rw [List.getElem?_set_ne this]
    exact h.gaps j hj
  · by_cases e : i = j
    · subst e
      rw [hp] at hq
      cases hq
      exact ⟨_, at_set.mpr (.inl ⟨rfl, x.lt, rfl⟩), dx, kv, upd_same, hk.kp kp⟩
    · obtain ⟨nd', h1, dx', kv', h2, h3⟩ := h.node j q hq
      have : q ≠ p := fun z => e (by subst z; exact h.inj _ _ _ hp hq)
      exact ⟨nd', at_set.mpr (.inr ⟨e, h1⟩), dx', kv', by rw [upd_ne this]; exact h2, h3.kp kp⟩
theorem map_set {as : List (Option Addr)} {i : Nat} {q : Addr} : (as.map nodeV).set i (.ref q) = (as.set i (some q)).map nodeV := by rw [List.map_set]; rfl
/-- a new node is put at a free place -/
theorem TabAt.newNode (h : TabAt C TC NC H a t w) {i : Nat} {q dx : Addr} {kv v : V} {l : Option Nat} {k : Ky} (x : t.nodes[i]? = some none) (hq : H q = none) (sm : Same H H1) (hn : H1 q = some (.ins NC dx (nfs kv v (lnV l)))) (hk : KV C TC H kv k) :
    TabAt C TC NC (upd H1 w.nl (.lst ((w.as.map nodeV).set i (.ref q)))) a { t with nodes := t.nodes.set i (some ⟨k, v, l⟩) } { w with as := w.as.set i (some q) } := by
  have h1 := h.same sm
  have il : i < w.as.length := by rw [h.len]; exact (List.getElem?_eq_some_iff.mp x).1
  have kp : Kp C TC H1 (upd H1 w.nl (.lst ((w.as.map nodeV).set i (.ref q)))) := Kp.lst h1.nodes
  have qn : q ≠ w.nl := fun e => by rw [e, h.nodes] at hq; cases hq
  refine ⟨by rw [upd_ne h.anl]; exact h1.obj, by rw [upd_ne h.ne]; exact h1.places, by rw [map_set]; exact upd_same, by rw [List.length_set, List.length_set]; exact h.len, fun j hj => ?_, fun j p hp => ?_, h.ne, fun j j' p hj hj' => ?_, h.cls⟩
  · have : i ≠ j := fun e => by
      subst e
      rw [show ({ w with as := w.as.set i (some q) } : Tv).as = w.as.set i (some q) from rfl, List.getElem?_set_self il] at hj
      cases hj
    rw [List.getElem?_set_ne this]
    rw [show ({ w with as := w.as.set i (some q) } : Tv).as = w.as.set i (some q) from rfl, List.getElem?_set_ne this] at hj
    exact h.gaps j hj
  · by_cases e : i = j
    · subst e
      rw [show ({ w with as := w.as.set i (some q) } : Tv).as = w.as.set i (some q) from rfl, List.getElem?_set_self il] at hp
      cases hp
      exact ⟨_, at_set.mpr (.inl ⟨rfl, (List.getElem?_eq_some_iff.mp x).1, rfl⟩), dx, kv, by rw [upd_ne qn]; exact hn, (hk.same sm).kp kp⟩
    · rw [show ({ w with as := w.as.set i (some q) } : Tv).as = w.as.set i (some q) from rfl, List.getElem?_set_ne e] at hp
      obtain ⟨nd', g1, dx', kv', g2, g3⟩ := h1.node j p hp
      exact ⟨nd', at_set.mpr (.inr ⟨e, g1⟩), dx', kv', by rw [upd_ne (h.anode hp).2.2]; exact g2, g3.kp kp⟩
  · have key : ∀ j p, (w.as.set i (some q))[j]? = some (some p) → (j = i ∧ p = q) ∨ (j ≠ i ∧ w.as[j]? = some (some p)) := fun j p z => by
      by_cases e : i = j
      · subst e
        rw [List.getElem?_set_self il] at z
        cases z
        exact .inl ⟨rfl, rfl⟩
      · rw [List.getElem?_set_ne e] at z
        exact .inr ⟨fun y => e y.symm, z⟩
    have old : ∀ j p, w.as[j]? = some (some p) → p ≠ q := fun j p z e => by
      obtain ⟨_, _, _, _, z2, _⟩ := h.node j p z
      rw [e, hq] at z2
      cases z2
    rcases key _ _ hj with ⟨e1, e2⟩ | ⟨e1, e2⟩
    · rcases key _ _ hj' with ⟨e3, e4⟩ | ⟨e3, e4⟩
      · rw [e1, e3]
      · exact absurd e2 (old _ _ e4)
    · rcases key _ _ hj' with ⟨e3, e4⟩ | ⟨e3, e4⟩
      · exact absurd e4 (old _ _ e2)
      · exact h.inj _ _ _ e2 e4
end
end U
namespace U
open PySem L2 Tb
structure TabC (K : PySem.W.Frag) (TC : Addr) : Prop where
  cl : Cls K TC
  nNum : NoAttr K TC "number"
  nMeta : NoAttr K TC "meta"
  nPlaces : NoAttr K TC "places"
  nNodes : NoAttr K TC "nodes"
  nFree : NoAttr K TC "free"
structure NodC (K : PySem.W.Frag) (NC : Addr) : Prop where
  cl : Cls K NC
  nKey : NoAttr K NC "key"
  nValue : NoAttr K NC "value"
  nLink : NoAttr K NC "link"
  nDead : NoAttr K NC "is_dead"
/-- a table as it should be -/
structure TabOk (C TC NC : Addr) (H : Hp) (a : Addr) (t : TM) (w : Tv) : Prop where
  at_ : TabAt C TC NC H a t w
  wf : WF (mpK t.nodes.length) t.nodes t.free
  sc : ∀ i nd, At t.nodes i nd → nd.key.sc = true
  szN : t.nodes.length ≤ 4194304
  szP : t.places.length ≤ 4194304
theorem TabOk.same {C TC NC : Addr} {H H' : Hp} {a : Addr} {t : TM} {w : Tv} (h : TabOk C TC NC H a t w) (e : Same H H') : TabOk C TC NC H' a t w := ⟨h.at_.same e, h.wf, h.sc, h.szN, h.szP⟩
def isPl (t : TM) : Ky → Bool
  | .i n => decide (1 ≤ n ∧ n ≤ t.places.length)
  | _ => false
def ndVal (ns : Ns Ky V) (i : Nat) : V := match ns[i]? with
  | some (some nd) => nd.val
  | _ => .non
def getM (t : TM) (k : Ky) : V := match k with
  | .i n => if 1 ≤ n ∧ n ≤ t.places.length then t.places.getD (n - 1).toNat .non else match look t.nodes (.i n) with | some i => ndVal t.nodes i | none => .non
  | k => match look t.nodes k with | some i => ndVal t.nodes i | none => .non
/-! ## promises -/
def spCk (C TC : Addr) : Sp := fun vs H Q _ => ∃ v k, vs = [v] ∧ KV C TC H v k ∧ k.sc = true ∧ Q v H
def spIsNanS (C TC : Addr) : Sp := fun vs H Q _ => ∃ v k, vs = [v] ∧ KV C TC H v k ∧ k.sc = true ∧ Q (.bl false) H
def spCbk (C TC : Addr) : Sp := fun vs H Q _ => ∃ v k, vs = [v] ∧ KV C TC H v k ∧ k.sc = true ∧ ∀ H', Same H H' → Q (.bl true) H'
def spChkK (C TC : Addr) : Sp := fun vs H Q _ => ∃ v k, vs = [v] ∧ KV C TC H v k ∧ k.sc = true ∧ Q .non H
def spAeq (C TC : Addr) : Sp := fun vs H Q _ => ∃ x y k l, vs = [x, y] ∧ KV C TC H x k ∧ KV C TC H y l ∧ k.sc = true ∧ l.sc = true ∧ Q (.bl (decide (k = l))) H
def spSumT : Sp := fun vs H Q _ => ∃ z : Str, vs = [.str z] ∧ z.length ≤ 1000 ∧ Q (.int (sumT z.cps.toList 0)) H
def spMp (C TC : Addr) : Sp := fun vs H Q _ => ∃ (v : V) (k : Ky) (n : Nat), vs = [v, .int n] ∧ KV C TC H v k ∧ k.sc = true ∧ 0 < n ∧ n ≤ 4194304 ∧ Q (.int (mpI k n)) H
def spHas (C TC NC : Addr) : Sp := fun vs H Q _ => ∃ (a : Addr) (v : V) (k : Ky) (t : TM) (w : Tv), vs = [.ref a, v] ∧ TabAt C TC NC H a t w ∧ KV C TC H v k ∧ k.sc = true ∧ Q (.bl (isPl t k)) H
def spNof (C TC NC : Addr) : Sp := fun vs H Q _ => ∃ (a : Addr) (v : V) (b : Bool) (k : Ky) (t : TM) (w : Tv), vs = [.ref a, v, .bl b] ∧ TabOk C TC NC H a t w ∧ KV C TC H v k ∧ k.sc = true ∧ ∀ H', Same H H' → Q (lnV (look t.nodes k)) H'
def spGet (C TC NC : Addr) : Sp := fun vs H Q _ => ∃ (a : Addr) (v : V) (k : Ky) (t : TM) (w : Tv), vs = [.ref a, v] ∧ TabOk C TC NC H a t w ∧ KV C TC H v k ∧ k.sc = true ∧ ∀ H', Same H H' → Q (getM t k) H'
section
variable {K : PySem.W.Frag} {C TC NC : Addr} {H : Hp} {Q : VK} {E : XK} {v u : V} {k l : Ky} {a : Addr} {t : TM} {w : Tv} {M : V → Prop}
theorem l_ck (h : KV C TC H v k) (s : k.sc = true) (q : Q v H) : spCk C TC ([v] ++ []) H Q E := ⟨v, k, rfl, h, s, q⟩
theorem l_isNanS (h : KV C TC H v k) (s : k.sc = true) (q : Q (.bl false) H) : spIsNanS C TC ([v] ++ []) H Q E := ⟨v, k, rfl, h, s, q⟩
theorem l_cbk (h : KV C TC H v k) (s : k.sc = true) (q : ∀ H', Same H H' → Q (.bl true) H') : spCbk C TC ([v] ++ []) H Q E := ⟨v, k, rfl, h, s, q⟩
theorem l_chkK (h : KV C TC H v k) (s : k.sc = true) (q : Q .non H) : spChkK C TC ([v] ++ []) H Q E := ⟨v, k, rfl, h, s, q⟩
theorem l_aeq (h : KV C TC H v k) (h2 : KV C TC H u l) (s : k.sc = true) (s2 : l.sc = true) (q : Q (.bl (decide (k = l))) H) : spAeq C TC ([v, u] ++ []) H Q E := ⟨v, u, k, l, rfl, h, h2, s, s2, q⟩
theorem l_sumT {z : Str} (h : z.length ≤ 1000) (q : Q (.int (sumT z.cps.toList 0)) H) : spSumT ([.str z] ++ []) H Q E := ⟨z, rfl, h, q⟩
theorem l_mp {n : Nat} (h : KV C TC H v k) (s : k.sc = true) (n0 : 0 < n) (n1 : n ≤ 4194304) (q : Q (.int (mpI k n)) H) : spMp C TC ([v, .int n] ++ []) H Q E := ⟨v, k, n, rfl, h, s, n0, n1, q⟩
theorem l_has (h : TabAt C TC NC H a t w) (hk : KV C TC H v k) (s : k.sc = true) (q : Q (.bl (isPl t k)) H) : spHas C TC NC (.ref a :: ([v] ++ [])) H Q E := ⟨a, v, k, t, w, rfl, h, hk, s, q⟩
theorem l_nof {b : Bool} (h : TabOk C TC NC H a t w) (hk : KV C TC H v k) (s : k.sc = true) (q : ∀ H', Same H H' → Q (lnV (look t.nodes k)) H') : spNof C TC NC (.ref a :: ([v, .bl b] ++ [])) H Q E := ⟨a, v, b, k, t, w, rfl, h, hk, s, q⟩
theorem l_get (h : TabOk C TC NC H a t w) (hk : KV C TC H v k) (s : k.sc = true) (q : ∀ H', Same H H' → Q (getM t k) H') : spGet C TC NC (.ref a :: ([v] ++ [])) H Q E := ⟨a, v, k, t, w, rfl, h, hk, s, q⟩
/-! its fields -/
theorem l_tP (tc : TabC K TC) (h : TabAt C TC NC H a t w) (q : M (.ref w.pl)) : ∃ a' C' dx fs v', V.ref a = .ref a' ∧ H a' = some (.ins C' dx fs) ∧ Cls K C' ∧ NoAttr K C' "places" ∧ fs.lookup ("places" : Str) = some v' ∧ M v' := ⟨a, _, _, _, _, rfl, h.obj, tc.cl, tc.nPlaces, tfs_places, q⟩
theorem l_tN (tc : TabC K TC) (h : TabAt C TC NC H a t w) (q : M (.ref w.nl)) : ∃ a' C' dx fs v', V.ref a = .ref a' ∧ H a' = some (.ins C' dx fs) ∧ Cls K C' ∧ NoAttr K C' "nodes" ∧ fs.lookup ("nodes" : Str) = some v' ∧ M v' := ⟨a, _, _, _, _, rfl, h.obj, tc.cl, tc.nNodes, tfs_nodes, q⟩
theorem l_tF (tc : TabC K TC) (h : TabAt C TC NC H a t w) (q : M (.int t.free)) : ∃ a' C' dx fs v', V.ref a = .ref a' ∧ H a' = some (.ins C' dx fs) ∧ Cls K C' ∧ NoAttr K C' "free" ∧ fs.lookup ("free" : Str) = some v' ∧ M v' := ⟨a, _, _, _, _, rfl, h.obj, tc.cl, tc.nFree, tfs_free, q⟩
theorem l_nK {p dx : Addr} {kv x l : V} (nc : NodC K NC) (h : H p = some (.ins NC dx (nfs kv x l))) (q : M kv) : ∃ a' C' dx fs v', V.ref p = .ref a' ∧ H a' = some (.ins C' dx fs) ∧ Cls K C' ∧ NoAttr K C' "key" ∧ fs.lookup ("key" : Str) = some v' ∧ M v' := ⟨p, _, _, _, _, rfl, h, nc.cl, nc.nKey, nfs_key, q⟩
theorem l_nV {p dx : Addr} {kv x l : V} (nc : NodC K NC) (h : H p = some (.ins NC dx (nfs kv x l))) (q : M x) : ∃ a' C' dx fs v', V.ref p = .ref a' ∧ H a' = some (.ins C' dx fs) ∧ Cls K C' ∧ NoAttr K C' "value" ∧ fs.lookup ("value" : Str) = some v' ∧ M v' := ⟨p, _, _, _, _, rfl, h, nc.cl, nc.nValue, nfs_value, q⟩
theorem l_nL {p dx : Addr} {kv x l : V} (nc : NodC K NC) (h : H p = some (.ins NC dx (nfs kv x l))) (q : M l) : ∃ a' C' dx fs v', V.ref p = .ref a' ∧ H a' = some (.ins C' dx fs) ∧ Cls K C' ∧ NoAttr K C' "link" ∧ fs.lookup ("link" : Str) = some v' ∧ M v' := ⟨p, _, _, _, _, rfl, h, nc.cl, nc.nLink, nfs_link, q⟩
theorem l_nD {p dx : Addr} {kv x l : V} (nc : NodC K NC) (h : H p = some (.ins NC dx (nfs kv x l))) (q : M (.bl false)) : ∃ a' C' dx fs v', V.ref p = .ref a' ∧ H a' = some (.ins C' dx fs) ∧ Cls K C' ∧ NoAttr K C' "is_dead" ∧ fs.lookup ("is_dead" : Str) = some v' ∧ M v' := ⟨p, _, _, _, _, rfl, h, nc.cl, nc.nDead, nfs_dead, q⟩
/-- a method of a table is asked for -/
theorem l_mthT {m : Str} {N : Prop} (h : TabAt C TC NC H a t w) (hm : ∀ n mt p q f, (tfs n mt p q f).lookup m = none) (q : N) : ∃ a' dx fs, V.ref a = .ref a' ∧ H a' = some (.ins TC dx fs) ∧ fs.lookup m = none ∧ N := ⟨a, w.dx, _, rfl, h.obj, hm _ _ _ _ _, q⟩
theorem tfs_none {m : Str} (h1 : (m == ("number" : Str)) = false) (h2 : (m == ("meta" : Str)) = false) (h3 : (m == ("places" : Str)) = false) (h4 : (m == ("nodes" : Str)) = false) (h5 : (m == ("free" : Str)) = false) : ∀ n mt p q f, (tfs n mt p q f).lookup m = none := fun n mt p q f => by
  unfold tfs
  simp only [List.lookup, h1, h2, h3, h4, h5]
/-- an item of a list, by an index that is no less than 0 -/
theorem l_ixN {p : Addr} {xs : List V} {i : Int} {x : V} (h : H p = some (.lst xs)) (h0 : 0 ≤ i) (hx : xs[i.toNat]? = some x) (q : Q x H) : rIxL K (.ref p) (.int i) H Q := by
  have hl := (List.getElem?_eq_some_iff.mp hx).1
  refine l_ixL (SqL.of h) ?_ q
  unfold atI ixN
  rw [if_pos h0, if_pos (by omega)]
  exact hx
end
theorem sc_cases {C TC : Addr} {H : Hp} {v : V} {k : Ky} (h : KV C TC H v k) (s : k.sc = true) : (∃ n, v = .int n ∧ k = .i n ∧ fitsK n) ∨ (∃ c, v = .bl c ∧ k = .b c) ∨ (∃ z, v = .str z ∧ k = .s z ∧ z.length ≤ 1000) := by
  cases k with
  | i n => exact .inl ⟨n, h.1, rfl, h.2⟩
  | b c => exact .inr (.inl ⟨c, h, rfl⟩)
  | s z => exact .inr (.inr ⟨z, h.1, rfl, h.2⟩)
  | f g => cases s
  | t a n => cases s
theorem l_isnV {x : V} {H : Hp} {Q : VK} (h : (decide (x = .non)) = false) (q : Q (.bl false) H) : rIsn x .non H Q := ⟨rfl, by rw [h]; exact q⟩
theorem l_notnV {x : V} {H : Hp} {Q : VK} (h : (decide (x = .non)) = false) (q : Q (.bl true) H) : rNotn x .non H Q := ⟨rfl, by rw [h]; exact q⟩
theorem l_isnD {x : V} {H : Hp} {Q : VK} (q1 : x = .non → Q (.bl true) H) (q2 : x ≠ .non → Q (.bl false) H) : rIsn x .non H Q := by
  refine ⟨rfl, ?_⟩
  by_cases h : x = .non
  · rw [decide_eq_true h]; exact q1 h
  · rw [decide_eq_false h]; exact q2 h
theorem l_notnD {x : V} {H : Hp} {Q : VK} (q1 : x = .non → Q (.bl false) H) (q2 : x ≠ .non → Q (.bl true) H) : rNotn x .non H Q := by
  refine ⟨rfl, ?_⟩
  by_cases h : x = .non
  · rw [decide_eq_true h]; exact q1 h
  · rw [decide_eq_false h]; exact q2 h
theorem l_andM32 {H : Hp} {Q : VK} {i : Int} (q : Q (.int (i % 4294967296)) H) : rAndM (.int i) (.int 4294967295) H Q := ⟨i, 32, rfl, rfl, q⟩
theorem l_isi4 {K : PySem.W.Frag} {C TC KD p : Addr} {H : Hp} {Q : VK} {v : V} {k : Ky} (hp : H p = some (.tup [.ty "bool", .ty "int", .ty "str", .ref KD])) (h : KV C TC H v k) (s : k.sc = true) (q : Q (.bl true) H) : rIsiT K [v, .ref p] H Q := by
  have cs : Paired ClsV [.ty "bool", .ty "int", .ty "str", .ref KD] [.type "bool", .type "int", .type "str", .ref KD] := .cons (.ty _) (.cons (.ty _) (.cons (.ty _) (.cons (.own _) .nil)))
  have k1 : PySem.W.kitOne K (.type "bool") (.type "bool") = some true := kit_ty (by decide +kernel)
  have k2 : PySem.W.kitOne K (.type "int") (.type "bool") = some false := kit_ty (by decide +kernel)
  have k3 : PySem.W.kitOne K (.type "int") (.type "int") = some true := kit_ty (by decide +kernel)
  have k4 : PySem.W.kitOne K (.type "str") (.type "bool") = some false := kit_ty (by decide +kernel)
  have k5 : PySem.W.kitOne K (.type "str") (.type "int") = some false := kit_ty (by decide +kernel)
  have k6 : PySem.W.kitOne K (.type "str") (.type "str") = some true := kit_ty (by decide +kernel)
  rcases sc_cases h s with ⟨n, rfl, rfl, hn⟩ | ⟨c, rfl, rfl⟩ | ⟨z, rfl, rfl, hz⟩
  · exact ⟨_, p, _, .type "int", _, true, rfl, hp, cs, .base (.int _), by simp only [PySem.W.kitAny, k2, k3], q⟩
  · exact ⟨_, p, _, .type "bool", _, true, rfl, hp, cs, .base (.bl _), by simp only [PySem.W.kitAny, k1], q⟩
  · exact ⟨_, p, _, .type "str", _, true, rfl, hp, cs, .base (.str _), by simp only [PySem.W.kitAny, k4, k5, k6], q⟩
theorem l_isSB {K : PySem.W.Frag} {H : Hp} {Q : VK} {z : Str} (q : Q (.bl false) H) : rIsi K [.str z, .ty "bool"] H Q := l_isi (ClsV.ty _) (TyX.base (TyOf.str z)) (kit_ty (by decide +kernel)) q
theorem l_iStr {te : TE} {σ : St} {H : Hp} {R : It → Hp → Prop} (h : te σ H fun v H1 => ∃ x, v = .str x ∧ R (Its x) H1) : iStr te σ H R := h
theorem l_strV {z : Str} {M : Str → Prop} (h : M z) : ∃ x, V.str z = .str x ∧ M x := ⟨z, rfl, h⟩
theorem sumT_snoc : ∀ (cs : List Nat) (c : Nat) (f : Int), sumT (cs ++ [c]) f = (31 * sumT cs f + (c : Int)) % 4294967296
  | [], _, _ => rfl
  | d :: cs, c, f => sumT_snoc cs c _
theorem fmod_odd {x : Int} {n : Nat} (h : 0 < n) : x.fmod (oddN n) = x % oddN n := Int.fmod_eq_emod_of_nonneg _ (by have := oddN_pos h; omega)
theorem fmod_n {x : Int} {n : Nat} : x.fmod (n : Int) = x % (n : Int) := Int.fmod_eq_emod_of_nonneg _ (by omega)
/-- either rule -/
def rOr (r1 r2 : R2) : R2 := fun x y H Q => r1 x y H Q ∨ r2 x y H Q
theorem op_eith {X : Cx} {f : Value → Value → Sem Value} {r1 r2 : R2} (h1 : OpR X f r1) (h2 : OpR X f r2) : OpR X f (rOr r1 r2) := by
  intro pins s σ H x y v u Q I rx ry h
  rcases h with h | h
  · exact h1 pins s σ H x y v u Q I rx ry h
  · exact h2 pins s σ H x y v u Q I rx ry h
/-- == of two plain keys -/
def keq : Ky → Ky → Bool
  | .b c, .i n => decide ((if c then 1 else 0) = n)
  | .i n, .b c => decide (n = (if c then 1 else 0))
  | k, l => decide (k = l)
theorem l_eqK {K : PySem.W.Frag} {C TC : Addr} {H : Hp} {Q : VK} {x y : V} {k l : Ky} (hx : KV C TC H x k) (hy : KV C TC H y l) (s1 : k.sc = true) (s2 : l.sc = true) (q : Q (.bl (keq k l)) H) : rOr rEq (rEqD K) x y H Q := by
  rcases sc_cases hx s1 with ⟨n, rfl, rfl, hn⟩ | ⟨c, rfl, rfl⟩ | ⟨z, rfl, rfl, hz⟩
  · rcases sc_cases hy s2 with ⟨n2, rfl, rfl, hn2⟩ | ⟨c2, rfl, rfl⟩ | ⟨z2, rfl, rfl, hz2⟩
    · exact .inl ⟨rfl, ends q (congrArg V.bl (by simp [keq]))⟩
    · refine .inr ⟨_, _, .int n, .bl c2, rfl, rfl, ends q (congrArg V.bl ?_)⟩
      cases c2 <;> simp [keq, PyData.eqv] <;> rfl
    · exact .inl ⟨rfl, ends q (congrArg V.bl (by simp [keq]))⟩
  · rcases sc_cases hy s2 with ⟨n2, rfl, rfl, hn2⟩ | ⟨c2, rfl, rfl⟩ | ⟨z2, rfl, rfl, hz2⟩
    · refine .inr ⟨_, _, .bl c, .int n2, rfl, rfl, ends q (congrArg V.bl ?_)⟩
      cases c <;> simp [keq, PyData.eqv] <;> rfl
    · exact .inl ⟨rfl, ends q (congrArg V.bl (by simp [keq]))⟩
    · exact .inl ⟨rfl, ends q (congrArg V.bl (by simp [keq]))⟩
  · rcases sc_cases hy s2 with ⟨n2, rfl, rfl, hn2⟩ | ⟨c2, rfl, rfl⟩ | ⟨z2, rfl, rfl, hz2⟩
    · exact .inl ⟨rfl, ends q (congrArg V.bl (by simp [keq]))⟩
    · exact .inl ⟨rfl, ends q (congrArg V.bl (by simp [keq]))⟩
    · exact .inl ⟨rfl, ends q (congrArg V.bl (by simp [keq]))⟩
def spNo : Sp := fun _ _ _ _ => False
theorem getM_i {t : TM} {n : Int} : getM t (.i n) = if 1 ≤ n ∧ n ≤ (t.places.length : Int) then t.places.getD (n - 1).toNat .non else match look t.nodes (.i n) with | some i => ndVal t.nodes i | none => .non := rfl
theorem getM_pl {t : TM} {n : Int} (h : isPl t (.i n) = true) : 1 ≤ n ∧ n ≤ t.places.length ∧ ∃ x, t.places[(n - 1).toNat]? = some x ∧ getM t (.i n) = x := by
  have h' : 1 ≤ n ∧ n ≤ t.places.length := of_decide_eq_true h
  have hl : (n - 1).toNat < t.places.length := by omega
  refine ⟨h'.1, h'.2, t.places[(n - 1).toNat], List.getElem?_eq_getElem hl, ?_⟩
  rw [getM_i, if_pos h', List.getD_eq_getElem?_getD, List.getElem?_eq_getElem hl]
  rfl
theorem getM_no {t : TM} {k : Ky} (h : isPl t k = false) : getM t k = match look t.nodes k with | some i => ndVal t.nodes i | none => .non := by
  cases k with
  | i n =>
    have h' : ¬ (1 ≤ n ∧ n ≤ t.places.length) := of_decide_eq_false h
    rw [getM_i, if_neg h']
  | b c => rfl
  | s z => rfl
  | f g => rfl
  | t a m => rfl
theorem ndVal_at {ns : Ns Ky V} {i : Nat} {nd : Nd Ky V} (h : At ns i nd) : ndVal ns i = nd.val := by
  unfold ndVal
  rw [show ns[i]? = _ from h]
theorem isPl_i {t : TM} {k : Ky} (h : isPl t k = true) : ∃ n, k = .i n := by
  cases k with
  | i n => exact ⟨n, rfl⟩
  | b c => cases h
  | s z => cases h
  | f g => cases h
  | t a m => cases h
end U
namespace U
open PySem L2 Tb
section
variable {C TC NC : Addr} {H H' H1 H3 : Hp} {a : Addr} {t : TM} {w : Tv}
/-- the node at i is moved to the free place f, a new one is put at i -/
theorem TabAt.moved (h : TabAt C TC NC H a t w) {i f : Nat} {p q dx : Addr} {nd : Nd Ky V} {kv v : V} {k : Ky} (x : At t.nodes i nd) (hp : w.as[i]? = some (some p)) (g : t.nodes[f]? = some none) (hq : H q = none)
    (sm : Same (upd H w.nl (.lst ((w.as.map nodeV).set f (.ref p)))) H3) (hn : H3 q = some (.ins NC dx (nfs kv v (lnV none)))) (hk : KV C TC H kv k) :
    TabAt C TC NC (upd H3 w.nl (.lst (((w.as.map nodeV).set f (.ref p)).set i (.ref q)))) a { t with nodes := (t.nodes.set f (some nd)).set i (some ⟨k, v, none⟩) } { w with as := (w.as.set f (some p)).set i (some q) } := by
  have fl : f < w.as.length := by rw [h.len]; exact (List.getElem?_eq_some_iff.mp g).1
  have il : i < w.as.length := (List.getElem?_eq_some_iff.mp hp).1
  have fi : f ≠ i := fun e => by
    unfold At at x
    rw [← e, g] at x
    cases x
  have qn : q ≠ w.nl := fun e => by rw [e, h.nodes] at hq; cases hq
  have keep : ∀ b o, b ≠ w.nl → H b = some o → H3 b = some o := fun b o n e => sm b o (by rw [upd_ne n]; exact e)
  have nl3 : H3 w.nl = some (.lst ((w.as.map nodeV).set f (.ref p))) := sm _ _ upd_same
  have kp1 : Kp C TC H (upd H w.nl (.lst ((w.as.map nodeV).set f (.ref p)))) := Kp.lst h.nodes
  have kp2 : Kp C TC H3 (upd H3 w.nl (.lst (((w.as.map nodeV).set f (.ref p)).set i (.ref q)))) := Kp.lst nl3
  have kp : Kp C TC H (upd H3 w.nl (.lst (((w.as.map nodeV).set f (.ref p)).set i (.ref q)))) := (kp1.trans (Kp.of sm)).trans kp2
  have keep2 : ∀ b o, b ≠ w.nl → H b = some o → upd H3 w.nl (.lst (((w.as.map nodeV).set f (.ref p)).set i (.ref q))) b = some o := fun b o n e => by rw [upd_ne n]; exact keep b o n e
  have key : ∀ j : Nat, ∀ o, ((w.as.set f (some p)).set i (some q))[j]? = some o → (j = i ∧ o = some q) ∨ (j = f ∧ o = some p) ∨ (j ≠ i ∧ j ≠ f ∧ w.as[j]? = some o) := fun j o z => by
    by_cases e : i = j
    · subst e
      rw [List.getElem?_set_self (by rw [List.length_set]; exact il)] at z
      exact .inl ⟨rfl, (Option.some.inj z).symm⟩
    · rw [List.getElem?_set_ne e] at z
      by_cases e2 : f = j
      · subst e2
        rw [List.getElem?_set_self fl] at z
        exact .inr (.inl ⟨rfl, (Option.some.inj z).symm⟩)
      · rw [List.getElem?_set_ne e2] at z
        exact .inr (.inr ⟨fun y => e y.symm, fun y => e2 y.symm, z⟩)
  have old : ∀ j p', w.as[j]? = some (some p') → p' ≠ q := fun j p' z e => by
    obtain ⟨_, _, _, _, z2, _⟩ := h.node j p' z
    rw [e, hq] at z2
    cases z2
  refine ⟨keep2 _ _ h.anl h.obj, keep2 _ _ h.ne h.places, ?_, by rw [List.length_set, List.length_set, List.length_set, List.length_set]; exact h.len, fun j hj => ?_, fun j p' hp' => ?_, h.ne, fun j j' p' hj hj' => ?_, h.cls⟩
  · rw [map_set, map_set]
    exact upd_same
  · rcases key j none hj with ⟨_, z⟩ | ⟨_, z⟩ | ⟨e1, e2, z⟩
    · cases z
    · cases z
    · rw [List.getElem?_set_ne (Ne.symm e1), List.getElem?_set_ne (Ne.symm e2)]
      exact h.gaps j z
  · rcases key j (some p') hp' with ⟨rfl, z⟩ | ⟨rfl, z⟩ | ⟨e1, e2, z⟩
    · cases z
      exact ⟨_, at_set.mpr (.inl ⟨rfl, by rw [List.length_set, ← h.len]; exact il, rfl⟩), dx, kv, by rw [upd_ne qn]; exact hn, hk.kp kp⟩
    · cases z
      obtain ⟨nd', g1, dx', kv', g2, g3⟩ := h.node i p hp
      rw [At.inj g1 x] at g2 g3
      exact ⟨nd, at_set.mpr (.inr ⟨fi.symm, at_set.mpr (.inl ⟨rfl, by rw [← h.len]; exact fl, rfl⟩)⟩), dx', kv', keep2 _ _ (h.anode hp).2.2 g2, g3.kp kp⟩
    · obtain ⟨nd', g1, dx', kv', g2, g3⟩ := h.node j p' z
      exact ⟨nd', at_set.mpr (.inr ⟨Ne.symm e1, at_set.mpr (.inr ⟨Ne.symm e2, g1⟩)⟩), dx', kv', keep2 _ _ (h.anode z).2.2 g2, g3.kp kp⟩
  · rcases key _ _ hj with ⟨e1, z1⟩ | ⟨e1, z1⟩ | ⟨e1, f1, z1⟩
    · rcases key _ _ hj' with ⟨e2, z2⟩ | ⟨e2, z2⟩ | ⟨e2, f2, z2⟩
      · rw [e1, e2]
      · cases z1
        cases z2
        exact absurd rfl (old _ _ hp)
      · cases z1
        exact absurd rfl (old _ _ z2)
    · rcases key _ _ hj' with ⟨e2, z2⟩ | ⟨e2, z2⟩ | ⟨e2, f2, z2⟩
      · cases z1
        cases z2
        exact absurd rfl (old _ _ hp)
      · rw [e1, e2]
      · cases z1
        exact absurd (h.inj _ _ _ z2 hp) e2
    · rcases key _ _ hj' with ⟨e2, z2⟩ | ⟨e2, z2⟩ | ⟨e2, f2, z2⟩
      · cases z2
        exact absurd rfl (old _ _ z1)
      · cases z2
        exact absurd (h.inj _ _ _ z1 hp) e1
      · exact h.inj _ _ _ z1 z2
end
/-! ## nodes made -/
def spNodI (NC : Addr) : Sp := fun vs H Q _ => ∃ (x dx : Addr) (kv v l : V), vs = [.ref x, kv, v, l] ∧ H x = some (.ins NC dx []) ∧ ∀ G, Frm x H G → G x = some (.ins NC dx (nfs kv v l)) → Q .non G
def MkNode (NC : Addr) (vs : List V) (H1 : Hp) (Q : VK) : Prop := ∀ x dx, H1 x = none → H1 dx = none → dx ≠ x → spNodI NC (.ref x :: (vs ++ [])) (upd (upd H1 dx (.own x)) x (.ins NC dx [])) (fun v H2 => v = .non ∧ Q (.ref x) H2) E0
theorem l_mkN {NC : Addr} {ta : TA} {σ : St} {H : Hp} {Q : VK} (h : ta σ H fun vs H1 => MkNode NC vs H1 Q) : tMake NC (spNodI NC) [] E0 ta σ H Q := h
theorem l_mkN1 {NC : Addr} {H : Hp} {Q : VK} {kv v l : V} (q : ∀ p dx G, H p = none → Same H G → G p = some (.ins NC dx (nfs kv v l)) → Q (.ref p) G) : MkNode NC [kv, v, l] H Q := fun x dx hx hd _ =>
  ⟨x, dx, kv, v, l, rfl, upd_same, fun G hG hg => ⟨rfl, q x dx G hx (fun b o e => hG b o (ne_of_none e hx) (same2 hx hd b o e)) hg⟩⟩
/-! ## the deeds -/
def freeTo (t : TM) : Nat := match down t.nodes t.free with | some f => f | none => 0
def spFree (C TC NC : Addr) : Sp := fun vs H Q _ => ∃ (a : Addr) (t : TM) (w : Tv), vs = [.ref a] ∧ TabAt C TC NC H a t w ∧ t.free ≤ t.nodes.length ∧ t.nodes.length ≤ 4194304 ∧ ∀ H', Frm a H H' → TabAt C TC NC H' a { t with free := freeTo t } w → Q (.bl (down t.nodes t.free).isSome) H'
/-- what put_beside makes of the nodes -/
def besideM (mp : Ky → Nat) (ns : Ns Ky V) (f : Nat) (k : Ky) (v : V) : Ns Ky V := match ns[mp k]? with
  | some (some nd) => if mp nd.key = mp k then (ns.set f (some ⟨k, v, nd.link⟩)).set (mp k) (some ⟨nd.key, nd.val, some f⟩) else
    match pred ns (mp k) with
    | some p => (match ns[p]? with
      | some (some pd) => ((ns.set p (some ⟨pd.key, pd.val, some f⟩)).set f (some nd)).set (mp k) (some ⟨k, v, none⟩)
      | _ => ns)
    | none => ns
  | _ => ns
def spBeside (C TC NC : Addr) : Sp := fun vs H Q _ => ∃ (a : Addr) (kv v : V) (k : Ky) (t : TM) (w : Tv) (fr : Nat) (nd : Nd Ky V), vs = [.ref a, .int (mpK t.nodes.length k), kv, v] ∧ TabAt C TC NC H a t w ∧ WF (mpK t.nodes.length) t.nodes fr ∧ (∀ i nd, At t.nodes i nd → nd.key.sc = true) ∧ t.nodes.length ≤ 4194304 ∧
  At t.nodes (mpK t.nodes.length k) nd ∧ t.nodes[t.free]? = some none ∧ KV C TC H kv k ∧ k.sc = true ∧ ∀ H', TabTo C TC NC H H' a w { t with nodes := besideM (mpK t.nodes.length) t.nodes t.free k v } → Q .non H'
def spPutN0 (C TC NC : Addr) : Sp := fun vs H Q _ => ∃ (a : Addr) (kv v : V) (k : Ky) (t : TM) (w : Tv) (ns : Ns Ky V) (f : Nat), vs = [.ref a, kv, v] ∧ TabOk C TC NC H a t w ∧ look t.nodes k = none ∧ KV C TC H kv k ∧ k.sc = true ∧ ins (mpK t.nodes.length) .non t.nodes t.free k v = some (ns, f) ∧
  ∀ H', TabTo C TC NC H H' a w { t with nodes := ns, free := f } → Q .non H'
def put0 (t : TM) (k : Ky) (v : V) : Option TM :=
  if isPl t k = true then some { t with places := match k with | .i n => t.places.set (n - 1).toNat v | _ => t.places } else
  match look t.nodes k with
  | some i => some { t with nodes := match t.nodes[i]? with | some (some nd) => t.nodes.set i (some ⟨nd.key, v, nd.link⟩) | _ => t.nodes }
  | none => if v = .non then some t else match ins (mpK t.nodes.length) .non t.nodes t.free k v with
    | some (ns, f) => some { t with nodes := ns, free := f }
    | none => none
def spPut0 (C TC NC : Addr) : Sp := fun vs H Q _ => ∃ (a : Addr) (kv v : V) (k : Ky) (t t' : TM) (w : Tv), vs = [.ref a, kv, v] ∧ TabOk C TC NC H a t w ∧ KV C TC H kv k ∧ k.sc = true ∧ put0 t k v = some t' ∧ ∀ H', TabTo C TC NC H H' a w t' → Q .non H'
section
variable {K : PySem.W.Frag} {C TC NC : Addr} {H : Hp} {Q : VK} {E : XK} {v u : V} {k l : Ky} {a : Addr} {t : TM} {w : Tv} {M : V → Prop}
theorem l_free (h : TabAt C TC NC H a t w) (h1 : t.free ≤ t.nodes.length) (h2 : t.nodes.length ≤ 4194304) (q : ∀ H', Frm a H H' → TabAt C TC NC H' a { t with free := freeTo t } w → Q (.bl (down t.nodes t.free).isSome) H') : spFree C TC NC (.ref a :: ([] ++ [])) H Q E := ⟨a, t, w, rfl, h, h1, h2, q⟩
end
theorem down_gap {ns : Ns Ky V} {m : Nat} (h : ns[m]? = some none) : down ns (m + 1) = some m := by
  unfold down
  rw [h]
theorem down_occ {ns : Ns Ky V} {m : Nat} {nd : Nd Ky V} (h : At ns m nd) : down ns (m + 1) = down ns m := by
  rw [down, show ns[m]? = _ from h]
theorem ixN_nat {n j : Nat} (h : j < n) : ixN n (j : Int) = some j := by
  unfold ixN
  rw [if_pos (by omega), if_pos (by omega)]
  rfl
theorem FrO.lst {S : Addr → Prop} {H H1 : Hp} {b : Addr} {o : HO} (h : FrO S H H1) (hb : S b) : FrO S H (upd H1 b o) := fun x u n e => by
  rw [upd_ne (fun z => n (by rw [z]; exact hb))]
  exact h x u n e
theorem FrO.same {S : Addr → Prop} {H H1 H2 : Hp} (h : FrO S H H1) (e : Same H1 H2) : FrO S H H2 := fun x u n z => e x u (h x u n z)
theorem beside_second {mp : Ky → Nat} {ns : Ns Ky V} {f : Nat} {k : Ky} {v : V} {nd : Nd Ky V} (a : At ns (mp k) nd) (hm : mp nd.key = mp k) : besideM mp ns f k v = (ns.set f (some ⟨k, v, nd.link⟩)).set (mp k) (some ⟨nd.key, nd.val, some f⟩) := by
  unfold besideM
  rw [show ns[mp k]? = _ from a]
  simp only [if_pos hm]
theorem beside_move {mp : Ky → Nat} {ns : Ns Ky V} {f fr p : Nat} {k : Ky} {v : V} {nd pd : Nd Ky V} (w : WF mp ns fr) (a : At ns (mp k) nd) (hm : mp nd.key ≠ mp k) (hp : At ns p pd) (l : pd.link = some (mp k)) :
    besideM mp ns f k v = ((ns.set p (some ⟨pd.key, pd.val, some f⟩)).set f (some nd)).set (mp k) (some ⟨k, v, none⟩) := by
  unfold besideM
  rw [show ns[mp k]? = _ from a]
  simp only [if_neg hm, pred_at w hp l, show ns[p]? = _ from hp]
theorem own_set {w : Tv} {a b q : Addr} {i : Nat} (h : ({ w with as := w.as.set i (some q) } : Tv).own a b) : w.own a b ∨ b = q := by
  rcases h with h | h | h | h
  · exact .inl (.inl h)
  · exact .inl (.inr (.inl h))
  · exact .inl (.inr (.inr (.inl h)))
  · have h : some b ∈ w.as.set i (some q) := h
    rcases List.mem_or_eq_of_mem_set h with z | z
    · exact .inl (.inr (.inr (.inr z)))
    · exact .inr (Option.some.inj z)
theorem own_at {w : Tv} {a p : Addr} {i : Nat} (h : w.as[i]? = some (some p)) : w.own a p := .inr (.inr (.inr (List.mem_of_getElem? h)))
theorem l_tNo {K : PySem.W.Frag} {TC a dx : Addr} {n m : V} {p q : Addr} {f : Nat} {H : Hp} {M : V → Prop} (tc : TabC K TC) (h : H a = some (.ins TC dx (tfs n m p q f))) (z : M (.ref q)) : ∃ a' C' dx fs v', V.ref a = .ref a' ∧ H a' = some (.ins C' dx fs) ∧ Cls K C' ∧ NoAttr K C' "nodes" ∧ fs.lookup ("nodes" : Str) = some v' ∧ M v' := ⟨a, _, _, _, _, rfl, h, tc.cl, tc.nNodes, tfs_nodes, z⟩
theorem l_tFo {K : PySem.W.Frag} {TC a dx : Addr} {n m : V} {p q : Addr} {f : Nat} {H : Hp} {M : V → Prop} (tc : TabC K TC) (h : H a = some (.ins TC dx (tfs n m p q f))) (z : M (.int f)) : ∃ a' C' dx fs v', V.ref a = .ref a' ∧ H a' = some (.ins C' dx fs) ∧ Cls K C' ∧ NoAttr K C' "free" ∧ fs.lookup ("free" : Str) = some v' ∧ M v' := ⟨a, _, _, _, _, rfl, h, tc.cl, tc.nFree, tfs_free, z⟩
theorem l_tPo {K : PySem.W.Frag} {TC a dx : Addr} {n m : V} {p q : Addr} {f : Nat} {H : Hp} {M : V → Prop} (tc : TabC K TC) (h : H a = some (.ins TC dx (tfs n m p q f))) (z : M (.ref p)) : ∃ a' C' dx fs v', V.ref a = .ref a' ∧ H a' = some (.ins C' dx fs) ∧ Cls K C' ∧ NoAttr K C' "places" ∧ fs.lookup ("places" : Str) = some v' ∧ M v' := ⟨a, _, _, _, _, rfl, h, tc.cl, tc.nPlaces, tfs_places, z⟩
end U
namespace U
open PySem L2 Tb
/-! ## counting -/
def held (ps : List V) : Nat := ps.countP fun v => decide (v ≠ .non)
def liveP : Option (Nd Ky V) → Bool
  | some nd => decide (nd.val ≠ .non)
  | none => false
def liveC (ns : Ns Ky V) : Nat := ns.countP liveP
def live (t : TM) : Nat := held t.places + liveC t.nodes
def v01 (v : V) : Nat := if v = .non then 0 else 1
theorem held_set {ps : List V} {i : Nat} {v : V} : held (ps.set i v) ≤ held ps + v01 v := by
  unfold held v01
  by_cases h : i < ps.length
  · rw [List.countP_set h]
    by_cases e : v = .non
    · simp [e]
    · simp [e]
  · rw [List.set_eq_of_length_le (by omega)]
    omega
theorem liveC_set {ns : Ns Ky V} {i : Nat} {nd : Nd Ky V} : liveC (ns.set i (some nd)) ≤ liveC ns + v01 nd.val := by
  unfold liveC v01
  by_cases h : i < ns.length
  · rw [List.countP_set h]
    by_cases e : nd.val = .non
    · simp [liveP, e]
    · simp [liveP, e]
  · rw [List.set_eq_of_length_le (by omega)]
    omega
theorem liveC_at {ns : Ns Ky V} {i : Nat} {x y : Nd Ky V} (h : At ns i y) (e : x.val = y.val) : liveC (ns.set i (some x)) = liveC ns := by
  have e2 : ns[i]'h.lt = some y := by
    have := h
    unfold At at this
    rw [List.getElem?_eq_getElem h.lt] at this
    exact Option.some.inj this
  unfold liveC
  rw [List.countP_set h.lt, e2]
  by_cases z : y.val = .non
  · simp [liveP, e, z]
  · have pos : 0 < ns.countP liveP := List.countP_pos_iff.mpr ⟨some y, by rw [← e2]; exact List.getElem_mem _, by simp [liveP, z]⟩
    simp [liveP, e, z]
    omega
theorem liveC_ins {mp : Ky → Nat} {ns ns' : Ns Ky V} {free f' : Nat} {k : Ky} {v : V} (w : WF mp ns free) (hl : mp k < ns.length) (h : ins mp .non ns free k v = some (ns', f')) : liveC ns' ≤ liveC ns + v01 v := by
  cases e : ns[mp k]? with
  | none => rw [List.getElem?_eq_getElem hl] at e; cases e
  | some o =>
    cases o with
    | none => rw [ins_fresh e] at h; cases h; exact liveC_set
    | some nd =>
      have a : At ns (mp k) nd := e
      by_cases hv : nd.val = .non
      · rw [ins_reuse a hv] at h; cases h; exact liveC_set
      · cases hd : down ns free with
        | none => rw [ins_full a hv hd] at h; cases h
        | some f =>
          obtain ⟨d1, d2, d3⟩ := down_some hd
          have hfl : f < ns.length := Nat.lt_of_lt_of_le d1 w.le
          have nfa : f ≠ mp k := fun z => by
            unfold At at a
            rw [← z, d2] at a
            cases a
          by_cases hm : mp nd.key = mp k
          · rw [ins_second a hv hd hm] at h
            cases h
            have a2 : At (ns.set f' (some ⟨k, v, nd.link⟩)) (mp k) nd := at_set.mpr (.inr ⟨nfa, a⟩)
            rw [liveC_at (x := ⟨nd.key, nd.val, some f'⟩) a2 rfl]
            exact liveC_set
          · obtain ⟨p, pd, hp, lp, _⟩ := has_pred w a hm
            have npa : p ≠ mp k := rank_ne w hp lp
            have npf : p ≠ f := fun z => by
              unfold At at hp
              rw [z, d2] at hp
              cases hp
            rw [ins_move w a hv hd hm hp lp] at h
            cases h
            -- the moved node counts at the free place, the new one in its stead
            have a1 : At (ns.set p (some ⟨pd.key, pd.val, some f'⟩)) (mp k) nd := at_set.mpr (.inr ⟨npa, a⟩)
            have a2 : At ((ns.set p (some ⟨pd.key, pd.val, some f'⟩)).set f' (some nd)) (mp k) nd := at_set.mpr (.inr ⟨nfa, a1⟩)
            have e1 : liveC (ns.set p (some ⟨pd.key, pd.val, some f'⟩)) = liveC ns := liveC_at hp rfl
            have e2 : liveC ((ns.set p (some ⟨pd.key, pd.val, some f'⟩)).set f' (some nd)) = liveC ns + 1 := by
              rw [← e1]
              unfold liveC
              have hf2 : f' < (ns.set p (some (⟨pd.key, pd.val, some f'⟩ : Nd Ky V))).length := by rw [List.length_set]; exact hfl
              have g2 : (ns.set p (some (⟨pd.key, pd.val, some f'⟩ : Nd Ky V)))[f']'hf2 = none := by
                have z : (ns.set p (some (⟨pd.key, pd.val, some f'⟩ : Nd Ky V)))[f']? = some none := by rw [List.getElem?_set_ne npf]; exact d2
                rw [List.getElem?_eq_getElem hf2] at z
                exact Option.some.inj z
              rw [List.countP_set hf2, g2]
              simp [liveP, hv]
            have hl2 : mp k < ((ns.set p (some (⟨pd.key, pd.val, some f'⟩ : Nd Ky V))).set f' (some nd)).length := by rw [List.length_set, List.length_set]; exact hl
            have g3 : ((ns.set p (some (⟨pd.key, pd.val, some f'⟩ : Nd Ky V))).set f' (some nd))[mp k]'hl2 = some nd := by
              have z := a2
              unfold At at z
              rw [List.getElem?_eq_getElem hl2] at z
              exact Option.some.inj z
            unfold liveC at e2 ⊢
            rw [List.countP_set hl2, g3, e2]
            unfold v01
            by_cases z : v = .non
            · simp [liveP, hv, z]
            · simp [liveP, hv, z]
structure OkM (t : TM) : Prop where
  wf : WF (mpK t.nodes.length) t.nodes t.free
  sc : ∀ i nd, At t.nodes i nd → nd.key.sc = true
  szN : t.nodes.length ≤ 4194304
  szP : t.places.length ≤ 4194304
theorem TabOk.m {C TC NC : Addr} {H : Hp} {a : Addr} {t : TM} {w : Tv} (h : TabOk C TC NC H a t w) : OkM t := ⟨h.wf, h.sc, h.szN, h.szP⟩
theorem OkM.at_ {C TC NC : Addr} {H : Hp} {a : Addr} {t : TM} {w : Tv} (h : OkM t) (x : TabAt C TC NC H a t w) : TabOk C TC NC H a t w := ⟨x, h.wf, h.sc, h.szN, h.szP⟩
/-- what a put that needs no growing leaves -/
structure PutR (t t' : TM) (k : Ky) (v : V) : Prop where
  ok : OkM t'
  nn : t'.nodes.length = t.nodes.length
  np : t'.places.length = t.places.length
  num : t'.num = t.num
  mt : t'.mt = t.mt
  occ : occ t'.nodes ≤ occ t.nodes + (if isPl t k = true ∨ v = .non then 0 else 1)
  live : live t' ≤ live t + v01 v
theorem put0_pl {t : TM} {n : Int} {v : V} (h : isPl t (.i n) = true) : put0 t (.i n) v = some { t with places := t.places.set (n - 1).toNat v } := by
  unfold put0
  rw [if_pos h]
theorem put0_at {t : TM} {k : Ky} {v : V} {i : Nat} {nd : Nd Ky V} (h : isPl t k = false) (e : look t.nodes k = some i) (a : At t.nodes i nd) : put0 t k v = some { t with nodes := t.nodes.set i (some ⟨nd.key, v, nd.link⟩) } := by
  unfold put0
  rw [if_neg (by rw [h]; exact Bool.false_ne_true), e]
  simp only [show t.nodes[i]? = _ from a]
theorem put0_non {t : TM} {k : Ky} (h : isPl t k = false) (e : look t.nodes k = none) : put0 t k .non = some t := by
  unfold put0
  rw [if_neg (by rw [h]; exact Bool.false_ne_true), e]
  simp only [if_pos]
theorem put0_ins {t : TM} {k : Ky} {v : V} {ns : Ns Ky V} {f : Nat} (h : isPl t k = false) (e : look t.nodes k = none) (nv : v ≠ .non) (q : ins (mpK t.nodes.length) .non t.nodes t.free k v = some (ns, f)) : put0 t k v = some { t with nodes := ns, free := f } := by
  unfold put0
  rw [if_neg (by rw [h]; exact Bool.false_ne_true), e]
  simp only [if_neg nv, q]
theorem put0_ok {t t' : TM} {k : Ky} {v : V} (o : OkM t) (hs : k.sc = true) (h : put0 t k v = some t') : PutR t t' k v := by
  cases hp : isPl t k with
  | true =>
    obtain ⟨n, rfl⟩ := isPl_i hp
    rw [put0_pl hp] at h
    cases h
    exact ⟨⟨o.wf, o.sc, o.szN, by show (t.places.set _ _).length ≤ _; rw [List.length_set]; exact o.szP⟩, rfl, List.length_set .., rfl, rfl, by rw [if_pos (.inl hp)]; exact Nat.le_refl _, by
      have := held_set (ps := t.places) (i := (n - 1).toNat) (v := v)
      unfold live
      show held (t.places.set _ v) + liveC t.nodes ≤ _
      omega⟩
  | false =>
    cases e : look t.nodes k with
    | some i =>
      obtain ⟨nd, a, hk⟩ := look_some e
      rw [put0_at hp e a] at h
      cases h
      refine ⟨⟨?_, fun j x hx => ?_, by show (t.nodes.set _ _).length ≤ _; rw [List.length_set]; exact o.szN, o.szP⟩, List.length_set .., rfl, rfl, rfl, ?_, ?_⟩
      · show WF (mpK (t.nodes.set _ _).length) _ _
        rw [List.length_set]
        exact o.wf.val a v
      · rcases at_set.mp hx with ⟨_, _, q⟩ | ⟨_, q⟩
        · cases q
          exact o.sc _ nd a
        · exact o.sc _ _ q
      · show occ (t.nodes.set _ _) ≤ _
        rw [occ_set_at a]
        omega
      · have := liveC_set (ns := t.nodes) (i := i) (nd := ⟨nd.key, v, nd.link⟩)
        unfold live
        show held t.places + liveC (t.nodes.set i _) ≤ _
        have this : liveC (t.nodes.set i (some ⟨nd.key, v, nd.link⟩)) ≤ liveC t.nodes + v01 v := this
        omega
    | none =>
      by_cases nv : v = .non
      · subst nv
        rw [put0_non hp e] at h
        cases h
        exact ⟨o, rfl, rfl, rfl, rfl, by omega, by omega⟩
      · cases q : ins (mpK t.nodes.length) .non t.nodes t.free k v with
        | none =>
          unfold put0 at h
          rw [if_neg (by rw [hp]; exact Bool.false_ne_true), e] at h
          simp only [if_neg nv, q] at h
          cases h
        | some r =>
          obtain ⟨ns, f⟩ := r
          rw [put0_ins hp e nv q] at h
          cases h
          have n0 : 0 < t.nodes.length := by
            rcases Nat.eq_zero_or_pos t.nodes.length with z | z
            · unfold ins at q
              rw [List.getElem?_eq_none (by rw [z]; exact Nat.zero_le _)] at q
              cases q
            · exact z
          have hl := mpK_lt (k := k) n0
          obtain ⟨w1, w2, w3, w4, _, _⟩ := ins_wf o.wf hl e q
          refine ⟨⟨?_, fun j x hx => ?_, by show ns.length ≤ _; rw [w2]; exact o.szN, o.szP⟩, w2, rfl, rfl, rfl, ?_, ?_⟩
          · show WF (mpK ns.length) _ _
            rw [w2]
            exact w1
          · rcases w4 j x hx with ⟨z, _⟩ | ⟨j', y, hy, z, _⟩
            · rw [z]; exact hs
            · rw [← z]; exact o.sc _ _ hy
          · rw [if_neg (fun z => z.elim (fun z => by rw [hp] at z; cases z) nv)]
            exact w3
          · have := liveC_ins o.wf hl q
            unfold live
            show held t.places + liveC ns ≤ _
            omega
/-- where there is room, no growing is needed -/
theorem put0_room {t : TM} {k : Ky} {v : V} (o : OkM t) (h : isPl t k = true ∨ v = .non ∨ occ t.nodes < t.nodes.length) : ∃ t', put0 t k v = some t' := by
  cases hp : isPl t k with
  | true =>
    obtain ⟨n, rfl⟩ := isPl_i hp
    exact ⟨_, put0_pl hp⟩
  | false =>
    cases e : look t.nodes k with
    | some i =>
      obtain ⟨nd, a, hk⟩ := look_some e
      exact ⟨_, put0_at hp e a⟩
    | none =>
      by_cases nv : v = .non
      · subst nv
        exact ⟨_, put0_non hp e⟩
      · have ho : occ t.nodes < t.nodes.length := by
          rcases h with h | h | h
          · rw [hp] at h; cases h
          · exact absurd h nv
          · exact h
        have n0 : 0 < t.nodes.length := by omega
        obtain ⟨ns, f, q⟩ := ins_room (nil := .non) (v := v) o.wf (mpK_lt (k := k) n0) ho
        exact ⟨_, put0_ins hp e nv q⟩
theorem upd2 {H : Hp} {p : Addr} {o o' : HO} : upd (upd H p o) p o' = upd H p o' := by
  funext b
  by_cases e : b = p
  · subst e; rw [upd_same, upd_same]
  · rw [upd_ne e, upd_ne e, upd_ne e]
theorem ins_pos {n : Nat} {ns ns' : Ns Ky V} {free f : Nat} {k : Ky} {v : V} (q : ins (mpK n) .non ns free k v = some (ns', f)) : 0 < ns.length := by
  rcases Nat.eq_zero_or_pos ns.length with z | z
  · unfold ins at q
    rw [List.getElem?_eq_none (by rw [z]; exact Nat.zero_le _)] at q
    cases q
  · exact z
/-- with a free place found, the new key is put beside -/
theorem ins_beside {n : Nat} {ns : Ns Ky V} {free f : Nat} {k : Ky} {v : V} {nd : Nd Ky V} (w : WF (mpK n) ns free) (a : At ns (mpK n k) nd) (hv : nd.val ≠ .non) (hd : down ns free = some f) : ins (mpK n) .non ns free k v = some (besideM (mpK n) ns f k v, f) := by
  by_cases hm : mpK n nd.key = mpK n k
  · rw [ins_second a hv hd hm, beside_second a hm]
  · obtain ⟨p, pd, hp, lp, _⟩ := has_pred w a hm
    rw [ins_move w a hv hd hm hp lp, beside_move w a hm hp lp]
section
variable {C TC NC : Addr} {H H1 H2 : Hp} {a : Addr} {t : TM} {w w1 : Tv}
theorem l_bes {Q : VK} {E : XK} {kv v : V} {k : Ky} {fr : Nat} {nd : Nd Ky V} (h : TabAt C TC NC H a t w) (wf : WF (mpK t.nodes.length) t.nodes fr) (sc : ∀ i nd, At t.nodes i nd → nd.key.sc = true) (sz : t.nodes.length ≤ 4194304) (x : At t.nodes (mpK t.nodes.length k) nd) (g : t.nodes[t.free]? = some none) (hk : KV C TC H kv k) (s : k.sc = true)
    (q : ∀ H', TabTo C TC NC H H' a w { t with nodes := besideM (mpK t.nodes.length) t.nodes t.free k v } → Q .non H') : spBeside C TC NC (.ref a :: ([.int (mpK t.nodes.length k), kv, v] ++ [])) H Q E := ⟨a, kv, v, k, t, w, fr, nd, rfl, h, wf, sc, sz, x, g, hk, s, q⟩
theorem l_pn0 {Q : VK} {E : XK} {kv v : V} {k : Ky} {ns : Ns Ky V} {f : Nat} (h : TabOk C TC NC H a t w) (l : look t.nodes k = none) (hk : KV C TC H kv k) (s : k.sc = true) (i : ins (mpK t.nodes.length) .non t.nodes t.free k v = some (ns, f)) (q : ∀ H', TabTo C TC NC H H' a w { t with nodes := ns, free := f } → Q .non H') : spPutN0 C TC NC (.ref a :: ([kv, v] ++ [])) H Q E := ⟨a, kv, v, k, t, w, ns, f, rfl, h, l, hk, s, i, q⟩
theorem l_put0 {Q : VK} {E : XK} {kv v : V} {k : Ky} {t' : TM} (h : TabOk C TC NC H a t w) (hk : KV C TC H kv k) (s : k.sc = true) (p : put0 t k v = some t') (q : ∀ H', TabTo C TC NC H H' a w t' → Q .non H') : spPut0 C TC NC (.ref a :: ([kv, v] ++ [])) H Q E := ⟨a, kv, v, k, t, t', w, rfl, h, hk, s, p, q⟩
theorem TabTo.pre {t' : TM} (s : Same H H1) (x : TabTo C TC NC H1 H2 a w t') : TabTo C TC NC H H2 a w t' := by
  obtain ⟨w', h1, h2, h3⟩ := x
  refine ⟨w', h1, fun b o n e => h2 b o n (s b o e), fun b z => (h3 b z).elim .inl fun y => ?_⟩
  exact .inr (s.free y)
theorem TabTo.frm {t' : TM} (s : Frm a H H1) (ha : ∃ o, H a = some o) (x : TabTo C TC NC H1 H2 a w t') : TabTo C TC NC H H2 a w t' := by
  obtain ⟨w', h1, h2, h3⟩ := x
  refine ⟨w', h1, fun b o n e => h2 b o n (s b o (fun z => n (by rw [z]; exact .inl rfl)) e), fun b z => (h3 b z).elim .inl fun y => ?_⟩
  by_cases e : b = a
  · exact .inl (.inl e)
  · cases q : H b with
    | none => exact .inr rfl
    | some o => rw [s b o e q] at y; cases y
theorem TabTo.trans {t1 t2 : TM} (x : TabTo C TC NC H H1 a w t1) (y : ∀ w1, TabAt C TC NC H1 a t1 w1 → TabTo C TC NC H1 H2 a w1 t2) : TabTo C TC NC H H2 a w t2 := by
  obtain ⟨w1, a1, a2, a3⟩ := x
  obtain ⟨w2, b1, b2, b3⟩ := y w1 a1
  refine ⟨w2, b1, a2.trans b2 a3, fun b z => ?_⟩
  rcases b3 b z with q | q
  · exact a3 b q
  · by_cases s : w.own a b
    · exact .inl s
    · cases e : H b with
      | none => exact .inr rfl
      | some o => rw [a2 b o s e] at q; cases q
end
end U
namespace U
open PySem L2 Tb
/-! ## tables made anew -/
def sz (n : Nat) : Nat := if n = 0 then 0 else 2 ^ (Builtin.Int.intBits ((n : Int) - 1))
theorem sz_ge (n : Nat) : n ≤ sz n := by
  unfold sz
  by_cases h : n = 0
  · rw [if_pos h]; omega
  · rw [if_neg h, bits_def]
    by_cases h1 : (n : Int) - 1 = 0
    · rw [if_pos h1]; omega
    · rw [if_neg h1]
      have e : ((n : Int) - 1).natAbs = n - 1 := by omega
      rw [e]
      have := (Nat.log2_lt (n := n - 1) (k := (n - 1).log2 + 1) (by omega)).mp (Nat.lt_succ_self _)
      omega
theorem sz_le (n : Nat) : sz n ≤ 2 * n := by
  unfold sz
  by_cases h : n = 0
  · rw [if_pos h]; omega
  · rw [if_neg h, bits_def]
    by_cases h1 : (n : Int) - 1 = 0
    · rw [if_pos h1]; omega
    · rw [if_neg h1]
      have e : ((n : Int) - 1).natAbs = n - 1 := by omega
      rw [e, Nat.pow_succ]
      have := Nat.log2_self_le (n := n - 1) (by omega)
      omega
def base0 (t : TM) (p n : Nat) : TM := { t with places := t.places.take p ++ List.replicate (p - t.places.length) .non, nodes := List.replicate (sz n) none, free := sz n }
def putsB : TM → Nat → List V → TM
  | t, _, [] => t
  | t, i, v :: vs => putsB ((put0 t (.i i) v).getD t) (i + 1) vs
def putsE : TM → List (Nd Ky V) → TM
  | t, [] => t
  | t, nd :: r => putsE ((put0 t nd.key nd.val).getD t) r
def eldP : Option (Nd Ky V) → Option (Nd Ky V)
  | some nd => if nd.val = .non then none else some nd
  | none => none
def elders (ns : Ns Ky V) : List (Nd Ky V) := ns.filterMap eldP
def rebuildM (t : TM) (p n : Nat) : TM := putsE (putsB (base0 t p n) (p + 1) (t.places.drop p)) (elders t.nodes)
theorem putsB_snoc : ∀ (vs : List V) (t : TM) (i : Nat) (v : V), putsB t i (vs ++ [v]) = (put0 (putsB t i vs) (.i ((i + vs.length : Nat) : Int)) v).getD (putsB t i vs)
  | [], t, i, v => rfl
  | u :: vs, t, i, v => by
    show putsB _ (i + 1) (vs ++ [v]) = _
    rw [putsB_snoc vs _ (i + 1) v]
    have e : i + 1 + vs.length = i + (u :: vs).length := by simp; omega
    rw [e]
    rfl
theorem putsE_snoc : ∀ (r : List (Nd Ky V)) (t : TM) (nd : Nd Ky V), putsE t (r ++ [nd]) = (put0 (putsE t r) nd.key nd.val).getD (putsE t r)
  | [], t, nd => rfl
  | u :: r, t, nd => putsE_snoc r _ nd
/-- entries that do not go to a place -/
def cntE (p : Nat) (r : List (Nd Ky V)) : Nat := r.countP fun nd => !(match nd.key with | .i n => decide (1 ≤ n ∧ n ≤ p) | _ => false)
structure ReR (t0 t : TM) (p s : Nat) (c l : Nat) : Prop where
  ok : OkM t
  nn : t.nodes.length = s
  np : t.places.length = p
  num : t.num = t0.num
  mt : t.mt = t0.mt
  occ : occ t.nodes ≤ c
  live : live t ≤ l
theorem held_append (a b : List V) : held (a ++ b) = held a + held b := by unfold held; exact List.countP_append ..
theorem held_non (n : Nat) : held (List.replicate n .non) = 0 := by
  unfold held
  rw [List.countP_eq_zero]
  intro a h
  rw [List.eq_of_mem_replicate h]
  simp
theorem liveC_new (n : Nat) : liveC (List.replicate n none) = 0 := by
  unfold liveC
  rw [List.countP_eq_zero]
  intro a h
  rw [List.eq_of_mem_replicate h]
  exact Bool.noConfusion
theorem base_ok {t : TM} {p n : Nat} (o : OkM t) (hp : p ≤ 4194304) (hn : sz n ≤ 4194304) : ReR t (base0 t p n) p (sz n) 0 (held (t.places.take p)) := by
  have lp : (base0 t p n).places.length = p := by
    show (t.places.take p ++ List.replicate (p - t.places.length) V.non).length = p
    rw [List.length_append, List.length_take, List.length_replicate]
    omega
  have ln : (base0 t p n).nodes.length = sz n := List.length_replicate ..
  refine ⟨⟨?_, fun i nd h => ?_, by rw [ln]; exact hn, by rw [lp]; exact hp⟩, ln, lp, rfl, rfl, ?_, ?_⟩
  · rw [ln]
    exact WF.new _
  · have h : At (List.replicate (sz n) none) i nd := h
    unfold At at h
    rw [List.getElem?_replicate] at h
    split at h <;> cases h
  · show occ (List.replicate (sz n) none) ≤ 0
    rw [occ_new]
    exact Nat.le_refl _
  · show held (t.places.take p ++ List.replicate (p - t.places.length) .non) + liveC (List.replicate (sz n) none) ≤ _
    rw [held_append, held_non, liveC_new]
    exact Nat.le_refl _
theorem isPl_len {t t' : TM} {k : Ky} (h : t'.places.length = t.places.length) : isPl t' k = isPl t k := by
  unfold isPl
  cases k <;> simp [h]
/-- one put while a table is made anew -/
theorem ReR.put {t0 t : TM} {p s c l : Nat} {k : Ky} {v : V} (x : ReR t0 t p s c l) (hs : k.sc = true) (hr : isPl t k = true ∨ v = .non ∨ c < s) : ∃ t', put0 t k v = some t' ∧ ReR t0 t' p s (c + (if isPl t k = true ∨ v = .non then 0 else 1)) (l + v01 v) := by
  obtain ⟨t', h⟩ := put0_room (k := k) (v := v) x.ok (by
    rcases hr with h | h | h
    · exact .inl h
    · exact .inr (.inl h)
    · exact .inr (.inr (by have := x.occ; have := x.nn; omega)))
  have r := put0_ok x.ok hs h
  refine ⟨t', h, r.ok, r.nn.trans x.nn, r.np.trans x.np, r.num.trans x.num, r.mt.trans x.mt, ?_, ?_⟩
  · have := r.occ
    have := x.occ
    omega
  · have := r.live
    have := x.live
    omega
theorem held_cons (v : V) (vs : List V) : held (v :: vs) = held vs + v01 v := by
  unfold held v01
  rw [List.countP_cons]
  by_cases h : v = .non <;> simp [h]
theorem putsB_ok : ∀ (vs : List V) {t0 t : TM} {p s c l : Nat} (i : Nat), ReR t0 t p s c l → p < i → c + held vs ≤ s → ReR t0 (putsB t i vs) p s (c + held vs) (l + held vs)
  | [], t0, t, p, s, c, l, i, x, hi, h => x
  | v :: vs, t0, t, p, s, c, l, i, x, hi, h => by
    have hnp : isPl t (.i i) = false := by
      unfold isPl
      have := x.np
      exact decide_eq_false (by omega)
    rw [held_cons] at h
    have hr : isPl t (.i (i : Int)) = true ∨ v = .non ∨ c < s := by
      by_cases e : v = .non
      · exact .inr (.inl e)
      · have : v01 v = 1 := if_neg e
        exact .inr (.inr (by omega))
    obtain ⟨t', e, r⟩ := x.put (k := .i i) rfl hr
    have e2 : (if isPl t (.i (i : Int)) = true ∨ v = .non then 0 else 1) = v01 v := by
      unfold v01
      rw [hnp]
      simp
    rw [e2] at r
    have := putsB_ok vs (i + 1) r (by omega) (by omega)
    show ReR t0 (putsB ((put0 t (.i i) v).getD t) (i + 1) vs) _ _ _ _
    rw [e, held_cons, show c + (held vs + v01 v) = c + v01 v + held vs by omega, show l + (held vs + v01 v) = l + v01 v + held vs by omega]
    exact this
theorem putsE_ok : ∀ (r : List (Nd Ky V)) {t0 t : TM} {p s c l : Nat}, ReR t0 t p s c l → (∀ nd ∈ r, nd.key.sc = true) → c + cntE p r ≤ s → ReR t0 (putsE t r) p s (c + cntE p r) (l + r.length)
  | [], t0, t, p, s, c, l, x, hs, h => x
  | nd :: r, t0, t, p, s, c, l, x, hs, h => by
    have ec : cntE p (nd :: r) = cntE p r + (if isPl t nd.key = true then 0 else 1) := by
      unfold cntE
      rw [List.countP_cons]
      have : isPl t nd.key = (match nd.key with | .i n => decide (1 ≤ n ∧ n ≤ (p : Int)) | _ => false) := by
        unfold isPl
        rw [x.np]
        try (cases nd.key <;> rfl)
      rw [← this]
      cases isPl t nd.key <;> simp
    rw [ec] at h ⊢
    have hr : isPl t nd.key = true ∨ nd.val = .non ∨ c < s := by
      cases e : isPl t nd.key with
      | true => exact .inl rfl
      | false =>
        rw [e] at h
        exact .inr (.inr (by simp at h; omega))
    obtain ⟨t', e, y⟩ := x.put (k := nd.key) (v := nd.val) (hs nd List.mem_cons_self) hr
    have hle : c + (if isPl t nd.key = true ∨ nd.val = .non then 0 else 1) ≤ c + (if isPl t nd.key = true then 0 else 1) := by
      by_cases z : isPl t nd.key = true
      · simp [z]
      · by_cases z2 : nd.val = .non <;> simp [z, z2]
    have hv : v01 nd.val ≤ 1 := by unfold v01; split <;> omega
    have y' : ReR t0 t' p s (c + (if isPl t nd.key = true then 0 else 1)) (l + 1) := ⟨y.ok, y.nn, y.np, y.num, y.mt, Nat.le_trans y.occ hle, Nat.le_trans y.live (by omega)⟩
    have := putsE_ok r y' (fun z hz => hs z (List.mem_cons_of_mem _ hz)) (by omega)
    show ReR t0 (putsE ((put0 t nd.key nd.val).getD t) r) _ _ _ _
    rw [e, show c + (cntE p r + (if isPl t nd.key = true then 0 else 1)) = c + (if isPl t nd.key = true then 0 else 1) + cntE p r by omega, show l + (nd :: r).length = l + 1 + r.length by simp; omega]
    exact this
theorem elders_mem {ns : Ns Ky V} {nd : Nd Ky V} (h : nd ∈ elders ns) : ∃ i, At ns i nd := by
  obtain ⟨o, ho, e⟩ := List.mem_filterMap.mp h
  cases o with
  | none => cases e
  | some x =>
    unfold eldP at e
    simp only at e
    split at e
    · cases e
    · cases e
      obtain ⟨i, hi⟩ := List.mem_iff_getElem?.mp ho
      exact ⟨i, hi⟩
theorem elders_len : ∀ (ns : Ns Ky V), (elders ns).length = liveC ns
  | [] => rfl
  | o :: ns => by
    unfold elders liveC
    rw [List.filterMap_cons, List.countP_cons]
    have ih := elders_len ns
    unfold elders liveC at ih
    cases o with
    | none => simpa [eldP, liveP] using ih
    | some nd =>
      by_cases e : nd.val = .non
      · simpa [eldP, liveP, e] using ih
      · simpa [eldP, liveP, e] using ih
theorem rebuild_ok {t : TM} {p n : Nat} (o : OkM t) (hp : p ≤ 4194304) (hn : sz n ≤ 4194304) (h : held (t.places.drop p) + cntE p (elders t.nodes) ≤ n) :
    ReR t (rebuildM t p n) p (sz n) (held (t.places.drop p) + cntE p (elders t.nodes)) (live t) := by
  have hz := sz_ge n
  have x := putsB_ok (t.places.drop p) (p + 1) (base_ok o hp hn) (by omega) (by omega)
  have y := putsE_ok (elders t.nodes) x (fun nd hm => by
    obtain ⟨i, hi⟩ := elders_mem hm
    exact o.sc i nd hi) (by omega)
  refine ⟨y.ok, y.nn, y.np, y.num, y.mt, Nat.le_trans y.occ (by omega), Nat.le_trans y.live ?_⟩
  have e : held t.places = held (t.places.take p) + held (t.places.drop p) := by rw [← held_append, List.take_append_drop]
  rw [elders_len]
  unfold live
  omega
end U
namespace U
open PySem L2 Tb
/-! ## comprehensions with a condition, over any row -/
def LcT (g : TG) (tt : TT) (te : TE) (vs : List Nat) (σ : St) (Q : VK) (J : It) (H1 : Hp) : Prop := ∀ D, H1 D = none → ∃ W : Nat → Nat → Hp → Prop, (∃ m, W 0 m (upd H1 D (.lst []))) ∧ ∀ i m H, W i m H →
    (J.stop i H ∧ Q (.ref D) H) ∨ (J.go i H ∧ ∃ Nx : Hp → Prop, (∀ H', Nx H' → ∃ m', m' < m ∧ W (i + 1) m' H') ∧ ∀ x H', J.yld i H x H' → g x (wipe σ vs) H' fun σ2 H2 => wipe σ2 vs = wipe σ vs ∧ tt σ2 H2 fun b H3 =>
      if b = true then te σ2 H3 fun y H4 => ∃ acc, H4 D = some (.lst acc) ∧ acc.length < sizeLine ∧ Nx (upd H4 D (.lst (acc ++ [y]))) else Nx H3)
theorem l_lcT {wi : TI} {g : TG} {tt : TT} {te : TE} {vs : List Nat} {σ : St} {H : Hp} {Q : VK} (h : wi σ H fun J H1 => LcT g tt te vs σ Q J H1) : tLc wi g tt te vs σ H Q := h
def firsts {α : Type} (F : Nat → Option α) (n : Nat) : List α := (List.range n).filterMap F
theorem firsts_succ {α : Type} {F : Nat → Option α} {n : Nat} : firsts F (n + 1) = firsts F n ++ (F n).toList := by
  unfold firsts
  rw [List.range_succ, List.filterMap_append]
  cases h : F n <;> simp [h]
theorem firsts_len {α : Type} {F : Nat → Option α} {n : Nat} : (firsts F n).length ≤ n := by
  have := List.length_filterMap_le F (List.range n)
  rw [List.length_range] at this
  exact this
theorem firsts_list {α β : Type} {F : α → Option β} : ∀ (xs : List α), firsts (fun i => (xs[i]?).bind F) xs.length = xs.filterMap F := by
  intro xs
  have key : ∀ n, n ≤ xs.length → firsts (fun i => (xs[i]?).bind F) n = (xs.take n).filterMap F := by
    intro n
    induction n with
    | zero => intro _; rfl
    | succ n ih =>
      intro h
      rw [firsts_succ, ih (by omega), List.take_succ, List.filterMap_append, List.getElem?_eq_getElem (by omega)]
      cases e : F xs[n] <;> simp [e]
  have := key xs.length (Nat.le_refl _)
  rw [List.take_length] at this
  exact this
theorem lc_gen {J : It} {n : Nat} {G : Hp → Prop} {Y : Nat → Hp → V → Hp → Prop} (wk : Walk J n G Y) {g : TG} {tt : TT} {te : TE} {vs : List Nat} {σ : St} {H1 : Hp} {Q : VK} (F : Nat → Option V) (hn : n < sizeLine)
    (hG : ∀ H, Same H1 H → G H)
    (step : ∀ i x H H' (R : VK) (R' : Hp → Prop), i < n → Same H1 H → Y i H x H' → (∀ y H3, Same H H3 → F i = some y → R y H3) → (∀ H3, Same H H3 → F i = none → R' H3) → g x (wipe σ vs) H' fun σ2 H2 => wipe σ2 vs = wipe σ vs ∧ tt σ2 H2 fun b H3 => if b = true then te σ2 H3 R else R' H3)
    (hd : ∀ D H, H1 D = none → Same H1 H → H D = some (.lst (firsts F n)) → Q (.ref D) H) :
    LcT g tt te vs σ Q J H1 := by
  intro D hD
  refine lc_it wk (fun i H => Same H1 H ∧ H D = some (.lst (firsts F i))) ⟨sameUpd hD, upd_same⟩ (fun i H _ h => hG H h.1) ?_ (fun H h => hd D H hD h.1 h.2)
  rintro i x H H' hi ⟨sm, hy⟩ y
  refine step i x H H' _ _ hi sm y (fun y H3 s3 e => ?_) (fun H3 s3 e => ?_)
  · refine ⟨_, s3 _ _ hy, Nat.lt_of_le_of_lt firsts_len (by omega), fun b o eb => ?_, ?_⟩
    · have hb : b ≠ D := fun q => by rw [q, hD] at eb; cases eb
      rw [upd_ne hb]
      exact s3 _ _ (sm _ _ eb)
    · rw [upd_same, firsts_succ, e]
      rfl
  · refine ⟨sm.trans s3, ?_⟩
    rw [firsts_succ, e]
    show H3 D = some (.lst (firsts F i ++ []))
    rw [List.append_nil]
    exact s3 _ _ hy
/-! ## tables made anew: promises -/
def spUnN : Sp := fun vs H Q _ => ∃ n : Nat, vs = [.int n] ∧ n ≤ 2097152 ∧ ∀ p H', H p = none → Same H H' → H' p = some (.lst (List.replicate (sz n) .non)) → Q (.ref p) H'
theorem l_unN {H : Hp} {Q : VK} {E : XK} {n : Nat} (h : n ≤ 2097152) (q : ∀ p H', H p = none → Same H H' → H' p = some (.lst (List.replicate (sz n) .non)) → Q (.ref p) H') : spUnN ([.int n] ++ []) H Q E := ⟨n, rfl, h, q⟩
def spReb (C TC NC : Addr) : Sp := fun vs H Q _ => ∃ (a : Addr) (p n : Nat) (t : TM) (w : Tv), vs = [.ref a, .int p, .int n] ∧ TabOk C TC NC H a t w ∧ p ≤ 2097152 ∧ n ≤ 2097152 ∧ held (t.places.drop p) + cntE p (elders t.nodes) ≤ n ∧ ∀ H', TabTo C TC NC H H' a w (rebuildM t p n) → Q .non H'
theorem l_reb {C TC NC : Addr} {H : Hp} {Q : VK} {E : XK} {a : Addr} {p n : Nat} {t : TM} {w : Tv} (h : TabOk C TC NC H a t w) (hp : p ≤ 2097152) (hn : n ≤ 2097152) (hc : held (t.places.drop p) + cntE p (elders t.nodes) ≤ n) (q : ∀ H', TabTo C TC NC H H' a w (rebuildM t p n) → Q .non H') : spReb C TC NC (.ref a :: ([.int p, .int n] ++ [])) H Q E := ⟨a, p, n, t, w, rfl, h, hp, hn, hc, q⟩
end U
namespace U
open PySem L2 Tb
theorem sz_pos {n : Nat} (h : n ≠ 0) : sz n = 2 ^ (Builtin.Int.intBits ((n : Int) - 1)) := if_neg h
theorem bits_sz {n : Nat} (h : n ≠ 0) (hn : n ≤ 2097152) : Builtin.Int.intBits ((n : Int) - 1) ≤ 22 := by
  have := sz_le n
  rw [sz_pos h] at this
  exact (Nat.pow_le_pow_iff_right (a := 2) (by decide)).mp (by omega)
theorem l_1shl {b : Nat} {H : Hp} {Q : VK} (h : b ≤ 31) (q : Q (.int ((2 ^ b : Nat) : Int)) H) : L2.rI CPow (fun i j => V.int (i * 2 ^ j.toNat)) (.int 1) (.int (b : Int)) H Q := by
  refine ⟨1, b, rfl, rfl, ⟨by omega, by omega, by decide⟩, ?_⟩
  have e : (1 : Int) * 2 ^ ((b : Int)).toNat = ((2 ^ b : Nat) : Int) := by rw [Int.one_mul, Int.toNat_natCast, Int.natCast_pow]; rfl
  exact ends q (congrArg V.int e.symm)
theorem rep_flat {v : V} (n : Nat) : (List.replicate n [v]).flatten = List.replicate n v := by
  induction n with
  | zero => rfl
  | succ n ih => rw [List.replicate_succ, List.flatten_cons, ih]; rfl
theorem l_repN {H : Hp} {Q : VK} {l : Addr} {v : V} {k : Int} {n : Nat} (hk : k.toNat = n) (h0 : -(2 ^ 63) ≤ k) (h1 : k < 2 ^ 63) (h : H l = some (.lst [v])) (hn : n ≤ sizeLine) (q : ∀ p H2, H p = none → Same H H2 → H2 p = some (.lst (List.replicate n v)) → Q (.ref p) H2) : rRep (.ref l) (.int k) H Q := by
  refine l_rep h h0 h1 (by rw [hk]; simpa using hn) (by rw [hk]; exact rep_flat n) q
end U
namespace U
open PySem L2 Tb
theorem cut_from {xs : List V} {p : Nat} : cutV xs (some (p : Int)) none = xs.drop p := by
  have e1 : HT.sIx xs.length xs.length none = xs.length := by simp [HT.sIx]
  have e2 : HT.sIx xs.length 0 (some (p : Int)) = min p xs.length := by
    unfold HT.sIx
    simp
    try omega
  unfold cutV
  rw [e1, e2, ← List.drop_take]
  rw [List.take_length]
  by_cases h : p ≤ xs.length
  · rw [Nat.min_eq_left h]
  · rw [Nat.min_eq_right (by omega), List.drop_length, List.drop_eq_nil_of_le (by omega)]
theorem cut_to {xs : List V} {p : Nat} : cutV xs none (some (p : Int)) = xs.take p := by
  have e1 : HT.sIx xs.length xs.length (some (p : Int)) = min p xs.length := by
    unfold HT.sIx
    simp
    try omega
  have e2 : HT.sIx xs.length 0 none = 0 := by simp [HT.sIx]
  unfold cutV
  rw [e1, e2, Nat.sub_zero, List.drop_zero]
  by_cases h : p ≤ xs.length
  · rw [Nat.min_eq_left h]
  · rw [Nat.min_eq_right (by omega), List.take_length, List.take_of_length_le (by omega)]
section
variable {C TC NC : Addr} {H H1 H2 : Hp} {a : Addr} {t : TM} {w w1 : Tv}
theorem TabAt.fresh {dx pl nl : Addr} {num mt : V} {ps : List V} {s f : Nat} (o : H a = some (.ins TC dx (tfs num mt pl nl f))) (h1 : H pl = some (.lst ps)) (h2 : H nl = some (.lst (List.replicate s .non))) (ne : pl ≠ nl) (c : TC ≠ NC) :
    TabAt C TC NC H a ⟨num, mt, ps, List.replicate s none, f⟩ ⟨dx, pl, nl, List.replicate s none⟩ := by
  refine ⟨o, h1, ?_, ?_, fun i h => ?_, fun i p h => ?_, ne, fun i j p h => ?_, c⟩
  · rw [List.map_replicate]; exact h2
  · rw [List.length_replicate, List.length_replicate]
  · have h : (List.replicate s (none : Option Addr))[i]? = some none := h
    rw [List.getElem?_replicate] at h
    rw [List.getElem?_replicate]
    split at h
    · rename_i q; rw [if_pos q]
    · cases h
  · have h : (List.replicate s (none : Option Addr))[i]? = some (some p) := h
    rw [List.getElem?_replicate] at h
    split at h <;> cases h
  · have h : (List.replicate s (none : Option Addr))[i]? = some (some p) := h
    rw [List.getElem?_replicate] at h
    split at h <;> cases h
theorem TabTo.via {t2 : TM} (h2 : FrO (w.own a) H H1) (h3 : ∀ b, w1.own a b → w.own a b ∨ H b = none) (y : TabTo C TC NC H1 H2 a w1 t2) : TabTo C TC NC H H2 a w t2 := by
  obtain ⟨w2, b1, b2, b3⟩ := y
  refine ⟨w2, b1, h2.trans b2 h3, fun b z => ?_⟩
  rcases b3 b z with q | q
  · exact h3 b q
  · by_cases s : w.own a b
    · exact .inl s
    · cases e : H b with
      | none => exact .inr rfl
      | some o => rw [h2 b o s e] at q; cases q
end
theorem held_take {xs : List V} {i : Nat} : held (xs.take i) ≤ held xs := by
  have e : held xs = held (xs.take i) + held (xs.drop i) := by rw [← held_append, List.take_append_drop]
  omega
theorem cntE_take {p : Nat} {xs : List (Nd Ky V)} {i : Nat} : cntE p (xs.take i) ≤ cntE p xs := by
  have e : cntE p xs = cntE p (xs.take i) + cntE p (xs.drop i) := by
    unfold cntE
    rw [← List.countP_append, List.take_append_drop]
  omega
theorem cntE_app {p : Nat} {a b : List (Nd Ky V)} : cntE p (a ++ b) = cntE p a + cntE p b := by unfold cntE; exact List.countP_append ..
theorem cntE_one {p : Nat} {t : TM} {nd : Nd Ky V} (hp : t.places.length = p) (z : isPl t nd.key = false) : cntE p [nd] = 1 := by
  subst hp
  obtain ⟨k, v, l⟩ := nd
  unfold cntE
  have z : isPl t k = false := z
  unfold isPl at z
  cases k with
  | i n =>
    have z : decide (1 ≤ n ∧ n ≤ (t.places.length : Int)) = false := z
    rw [List.countP_cons, List.countP_nil]
    simp only [z]
    rfl
  | b c => rfl
  | s z => rfl
  | f g => rfl
  | t a m => rfl
theorem stepB {t : TM} {p n : Nat} (o : OkM t) (hp : p ≤ 2097152) (hn : n ≤ 2097152) (hb : held (t.places.drop p) ≤ n) {i : Nat} {v : V} (h : (t.places.drop p)[i]? = some v) :
    OkM (putsB (base0 t p n) (p + 1) ((t.places.drop p).take i)) ∧ put0 (putsB (base0 t p n) (p + 1) ((t.places.drop p).take i)) (.i ((p : Int) + i + 1)) v = some (putsB (base0 t p n) (p + 1) ((t.places.drop p).take (i + 1))) := by
  have hz := sz_ge n
  have hz2 := sz_le n
  have ht := held_take (xs := t.places.drop p) (i := i)
  have x := putsB_ok ((t.places.drop p).take i) (p + 1) (base_ok (n := n) o (p := p) (by omega) (by omega)) (by omega) (by omega)
  have e : (t.places.drop p).take (i + 1) = (t.places.drop p).take i ++ [v] := by rw [List.take_succ, h]; rfl
  have hi := (List.getElem?_eq_some_iff.mp h).1
  have li : ((t.places.drop p).take i).length = i := by rw [List.length_take]; omega
  have hc : v ≠ .non → 0 + held ((t.places.drop p).take i) < sz n := fun nv => by
    have q := held_take (xs := t.places.drop p) (i := i + 1)
    rw [e, held_append] at q
    have : held [v] = 1 := by unfold held; simp [nv]
    omega
  have ek : ((p + 1 + ((t.places.drop p).take i).length : Nat) : Int) = (p : Int) + i + 1 := by rw [li]; omega
  obtain ⟨t', e2, r⟩ := x.put (k := .i ((p : Int) + i + 1)) (v := v) rfl (by
    by_cases nv : v = .non
    · exact .inr (.inl nv)
    · exact .inr (.inr (hc nv)))
  refine ⟨x.ok, ?_⟩
  rw [e, putsB_snoc, ek, e2]
  rfl
theorem stepE {t : TM} {p n : Nat} (o : OkM t) (hp : p ≤ 2097152) (hn : n ≤ 2097152) (hb : held (t.places.drop p) + cntE p (elders t.nodes) ≤ n) {i : Nat} {nd : Nd Ky V} (h : (elders t.nodes)[i]? = some nd) :
    OkM (putsE (putsB (base0 t p n) (p + 1) (t.places.drop p)) ((elders t.nodes).take i)) ∧ nd.key.sc = true ∧ put0 (putsE (putsB (base0 t p n) (p + 1) (t.places.drop p)) ((elders t.nodes).take i)) nd.key nd.val = some (putsE (putsB (base0 t p n) (p + 1) (t.places.drop p)) ((elders t.nodes).take (i + 1))) := by
  have hz := sz_ge n
  have hz2 := sz_le n
  have hsc : ∀ nd ∈ elders t.nodes, nd.key.sc = true := fun nd hm => by
    obtain ⟨i, hi⟩ := elders_mem hm
    exact o.sc i nd hi
  have ht := cntE_take (p := p) (xs := elders t.nodes) (i := i)
  have x0 := putsB_ok (t.places.drop p) (p + 1) (base_ok (n := n) o (p := p) (by omega) (by omega)) (by omega) (by omega)
  have x := putsE_ok ((elders t.nodes).take i) x0 (fun nd hm => hsc nd (List.mem_of_mem_take hm)) (by omega)
  have e : (elders t.nodes).take (i + 1) = (elders t.nodes).take i ++ [nd] := by rw [List.take_succ, h]; rfl
  have hs := hsc nd (List.mem_of_getElem? h)
  obtain ⟨t', e2, r⟩ := x.put (k := nd.key) (v := nd.val) hs (by
    have q := cntE_take (p := p) (xs := elders t.nodes) (i := i + 1)
    rw [e, cntE_app] at q
    cases z : isPl (putsE (putsB (base0 t p n) (p + 1) (t.places.drop p)) ((elders t.nodes).take i)) nd.key with
    | true => exact .inl rfl
    | false =>
      have := cntE_one x.np z
      exact .inr (.inr (by omega)))
  refine ⟨x.ok, hs, ?_⟩
  rw [e, putsE_snoc, e2]
  rfl
/-- the elders by their objects -/
def NdRef (C TC NC : Addr) (H : Hp) (v : V) (nd : Nd Ky V) : Prop := ∃ p dx kv l, v = .ref p ∧ H p = some (.ins NC dx (nfs kv nd.val l)) ∧ KV C TC H kv nd.key
def eldF (t : TM) (w : Tv) (i : Nat) : Option V := match (t.nodes[i]?).bind eldP with
  | some _ => (w.as[i]?).map nodeV
  | none => none
theorem elders_refs {C TC NC : Addr} {H : Hp} {a : Addr} {t : TM} {w : Tv} (h : TabAt C TC NC H a t w) : (firsts (eldF t w) t.nodes.length).length = (elders t.nodes).length ∧ ∀ (j : Nat) (v : V), (firsts (eldF t w) t.nodes.length)[j]? = some v → ∃ nd : Nd Ky V, (elders t.nodes)[j]? = some nd ∧ NdRef C TC NC H v nd := by
  have e : elders t.nodes = firsts (fun i => (t.nodes[i]?).bind eldP) t.nodes.length := (firsts_list t.nodes).symm
  rw [e]
  have key : ∀ n, n ≤ t.nodes.length → (firsts (eldF t w) n).length = (firsts (fun i => (t.nodes[i]?).bind eldP) n).length ∧ ∀ (j : Nat) (v : V), (firsts (eldF t w) n)[j]? = some v → ∃ nd : Nd Ky V, (firsts (fun i => (t.nodes[i]?).bind eldP) n)[j]? = some nd ∧ NdRef C TC NC H v nd := by
    intro n
    induction n with
    | zero => intro _; exact ⟨rfl, fun j v z => by cases z⟩
    | succ n ih =>
      intro hn
      obtain ⟨i1, i2⟩ := ih (by omega)
      rw [firsts_succ, firsts_succ]
      cases eG : (t.nodes[n]?).bind eldP with
      | none =>
        have : eldF t w n = none := by unfold eldF; rw [eG]
        rw [this]
        simpa using ⟨i1, i2⟩
      | some nd =>
        obtain ⟨x, hx, ex⟩ := Option.bind_eq_some_iff.mp eG
        cases x with
        | none => cases ex
        | some nd' =>
          have hnd : nd' = nd := by
            unfold eldP at ex
            simp only at ex
            split at ex
            · cases ex
            · exact Option.some.inj ex
          subst hnd
          obtain ⟨p, dx, kv, hp, hn2, hk⟩ := h.at (show At t.nodes n nd' from hx)
          have eF : eldF t w n = some (.ref p) := by unfold eldF; rw [eG, hp]; rfl
          rw [eF]
          refine ⟨by simp [i1], fun j v z => ?_⟩
          by_cases hj : j < (firsts (eldF t w) n).length
          · rw [List.getElem?_append_left hj] at z
            obtain ⟨nd2, g1, g2⟩ := i2 j v z
            exact ⟨nd2, by rw [List.getElem?_append_left (by omega)]; exact g1, g2⟩
          · rw [List.getElem?_append_right (by omega)] at z
            have hj0 : j - (firsts (eldF t w) n).length = 0 := by
              have := (List.getElem?_eq_some_iff.mp z).1
              simp at this
              omega
            rw [hj0] at z
            have z : V.ref p = v := by simpa using z
            refine ⟨nd', ?_, p, dx, kv, _, z.symm, hn2, hk⟩
            rw [List.getElem?_append_right (by omega), ← i1, hj0]
            rfl
  exact key _ (Nat.le_refl _)
end U
namespace U
open PySem L2 Tb
/-! ## an item of a list read for += -/
theorem get_listL {X : Cx} : PGet X (rIxL X.K) := by
  intro pins s σ H o i ov iv Q I r1 r2 h
  obtain ⟨p, xs, i, z, rfl, rfl, hq, he, q⟩ := h
  cases r1
  obtain ⟨t, rfl⟩ := r2
  obtain ⟨its, r, pl, hz⟩ := I.list hq
  obtain ⟨j, h1, h2, h3, h4, h5⟩ := atI_get he
  obtain ⟨w, ew, rw'⟩ := r.get h2
  have hl := r.length
  have hn := line63
  have fin : EP X pins σ Q w s := ⟨z, H, I, rw', q⟩
  by_cases h0 : 0 ≤ i
  · have hj : i.toNat = j := by
      rw [seqIndex_of h0 h5] at h1
      exact Option.some.inj h1
    exact wpAny_getItem_list pl.isList h0 (by omega) (by rw [hj]; simpa using ew) fin
  · have hj : (i + (its.toArray.size : Int)).toNat = j := by
      rw [seqIndex_neg (by omega) h4] at h1
      rw [List.size_toArray, ← hl]
      exact Option.some.inj h1
    exact wpAny_getItem_list_neg pl.isList (by omega) (by rw [List.size_toArray] <;> omega) (by omega) (by rw [hj]; simpa using ew) fin
/-! ## how many places a grown table gets -/
def inK (p : Nat) : Ky → Bool
  | .i n => decide (1 ≤ n ∧ n ≤ (p : Int))
  | _ => false
def in2 (ks : List Ky) (j : Nat) : Nat := ks.countP (inK (2 ^ j))
def pfU (ks : List Ky) : Nat → Nat
  | 0 => 0
  | j + 1 => if 2 * in2 ks j > 2 ^ j then 2 ^ j else pfU ks j
def pfM (ks : List Ky) : Nat := pfU ks 32
theorem pfU_le (ks : List Ky) : ∀ j, pfU ks j ≤ 2 * ks.length
  | 0 => Nat.zero_le _
  | j + 1 => by
    unfold pfU
    split
    · have : in2 ks j ≤ ks.length := List.countP_le_length
      omega
    · exact pfU_le ks j
theorem pfM_le (ks : List Ky) : pfM ks ≤ 2 * ks.length := pfU_le ks 32
def heldF (ps : List V) (i : Nat) : Option Ky := match ps[i]? with
  | some v => if v = .non then none else some (.i ((i : Int) + 1))
  | none => none
def heldI (ps : List V) : List Ky := firsts (heldF ps) ps.length
def keysK (t : TM) (k : Ky) : List Ky := heldI t.places ++ (elders t.nodes).map (·.key) ++ [k]
def growM (t : TM) (k : Ky) : TM := rebuildM t (pfM (keysK t k)) ((keysK t k).length - (keysK t k).countP (inK (pfM (keysK t k))))
def gputM (t : TM) (k : Ky) (v : V) : TM := (put0 (growM t k) k v).getD t
def putM (t : TM) (k : Ky) (v : V) : TM := (put0 t k v).getD (gputM t k v)
theorem heldI_out {ps : List V} (p : Nat) : ∀ n, n ≤ ps.length → (firsts (heldF ps) n).countP (fun k => !inK p k) = held ((ps.take n).drop p) ∧ (firsts (heldF ps) n).length = held (ps.take n) := by
  intro n
  induction n with
  | zero => intro _; simp [firsts, held]
  | succ n ih =>
    intro hn
    obtain ⟨i1, i2⟩ := ih (by omega)
    have e : ps.take (n + 1) = ps.take n ++ [ps[n]] := by rw [List.take_succ, List.getElem?_eq_getElem (by omega)]; rfl
    rw [firsts_succ, List.countP_append, List.length_append, i1, i2, e, held_append, List.drop_append, held_append]
    have ln : (ps.take n).length = n := by rw [List.length_take]; omega
    rw [ln]
    have ef : heldF ps n = if ps[n] = .non then none else some (.i ((n : Int) + 1)) := by unfold heldF; rw [List.getElem?_eq_getElem (by omega)]
    rw [ef]
    by_cases hv : ps[n] = .non
    · rw [if_pos hv, hv]
      refine ⟨?_, by simp [held]⟩
      have : held ([V.non].drop (p - n)) = 0 := by
        unfold held
        rw [List.countP_eq_zero]
        intro x hx
        have := List.mem_of_mem_drop hx
        simp at this
        simp [this]
      rw [this]
      rfl
    · rw [if_neg hv]
      refine ⟨?_, by simp [held, hv]⟩
      rcases Nat.lt_or_ge n p with h | h
      · have : inK p (.i ((n : Int) + 1)) = true := decide_eq_true (by omega)
        have e9 : [ps[n]].drop (p - n) = [] := List.drop_eq_nil_of_le (by rw [List.length_singleton]; omega)
        rw [e9]
        simp [this, held]
      · have : inK p (.i ((n : Int) + 1)) = false := decide_eq_false (by omega)
        rw [show p - n = 0 by omega]
        simp [this, held, hv]
theorem countP_not {α : Type} {f : α → Bool} : ∀ (xs : List α), xs.length = xs.countP f + xs.countP (fun x => !f x)
  | [] => rfl
  | x :: xs => by
    rw [List.countP_cons, List.countP_cons, List.length_cons, countP_not (f := f) xs]
    cases f x <;> simp <;> omega
theorem keysK_len (t : TM) (k : Ky) : (keysK t k).length = live t + 1 := by
  unfold keysK
  rw [List.length_append, List.length_append, List.length_map, elders_len]
  have := (heldI_out (ps := t.places) 0 _ (Nat.le_refl _)).2
  rw [List.take_length] at this
  unfold heldI live
  rw [this]
  rfl
theorem keysK_out (t : TM) (k : Ky) (p : Nat) : (keysK t k).length - (keysK t k).countP (inK p) = held (t.places.drop p) + cntE p (elders t.nodes) + (if inK p k = true then 0 else 1) := by
  have h := countP_not (f := inK p) (keysK t k)
  have h2 : (keysK t k).countP (fun k => !inK p k) = held (t.places.drop p) + cntE p (elders t.nodes) + (if inK p k = true then 0 else 1) := by
    unfold keysK
    rw [List.countP_append, List.countP_append, List.countP_map]
    have := (heldI_out (ps := t.places) p _ (Nat.le_refl _)).1
    rw [List.take_length] at this
    unfold heldI
    rw [this]
    have e1 : (elders t.nodes).countP ((fun k => !inK p k) ∘ fun x => x.key) = cntE p (elders t.nodes) := by
      unfold cntE
      congr 1
    rw [e1]
    cases e : inK p k <;> simp [e]
  omega
theorem isPl_in {t : TM} {k : Ky} : isPl t k = inK t.places.length k := by
  unfold isPl inK
  cases k <;> rfl
/-- a grown table has room for the key -/
theorem grow_ok {t : TM} {k : Ky} {v : V} (o : OkM t) (hs : k.sc = true) (hl : live t ≤ 1000000) :
    let p := pfM (keysK t k)
    let n := (keysK t k).length - (keysK t k).countP (inK p)
    p ≤ 2097152 ∧ n ≤ 2097152 ∧ held (t.places.drop p) + cntE p (elders t.nodes) ≤ n ∧ OkM (growM t k) ∧ ∃ t', put0 (growM t k) k v = some t' ∧ OkM t' ∧ live t' ≤ live t + 1 ∧ t'.num = t.num ∧ t'.mt = t.mt := by
  intro p n
  have h1 := keysK_len t k
  have h2 := pfM_le (keysK t k)
  have h3 : n = _ := keysK_out t k p
  have hp : p ≤ 2097152 := by show pfM _ ≤ _; omega
  have hn : n ≤ 2097152 := by
    have : n ≤ (keysK t k).length := Nat.sub_le _ _
    omega
  have hc : held (t.places.drop p) + cntE p (elders t.nodes) ≤ n := by omega
  have hz := sz_le n
  have hg := sz_ge n
  have r := rebuild_ok (p := p) (n := n) o (by omega) (by omega) hc
  have r : ReR t (growM t k) p (sz n) (held (t.places.drop p) + cntE p (elders t.nodes)) (live t) := r
  refine ⟨hp, hn, hc, r.ok, ?_⟩
  have room : isPl (growM t k) k = true ∨ v = .non ∨ occ (growM t k).nodes < (growM t k).nodes.length := by
    rw [isPl_in, r.np]
    cases e : inK p k with
    | true => exact .inl rfl
    | false =>
      refine .inr (.inr ?_)
      rw [e] at h3
      have := r.occ
      have := r.nn
      simp at h3
      omega
  obtain ⟨t', e⟩ := put0_room (k := k) (v := v) r.ok room
  have y := put0_ok r.ok hs e
  refine ⟨t', e, y.ok, ?_, y.num.trans r.num, y.mt.trans r.mt⟩
  have := y.live
  have := r.live
  have : v01 v ≤ 1 := by unfold v01; split <;> omega
  omega
theorem growM_free (t : TM) (k : Ky) (f : Nat) : growM { t with free := f } k = growM t k := rfl
theorem keysK_free (t : TM) (k : Ky) (f : Nat) : keysK { t with free := f } k = keysK t k := rfl
theorem putM_ok {t : TM} {k : Ky} {v : V} (o : OkM t) (hs : k.sc = true) (hl : live t ≤ 1000000) : OkM (putM t k v) ∧ live (putM t k v) ≤ live t + 1 ∧ (putM t k v).num = t.num ∧ (putM t k v).mt = t.mt := by
  unfold putM
  cases e : put0 t k v with
  | some t' =>
    have y := put0_ok o hs e
    have : v01 v ≤ 1 := by unfold v01; split <;> omega
    have := y.live
    exact ⟨y.ok, by show live t' ≤ _; omega, y.num, y.mt⟩
  | none =>
    obtain ⟨_, _, _, _, t', e2, a, b, c, d⟩ := grow_ok (v := v) o hs hl
    show OkM (gputM t k v) ∧ live (gputM t k v) ≤ _ ∧ (gputM t k v).num = _ ∧ (gputM t k v).mt = _
    unfold gputM
    rw [e2]
    exact ⟨a, b, c, d⟩
end U
namespace U
open PySem L2 Tb
def inB (j : Nat) : Ky → Bool
  | .i n => decide (1 ≤ n ∧ n ≤ 2147483648 ∧ Builtin.Int.intBits (n - 1) = j)
  | _ => false
def cB (ks : List Ky) (j : Nat) : Nat := ks.countP (inB j)
def tot (ks : List Ky) : Nat → Nat
  | 0 => 0
  | i + 1 => tot ks i + cB ks i
theorem ib_le {m : Int} {j : Nat} (h0 : 0 ≤ m) : Builtin.Int.intBits m ≤ j ↔ m < 2 ^ j := by
  constructor
  · intro h
    rcases Int.lt_or_le m (2 ^ j) with z | z
    · exact z
    · have := bits_ge z
      unfold bits at this
      omega
  · intro h
    have := bits_le h0 h
    unfold bits at this
    omega
theorem countP_add {α : Type} {f g h : α → Bool} (e : ∀ x, (if f x = true then 1 else 0) = (if g x = true then 1 else 0) + (if h x = true then 1 else 0)) : ∀ xs : List α, xs.countP f = xs.countP g + xs.countP h
  | [] => rfl
  | x :: xs => by
    have z := e x
    rw [List.countP_cons, List.countP_cons, List.countP_cons, countP_add e xs]
    omega
theorem c2 (j : Nat) : ((2 ^ j : Nat) : Int) = 2 ^ j := by simp
theorem tot_in2 (ks : List Ky) : ∀ i, i ≤ 31 → tot ks (i + 1) = in2 ks i
  | 0, _ => by
    show 0 + cB ks 0 = in2 ks 0
    rw [Nat.zero_add]
    unfold cB in2
    congr 1
    funext k
    cases k with
    | i n =>
      have := ib_le (m := n - 1) (j := 0)
      show decide (1 ≤ n ∧ n ≤ 2147483648 ∧ Builtin.Int.intBits (n - 1) = 0) = decide (1 ≤ n ∧ n ≤ (1 : Int))
      have e : (2 : Int) ^ 0 = 1 := rfl
      rw [e] at this
      by_cases h : 1 ≤ n
      · have this := this (by omega)
        by_cases h2 : n ≤ 1
        · rw [decide_eq_true (by omega), decide_eq_true (by omega)]
        · rw [decide_eq_false (by omega), decide_eq_false (by omega)]
      · rw [decide_eq_false (by omega), decide_eq_false (by omega)]
    | b c => rfl
    | s z => rfl
    | f g => rfl
    | t a m => rfl
  | i + 1, hi => by
    show tot ks (i + 1) + cB ks (i + 1) = in2 ks (i + 1)
    rw [tot_in2 ks i (by omega)]
    unfold cB in2
    refine (countP_add (fun k => ?_) ks).symm
    cases k with
    | i n =>
      have t1 := ib_le (m := n - 1) (j := i)
      have t2 := ib_le (m := n - 1) (j := i + 1)
      have l1 : (2 : Int) ^ (i + 1) ≤ 2 ^ 31 := tple (by omega)
      have l2 : (2 : Int) ^ 31 = 2147483648 := rfl
      have l3 := tps i
      have l4 := tp i
      have eA : ∀ j, inK (2 ^ j) (.i n) = decide (1 ≤ n ∧ n ≤ (2 : Int) ^ j) := fun j => by
        show decide (1 ≤ n ∧ n ≤ ((2 ^ j : Nat) : Int)) = _
        rw [c2]
      have eB : inB (i + 1) (.i n) = decide (1 ≤ n ∧ n ≤ 2147483648 ∧ Builtin.Int.intBits (n - 1) = i + 1) := rfl
      rw [eA, eA, eB]
      by_cases h : 1 ≤ n
      · have t1 := t1 (by omega)
        have t2 := t2 (by omega)
        by_cases h2 : n ≤ 2 ^ i
        · have q : Builtin.Int.intBits (n - 1) ≤ i := t1.mpr (by omega)
          rw [decide_eq_true (p := 1 ≤ n ∧ n ≤ 2 ^ (i + 1)) (by omega), decide_eq_true (p := 1 ≤ n ∧ n ≤ 2 ^ i) (by omega), decide_eq_false (by omega)]
          rfl
        · have q : ¬ Builtin.Int.intBits (n - 1) ≤ i := fun z => by have := t1.mp z; omega
          by_cases h3 : n ≤ 2 ^ (i + 1)
          · have q2 : Builtin.Int.intBits (n - 1) ≤ i + 1 := t2.mpr (by omega)
            rw [decide_eq_true (p := 1 ≤ n ∧ n ≤ 2 ^ (i + 1)) (by omega), decide_eq_false (p := 1 ≤ n ∧ n ≤ 2 ^ i) (by omega), decide_eq_true (by omega)]
            rfl
          · have q2 : ¬ Builtin.Int.intBits (n - 1) ≤ i + 1 := fun z => by have := t2.mp z; omega
            rw [decide_eq_false (p := 1 ≤ n ∧ n ≤ 2 ^ (i + 1)) (by omega), decide_eq_false (p := 1 ≤ n ∧ n ≤ 2 ^ i) (by omega), decide_eq_false (by omega)]
            rfl
      · rw [decide_eq_false (p := 1 ≤ n ∧ n ≤ 2 ^ (i + 1)) (by omega), decide_eq_false (p := 1 ≤ n ∧ n ≤ 2 ^ i) (by omega), decide_eq_false (by omega)]
        rfl
    | b c => rfl
    | s z => rfl
    | f g => rfl
    | t a m => rfl
def cntL (ks : List Ky) : List V := (List.range 32).map fun j => .int ((cB ks j : Nat) : Int)
theorem cntL_len (ks : List Ky) : (cntL ks).length = 32 := by unfold cntL; simp
theorem cntL_get {ks : List Ky} {j : Nat} (h : j < 32) : (cntL ks)[j]? = some (.int ((cB ks j : Nat) : Int)) := by
  unfold cntL
  rw [List.getElem?_map, List.getElem?_range h]
  rfl
theorem cntL_nil : cntL [] = List.replicate 32 (.int 0) := by
  refine List.ext_getElem? fun i => ?_
  by_cases h : i < 32
  · rw [cntL_get h, List.getElem?_replicate, if_pos h]; rfl
  · rw [List.getElem?_eq_none (by rw [cntL_len]; omega), List.getElem?_eq_none (by simp; omega)]
theorem cB_snoc {ks : List Ky} {k : Ky} {j : Nat} : cB (ks ++ [k]) j = cB ks j + (if inB j k = true then 1 else 0) := by
  unfold cB
  rw [List.countP_append, List.countP_cons, List.countP_nil, Nat.zero_add]
theorem cntL_in {ks : List Ky} {n : Int} (h1 : 1 ≤ n) (h2 : n ≤ 2147483648) : (cntL ks).set (Builtin.Int.intBits (n - 1)) (.int ((cB ks (Builtin.Int.intBits (n - 1)) : Nat) + 1)) = cntL (ks ++ [.i n]) := by
  have hb : Builtin.Int.intBits (n - 1) ≤ 31 := (ib_le (by omega)).mpr (by have : (2 : Int) ^ 31 = 2147483648 := rfl; omega)
  refine List.ext_getElem? fun i => ?_
  by_cases h : i < 32
  · rw [cntL_get h, cB_snoc]
    by_cases e : Builtin.Int.intBits (n - 1) = i
    · rw [e, List.getElem?_set_self (by rw [cntL_len]; exact h)]
      have : inB i (.i n) = true := decide_eq_true ⟨h1, h2, e⟩
      rw [if_pos this]
      rfl
    · rw [List.getElem?_set_ne e, cntL_get h]
      have : inB i (.i n) = false := decide_eq_false (fun z => e z.2.2)
      rw [if_neg (by rw [this]; exact Bool.false_ne_true)]
      rfl
  · rw [List.getElem?_eq_none (by rw [List.length_set, cntL_len]; omega), List.getElem?_eq_none (by rw [cntL_len]; omega)]
theorem cntL_out {ks : List Ky} {k : Ky} (h : ∀ j, inB j k = false) : cntL (ks ++ [k]) = cntL ks := by
  refine List.ext_getElem? fun i => ?_
  by_cases e : i < 32
  · rw [cntL_get e, cntL_get e, cB_snoc, if_neg (by rw [h]; exact Bool.false_ne_true)]
    rfl
  · rw [List.getElem?_eq_none (by rw [cntL_len]; omega), List.getElem?_eq_none (by rw [cntL_len]; omega)]
structure KsV (C TC : Addr) (H : Hp) (vs : List V) (ks : List Ky) : Prop where
  len : vs.length = ks.length
  get : ∀ (j : Nat) (v : V), vs[j]? = some v → ∃ k, ks[j]? = some k ∧ KV C TC H v k ∧ k.sc = true
theorem KsV.to {C TC : Addr} {H H' : Hp} {vs : List V} {ks : List Ky} (h : KsV C TC H vs ks) : KsV C TC H' vs ks := ⟨h.len, fun j v e => by
  obtain ⟨k, a, b, c⟩ := h.get j v e
  exact ⟨k, a, b.sc c, c⟩⟩
theorem KsV.app {C TC : Addr} {H : Hp} {vs us : List V} {ks ls : List Ky} (h : KsV C TC H vs ks) (h2 : KsV C TC H us ls) : KsV C TC H (vs ++ us) (ks ++ ls) := by
  refine ⟨by rw [List.length_append, List.length_append, h.len, h2.len], fun j v e => ?_⟩
  by_cases z : j < vs.length
  · rw [List.getElem?_append_left z] at e
    obtain ⟨k, a, b⟩ := h.get j v e
    exact ⟨k, by rw [List.getElem?_append_left (by rw [← h.len]; exact z)]; exact a, b⟩
  · rw [List.getElem?_append_right (by omega)] at e
    obtain ⟨k, a, b⟩ := h2.get _ v e
    exact ⟨k, by rw [List.getElem?_append_right (by rw [← h.len]; omega), ← h.len]; exact a, b⟩
theorem KsV.one {C TC : Addr} {H : Hp} {v : V} {k : Ky} (h : KV C TC H v k) (s : k.sc = true) : KsV C TC H [v] [k] := ⟨rfl, fun j u e => by
  cases j with
  | zero => cases e; exact ⟨k, rfl, h, s⟩
  | succ j => cases e⟩
def spPfor (C TC : Addr) : Sp := fun vs H Q _ => ∃ (l : Addr) (us : List V) (ks : List Ky), vs = [.ref l] ∧ H l = some (.lst us) ∧ KsV C TC H us ks ∧ ks.length ≤ 1000001 ∧ ∀ H', Same H H' → Q (.int ((pfM ks : Nat) : Int)) H'
theorem l_pfor {C TC : Addr} {H : Hp} {Q : VK} {E : XK} {l : Addr} {us : List V} {ks : List Ky} (h : H l = some (.lst us)) (k : KsV C TC H us ks) (n : ks.length ≤ 1000001) (q : ∀ H', Same H H' → Q (.int ((pfM ks : Nat) : Int)) H') : spPfor C TC ([.ref l] ++ []) H Q E := ⟨l, us, ks, rfl, h, k, n, q⟩
theorem l_getL {K : PySem.W.Frag} {p : Addr} {xs : List V} {i : Int} {x : V} {H : Hp} {Q : VK} (h : H p = some (.lst xs)) (h0 : 0 ≤ i) (hx : xs[i.toNat]? = some x) (q : Q x H) : rIxL K (.ref p) (.int i) H Q := l_ixN h h0 hx q
end U
namespace U
open PySem L2
theorem l_augS {to ti te : TE} {tget : V → V → Hp → VK → Prop} {tip : TIp} {tset : TSet} {D : Ends} {σ : St} {H : Hp} (h : to σ H fun o H1 => ti σ H1 fun i H2 => tget o i H2 fun x H3 => te σ H3 fun y H4 => tip x y H4 fun z H5 => tset o i z H5 fun H6 => D.nx σ H6) : tAugS to ti te tget tip tset D σ H := h
end U
namespace U
open PySem L2
theorem l_aug {i : Nat} {te : TE} {ti : TIp} {D : Ends} {σ : St} {H : Hp} {x : V} (hx : σ[i]? = some (some x)) (h : te σ H fun y H1 => ti x y H1 fun z H2 => SetG i z σ D.nx H2) : tAug i te ti D σ H := ⟨x, hx, h⟩
theorem l_ipI {f : Int → Int → Int} {i j : Int} {H : Hp} {Q : VK} (q : Q (.int (f i j)) H) : ipI f (.int i) (.int j) H Q := ⟨i, j, rfl, rfl, q⟩
end U
namespace U
open PySem L2 Tb
def valK : Ky → V
  | .i n => .int n
  | .b c => .bl c
  | .s z => .str z
  | _ => .non
theorem KV.val {C TC : Addr} {H : Hp} {v : V} {k : Ky} (h : KV C TC H v k) (s : k.sc = true) : v = valK k := by
  rcases sc_cases h s with ⟨n, rfl, rfl, hn⟩ | ⟨c, rfl, rfl⟩ | ⟨z, rfl, rfl, hz⟩ <;> rfl
theorem firsts_map {α β : Type} {F : Nat → Option α} {f : α → β} (n : Nat) : firsts (fun i => (F i).map f) n = (firsts F n).map f := by
  unfold firsts
  rw [List.map_filterMap]
def eldK (t : TM) (i : Nat) : Option Ky := ((t.nodes[i]?).bind eldP).map (·.key)
theorem eldK_all (t : TM) : firsts (eldK t) t.nodes.length = (elders t.nodes).map (·.key) := by
  unfold eldK
  rw [firsts_map, firsts_list]
  rfl
def insK (ks : List Ky) (p : Nat) (i : Nat) : Option Ky := (ks[i]?).bind fun k => if inK p k = true then some k else none
theorem insK_len (ks : List Ky) (p : Nat) : (firsts (insK ks p) ks.length).length = ks.countP (inK p) := by
  unfold insK
  rw [firsts_list]
  induction ks with
  | nil => rfl
  | cons k ks ih =>
    rw [List.filterMap_cons, List.countP_cons]
    cases e : inK p k <;> simp [ih]
theorem firsts_fits {C TC : Addr} {H : Hp} {G : Nat → Option Ky} : ∀ n, (∀ i k, i < n → G i = some k → KV C TC H (valK k) k ∧ k.sc = true) → KsV C TC H ((firsts G n).map valK) (firsts G n)
  | 0, _ => ⟨rfl, fun j v e => by cases e⟩
  | n + 1, h => by
    rw [firsts_succ, List.map_append]
    refine KsV.app (firsts_fits n fun i k hi e => h i k (by omega) e) ?_
    cases e : G n with
    | none => exact ⟨rfl, fun j v e => by cases e⟩
    | some k =>
      obtain ⟨a, b⟩ := h n k (by omega) e
      exact KsV.one a b
theorem heldF_ks {C TC : Addr} {H : Hp} {ps : List V} (hz : ps.length ≤ 4194304) : KsV C TC H ((heldI ps).map valK) (heldI ps) := firsts_fits _ fun i k hi e => by
  unfold heldF at e
  rw [List.getElem?_eq_getElem hi] at e
  simp only at e
  split at e
  · cases e
  · cases e
    exact ⟨⟨rfl, by unfold fitsK; omega⟩, rfl⟩
theorem eldK_ks {C TC NC : Addr} {H : Hp} {a : Addr} {t : TM} {w : Tv} (h : TabOk C TC NC H a t w) : KsV C TC H ((firsts (eldK t) t.nodes.length).map valK) (firsts (eldK t) t.nodes.length) := firsts_fits _ fun i k hi e => by
  unfold eldK at e
  obtain ⟨nd, e1, rfl⟩ := Option.map_eq_some_iff.mp e
  obtain ⟨x, hx, ex⟩ := Option.bind_eq_some_iff.mp e1
  cases x with
  | none => cases ex
  | some nd' =>
    have hnd : nd' = nd := by
      unfold eldP at ex
      simp only at ex
      split at ex
      · cases ex
      · exact Option.some.inj ex
    subst hnd
    have hat : At t.nodes i nd' := hx
    obtain ⟨p, dx, kv, _, _, hk⟩ := h.at_.at hat
    have s := h.sc i nd' hat
    exact ⟨by rw [← hk.val s]; exact hk, s⟩
theorem keysK_ks {C TC NC : Addr} {H : Hp} {a : Addr} {t : TM} {w : Tv} {kv : V} {k : Ky} (h : TabOk C TC NC H a t w) (hk : KV C TC H kv k) (s : k.sc = true) : KsV C TC H ((heldI t.places).map valK ++ (firsts (eldK t) t.nodes.length).map valK ++ [kv]) (keysK t k) := by
  unfold keysK
  rw [← eldK_all]
  exact ((heldF_ks h.szP).app (eldK_ks h)).app (KsV.one hk s)
def spGrow (C TC NC : Addr) : Sp := fun vs H Q _ => ∃ (a : Addr) (kv v : V) (k : Ky) (t : TM) (w : Tv), vs = [.ref a, kv, v] ∧ TabOk C TC NC H a t w ∧ KV C TC H kv k ∧ k.sc = true ∧ live t ≤ 1000000 ∧ ∀ H', TabTo C TC NC H H' a w (gputM t k v) → Q .non H'
theorem l_grow {C TC NC : Addr} {H : Hp} {Q : VK} {E : XK} {a : Addr} {kv v : V} {k : Ky} {t : TM} {w : Tv} (h : TabOk C TC NC H a t w) (hk : KV C TC H kv k) (s : k.sc = true) (l : live t ≤ 1000000) (q : ∀ H', TabTo C TC NC H H' a w (gputM t k v) → Q .non H') : spGrow C TC NC (.ref a :: ([kv, v] ++ [])) H Q E := ⟨a, kv, v, k, t, w, rfl, h, hk, s, l, q⟩
def spPutN (C TC NC : Addr) : Sp := fun vs H Q _ => ∃ (a : Addr) (kv v : V) (k : Ky) (t : TM) (w : Tv), vs = [.ref a, kv, v] ∧ TabOk C TC NC H a t w ∧ KV C TC H kv k ∧ k.sc = true ∧ live t ≤ 1000000 ∧ v ≠ .non ∧ isPl t k = false ∧ look t.nodes k = none ∧ ∀ H', TabTo C TC NC H H' a w (putM t k v) → Q .non H'
theorem l_putN {C TC NC : Addr} {H : Hp} {Q : VK} {E : XK} {a : Addr} {kv v : V} {k : Ky} {t : TM} {w : Tv} (h : TabOk C TC NC H a t w) (hk : KV C TC H kv k) (s : k.sc = true) (l : live t ≤ 1000000) (nv : v ≠ .non) (np : isPl t k = false) (lk : look t.nodes k = none) (q : ∀ H', TabTo C TC NC H H' a w (putM t k v) → Q .non H') : spPutN C TC NC (.ref a :: ([kv, v] ++ [])) H Q E := ⟨a, kv, v, k, t, w, rfl, h, hk, s, l, nv, np, lk, q⟩
def spPut (C TC NC : Addr) : Sp := fun vs H Q _ => ∃ (a : Addr) (kv v : V) (k : Ky) (t : TM) (w : Tv), vs = [.ref a, kv, v] ∧ TabOk C TC NC H a t w ∧ KV C TC H kv k ∧ k.sc = true ∧ live t ≤ 1000000 ∧ ∀ H', TabTo C TC NC H H' a w (putM t k v) → Q .non H'
theorem l_put {C TC NC : Addr} {H : Hp} {Q : VK} {E : XK} {a : Addr} {kv v : V} {k : Ky} {t : TM} {w : Tv} (h : TabOk C TC NC H a t w) (hk : KV C TC H kv k) (s : k.sc = true) (l : live t ≤ 1000000) (q : ∀ H', TabTo C TC NC H H' a w (putM t k v) → Q .non H') : spPut C TC NC (.ref a :: ([kv, v] ++ [])) H Q E := ⟨a, kv, v, k, t, w, rfl, h, hk, s, l, q⟩
end U
namespace U
open PySem L2 Tb
theorem putM_some {t t' : TM} {k : Ky} {v : V} (h : put0 t k v = some t') : putM t k v = t' := by
  unfold putM
  rw [h]
  rfl
theorem putM_none {t : TM} {k : Ky} {v : V} (h : put0 t k v = none) : putM t k v = gputM t k v := by
  unfold putM
  rw [h]
  rfl
theorem put0_full {t : TM} {k : Ky} {v : V} (h : isPl t k = false) (e : look t.nodes k = none) (nv : v ≠ .non) (q : ins (mpK t.nodes.length) .non t.nodes t.free k v = none) : put0 t k v = none := by
  unfold put0
  rw [if_neg (by rw [h]; exact Bool.false_ne_true), e]
  simp only [if_neg nv, q]
theorem ins_empty {n : Nat} {ns : Ns Ky V} {free : Nat} {k : Ky} {v : V} (h : ns.length = 0) : ins (mpK n) .non ns free k v = none := by
  unfold ins
  rw [List.getElem?_eq_none (by rw [h]; exact Nat.zero_le _)]
theorem gputM_free {t : TM} {k : Ky} {v : V} (o : OkM t) (hs : k.sc = true) (hl : live t ≤ 1000000) (f : Nat) : gputM { t with free := f } k v = gputM t k v := by
  obtain ⟨_, _, _, _, t', e, _⟩ := grow_ok (v := v) o hs hl
  unfold gputM
  rw [growM_free, e]
  rfl
theorem OkM.free0 {t : TM} (o : OkM t) (h : down t.nodes t.free = none) : OkM { t with free := 0 } := ⟨o.wf.down (Nat.zero_le _) (fun i _ hi => down_none h i hi (Nat.lt_of_lt_of_le hi o.wf.le)), o.sc, o.szN, o.szP⟩
end U
namespace U
open PySem L2 Tb
/-! ## room and borders -/
def spRoom (C TC NC : Addr) : Sp := fun vs H Q _ => ∃ (a : Addr) (t : TM) (w : Tv), vs = [.ref a] ∧ TabAt C TC NC H a t w ∧ ∀ p H', H p = none → Same H H' → H' p = some (.tup [.int t.places.length, .int t.nodes.length]) → Q (.ref p) H'
theorem l_room {C TC NC : Addr} {H : Hp} {Q : VK} {E : XK} {a : Addr} {t : TM} {w : Tv} (h : TabAt C TC NC H a t w) (q : ∀ p H', H p = none → Same H H' → H' p = some (.tup [.int t.places.length, .int t.nodes.length]) → Q (.ref p) H') : spRoom C TC NC (.ref a :: ([] ++ [])) H Q E := ⟨a, t, w, rfl, h, q⟩
/-- what make_room leaves -/
def roomM (t : TM) (p : Nat) : TM := if t.places.length < p then rebuildM t p t.nodes.length else t
def spMkR (C TC NC : Addr) : Sp := fun vs H Q _ => ∃ (a : Addr) (p : Nat) (t : TM) (w : Tv), vs = [.ref a, .int p] ∧ TabOk C TC NC H a t w ∧ p ≤ 2097152 ∧ t.nodes.length ≤ 2097152 ∧ ∀ H', TabTo C TC NC H H' a w (roomM t p) → Q .non H'
/-- the border between two: by halves -/
def halfB (g : Int → V) : Nat → Int → Int → Int
  | 0, lo, _ => lo
  | n + 1, lo, hi => if hi - lo > 1 then (if g ((lo + hi) / 2) = .non then halfB g n lo ((lo + hi) / 2) else halfB g n ((lo + hi) / 2) hi) else lo
def bbtM (g : Int → V) (lo hi : Int) : Int := halfB g (hi - lo).toNat lo hi
def spBbt (C TC NC : Addr) : Sp := fun vs H Q _ => ∃ (a : Addr) (lo hi : Int) (t : TM) (w : Tv), vs = [.ref a, .int lo, .int hi] ∧ TabOk C TC NC H a t w ∧ 0 ≤ lo ∧ lo ≤ hi ∧ hi < 9223372036854775808 ∧ ∀ H', Same H H' → Q (.int (bbtM (fun n => getM t (.i n)) lo hi)) H'
end U
namespace U
open PySem L2 Tb
theorem half_fuel {g : Int → V} : ∀ (n m : Nat) (lo hi : Int), (hi - lo).toNat ≤ n → (hi - lo).toNat ≤ m → halfB g n lo hi = halfB g m lo hi
  | 0, 0, lo, hi, _, _ => rfl
  | 0, m + 1, lo, hi, h, _ => by
    show lo = if hi - lo > 1 then _ else lo
    rw [if_neg (by omega)]
  | n + 1, 0, lo, hi, _, h => by
    show (if hi - lo > 1 then _ else lo) = lo
    rw [if_neg (by omega)]
  | n + 1, m + 1, lo, hi, h1, h2 => by
    unfold halfB
    by_cases h : hi - lo > 1
    · rw [if_pos h, if_pos h, half_fuel n m lo ((lo + hi) / 2) (by omega) (by omega), half_fuel n m ((lo + hi) / 2) hi (by omega) (by omega)]
    · rw [if_neg h, if_neg h]
theorem bbtM_end {g : Int → V} {lo hi : Int} (h : ¬ hi - lo > 1) : bbtM g lo hi = lo := by
  unfold bbtM
  rw [half_fuel _ ((hi - lo).toNat + 1) lo hi (Nat.le_refl _) (by omega)]
  unfold halfB
  rw [if_neg h]
theorem bbtM_go {g : Int → V} {lo hi : Int} (h : hi - lo > 1) : bbtM g lo hi = if g ((lo + hi) / 2) = .non then bbtM g lo ((lo + hi) / 2) else bbtM g ((lo + hi) / 2) hi := by
  unfold bbtM
  rw [half_fuel _ ((hi - lo).toNat - 1 + 1) lo hi (Nat.le_refl _) (by omega)]
  show (if hi - lo > 1 then _ else lo) = _
  rw [if_pos h, half_fuel _ (((lo + hi) / 2 - lo).toNat) lo ((lo + hi) / 2) (by omega) (Nat.le_refl _), half_fuel _ ((hi - (lo + hi) / 2).toNat) ((lo + hi) / 2) hi (by omega) (Nat.le_refl _)]
/-- what halving finds -/
theorem half_ok {g : Int → V} : ∀ (n : Nat) (lo hi : Int), (hi - lo).toNat ≤ n → lo < hi → g hi = .non → lo ≤ halfB g n lo hi ∧ halfB g n lo hi < hi ∧ (halfB g n lo hi = lo ∨ g (halfB g n lo hi) ≠ .non) ∧ g (halfB g n lo hi + 1) = .non
  | 0, lo, hi, h, hl, hn => by omega
  | n + 1, lo, hi, h, hl, hn => by
    unfold halfB
    by_cases e : hi - lo > 1
    · rw [if_pos e]
      by_cases z : g ((lo + hi) / 2) = .non
      · rw [if_pos z]
        have r := half_ok n lo ((lo + hi) / 2) (by omega) (by omega) z
        exact ⟨r.1, by omega, r.2.2.1, r.2.2.2⟩
      · rw [if_neg z]
        have r := half_ok n ((lo + hi) / 2) hi (by omega) (by omega) hn
        exact ⟨by omega, r.2.1, r.2.2.1.elim (fun q => .inr (by rw [q]; exact z)) .inr, r.2.2.2⟩
    · rw [if_neg e]
      have e2 : lo + 1 = hi := by omega
      exact ⟨by omega, by omega, .inl rfl, by rw [e2]; exact hn⟩
theorem bbt_ok {g : Int → V} {lo hi : Int} (hl : lo < hi) (hn : g hi = .non) : lo ≤ bbtM g lo hi ∧ bbtM g lo hi < hi ∧ (bbtM g lo hi = lo ∨ g (bbtM g lo hi) ≠ .non) ∧ g (bbtM g lo hi + 1) = .non := half_ok _ lo hi (Nat.le_refl _) hl hn
/-- doubled until none is there -/
def topI : Int := 9223372036854775807
def climb (g : Int → V) : Nat → Int → Int
  | 0, low => low
  | n + 1, low => if g (min (2 * low) topI) = .non then bbtM g low (min (2 * low) topI) else if min (2 * low) topI = topI then topI else climb g n (min (2 * low) topI)
theorem climb_ok {g : Int → V} : ∀ (n : Nat) (low : Int), 1 ≤ low → low < topI → topI < low * 2 ^ n → g low ≠ .non → 0 < climb g n low ∧ climb g n low ≤ topI ∧ g (climb g n low) ≠ .non ∧ (climb g n low = topI ∨ g (climb g n low + 1) = .non)
  | 0, low, h1, h2, h3, h4 => by
    have : low * 2 ^ 0 = low := by rw [Int.pow_zero, Int.mul_one]
    omega
  | n + 1, low, h1, h2, h3, h4 => by
    unfold climb
    have e : low * 2 ^ (n + 1) = (2 * low) * 2 ^ n := by rw [Int.pow_succ, Int.mul_comm (2 ^ n) 2, ← Int.mul_assoc, Int.mul_comm low 2]
    by_cases z : g (min (2 * low) topI) = .non
    · rw [if_pos z]
      have r := bbt_ok (g := g) (lo := low) (hi := min (2 * low) topI) (by omega) z
      refine ⟨by omega, by omega, r.2.2.1.elim (fun q => by rw [q]; exact h4) id, .inr r.2.2.2⟩
    · rw [if_neg z]
      by_cases w : min (2 * low) topI = topI
      · rw [if_pos w]
        rw [w] at z
        exact ⟨by decide, Int.le_refl _, z, .inl rfl⟩
      · rw [if_neg w]
        have e2 : min (2 * low) topI = 2 * low := by omega
        rw [e2] at z ⊢
        rw [e] at h3
        exact climb_ok n (2 * low) (by omega) (by omega) h3 z
def gI (t : TM) : Int → V := fun n => getM t (.i n)
def borderM (t : TM) : Int := if 0 < t.places.length ∧ t.places[t.places.length - 1]? = some .non then bbtM (gI t) 0 t.places.length else
  if t.nodes.length = 0 ∨ gI t ((t.places.length : Int) + 1) = .non then t.places.length else climb (gI t) 64 (max (t.places.length : Int) 1)
theorem gI_pl {t : TM} {i : Nat} (h : i < t.places.length) : gI t ((i : Int) + 1) = t.places[i] := by
  have hp : isPl t (.i ((i : Int) + 1)) = true := decide_eq_true (by omega)
  obtain ⟨_, _, x, hx, hg⟩ := getM_pl hp
  have e : ((i : Int) + 1 - 1).toNat = i := by omega
  rw [e, List.getElem?_eq_getElem h] at hx
  show getM t _ = _
  rw [hg]
  exact (Option.some.inj hx).symm
theorem gI_last {t : TM} (h : 0 < t.places.length) : gI t (t.places.length : Int) = t.places[t.places.length - 1]'(by omega) := by
  have := gI_pl (t := t) (i := t.places.length - 1) (by omega)
  rw [show (((t.places.length - 1 : Nat) : Int)) + 1 = (t.places.length : Int) by omega] at this
  exact this
theorem gI_out {t : TM} (h : t.nodes.length = 0) : gI t ((t.places.length : Int) + 1) = .non := by
  have hp : isPl t (.i ((t.places.length : Int) + 1)) = false := decide_eq_false (by omega)
  have e : t.nodes = [] := List.eq_nil_of_length_eq_zero h
  show getM t _ = _
  rw [getM_no hp, e]
  rfl
/-- it is a border -/
theorem border_ok {t : TM} (o : OkM t) : 0 ≤ borderM t ∧ borderM t ≤ topI ∧ (borderM t = 0 ∨ gI t (borderM t) ≠ .non) ∧ (borderM t = topI ∨ gI t (borderM t + 1) = .non) := by
  have hz := o.szP
  have ht : topI = 9223372036854775807 := rfl
  unfold borderM
  by_cases h : 0 < t.places.length ∧ t.places[t.places.length - 1]? = some .non
  · rw [if_pos h]
    have gl := gI_last h.1
    have : t.places[t.places.length - 1]'(by omega) = .non := by
      have z := h.2
      rw [List.getElem?_eq_getElem (by omega)] at z
      exact Option.some.inj z
    rw [this] at gl
    have r := bbt_ok (g := gI t) (lo := 0) (hi := t.places.length) (by omega) gl
    exact ⟨r.1, by omega, r.2.2.1, .inr r.2.2.2⟩
  · rw [if_neg h]
    have lst : (t.places.length : Int) = 0 ∨ gI t (t.places.length : Int) ≠ .non := by
      by_cases z : 0 < t.places.length
      · right
        rw [gI_last z]
        intro q
        exact h ⟨z, by rw [List.getElem?_eq_getElem (by omega), q]⟩
      · left; omega
    by_cases h2 : t.nodes.length = 0 ∨ gI t ((t.places.length : Int) + 1) = .non
    · rw [if_pos h2]
      refine ⟨by omega, by omega, lst, .inr ?_⟩
      rcases h2 with z | z
      · exact gI_out z
      · exact z
    · rw [if_neg h2]
      have g1 : gI t (max (t.places.length : Int) 1) ≠ .non := by
        by_cases z : 0 < t.places.length
        · rw [show max (t.places.length : Int) 1 = t.places.length by omega]
          exact lst.elim (fun q => by omega) id
        · have e : (t.places.length : Int) = 0 := by omega
          have := fun q => h2 (.inr q)
          rw [e] at this ⊢
          exact this
      have e64 : (2 : Int) ^ 64 = 18446744073709551616 := rfl
      have r := climb_ok (g := gI t) 64 (max (t.places.length : Int) 1) (by omega) (by omega) (by rw [e64]; omega) g1
      exact ⟨by omega, r.2.1, .inr r.2.2.1, r.2.2.2⟩
def spBord (C TC NC : Addr) : Sp := fun vs H Q _ => ∃ (a : Addr) (t : TM) (w : Tv), vs = [.ref a] ∧ TabOk C TC NC H a t w ∧ ∀ H', Same H H' → Q (.int (borderM t)) H'
theorem l_bord {C TC NC : Addr} {H : Hp} {Q : VK} {E : XK} {a : Addr} {t : TM} {w : Tv} (h : TabOk C TC NC H a t w) (q : ∀ H', Same H H' → Q (.int (borderM t)) H') : spBord C TC NC (.ref a :: ([] ++ [])) H Q E := ⟨a, t, w, rfl, h, q⟩
theorem l_bbt {C TC NC : Addr} {H : Hp} {Q : VK} {E : XK} {a : Addr} {lo hi : Int} {t : TM} {w : Tv} (h : TabOk C TC NC H a t w) (h0 : 0 ≤ lo) (h1 : lo ≤ hi) (h2 : hi < 9223372036854775808) (q : ∀ H', Same H H' → Q (.int (bbtM (gI t) lo hi)) H') : spBbt C TC NC (.ref a :: ([.int lo, .int hi] ++ [])) H Q E := ⟨a, lo, hi, t, w, rfl, h, h0, h1, h2, q⟩
theorem room_reb {t : TM} {p : Nat} (h : t.places.length < p) : held (t.places.drop p) + cntE p (elders t.nodes) ≤ t.nodes.length := by
  rw [List.drop_eq_nil_of_le (by omega)]
  have h1 : cntE p (elders t.nodes) ≤ (elders t.nodes).length := List.countP_le_length
  rw [elders_len] at h1
  have h2 : liveC t.nodes ≤ t.nodes.length := List.countP_le_length
  have : held ([] : List V) = 0 := rfl
  omega
end U
namespace U
open PySem L2 Tb
/-! ## the law's own -/
def spMix : Sp := fun vs H Q _ => ∃ c l : Int, vs = [.int c, .int l] ∧ ∀ d : Int, Q (.int d) H
theorem l_mix {H : Hp} {Q : VK} {E : XK} {c l : Int} (q : ∀ d : Int, Q (.int d) H) : spMix ([.int c, .int l] ++ []) H Q E := ⟨c, l, rfl, q⟩
def spSrc (K : PySem.W.Frag) : Sp := fun vs H Q _ => ∃ (l : Addr) (ns : List Int) (k : Nat), vs = [.ref l, .int k] ∧ SqL K H l (ns.map V.int) ∧ ns.length ≤ 63 ∧ k ≤ 63 ∧ ∀ w H', H w = none → Same H H' → Well w H' → Q (.ref w) H'
theorem l_src {K : PySem.W.Frag} {H : Hp} {Q : VK} {E : XK} {l : Addr} {ns : List Int} {k : Nat} (h : SqL K H l (ns.map V.int)) (h1 : ns.length ≤ 63) (h2 : k ≤ 63) (q : ∀ w H', H w = none → Same H H' → Well w H' → Q (.ref w) H') : spSrc K ([.ref l, .int k] ++ []) H Q E := ⟨l, ns, k, rfl, h, h1, h2, q⟩
def spHalv (C TC NC : Addr) : Sp := fun vs H Q _ => ∃ (a : Addr) (lo hi : Int) (t : TM) (w : Tv), vs = [.ref a, .int lo, .int hi] ∧ TabOk C TC NC H a t w ∧ 0 ≤ lo ∧ lo ≤ hi ∧ hi < 9223372036854775808 ∧ ∀ H', Same H H' → Q (.int (bbtM (gI t) lo hi)) H'
theorem l_halv {C TC NC : Addr} {H : Hp} {Q : VK} {E : XK} {a : Addr} {lo hi : Int} {t : TM} {w : Tv} (h : TabOk C TC NC H a t w) (h0 : 0 ≤ lo) (h1 : lo ≤ hi) (h2 : hi < 9223372036854775808) (q : ∀ H', Same H H' → Q (.int (bbtM (gI t) lo hi)) H') : spHalv C TC NC ([.ref a, .int lo, .int hi] ++ []) H Q E := ⟨a, lo, hi, t, w, rfl, h, h0, h1, h2, q⟩
def spLbord (C TC NC : Addr) : Sp := fun vs H Q _ => ∃ (a : Addr) (t : TM) (w : Tv), vs = [.ref a] ∧ TabOk C TC NC H a t w ∧ ∀ H', Same H H' → Q (.int (borderM t)) H'
theorem l_lbord {C TC NC : Addr} {H : Hp} {Q : VK} {E : XK} {a : Addr} {t : TM} {w : Tv} (h : TabOk C TC NC H a t w) (q : ∀ H', Same H H' → Q (.int (borderM t)) H') : spLbord C TC NC ([.ref a] ++ []) H Q E := ⟨a, t, w, rfl, h, q⟩
def spIsb (C TC NC : Addr) : Sp := fun vs H Q _ => ∃ (a : Addr) (t : TM) (w : Tv), vs = [.ref a] ∧ TabOk C TC NC H a t w ∧ ∀ H', Same H H' → Q (.bl true) H'
theorem l_isb {C TC NC : Addr} {H : Hp} {Q : VK} {E : XK} {a : Addr} {t : TM} {w : Tv} (h : TabOk C TC NC H a t w) (q : ∀ H', Same H H' → Q (.bl true) H') : spIsb C TC NC ([.ref a] ++ []) H Q E := ⟨a, t, w, rfl, h, q⟩
/-- the table at a and the well, from heap to heap -/
def TW (C TC NC wl a : Addr) (w0 : Tv) (H H' : Hp) (n : Nat) : Prop := ∃ (t : TM) (w : Tv), TabOk C TC NC H' a t w ∧ live t ≤ n ∧ Well wl H' ∧ ¬ w.own a wl ∧ FrO (fun b => b = wl ∨ w0.own a b) H H' ∧ ∀ b, w.own a b → w0.own a b ∨ H b = none
section
variable {C TC NC wl a : Addr} {w0 w : Tv} {H H1 H2 : Hp} {n : Nat} {t : TM}
theorem TW.same (h : TW C TC NC wl a w0 H H1 n) (e : Same H1 H2) : TW C TC NC wl a w0 H H2 n := by
  obtain ⟨t, w, a1, a2, a3, a4, a5, a6⟩ := h
  exact ⟨t, w, a1.same e, a2, a3.same e, a4, a5.same e, a6⟩
theorem TabAt.exW (h : TabAt C TC NC H a t w) (sc : ∀ i nd, At t.nodes i nd → nd.key.sc = true) (no : ¬ w.own a wl) (e : Ex wl H H1) : TabAt C TC NC H1 a t w := by
  have k : ∀ b o, w.own a b → H b = some o → H1 b = some o := fun b o z q => e.kept b o (fun y => no (by rw [← y]; exact z)) q
  exact ⟨k _ _ (.inl rfl) h.obj, k _ _ (.inr (.inl rfl)) h.places, k _ _ (.inr (.inr (.inl rfl))) h.nodes, h.len, h.gaps, fun i p hp => by
    obtain ⟨nd, h1, dx, kv, h2, h3⟩ := h.node i p hp
    exact ⟨nd, h1, dx, kv, k _ _ (own_at hp) h2, h3.sc (sc i nd h1)⟩, h.ne, h.inj, h.cls⟩
theorem TW.ex (h : TW C TC NC wl a w0 H H1 n) (e : Ex wl H1 H2) : TW C TC NC wl a w0 H H2 n := by
  obtain ⟨t, w, a1, a2, a3, a4, a5, a6⟩ := h
  refine ⟨t, w, ⟨a1.at_.exW a1.sc a4 e, a1.wf, a1.sc, a1.szN, a1.szP⟩, a2, e.well, a4, fun b o z q => ?_, a6⟩
  exact e.kept b o (fun y => z (.inl y)) (a5 b o z q)
theorem TW.to {t' : TM} {m : Nat} (h1 : TabOk C TC NC H1 a t w) (h3 : Well wl H1) (h4 : ¬ w.own a wl) (h5 : FrO (fun b => b = wl ∨ w0.own a b) H H1) (h6 : ∀ b, w.own a b → w0.own a b ∨ H b = none) (o : OkM t') (l : live t' ≤ m) (x : TabTo C TC NC H1 H2 a w t') : TW C TC NC wl a w0 H H2 m := by
  obtain ⟨w2, b1, b2, b3⟩ := x
  obtain ⟨x, y, z, hw⟩ := h3
  refine ⟨t', w2, o.at_ b1, l, ⟨x, y, z, b2 _ _ h4 hw⟩, fun q => ?_, fun b u nb e => ?_, fun b q => ?_⟩
  · rcases b3 _ q with r | r
    · exact h4 r
    · rw [hw] at r; cases r
  · refine b2 b u (fun q => ?_) (h5 b u nb e)
    rcases h6 b q with r | r
    · exact nb (.inr r)
    · rw [r] at e; cases e
  · rcases b3 b q with r | r
    · exact h6 b r
    · by_cases s : b = wl ∨ w0.own a b
      · rcases s with s | s
        · rw [s, hw] at r; cases r
        · exact .inl s
      · cases e : H b with
        | none => exact .inr rfl
        | some u => rw [h5 b u s e] at r; cases r
theorem TW.put {k : Ky} {v : V} (h1 : TabOk C TC NC H1 a t w) (h2 : live t ≤ n) (hn : n ≤ 1000000) (h3 : Well wl H1) (h4 : ¬ w.own a wl) (h5 : FrO (fun b => b = wl ∨ w0.own a b) H H1) (h6 : ∀ b, w.own a b → w0.own a b ∨ H b = none) (hs : k.sc = true) (x : TabTo C TC NC H1 H2 a w (putM t k v)) : TW C TC NC wl a w0 H H2 (n + 1) := by
  have o := putM_ok (v := v) h1.m hs (by omega)
  exact TW.to h1 h3 h4 h5 h6 o.1 (by omega) x
theorem TW.start (h1 : TabOk C TC NC H a t w0) (h2 : live t ≤ n) (h3 : Well wl H) (h4 : ¬ w0.own a wl) : TW C TC NC wl a w0 H H n := ⟨t, w0, h1, h2, h3, h4, FrO.refl, fun b z => .inl z⟩
end
def spFar (C TC NC : Addr) : Sp := fun vs H Q _ => ∃ (wl a : Addr) (w0 : Tv) (n : Nat), vs = [.ref wl, .ref a] ∧ TW C TC NC wl a w0 H H n ∧ n ≤ 1000 ∧ ∀ H', TW C TC NC wl a w0 H H' (n + 100) → Q (.bl true) H'
end U
namespace U
open PySem L2 Tb
theorem l_fdW {i j : Int} {H : Hp} {Q : VK} (h0 : 0 < j) (c : j.natAbs.log2 < 9000) (q : Q (.int (i / j)) H) : L2.rI CDivW (fun i j => V.int (i / j)) (.int i) (.int j) H Q := ⟨i, j, rfl, rfl, ⟨h0, c⟩, q⟩
theorem l_mdE {i j : Int} {H : Hp} {Q : VK} (h0 : 0 < j) (q : Q (.int (i % j)) H) : L2.rI (fun _ j => 0 < j) (fun i j => V.int (i % j)) (.int i) (.int j) H Q := ⟨i, j, rfl, rfl, h0, q⟩
end U
namespace U
open PySem L2 Tb
theorem l_far {C TC NC : Addr} {H : Hp} {Q : VK} {E : XK} {wl a : Addr} {w0 : Tv} {n : Nat} (h : TW C TC NC wl a w0 H H n) (hn : n ≤ 1000) (q : ∀ H', TW C TC NC wl a w0 H H' (n + 100) → Q (.bl true) H') : spFar C TC NC ([.ref wl, .ref a] ++ []) H Q E := ⟨wl, a, w0, n, rfl, h, hn, q⟩
theorem pw_fit {i : Nat} (h : i < 63) : fitsK (1 * 2 ^ ((0 : Int) + (i : Int)).toNat) := by
  have e : ((0 : Int) + (i : Int)).toNat = i := by omega
  rw [e, Int.one_mul]
  have l := tplt (a := i) (b := 63) h
  have e63 : (2 : Int) ^ 63 = 9223372036854775808 := rfl
  have p := tp i
  unfold fitsK
  omega
end U
namespace U
open PySem L2 Tb
theorem TW.mono {C TC NC wl a : Addr} {w0 : Tv} {H H1 : Hp} {n m : Nat} (h : TW C TC NC wl a w0 H H1 n) (l : n ≤ m) : TW C TC NC wl a w0 H H1 m := by
  obtain ⟨t, w, a1, a2, a3, a4, a5, a6⟩ := h
  exact ⟨t, w, a1, Nat.le_trans a2 l, a3, a4, a5, a6⟩
end U
namespace U
open PySem L2 Tb
/-! ## tables begun -/
def newM (num mt : V) (p n : Nat) : TM := ⟨num, mt, List.replicate p .non, List.replicate (sz n) none, sz n⟩
def spTabNew (C TC NC : Addr) : Sp := fun vs H Q _ => ∃ (x dx : Addr) (num mt : V) (p n : Nat), vs = [.ref x, num, .int p, .int n, mt] ∧ H x = some (.ins TC dx []) ∧ TC ≠ NC ∧ p ≤ 2097152 ∧ n ≤ 2097152 ∧
  ∀ G w, Frm x H G → TabAt C TC NC G x (newM num mt p n) w → (∀ b, w.own x b → b = x ∨ H b = none) → Q .non G
theorem newM_ok (num mt : V) {p n : Nat} (hp : p ≤ 2097152) (hn : n ≤ 2097152) : OkM (newM num mt p n) ∧ live (newM num mt p n) = 0 := by
  have hz := sz_le n
  refine ⟨⟨?_, fun i nd h => ?_, ?_, ?_⟩, ?_⟩
  · show WF (mpK (List.replicate (sz n) none).length) (List.replicate (sz n) none) (sz n)
    exact WF.new _
  · have h : At (List.replicate (sz n) none) i nd := h
    unfold At at h
    rw [List.getElem?_replicate] at h
    split at h <;> cases h
  · show (List.replicate (sz n) none).length ≤ _
    rw [List.length_replicate]; omega
  · show (List.replicate p V.non).length ≤ _
    rw [List.length_replicate]; omega
  · show held (List.replicate p .non) + liveC (List.replicate (sz n) none) = 0
    rw [held_non, liveC_new]
def spNext0 (C TC NC : Addr) : Sp := fun vs H Q _ => ∃ (a : Addr) (t : TM) (w : Tv) (x : V), vs = [.ref a, .non] ∧ TabAt C TC NC H a t w ∧ t.places.length ≤ 4194304 ∧ t.places[0]? = some x ∧ x ≠ .non ∧ ∀ p H', H p = none → Same H H' → H' p = some (.tup [.int 1, x]) → Q (.ref p) H'
theorem l_next0 {C TC NC : Addr} {H : Hp} {Q : VK} {E : XK} {a : Addr} {t : TM} {w : Tv} {x : V} (h : TabAt C TC NC H a t w) (hz : t.places.length ≤ 4194304) (hx : t.places[0]? = some x) (nx : x ≠ .non) (q : ∀ p H', H p = none → Same H H' → H' p = some (.tup [.int 1, x]) → Q (.ref p) H') : spNext0 C TC NC (.ref a :: ([.non] ++ [])) H Q E := ⟨a, t, w, x, rfl, h, hz, hx, nx, q⟩
end U
namespace U
open PySem L2 Tb
theorem l_iRng2 {ta : TA} {σ : St} {H : Hp} {R : It → Hp → Prop} (h : ta σ H fun vs H1 => ∃ i j : Int, vs = [.int i, .int j] ∧ (-(2 ^ 62) ≤ i ∧ i < 2 ^ 62 ∧ -(2 ^ 62) ≤ j ∧ j < 2 ^ 62) ∧ R (Itr i (j - i).toNat) H1) : iRng2 ta σ H R := h
end U
namespace U
open PySem PySem.Spec PyProof.Rows L2
/-! ## calls of methods and classes with keywords -/
structure CalKw (P : Program) (w : World) (K : PySem.W.Frag) (mg : Str → Option Value) (base : Heap) (k : Nat) (C : Addr) (m : Str) (ps : List Str) (sp : Sp) (n : Nat) (ks : List Str) (gV : List V → List V → List V) : Prop where
  cl : Cls K C
  ex : ∃ f fd g, Meth K C m f ∧ KBn K fd ps (n + 1) ks g gV ∧ FnOk P w K mg base CX0 k f fd ps sp
structure CalKm (P : Program) (w : World) (K : PySem.W.Frag) (mg : Str → Option Value) (base : Heap) (k : Nat) (x : Str) (C : Addr) (ps : List Str) (sp : Sp) (ks : List Str) (gV : List V → List V → List V) : Prop where
  at_ : mg x = some (.ref C)
  ex : ∃ f fd g, Mk K C f ∧ KBn K fd ps 1 ks g gV ∧ FnOk P w K mg base CX0 k f fd ps sp
def tMethN (C : Addr) (m : Str) (n j : Nat) (sp : Sp) (gV : List V → List V → List V) (E : XK) (ta : TE) (t tk : TA) : TE := fun σ H Q => ta σ H fun x H1 => ∃ a dx fs, x = .ref a ∧ H1 a = some (.ins C dx fs) ∧ fs.lookup m = none ∧
  t σ H1 fun vs H2 => tk σ H2 fun zs H3 => vs.length = n ∧ zs.length = j ∧ sp (gV (x :: vs) zs) H3 Q E
section
variable {X : Cx} {k k0 n : Nat} {C : Addr} {m : Str} {ps ks : List Str} {sp : Sp} {o e : Expr} {es : List Expr} {kws : List Keyword} {ta : TE} {t tk : TA} {pos apos p : Pos} {pl : Sem Bool} {gV : List V → List V → List V}
theorem pe_mtK (G : CalKw X.prog X.w X.K X.mg X.base k C m ps sp n ks gV) (hr : Room k0 X.A) (he : PE X o ta) (ha : PA X (e :: es) t) (hkw : PK X kws tk) (hk : k ≤ k0 := by omega)
    (hall : (backToKw pos (keywordEach kws X.env)).all (·.1.isSome) = true := by rfl) (hks : (backToKw pos (keywordEach kws X.env)).filterMap (·.1) = ks := by rfl)
    (hst : starEach (e :: es) X.env = (false, eval e X.env) :: starEach es X.env := by rfl)
    (hpl : ((backTo pos (starEach (e :: es) X.env)).any (·.1) || (backToKw pos (keywordEach kws X.env)).any (·.1.isNone)) = false := by rfl)
    (ht : eval (.Call (.Attribute o m apos) (e :: es) kws pos) X.env = (do
      let ov ← eval o X.env
      standAt apos.atName
      let (f, first) ← holding [ov] (getMethod ov m pl)
      callWith pos f first (backTo pos (starEach (e :: es) X.env)) (backToKw pos (keywordEach kws X.env))) := by rfl) :
    PE X (.Call (.Attribute o m apos) (e :: es) kws pos) (tMethN C m n ks.length sp gV E0 ta t tk) := by
  obtain ⟨f, fd, g, hm, hb, F⟩ := G.ex
  refine ⟨fun pins s σ H Q I h => ?_⟩
  refine PySem.W.methodCall_KW (pl := pl) (thn (he.run pins s σ H _ I h) fun u s1 ⟨x, H1, I1, rx, a, dx, fs, ex, ea, l, q⟩ => ?_) ht
  subst ex
  obtain rfl : u = Value.ref a := rx
  refine getmeth_ok I1 ea G.cl hm l ?_
  refine PySem.W.callWith_KW (first := [.ref a]) (h₀ := X.base) I.ok.mod.kin hm.kp hall (thn (ha.run pos pins s1 σ H1 _ I1 q) fun us s2 ⟨vs, H2, I2, r, q2⟩ => ?_) hpl hst
  refine thn (hkw.run pos pins s2 σ H2 _ I2 q2) fun ws s3 ⟨zs, H3, I3, rz, l1, l2, q3⟩ => ⟨I3.kIn, ?_⟩
  rw [hks]
  exact run_fnN (us := .ref a :: us) (vs := .ref a :: vs) F (hr.mono hk) hb pass0 I3 (.cons rfl r) rz (congrArg Nat.succ l1) l2 q3
theorem pe_mtK0 (G : CalKw X.prog X.w X.K X.mg X.base k C m ps sp 0 ks gV) (hr : Room k0 X.A) (he : PE X o ta) (hkw : PK X kws tk) (hk : k ≤ k0 := by omega)
    (hall : (backToKw pos (keywordEach kws X.env)).all (·.1.isSome) = true := by rfl) (hks : (backToKw pos (keywordEach kws X.env)).filterMap (·.1) = ks := by rfl)
    (hpl : ((backTo pos (starEach [] X.env)).any (·.1) || (backToKw pos (keywordEach kws X.env)).any (·.1.isNone)) = false := by rfl)
    (ht : eval (.Call (.Attribute o m apos) [] kws pos) X.env = (do
      let ov ← eval o X.env
      standAt apos.atName
      let (f, first) ← holding [ov] (getMethod ov m pl)
      callWith pos f first (backTo pos (starEach [] X.env)) (backToKw pos (keywordEach kws X.env))) := by rfl) :
    PE X (.Call (.Attribute o m apos) [] kws pos) (tMethN C m 0 ks.length sp gV E0 ta tNil tk) := by
  obtain ⟨f, fd, g, hm, hb, F⟩ := G.ex
  refine ⟨fun pins s σ H Q I h => ?_⟩
  refine PySem.W.methodCall_KW (pl := pl) (thn (he.run pins s σ H _ I h) fun u s1 ⟨x, H1, I1, rx, a, dx, fs, ex, ea, l, q⟩ => ?_) ht
  subst ex
  obtain rfl : u = Value.ref a := rx
  refine getmeth_ok I1 ea G.cl hm l ?_
  refine PySem.W.callWith_KW0 (first := [.ref a]) (h₀ := X.base) I.ok.mod.kin hm.kp hall ?_ hpl
  refine thn (hkw.run pos pins s1 σ H1 _ I1 q) fun ws s3 ⟨zs, H3, I3, rz, l1, l2, q3⟩ => ⟨I3.kIn, ?_⟩
  rw [hks]
  exact run_fnN (us := .ref a :: []) (vs := .ref a :: []) F (hr.mono hk) hb pass0 I3 (.cons rfl .nil) rz rfl l2 q3
theorem pe_mkK0 {x : Str} (G : CalKm X.prog X.w X.K X.mg X.base k x C ps sp ks gV) (hr : Room k0 X.A) (hkw : PK X kws tk) (hk : k + 1 ≤ k0 := by omega) (hg : Gl X x := by first | exact rfl | assumption)
    (hall : (backToKw pos (keywordEach kws X.env)).all (·.1.isSome) = true := by rfl) (hks : (backToKw pos (keywordEach kws X.env)).filterMap (·.1) = ks := by rfl) (hdb : (x == ("__debug__" : Str)) = false := by decide)
    (hpl : ((backTo pos (starEach [] X.env)).any (·.1) || (backToKw pos (keywordEach kws X.env)).any (·.1.isNone)) = false := by rfl) :
    PE X (.Call (.Name x p) [] kws pos) (tMakeK C 0 ks.length sp gV E0 tNil tk) := by
  obtain ⟨f, fd, g, M, hb, F⟩ := G.ex
  exact pe_makeK0 M F (hr.mono hk) hg G.at_ hb pass0 hkw hall hks hdb hpl
end
end U
namespace U
open PySem L2 Tb
def gTabP {α : Type} : List α → List α → List α
  | [x], [mt, n, p, num] => [x, num, p, n, mt]
  | _, _ => []
def gTab : List V → List V → List V := gTabP
def gApp : List V → List V → List V := fun vs zs => vs ++ zs
theorem l_mtK {C : Addr} {m : Str} {n j : Nat} {sp : Sp} {gV : List V → List V → List V} {E : XK} {ta : TE} {t tk : TA} {σ : St} {H : Hp} {Q : VK} (h : ta σ H fun x H1 => ∃ a dx fs, x = .ref a ∧ H1 a = some (.ins C dx fs) ∧ fs.lookup m = none ∧
  t σ H1 fun vs H2 => tk σ H2 fun zs H3 => vs.length = n ∧ zs.length = j ∧ sp (gV (x :: vs) zs) H3 Q E) : tMethN C m n j sp gV E ta t tk σ H Q := h
theorem l_mkK {C : Addr} {n m : Nat} {sp : Sp} {gV : List V → List V → List V} {E : XK} {t tk : TA} {σ : St} {H : Hp} {Q : VK} (h : t σ H fun vs H1 => tk σ H1 fun zs H2 => vs.length = n ∧ zs.length = m ∧ ∀ x dx, H2 x = none → H2 dx = none → dx ≠ x →
  sp (gV (.ref x :: vs) zs) (upd (upd H2 dx (.own x)) x (.ins C dx [])) (fun v H3 => v = .non ∧ Q (.ref x) H3) E) : tMakeK C n m sp gV E t tk σ H Q := h
/-- a table is made -/
theorem l_tabNew {C TC NC : Addr} {H : Hp} {Q : VK} {num mt : V} {p n : Nat} (hc : TC ≠ NC) (hp : p ≤ 2097152) (hn : n ≤ 2097152) (q : ∀ x G w, H x = none → Same H G → TabAt C TC NC G x (newM num mt p n) w → (∀ b, w.own x b → H b = none) → Q (.ref x) G) :
    ∀ x dx, H x = none → H dx = none → dx ≠ x → spTabNew C TC NC [.ref x, num, .int p, .int n, mt] (upd (upd H dx (.own x)) x (.ins TC dx [])) (fun v H3 => v = .non ∧ Q (.ref x) H3) E0 := fun x dx hx hd hne =>
  ⟨x, dx, num, mt, p, n, rfl, upd_same, hc, hp, hn, fun G w fr t9 ow => ⟨rfl, q x G w hx (fun b o e => fr b o (ne_of_none e hx) (same2 hx hd b o e)) t9 (fun b z => by
    rcases ow b z with r | r
    · rw [r]; exact hx
    · by_cases z : b = x
      · rw [z]; exact hx
      · rw [upd_ne z] at r
        by_cases z2 : b = dx
        · rw [z2]; exact hd
        · rw [upd_ne z2] at r; exact r)⟩⟩
end U
namespace U
open PySem L2 Tb
def nrM (num v : V) : TM := ⟨num, .non, [v, .non, .non], List.replicate (sz 2) none, sz 2⟩
theorem nr_put {num v : V} : putM (newM num .non 3 2) (.i 1) v = nrM num v := by
  have h : isPl (newM num .non 3 2) (.i 1) = true := by
    show decide (1 ≤ (1 : Int) ∧ (1 : Int) ≤ ((List.replicate 3 V.non).length : Nat)) = true
    rw [List.length_replicate]
    exact decide_eq_true ⟨by decide, by decide⟩
  rw [putM_some (put0_pl h)]
  rfl
theorem elders_none (n : Nat) : elders (List.replicate n none) = [] := by
  have := elders_len (List.replicate n none)
  rw [liveC_new] at this
  exact List.eq_nil_of_length_eq_zero this
theorem nr_room {num v : V} {p : Nat} (h : 3 < p) : roomM (nrM num v) p = base0 (nrM num v) p (sz 2) := by
  unfold roomM
  rw [if_pos (show (nrM num v).places.length < p from h)]
  have e1 : (nrM num v).places.drop p = [] := List.drop_eq_nil_of_le (show ([v, .non, .non] : List V).length ≤ p by simp; omega)
  have e2 : elders (nrM num v).nodes = [] := elders_none _
  have e3 : (nrM num v).nodes.length = sz 2 := List.length_replicate ..
  unfold rebuildM
  rw [e1, e2, e3]
  rfl
theorem nr_ok {num v : V} {p : Nat} (h : 3 < p) (h2 : p ≤ 100) : OkM (nrM num v) ∧ OkM (roomM (nrM num v) p) ∧ (roomM (nrM num v) p).places.length = p ∧ (roomM (nrM num v) p).places[0]? = some v ∧ getM (roomM (nrM num v) p) (.i 1) = v := by
  have hz := sz_le 2
  have hz2 := sz_le (sz 2)
  have o1 : OkM (nrM num v) := by
    refine ⟨?_, fun i nd h => ?_, ?_, ?_⟩
    · show WF (mpK (List.replicate (sz 2) none).length) (List.replicate (sz 2) none) (sz 2)
      exact WF.new _
    · have h : At (List.replicate (sz 2) none) i nd := h
      unfold At at h
      rw [List.getElem?_replicate] at h
      split at h <;> cases h
    · show (List.replicate (sz 2) none).length ≤ _
      rw [List.length_replicate]; omega
    · exact Nat.le_of_ble_eq_true rfl
  have r := base_ok (p := p) (n := sz 2) o1 (by omega) (by omega)
  have e0 : (base0 (nrM num v) p (sz 2)).places[0]? = some v := by
    show (List.take p [v, .non, .non] ++ List.replicate (p - 3) V.non)[0]? = some v
    obtain ⟨q, rfl⟩ : ∃ q, p = q + 1 := ⟨p - 1, by omega⟩
    rfl
  rw [nr_room h]
  refine ⟨o1, r.ok, r.np, e0, ?_⟩
  have hp : isPl (base0 (nrM num v) p (sz 2)) (.i 1) = true := by
    show decide (1 ≤ (1 : Int) ∧ (1 : Int) ≤ ((base0 (nrM num v) p (sz 2)).places.length : Nat)) = true
    rw [r.np]
    exact decide_eq_true ⟨by decide, by omega⟩
  obtain ⟨_, _, x, hx, hg⟩ := getM_pl hp
  have : (base0 (nrM num v) p (sz 2)).places[0]? = some x := hx
  rw [e0] at this
  rw [hg]
  exact (Option.some.inj this).symm
end U
namespace U
open PySem L2 Tb
theorem l_tabNewK {C TC NC : Addr} {H : Hp} {Q : VK} {num mt : V} {ip im : Int} (p n : Nat) (ep : ip = (p : Int)) (en : im = (n : Int)) (hc : TC ≠ NC) (hp : p ≤ 2097152) (hn : n ≤ 2097152) (q : ∀ x G w, H x = none → Same H G → TabAt C TC NC G x (newM num mt p n) w → (∀ b, w.own x b → H b = none) → Q (.ref x) G) :
    ∀ x dx, H x = none → H dx = none → dx ≠ x → spTabNew C TC NC (gTab (.ref x :: []) [mt, .int im, .int ip, num]) (upd (upd H dx (.own x)) x (.ins TC dx [])) (fun v H3 => v = .non ∧ Q (.ref x) H3) E0 := by
  subst ep en
  exact l_tabNew hc hp hn q
end U
namespace U
open PySem L2 Tb
def MkTabK (C TC NC : Addr) (zs : List V) (H : Hp) (Q : VK) : Prop := ∀ x dx, H x = none → H dx = none → dx ≠ x → spTabNew C TC NC (gTab (.ref x :: []) zs) (upd (upd H dx (.own x)) x (.ins TC dx [])) (fun v H3 => v = .non ∧ Q (.ref x) H3) E0
theorem l_mkKT {C TC NC : Addr} {m : Nat} {tk : TA} {σ : St} {H : Hp} {Q : VK} (h : tk σ H fun zs H2 => zs.length = m ∧ MkTabK C TC NC zs H2 Q) : tMakeK TC 0 m (spTabNew C TC NC) gTab E0 tNil tk σ H Q := by
  refine l_mkK ?_
  show tk σ H _
  have e : (fun zs H2 => zs.length = m ∧ MkTabK C TC NC zs H2 Q) = (fun (zs : List V) (H2 : Hp) => ([] : List V).length = 0 ∧ zs.length = m ∧ ∀ x dx, H2 x = none → H2 dx = none → dx ≠ x → spTabNew C TC NC (gTab (.ref x :: []) zs) (upd (upd H2 dx (.own x)) x (.ins TC dx [])) (fun v H3 => v = .non ∧ Q (.ref x) H3) E0) := by
    funext zs H2
    exact propext ⟨fun ⟨a, b⟩ => ⟨rfl, a, b⟩, fun ⟨_, a, b⟩ => ⟨a, b⟩⟩
  rw [← e]
  exact h
theorem l_mkTK {C TC NC : Addr} {H : Hp} {Q : VK} {num mt : V} {ip im : Int} (p n : Nat) (ep : ip = (p : Int)) (en : im = (n : Int)) (hc : TC ≠ NC) (hp : p ≤ 2097152) (hn : n ≤ 2097152) (q : ∀ x G w, H x = none → Same H G → TabAt C TC NC G x (newM num mt p n) w → (∀ b, w.own x b → H b = none) → Q (.ref x) G) :
    MkTabK C TC NC [mt, .int im, .int ip, num] H Q := l_tabNewK p n ep en hc hp hn q
/-- the same by a row of values: C(e, ..), the defaults behind -/
def MkTabP (C TC NC : Addr) (vs : List V) (H : Hp) (Q : VK) : Prop := ∀ x dx, H x = none → H dx = none → dx ≠ x → spTabNew C TC NC (.ref x :: vs) (upd (upd H dx (.own x)) x (.ins TC dx [])) (fun v H3 => v = .non ∧ Q (.ref x) H3) E0
theorem l_mkTP {C TC NC : Addr} {H : Hp} {Q : VK} {num mt : V} {ip im : Int} (p n : Nat) (ep : ip = (p : Int)) (en : im = (n : Int)) (hc : TC ≠ NC) (hp : p ≤ 2097152) (hn : n ≤ 2097152) (q : ∀ x G w, H x = none → Same H G → TabAt C TC NC G x (newM num mt p n) w → (∀ b, w.own x b → H b = none) → Q (.ref x) G) :
    MkTabP C TC NC [num, .int ip, .int im, mt] H Q := by
  subst ep en
  exact l_tabNew hc hp hn q
theorem l_mk3 {C TC NC : Addr} {ta : TA} {σ : St} {H : Hp} {Q : VK} (h : ta σ H fun vs H1 => MkTabP C TC NC (vs ++ [.non]) H1 Q) : tMake TC (spTabNew C TC NC) [.non] E0 ta σ H Q := h
theorem l_mk1 {C TC NC : Addr} {ta : TA} {σ : St} {H : Hp} {Q : VK} (h : ta σ H fun vs H1 => MkTabP C TC NC (vs ++ [.int 0, .int 0, .non]) H1 Q) : tMake TC (spTabNew C TC NC) [.int 0, .int 0, .non] E0 ta σ H Q := h
end U
namespace U
open PySem L2 Tb
theorem TW.exOf {C TC NC wl a : Addr} {w0 : Tv} {H H1 : Hp} {n : Nat} (h : TW C TC NC wl a w0 H H1 n) (hw : Well wl H) (ow : ∀ b, w0.own a b → H b = none) : Ex wl H H1 := by
  obtain ⟨t, w, a1, a2, a3, a4, a5, a6⟩ := h
  refine ⟨hw, fun b o nb e => a5 b o (fun z => z.elim nb (fun q => ?_)) e, a3⟩
  rw [ow b q] at e; cases e
end U
namespace U
open PySem L2 Tb
theorem TW.exOf2 {C TC NC wl a : Addr} {w0 : Tv} {H0 H H1 : Hp} {n : Nat} (h : TW C TC NC wl a w0 H H1 n) (s : Same H0 H) (hw : Well wl H0) (ow : ∀ b, w0.own a b → H0 b = none) : Ex wl H0 H1 := by
  obtain ⟨t, w, a1, a2, a3, a4, a5, a6⟩ := h
  refine ⟨hw, fun b o nb e => a5 b o (fun z => z.elim nb (fun q => ?_)) (s _ _ e), a3⟩
  rw [ow b q] at e; cases e
theorem TW.far {C TC NC wl a : Addr} {w w6 : Tv} {H Hd H6 H7 : Hp} {n : Nat} (h : TW C TC NC wl a w6 H6 H7 n) (e : Ex wl H Hd) (e2 : Ex wl Hd H6) (ow : ∀ b, w.own a b → Hd b = none) (o6 : ∀ b, w6.own a b → w.own a b ∨ Hd b = none) : Ex wl H H7 := by
  obtain ⟨t, w', a1, a2, a3, a4, a5, a6⟩ := h
  refine ⟨e.was, fun b o nb q => ?_, a3⟩
  have q1 := e.kept _ _ nb q
  refine a5 b o (fun z => z.elim nb (fun y => ?_)) (e2.kept _ _ nb q1)
  rcases o6 b y with r | r
  · rw [ow b r] at q1; cases q1
  · rw [r] at q1; cases q1
end U
namespace U
open PySem PySem.Spec PyProof.Rows L2
theorem gTab_rel {vs zs : List V} {us ws : List Value} (r1 : Vals vs us) (r2 : Vals zs ws) : Vals (gTabP vs zs) (gTabP us ws) := by
  cases r1 with
  | nil => exact .nil
  | cons a r => cases r with
    | cons _ _ => exact .nil
    | nil => cases r2 with
      | nil => exact .nil
      | cons b r => cases r with
        | nil => exact .nil
        | cons c r => cases r with
          | nil => exact .nil
          | cons d r => cases r with
            | nil => exact .nil
            | cons e r => cases r with
              | nil => exact .cons a (.cons e (.cons d (.cons c (.cons b .nil))))
              | cons _ _ => exact .nil
end U
namespace U
open PySem L2 Tb
/-! ## what is read behind a put -/
def ndM (ns : Ns Ky V) (k : Ky) : V := match look ns k with | some i => ndVal ns i | none => .non
theorem getM_ndM {t : TM} {k : Ky} (h : isPl t k = false) : getM t k = ndM t.nodes k := getM_no h
theorem ndM_at {n : Nat} {ns : Ns Ky V} {free i : Nat} {nd : Nd Ky V} (w : WF (mpK n) ns free) (a : At ns i nd) : ndM ns nd.key = nd.val := by
  unfold ndM
  rw [look_at w a]
  exact ndVal_at a
theorem ndM_no {ns : Ns Ky V} {k : Ky} (h : ∀ i nd, At ns i nd → nd.key = k → nd.val = .non) : ndM ns k = .non := by
  unfold ndM
  cases e : look ns k with
  | none => rfl
  | some i =>
    obtain ⟨nd, a, hk⟩ := look_some e
    show ndVal ns i = _
    rw [ndVal_at a]
    exact h i nd a hk
theorem ndM_some {ns : Ns Ky V} {k : Ky} (h : ndM ns k ≠ .non) : ∃ i nd, At ns i nd ∧ nd.key = k ∧ nd.val = ndM ns k := by
  cases e : look ns k with
  | none => exact absurd (by unfold ndM; rw [e]) h
  | some i =>
    obtain ⟨nd, a, hk⟩ := look_some e
    refine ⟨i, nd, a, hk, ?_⟩
    unfold ndM
    rw [e]
    exact (ndVal_at a).symm
/-- the same as told by two rows of nodes -/
theorem ndM_eq {n n' : Nat} {ns ns' : Ns Ky V} {free free' : Nat} {k : Ky} (w : WF (mpK n) ns free) (w' : WF (mpK n') ns' free') (h1 : ∀ i x, At ns' i x → x.key = k → ∃ j y, At ns j y ∧ y.key = x.key ∧ y.val = x.val)
    (h2 : ∀ i x, At ns i x → x.key = k → x.val ≠ .non → ∃ j y, At ns' j y ∧ y.key = x.key ∧ y.val = x.val) : ndM ns' k = ndM ns k := by
  by_cases e : ndM ns k = .non
  · rw [e]
    refine ndM_no fun i x a hk => ?_
    obtain ⟨j, y, b, bk, bv⟩ := h1 i x a hk
    have := ndM_at w b
    rw [bk, hk, e] at this
    rw [← bv, ← this]
  · obtain ⟨i, nd, a, hk, hv⟩ := ndM_some e
    obtain ⟨j, y, b, bk, bv⟩ := h2 i nd a hk (by rw [hv]; exact e)
    have := ndM_at w' b
    rw [bk, hk] at this
    rw [this, bv, hv]
theorem getM_put0 {t t' : TM} {k : Ky} {v : V} (o : OkM t) (hs : k.sc = true) (h : put0 t k v = some t') (l : Ky) : getM t' l = if l = k then v else getM t l := by
  have r := put0_ok o hs h
  have pe : ∀ l, isPl t' l = isPl t l := fun l => isPl_len r.np
  cases hp : isPl t k with
  | true =>
    obtain ⟨n, rfl⟩ := isPl_i hp
    rw [put0_pl hp] at h
    cases h
    obtain ⟨n1, n2, _⟩ := getM_pl hp
    by_cases e : l = .i n
    · rw [if_pos e, e]
      obtain ⟨_, _, x, hx, hg⟩ := getM_pl (t := { t with places := t.places.set (n - 1).toNat v }) (n := n) (by rw [pe]; exact hp)
      rw [hg]
      have hx : (t.places.set (n - 1).toNat v)[(n - 1).toNat]? = some x := hx
      rw [List.getElem?_set_self (by omega)] at hx
      exact (Option.some.inj hx).symm
    · rw [if_neg e]
      cases hl : isPl t l with
      | true =>
        obtain ⟨m, rfl⟩ := isPl_i hl
        obtain ⟨m1, m2, y, hy, hg⟩ := getM_pl hl
        obtain ⟨_, _, x, hx, hg2⟩ := getM_pl (t := { t with places := t.places.set (n - 1).toNat v }) (n := m) (by rw [pe]; exact hl)
        rw [hg, hg2]
        have hx : (t.places.set (n - 1).toNat v)[(m - 1).toNat]? = some x := hx
        have ne : (n - 1).toNat ≠ (m - 1).toNat := fun z => e (by rw [show n = m by omega])
        rw [List.getElem?_set_ne ne, hy] at hx
        exact (Option.some.inj hx).symm
      | false =>
        rw [getM_ndM hl, getM_ndM (by rw [pe]; exact hl)]
  | false =>
    have pl : ∀ l, l ≠ k → t'.places = t.places → isPl t l = true → getM t' l = getM t l := fun l _ ep hl => by
      obtain ⟨m, rfl⟩ := isPl_i hl
      obtain ⟨_, _, y, hy, hg⟩ := getM_pl hl
      obtain ⟨_, _, x, hx, hg2⟩ := getM_pl (t := t') (n := m) (by rw [pe]; exact hl)
      rw [hg, hg2]
      rw [ep, hy] at hx
      exact (Option.some.inj hx).symm
    cases e : look t.nodes k with
    | some i =>
      obtain ⟨nd, a, hk⟩ := look_some e
      rw [put0_at hp e a] at h
      cases h
      have w' : WF (mpK (t.nodes.set i (some ⟨nd.key, v, nd.link⟩)).length) (t.nodes.set i (some ⟨nd.key, v, nd.link⟩)) t.free := r.ok.wf
      by_cases q : l = k
      · rw [if_pos q, q, getM_ndM (by rw [pe]; exact hp)]
        have b : At (t.nodes.set i (some ⟨nd.key, v, nd.link⟩)) i ⟨nd.key, v, nd.link⟩ := at_set.mpr (.inl ⟨rfl, a.lt, rfl⟩)
        rw [← hk]
        exact ndM_at w' b
      · rw [if_neg q]
        cases hl : isPl t l with
        | true => exact pl l q rfl hl
        | false =>
          rw [getM_ndM hl, getM_ndM (by rw [pe]; exact hl)]
          refine ndM_eq o.wf w' (fun j x b bk => ?_) (fun j x b bk _ => ?_)
          · rcases at_set.mp b with ⟨_, _, z⟩ | ⟨_, z⟩
            · cases z
              exact absurd (bk.symm.trans hk) q
            · exact ⟨j, x, z, rfl, rfl⟩
          · refine ⟨j, x, at_set.mpr (.inr ⟨fun z => ?_, b⟩), rfl, rfl⟩
            subst z
            rw [At.inj b a] at bk
            exact q (bk.symm.trans hk)
    | none =>
      by_cases nv : v = .non
      · subst nv
        rw [put0_non hp e] at h
        cases h
        by_cases q : l = k
        · rw [if_pos q, q, getM_ndM hp]
          exact ndM_no fun i nd a hk => absurd hk (look_none e i nd a)
        · rw [if_neg q]
      · cases q : ins (mpK t.nodes.length) .non t.nodes t.free k v with
        | none =>
          unfold put0 at h
          rw [if_neg (by rw [hp]; exact Bool.false_ne_true), e] at h
          simp only [if_neg nv, q] at h
          cases h
        | some rr =>
          obtain ⟨ns, f⟩ := rr
          rw [put0_ins hp e nv q] at h
          cases h
          have hl := mpK_lt (k := k) (ins_pos q)
          obtain ⟨w1, w2, w3, w4, w5, w6⟩ := ins_wf o.wf hl e q
          by_cases z : l = k
          · rw [if_pos z, z, getM_ndM (by rw [pe]; exact hp)]
            obtain ⟨i, x, b, bk, bv⟩ := w5
            have := ndM_at w1 b
            rw [bk, bv] at this
            exact this
          · rw [if_neg z]
            cases hl : isPl t l with
            | true => exact pl l z rfl hl
            | false =>
              rw [getM_ndM hl, getM_ndM (by rw [pe]; exact hl)]
              refine ndM_eq o.wf w1 (fun j x b bk => ?_) (fun j x b bk xv => w6 j x b xv)
              rcases w4 j x b with ⟨y, _⟩ | y
              · exact absurd (bk.symm.trans y) z
              · exact y
/-! ## no node has a key that has a place -/
def NP (t : TM) : Prop := ∀ i nd, At t.nodes i nd → isPl t nd.key = false
/-- no node is without a value -/
def AL (t : TM) : Prop := ∀ i nd, At t.nodes i nd → nd.val ≠ .non
theorem put0_np {t t' : TM} {k : Ky} {v : V} (o : OkM t) (hs : k.sc = true) (h : put0 t k v = some t') (n : NP t) : NP t' := by
  have r := put0_ok o hs h
  have pe : ∀ l, isPl t' l = isPl t l := fun l => isPl_len r.np
  intro i nd a
  rw [pe]
  cases hp : isPl t k with
  | true =>
    obtain ⟨m, rfl⟩ := isPl_i hp
    rw [put0_pl hp] at h
    cases h
    exact n i nd a
  | false =>
    cases e : look t.nodes k with
    | some j =>
      obtain ⟨x, b, hk⟩ := look_some e
      rw [put0_at hp e b] at h
      cases h
      rcases at_set.mp a with ⟨_, _, q⟩ | ⟨_, q⟩
      · cases q
        exact n j x b
      · exact n i nd q
    | none =>
      by_cases nv : v = .non
      · subst nv
        rw [put0_non hp e] at h
        cases h
        exact n i nd a
      · cases q : ins (mpK t.nodes.length) .non t.nodes t.free k v with
        | none =>
          unfold put0 at h
          rw [if_neg (by rw [hp]; exact Bool.false_ne_true), e] at h
          simp only [if_neg nv, q] at h
          cases h
        | some rr =>
          obtain ⟨ns, f⟩ := rr
          rw [put0_ins hp e nv q] at h
          cases h
          obtain ⟨_, _, _, w4, _, _⟩ := ins_wf o.wf (mpK_lt (k := k) (ins_pos q)) e q
          rcases w4 i nd a with ⟨y, _⟩ | ⟨j, y, b, bk, _⟩
          · rw [y]; exact hp
          · rw [← bk]; exact n j y b
theorem put0_al {t t' : TM} {k : Ky} {v : V} (o : OkM t) (hs : k.sc = true) (h : put0 t k v = some t') (n : AL t) (hv : v ≠ .non ∨ isPl t k = true ∨ getM t k = .non) : AL t' := by
  intro i nd a
  cases hp : isPl t k with
  | true =>
    obtain ⟨m, rfl⟩ := isPl_i hp
    rw [put0_pl hp] at h
    cases h
    exact n i nd a
  | false =>
    cases e : look t.nodes k with
    | some j =>
      obtain ⟨x, b, hk⟩ := look_some e
      have nv : v ≠ .non := by
        rcases hv with z | z | z
        · exact z
        · rw [hp] at z; cases z
        · rw [getM_ndM hp, ← hk, ndM_at o.wf b] at z
          exact absurd z (n j x b)
      rw [put0_at hp e b] at h
      cases h
      rcases at_set.mp a with ⟨_, _, q⟩ | ⟨_, q⟩
      · cases q
        exact nv
      · exact n i nd q
    | none =>
      by_cases nv : v = .non
      · subst nv
        rw [put0_non hp e] at h
        cases h
        exact n i nd a
      · cases q : ins (mpK t.nodes.length) .non t.nodes t.free k v with
        | none =>
          unfold put0 at h
          rw [if_neg (by rw [hp]; exact Bool.false_ne_true), e] at h
          simp only [if_neg nv, q] at h
          cases h
        | some rr =>
          obtain ⟨ns, f⟩ := rr
          rw [put0_ins hp e nv q] at h
          cases h
          obtain ⟨_, _, _, w4, _, _⟩ := ins_wf o.wf (mpK_lt (k := k) (ins_pos q)) e q
          rcases w4 i nd a with ⟨_, y⟩ | ⟨j, y, b, _, bv⟩
          · rw [y]; exact nv
          · rw [← bv]; exact n j y b
/-! ## what is read behind a table made anew -/
theorem putsB_get : ∀ (vs : List V) {t0 t : TM} {p s c l : Nat} (i : Nat), ReR t0 t p s c l → p < i → c + held vs ≤ s → NP t → AL t → (∀ j : Nat, i ≤ j → getM t (.i j) = .non) →
    NP (putsB t i vs) ∧ AL (putsB t i vs) ∧ ∀ (k : Ky) (x : V), (∀ j : Nat, j < vs.length → k = .i ((i + j : Nat) : Int) → vs[j]? = some x) → (getM t k = x ∨ ∃ j : Nat, j < vs.length ∧ k = .i ((i + j : Nat) : Int)) → getM (putsB t i vs) k = x
  | [], t0, t, p, s, c, l, i, x, hi, h, n, al, b => ⟨n, al, fun k y _ h2 => h2.elim id fun ⟨j, q, _⟩ => absurd q (Nat.not_lt_zero _)⟩
  | v :: vs, t0, t, p, s, c, l, i, x, hi, h, n, al, b => by
    have hnp : isPl t (.i i) = false := by
      unfold isPl
      have := x.np
      exact decide_eq_false (by omega)
    rw [held_cons] at h
    have hr : isPl t (.i (i : Int)) = true ∨ v = .non ∨ c < s := by
      by_cases e : v = .non
      · exact .inr (.inl e)
      · have : v01 v = 1 := if_neg e
        exact .inr (.inr (by omega))
    obtain ⟨t', e, r⟩ := x.put (k := .i i) rfl hr
    have e2 : (if isPl t (.i (i : Int)) = true ∨ v = .non then 0 else 1) = v01 v := by
      unfold v01
      rw [hnp]
      simp
    rw [e2] at r
    have g := getM_put0 x.ok (k := .i i) rfl e
    have ih := putsB_get vs (i + 1) r (by omega) (by omega) (put0_np x.ok (k := .i i) rfl e n) (put0_al x.ok (k := .i i) rfl e al (.inr (.inr (b i (Nat.le_refl _))))) (fun j hj => by
      rw [g, if_neg (fun z => by injection z with z; omega)]
      exact b j (by omega))
    have eq : putsB t i (v :: vs) = putsB t' (i + 1) vs := by
      show putsB ((put0 t (.i i) v).getD t) (i + 1) vs = _
      rw [e]
      rfl
    rw [eq]
    refine ⟨ih.1, ih.2.1, fun k y h1 h2 => ih.2.2 k y (fun j hj hk => ?_) ?_⟩
    · have := h1 (j + 1) (by simp; omega) (by rw [hk]; congr 2; omega)
      rw [List.getElem?_cons_succ] at this
      exact this
    · rw [g]
      by_cases z : k = .i (i : Int)
      · have := h1 0 (by simp) (by rw [z]; rfl)
        rw [List.getElem?_cons_zero] at this
        left
        rw [if_pos z]
        exact Option.some.inj this
      · rw [if_neg z]
        rcases h2 with q | ⟨j, q1, q2⟩
        · exact .inl q
        · cases j with
          | zero => exact absurd q2 z
          | succ j => exact .inr ⟨j, by simp at q1; omega, by rw [q2]; congr 2; omega⟩
theorem putsE_get : ∀ (r : List (Nd Ky V)) {t0 t : TM} {p s c l : Nat}, ReR t0 t p s c l → (∀ nd ∈ r, nd.key.sc = true ∧ nd.val ≠ .non) → c + cntE p r ≤ s → NP t → AL t →
    NP (putsE t r) ∧ AL (putsE t r) ∧ ∀ (k : Ky) (x : V), (∀ nd ∈ r, nd.key = k → nd.val = x) → (getM t k = x ∨ ∃ nd ∈ r, nd.key = k) → getM (putsE t r) k = x
  | [], t0, t, p, s, c, l, x, hs, h, n, al => ⟨n, al, fun k y _ h2 => h2.elim id fun ⟨j, q, _⟩ => by cases q⟩
  | nd :: r, t0, t, p, s, c, l, x, hs, h, n, al => by
    have ec : cntE p (nd :: r) = cntE p r + (if isPl t nd.key = true then 0 else 1) := by
      unfold cntE
      rw [List.countP_cons]
      congr 1
      unfold isPl
      rw [x.np]
      cases nd.key with
      | i m =>
        by_cases z : 1 ≤ m ∧ m ≤ (p : Int)
        · simp [z]
        · simp only [z, decide_false, Bool.not_false, if_true, Bool.false_eq_true, if_false]
      | _ => simp
    rw [ec] at h
    have hr : isPl t nd.key = true ∨ nd.val = .non ∨ c < s := by
      cases e : isPl t nd.key with
      | true => exact .inl rfl
      | false =>
        rw [e] at h
        exact .inr (.inr (by simp at h; omega))
    have hn := hs nd List.mem_cons_self
    obtain ⟨t', e, y⟩ := x.put (k := nd.key) (v := nd.val) hn.1 hr
    have hle : c + (if isPl t nd.key = true ∨ nd.val = .non then 0 else 1) ≤ c + (if isPl t nd.key = true then 0 else 1) := by
      by_cases z : isPl t nd.key = true
      · simp [z]
      · by_cases z2 : nd.val = .non <;> simp [z, z2]
    have g := getM_put0 x.ok hn.1 e
    have ih := putsE_get r y (fun z hz => hs z (List.mem_cons_of_mem _ hz)) (by omega) (put0_np x.ok hn.1 e n) (put0_al x.ok hn.1 e al (.inl hn.2))
    have eq : putsE t (nd :: r) = putsE t' r := by
      show putsE ((put0 t nd.key nd.val).getD t) r = _
      rw [e]
      rfl
    rw [eq]
    refine ⟨ih.1, ih.2.1, fun k y h1 h2 => ih.2.2 k y (fun z hz => h1 z (List.mem_cons_of_mem _ hz)) ?_⟩
    rw [g]
    by_cases z : k = nd.key
    · rw [if_pos z]
      exact .inl (h1 nd List.mem_cons_self z.symm)
    · rw [if_neg z]
      rcases h2 with q | ⟨w, q1, q2⟩
      · exact .inl q
      · rcases List.mem_cons.mp q1 with q1 | q1
        · exact absurd (by rw [← q2, q1]) z
        · exact .inr ⟨w, q1, q2⟩
theorem elders_val {ns : Ns Ky V} {nd : Nd Ky V} (h : nd ∈ elders ns) : (∃ i, At ns i nd) ∧ nd.val ≠ .non := by
  obtain ⟨o, ho, e⟩ := List.mem_filterMap.mp h
  cases o with
  | none => cases e
  | some x =>
    unfold eldP at e
    simp only at e
    split at e
    · cases e
    · rename_i hv
      cases e
      obtain ⟨i, hi⟩ := List.mem_iff_getElem?.mp ho
      exact ⟨⟨i, hi⟩, hv⟩
theorem elders_in {ns : Ns Ky V} {nd : Nd Ky V} {i : Nat} (h : At ns i nd) (hv : nd.val ≠ .non) : nd ∈ elders ns :=
  List.mem_filterMap.mpr ⟨some nd, List.mem_of_getElem? h, if_neg hv⟩
/-- a table made anew tells the same -/
theorem rebuild_get {t : TM} {p n : Nat} (o : OkM t) (np : NP t) (hp : p ≤ 4194304) (hn : sz n ≤ 4194304) (h : held (t.places.drop p) + cntE p (elders t.nodes) ≤ n) :
    NP (rebuildM t p n) ∧ AL (rebuildM t p n) ∧ ∀ k, getM (rebuildM t p n) k = getM t k := by
  have hz := sz_ge n
  have b0 := base_ok o hp hn
  have no : ∀ i nd, ¬ At (base0 t p n).nodes i nd := fun i nd h => by
    have h : At (List.replicate (sz n) none) i nd := h
    unfold At at h
    rw [List.getElem?_replicate] at h
    split at h <;> cases h
  have gn : ∀ k, isPl (base0 t p n) k = false → getM (base0 t p n) k = .non := fun k hk => by
    rw [getM_ndM hk]
    exact ndM_no fun i nd a _ => absurd a (no i nd)
  have gb : ∀ m : Int, 1 ≤ m → m ≤ (p : Int) → getM (base0 t p n) (.i m) = (t.places[(m - 1).toNat]?).getD .non := fun m h1 h2 => by
    obtain ⟨_, _, x, hx, hg⟩ := getM_pl (t := base0 t p n) (n := m) (by unfold isPl; exact decide_eq_true (by rw [b0.np]; exact ⟨h1, h2⟩))
    rw [hg]
    have hx : (t.places.take p ++ List.replicate (p - t.places.length) V.non)[(m - 1).toNat]? = some x := hx
    by_cases q : (m - 1).toNat < t.places.length
    · rw [List.getElem?_append_left (by rw [List.length_take]; omega), List.getElem?_take, if_pos (by omega)] at hx
      rw [hx]
      rfl
    · rw [List.getElem?_append_right (by rw [List.length_take]; omega), List.getElem?_replicate] at hx
      split at hx
      · rw [List.getElem?_eq_none (by omega)]
        exact (Option.some.inj hx).symm
      · cases hx
  have x := putsB_ok (t.places.drop p) (p + 1) b0 (by omega) (by omega)
  obtain ⟨n1, a1, g1⟩ := putsB_get (t.places.drop p) (p + 1) b0 (by omega) (by omega) (fun i nd a => absurd a (no i nd)) (fun i nd a => absurd a (no i nd)) (fun j hj => gn _ (by unfold isPl; rw [b0.np]; exact decide_eq_false (by omega)))
  obtain ⟨n2, a2, g2⟩ := putsE_get (elders t.nodes) x (fun nd hm => by
    obtain ⟨⟨i, hi⟩, hv⟩ := elders_val hm
    exact ⟨o.sc i nd hi, hv⟩) (by omega) n1 a1
  refine ⟨n2, a2, fun k => g2 k _ (fun nd hm hk => ?_) ?_⟩
  · obtain ⟨⟨i, hi⟩, hv⟩ := elders_val hm
    have := np i nd hi
    rw [hk] at this
    rw [getM_ndM this, ← hk, ndM_at o.wf hi]
  · cases hk : isPl t k with
    | true =>
      obtain ⟨m, rfl⟩ := isPl_i hk
      obtain ⟨m1, m2, y, hy, hg⟩ := getM_pl hk
      left
      refine g1 _ _ (fun j hj e => ?_) ?_
      · injection e with e
        rw [List.getElem?_drop, hg, ← hy]
        congr 1
        omega
      · by_cases q : m ≤ (p : Int)
        · left
          rw [gb m m1 q, hg, hy]
          rfl
        · right
          refine ⟨(m - 1).toNat - p, by rw [List.length_drop]; omega, ?_⟩
          congr 1
          omega
    | false =>
      by_cases e : getM t k = .non
      · left
        refine g1 _ _ (fun j hj z => ?_) (.inl ?_)
        · rw [z] at hk
          have hk : ¬ _ := of_decide_eq_false hk
          rw [List.length_drop] at hj
          omega
        · rw [e]
          cases hb : isPl (base0 t p n) k with
          | false => exact gn k hb
          | true =>
            obtain ⟨m, rfl⟩ := isPl_i hb
            have hb : _ ∧ _ := of_decide_eq_true hb
            have hk : ¬ _ := of_decide_eq_false hk
            rw [b0.np] at hb
            rw [gb m hb.1 hb.2, List.getElem?_eq_none (by omega)]
            rfl
      · right
        rw [getM_ndM hk] at e
        obtain ⟨i, nd, a, hq, hv⟩ := ndM_some e
        exact ⟨nd, elders_in a (by rw [hv]; exact e), hq⟩
theorem putM_get {t : TM} {k : Ky} {v : V} (o : OkM t) (np : NP t) (hs : k.sc = true) (hl : live t ≤ 1000000) : NP (putM t k v) ∧ ∀ l, getM (putM t k v) l = if l = k then v else getM t l := by
  unfold putM
  cases e : put0 t k v with
  | some t' => exact ⟨put0_np o hs e np, getM_put0 o hs e⟩
  | none =>
    obtain ⟨g1, g2, g3, g4, t', e2, _⟩ := grow_ok (v := v) o hs hl
    show NP (gputM t k v) ∧ ∀ l, getM (gputM t k v) l = _
    unfold gputM
    rw [e2]
    have hz := sz_le ((keysK t k).length - (keysK t k).countP (inK (pfM (keysK t k))))
    obtain ⟨b1, _, b3⟩ := rebuild_get o np (p := pfM (keysK t k)) (n := (keysK t k).length - (keysK t k).countP (inK (pfM (keysK t k)))) (by omega) (by omega) g3
    refine ⟨put0_np g4 hs e2 b1, fun l => ?_⟩
    show getM t' l = _
    rw [getM_put0 g4 hs e2 l]
    have := b3 l
    unfold growM
    rw [this]
end U
namespace U
open PySem L2 Tb
/-! ## rows of keys without repeats -/
theorem countP_same {α : Type} [DecidableEq α] : ∀ {xs ys : List α}, xs.Nodup → ys.Nodup → (∀ a, a ∈ xs ↔ a ∈ ys) → ∀ f : α → Bool, xs.countP f = ys.countP f
  | [], ys, _, _, h, f => by
    cases ys with
    | nil => rfl
    | cons y ys => exact absurd ((h y).mpr List.mem_cons_self) (List.not_mem_nil)
  | x :: xs, ys, hx, hy, h, f => by
    have hm : x ∈ ys := (h x).mp List.mem_cons_self
    have hp := List.perm_cons_erase hm
    rw [hp.countP_eq f, List.countP_cons, List.countP_cons]
    have hn := List.nodup_cons.mp hx
    rw [countP_same hn.2 (hy.erase x) (fun a => ?_) f]
    rw [hy.mem_erase_iff]
    constructor
    · intro ha
      exact ⟨fun e => hn.1 (by rw [← e]; exact ha), (h a).mp (List.mem_cons_of_mem _ ha)⟩
    · rintro ⟨ne, ha⟩
      rcases List.mem_cons.mp ((h a).mpr ha) with e | e
      · exact absurd e ne
      · exact e
theorem mem_firsts {α : Type} {F : Nat → Option α} {n : Nat} {k : α} : k ∈ firsts F n ↔ ∃ i, i < n ∧ F i = some k := by
  unfold firsts
  rw [List.mem_filterMap]
  constructor
  · rintro ⟨i, hi, e⟩
    exact ⟨i, List.mem_range.mp hi, e⟩
  · rintro ⟨i, hi, e⟩
    exact ⟨i, List.mem_range.mpr hi, e⟩
theorem nodup_snoc {α : Type} {xs : List α} {x : α} (h : xs.Nodup) (n : x ∉ xs) : (xs ++ [x]).Nodup := by
  rw [List.nodup_append]
  refine ⟨h, by simp, fun a ha b hb e => ?_⟩
  rw [List.mem_singleton.mp hb] at e
  exact n (by rw [← e]; exact ha)
theorem nodup_firsts {α : Type} {F : Nat → Option α} (inj : ∀ i j k, F i = some k → F j = some k → i = j) : ∀ n, (firsts F n).Nodup
  | 0 => List.nodup_nil
  | n + 1 => by
    rw [firsts_succ]
    cases e : F n with
    | none => simpa using nodup_firsts inj n
    | some k =>
      refine nodup_snoc (nodup_firsts inj n) fun h => ?_
      obtain ⟨i, hi, e2⟩ := mem_firsts.mp h
      have := inj i n k e2 e
      omega
def liveK (t : TM) : List Ky := heldI t.places ++ (elders t.nodes).map (·.key)
theorem keysK_eq (t : TM) (k : Ky) : keysK t k = liveK t ++ [k] := rfl
theorem heldF_some {ps : List V} {i : Nat} {k : Ky} (h : heldF ps i = some k) : ∃ v, ps[i]? = some v ∧ v ≠ .non ∧ k = .i ((i : Int) + 1) := by
  unfold heldF at h
  cases e : ps[i]? with
  | none => rw [e] at h; cases h
  | some v =>
    rw [e] at h
    simp only at h
    split at h
    · cases h
    · rename_i nv
      exact ⟨v, rfl, nv, (Option.some.inj h).symm⟩
theorem eldK_some {t : TM} {i : Nat} {k : Ky} (h : eldK t i = some k) : ∃ nd, At t.nodes i nd ∧ nd.val ≠ .non ∧ nd.key = k := by
  unfold eldK at h
  obtain ⟨nd, e1, rfl⟩ := Option.map_eq_some_iff.mp h
  obtain ⟨x, hx, ex⟩ := Option.bind_eq_some_iff.mp e1
  cases x with
  | none => cases ex
  | some nd' =>
    unfold eldP at ex
    simp only at ex
    split at ex
    · cases ex
    · rename_i nv
      have e : nd' = nd := Option.some.inj ex
      subst e
      exact ⟨nd', hx, nv, rfl⟩
theorem liveK_mem {t : TM} (o : OkM t) (np : NP t) {k : Ky} : k ∈ liveK t ↔ getM t k ≠ .non := by
  unfold liveK
  rw [List.mem_append, ← eldK_all]
  unfold heldI
  rw [mem_firsts, mem_firsts]
  constructor
  · rintro (⟨i, hi, e⟩ | ⟨i, hi, e⟩)
    · obtain ⟨v, e1, nv, rfl⟩ := heldF_some e
      have : gI t ((i : Int) + 1) = t.places[i] := gI_pl hi
      show gI t _ ≠ _
      rw [this]
      rw [List.getElem?_eq_getElem hi] at e1
      rw [Option.some.inj e1]
      exact nv
    · obtain ⟨nd, a, nv, rfl⟩ := eldK_some e
      rw [getM_ndM (np i nd a), ndM_at o.wf a]
      exact nv
  · intro h
    cases hk : isPl t k with
    | true =>
      obtain ⟨m, rfl⟩ := isPl_i hk
      obtain ⟨m1, m2, y, hy, hg⟩ := getM_pl hk
      left
      refine ⟨(m - 1).toNat, by omega, ?_⟩
      unfold heldF
      rw [hy]
      show (if y = .non then none else some (Ky.i _)) = _
      rw [hg] at h
      rw [if_neg h]
      congr 2
      omega
    | false =>
      right
      rw [getM_ndM hk] at h
      obtain ⟨i, nd, a, hq, hv⟩ := ndM_some h
      refine ⟨i, a.lt, ?_⟩
      unfold eldK
      rw [show t.nodes[i]? = _ from a]
      show (eldP (some nd)).map (·.key) = _
      unfold eldP
      simp only
      rw [if_neg (by rw [hv]; exact h)]
      exact congrArg some hq
theorem liveK_nodup {t : TM} (o : OkM t) (np : NP t) : (liveK t).Nodup := by
  unfold liveK
  rw [List.nodup_append, ← eldK_all]
  refine ⟨nodup_firsts (fun i j k e1 e2 => ?_) _, nodup_firsts (fun i j k e1 e2 => ?_) _, fun a ha b hb e => ?_⟩
  · obtain ⟨v, _, _, q1⟩ := heldF_some e1
    obtain ⟨u, _, _, q2⟩ := heldF_some e2
    rw [q1] at q2
    injection q2 with q2
    omega
  · obtain ⟨x, a, _, q1⟩ := eldK_some e1
    obtain ⟨y, b, _, q2⟩ := eldK_some e2
    exact o.wf.keys i j x y a b (q1.trans q2.symm)
  · obtain ⟨i, hi, e1⟩ := mem_firsts.mp ha
    obtain ⟨j, hj, e2⟩ := mem_firsts.mp hb
    obtain ⟨v, _, _, q1⟩ := heldF_some e1
    obtain ⟨y, c, _, q2⟩ := eldK_some e2
    have := np j y c
    rw [q2, ← e, q1] at this
    have this : ¬ _ := of_decide_eq_false this
    exact this ⟨by omega, by omega⟩
/-! ## tables without dead nodes, and the keys that they have -/
structure Rg (t : TM) (ks : List Ky) : Prop where
  ok : OkM t
  np : NP t
  al : AL t
  nd : ks.Nodup
  iff : ∀ k, getM t k ≠ .non ↔ k ∈ ks
def outN (p : Nat) (ks : List Ky) : Nat := ks.countP fun k => !inK p k
theorem Rg.cnt {t : TM} {ks : List Ky} (r : Rg t ks) (f : Ky → Bool) : (liveK t).countP f = ks.countP f :=
  countP_same (liveK_nodup r.ok r.np) r.nd (fun a => (liveK_mem r.ok r.np).trans (r.iff a)) f
theorem Rg.cnt1 {t : TM} {ks : List Ky} (r : Rg t ks) (k : Ky) (f : Ky → Bool) : (keysK t k).countP f = (ks ++ [k]).countP f := by
  rw [keysK_eq, List.countP_append, List.countP_append, r.cnt f]
theorem countT {α : Type} : ∀ xs : List α, xs.countP (fun _ => true) = xs.length
  | [] => rfl
  | x :: xs => by rw [List.countP_cons, countT xs]; rfl
theorem Rg.len {t : TM} {ks : List Ky} (r : Rg t ks) : live t = ks.length := by
  have h := r.cnt fun _ => true
  rw [countT, countT] at h
  have := keysK_len t (.b true)
  rw [keysK_eq, List.length_append, h] at this
  simp at this
  omega
theorem Rg.occ_ {t : TM} {ks : List Ky} (r : Rg t ks) : occ t.nodes = outN t.places.length ks := by
  unfold outN
  rw [← r.cnt]
  unfold liveK
  rw [List.countP_append]
  have h1 : (heldI t.places).countP (fun k => !inK t.places.length k) = 0 := by
    rw [List.countP_eq_zero]
    intro a ha
    obtain ⟨i, hi, e⟩ := mem_firsts.mp ha
    obtain ⟨v, _, _, q⟩ := heldF_some e
    have : inK t.places.length a = true := by rw [q]; exact decide_eq_true ⟨by omega, by omega⟩
    rw [this]
    simp
  have h2 : ((elders t.nodes).map (·.key)).countP (fun k => !inK t.places.length k) = (elders t.nodes).length := by
    rw [List.countP_map, List.countP_eq_length]
    intro a ha
    obtain ⟨⟨i, hi⟩, _⟩ := elders_val ha
    have := r.np i a hi
    rw [isPl_in] at this
    show (!inK t.places.length a.key) = true
    rw [this]
    rfl
  rw [h1, h2, elders_len, Nat.zero_add]
  unfold occ liveC
  refine List.countP_congr fun o ho => ?_
  cases o with
  | none => exact ⟨fun z => (by cases z), fun z => (by cases z)⟩
  | some nd =>
    obtain ⟨i, hi⟩ := List.mem_iff_getElem?.mp ho
    have := r.al i nd hi
    simp [liveP, this]
theorem ins_none {n : Nat} {ns : Ns Ky V} {free : Nat} {k : Ky} {v : V} (al : ∀ i nd, At ns i nd → nd.val ≠ .non) (ho : occ ns = ns.length) : ins (mpK n) .non ns free k v = none := by
  have fl : ∀ i, ns[i]? ≠ some none := fun i h => by
    unfold occ at ho
    rw [List.countP_eq_length] at ho
    have := ho none (List.mem_of_getElem? h)
    cases this
  cases e : ns[mpK n k]? with
  | none => unfold ins; rw [e]
  | some o =>
    cases o with
    | none => exact absurd e (fl _)
    | some nd =>
      cases d : down ns free with
      | none => exact ins_full e (al _ nd e) d
      | some f => exact absurd (down_some d).2.1 (fl f)
theorem Rg.full {t : TM} {ks : List Ky} {k : Ky} {v : V} (r : Rg t ks) (hk : k ∉ ks) (nv : v ≠ .non) (hp : isPl t k = false) (ho : ¬ occ t.nodes < t.nodes.length) : put0 t k v = none := by
  have e : look t.nodes k = none := look_no fun i nd a hq => by
    refine hk ((r.iff k).mp ?_)
    rw [getM_ndM hp, ← hq, ndM_at r.ok.wf a]
    exact r.al i nd a
  have h1 := occ_le t.nodes
  unfold put0
  rw [if_neg (by rw [hp]; exact Bool.false_ne_true), e]
  simp only [if_neg nv, ins_none r.al (by omega : occ t.nodes = t.nodes.length)]
def rmN (P N : Nat) (ks : List Ky) (k : Ky) : Nat × Nat := if inK P k = true ∨ outN P ks < N then (P, N) else (pfM (ks ++ [k]), sz (outN (pfM (ks ++ [k])) (ks ++ [k])))
theorem pfU_congr {ks ls : List Ky} (h : ∀ f : Ky → Bool, ks.countP f = ls.countP f) : ∀ j, pfU ks j = pfU ls j
  | 0 => rfl
  | j + 1 => by
    unfold pfU in2
    rw [h, pfU_congr h j]
theorem Rg.rebuild {t : TM} {ks : List Ky} {p n : Nat} (r : Rg t ks) (hp : p ≤ 4194304) (hn : sz n ≤ 4194304) (h : held (t.places.drop p) + cntE p (elders t.nodes) ≤ n) :
    Rg (rebuildM t p n) ks ∧ (rebuildM t p n).places.length = p ∧ (rebuildM t p n).nodes.length = sz n ∧ ∀ k, getM (rebuildM t p n) k = getM t k := by
  obtain ⟨b1, b2, b3⟩ := rebuild_get r.ok r.np hp hn h
  have x := rebuild_ok r.ok hp hn h
  exact ⟨⟨x.ok, b1, b2, r.nd, fun k => by rw [b3]; exact r.iff k⟩, x.np, x.nn, b3⟩
theorem Rg.put0_ {t t' : TM} {ks : List Ky} {k : Ky} {v : V} (r : Rg t ks) (hk : k ∉ ks) (s : k.sc = true) (nv : v ≠ .non) (e : put0 t k v = some t') : Rg t' (ks ++ [k]) ∧ t'.places.length = t.places.length ∧ t'.nodes.length = t.nodes.length := by
  have y := put0_ok r.ok s e
  refine ⟨⟨y.ok, put0_np r.ok s e r.np, put0_al r.ok s e r.al (.inl nv), nodup_snoc r.nd hk, fun l => ?_⟩, y.np, y.nn⟩
  rw [getM_put0 r.ok s e l, List.mem_append, List.mem_singleton]
  by_cases z : l = k
  · rw [if_pos z]
    exact ⟨fun _ => .inr z, fun _ => nv⟩
  · rw [if_neg z]
    exact ⟨fun q => .inl ((r.iff l).mp q), fun q => q.elim (fun q => (r.iff l).mpr q) (fun q => absurd q z)⟩
/-- a new key's put -/
theorem Rg.put {t : TM} {ks : List Ky} {k : Ky} {v : V} (r : Rg t ks) (hk : k ∉ ks) (s : k.sc = true) (nv : v ≠ .non) (hl : ks.length ≤ 1000000) :
    Rg (putM t k v) (ks ++ [k]) ∧ ((putM t k v).places.length, (putM t k v).nodes.length) = rmN t.places.length t.nodes.length ks k ∧ ∀ l, getM (putM t k v) l = if l = k then v else getM t l := by
  have hl' : live t ≤ 1000000 := by rw [r.len]; exact hl
  have g := (putM_get (v := v) r.ok r.np s hl').2
  have en : (keysK t k).length - (keysK t k).countP (inK (pfM (keysK t k))) = outN (pfM (ks ++ [k])) (ks ++ [k]) := by
    have e1 : pfM (keysK t k) = pfM (ks ++ [k]) := pfU_congr (r.cnt1 k) 32
    have h := countP_not (f := inK (pfM (ks ++ [k]))) (keysK t k)
    have h2 := r.cnt1 k fun k' => !inK (pfM (ks ++ [k])) k'
    unfold outN
    rw [e1, ← h2]
    omega
  by_cases c : inK t.places.length k = true ∨ outN t.places.length ks < t.nodes.length
  · have rm : isPl t k = true ∨ v = .non ∨ occ t.nodes < t.nodes.length := by
      rw [isPl_in, r.occ_]
      exact c.elim .inl (fun z => .inr (.inr z))
    obtain ⟨t', e⟩ := put0_room r.ok rm
    have y := r.put0_ hk s nv e
    have ep : putM t k v = t' := by unfold putM; rw [e]; rfl
    refine ⟨by rw [ep]; exact y.1, ?_, g⟩
    unfold rmN
    rw [if_pos c, ep, y.2.1, y.2.2]
  · have hp : isPl t k = false := by
      rw [isPl_in]
      cases z : inK t.places.length k with
      | true => exact absurd (.inl z) c
      | false => rfl
    have e0 := r.full hk nv hp (by rw [r.occ_]; exact fun z => c (.inr z))
    obtain ⟨g1, g2, g3, g4, t', e2, _⟩ := grow_ok (v := v) r.ok s hl'
    have hz := sz_le ((keysK t k).length - (keysK t k).countP (inK (pfM (keysK t k))))
    obtain ⟨b1, b2, b3, _⟩ := r.rebuild (p := pfM (keysK t k)) (n := (keysK t k).length - (keysK t k).countP (inK (pfM (keysK t k)))) (by omega) (by omega) g3
    have ep : putM t k v = t' := by
      unfold putM
      rw [e0]
      show gputM t k v = _
      unfold gputM
      rw [e2]
      rfl
    have b1 : Rg (growM t k) ks := b1
    have y := b1.put0_ hk s nv e2
    refine ⟨by rw [ep]; exact y.1, ?_, g⟩
    unfold rmN
    rw [if_neg c, ep, y.2.1, y.2.2]
    show ((rebuildM t _ _).places.length, (rebuildM t _ _).nodes.length) = _
    rw [b2, b3, en]
    have e1 : pfM (keysK t k) = pfM (ks ++ [k]) := pfU_congr (r.cnt1 k) 32
    rw [e1]
/-- a place's value taken away -/
theorem Rg.away {t : TM} {ks : List Ky} {k : Ky} (r : Rg t ks) (hp : isPl t k = true) (hl : ks.length ≤ 1000000) :
    Rg (putM t k .non) (ks.filter fun l => decide (l ≠ k)) ∧ (putM t k .non).places.length = t.places.length ∧ (putM t k .non).nodes.length = t.nodes.length ∧ ∀ l, getM (putM t k .non) l = if l = k then .non else getM t l := by
  have s : k.sc = true := by obtain ⟨m, rfl⟩ := isPl_i hp; rfl
  have g := (putM_get (v := .non) r.ok r.np s (by rw [r.len]; exact hl)).2
  obtain ⟨t', e⟩ := put0_room (v := .non) r.ok (.inl hp)
  have y := put0_ok r.ok s e
  have ep : putM t k .non = t' := by unfold putM; rw [e]; rfl
  refine ⟨?_, by rw [ep]; exact y.np, by rw [ep]; exact y.nn, g⟩
  refine ⟨by rw [ep]; exact y.ok, by rw [ep]; exact put0_np r.ok s e r.np, by rw [ep]; exact put0_al r.ok s e r.al (.inr (.inl hp)), r.nd.filter _, fun l => ?_⟩
  rw [g l, List.mem_filter]
  by_cases z : l = k
  · rw [if_pos z]
    simp [z]
  · rw [if_neg z]
    simp [z, r.iff l]
/-- a new table -/
theorem Rg.new (num mt : V) {p n : Nat} (hp : p ≤ 2097152) (hn : n ≤ 2097152) : Rg (newM num mt p n) [] := by
  have no : ∀ i nd, ¬ At (newM num mt p n).nodes i nd := fun i nd h => by
    have h : At (List.replicate (sz n) none) i nd := h
    unfold At at h
    rw [List.getElem?_replicate] at h
    split at h <;> cases h
  refine ⟨(newM_ok num mt hp hn).1, fun i nd a => absurd a (no i nd), fun i nd a => absurd a (no i nd), List.nodup_nil, fun k => ⟨fun h => absurd ?_ h, fun h => by cases h⟩⟩
  cases hk : isPl (newM num mt p n) k with
  | true =>
    obtain ⟨m, rfl⟩ := isPl_i hk
    obtain ⟨m1, m2, y, hy, hg⟩ := getM_pl hk
    rw [hg]
    have hy : (List.replicate p V.non)[(m - 1).toNat]? = some y := hy
    rw [List.getElem?_replicate] at hy
    split at hy
    · exact (Option.some.inj hy).symm
    · cases hy
  | false =>
    rw [getM_ndM hk]
    exact ndM_no fun i nd a _ => absurd a (no i nd)
/-- a row without holes has its end as its border -/
theorem border_row {t : TM} {n : Nat} (o : OkM t) (hn : n ≤ 4194304) (h : ∀ m : Int, getM t (.i m) ≠ .non ↔ 1 ≤ m ∧ m ≤ n) : borderM t = n := by
  obtain ⟨b0, b1, b2, b3⟩ := border_ok o
  have ht : topI = 9223372036854775807 := rfl
  have g : ∀ m, gI t m ≠ .non ↔ 1 ≤ m ∧ m ≤ (n : Int) := h
  have c2 : borderM t = 0 ∨ (1 ≤ borderM t ∧ borderM t ≤ n) := b2.imp id (fun z => (g _).mp z)
  have c3 : ¬ (1 ≤ borderM t + 1 ∧ borderM t + 1 ≤ n) := by
    rcases b3 with z | z
    · omega
    · exact fun y => (g _).mpr y z
  omega
/-! ## powers of two that are great enough -/
theorem sz_char {m j : Nat} (h : m ≤ 2 ^ j) (h2 : j = 0 ∨ 2 ^ (j - 1) < m) (h0 : 0 < m) : sz m = 2 ^ j := by
  unfold sz
  rw [if_neg (by omega)]
  congr 1
  have t1 := ib_le (m := (m : Int) - 1) (j := j) (by omega)
  have e := c2 j
  have a1 : Builtin.Int.intBits ((m : Int) - 1) ≤ j := t1.mpr (by rw [← e]; omega)
  rcases h2 with z | z
  · omega
  · by_cases z0 : j = 0
    · omega
    · have t2 := ib_le (m := (m : Int) - 1) (j := j - 1) (by omega)
      have e2 := c2 (j - 1)
      have a2 : ¬ Builtin.Int.intBits ((m : Int) - 1) ≤ j - 1 := fun q => by
        have := t2.mp q
        rw [← e2] at this
        omega
      omega
theorem sz_zero : sz 0 = 0 := rfl
theorem sz_pow (m : Nat) (h : 0 < m) : ∃ j, sz m = 2 ^ j ∧ m ≤ 2 ^ j ∧ (j = 0 ∨ 2 ^ (j - 1) < m) := by
  have hz := sz_ge m
  have hy := sz_le m
  refine ⟨Builtin.Int.intBits ((m : Int) - 1), by unfold sz; rw [if_neg (by omega)], ?_, ?_⟩
  · unfold sz at hz
    rw [if_neg (by omega)] at hz
    exact hz
  · by_cases q : Builtin.Int.intBits ((m : Int) - 1) = 0
    · exact .inl q
    · right
      unfold sz at hy
      rw [if_neg (by omega)] at hy
      have t2 := ib_le (m := (m : Int) - 1) (j := Builtin.Int.intBits ((m : Int) - 1) - 1) (by omega)
      have e2 := c2 (Builtin.Int.intBits ((m : Int) - 1) - 1)
      rcases Nat.lt_or_ge (2 ^ (Builtin.Int.intBits ((m : Int) - 1) - 1)) m with z | z
      · exact z
      · have := t2.mpr (by rw [← e2]; omega)
        omega
theorem sz_le_of {m n : Nat} (h : m ≤ n) (h2 : n ≤ sz m) : sz n = sz m := by
  by_cases z : m = 0
  · subst z
    rw [sz_zero] at h2
    rw [show n = 0 by omega]
  · obtain ⟨j, e, a, b⟩ := sz_pow m (by omega)
    rw [e] at h2 ⊢
    exact sz_char h2 (b.imp id (fun q => by omega)) (by omega)
theorem sz_sz (m : Nat) : sz (sz m) = sz m := sz_le_of (sz_ge m) (Nat.le_refl _)
end U
namespace U
open PySem L2 Tb
/-! ## a table that is a def's own, from heap to heap -/
def TN (C TC NC a : Addr) (H H' : Hp) (t : TM) : Prop := ∃ w, TabAt C TC NC H' a t w ∧ Same H H' ∧ ∀ b, w.own a b → H b = none
section
variable {C TC NC a : Addr} {H H1 H2 : Hp} {t t' : TM}
theorem TN.same (h : TN C TC NC a H H1 t) (e : Same H1 H2) : TN C TC NC a H H2 t := by
  obtain ⟨w, h1, h2, h3⟩ := h
  exact ⟨w, h1.same e, h2.trans e, h3⟩
theorem TN.to {w : Tv} (s : Same H H1) (o : ∀ b, w.own a b → H b = none) (x : TabTo C TC NC H1 H2 a w t') : TN C TC NC a H H2 t' := by
  obtain ⟨w2, b1, b2, b3⟩ := x
  refine ⟨w2, b1, fun b u e => b2 b u (fun z => by rw [o b z] at e; cases e) (s b u e), fun b z => ?_⟩
  rcases b3 b z with q | q
  · exact o b q
  · cases e : H b with
    | none => rfl
    | some u => rw [s b u e] at q; cases q
end
/-! ## how many places: a greatest power -/
theorem pfU_at {ks : List Ky} {j : Nat} (h : 2 * in2 ks j > 2 ^ j) : ∀ n, (∀ i, j < i → i < n → ¬ 2 * in2 ks i > 2 ^ i) → j < n → pfU ks n = 2 ^ j
  | 0, _, hj => absurd hj (Nat.not_lt_zero _)
  | n + 1, hn, hj => by
    unfold pfU
    by_cases e : n = j
    · subst e
      rw [if_pos h]
    · rw [if_neg (hn n (by omega) (by omega))]
      exact pfU_at h n (fun i a b => hn i a (by omega)) (by omega)
theorem pfU_zero {ks : List Ky} : ∀ n, (∀ i, i < n → ¬ 2 * in2 ks i > 2 ^ i) → pfU ks n = 0
  | 0, _ => rfl
  | n + 1, hn => by
    unfold pfU
    rw [if_neg (hn n (by omega))]
    exact pfU_zero n (fun i a => hn i (by omega))
theorem pfU_top {ks : List Ky} {n m : Nat} (h : ∀ i, n ≤ i → i < m → ¬ 2 * in2 ks i > 2 ^ i) (l : n ≤ m) : pfU ks m = pfU ks n := by
  induction m with
  | zero => rw [show n = 0 by omega]
  | succ m ih =>
    by_cases e : n = m + 1
    · rw [e]
    · rw [show pfU ks (m + 1) = pfU ks m by show (if _ then _ else _) = _; rw [if_neg (h m (by omega) (by omega))]]
      exact ih (fun i a b => h i a (by omega)) (by omega)
/-! ## rows: 1 to n -/
def rowK (n : Nat) : List Ky := (List.range n).map fun i : Nat => .i ((i : Int) + 1)
theorem rowK_succ (n : Nat) : rowK (n + 1) = rowK n ++ [.i ((n : Int) + 1)] := by unfold rowK; rw [List.range_succ, List.map_append]; rfl
theorem rowK_len (n : Nat) : (rowK n).length = n := by unfold rowK; simp
theorem rowK_mem {n : Nat} {m : Int} : Ky.i m ∈ rowK n ↔ 1 ≤ m ∧ m ≤ n := by
  unfold rowK
  rw [List.mem_map]
  constructor
  · rintro ⟨i, hi, e⟩
    have := List.mem_range.mp hi
    injection e with e
    omega
  · rintro ⟨h1, h2⟩
    exact ⟨(m - 1).toNat, List.mem_range.mpr (by omega), by congr 1; omega⟩
theorem inK_row {p n : Nat} : (rowK n).countP (inK p) = min n p := by
  induction n with
  | zero => simp [rowK]
  | succ n ih =>
    rw [rowK_succ, List.countP_append, ih, List.countP_cons, List.countP_nil]
    by_cases h : n + 1 ≤ p
    · have : inK p (.i ((n : Int) + 1)) = true := decide_eq_true (by omega)
      rw [this]
      simp
      omega
    · have : inK p (.i ((n : Int) + 1)) = false := decide_eq_false (by omega)
      rw [this]
      simp
      omega
theorem outN_row {p n : Nat} : outN p (rowK n) = n - p := by
  have h := countP_not (f := inK p) (rowK n)
  rw [inK_row, rowK_len] at h
  unfold outN
  omega
theorem pf_row {n : Nat} (h0 : 0 < n) (hn : n ≤ 1000000) : pfM (rowK n) = sz n := by
  obtain ⟨j, e, a, b⟩ := sz_pow n h0
  have hz := sz_le n
  rw [e] at hz ⊢
  have hj : j < 32 := by
    rcases Nat.lt_or_ge j 32 with q | q
    · exact q
    · have : 2 ^ 32 ≤ 2 ^ j := Nat.pow_le_pow_right (by decide) q
      have : (2 : Nat) ^ 32 = 4294967296 := rfl
      omega
  have p2 : j = 0 ∨ 2 ^ j = 2 * 2 ^ (j - 1) := by
    rcases Nat.eq_zero_or_pos j with z | z
    · exact .inl z
    · right
      rw [← Nat.pow_succ']
      congr 1
      omega
  refine pfU_at ?_ 32 (fun i h1 h2 => ?_) hj
  · unfold in2
    rw [inK_row]
    rcases b with z | z
    · subst z; simp; omega
    · rcases p2 with q | q
      · subst q; simp; omega
      · omega
  · unfold in2
    rw [inK_row]
    have : 2 ^ (j + 1) ≤ 2 ^ i := Nat.pow_le_pow_right (by decide) h1
    rw [Nat.pow_succ] at this
    omega
theorem rm_row {n : Nat} (hn : n + 1 ≤ 1000000) : rmN (sz n) 0 (rowK n) (.i ((n : Int) + 1)) = (sz (n + 1), 0) := by
  have hz := sz_ge n
  unfold rmN
  by_cases c : n + 1 ≤ sz n
  · rw [if_pos (.inl (decide_eq_true (by omega)))]
    rw [sz_le_of (m := n) (n := n + 1) (by omega) c]
  · rw [if_neg (fun z => z.elim (fun z => by have := of_decide_eq_true z; omega) (fun z => absurd z (Nat.not_lt_zero _)))]
    rw [← rowK_succ, pf_row (by omega) hn, outN_row, show n + 1 - sz (n + 1) = 0 by have := sz_ge (n + 1); omega]
    rfl
/-! ## keys that are no small integers -/
theorem pf_none {ks : List Ky} (h : ∀ p k, k ∈ ks → inK p k = false) : pfM ks = 0 := pfU_zero 32 fun i hi => by
  have : in2 ks i = 0 := by
    unfold in2
    rw [List.countP_eq_zero]
    intro k hk
    rw [h _ k hk]
    exact Bool.false_ne_true
  rw [this]
  exact Nat.not_lt_zero _
theorem outN_all {p : Nat} {ks : List Ky} (h : ∀ k, k ∈ ks → inK p k = false) : outN p ks = ks.length := by
  unfold outN
  rw [List.countP_eq_length]
  intro k hk
  rw [h k hk]
  rfl
theorem rm_out {ks : List Ky} {k : Ky} (h : ∀ p l, l ∈ ks ++ [k] → inK p l = false) : rmN 0 (sz ks.length) ks k = (0, sz (ks.length + 1)) := by
  have hz := sz_ge ks.length
  unfold rmN
  rw [outN_all (fun l hl => h _ l (List.mem_append_left _ hl)), pf_none h, outN_all (h 0), List.length_append]
  have hk : inK 0 k = false := h 0 k (by simp)
  by_cases c : ks.length < sz ks.length
  · rw [if_pos (.inr c), sz_le_of (m := ks.length) (n := ks.length + 1) (by omega) (by omega)]
  · rw [if_neg (fun z => z.elim (fun z => by rw [hk] at z; cases z) c)]
    rfl
/-! ## names -/
def numS (k : Int) : Str := toString k
def nameS (k : Nat) : Str := "n" ++ numS (k : Int)
theorem numS_len {k : Nat} (h : k < 10000) : (numS (k : Int)).length ≤ 10 := PySem.W.KT.len_num (by omega) (by omega)
theorem numS_inj {k l : Nat} (h : numS (k : Int) = numS (l : Int)) : k = l := by
  have e : (numS (k : Int)).cps.toList = (numS (l : Int)).cps.toList := by rw [h]
  have e1 : (numS (k : Int)).cps.toList = _ := PySem.W.KIN.signs_num k
  have e2 : (numS (l : Int)).cps.toList = _ := PySem.W.KIN.signs_num l
  rw [e1, e2] at e
  rw [← PySem.W.KIN.val_back k, ← PySem.W.KIN.val_back l, e]
theorem nameS_inj {k l : Nat} (h : nameS k = nameS l) : k = l := by
  have e : (nameS k).cps.toList = (nameS l).cps.toList := by rw [h]
  unfold nameS at e
  rw [PySem.W.KAf.app_list, PySem.W.KAf.app_list] at e
  refine numS_inj ?_
  have e3 := List.append_cancel_left e
  have : (numS (k : Int)).cps = (numS (l : Int)).cps := Array.toList_inj.mp e3
  cases hk : numS (k : Int) with
  | mk a => 
    cases hl : numS (l : Int) with
    | mk b => rw [hk, hl] at this; rw [show a = b from this]
theorem nameS_len {k : Nat} (h : k < 10000) : (nameS k).length ≤ 1000 := by
  unfold nameS
  rw [PySem.Str.length_append]
  have := numS_len h
  have : ("n" : Str).length = 1 := by decide
  omega
def nameL (n : Nat) : List V := (List.range n).map fun k => .str (nameS k)
def nameK (n : Nat) : List Ky := (List.range n).map fun k => .s (nameS k)
theorem nameK_succ (n : Nat) : nameK (n + 1) = nameK n ++ [.s (nameS n)] := by unfold nameK; rw [List.range_succ, List.map_append]; rfl
theorem nameK_len (n : Nat) : (nameK n).length = n := by unfold nameK; simp
theorem nameL_len (n : Nat) : (nameL n).length = n := by unfold nameL; simp
theorem nameL_get {n i : Nat} (h : i < n) : (nameL n)[i]? = some (.str (nameS i)) := by
  unfold nameL
  rw [List.getElem?_map, List.getElem?_range h]
  rfl
theorem nameK_mem {n : Nat} {k : Ky} : k ∈ nameK n ↔ ∃ i, i < n ∧ k = .s (nameS i) := by
  unfold nameK
  rw [List.mem_map]
  constructor
  · rintro ⟨i, hi, e⟩
    exact ⟨i, List.mem_range.mp hi, e.symm⟩
  · rintro ⟨i, hi, e⟩
    exact ⟨i, List.mem_range.mpr hi, e.symm⟩
theorem nameK_new (n : Nat) : Ky.s (nameS n) ∉ nameK n := fun h => by
  obtain ⟨i, hi, e⟩ := nameK_mem.mp h
  injection e with e
  have := nameS_inj e
  omega
theorem nameK_out {n p : Nat} {k : Ky} (h : k ∈ nameK n) : inK p k = false := by
  obtain ⟨i, _, e⟩ := nameK_mem.mp h
  rw [e]
  rfl
/-! ## every third integer -/
def thrK (n : Nat) : List Ky := (List.range n).map fun i : Nat => .i (3 * (i : Int) + 5)
theorem thrK_succ (n : Nat) : thrK (n + 1) = thrK n ++ [.i (3 * (n : Int) + 5)] := by unfold thrK; rw [List.range_succ, List.map_append]; rfl
theorem thrK_len (n : Nat) : (thrK n).length = n := by unfold thrK; simp
theorem thrK_new (n : Nat) : Ky.i (3 * (n : Int) + 5) ∉ thrK n := fun h => by
  unfold thrK at h
  obtain ⟨i, hi, e⟩ := List.mem_map.mp h
  have := List.mem_range.mp hi
  injection e with e
  omega
theorem inK_thr {p n : Nat} : (thrK n).countP (inK p) ≤ n ∧ (3 * (thrK n).countP (inK p) + 2 ≤ p ∨ (thrK n).countP (inK p) = 0) := by
  induction n with
  | zero => simp [thrK]
  | succ n ih =>
    rw [thrK_succ, List.countP_append, List.countP_cons, List.countP_nil]
    generalize (thrK n).countP (inK p) = z at ih
    by_cases h : 3 * n + 5 ≤ p
    · have : inK p (.i (3 * (n : Int) + 5)) = true := decide_eq_true (by omega)
      rw [this]
      simp only [if_true]
      omega
    · have : inK p (.i (3 * (n : Int) + 5)) = false := decide_eq_false (by omega)
      rw [this]
      simp only [Bool.false_eq_true, if_false]
      omega
theorem pf_thr (n : Nat) : pfM (thrK n) = 0 := pfU_zero 32 fun i hi => by
  have := inK_thr (p := 2 ^ i) (n := n)
  have h2 : 0 < 2 ^ i := Nat.pow_pos (by decide)
  unfold in2
  omega
theorem out0 (ks : List Ky) : outN 0 ks = ks.length := outN_all fun k _ => by
  cases k with
  | i n => exact decide_eq_false (by omega)
  | _ => rfl
theorem rm_thr (n : Nat) : rmN 0 (sz n) (thrK n) (.i (3 * (n : Int) + 5)) = (0, sz (n + 1)) := by
  have hz := sz_ge n
  unfold rmN
  rw [← thrK_succ, pf_thr, out0, out0, thrK_len, thrK_len]
  have hk : inK 0 (.i (3 * (n : Int) + 5)) = false := decide_eq_false (by omega)
  by_cases c : n < sz n
  · rw [if_pos (.inr c), sz_le_of (m := n) (n := n + 1) (by omega) (by omega)]
  · rw [if_neg (fun z => z.elim (fun z => by rw [hk] at z; cases z) c)]
/-! ## from above down -/
/-- n, n - 1, .. : c of them -/
def dnK (n c : Nat) : List Ky := (List.range c).map fun i : Nat => .i ((n : Int) - i)
theorem dnK_succ (n c : Nat) : dnK n (c + 1) = dnK n c ++ [.i ((n : Int) - c)] := by unfold dnK; rw [List.range_succ, List.map_append]; rfl
theorem dnK_len (n c : Nat) : (dnK n c).length = c := by unfold dnK; simp
theorem dnK_mem {n c : Nat} {m : Int} : Ky.i m ∈ dnK n c ↔ (n : Int) - c < m ∧ m ≤ n := by
  unfold dnK
  rw [List.mem_map]
  constructor
  · rintro ⟨i, hi, e⟩
    have := List.mem_range.mp hi
    injection e with e
    omega
  · rintro ⟨h1, h2⟩
    exact ⟨((n : Int) - m).toNat, List.mem_range.mpr (by omega), by congr 1; omega⟩
theorem inK_dn {p n c : Nat} (h : c ≤ n) : (((dnK n c).countP (inK p) : Nat) : Int) = max 0 (min (p : Int) n - ((n : Int) - c)) := by
  induction c with
  | zero => simp [dnK]; omega
  | succ c ih =>
    have ih := ih (by omega)
    rw [dnK_succ, List.countP_append, List.countP_cons, List.countP_nil]
    by_cases h : n - c ≤ p
    · have : inK p (.i ((n : Int) - c)) = true := decide_eq_true (by omega)
      rw [this]
      simp only [if_true]
      omega
    · have : inK p (.i ((n : Int) - c)) = false := decide_eq_false (by omega)
      rw [this]
      simp only [Bool.false_eq_true, if_false]
      omega
theorem outN_dn {p n c : Nat} (h : c ≤ n) : ((outN p (dnK n c) : Nat) : Int) = c - max 0 (min (p : Int) n - ((n : Int) - c)) := by
  have e := countP_not (f := inK p) (dnK n c)
  have q := inK_dn (p := p) h
  rw [dnK_len] at e
  unfold outN
  omega
/-- one step of the law's own reckoning -/
theorem pf_dn {n c j : Nat} (h : c ≤ n) : (2 * in2 (dnK n c) j > 2 ^ j) ↔ ((2 * (((2 : Int) ^ j) - ((n : Int) - c + 1) + 1) > 2 ^ j ∧ (n : Int) ≥ 2 ^ j) ∨ (¬ (2 * (((2 : Int) ^ j) - ((n : Int) - c + 1) + 1) > 2 ^ j ∧ (n : Int) ≥ 2 ^ j) ∧ 2 * (c : Int) > 2 ^ j ∧ (2 : Int) ^ j ≥ n)) := by
  have q := inK_dn (p := 2 ^ j) h
  have e := c2 j
  have p0 := tp j
  rw [e] at q
  have e2 : (2 * in2 (dnK n c) j > 2 ^ j) ↔ 2 * ((in2 (dnK n c) j : Nat) : Int) > 2 ^ j := by rw [← e]; omega
  rw [e2]
  unfold in2
  rw [q]
  omega
theorem pf_dn12 {n c : Nat} (h : c ≤ n) (hn : n ≤ 1000) : pfM (dnK n c) = pfU (dnK n c) 12 := pfU_top (m := 32) (fun i h1 h2 => by
  have q := inK_dn (p := 2 ^ i) h
  have : (2 : Nat) ^ 12 ≤ 2 ^ i := Nat.pow_le_pow_right (by decide) h1
  have e : (2 : Nat) ^ 12 = 4096 := rfl
  unfold in2
  omega) (by decide)
end U
namespace U
open PySem L2 Tb
/-! ## the law's own promises -/
def spPow : Sp := fun vs H Q _ => ∃ n : Nat, vs = [.int n] ∧ n ≤ 1000000 ∧ Q (.int (sz n)) H
theorem l_pow {H : Hp} {Q : VK} {E : XK} {n : Nat} (h : n ≤ 1000000) (q : Q (.int (sz n)) H) : spPow ([.int n] ++ []) H Q E := ⟨n, rfl, h, q⟩
def spOkN (lim : Nat) : Sp := fun vs H Q _ => ∃ n : Nat, vs = [.int n] ∧ 1 ≤ n ∧ n ≤ lim ∧ ∀ H', Same H H' → Q (.bl true) H'
theorem l_okN {lim : Nat} {H : Hp} {Q : VK} {E : XK} {n : Nat} (h1 : 1 ≤ n) (h : n ≤ lim) (q : ∀ H', Same H H' → Q (.bl true) H') : spOkN lim ([.int n] ++ []) H Q E := ⟨n, rfl, h1, h, q⟩
def spMade : Sp := fun vs H Q _ => ∃ p n m : Nat, vs = [.int p, .int n, .int m] ∧ p ≤ 30 ∧ n ≤ 12 ∧ m ≤ 300 ∧ ∀ H', Same H H' → Q (.bl true) H'
theorem l_made {H : Hp} {Q : VK} {E : XK} {p n m : Nat} (hp : p ≤ 30) (hn : n ≤ 12) (hm : m ≤ 300) (q : ∀ H', Same H H' → Q (.bl true) H') : spMade ([.int p, .int n, .int m] ++ []) H Q E := ⟨p, n, m, rfl, hp, hn, hm, q⟩
def spGone (C TC : Addr) : Sp := fun vs H Q _ => ∃ (m : Nat) (v : V) (k : Ky), vs = [.int m, v] ∧ 1 ≤ m ∧ m ≤ 5 ∧ (∀ H, KV C TC H v k) ∧ k.sc = true ∧ (∀ z, k = .i z → z < 1 ∨ 64 < z) ∧ ∀ H', Same H H' → Q (.bl true) H'
theorem l_gone {C TC : Addr} {H : Hp} {Q : VK} {E : XK} {m : Nat} {v : V} {k : Ky} (h1 : 1 ≤ m) (h2 : m ≤ 5) (hk : ∀ H, KV C TC H v k) (s : k.sc = true) (hz : ∀ z, k = .i z → z < 1 ∨ 64 < z) (q : ∀ H', Same H H' → Q (.bl true) H') : spGone C TC ([.int m, v] ++ []) H Q E := ⟨m, v, k, rfl, h1, h2, hk, s, hz, q⟩
def spNames : Sp := fun vs H Q _ => ∃ n : Nat, vs = [.int n] ∧ n ≤ 1100 ∧ ∀ p H', H p = none → Same H H' → H' p = some (.lst (nameL n)) → Q (.ref p) H'
theorem l_names {H : Hp} {Q : VK} {E : XK} {n : Nat} (h : n ≤ 1100) (q : ∀ p H', H p = none → Same H H' → H' p = some (.lst (nameL n)) → Q (.ref p) H') : spNames ([.int n] ++ []) H Q E := ⟨n, rfl, h, q⟩
def spRows (C TC NC : Addr) : Sp := fun vs H Q _ => ∃ (a : Addr) (t : TM) (w : Tv), vs = [.ref a] ∧ TabAt C TC NC H a t w ∧ t.nodes.length ≤ 4194304 ∧ ∀ p H' rs, H p = none → Same H H' → H' p = some (.lst rs) → rs.length = t.nodes.length → held rs = occ t.nodes → Q (.ref p) H'
theorem l_rows {C TC NC : Addr} {H : Hp} {Q : VK} {E : XK} {a : Addr} {t : TM} {w : Tv} (h : TabAt C TC NC H a t w) (hz : t.nodes.length ≤ 4194304) (q : ∀ p H' rs, H p = none → Same H H' → H' p = some (.lst rs) → rs.length = t.nodes.length → held rs = occ t.nodes → Q (.ref p) H') : spRows C TC NC (.ref a :: ([] ++ [])) H Q E := ⟨a, t, w, rfl, h, hz, q⟩
/-! ## small steps -/
theorem l_listRg {ta tb : TE} {σ : St} {H : Hp} {Q : VK} (h : ta σ H fun x H1 => tb σ H1 fun y H2 => ∃ i j, x = .int i ∧ y = .int j ∧ RgOk i j ∧ ∀ q, H2 q = none → Q (.ref q) (upd H2 q (.lst (rgV i j)))) : tLstRg (tRg2 ta tb) σ H Q := h
theorem l_iRng3 {ta : TA} {σ : St} {H : Hp} {R : It → Hp → Prop} (h : ta σ H fun vs H1 => ∃ (i j c : Int) (n : Nat), vs = [.int i, .int j, .int c] ∧ RgC i j c n ∧ R (Itc i c n) H1) : iRng3 ta σ H R := h
theorem lc_genG {J : It} {n : Nat} {G : Hp → Prop} {Y : Nat → Hp → V → Hp → Prop} (wk : Walk J n G Y) {g : TG} {te : TE} {vs : List Nat} {σ : St} {H1 : Hp} {Q : VK} (F : Nat → Option V) (hn : n < sizeLine)
    (hG : ∀ H, Same H1 H → G H)
    (step : ∀ i x H H' (R : VK) (R' : Hp → Prop), i < n → Same H1 H → Y i H x H' → (∀ y H3, Same H H3 → F i = some y → R y H3) → (∀ H3, Same H H3 → F i = none → R' H3) → g x (wipe σ vs) H' fun σ2 H2 => wipe σ2 vs = wipe σ vs ∧ tYes σ2 H2 fun b H3 => if b = true then te σ2 H3 R else R' H3)
    (hd : ∀ D H, H1 D = none → Same H1 H → H D = some (.lst (firsts F n)) → Q (.ref D) H) :
    LcG g te vs σ Q J H1 := lc_gen (tt := tYes) wk F hn hG step hd
theorem l_yesC {σ : St} {H : Hp} {A B : Hp → Prop} (h : A H) : tYes σ H (fun b H3 => if b = true then A H3 else B H3) := by
  show (if true = true then A H else B H)
  rw [if_pos rfl]
  exact h
theorem firsts_some {α : Type} (f : Nat → α) (n : Nat) : firsts (fun i => some (f i)) n = (List.range n).map f := by
  unfold firsts
  rw [List.filterMap_eq_map']
theorem rows_held {ns : Ns Ky V} {rs : List V} (hl : rs.length = ns.length) (h : ∀ (i : Nat) (y : V), rs[i]? = some y → (y = .non ↔ ns[i]? = some none)) : held rs = occ ns := by
  unfold held occ
  induction ns generalizing rs with
  | nil =>
    cases rs with
    | nil => rfl
    | cons r rs => cases hl
  | cons o ns ih =>
    cases rs with
    | nil => cases hl
    | cons r rs =>
      rw [List.countP_cons, List.countP_cons, ih (rs := rs) (by simpa using hl) (fun i y e => by
        have := h (i + 1) y (by rw [List.getElem?_cons_succ]; exact e)
        rw [List.getElem?_cons_succ] at this
        exact this)]
      have h0 := h 0 r rfl
      rw [List.getElem?_cons_zero] at h0
      cases o with
      | none =>
        have : r = .non := h0.mpr rfl
        simp [this]
      | some nd =>
        have : r ≠ .non := fun e => by have := h0.mp e; cases this
        simp [this]
def keptF (rs : List V) (i : Nat) : Option V := match rs[i]? with
  | some v => if v = .non then none else some v
  | none => none
theorem kept_len (rs : List V) : (firsts (keptF rs) rs.length).length = held rs := by
  have key : ∀ n, n ≤ rs.length → (firsts (keptF rs) n).length = held (rs.take n) := by
    intro n
    induction n with
    | zero => intro _; rfl
    | succ n ih =>
      intro hn
      rw [firsts_succ, List.length_append, ih (by omega), List.take_succ, List.getElem?_eq_getElem (by omega), held_append]
      have ef : keptF rs n = if rs[n] = .non then none else some rs[n] := by unfold keptF; rw [List.getElem?_eq_getElem (by omega)]
      rw [ef]
      by_cases e : rs[n] = .non
      · rw [if_pos e, e]; rfl
      · rw [if_neg e]; simp [held, e]
  have := key rs.length (Nat.le_refl _)
  rw [List.take_length] at this
  exact this
/-! ## lists of numbers and of nothing, compared -/
def toD : V → PyData
  | .int i => .int i
  | .non => .none
  | _ => .none
def isNV : V → Bool
  | .int _ => true
  | .non => true
  | _ => false
theorem dpAll {K : PySem.W.Frag} {H : Hp} : ∀ vs : List V, vs.all isNV = true → DpAll K H vs (vs.map toD)
  | [], _ => .nil
  | v :: vs, h => by
    rw [List.all_cons, Bool.and_eq_true] at h
    refine .cons ?_ (dpAll vs h.2)
    cases v with
    | int i => exact .int i
    | non => exact .non
    | _ => cases h.1
theorem dpL {K : PySem.W.Frag} {H : Hp} {p : Addr} {vs : List V} (h : H p = some (.lst vs)) (a : vs.all isNV = true) : Dp K H (.ref p) (.list (vs.map toD)) := .lst (SqL.of h) (dpAll vs a)
theorem eqv_toD : ∀ v : V, PyData.eqv (toD v) (toD v) = true := fun v => by cases v <;> simp [toD, PyData.eqv]
theorem eqvAll_refl : ∀ vs : List V, PyData.eqvAll (vs.map toD) (vs.map toD) = true
  | [] => by simp [PyData.eqvAll]
  | v :: vs => by
    rw [List.map_cons, PyData.eqvAll, eqv_toD, eqvAll_refl vs]
    rfl
end U
namespace U
open PySem L2 Tb
theorem flat_ok : ∀ vs : List V, PyData.canLayAll0 (vs.map toD) = true ∧ PyData.depthAll (vs.map toD) ≤ 1
  | [] => ⟨by simp [PyData.canLayAll0], by simp [PyData.depthAll]⟩
  | v :: vs => by
    have ih := flat_ok vs
    rw [List.map_cons]
    refine ⟨?_, ?_⟩
    · rw [PyData.canLayAll0, ih.1]
      cases v <;> simp [toD, PyData.canLay0]
    · rw [PyData.depthAll]
      have : PyData.depth (toD v) ≤ 1 := by cases v <;> simp [toD, PyData.depth]
      omega
theorem flat_shaped (vs : List V) : SeqAt.shaped (.list (vs.map toD)) = true := by
  have h := flat_ok vs
  unfold SeqAt.shaped
  rw [PyData.canLay0, h.1, PyData.depth]
  exact decide_eq_true (by omega)
/-- two lists of the same numbers and nothings are equal -/
theorem l_eqL {K : PySem.W.Frag} {H : Hp} {Q : VK} {p q : Addr} {vs : List V} (hp : H p = some (.lst vs)) (hq : H q = some (.lst vs)) (a : vs.all isNV = true) (k : Q (.bl true) H) : rEqD K (.ref p) (.ref q) H Q :=
  ⟨_, _, dpL hp a, dpL hq a, flat_shaped vs, flat_shaped vs, by
    have e : PyData.eqv (.list (vs.map toD)) (.list (vs.map toD)) = true := by rw [PyData.eqv]; exact eqvAll_refl vs
    rw [e]; exact k⟩
end U
namespace U
open PySem L2 Tb
/-! ## the least power of two, by doubling -/
def PowI (n f : Nat) : Prop := f = 0 ∨ (0 < n ∧ ∃ j, f = 2 ^ j ∧ (j = 0 ∨ 2 ^ (j - 1) < n))
theorem pow_step {n f : Nat} (h : PowI n f) (l : f < n) : ∃ f', max 1 (2 * f) = f' ∧ PowI n f' ∧ n - f' < n - f := by
  refine ⟨_, rfl, ?_, by omega⟩
  rcases h with h | ⟨h0, j, h1, h2⟩
  · subst h
    exact .inr ⟨by omega, 0, rfl, .inl rfl⟩
  · refine .inr ⟨h0, j + 1, ?_, .inr (by show 2 ^ j < n; omega)⟩
    have : 0 < 2 ^ j := Nat.pow_pos (by decide)
    rw [Nat.pow_succ]
    omega
theorem pow_end {n f : Nat} (h : PowI n f) (l : ¬ f < n) : f = sz n := by
  rcases h with h | ⟨h0, j, h1, h2⟩
  · subst h
    rw [show n = 0 by omega]
    rfl
  · rw [sz_char (by omega) h2 h0, h1]
/-! ## a table into which n keys were put, one by one -/
def TS (C TC NC a : Addr) (H H' : Hp) (key : Nat → Ky) (val : Nat → V) (n P N : Nat) : Prop := ∃ t, TN C TC NC a H H' t ∧ Rg t ((List.range n).map key) ∧ t.places.length = P ∧ t.nodes.length = N ∧ ∀ j, j < n → getM t (key j) = val j
section
variable {C TC NC a : Addr} {H H1 H2 : Hp} {key : Nat → Ky} {val : Nat → V} {n P N : Nat}
theorem TS.new {num mt : V} {p m : Nat} (h : TN C TC NC a H H1 (newM num mt p m)) (hp : p ≤ 2097152) (hm : m ≤ 2097152) : TS C TC NC a H H1 key val 0 p (sz m) :=
  ⟨_, h, Rg.new num mt hp hm, List.length_replicate .., List.length_replicate .., fun j hj => absurd hj (Nat.not_lt_zero _)⟩
theorem TS.same (h : TS C TC NC a H H1 key val n P N) (e : Same H1 H2) : TS C TC NC a H H2 key val n P N := by
  obtain ⟨t, h1, h2⟩ := h
  exact ⟨t, h1.same e, h2⟩
theorem TS.put {w : Tv} {t : TM} {k : Ky} {v : V} {P' N' : Nat} (s : Same H H1) (o : ∀ b, w.own a b → H b = none) (r : Rg t ((List.range n).map key)) (lp : t.places.length = P) (ln : t.nodes.length = N) (ge : ∀ j, j < n → getM t (key j) = val j)
    (x : TabTo C TC NC H1 H2 a w (putM t k v)) (ek : k = key n) (ev : v = val n) (hn : n ≤ 10000) (sc : k.sc = true) (nv : v ≠ .non) (inj : ∀ j, j < n → key j ≠ key n) (rm : rmN P N ((List.range n).map key) (key n) = (P', N')) : TS C TC NC a H H2 key val (n + 1) P' N' := by
  subst ek ev
  have nk : key n ∉ (List.range n).map key := fun z => by
    obtain ⟨j, hj, e⟩ := List.mem_map.mp z
    exact inj j (List.mem_range.mp hj) e
  obtain ⟨p1, p2, p3⟩ := r.put nk sc nv (by simp; omega)
  rw [lp, ln, rm] at p2
  refine ⟨_, TN.to s o x, ?_, congrArg Prod.fst p2, congrArg Prod.snd p2, fun j hj => ?_⟩
  · rw [List.range_succ, List.map_append]
    exact p1
  · rw [p3]
    by_cases z : j = n
    · rw [z, if_pos rfl]
    · rw [if_neg (inj j (by omega)), ge j (by omega)]
theorem Rg.no {t : TM} {k : Ky} (r : Rg t ((List.range n).map key)) (h : ∀ j, j < n → key j ≠ k) : getM t k = .non := Classical.byContradiction fun z => by
  obtain ⟨j, hj, e⟩ := List.mem_map.mp ((r.iff k).mp z)
  exact h j (List.mem_range.mp hj) e
end
theorem rm_same {P N : Nat} {ks : List Ky} {k : Ky} (h : inK P k = true ∨ outN P ks < N) : rmN P N ks k = (P, N) := if_pos h
/-- a row from 1 on, and no other small integers: its border -/
theorem row_bord {t : TM} {n : Nat} {f : Int → V} (o : OkM t) (hn : n ≤ 4194304) (hf : ∀ m, f m ≠ .non) (ge : ∀ m : Int, getM t (.i m) = if 1 ≤ m ∧ m ≤ n then f m else .non) : borderM t = n := border_row o hn fun m => by
  rw [ge]
  by_cases q : 1 ≤ m ∧ m ≤ n
  · rw [if_pos q]; simp [q, hf]
  · rw [if_neg q]; simp; omega
def rK (j : Nat) : Ky := .i ((j : Int) + 1)
theorem rK_inj {n : Nat} : ∀ j, j < n → rK j ≠ rK n := fun j hj e => by unfold rK at e; injection e with e; omega
theorem rK_get {t : TM} {n : Nat} {val : Nat → V} (r : Rg t ((List.range n).map rK)) (ge : ∀ j, j < n → getM t (rK j) = val j) (m : Int) : getM t (.i m) = if 1 ≤ m ∧ m ≤ n then val (m - 1).toNat else .non := by
  by_cases q : 1 ≤ m ∧ m ≤ n
  · rw [if_pos q]
    have := ge (m - 1).toNat (by omega)
    unfold rK at this
    rw [show ((((m - 1).toNat : Nat) : Int) + 1) = m by omega] at this
    exact this
  · rw [if_neg q]
    exact r.no fun j hj e => by unfold rK at e; injection e with e; omega
/-! ### names -/
def sK (j : Nat) : Ky := .s (nameS j)
theorem sK_inj {n : Nat} : ∀ j, j < n → sK j ≠ sK n := fun j hj e => by unfold sK at e; injection e with e; have := nameS_inj e; omega
theorem sK_rm (n : Nat) : rmN 0 (sz n) ((List.range n).map sK) (sK n) = (0, sz (n + 1)) := by
  have h := rm_out (ks := (List.range n).map sK) (k := sK n) (fun p l hl => by
    rcases List.mem_append.mp hl with q | q
    · obtain ⟨j, _, rfl⟩ := List.mem_map.mp q
      rfl
    · rw [List.mem_singleton.mp q]
      rfl)
  rw [List.length_map, List.length_range] at h
  exact h
theorem sK_bord {t : TM} {n : Nat} (r : Rg t ((List.range n).map sK)) : borderM t = 0 := border_row (n := 0) r.ok (by decide) fun m => by
  rw [r.no (fun j hj e => by cases e)]
  simp
  omega
/-! ### places and names -/
def mK (p : Nat) (j : Nat) : Ky := if j < p then .i ((j : Int) + 1) else .s (nameS (j - p))
def mV (p : Nat) (j : Nat) : V := if j < p then .int ((j : Int) + 1) else .str "v"
theorem mK_lo {p j : Nat} (h : j < p) : mK p j = .i ((j : Int) + 1) := if_pos h
theorem mK_hi {p j : Nat} (h : ¬ j < p) : mK p j = .s (nameS (j - p)) := if_neg h
theorem mK_inj {p n : Nat} : ∀ j, j < n → mK p j ≠ mK p n := fun j hj e => by
  unfold mK at e
  split at e <;> split at e
  · injection e with e; omega
  · cases e
  · cases e
  · injection e with e
    have := nameS_inj e
    omega
theorem mK_out (p : Nat) : ∀ i, outN p ((List.range (p + i)).map (mK p)) = i
  | 0 => by
    unfold outN
    rw [List.countP_eq_zero]
    intro k hk
    obtain ⟨j, hj, rfl⟩ := List.mem_map.mp hk
    have := List.mem_range.mp hj
    rw [mK_lo (by omega)]
    have : inK p (.i ((j : Int) + 1)) = true := decide_eq_true (by omega)
    rw [this]
    simp
  | i + 1 => by
    have e : p + (i + 1) = (p + i) + 1 := by omega
    rw [e, List.range_succ, List.map_append]
    unfold outN
    rw [List.countP_append]
    have ih := mK_out p i
    unfold outN at ih
    rw [ih, List.map_cons, List.map_nil, mK_hi (by omega)]
    rfl
theorem mK_get {t : TM} {p n : Nat} (r : Rg t ((List.range n).map (mK p))) (ge : ∀ j, j < n → getM t (mK p j) = mV p j) (m : Int) : getM t (.i m) = if 1 ≤ m ∧ m ≤ (min n p : Nat) then .int m else .non := by
  by_cases q : 1 ≤ m ∧ m ≤ (min n p : Nat)
  · rw [if_pos q]
    have := ge (m - 1).toNat (by omega)
    rw [mK_lo (by omega)] at this
    unfold mV at this
    rw [if_pos (by omega), show ((((m - 1).toNat : Nat) : Int) + 1) = m by omega] at this
    exact this
  · rw [if_neg q]
    refine r.no fun j hj e => ?_
    unfold mK at e
    split at e
    · injection e with e; omega
    · cases e
/-! ### every third -/
def tK (j : Nat) : Ky := .i (3 * (j : Int) + 5)
theorem tK_inj {n : Nat} : ∀ j, j < n → tK j ≠ tK n := fun j hj e => by unfold tK at e; injection e with e; omega
/-! ### from above down -/
def dK (n j : Nat) : Ky := .i ((n : Int) - j)
theorem dK_inj {n m : Nat} : ∀ j, j < m → dK n j ≠ dK n m := fun j hj e => by unfold dK at e; injection e with e; omega
end U
namespace U
open PySem L2 Tb
theorem l_neT {K : PySem.W.Frag} {H : Hp} {Q : VK} {p q : Addr} {a b c d : Int} (hp : H p = some (.tup [.int a, .int b])) (hq : H q = some (.tup [.int c, .int d])) (e1 : a = c) (e2 : b = d) (k : Q (.bl false) H) : rNeD K (.ref p) (.ref q) H Q := by
  subst e1 e2
  refine ⟨.tuple [.int a, .int b], .tuple [.int a, .int b], .tup (SqT.of hp) (.cons (.int _) (.cons (.int _) .nil)), .tup (SqT.of hq) (.cons (.int _) (.cons (.int _) .nil)), ?_, ?_, ?_⟩
  · rfl
  · rfl
  · have : PyData.eqv (.tuple [.int a, .int b]) (.tuple [.int a, .int b]) = true := by simp [PyData.eqv, PyData.eqvAll]
    rw [this]
    exact k
theorem l_eqT {K : PySem.W.Frag} {H : Hp} {Q : VK} {p q : Addr} {a b c d : Int} (hp : H p = some (.tup [.int a, .int b])) (hq : H q = some (.tup [.int c, .int d])) (e1 : a = c) (e2 : b = d) (k : Q (.bl true) H) : rEqD K (.ref p) (.ref q) H Q := by
  subst e1 e2
  refine ⟨.tuple [.int a, .int b], .tuple [.int a, .int b], .tup (SqT.of hp) (.cons (.int _) (.cons (.int _) .nil)), .tup (SqT.of hq) (.cons (.int _) (.cons (.int _) .nil)), ?_, ?_, ?_⟩
  · rfl
  · rfl
  · have : PyData.eqv (.tuple [.int a, .int b]) (.tuple [.int a, .int b]) = true := by simp [PyData.eqv, PyData.eqvAll]
    rw [this]
    exact k
theorem map_ext {α : Type} {f g : Nat → α} {n : Nat} (h : ∀ i, i < n → f i = g i) : (List.range n).map f = (List.range n).map g := List.map_congr_left fun i hi => h i (List.mem_range.mp hi)
theorem range2 {α : Type} (f : Nat → α) (n : Nat) : (List.range (n + 2)).map f = [f 0] ++ (List.range n).map (fun i => f (i + 1)) ++ [f (n + 1)] := by
  rw [List.range_succ, List.map_append, List.range_succ_eq_map, List.map_cons, List.map_map]
  rfl
theorem rowL {t : TM} {n : Nat} (ge : ∀ m : Int, getM t (.i m) = if 1 ≤ m ∧ m ≤ n then .int (-(((m - 1).toNat : Nat) + 1)) else .non) : (List.range (n + 2)).map (fun i : Nat => getM t (.i (i : Int))) = [V.non] ++ (List.range n).map (fun i : Nat => V.int (-(1 + (i : Int)))) ++ [V.non] := by
  rw [range2]
  rw [ge, ge, if_neg (by omega), if_neg (by omega)]
  congr 2
  refine map_ext fun i hi => ?_
  rw [ge, if_pos (by omega)]
  congr 2
  omega
theorem allNV (n : Nat) (f : Nat → Int) : ((List.range n).map fun i => V.int (f i)).all isNV = true := by
  rw [List.all_map, List.all_eq_true]
  intro i _
  rfl
end U
namespace U
open PySem L2 Tb
section
variable {C TC NC a : Addr} {H H1 H2 : Hp} {key : Nat → Ky} {val : Nat → V} {n P N : Nat} {t : TM} {w : Tv}
theorem TabAt.ownEx (h : TabAt C TC NC H a t w) {b : Addr} (o : w.own a b) : ∃ u, H b = some u := by
  rcases o with q | q | q | q
  · subst q; exact ⟨_, h.obj⟩
  · subst q; exact ⟨_, h.places⟩
  · subst q; exact ⟨_, h.nodes⟩
  · obtain ⟨i, hi⟩ := List.mem_iff_getElem?.mp q
    obtain ⟨nd, _, dx, kv, e, _⟩ := h.node i b hi
    exact ⟨_, e⟩
open Classical in
/-- what was made beside the table is kept, too -/
theorem TS.rebase (h : TS C TC NC a H H1 key val n P N) {b0 : Addr} (e : Same H1 H2) (hb : H1 b0 = none) : ∃ H3, Same H H3 ∧ Same H3 H2 ∧ TS C TC NC a H3 H2 key val n P N ∧ ∀ o, H2 b0 = some o → H3 b0 = some o := by
  obtain ⟨t, ⟨w, h1, h2, h3⟩, h4⟩ := h
  have no : ¬ w.own a b0 := fun z => by
    obtain ⟨u, hu⟩ := h1.ownEx z
    rw [hb] at hu
    cases hu
  refine ⟨fun b => if w.own a b then none else H2 b, fun b o z => ?_, fun b o z => ?_, ⟨t, ⟨w, h1.same e, fun b o z => ?_, fun b z => if_pos z⟩, h4⟩, fun o z => ?_⟩
  · have : ¬ w.own a b := fun y => by rw [h3 b y] at z; cases z
    show (if w.own a b then none else H2 b) = _
    rw [if_neg this]
    exact e _ _ (h2 _ _ z)
  · have z : (if w.own a b then none else H2 b) = some o := z
    split at z
    · cases z
    · exact z
  · have z : (if w.own a b then none else H2 b) = some o := z
    split at z
    · cases z
    · exact z
  · show (if w.own a b0 then none else H2 b0) = _
    rw [if_neg no]
    exact z
/-! ## values taken away -/
def GI (C TC NC a : Addr) (H H' : Hp) (M i : Nat) : Prop := ∃ t ks, TN C TC NC a H H' t ∧ Rg t ks ∧ (∀ l, l ∈ ks ↔ ∃ z : Int, l = .i z ∧ (z = 1 ∨ ((i : Int) + 2 ≤ z ∧ z ≤ M))) ∧ t.places.length = M ∧ t.nodes.length = 0 ∧ ks.length ≤ 100 ∧ getM t (.i 1) = .int 1
theorem GI.same {M i : Nat} (h : GI C TC NC a H H1 M i) (e : Same H1 H2) : GI C TC NC a H H2 M i := by
  obtain ⟨t, ks, h1, h2⟩ := h
  exact ⟨t, ks, h1.same e, h2⟩
theorem GI.start {M : Nat} (hM : 1 ≤ M) (hM2 : M ≤ 100) (h : TS C TC NC a H H1 rK (fun j => .int ((j : Int) + 1)) M M 0) : GI C TC NC a H H1 M 0 := by
  obtain ⟨t, h1, h2, h3, h4, h5⟩ := h
  refine ⟨t, _, h1, h2, fun l => ?_, h3, h4, by simp; omega, h5 0 (by omega)⟩
  rw [List.mem_map]
  constructor
  · rintro ⟨j, hj, rfl⟩
    have := List.mem_range.mp hj
    exact ⟨_, rfl, by omega⟩
  · rintro ⟨z, rfl, hz⟩
    refine ⟨(z - 1).toNat, List.mem_range.mpr (by omega), ?_⟩
    unfold rK
    congr 1
    omega
theorem GI.put {M i : Nat} {ks : List Ky} (s : Same H H1) (o : ∀ b, w.own a b → H b = none) (r : Rg t ks) (hk : ∀ l, l ∈ ks ↔ ∃ z : Int, l = .i z ∧ (z = 1 ∨ ((i : Int) + 2 ≤ z ∧ z ≤ M))) (lp : t.places.length = M) (ln : t.nodes.length = 0) (ll : ks.length ≤ 100) (g1 : getM t (.i 1) = .int 1)
    (hi : i + 2 ≤ M) (x : TabTo C TC NC H1 H2 a w (putM t (.i ((i : Int) + 2)) .non)) : GI C TC NC a H H2 M (i + 1) := by
  have hp : isPl t (.i ((i : Int) + 2)) = true := decide_eq_true (by omega)
  obtain ⟨p1, p2, p3, p4⟩ := r.away hp (by omega)
  refine ⟨_, _, TN.to s o x, p1, fun l => ?_, p2.trans lp, p3.trans ln, Nat.le_trans (List.length_filter_le ..) ll, ?_⟩
  · rw [List.mem_filter, hk]
    constructor
    · rintro ⟨⟨z, rfl, hz⟩, ne⟩
      have ne := of_decide_eq_true ne
      have : z ≠ (i : Int) + 2 := fun e => ne (by rw [e])
      exact ⟨z, rfl, by omega⟩
    · rintro ⟨z, rfl, hz⟩
      refine ⟨⟨z, rfl, by omega⟩, decide_eq_true fun e => ?_⟩
      injection e with e
      omega
  · rw [p4, if_neg (fun e => by injection e with e; omega), g1]
def oK (k : Ky) (j : Nat) : Ky := if j = 0 then .i 1 else k
def oW (j : Nat) : V := if j = 0 then .int 1 else .int 5
theorem GI.done {M i : Nat} (k : Ky) (h : GI C TC NC a H H1 M i) (hi : M ≤ i + 1) : TS C TC NC a H H1 (oK k) oW 1 M 0 := by
  obtain ⟨t, ks, h1, r, hk, lp, ln, _, g1⟩ := h
  refine ⟨t, h1, ⟨r.ok, r.np, r.al, by simp, fun l => (r.iff l).trans ((hk l).trans ?_)⟩, lp, ln, fun j hj => ?_⟩
  · show _ ↔ l ∈ [oK k 0]
    rw [List.mem_singleton]
    constructor
    · rintro ⟨z, rfl, hz⟩
      show Ky.i z = .i 1
      congr 1
      omega
    · intro e
      exact ⟨1, e, .inl rfl⟩
  · rw [show j = 0 by omega]
    exact g1
theorem oK_bord {k : Ky} (r : Rg t ((List.range 1).map (oK k))) : borderM t = 1 := border_row (n := 1) r.ok (by decide) fun m => by
  rw [r.iff]
  show Ky.i m ∈ [oK k 0] ↔ _
  rw [List.mem_singleton]
  constructor
  · intro e
    have e : Ky.i m = .i 1 := e
    injection e with e
    omega
  · intro e
    show Ky.i m = .i 1
    congr 1
    omega
theorem oK_rm {M : Nat} {k : Ky} (hM : M ≤ 32) (hz : ∀ z, k = .i z → z < 1 ∨ 64 < z) : rmN M 0 ((List.range 1).map (oK k)) (oK k 1) = (1, 1) := by
  have ik : ∀ p, p ≤ 64 → inK p k = false := fun p hp => by
    cases k with
    | i z =>
      have := hz z rfl
      exact decide_eq_false (by omega)
    | _ => rfl
  have i1 : ∀ p, 1 ≤ p → inK p (.i 1) = true := fun p hp => decide_eq_true (by omega)
  show rmN M 0 [.i 1] k = (1, 1)
  unfold rmN
  rw [if_neg (fun z => z.elim (fun z => by rw [ik M (by omega)] at z; cases z) (fun z => absurd z (Nat.not_lt_zero _)))]
  have pf : pfM ([.i 1] ++ [k]) = 1 := by
    have := pfU_at (ks := [.i 1] ++ [k]) (j := 0) (by
      unfold in2
      show 2 * List.countP (inK 1) [.i 1, k] > 1
      rw [List.countP_cons, i1 1 (by decide)]
      simp
      omega) 32 (fun i h1 h2 => by
        unfold in2
        have h3 : List.countP (inK (2 ^ i)) [.i 1, k] ≤ 2 := List.countP_le_length
        by_cases e : i = 1
        · subst e
          show ¬ 2 * List.countP (inK 2) [.i 1, k] > 2
          rw [List.countP_cons, List.countP_cons, List.countP_nil, i1 2 (by decide), ik 2 (by decide)]
          decide
        · have h4 : 2 ^ 2 ≤ 2 ^ i := Nat.pow_le_pow_right (by decide) (by omega)
          have h3 : List.countP (inK (2 ^ i)) ([.i 1] ++ [k]) ≤ 2 := h3
          omega) (by decide)
    exact this
  rw [pf]
  have on : outN 1 ([.i 1] ++ [k]) = 1 := by
    unfold outN
    show List.countP (fun k => !inK 1 k) [.i 1, k] = 1
    rw [List.countP_cons, List.countP_cons, List.countP_nil, i1 1 (by decide), ik 1 (by decide)]
    decide
  rw [on, sz_char (j := 0) (by decide) (.inl rfl) (by decide)]
theorem oK_inj {k : Ky} (hz : ∀ z, k = .i z → z < 1 ∨ 64 < z) : ∀ j, j < 1 → oK k j ≠ oK k 1 := fun j hj e => by
  rw [show j = 0 by omega] at e
  have e : Ky.i 1 = k := e
  have := hz 1 e.symm
  omega
theorem oK_bord2 {k : Ky} (hz : ∀ z, k = .i z → z < 1 ∨ 64 < z) (r : Rg t ((List.range 2).map (oK k))) (lp : t.places.length = 1) (g1 : getM t (.i 1) = .int 1) : borderM t = 1 := by
  have e0 : t.places[0]? = some (.int 1) := by
    have h := gI_pl (t := t) (i := 0) (by omega)
    have h : getM t (.i 1) = t.places[0] := h
    rw [g1] at h
    rw [List.getElem?_eq_getElem (by omega), h]
  have h2 : gI t ((t.places.length : Int) + 1) = .non := by
    rw [lp]
    show getM t (.i 2) = .non
    refine r.no fun j hj e => ?_
    unfold oK at e
    split at e
    · injection e with e; omega
    · have := hz 2 e; omega
  have h3 : ¬ (0 < t.places.length ∧ t.places[t.places.length - 1]? = some .non) := fun z => by
    have z := z.2
    rw [lp] at z
    have z : t.places[0]? = some V.non := z
    rw [e0] at z
    cases z
  unfold borderM
  rw [if_neg h3, if_pos (.inr h2)]
  omega
end
/-! ## from above down -/
theorem dK_get {n i : Nat} {t : TM} (hi : i ≤ n) (r : Rg t ((List.range i).map (dK n))) (ge : ∀ j, j < i → getM t (dK n j) = .int ((n : Int) - j)) (m : Int) (h1 : (n : Int) - i < m) (h2 : m ≤ n) : getM t (.i m) = .int m := by
  have := ge ((n : Int) - m).toNat (by omega)
  unfold dK at this
  rw [show (n : Int) - (((n : Int) - m).toNat : Nat) = m by omega] at this
  exact this
/-- the law's own word for the next room is right -/
theorem rm_dn {n i P N : Nat} (hi : i < n) (hn : n ≤ 1000) : rmN P N (dnK n i) (.i ((n : Int) - i)) = if ((n : Int) - i > P ∧ (i : Int) + 1 > N + max 0 (min (P : Int) n - ((n : Int) - i))) then (pfU (dnK n (i + 1)) 12, sz (((i : Int) + 1 - max 0 (min ((pfU (dnK n (i + 1)) 12 : Nat) : Int) n - ((n : Int) - i) + 1)).toNat)) else (P, N) := by
  unfold rmN
  rw [← dnK_succ, pf_dn12 (by omega) hn]
  have o1 := outN_dn (p := P) (n := n) (c := i) (by omega)
  have o2 := outN_dn (p := pfU (dnK n (i + 1)) 12) (n := n) (c := i + 1) (by omega)
  have ik : inK P (.i ((n : Int) - i)) = true ↔ (n : Int) - i ≤ P := by
    show decide _ = true ↔ _
    rw [decide_eq_true_iff]
    omega
  by_cases c : inK P (.i ((n : Int) - i)) = true ∨ outN P (dnK n i) < N
  · rw [if_pos c, if_neg]
    rw [ik] at c
    intro z
    omega
  · rw [if_neg c]
    rw [ik] at c
    rw [if_pos (by omega)]
    congr 2
    omega
/-! ## room made -/
theorem l_mkR {C TC NC : Addr} {H : Hp} {Q : VK} {E : XK} {a : Addr} {p : Nat} {t : TM} {w : Tv} (h : TabOk C TC NC H a t w) (hp : p ≤ 2097152) (hn : t.nodes.length ≤ 2097152) (q : ∀ H', TabTo C TC NC H H' a w (roomM t p) → Q .non H') : spMkR C TC NC (.ref a :: ([.int p] ++ [])) H Q E := ⟨a, p, t, w, rfl, h, hp, hn, q⟩
theorem Rg.room {t : TM} {ks : List Ky} {p n : Nat} (r : Rg t ks) (hp : p ≤ 2097152) (hn : n ≤ 1000) (ln : t.nodes.length = sz n) : Rg (roomM t p) ks ∧ (roomM t p).places.length = max t.places.length p ∧ (roomM t p).nodes.length = sz n ∧ ∀ k, getM (roomM t p) k = getM t k := by
  have hz := sz_le n
  unfold roomM
  by_cases c : t.places.length < p
  · rw [if_pos c]
    obtain ⟨b1, b2, b3, b4⟩ := r.rebuild (p := p) (n := t.nodes.length) (by omega) (by rw [ln, sz_sz]; omega) (room_reb c)
    exact ⟨b1, by rw [b2]; omega, by rw [b3, ln, sz_sz], b4⟩
  · rw [if_neg c]
    exact ⟨r, by omega, ln, fun _ => rfl⟩
theorem rgL {f : Nat → V} {n : Nat} {b : Int} (hb : b = (n : Int) + 1) (h : ∀ i, i < n → f i = .int (1 + (i : Int))) : (List.range n).map f = rgV 1 b := by
  unfold rgV
  rw [show (b - 1).toNat = n by omega]
  exact map_ext h
theorem rgNV (a b : Int) : (rgV a b).all isNV = true := allNV _ fun i => a + (i : Int)
theorem firsts_none {α : Type} : ∀ n, firsts (fun _ => (none : Option α)) n = []
  | 0 => rfl
  | n + 1 => by rw [firsts_succ, firsts_none n]; rfl
theorem l_powI {H : Hp} {Q : VK} {E : XK} {z : Int} {n : Nat} (e : z = n) (h : n ≤ 1000000) (q : Q (.int (sz n)) H) : spPow ([.int z] ++ []) H Q E := by
  subst e
  exact l_pow h q
end U
open PySem L2 U

/-! what solves the small questions -/
local macro_rules | `(tactic| walk_at "side") => `(tactic| first
  | with_reducible assumption
  | omega
  | decide
  | (refine And.intro ?_ ?_ <;> first | omega | decide)
  | (refine Or.inl (And.intro ?_ ?_) <;> first | omega | decide)
  | (refine Or.inr (And.intro ?_ ?_) <;> first | omega | decide)
  | fail)
local macro_rules | `(tactic| walk_at "ki") => `(tactic| first
  | with_reducible assumption
  | (with_reducible first
    | exact U.FloC.kF (by with_reducible assumption)
    | exact U.FloC.kI (by with_reducible assumption)
    | exact U.FloC.kB (by with_reducible assumption)
    | exact U.FloC.kS (by with_reducible assumption)
    | exact U.FloC.jI (by with_reducible assumption)
    | exact U.FloC.jB (by with_reducible assumption)
    | exact U.FloC.jS (by with_reducible assumption)
    | exact U.FloC.jN (by with_reducible assumption)
    | exact U.FloC.jL (by with_reducible assumption)
    | exact U.FloC.jT (by with_reducible assumption)
    | exact U.FloC.jD (by with_reducible assumption))
  | exact kit_ty (by decide +kernel)
  | fail)
local macro_rules | `(tactic| walk_at "st") => `(tactic| first
  | (with_reducible first
    | refine U.l_seq ?_
    | refine U.l_var rfl ?_
    | refine U.l_c ?_
    | refine U.l_op ?_
    | refine U.l_I0 ?_
    | refine U.l_set ?_
    | refine U.l_cons ?_
    | refine U.l_nil ?_
    | refine U.l_call ?_
    | refine U.l_if ?_
    | refine U.l_test ?_
    | refine U.l_tB ?_
    | refine U.l_bl ?_
    | refine U.l_eq rfl ?_
    | refine U.l_ne rfl ?_
    | (refine U.l_eq ?_ ?_; with_reducible assumption)
    | (refine U.l_ne ?_ ?_; with_reducible assumption)
    | refine U.iteVI (fun _ => ?_) (fun _ => ?_)
    | refine U.iteVS (fun _ => ?_) (fun _ => ?_)
    | refine U.iteVIS ?_
    | refine U.iteVSI ?_
    | refine U.iteVIN (fun _ => ?_) (fun _ => ?_)
    | refine U.iteNF ?_
    | refine U.iteNT ?_
    | refine iteT ?_
    | refine iteF ?_
    | refine U.iteD (fun _ => ?_) (fun _ => ?_)
    | refine U.iteN (fun _ => ?_) (fun _ => ?_)
    | refine U.l_ret ?_
    | refine U.l_next ?_
    | refine U.l_un ?_
    | refine U.l_U ?_
    | refine U.l_bits ?_
    | refine U.l_int ?_
    | refine U.l_tup ?_
    | refine U.l_lst ?_
    | refine U.l_and ?_
    | refine U.l_or ?_
    | refine U.l_not ?_
    | refine U.l_andV ?_
    | refine U.l_orV ?_
    | refine U.l_notV ?_
    | refine U.l_ifE ?_
    | refine U.l_chain ?_
    | refine U.l_cb ?_
    | refine U.l_asg ?_
    | refine U.l_par ?_
    | refine U.l_par2 ?_
    | refine U.l_gname ?_
    | refine U.l_gnil ?_
    | refine U.l_gcons ?_
    | refine U.l_drop ?_
    | refine U.l_retN ?_
    | refine U.iteB (fun _ => ?_) (fun _ => ?_)
    | refine U.iteNB (fun _ => ?_) (fun _ => ?_)
    | refine U.l_mko ?_
    | refine U.l_fld ?_
    | refine U.l_sfld ?_
    | refine U.l_arS ?_)
  | ((with_reducible refine U.l_sg ?_); (with_reducible first
    | refine U.l_sg0 ?_ | refine U.l_sg1 ?_ | refine U.l_sg2 ?_ | refine U.l_sg3 ?_ | refine U.l_sg4 ?_ | refine U.l_sg5 ?_ | refine U.l_sg6 ?_ | refine U.l_sg7 ?_ | refine U.l_sg8 ?_ | refine U.l_sg9 ?_ | refine U.l_sg10 ?_ | refine U.l_sg11 ?_ | refine U.l_sg12 ?_ | refine U.l_sg13 ?_))
  | ((with_reducible refine U.l_newT ?_ ?_); (exact Nat.le_of_ble_eq_true rfl); intro p H2 hn hs hp)
  | ((with_reducible refine U.l_newL ?_ ?_); (exact Nat.le_of_ble_eq_true rfl); intro p H2 hn hs hp)
  | ((with_reducible refine' U.l_fS ?fc ?fl ?q); (case fc => with_reducible assumption); (case fl => walk_at "flt"))
  | ((with_reducible refine' U.l_fT ?fc ?fl ?q); (case fc => with_reducible assumption); (case fl => walk_at "flt"))
  | ((with_reducible refine' U.l_fP ?fc ?fl ?q); (case fc => with_reducible assumption); (case fl => walk_at "flt"))
  | ((with_reducible refine' U.l_isiC ?ty ?ki ?q); (case ty => walk_at "ty"); (case ki => walk_at "ki"))
  | ((with_reducible refine' U.l_gtup ?hq ?hl ?q); (case hq => walk_at "sq"); (case hl => rfl))
  | ((with_reducible refine' U.l_inT ?hl ?hx ?hf ?q); (case hl => walk_at "sq"); (case hx => rfl); (case hf => rfl))
  | ((with_reducible refine' U.l_niT ?hl ?hx ?hf ?q); (case hl => walk_at "sq"); (case hx => rfl); (case hf => rfl))
  | ((with_reducible refine' U.l_isi (ClsV.ty _) ?ty ?ki ?q); (case ty => first | with_reducible assumption | exact TyX.base (TyOf.int _) | walk_at "ty" | fail); (case ki => first | with_reducible assumption | exact kit_ty (by decide +kernel) | fail))
  | ((with_reducible refine U.l_I ?hl ?_); case hl => walk_at "side")
  | fail)
local macro_rules | `(tactic| walk_at "nrm") => `(tactic| simp only [U.set4, wipe, List.set_cons_zero, List.set_cons_succ])
local macro_rules | `(tactic| walk_at "go") => `(tactic| repeat' walk_at "st")
local macro_rules | `(tactic| walk_at "same") => `(tactic| first
  | exact Same.refl _
  | with_reducible assumption
  | (refine' Same.trans ?a ?b; (case b => with_reducible assumption); (case a => walk_at "same"))
  | fail)
local macro_rules | `(tactic| walk_at "free") => `(tactic| first
  | with_reducible assumption
  | (refine' Same.free ?e ?h; (case h => with_reducible assumption); (case e => walk_at "same"))
  | fail)
/-! the same where draws are made -/
local macro_rules | `(tactic| walk_at "well") => `(tactic| first
  | with_reducible assumption
  | exact U.Ex.well (by with_reducible assumption)
  | (refine' U.Well.same ?h ?e; (case e => with_reducible assumption); (case h => walk_at "well"))
  | fail)
local macro_rules | `(tactic| walk_at "ne") => `(tactic| first
  | with_reducible assumption
  | (refine' U.neWell ?hw ?h; (case h => with_reducible assumption); (case hw => walk_at "well"))
  | fail)
local macro_rules | `(tactic| walk_at "exw") => `(tactic| first
  | with_reducible assumption
  | ((with_reducible refine' U.Ex.refl ?h); (case h => walk_at "well"))
  | (refine' U.Ex.andSame ?a ?b; (case b => with_reducible assumption); (case a => walk_at "exw"))
  | (refine' U.Ex.trans ?a ?b; (case b => with_reducible assumption); (case a => walk_at "exw"))
  | fail)
local macro_rules | `(tactic| walk_at "st") => `(tactic| first
  | ((with_reducible refine' U.l_newTW ?hw ?hl ?q); (case hw => walk_at "well"); (case hl => exact Nat.le_of_ble_eq_true rfl); intro p H2 hn hs hp hw ne)
  | ((with_reducible refine' U.l_newLW ?hw ?hl ?q); (case hw => walk_at "well"); (case hl => exact Nat.le_of_ble_eq_true rfl); intro p H2 hn hs hp hw ne)
  | ((with_reducible refine' U.l_draw ?hm ?hm2 ?hw ?q); (case hm => first | omega | decide | fail); (case hm2 => first | omega | decide | fail); (case hw => walk_at "well"); intro d H2 d0 d1 hx)
  | ((with_reducible refine' U.l_great ?hw ?h0 ?h1 ?q); (case h0 => first | omega | decide | fail); (case h1 => first | omega | decide | fail); (case hw => walk_at "well"); intro d H2 d0 d1 hx)
  | ((with_reducible refine' U.l_one ?hw ?hl ?ne ?h0 ?h1 ?q); (case hl => walk_at "at"); (case hw => walk_at "well"); (case ne => walk_at "ne"); (case h0 => exact Nat.zero_lt_succ _); (case h1 => exact Nat.le_of_ble_eq_true rfl); intro v H2 hv hx)
  | ((with_reducible refine' U.l_finite ?hw ?q); (case hw => walk_at "well"); intro q s t p H2 hs ht0 ht1 hp0 hp1 hx hq)
  | with_reducible refine U.l_int1 ?_
  | with_reducible refine U.l_int1b ?_
  | with_reducible refine U.l_for ?_
  | with_reducible refine U.l_iRng1 ?_
  | with_reducible refine U.l_iList ?_
  | ((with_reducible refine' U.l_rRng ?h0 ?h1 ?q); (case h0 => omega); (case h1 => omega))
  | ((with_reducible refine' U.l_rIL ?h ?q); (case h => walk_at "sq"))
  | with_reducible refine U.l_min ?_
  | with_reducible refine U.l_max ?_
  | with_reducible refine U.l_abs ?_
  | with_reducible refine U.l_gsub ?_
  | ((with_reducible refine' U.l_lenL ?h ?q); (case h => walk_at "sq"))
  | ((with_reducible refine' U.l_lenT ?h ?q); (case h => walk_at "sq"))
  | ((with_reducible refine' U.l_ixL ?h ?ha ?q); (case h => walk_at "sq"); (case ha => exact rfl))
  | ((with_reducible refine' U.l_setW ?h ?hj ?q); (case h => with_reducible assumption); (case hj => exact rfl); intro a b c H2 hx hat)
  | ((with_reducible refine' U.l_I ?hl ?q); (case hl => exact U.cmulF (by decide) (by decide)))
  | ((with_reducible refine' U.l_catW ?hw ?h1 ?h2 ?hl ?q); (case hw => walk_at "well"); (case h1 => walk_at "at"); (case h2 => walk_at "at"); (case hl => exact Nat.le_of_ble_eq_true rfl); intro p H2 hn hs hp hw ne)
  | ((with_reducible refine' U.l_cat ?h1 ?h2 ?hl ?q); (case h1 => walk_at "at"); (case h2 => walk_at "at"); (case hl => exact Nat.le_of_ble_eq_true rfl); intro p H2 hn hs hp)
  | fail)
/-! the same of numbers -/
local macro_rules | `(tactic| walk_at "st") => `(tactic| first | (refine' U.arMade (CalX.ar ?G) ?tk ?go; (case G => with_reducible assumption); (case tk => with_reducible assumption); intro d G hd hG hx) | fail)
local macro_rules | `(tactic| walk_at "st") => `(tactic| first | ((with_reducible refine' l_isInt ?e ?q); (case e => walk_at "isa"); (try simp only [Ak.isI])) | fail)
local macro_rules | `(tactic| walk_at "ve") => `(tactic| first
  | (simp_all [verdict, badS, badT, badP, wordB, inV_pm, inV_words, ni_, in_, floatOf]; done)
  | (simp_all [verdict, badS, badT, badP, wordB, inV_pm, inV_words, ni_, in_, floatOf] <;> (intros; omega))
  | fail)
local macro_rules | `(tactic| walk_at "st") => `(tactic| first
  | ((with_reducible refine l_odd ?_ ?_); (first | with_reducible assumption | omega); intro a H' hs hp)
  | with_reducible refine l_isF ?_
  | fail)
local macro_rules | `(tactic| walk_at "st") => `(tactic| first
  | with_reducible refine l_mkS ?_
  | with_reducible refine l_mk ?_
  | fail)
local macro_rules | `(tactic| walk_at "nf") => `(tactic| first
  | with_reducible assumption
  | with_reducible exact U.FloC.fF (by with_reducible assumption)
  | with_reducible exact U.FloC.fI (by with_reducible assumption)
  | with_reducible exact U.FloC.fB (by with_reducible assumption)
  | with_reducible exact U.FloC.fS (by with_reducible assumption)
  | with_reducible exact U.FloC.fN (by with_reducible assumption)
  | with_reducible exact U.FloC.fL (by with_reducible assumption)
  | with_reducible exact U.FloC.fT (by with_reducible assumption)
  | fail)
local macro_rules | `(tactic| walk_at "dp") => `(tactic| first
  | exact Dp.int _
  | exact Dp.str _
  | exact Dp.bl _
  | exact Dp.non
  | (refine' Dp.tup ?h ?q; (case h => walk_at "sq"); (case q => walk_at "dps"))
  | (refine' Dp.lst ?h ?q; (case h => walk_at "sq"); (case q => walk_at "dps"))
  | fail)
local macro_rules | `(tactic| walk_at "dps") => `(tactic| first
  | exact DpAll.nil
  | (refine' DpAll.cons ?h ?q; (case h => walk_at "dp"); (case q => walk_at "dps"))
  | fail)
local macro_rules | `(tactic| walk_at "st") => `(tactic| first
  | ((with_reducible refine' U.l_oeF ?fc ?hx ?hy ?h1 ?h2 ?q); (case fc => with_reducible assumption); (case hx => walk_at "flt"); (case hy => walk_at "flt"); (case h1 => rfl); (case h2 => rfl))
  | ((with_reducible refine' U.l_oeO ?fc ?hx ?h1 ?ty ?nf ?ki ?q); (case fc => with_reducible assumption); (case hx => walk_at "flt"); (case h1 => rfl); (case ty => walk_at "ty"); (case nf => walk_at "nf"); (case ki => walk_at "ki"))
  | ((with_reducible refine' U.l_toF ?hx ?q); (case hx => walk_at "flt"))
  | ((with_reducible refine' U.l_isNI ?fc ?q); (case fc => with_reducible assumption))
  | ((with_reducible refine' U.l_isNF ?fc ?hx ?q); (case fc => with_reducible assumption); (case hx => walk_at "flt"))
  | ((with_reducible refine' U.l_isNN ?hx ?hi ?ty ?ki ?q); (case hx => walk_at "isa"); (case hi => first | exact rfl | with_reducible assumption | fail); (case ty => walk_at "ty"); (case ki => walk_at "ki"))
  | ((with_reducible refine' U.l_isFK ?h0 ?hb ?q); (case h0 => with_reducible assumption); (case hb => with_reducible assumption))
  | ((with_reducible refine' U.l_saidN ?hs ?ht ?hp ?hy ?q); (case hs => walk_at "isa"); (case ht => walk_at "isa"); (case hp => walk_at "isa"); (case hy => with_reducible assumption); intro G hG)
  | ((with_reducible refine' U.l_saidY ?hs ?ht ?hp ?hy ?q); (case hs => walk_at "isa"); (case ht => walk_at "isa"); (case hp => walk_at "isa"); (case hy => with_reducible assumption); intro x G hx hG hf)
  | ((with_reducible refine U.l_dnew ?_); intro p H2 hn hs hp)
  | ((with_reducible refine' U.l_whoW ?hx ?q); (case hx => walk_at "flt"))
  | with_reducible refine U.l_isn0 ?_
  | with_reducible refine U.l_notn0 ?_
  | with_reducible refine U.l_isnR ?_
  | with_reducible refine U.l_notnR ?_
  | with_reducible refine U.l_isnI ?_
  | with_reducible refine U.l_notnI ?_
  | ((with_reducible refine' U.l_rep ?h ?h0 ?h1 ?hl ?hy ?q); (case h => walk_at "at"); (case h0 => decide); (case h1 => decide); (case hl => exact Nat.le_of_ble_eq_true rfl); (case hy => exact rfl); intro p H2 hn hs hp)
  | ((with_reducible refine' U.l_oddL ?h0 ?q); (case h0 => first | with_reducible assumption | omega); intro a H' hs hp)
  | with_reducible refine U.l_isFL ?_
  | ((with_reducible refine' U.l_catT ?h1 ?h2 ?hl ?q); (case h1 => walk_at "sq"); (case h2 => walk_at "sq"); (case hl => exact Nat.le_of_ble_eq_true rfl); intro p H2 hn hs hp)
  | ((with_reducible refine' U.l_neD ?hx ?hy ?sx ?sy ?q); (case hx => walk_at "dp"); (case hy => walk_at "dp"); (case sx => first | exact rfl | decide +kernel | fail); (case sy => first | exact rfl | decide +kernel | fail))
  | ((with_reducible refine' U.l_eqD ?hx ?hy ?sx ?sy ?q); (case hx => walk_at "dp"); (case hy => walk_at "dp"); (case sx => first | exact rfl | decide +kernel | fail); (case sy => first | exact rfl | decide +kernel | fail))
  | with_reducible refine U.l_lc ?_
  | ((with_reducible refine' U.l_floY ?hs ?ht ?hp ?hy ?q); (case hs => walk_at "isa"); (case ht => walk_at "isa"); (case hp => walk_at "isa"); (case hy => with_reducible assumption); intro x G hx hG hf)
  | ((with_reducible refine' U.l_ixT ?h ?ha ?q); (case h => walk_at "sq"); (case ha => exact rfl))
  | fail)
local macro_rules | `(tactic| walk_at "st") => `(tactic| first
  | ((with_reducible refine' U.l_good ?hw ?q); (case hw => walk_at "well"); intro H2 hx)
  | ((with_reducible refine U.l_true ?_); intro H2 hs)
  | with_reducible refine U.l_slice ?_
  | with_reducible refine U.l_poN ?_
  | with_reducible refine U.l_poS ?_
  | ((with_reducible refine' U.l_slL ?h ?q); (case h => walk_at "sq"); intro p H2 hn hs hp)
  | ((with_reducible refine U.l_well ?_); intro w H2 hn hs hw)
  | fail)
/-! the same of reckoning -/
local macro_rules | `(tactic| walk_at "ty") => `(tactic| first
  | with_reducible assumption
  | (refine' TyX.base (TyOf.lst ?h); (case h => walk_at "at"))
  | (refine' TyX.base (TyOf.tup ?h); (case h => walk_at "at"))
  | (refine' TyX.base (TyOf.dK ?h); (case h => walk_at "at"))
  | exact TyX.base (TyOf.int _)
  | exact TyX.base (TyOf.str _)
  | exact TyX.base TyOf.non
  | exact TyX.base (TyOf.bl _)
  | (refine' U.FloC.tyX ?f ?h; (case f => with_reducible assumption); (case h => walk_at "flt"))
  | (refine' U.FltF.tyX ?f ?h; (case f => with_reducible assumption); (case h => walk_at "ff"))
  | fail)
local macro_rules | `(tactic| walk_at "isa") => `(tactic| first
  | with_reducible assumption
  | exact isA_int
  | exact isA_str
  | exact isA_non
  | exact isA_bl
  | (refine' isA_lst ?h; (case h => walk_at "at"))
  | (refine' isA_tup ?h; (case h => walk_at "at"))
  | (refine' isA_dK ?h; (case h => walk_at "at"))
  | (refine' IsA.same ?e ?h; (case e => with_reducible assumption); (case h => walk_at "isa"))
  | (refine' FloC.isA ?f ?h; (case f => with_reducible assumption); (case h => walk_at "flt"))
  | (refine' U.FltF.isA ?f ?h; (case f => with_reducible assumption); (case h => walk_at "ff"))
  | fail)
local macro_rules | `(tactic| walk_at "sq") => `(tactic| first
  | with_reducible assumption
  | exact U.sqAll (by with_reducible assumption)
  | (refine' U.sameT ?e ?h; (case e => with_reducible assumption); (case h => walk_at "sq"))
  | (refine' SqL.of ?h; (case h => walk_at "at"))
  | (refine' SqT.of ?h; (case h => walk_at "at"))
  | fail)
local macro_rules | `(tactic| walk_at "fok") => `(tactic| first
  | with_reducible assumption
  | with_reducible exact U.toF_ok _
  | (with_reducible refine' U.wd_ok ?a ?b; (case a => walk_at "fok"); (case b => walk_at "fok"))
  | (with_reducible refine' U.opp_ok ?a; (case a => walk_at "fok"))
  | fail)
local macro_rules | `(tactic| walk_at "nv") => `(tactic| first
  | with_reducible assumption
  | (refine' U.nv_ref ?h ?k; (case h => walk_at "ff"); (case k => walk_at "fok"))
  | (refine' U.nv_int ?h ?k; (case h => omega); (case k => omega))
  | (refine' U.Nv.same ?h ?e; (case e => with_reducible assumption); (case h => walk_at "nv"))
  | fail)
local macro_rules | `(tactic| walk_at "wd") => `(tactic| first
  | with_reducible assumption
  | exact U.wd_add
  | exact U.wd_sub
  | exact U.wd_mul
  | exact U.wd_div
  | fail)
local macro_rules | `(tactic| walk_at "szo") => `(tactic| first
  | with_reducible assumption
  | omega
  | decide +kernel
  | fail)
local macro_rules | `(tactic| walk_at "st") => `(tactic| first
  | with_reducible refine U.iteSe ?_
  | with_reducible refine U.iteSeN ?_
  | ((with_reducible refine' U.iteSn ?e ?q); (case e => first | exact U.ni_ | exact U.in_ | exact eq_false (by decide +kernel) | fail))
  | ((with_reducible refine' U.iteSnN ?e ?q); (case e => first | exact U.ni_ | exact U.in_ | exact eq_false (by decide +kernel) | fail))
  | with_reducible refine U.l_maxM ?_
  | with_reducible refine U.l_minM ?_
  | with_reducible refine U.l_absM ?_
  | with_reducible refine U.l_tru ?_
  | with_reducible refine U.l_truI ?_
  | ((with_reducible refine' U.l_oddB ?h ?q); (case h => walk_at "szo"))
  | ((with_reducible refine' U.l_divW ?h ?q); (case h => exact U.cdivP_of (by first | with_reducible assumption | omega) (by first | with_reducible assumption | omega)); intro p H2 hn hs hp)
  | ((with_reducible refine' U.l_inF ?h ?hx ?hf ?e ?q); (case h => walk_at "sq"); (case hx => exact rfl); (case hf => exact rfl); (case e => first | with_reducible assumption | exact rfl | decide +kernel | fail))
  | ((with_reducible refine' U.l_inTr ?h ?hx ?hf ?e ?q); (case h => walk_at "sq"); (case hx => exact rfl); (case hf => exact rfl); (case e => first | with_reducible assumption | exact rfl | decide +kernel | fail))
  | ((with_reducible refine' U.l_I ?hl ?q); (case hl => exact U.cshl_of (by first | with_reducible assumption | omega) (by first | with_reducible assumption | omega) (by first | with_reducible assumption | omega | decide +kernel)))
  | ((with_reducible refine' U.l_I ?hl ?q); (case hl => exact U.cmulX_of (by first | with_reducible assumption | omega) (by first | with_reducible assumption | omega)))
  | ((with_reducible refine' U.l_cut ?h0 ?h1 ?h2 ?h3 ?q); (case h0 => walk_at "szo"); (case h1 => walk_at "szo"); (case h2 => walk_at "szo"); (case h3 => walk_at "szo"))
  | ((with_reducible refine' U.l_rnd ?h0 ?h1 ?h2 ?h3 ?q); (case h0 => walk_at "szo"); (case h1 => walk_at "szo"); (case h2 => walk_at "szo"); (case h3 => walk_at "szo"); intro r H' zs hs hr hz)
  | ((with_reducible refine' U.l_ali ?h1 ?h2 ?h3 ?h4 ?q); (case h1 => walk_at "sq"); (case h2 => walk_at "sq"); (case h3 => walk_at "fok"); (case h4 => walk_at "fok"); intro r H' hs hr)
  | ((with_reducible refine' U.l_hnF ?h1 ?h2 ?h3 ?h4 ?e ?q); (case h1 => walk_at "sq"); (case h2 => walk_at "sq"); (case h3 => walk_at "fl"); (case h4 => walk_at "fl"); (case e => exact rfl))
  | ((with_reducible refine' U.l_hnT ?h1 ?h2 ?h3 ?h4 ?e ?q); (case h1 => walk_at "sq"); (case h2 => walk_at "sq"); (case h3 => walk_at "fl"); (case h4 => walk_at "fl"); (case e => exact rfl))
  | ((with_reducible refine' U.l_two ?h1 ?h2 ?h3 ?h4 ?h5 ?h6 ?q); (case h1 => walk_at "sq"); (case h2 => walk_at "sq"); (case h3 => walk_at "fl"); (case h4 => walk_at "fl"); (case h5 => walk_at "fok"); (case h6 => walk_at "fok"); intro r H' zs hs hr hz)
  | ((with_reducible refine' U.l_opp ?h1 ?h3 ?q); (case h1 => walk_at "sq"); (case h3 => walk_at "fl"); intro r H' zs hs hr hz)
  | ((with_reducible refine' U.l_rec ?hz ?h1 ?h2 ?h3 ?h4 ?h5 ?h6 ?q); (case hz => walk_at "wd"); (case h1 => walk_at "sq"); (case h2 => walk_at "sq"); (case h3 => walk_at "fl"); (case h4 => walk_at "fl"); (case h5 => walk_at "fok"); (case h6 => walk_at "fok"); intro r H' zs hs hr hz)
  | ((with_reducible refine' U.l_partF ?h ?q); (case h => walk_at "ff"); intro r H' zs hs hr hz)
  | ((with_reducible refine U.l_partI ?_); intro r H' hs hr)
  | ((with_reducible refine' U.l_toFl ?h ?q); (case h => walk_at "nv"); intro x H' hs hx)
  | ((with_reducible refine' U.l_ari ?hz ?h1 ?h2 ?h3 ?q); (case hz => walk_at "wd"); (case h1 => walk_at "nv"); (case h2 => walk_at "nv"); (case h3 => first | exact .inr (.inl ⟨_, rfl⟩) | exact .inr (.inr ⟨_, rfl⟩) | exact .inl rfl | fail); intro x H' hs hx)
  | ((with_reducible refine' U.l_neg ?h ?k ?q); (case h => walk_at "ff"); (case k => walk_at "fok"); intro x H' hs hx)
  | ((with_reducible refine' U.l_oeT ?fc ?hx ?hy ?e ?q); (case fc => with_reducible assumption); (case hx => walk_at "ff"); (case hy => walk_at "ff"); (case e => first | with_reducible assumption | with_reducible exact U.wd_add_comm _ _ | with_reducible exact U.wd_mul_comm _ _ | with_reducible exact U.wd_sub_add _ _ | with_reducible exact rfl | fail))
  | ((with_reducible refine' U.l_onT ?fc ?hx ?hy ?e ?q); (case fc => with_reducible assumption); (case hx => walk_at "ff"); (case hy => walk_at "ff"); (case e => first | with_reducible assumption | with_reducible exact U.wd_add_comm _ _ | with_reducible exact U.wd_mul_comm _ _ | with_reducible exact U.wd_sub_add _ _ | with_reducible exact rfl | fail))
  | with_reducible refine U.l_mkSt ?_
  | ((with_reducible refine' U.l_floSt ?hx ?h ?k ?q); (case hx => walk_at "sq"); (case h => walk_at "fl"); (case k => walk_at "fok"); intro x G hG hx)
  | ((with_reducible refine' U.l_floV ?h ?k ?q); (case h => walk_at "fl"); (case k => walk_at "fok"); intro x G hG hx)
  | ((with_reducible refine' U.l_floN ?hs ?h0 ?h1 ?h2 ?h3 ?q); (case hs => with_reducible assumption); (case h0 => walk_at "szo"); (case h1 => walk_at "szo"); (case h2 => walk_at "szo"); (case h3 => walk_at "szo"); intro x G hG hx hk)
  | ((with_reducible refine' U.l_kd ?h ?q); (case h => with_reducible assumption))
  | fail)
/-! the same of the law -/
local macro_rules | `(tactic| walk_at "st") => `(tactic| first
  | ((with_reducible refine' U.l_fltD ?hw ?q); (case hw => walk_at "well"); intro x f H2 hx hf hk)
  | ((with_reducible refine' U.l_ratio ?h ?k ?q); (case h => walk_at "ff"); (case k => walk_at "fok"); intro r H2 hs hr)
  | ((with_reducible refine' U.l_topR ?h ?k ?q); (case h => walk_at "ff"); (case k => walk_at "fok"); intro r H2 hs hr)
  | ((with_reducible refine' U.l_scaled ?h1 ?h2 ?h3 ?q); (case h1 => walk_at "szo"); (case h2 => walk_at "szo"); (case h3 => walk_at "szo"); intro r H2 hs hr)
  | ((with_reducible refine' U.l_nearR ?h ?k ?h1 ?h2 ?g ?q); (case h => walk_at "ff"); (case k => walk_at "fok"); (case h1 => walk_at "szo"); (case h2 => walk_at "szo"); (case g => first | with_reducible assumption | fail); intro H2 hs)
  | ((with_reducible refine' U.l_exactR ?h ?k ?hz ?h1 ?h2 ?g ?q); (case h => walk_at "ff"); (case k => walk_at "fok"); (case hz => first | with_reducible assumption | exact .inl rfl | exact .inr rfl | fail); (case h1 => walk_at "szo"); (case h2 => walk_at "szo"); (case g => first | with_reducible assumption | fail); intro H2 hs)
  | ((with_reducible refine' U.l_finR ?h ?h2 ?k ?k2 ?q); (case h => walk_at "ff"); (case h2 => walk_at "ff"); (case k => walk_at "fok"); (case k2 => walk_at "fok"); intro H2 hs)
  | ((with_reducible refine' U.l_due ?hz ?h ?h2 ?k ?k2 ?n ?q); (case hz => walk_at "wd"); (case h => walk_at "ff"); (case h2 => walk_at "ff"); (case k => walk_at "fok"); (case k2 => walk_at "fok"); (case n => first | with_reducible assumption | exact rfl | fail); intro r H2 hs hr)
  | ((with_reducible refine' U.l_pairR ?h ?h2 ?k ?k2 ?q); (case h => walk_at "ff"); (case h2 => walk_at "ff"); (case k => walk_at "fok"); (case k2 => walk_at "fok"); intro H2 hs)
  | ((with_reducible refine' U.l_nearD ?hw ?h ?k ?q); (case hw => walk_at "well"); (case h => walk_at "ff"); (case k => walk_at "fok"); intro y g H2 hx hg hk)
  | ((with_reducible refine' U.l_wholeR ?hw ?h ?k ?q); (case hw => walk_at "well"); (case h => walk_at "ff"); (case k => walk_at "fok"); intro H2 hx)
  | fail)
local macro_rules | `(tactic| walk_at "st") => `(tactic| first
  | ((with_reducible refine' U.l_I (C := CMulE) ?hl ?q); (case hl => first
      | exact Or.inl (Or.inl ⟨by omega, by omega⟩)
      | exact Or.inl (Or.inr ⟨by omega, by omega⟩)
      | exact Or.inr (U.cmulX_of (by first | with_reducible assumption | omega | decide +kernel) (by first | with_reducible assumption | omega | decide +kernel))
      | fail))
  | fail)
local macro_rules | `(tactic| walk_at "gp") => `(tactic| repeat' (first
  | ((with_reducible first
      | refine U.iteVI (fun _ => ?_) (fun _ => ?_)
      | refine U.iteVIN (fun _ => ?_) (fun _ => ?_)
      | refine U.iteD (fun _ => ?_) (fun _ => ?_)
      | refine U.iteN (fun _ => ?_) (fun _ => ?_)) <;> try (exfalso; omega))
  | walk_at "st"))
local macro_rules | `(tactic| walk_at "st") => `(tactic| first
  | with_reducible refine U.l_isSI ?_
  | with_reducible refine U.l_isSS ?_
  | with_reducible refine U.l_par3 ?_
  | with_reducible refine U.l_par3e ?_
  | fail)
/-! the same of floors -/
local macro_rules | `(tactic| walk_at "st") => `(tactic| first
  | ((with_reducible refine' U.l_flo1 ?h1 ?h3 ?h ?q); (case h1 => walk_at "sq"); (case h3 => walk_at "fl"); (case h => walk_at "fok"); intro r H' zs hs hr hz)
  | with_reducible refine U.l_callS ?_
  | with_reducible refine U.l_andM ?_
  | with_reducible refine U.l_wr ?_
  | ((with_reducible refine' U.l_I (C := U.CDivE) ?hl ?q); (case hl => exact U.cdivE_of (by first | with_reducible assumption | omega) (by first | with_reducible assumption | omega)))
  | fail)
local macro_rules | `(tactic| walk_at "st") => `(tactic| first
  | ((with_reducible refine' U.l_rec6 ?hz ?h1 ?h2 ?h3 ?h4 ?h5 ?h6 ?q); (case hz => with_reducible assumption); (case h1 => walk_at "sq"); (case h2 => walk_at "sq"); (case h3 => walk_at "fl"); (case h4 => walk_at "fl"); (case h5 => walk_at "fok"); (case h6 => walk_at "fok"); intro r H' zs hs hr hz)
  | fail)
/-! what is said of two ints -/
local macro_rules | `(tactic| walk_at "st") => `(tactic| first
  | ((with_reducible refine' U.l_said_add ?a1 ?a2 ?b1 ?b2 ?q); (case a1 => omega); (case a2 => omega); (case b1 => omega); (case b2 => omega); intro H2 hs)
  | ((with_reducible refine' U.l_said_sub ?a1 ?a2 ?b1 ?b2 ?q); (case a1 => omega); (case a2 => omega); (case b1 => omega); (case b2 => omega); intro H2 hs)
  | ((with_reducible refine' U.l_said_mul ?a1 ?a2 ?b1 ?b2 ?q); (case a1 => omega); (case a2 => omega); (case b1 => omega); (case b2 => omega); intro H2 hs)
  | ((with_reducible refine' U.l_said_flo ?a1 ?a2 ?b1 ?b2 ?hb ?q); (case a1 => omega); (case a2 => omega); (case b1 => omega); (case b2 => omega); (case hb => first | omega | fail); intro H2 hs)
  | ((with_reducible refine' U.l_saidR_flo ?a1 ?a2 ?b1 ?b2 ?hb ?q); (case a1 => omega); (case a2 => omega); (case b1 => omega); (case b2 => omega); (case hb => first | omega | fail); intro r H2 hs hr)
  | ((with_reducible refine' U.l_a6_flo ?a1 ?a2 ?b1 ?b2 ?hb ?q); (case a1 => omega); (case a2 => omega); (case b1 => omega); (case b2 => omega); (case hb => first | omega | fail))
  | ((with_reducible refine' U.l_said_mod ?a1 ?a2 ?b1 ?b2 ?hb ?q); (case a1 => omega); (case a2 => omega); (case b1 => omega); (case b2 => omega); (case hb => first | omega | fail); intro H2 hs)
  | ((with_reducible refine' U.l_saidR_mod ?a1 ?a2 ?b1 ?b2 ?hb ?q); (case a1 => omega); (case a2 => omega); (case b1 => omega); (case b2 => omega); (case hb => first | omega | fail); intro r H2 hs hr)
  | ((with_reducible refine' U.l_a6_mod ?a1 ?a2 ?b1 ?b2 ?hb ?q); (case a1 => omega); (case a2 => omega); (case b1 => omega); (case b2 => omega); (case hb => first | omega | fail))
  | ((with_reducible refine' U.l_wrL ?h1 ?h2 ?q); (case h1 => first | omega | exact (U.mul_bd (by assumption) (by assumption) (by assumption) (by assumption)).1); (case h2 => first | omega | exact (U.mul_bd (by assumption) (by assumption) (by assumption) (by assumption)).2))
  | fail)
/-! floors and what is left of floats -/
local macro_rules | `(tactic| walk_at "st") => `(tactic| first
  | ((with_reducible refine' U.l_a6d ?hx ?hy ?kf ?kg ?e ?q); (case hx => walk_at "ff"); (case hy => walk_at "ff"); (case kf => walk_at "fok"); (case kg => walk_at "fok"); (case e => with_reducible assumption); intro r H' hs hr)
  | ((with_reducible refine' U.l_a6f ?hx ?hy ?kf ?kg ?e ?q); (case hx => walk_at "ff"); (case hy => walk_at "ff"); (case kf => walk_at "fok"); (case kg => walk_at "fok"); (case e => with_reducible assumption); intro r H' hs hr)
  | ((with_reducible refine' U.l_a6m ?hx ?hy ?kf ?kg ?e ?q); (case hx => walk_at "ff"); (case hy => walk_at "ff"); (case kf => walk_at "fok"); (case kg => walk_at "fok"); (case e => with_reducible assumption); intro r H' hs hr)
  | ((with_reducible refine' U.l_a6nf ?h1 ?h2 ?h3 ?q); (case h1 => walk_at "nv"); (case h2 => walk_at "nv"); (case h3 => first | exact .inl ⟨_, rfl⟩ | exact .inr ⟨_, rfl⟩ | fail); intro r H' hs hr)
  | ((with_reducible refine' U.l_a6nm ?h1 ?h2 ?h3 ?q); (case h1 => walk_at "nv"); (case h2 => walk_at "nv"); (case h3 => first | exact .inl ⟨_, rfl⟩ | exact .inr ⟨_, rfl⟩ | fail); intro r H' hs hr)
  | ((with_reducible refine' U.l_intsR ?a1 ?a2 ?b1 ?b2 ?q); (case a1 => first | with_reducible assumption | omega); (case a2 => first | with_reducible assumption | omega); (case b1 => first | with_reducible assumption | omega); (case b2 => first | with_reducible assumption | omega); intro H2 hs)
  | ((with_reducible refine' U.l_intD ?hw ?q); (case hw => walk_at "well"); intro n H2 n1 n2 hx)
  | fail)
local macro_rules | `(tactic| walk_at "gq") => `(tactic| repeat' (first
  | (with_reducible first
      | refine U.iteVIS ?_
      | refine U.iteVSI ?_)
  | ((with_reducible first
      | refine U.iteVI (fun _ => ?_) (fun _ => ?_)
      | refine U.iteVIN (fun _ => ?_) (fun _ => ?_)
      | refine U.iteD (fun _ => ?_) (fun _ => ?_)
      | refine U.iteN (fun _ => ?_) (fun _ => ?_)) <;> try (exfalso; omega))
  | walk_at "st"))
/-! the order of numbers -/
local macro_rules | `(tactic| walk_at "fl") => `(tactic| first
  | with_reducible assumption
  | with_reducible exact U.flL_ptI
  | exact U.flL_fin
  | exact U.flL_inf
  | exact U.flL_nan
  | fail)
local macro_rules | `(tactic| walk_at "wid") => `(tactic| first
  | with_reducible assumption
  | (refine' U.ok_wide ?h; (case h => walk_at "fok"))
  | fail)
local macro_rules | `(tactic| walk_at "nmv") => `(tactic| first
  | with_reducible assumption
  | (refine' U.nm_ref ?h ?k; (case h => walk_at "ff"); (case k => walk_at "fok"))
  | (refine' U.nm_int ?h ?k; (case h => omega); (case k => omega))
  | (refine' U.NmV.same ?h ?e; (case e => with_reducible assumption); (case h => walk_at "nmv"))
  | (refine' U.NmV.ex ?h ?e; (case e => with_reducible assumption); (case h => walk_at "nmv"))
  | fail)
local macro_rules | `(tactic| walk_at "st") => `(tactic| first
  | ((with_reducible refine' U.l_aliW ?h1 ?h2 ?h3 ?h4 ?q); (case h1 => walk_at "sq"); (case h2 => walk_at "sq"); (case h3 => walk_at "wid"); (case h4 => walk_at "wid"); intro r H' hs hr)
  | ((with_reducible refine' U.l_side ?h ?hf ?q); (case h => walk_at "sq"); (case hf => walk_at "fl"))
  | ((with_reducible refine' U.l_less ?h1 ?h2 ?h3 ?h4 ?h5 ?h6 ?h7 ?h8 ?q); (case h1 => walk_at "sq"); (case h2 => walk_at "sq"); (case h3 => walk_at "fl"); (case h4 => walk_at "fl"); (case h5 => walk_at "wid"); (case h6 => walk_at "wid"); (case h7 => first | with_reducible assumption | exact rfl | fail); (case h8 => first | with_reducible assumption | exact rfl | fail); intro H' hs)
  | ((with_reducible refine' U.l_isNan ?h ?q); (case h => walk_at "nmv"))
  | ((with_reducible refine' U.l_cmpLt ?h ?h2 ?q); (case h => walk_at "nmv"); (case h2 => walk_at "nmv"); intro H' hs)
  | ((with_reducible refine' U.l_cmpLe ?h ?h2 ?q); (case h => walk_at "nmv"); (case h2 => walk_at "nmv"); intro H' hs)
  | ((with_reducible refine U.l_un0 ?_); intro r H' hs hr)
  | with_reducible refine U.l_mkT ?_
  | ((with_reducible refine U.l_mkT1 ?_); intro x dx fs G hnx hs hx)
  | ((with_reducible refine' U.l_frac0 ?h ?n ?q); (case h => walk_at "nmv"); (case n => first | with_reducible assumption | exact rfl | fail); intro r H' hs hr)
  | ((with_reducible refine' U.l_frac1 ?h ?n ?q); (case h => walk_at "nmv"); (case n => first | with_reducible assumption | exact rfl | fail))
  | ((with_reducible refine' U.l_rightN ?h ?h2 ?q); (case h => walk_at "nmv"); (case h2 => walk_at "nmv"); intro H' hs)
  | ((with_reducible refine' U.l_sameN ?h ?h2 ?q); (case h => walk_at "nmv"); (case h2 => walk_at "nmv"); intro H' hs)
  | ((with_reducible refine' U.l_isi (ClsV.ty _) ?ty ?ki ?q); (case ty => walk_at "ty"); (case ki => walk_at "ki"))
  | ((refine' U.lc_bools ?hp ?hi ?q); (case hp => walk_at "at"); (case hi => exact Nat.le_of_ble_eq_true rfl); intro r H' hs hr)
  | ((with_reducible refine' U.l_nums ?hw ?q); (case hw => walk_at "well"); intro r H' xs hx hr hl hn)
  | with_reducible refine U.l_iEnum ?_
  | ((with_reducible refine' U.l_othR ?hw ?q); (case hw => walk_at "well"); intro H' hx)
  | ((with_reducible refine' U.l_inDT ?hx ?hy ?sx ?sy ?q); (case hx => walk_at "dp"); (case hy => walk_at "dp"); (case sx => first | exact rfl | decide +kernel | fail); (case sy => first | exact rfl | decide +kernel | fail))
  | with_reducible refine U.l_isII ?_
  | with_reducible refine U.l_isBB ?_
  | ((with_reducible refine' U.l_isNO ?fc ?o ?h ?q); (case fc => with_reducible assumption); (case o => with_reducible assumption); (case h => with_reducible assumption))
  | ((with_reducible refine' U.l_isNV ?fc ?h ?q); (case fc => with_reducible assumption); (case h => walk_at "nmv"))
  | fail)
/-! the rounds of a loop -/
local macro_rules | `(tactic| walk_at "out") => `(tactic| first
  | with_reducible assumption
  | (refine' U.OutAt.same ?h ?e; (case e => with_reducible assumption); (case h => walk_at "out"))
  | fail)
local macro_rules | `(tactic| walk_at "flt") => `(tactic| first
  | with_reducible assumption
  | (refine' U.fin_lt ?h; (case h => walk_at "ff"))
  | (refine' U.inf_lt ?h; (case h => walk_at "ff"))
  | (refine' U.nan_lt ?h; (case h => walk_at "ff"))
  | (refine' U.Flt.same ?h ?e; (case e => with_reducible assumption); (case h => walk_at "flt"))
  | (refine' U.Flt.ex ?h ?e; (case e => with_reducible assumption); (case h => walk_at "flt"))
  | (refine' U.fltF_gen ?h; (case h => walk_at "ff"))
  | fail)
local macro_rules | `(tactic| walk_at "pl") => `(tactic| first
  | with_reducible assumption
  | (refine' U.PlanAt.same ?h ?e; (case e => with_reducible assumption); (case h => walk_at "pl"))
  | (refine' U.PlanAt.frmL ?h ?hr ?e; (case e => with_reducible assumption); (case hr => walk_at "at"); (case h => walk_at "pl"))
  | fail)
local macro_rules | `(tactic| walk_at "st") => `(tactic| first
  | ((with_reducible refine' U.l_round ?h ?h1 ?h2 ?h3 ?q); (case h => walk_at "pl"); (case h1 => walk_at "nmv"); (case h2 => walk_at "nmv"); (case h3 => walk_at "nmv"); intro H' hs)
  | ((with_reducible refine' U.l_round' ?h ?h1 ?h2 ?h3 ?q); (case h => walk_at "pl"); (case h1 => walk_at "nmv"); (case h2 => walk_at "nmv"); (case h3 => walk_at "nmv"); intro H' hs)
  | ((with_reducible refine' U.l_chkN ?hz ?h ?q); (case hz => first | decide | with_reducible assumption); (case h => walk_at "nmv"))
  | ((with_reducible refine' U.l_chkO ?hz ?h ?q); (case hz => first | decide | with_reducible assumption); (case h => with_reducible assumption))
  | ((with_reducible refine' U.l_chkS ?h (fun hz => ?q1) (fun hz H' hs => ?q)); (case h => walk_at "nmv"))
  | ((with_reducible refine' U.l_sameN' ?h ?h2 ?q); (case h => walk_at "nmv"); (case h2 => walk_at "nmv"); intro H' hs)
  | ((with_reducible refine' U.l_addF ?hx ?hy ?kf ?kg ?q); (case hx => walk_at "ff"); (case hy => walk_at "ff"); (case kf => walk_at "fok"); (case kg => walk_at "fok"); intro r H' hs hr)
  | ((with_reducible refine' U.l_rec1 ?h1 ?h2 ?h3 ?h4 ?h5 ?h6 ?q); (case h1 => walk_at "sq"); (case h2 => walk_at "sq"); (case h3 => walk_at "fl"); (case h4 => walk_at "fl"); (case h5 => walk_at "fok"); (case h6 => walk_at "fok"); intro r H' zs hs hr hz)
  | ((with_reducible refine' U.l_pV ?pc ?h ?q); (case pc => with_reducible assumption); (case h => walk_at "pl"))
  | ((with_reducible refine' U.l_pL ?pc ?h ?q); (case pc => with_reducible assumption); (case h => walk_at "pl"))
  | ((with_reducible refine' U.l_pS ?pc ?h ?q); (case pc => with_reducible assumption); (case h => walk_at "pl"))
  | ((with_reducible refine' U.l_pset ?pc ?h ?q); (case pc => with_reducible assumption); (case h => walk_at "pl"); intro H' hs hp)
  | with_reducible refine U.l_mth ?_
  | ((with_reducible refine' U.l_mthP ?h ?hm ?q); (case h => walk_at "pl"); (case hm => exact U.pfs_none (by decide) (by decide) (by decide)))
  | ((with_reducible refine' U.l_isIntO ?h ?q); (case h => with_reducible assumption))
  | with_reducible refine U.l_bm ?_
  | ((with_reducible refine' U.l_tyL ?h ?q); (case h => walk_at "at"))
  | ((with_reducible refine' U.l_app ?h ?hl ?q); (case h => walk_at "at"); (case hl => with_reducible assumption); intro H' hs hr)
  | ((with_reducible refine' U.l_numK ?hw ?q); (case hw => walk_at "well"); intro v k H' hx hk hn)
  | with_reducible refine U.l_ifT ?_
  | ((with_reducible refine' U.l_isK ?fc ?h ?n ?q); (case fc => with_reducible assumption); (case h => walk_at "kv"); (case n => with_reducible assumption))
  | ((with_reducible refine' U.l_adW ?hi ?hj ?q); (case hi => decide +kernel); (case hj => decide +kernel))
  | with_reducible refine U.l_isIB ?_
  | ((with_reducible refine' U.l_glst ?hp ?hl ?h); (case hp => walk_at "at"); (case hl => rfl))
  | ((with_reducible refine' U.l_countK ?hw ?q); (case hw => walk_at "well"); intro H' hx)
  | with_reducible refine U.l_isSt ?_
  | ((with_reducible refine' U.l_isStL ?h ?q); (case h => walk_at "at"))
  | with_reducible refine U.l_iZip ?_
  | with_reducible refine U.l_isNoI ?_
  | with_reducible refine U.l_isBI ?_
  | with_reducible refine U.l_isStI ?_
  | with_reducible refine U.l_eqTv ?_
  | ((with_reducible refine' U.l_niNan ?hp ?q); (case hp => walk_at "sq"))
  | ((with_reducible refine' U.l_isNumO ?h ?q); (case h => with_reducible assumption))
  | ((with_reducible refine' U.l_isNumI ?h ?q); (case h => with_reducible assumption))
  | ((with_reducible refine' U.l_isNumF ?h ?k ?q); (case h => walk_at "ff"); (case k => walk_at "fok"))
  | ((with_reducible refine' U.l_isNumN ?h ?n ?q); (case h => walk_at "kv"); (case n => with_reducible assumption))
  | ((with_reducible refine' U.l_outS ?ha ?hb ?hc ?q); (case ha => walk_at "kv"); (case hb => walk_at "kv"); (case hc => walk_at "kv"); intro v H' hs ho)
  | ((with_reducible refine' U.l_dueI ?ha ?hn ?hb ?q); (case ha => with_reducible assumption); (case hn => with_reducible assumption); (case hb => walk_at "kv"); intro v H' hs ho)
  | ((with_reducible refine' U.l_alike ?h ?h2 ?q); (case h => walk_at "out"); (case h2 => walk_at "out"); intro H' hs)
  | with_reducible refine U.l_fitsB ?_
  | with_reducible refine U.l_mkP ?_
  | ((with_reducible refine U.l_mkP1 ?_); intro p G hnp hs hp)
  | fail)
/-! bits of numbers -/
local macro_rules | `(tactic| walk_at "st") => `(tactic| first
  | ((with_reducible refine' U.l_isnO (fun hz => ?q1) (fun n hz => ?q)))
  | ((with_reducible refine' U.l_ixB ?h ?h0 ?h1 ?q); (case h => with_reducible assumption); (case h0 => omega); (case h1 => omega))
  | ((with_reducible refine U.l_bitsL ?_); intro r H' hn hs hr)
  | ((with_reducible refine' U.l_shift ?h ?q); (case h => with_reducible assumption))
  | ((with_reducible refine' U.l_bitsR ?h ?q); (case h => with_reducible assumption))
  | ((with_reducible refine' U.l_wholeN ?h ?n ?q); (case h => walk_at "kv"); (case n => with_reducible assumption))
  | ((with_reducible refine' U.l_bitsOf ?h ?n (fun hz => ?q1) (fun n hz hn => ?q)); (case h => walk_at "kv"); (case n => with_reducible assumption))
  | fail)
/-! pairs of bits -/
local macro_rules | `(tactic| walk_at "st") => `(tactic| first
  | with_reducible refine U.l_tZip ?_
  | ((with_reducible refine' U.l_rZipB ?h1 ?h2 ?q); (case h1 => walk_at "at"); (case h2 => walk_at "at"); intro p H' hn hs hz)
  | fail)
local macro_rules | `(tactic| walk_at "st") => `(tactic| first
  | ((with_reducible refine' U.l_wholeI ?h ?n ?e ?q); (case h => walk_at "kv"); (case e => with_reducible assumption); (case n => with_reducible assumption))
  | ((with_reducible refine' U.l_wholeO ?h ?n ?e ?q); (case h => walk_at "kv"); (case e => with_reducible assumption); (case n => with_reducible assumption))
  | with_reducible refine U.l_neII ?_
  | ((with_reducible refine' U.l_neLL ?h1 ?h2 ?q); (case h1 => walk_at "at"); (case h2 => walk_at "at"))
  | ((with_reducible refine' U.l_dueB ?h1 ?h2 ?q); (case h1 => with_reducible assumption); (case h2 => with_reducible assumption); intro H' hs)
  | ((with_reducible refine' U.l_lam ?hT ?q); (case hT => walk_at "tbs"); intro H1 hN hT1)
  | fail)
local macro_rules | `(tactic| walk_at "exn") => `(tactic| first
  | exact LamX.ExtN.refl _
  | with_reducible assumption
  | (refine' U.ExtN.andSame ?a ?b; (case b => with_reducible assumption); (case a => walk_at "exn"))
  | (refine' LamX.ExtN.trans ?a ?b; (case b => with_reducible assumption); (case a => walk_at "exn"))
  | fail)
local macro_rules | `(tactic| walk_at "at") => `(tactic| first
  | with_reducible assumption
  | ((with_reducible refine' U.sameGet ?e ?h); (case e => with_reducible assumption); (case h => walk_at "at"))
  | ((with_reducible refine' U.extLst ?e ?h); (case e => with_reducible assumption); (case h => walk_at "at"))
  | ((with_reducible refine' U.exTup ?e ?h); (case e => with_reducible assumption); (case h => walk_at "at"))
  | ((with_reducible refine' U.exIns ?e ?h); (case e => with_reducible assumption); (case h => walk_at "at"))
  | ((with_reducible refine' U.exDK ?e ?h); (case e => with_reducible assumption); (case h => walk_at "at"))
  | ((with_reducible refine' U.exLst ?e ?n ?h); (case e => with_reducible assumption); (case n => walk_at "ne"); (case h => walk_at "at"))
  | fail)
local macro_rules | `(tactic| walk_at "kv") => `(tactic| first
  | with_reducible assumption
  | ((with_reducible refine' U.kv_int ?h); (case h => with_reducible assumption))
  | (refine' U.KvOk.same ?h ?e; (case e => with_reducible assumption); (case h => walk_at "kv"))
  | (refine' U.KvOk.ex ?h ?e; (case e => with_reducible assumption); (case h => walk_at "kv"))
  | (refine' U.KvOk.extN ?h ?e; (case e => with_reducible assumption); (case h => walk_at "kv"))
  | fail)
local macro_rules | `(tactic| walk_at "ff") => `(tactic| first
  | with_reducible assumption
  | (refine' U.FltF.same ?h ?e; (case e => with_reducible assumption); (case h => walk_at "ff"))
  | (refine' U.FltF.ex ?h ?e; (case e => with_reducible assumption); (case h => walk_at "ff"))
  | (refine' U.FltF.extN ?h ?e; (case e => with_reducible assumption); (case h => walk_at "ff"))
  | (refine' U.FltF.frmL ?h ?hr ?e; (case e => with_reducible assumption); (case hr => walk_at "at"); (case h => walk_at "ff"))
  | fail)
local macro_rules | `(tactic| walk_at "tbs") => `(tactic| first
  | with_reducible assumption
  | (refine' U.tabsSame ?a ?b; (case b => with_reducible assumption); (case a => walk_at "tbs"))
  | (refine' U.Tabs.exW ?a ?b; (case b => with_reducible assumption); (case a => walk_at "tbs"))
  | fail)
local macro_rules | `(tactic| walk_at "st") => `(tactic| first
  | ((with_reducible refine' U.l_pr ?h ?h2 ?o ?o2 ?hT ?q); (case h => walk_at "kv"); (case h2 => walk_at "kv"); (case o => with_reducible assumption); (case o2 => with_reducible assumption); (case hT => walk_at "tbs"); intro H' hN hT')
  | fail)
/-! tables -/
local macro_rules | `(tactic| walk_at "tab") => `(tactic| first
  | with_reducible assumption
  | exact U.TabOk.at_ (by with_reducible assumption)
  | (refine' U.TabAt.same ?h ?e; (case e => with_reducible assumption); (case h => walk_at "tab"))
  | fail)
local macro_rules | `(tactic| walk_at "tok") => `(tactic| first
  | with_reducible assumption
  | (refine' U.TabOk.same ?h ?e; (case e => with_reducible assumption); (case h => walk_at "tok"))
  | fail)
local macro_rules | `(tactic| walk_at "kyv") => `(tactic| first
  | with_reducible assumption
  | (refine' U.KV.same ?h ?e; (case e => with_reducible assumption); (case h => walk_at "kyv"))
  | fail)
local macro_rules | `(tactic| walk_at "ksc") => `(tactic| first
  | with_reducible assumption
  | exact rfl
  | fail)
local macro_rules | `(tactic| walk_at "st") => `(tactic| first
  | ((with_reducible refine' U.l_tP ?tc ?h ?q); (case tc => with_reducible assumption); (case h => walk_at "tab"))
  | ((with_reducible refine' U.l_tN ?tc ?h ?q); (case tc => with_reducible assumption); (case h => walk_at "tab"))
  | ((with_reducible refine' U.l_tF ?tc ?h ?q); (case tc => with_reducible assumption); (case h => walk_at "tab"))
  | ((with_reducible refine' U.l_nK ?nc ?h ?q); (case nc => with_reducible assumption); (case h => walk_at "at"))
  | ((with_reducible refine' U.l_nV ?nc ?h ?q); (case nc => with_reducible assumption); (case h => walk_at "at"))
  | ((with_reducible refine' U.l_nL ?nc ?h ?q); (case nc => with_reducible assumption); (case h => walk_at "at"))
  | ((with_reducible refine' U.l_nD ?nc ?h ?q); (case nc => with_reducible assumption); (case h => walk_at "at"))
  | with_reducible refine U.l_mth ?_
  | ((with_reducible refine' U.l_mthT ?h ?hm ?q); (case h => walk_at "tab"); (case hm => exact U.tfs_none (by decide) (by decide) (by decide) (by decide) (by decide)))
  | ((with_reducible refine' U.l_ck ?h ?s ?q); (case h => walk_at "kyv"); (case s => walk_at "ksc"))
  | ((with_reducible refine' U.l_isNanS ?h ?s ?q); (case h => walk_at "kyv"); (case s => walk_at "ksc"))
  | ((with_reducible refine' U.l_cbk ?h ?s ?q); (case h => walk_at "kyv"); (case s => walk_at "ksc"); intro H' hs)
  | ((with_reducible refine' U.l_chkK ?h ?s ?q); (case h => walk_at "kyv"); (case s => walk_at "ksc"))
  | ((with_reducible refine' U.l_aeq ?h ?h2 ?s ?s2 ?q); (case h => walk_at "kyv"); (case h2 => walk_at "kyv"); (case s => walk_at "ksc"); (case s2 => walk_at "ksc"))
  | ((with_reducible refine' U.l_sumT ?h ?q); (case h => with_reducible assumption))
  | ((with_reducible refine' U.l_mp ?h ?s ?n0 ?n1 ?q); (case h => walk_at "kyv"); (case s => walk_at "ksc"); (case n0 => first | with_reducible assumption | omega); (case n1 => first | with_reducible assumption | omega))
  | ((with_reducible refine' U.l_has ?h ?hk ?s ?q); (case h => walk_at "tab"); (case hk => walk_at "kyv"); (case s => walk_at "ksc"))
  | ((with_reducible refine' U.l_nof ?h ?hk ?s ?q); (case h => walk_at "tok"); (case hk => walk_at "kyv"); (case s => walk_at "ksc"); intro H' hs)
  | ((with_reducible refine' U.l_get ?h ?hk ?s ?q); (case h => walk_at "tok"); (case hk => walk_at "kyv"); (case s => walk_at "ksc"); intro H' hs)
  | fail)
local macro_rules | `(tactic| walk_at "st") => `(tactic| first
  | with_reducible refine U.l_andM32 ?_
  | ((with_reducible refine' U.l_eqK ?hx ?hy ?s1 ?s2 ?q); (case hx => walk_at "kyv"); (case hy => walk_at "kyv"); (case s1 => walk_at "ksc"); (case s2 => walk_at "ksc"))
  | fail)
local macro_rules | `(tactic| walk_at "st") => `(tactic| first
  | with_reducible refine U.l_isSB ?_
  | with_reducible refine U.l_iStr ?_
  | with_reducible refine U.l_strV ?_
  | fail)
local macro_rules | `(tactic| walk_at "st") => `(tactic| first
  | with_reducible refine U.l_mkN ?_
  | ((with_reducible refine U.l_mkN1 ?_); intro p dx G hn hs hp)
  | fail)
local macro_rules | `(tactic| walk_at "st") => `(tactic| first
  | ((with_reducible refine' U.l_tNo ?tc ?h ?q); (case tc => with_reducible assumption); (case h => walk_at "at"))
  | ((with_reducible refine' U.l_tFo ?tc ?h ?q); (case tc => with_reducible assumption); (case h => walk_at "at"))
  | ((with_reducible refine' U.l_tPo ?tc ?h ?q); (case tc => with_reducible assumption); (case h => walk_at "at"))
  | fail)
local macro_rules | `(tactic| walk_at "st") => `(tactic| first
  | ((with_reducible refine' U.l_aug ?hx ?q); (case hx => exact rfl))
  | with_reducible refine U.l_augS ?_
  | with_reducible refine U.l_ipI ?_
  | fail)
local macro_rules | `(tactic| walk_at "st") => `(tactic| first
  | ((with_reducible refine' U.l_fdW ?h ?c ?q); (case h => decide); (case c => decide))
  | ((with_reducible refine' U.l_mdE ?h ?q); (case h => decide))
  | fail)
local macro_rules | `(tactic| walk_at "st") => `(tactic| first
  | with_reducible refine U.l_listRg ?_
  | with_reducible refine U.l_iRng3 ?_
  | ((with_reducible refine' U.l_neT ?hp ?hq ?e1 ?e2 ?k); (case hp => walk_at "at"); (case hq => walk_at "at"); (case e1 => first | with_reducible assumption | omega | fail); (case e2 => first | with_reducible assumption | omega | fail))
  | ((with_reducible refine' U.l_eqT ?hp ?hq ?e1 ?e2 ?k); (case hp => walk_at "at"); (case hq => walk_at "at"); (case e1 => first | with_reducible assumption | omega | fail); (case e2 => first | with_reducible assumption | omega | fail))
  | fail)
/-! the steps that come most often, tried ahead of all others -/
local macro_rules | `(tactic| walk_at "st") => `(tactic| first
  | (with_reducible first
    | refine U.l_seq ?_
    | refine U.l_var rfl ?_
    | refine U.l_c ?_
    | refine U.l_cons ?_
    | refine U.l_nil ?_
    | refine U.l_op ?_
    | refine U.l_set ?_
    | refine U.l_call ?_
    | refine U.l_if ?_
    | refine U.l_test ?_
    | refine U.l_ret ?_
    | refine U.l_next ?_
    | refine U.l_fld ?_
    | refine U.l_tup ?_
    | refine U.l_cb ?_
    | refine U.l_asg ?_
    | refine U.l_gcons ?_
    | refine U.l_gname ?_
    | refine U.l_gnil ?_
    | refine U.l_I0 ?_
    | refine U.l_bl ?_
    | refine U.l_and ?_
    | refine U.l_or ?_
    | refine U.l_not ?_
    | refine U.l_ifE ?_
    | refine iteT ?_
    | refine iteF ?_
    | refine U.iteNF ?_
    | refine U.iteNT ?_)
  | ((with_reducible refine U.l_sg ?_); (with_reducible first
    | refine U.l_sg0 ?_ | refine U.l_sg1 ?_ | refine U.l_sg2 ?_ | refine U.l_sg3 ?_ | refine U.l_sg4 ?_ | refine U.l_sg5 ?_ | refine U.l_sg6 ?_ | refine U.l_sg7 ?_ | refine U.l_sg8 ?_ | refine U.l_sg9 ?_ | refine U.l_sg10 ?_ | refine U.l_sg11 ?_ | refine U.l_sg12 ?_ | refine U.l_sg13 ?_))
  | fail)

namespace Q
open PySem L2 U Tb
def topS (i : Nat) : Stmt := PySem.Challenge.pw_upvalues_k13_whole_rooms_of_grown_tables.main.body.getD i (.Pass ⟨0, 0, 0, 0⟩)
structure Txt (K : PySem.W.Frag) (mg : Str → Option Value) (C TC NC KD NV TH : Addr) : Prop where
  flo : FloC K C
  tab : TabC K TC
  nod : NodC K NC
  cls : Cls3 C TC NC
  k_Float : mg "Float" = some (.ref C)
  k_Table : mg "Table" = some (.ref TC)
  k_Node : mg "Node" = some (.ref NC)
  k_Kinded : mg "Kinded" = some (.ref KD)
  k_Native : mg "Native" = some (.ref NV)
  k_Thrown : mg "Thrown" = some (.ref TH)
  c_ONES : ∃ t, mg "ONES" = some (.int 18446744073709551615 t)
  c_SHORT_ONES : ∃ t, mg "SHORT_ONES" = some (.int 4294967295 t)
  c_MOST_PLACES : ∃ t, mg "MOST_PLACES" = some (.int 2147483648 t)
  c_DOUBLINGS : ∃ t, mg "DOUBLINGS" = some (.int 31 t)
  c_GREATEST : ∃ t, mg "GREATEST" = some (.int 9223372036854775807 t)
  b_isinstance : mg "isinstance" = none
  b_int : mg "int" = none
  b_bool : mg "bool" = none
  b_str : mg "str" = none
  b_len : mg "len" = none
  b_list : mg "list" = none
  b_min : mg "min" = none
  b_max : mg "max" = none
  b_ord : mg "ord" = none
  b_range : mg "range" = none
  b_enumerate : mg "enumerate" = none
section
variable {P : Program} {w : World} {K : PySem.W.Frag} {mg : Str → Option Value} {base : Heap} {C TC NC KD NV TH : Addr}
abbrev s_is_int : Stmt := (topS 10)
theorem sc_is_int : FnScope ["thing"] ["thing"] (defScope s_is_int) := ⟨rfl, rfl, rfl, by decide +kernel, rfl, by decide +kernel, by decide +kernel⟩
theorem ok_is_int {f : Addr} {fd : FuncData} (F : Fun K "is_int" "is_int" s_is_int f fd) (T : Txt K mg C TC NC KD NV TH) : FnOk P w K mg base CX0 1 f fd ["thing"] (spIsInt K) := by
  refine F.ok sc_is_int (fun vs H Q E h => ?_) (fun cdv A outer s H vs Q E hr h => ?_)
  · obtain ⟨v, a, rfl, hv, k⟩ := h
    rfl
  · obtain ⟨v, a, rfl, hv, k⟩ := h
    have nd := sc_is_int.nd
    refine ⟨_, (pss_one (ps_ret (pe_and (pe_callB call_isi rfl T.b_isinstance (by decide +kernel) (pa_cons (pv 0) (pa_cons (pe_bltn (v := .ty "int") rfl T.b_int (by decide +kernel) rfl) pa_nil))) (pe_one (pe_not (pe_callB call_isi rfl T.b_isinstance (by decide +kernel) (pa_cons (pv 0) (pa_cons (pe_bltn (v := .ty "bool") rfl T.b_bool (by decide +kernel) rfl) pa_nil)))))))), ?_⟩
    clear hr nd F
    try simp only [U.nox_K, U.cxOf_K]
    refine U.st0 (σ' := [some _]) rfl ?_
    obtain ⟨ty, b1, b2, hty, h1, h2, h3⟩ := hv.asI
    walk_at "go"
    all_goals refine U.ends k ?_
    all_goals rw [← h3]
    all_goals simp only [*, Bool.true_and, Bool.false_and]
abbrev s_is_nan : Stmt := (topS 25)
theorem sc_is_nan : FnScope ["number"] ["number"] (defScope s_is_nan) := ⟨rfl, rfl, rfl, by decide +kernel, rfl, by decide +kernel, by decide +kernel⟩
theorem ok_is_nan {f : Addr} {fd : FuncData} (F : Fun K "is_nan" "is_nan" s_is_nan f fd) (T : Txt K mg C TC NC KD NV TH) : FnOk P w K mg base CX0 1 f fd ["number"] (spIsNanS C TC) := by
  refine F.ok sc_is_nan (fun vs H Q E h => ?_) (fun cdv A outer s H vs Q E hr h => ?_)
  · obtain ⟨v, k, rfl, hv, hs, kQ⟩ := h
    rfl
  · obtain ⟨v, k, rfl, hv, hs, kQ⟩ := h
    have nd := sc_is_nan.nd
    refine ⟨_, (pss_one (ps_ret (pe_and (pe_callB call_isi rfl T.b_isinstance (by decide +kernel) (pa_cons (pv 0) (pa_cons (pe_gc T.k_Float) pa_nil))) (pe_one (pe_cmpR op_eq (pe_fld (pv 0) rfl) pe_str (nomark _)))))), ?_⟩
    clear hr nd F
    try simp only [U.nox_K, U.cxOf_K]
    refine U.st0 (σ' := [some _]) rfl ?_
    have fc := T.flo
    rcases sc_cases hv hs with ⟨n, rfl, rfl, hn⟩ | ⟨c, rfl, rfl⟩ | ⟨z, rfl, rfl, hz⟩
    all_goals walk_at "go"
    all_goals exact kQ
abbrev s_whole_of : Stmt := (topS 24)
theorem sc_whole_of : FnScope ["number", "whole"] ["number"] (defScope s_whole_of) := ⟨rfl, rfl, rfl, by decide +kernel, rfl, by decide +kernel, by decide +kernel⟩
theorem ok_whole_of {f : Addr} {fd : FuncData} (F : Fun K "whole_of" "whole_of" s_whole_of f fd) : FnOk P w K mg base CX0 1 f fd ["number"] spNo := F.ok sc_whole_of (fun _ _ _ _ h => (show False from h).elim) (fun _ _ _ _ _ _ _ _ _ h => (show False from h).elim)
abbrev s_counted_key : Stmt := (topS 33)
theorem sc_counted_key : FnScope ["key", "whole"] ["key"] (defScope s_counted_key) := ⟨rfl, rfl, rfl, by decide +kernel, rfl, by decide +kernel, by decide +kernel⟩
theorem ok_counted_key {f : Addr} {fd : FuncData} (F : Fun K "counted_key" "counted_key" s_counted_key f fd) (T : Txt K mg C TC NC KD NV TH) (G_whole_of : Cal P w K mg base CX0 1 "whole_of" ["number"] (spNo)) : FnOk P w K mg base CX0 2 f fd ["key"] (spCk C TC) := by
  refine F.ok sc_counted_key (fun vs H Q E h => ?_) (fun cdv A outer s H vs Q E hr h => ?_)
  · obtain ⟨v, k, rfl, hv, hs, kQ⟩ := h
    rfl
  · obtain ⟨v, k, rfl, hv, hs, kQ⟩ := h
    have nd := sc_counted_key.nd
    refine ⟨_, (pss_cons (ps_if (pt_not (pt_val (pe_callB call_isi rfl T.b_isinstance (by decide +kernel) (pa_cons (pv 0) (pa_cons (pe_gc T.k_Float) pa_nil))))) (pss_one (ps_ret (pv 0))) pss_nil) pss_never), ?_⟩
    clear hr nd F
    try simp only [U.nox_K, U.cxOf_K]
    refine U.st0 (σ' := [some _, none]) rfl ?_
    have fc := T.flo
    rcases sc_cases hv hs with ⟨n, rfl, rfl, hn⟩ | ⟨c, rfl, rfl⟩ | ⟨z, rfl, rfl, hz⟩
    all_goals walk_at "go"
    all_goals exact kQ
abbrev s_are_equal_keys : Stmt := (topS 34)
theorem sc_are_equal_keys : FnScope ["one", "other"] ["one", "other"] (defScope s_are_equal_keys) := ⟨rfl, rfl, rfl, by decide +kernel, rfl, by decide +kernel, by decide +kernel⟩
theorem ok_are_equal_keys {f : Addr} {fd : FuncData} (F : Fun K "are_equal_keys" "are_equal_keys" s_are_equal_keys f fd) (T : Txt K mg C TC NC KD NV TH) : FnOk P w K mg base CX0 1 f fd ["one", "other"] (spAeq C TC) := by
  refine F.ok sc_are_equal_keys (fun vs H Q E h => ?_) (fun cdv A outer s H vs Q E hr h => ?_)
  · obtain ⟨x, y, k, l, rfl, hx, hy, s1, s2, kQ⟩ := h
    rfl
  · obtain ⟨x, y, k, l, rfl, hx, hy, s1, s2, kQ⟩ := h
    have nd := sc_are_equal_keys.nd
    refine ⟨_, (pss_one (ps_ret (pe_and (pe_cmpR (op_eith op_eq (op_eqD hr.units)) (pv 0) (pv 1) (nomark _)) (pe_one (pe_cmpR op_eq (pe_callB call_isi rfl T.b_isinstance (by decide +kernel) (pa_cons (pv 0) (pa_cons (pe_bltn (v := .ty "bool") rfl T.b_bool (by decide +kernel) rfl) pa_nil))) (pe_callB call_isi rfl T.b_isinstance (by decide +kernel) (pa_cons (pv 1) (pa_cons (pe_bltn (v := .ty "bool") rfl T.b_bool (by decide +kernel) rfl) pa_nil))) (nomark _)))))), ?_⟩
    clear hr nd F
    try simp only [U.nox_K, U.cxOf_K]
    refine U.st0 (σ' := [some _, some _]) rfl ?_
    have fc := T.flo
    walk_at "go"
    all_goals rcases sc_cases hx s1 with ⟨n, rfl, rfl, hn⟩ | ⟨c, rfl, rfl⟩ | ⟨z, rfl, rfl, hz⟩
    all_goals rcases sc_cases hy s2 with ⟨n2, rfl, rfl, hn2⟩ | ⟨c2, rfl, rfl⟩ | ⟨z2, rfl, rfl, hz2⟩
    all_goals walk_at "go"
    all_goals first
      | exact ends kQ (congrArg V.bl (by simp_all [keq]))
      | fail
abbrev s_check_key : Stmt := (topS 36)
theorem sc_check_key : FnScope ["key"] ["key"] (defScope s_check_key) := ⟨rfl, rfl, rfl, by decide +kernel, rfl, by decide +kernel, by decide +kernel⟩
theorem ok_check_key {f : Addr} {fd : FuncData} (F : Fun K "check_key" "check_key" s_check_key f fd) (T : Txt K mg C TC NC KD NV TH) (G_is_nan : Cal P w K mg base CX0 1 "is_nan" ["number"] (spIsNanS C TC)) : FnOk P w K mg base CX0 2 f fd ["key"] (spChkK C TC) := by
  refine F.ok sc_check_key (fun vs H Q E h => ?_) (fun cdv A outer s H vs Q E hr h => ?_)
  · obtain ⟨v, k, rfl, hv, hs, kQ⟩ := h
    rfl
  · obtain ⟨v, k, rfl, hv, hs, kQ⟩ := h
    have nd := sc_check_key.nd
    refine ⟨_, (pss_cons (ps_if (pt_cmpR op_isn (pv 0) pe_non (nomark _)) (pss_one ps_never) pss_nil) (pss_one (ps_if (pt_val (pe_c G_is_nan hr (pa_cons (pv 0) pa_nil))) (pss_one ps_never) pss_nil))), ?_⟩
    clear hr nd F
    try simp only [U.nox_K, U.cxOf_K]
    refine U.st0 (σ' := [some _]) rfl ?_
    have fc := T.flo
    have ne : decide (v = .non) = false := by
      rcases sc_cases hv hs with ⟨n, rfl, rfl, hn⟩ | ⟨c, rfl, rfl⟩ | ⟨z, rfl, rfl, hz⟩
      all_goals rfl
    walk_at "go"
    refine l_isnV ne ?_
    walk_at "go"
    exact kQ
abbrev s_can_be_key : Stmt := (topS 35)
theorem sc_can_be_key : FnScope ["thing"] ["thing"] (defScope s_can_be_key) := ⟨rfl, rfl, rfl, by decide +kernel, rfl, by decide +kernel, by decide +kernel⟩
theorem ok_can_be_key {f : Addr} {fd : FuncData} (F : Fun K "can_be_key" "can_be_key" s_can_be_key f fd) (T : Txt K mg C TC NC KD NV TH) (G_is_nan : Cal P w K mg base CX0 1 "is_nan" ["number"] (spIsNanS C TC)) : FnOk P w K mg base CX0 2 f fd ["thing"] (spCbk C TC) := by
  refine F.ok sc_can_be_key (fun vs H Q E h => ?_) (fun cdv A outer s H vs Q E hr h => ?_)
  · obtain ⟨v, k, rfl, hv, hs, kQ⟩ := h
    rfl
  · obtain ⟨v, k, rfl, hv, hs, kQ⟩ := h
    have nd := sc_can_be_key.nd
    refine ⟨_, (pss_one (ps_ret (pe_and (pe_callB call_isiT rfl T.b_isinstance (by decide +kernel) (pa_cons (pv 0) (pa_cons (pe_tup (pa_cons (pe_bltn (v := .ty "bool") rfl T.b_bool (by decide +kernel) rfl) (pa_cons (pe_bltn (v := .ty "int") rfl T.b_int (by decide +kernel) rfl) (pa_cons (pe_bltn (v := .ty "str") rfl T.b_str (by decide +kernel) rfl) (pa_cons (pe_gc T.k_Kinded) pa_nil))))) pa_nil))) (pe_one (pe_not (pe_c G_is_nan hr (pa_cons (pv 0) pa_nil))))))), ?_⟩
    clear hr nd F
    try simp only [U.nox_K, U.cxOf_K]
    refine U.st0 (σ' := [some _]) rfl ?_
    have fc := T.flo
    walk_at "go"
    refine l_isi4 (by with_reducible assumption) (hv.same (by walk_at "same")) hs ?_
    walk_at "go"
    exact kQ _ (by walk_at "same")
abbrev s_sum_of_text : Stmt := (topS 38)
theorem sc_sum_of_text : FnScope ["text", "found", "sign"] ["text"] (defScope s_sum_of_text) := ⟨rfl, rfl, rfl, by decide +kernel, rfl, by decide +kernel, by decide +kernel⟩
theorem ok_sum_of_text {f : Addr} {fd : FuncData} (F : Fun K "sum_of_text" "sum_of_text" s_sum_of_text f fd) (T : Txt K mg C TC NC KD NV TH) : FnOk P w K mg base CX0 1 f fd ["text"] (spSumT) := by
  refine F.ok sc_sum_of_text (fun vs H Q E h => ?_) (fun cdv A outer s H vs Q E hr h => ?_)
  · obtain ⟨z, rfl, hz, kQ⟩ := h
    rfl
  · obtain ⟨z, rfl, hz, kQ⟩ := h
    have nd := sc_sum_of_text.nd
    refine ⟨_, (pss_cons (ps_set (i := 1) nd rfl (Or.inl rfl) pe_int) (pss_cons (ps_for PassesOwn.never rfl (pi_str (pv 0)) (pg_name (i := 2) nd rfl (.inl rfl)) (pss_one (ps_set (i := 1) nd rfl (Or.inl rfl) (pe_op op_andMR (pe_op op_add (pe_op op_mul pe_int (pv 1)) (pe_callB call_ord rfl T.b_ord (by decide +kernel) (pa_cons (pv 2) pa_nil))) (pe_gi T.c_SHORT_ONES))))) (pss_one (ps_ret (pv 1))))), ?_⟩
    clear hr nd F
    try simp only [U.nox_K, U.cxOf_K]
    refine U.st0 (σ' := [some _, none, none]) rfl ?_
    walk_at "go"
    refine L2.for_it L2.walk_str (fun i σ H' => ∃ v, σ = [some (.str z), some (.int (sumT (z.cps.toList.take i) 0)), v] ∧ H' = H) ⟨_, rfl, rfl⟩ (fun _ _ _ _ _ => trivial) ?_ ?_
    · rintro i x σ H1 H2 hi ⟨v, rfl, rfl⟩ ⟨rfl, c, hc, rfl⟩
      walk_at "go"
      refine ⟨_, rfl, rfl, ?_⟩
      walk_at "go"
      have e : z.cps.toList.take (i + 1) = z.cps.toList.take i ++ [c] := by
        rw [List.take_succ, show z.cps.toList[i]? = some c by simpa using hc]
        rfl
      rw [e, sumT_snoc]
      exact ⟨_, rfl, rfl⟩
    · rintro σ H1 ⟨v, rfl, rfl⟩
      walk_at "go"
      refine ends kQ (congrArg V.int ?_)
      rw [List.take_of_length_le (by simp)]
abbrev s_sum_of_float : Stmt := (topS 39)
theorem sc_sum_of_float : FnScope ["number", "length", "cut", "found"] ["number"] (defScope s_sum_of_float) := ⟨rfl, rfl, rfl, by decide +kernel, rfl, by decide +kernel, by decide +kernel⟩
theorem ok_sum_of_float {f : Addr} {fd : FuncData} (F : Fun K "sum_of_float" "sum_of_float" s_sum_of_float f fd) : FnOk P w K mg base CX0 1 f fd ["number"] spNo := F.ok sc_sum_of_float (fun _ _ _ _ h => (show False from h).elim) (fun _ _ _ _ _ _ _ _ _ h => (show False from h).elim)
abbrev s_main_position : Stmt := (topS 37)
theorem sc_main_position : FnScope ["key", "many", "odd"] ["key", "many"] (defScope s_main_position) := ⟨rfl, rfl, rfl, by decide +kernel, rfl, by decide +kernel, by decide +kernel⟩
theorem ok_main_position {f : Addr} {fd : FuncData} (F : Fun K "main_position" "main_position" s_main_position f fd) (T : Txt K mg C TC NC KD NV TH) (G_sum_of_text : Cal P w K mg base CX0 1 "sum_of_text" ["text"] (spSumT)) (G_sum_of_float : Cal P w K mg base CX0 1 "sum_of_float" ["number"] (spNo)) : FnOk P w K mg base CX0 2 f fd ["key", "many"] (spMp C TC) := by
  refine F.ok sc_main_position (fun vs H Q E h => ?_) (fun cdv A outer s H vs Q E hr h => ?_)
  · obtain ⟨v, k, n, rfl, hv, hs, n0, n1, kQ⟩ := h
    rfl
  · obtain ⟨v, k, n, rfl, hv, hs, n0, n1, kQ⟩ := h
    have nd := sc_main_position.nd
    refine ⟨_, (pss_cons (ps_set (i := 2) nd rfl (Or.inl rfl) (pe_op op_or (pe_op op_sub (pv 1) pe_int) pe_int)) (pss_cons (ps_if (pt_val (pe_callB call_isi rfl T.b_isinstance (by decide +kernel) (pa_cons (pv 0) (pa_cons (pe_bltn (v := .ty "bool") rfl T.b_bool (by decide +kernel) rfl) pa_nil)))) (pss_one (ps_ret (pe_op op_modN (pe_ifExp (pt_val (pv 0)) pe_int pe_int) (pv 1)))) pss_nil) (pss_cons (ps_if (pt_val (pe_callB call_isi rfl T.b_isinstance (by decide +kernel) (pa_cons (pv 0) (pa_cons (pe_bltn (v := .ty "int") rfl T.b_int (by decide +kernel) rfl) pa_nil)))) (pss_one (ps_ret (pe_op op_modN (pe_op op_andMR (pv 0) (pe_gi T.c_ONES)) (pv 2)))) pss_nil) (pss_cons (ps_if (pt_val (pe_callB call_isi rfl T.b_isinstance (by decide +kernel) (pa_cons (pv 0) (pa_cons (pe_gc T.k_Float) pa_nil)))) (pss_one ps_never) pss_nil) (pss_cons (ps_if (pt_val (pe_callB call_isi rfl T.b_isinstance (by decide +kernel) (pa_cons (pv 0) (pa_cons (pe_bltn (v := .ty "str") rfl T.b_str (by decide +kernel) rfl) pa_nil)))) (pss_one (ps_ret (pe_op op_modN (pe_c G_sum_of_text hr (pa_cons (pv 0) pa_nil)) (pv 1)))) pss_nil) pss_never))))), ?_⟩
    clear hr nd F
    try simp only [U.nox_K, U.cxOf_K]
    refine U.st0 (σ' := [some _, some _, none]) rfl ?_
    have fc := T.flo
    have ho := oddN_pos n0
    rcases sc_cases hv hs with ⟨m, rfl, rfl, hm⟩ | ⟨c, rfl, rfl⟩ | ⟨z, rfl, rfl, hz⟩
    · walk_at "go"
      rw [or_one n0]
      refine l_I (by omega) ?_
      exact ends kQ (congrArg V.int (fmod_odd n0).symm)
    · walk_at "go"
      all_goals refine ends kQ (congrArg V.int (Eq.trans ?_ fmod_n.symm))
      all_goals simp_all [mpI]
    · walk_at "go"
      exact ends kQ (congrArg V.int fmod_n.symm)
abbrev s_Table_has_place : Stmt := (inClass (topS 31) 10)
theorem sc_Table_has_place : FnScope ["self", "key"] ["self", "key"] (defScope s_Table_has_place) := ⟨rfl, rfl, rfl, by decide +kernel, rfl, by decide +kernel, by decide +kernel⟩
theorem ok_Table_has_place {f : Addr} {fd : FuncData} (F : Fun K "has_place" "Table.has_place" s_Table_has_place f fd) (T : Txt K mg C TC NC KD NV TH) (G_is_int : Cal P w K mg base CX0 1 "is_int" ["thing"] (spIsInt K)) : FnOk P w K mg base CX0 2 f fd ["self", "key"] (spHas C TC NC) := by
  refine F.ok sc_Table_has_place (fun vs H Q E h => ?_) (fun cdv A outer s H vs Q E hr h => ?_)
  · obtain ⟨a, v, k, t, w, rfl, ht, hv, hs, kQ⟩ := h
    rfl
  · obtain ⟨a, v, k, t, w, rfl, ht, hv, hs, kQ⟩ := h
    have nd := sc_Table_has_place.nd
    refine ⟨_, (pss_one (ps_ret (pe_and (pe_c G_is_int hr (pa_cons (pv 1) pa_nil)) (pe_one (pe_chain op_le op_le pe_int (pv 1) (pe_callB cLen rfl T.b_len (by decide +kernel) (pa_cons (pe_fld (pv 0) rfl) pa_nil))))))), ?_⟩
    clear hr nd F
    try simp only [U.nox_K, U.cxOf_K]
    refine U.st0 (σ' := [some _, some _]) rfl ?_
    have fc := T.flo
    have tc := T.tab
    have hpl := ht.places
    rcases sc_cases hv hs with ⟨m, rfl, rfl, hm⟩ | ⟨c, rfl, rfl⟩ | ⟨z, rfl, rfl, hz⟩
    all_goals walk_at "go"
    all_goals exact ends kQ (congrArg V.bl (by simp_all [isPl] <;> omega))
abbrev s_Table_node_of : Stmt := (inClass (topS 31) 11)
theorem sc_Table_node_of : FnScope ["self", "key", "with_dead", "at", "node"] ["self", "key", "with_dead"] (defScope s_Table_node_of) := ⟨rfl, rfl, rfl, by decide +kernel, rfl, by decide +kernel, by decide +kernel⟩
theorem ok_Table_node_of {f : Addr} {fd : FuncData} (F : Fun K "node_of" "Table.node_of" s_Table_node_of f fd) (T : Txt K mg C TC NC KD NV TH) (G_can_be_key : Cal P w K mg base CX0 2 "can_be_key" ["thing"] (spCbk C TC)) (G_main_position : Cal P w K mg base CX0 2 "main_position" ["key", "many"] (spMp C TC)) (G_are_equal_keys : Cal P w K mg base CX0 1 "are_equal_keys" ["one", "other"] (spAeq C TC)) : FnOk P w K mg base CX0 3 f fd ["self", "key", "with_dead"] (spNof C TC NC) := by
  refine F.ok sc_Table_node_of (fun vs H Q E h => ?_) (fun cdv A outer s H vs Q E hr h => ?_)
  · obtain ⟨a, v, b, k, t, w, rfl, hT, hv, hs, kQ⟩ := h
    rfl
  · obtain ⟨a, v, b, k, t, w, rfl, hT, hv, hs, kQ⟩ := h
    have nd := sc_Table_node_of.nd
    refine ⟨_, (pss_cons (ps_if (PW.pt (pw_or (pt_cmpR op_eq (pe_callB cLen rfl T.b_len (by decide +kernel) (pa_cons (pe_fld (pv 0) rfl) pa_nil)) pe_int (nomark _)) (pw_or1 (pt_not (pt_val (pe_c G_can_be_key hr (pa_cons (pv 1) pa_nil))))))) (pss_one (ps_ret pe_non)) pss_nil) (pss_cons (ps_set (i := 3) nd rfl (Or.inl rfl) (pe_c G_main_position hr (pa_cons (pv 1) (pa_cons (pe_callB cLen rfl T.b_len (by decide +kernel) (pa_cons (pe_fld (pv 0) rfl) pa_nil)) pa_nil)))) (pss_cons (ps_while PassesOwn.never (pt_cmpR op_notn (pv 3) pe_non (nomark _)) (pss_cons (ps_set (i := 4) nd rfl (Or.inl rfl) (pe_ix ix_list (pe_fld (pv 0) rfl) (pv 3) (fun _ _ => rfl))) (pss_cons (ps_if (pt_cmpR op_isn (pv 4) pe_non (nomark _)) (pss_one (ps_ret pe_non)) pss_nil) (pss_cons (ps_if (PW.pt (pw_and (pt_val (pe_c G_are_equal_keys hr (pa_cons (pe_fld (pv 4) rfl) (pa_cons (pv 1) pa_nil)))) (pw_and1 (PW.pt (pw_or (pt_val (pv 2)) (pw_or1 (pt_not (pt_val (pe_fld (pv 4) rfl))))))))) (pss_one (ps_ret (pv 3))) pss_nil) (pss_one (ps_set (i := 3) nd rfl (Or.inl rfl) (pe_fld (pv 4) rfl))))))) (pss_one (ps_ret pe_non))))), ?_⟩
    clear hr nd F
    try simp only [U.nox_K, U.cxOf_K]
    refine U.st0 (σ' := [some _, some _, some _, none, none]) rfl ?_
    have tc := T.tab
    have nc := T.nod
    have ht := hT.at_
    have hnl := ht.nodes
    have hlen := ht.len
    have hsz := hT.szN
    walk_at "go"
    · rename_i hz
      have e0 : t.nodes = [] := List.eq_nil_of_length_eq_zero (by rw [List.length_map] at hz; omega)
      exact ends (kQ _ (Same.refl _)) (by rw [e0]; rfl)
    · rename_i hz H1 s1
      rw [List.length_map] at hz
      rw [List.length_map, hlen]
      have n0 : 0 < t.nodes.length := by omega
      walk_at "go"
      obtain ⟨r, hr⟩ := hT.wf.rank
      have hmp := mpK_lt (k := k) n0
      refine ⟨fun m σ H' => Same H H' ∧ ∃ (cur : Option Nat) (v4 : Option V), σ = [some (.ref a), some v, some (.bl b), some (lnV cur), v4] ∧ On t.nodes k cur ∧ (∀ i, cur = some i → i < t.nodes.length) ∧ m = (match cur with | some i => r i + 1 | none => 0), ⟨_, s1, some (mpK t.nodes.length k), none, by rw [← mpK_int n0]; rfl, on_start hT.wf k, fun i e => by cases e; exact hmp, rfl⟩, ?_⟩
      rintro m σ H2 ⟨s2, cur, v4, rfl, hon, hlt, rfl⟩
      cases cur with
      | none =>
        simp only [lnV]
        walk_at "go"
        exact ends (kQ _ s2) (by rw [show look t.nodes k = none from hon]; rfl)
      | some i =>
        simp only [lnV]
        walk_at "go"
        refine ⟨_, fun σ' H' h => h, ?_⟩
        walk_at "go"
        have hi := hlt i rfl
        have hia : i < w.as.length := by omega
        cases ei : w.as[i] with
        | none =>
          refine l_ixN (s2 _ _ hnl) (by omega) (x := .non) (by rw [List.getElem?_map, Int.toNat_natCast, List.getElem?_eq_getElem hia, ei]; rfl) ?_
          walk_at "go"
          refine ends (kQ _ s2) ?_
          have gp := ht.gaps i (by rw [List.getElem?_eq_getElem hia, ei])
          rw [on_gap hon (fun nd z => by unfold At at z; rw [gp] at z; cases z)]
          rfl
        | some p =>
          obtain ⟨nd, hat, dx, kv, hp, hkv⟩ := ht.node i p (by rw [List.getElem?_eq_getElem hia, ei])
          have hsc := hT.sc i nd hat
          refine l_ixN (s2 _ _ hnl) (by omega) (x := .ref p) (by rw [List.getElem?_map, Int.toNat_natCast, List.getElem?_eq_getElem hia, ei]; rfl) ?_
          walk_at "go"
          · rename_i hk _
            exact ends (kQ _ s2) (by rw [← hk, look_at hT.wf hat]; rfl)
          · rename_i hk _
            exact ends (kQ _ s2) (by rw [← hk, look_at hT.wf hat]; rfl)
          · rename_i hk
            refine ⟨_, ?_, s2, nd.link, _, rfl, on_next hon hat hk, fun j e => (hT.wf.to i nd j hat e).elim fun x hx => hx.lt, rfl⟩
            cases el : nd.link with
            | none => exact Nat.succ_pos _
            | some j => exact Nat.succ_lt_succ (hr i nd j hat el)
abbrev s_Table_get : Stmt := (inClass (topS 31) 4)
theorem sc_Table_get : FnScope ["self", "key", "at"] ["self", "key"] (defScope s_Table_get) := ⟨rfl, rfl, rfl, by decide +kernel, rfl, by decide +kernel, by decide +kernel⟩
theorem ok_Table_get {f : Addr} {fd : FuncData} (F : Fun K "get" "Table.get" s_Table_get f fd) (T : Txt K mg C TC NC KD NV TH) (G_counted_key : Cal P w K mg base CX0 2 "counted_key" ["key"] (spCk C TC)) (G_has_place : CalN P w K mg base 2 TC "has_place" ["self", "key"] (spHas C TC NC)) (G_node_of : CalN P w K mg base 3 TC "node_of" ["self", "key", "with_dead"] (spNof C TC NC)) : FnOk P w K mg base CX0 4 f fd ["self", "key"] (spGet C TC NC) := by
  refine F.ok sc_Table_get (fun vs H Q E h => ?_) (fun cdv A outer s H vs Q E hr h => ?_)
  · obtain ⟨a, v, k, t, w, rfl, hT, hv, hs, kQ⟩ := h
    rfl
  · obtain ⟨a, v, k, t, w, rfl, hT, hv, hs, kQ⟩ := h
    have nd := sc_Table_get.nd
    refine ⟨_, (pss_cons (ps_set (i := 1) nd rfl (Or.inl rfl) (pe_c G_counted_key hr (pa_cons (pv 1) pa_nil))) (pss_cons (ps_if (pt_val (pe_mt1 G_has_place hr (pv 0) (pa_cons (pv 1) pa_nil))) (pss_one (ps_ret (pe_ix ix_list (pe_fld (pv 0) rfl) (pe_op op_sub (pv 1) pe_int) (fun _ _ => rfl)))) pss_nil) (pss_cons (ps_set (i := 2) nd rfl (Or.inl rfl) (pe_mt1 G_node_of hr (pv 0) (pa_cons (pv 1) (pa_cons pe_bl pa_nil)))) (pss_one (ps_ret (pe_ifExp (pt_cmpR op_isn (pv 2) pe_non (nomark _)) pe_non (pe_fld (pe_ix ix_list (pe_fld (pv 0) rfl) (pv 2) (fun _ _ => rfl)) rfl))))))), ?_⟩
    clear hr nd F
    try simp only [U.nox_K, U.cxOf_K]
    refine U.st0 (σ' := [some _, some _, none]) rfl ?_
    have tc := T.tab
    have nc := T.nod
    have ht := hT.at_
    have hnl := ht.nodes
    have hpl := ht.places
    have hlen := ht.len
    walk_at "go"
    · rename_i hz
      obtain ⟨n, rfl⟩ := isPl_i hz
      obtain ⟨h1, h2, x, hx, hg⟩ := getM_pl hz
      obtain ⟨rfl, -⟩ := hv
      walk_at "go"
      refine l_ixN hpl (by omega) hx ?_
      exact ends (kQ _ (Same.refl _)) hg
    · rename_i hz H1 s1
      have hg := getM_no hz
      cases el : look t.nodes k with
      | none =>
        rw [el] at hg
        simp only [lnV]
        walk_at "go"
        exact ends (kQ _ s1) hg
      | some i =>
        rw [el] at hg
        obtain ⟨nd, hat, hk⟩ := look_some el
        obtain ⟨p, dx, kv, ei, hp, hkv⟩ := ht.at hat
        have hg : getM t k = ndVal t.nodes i := hg
        rw [ndVal_at hat] at hg
        simp only [lnV]
        walk_at "go"
        refine l_ixN (s1 _ _ hnl) (by omega) (x := .ref p) (by rw [List.getElem?_map, Int.toNat_natCast, ei]; rfl) ?_
        walk_at "go"
        exact ends (kQ _ s1) hg
abbrev s_Node_init : Stmt := (inClass (topS 30) 0)
theorem sc_Node_init : FnScope ["self", "key", "value", "link"] ["self", "key", "value", "link"] (defScope s_Node_init) := ⟨rfl, rfl, rfl, by decide +kernel, rfl, by decide +kernel, by decide +kernel⟩
theorem ok_Node_init {f : Addr} {fd : FuncData} (F : Fun K "__init__" "Node.__init__" s_Node_init f fd) (T : Txt K mg C TC NC KD NV TH) : FnOk P w K mg base CX0 1 f fd ["self", "key", "value", "link"] (spNodI NC) := by
  refine F.ok sc_Node_init (fun vs H Q E h => ?_) (fun cdv A outer s H vs Q E hr h => ?_)
  · obtain ⟨x, dx, kv, v, l, rfl, hx, k⟩ := h
    rfl
  · obtain ⟨x, dx, kv, v, l, rfl, hx, k⟩ := h
    have nd := sc_Node_init.nd
    refine ⟨_, (pss_cons (ps_fld (pv 0) (pv 1) rfl) (pss_cons (ps_fld (pv 0) (pv 2) rfl) (pss_cons (ps_fld (pv 0) (pv 3) rfl) (pss_one (ps_fld (pv 0) pe_bl rfl))))), ?_⟩
    clear hr nd F
    try simp only [U.nox_K, U.cxOf_K]
    refine U.st0 (σ' := [some _, some _, some _, some _]) rfl ?_
    have nc := T.nod
    walk_at "go"
    refine ⟨x, NC, dx, _, rfl, hx, nc.cl, nc.nKey, by decide, ?_⟩
    walk_at "go"
    refine ⟨x, NC, dx, _, rfl, upd_same, nc.cl, nc.nValue, by show 1 < 1000; decide, ?_⟩
    walk_at "go"
    refine ⟨x, NC, dx, _, rfl, upd_same, nc.cl, nc.nLink, by show 2 < 1000; decide, ?_⟩
    walk_at "go"
    refine ⟨x, NC, dx, _, rfl, upd_same, nc.cl, nc.nDead, by show 3 < 1000; decide, ?_⟩
    walk_at "go"
    exact k _ (fun b o n e => by rw [upd_ne n, upd_ne n, upd_ne n, upd_ne n]; exact e) upd_same
abbrev s_Table_find_free : Stmt := (inClass (topS 31) 16)
theorem sc_Table_find_free : FnScope ["self"] ["self"] (defScope s_Table_find_free) := ⟨rfl, rfl, rfl, by decide +kernel, rfl, by decide +kernel, by decide +kernel⟩
theorem ok_Table_find_free {f : Addr} {fd : FuncData} (F : Fun K "find_free" "Table.find_free" s_Table_find_free f fd) (T : Txt K mg C TC NC KD NV TH) : FnOk P w K mg base CX0 1 f fd ["self"] (spFree C TC NC) := by
  refine F.ok sc_Table_find_free (fun vs H Q E h => ?_) (fun cdv A outer s H vs Q E hr h => ?_)
  · obtain ⟨a, t, w, rfl, hT, h1, h2, kQ⟩ := h
    rfl
  · obtain ⟨a, t, w, rfl, hT, h1, h2, kQ⟩ := h
    have nd := sc_Table_find_free.nd
    refine ⟨_, (pss_cons (ps_while PassesOwn.never (pt_cmpR op_gt (pe_fld (pv 0) rfl) pe_int (nomark _)) (pss_cons (ps_fldaug (pv 0) pe_int in_sub) (pss_one (ps_if (pt_cmpR op_isn (pe_ix ix_list (pe_fld (pv 0) rfl) (pe_fld (pv 0) rfl) (fun _ _ => rfl)) pe_non (nomark _)) (pss_one (ps_ret pe_bl)) pss_nil)))) (pss_one (ps_ret pe_bl))), ?_⟩
    clear hr nd F
    try simp only [U.nox_K, U.cxOf_K]
    refine U.st0 (σ' := [some _]) rfl ?_
    have tc := T.tab
    have hlen := hT.len
    walk_at "go"
    refine ⟨fun m σ H' => σ = [some (.ref a)] ∧ Frm a H H' ∧ TabAt C TC NC H' a { t with free := m } w ∧ m ≤ t.free ∧ down t.nodes t.free = down t.nodes m, ⟨_, rfl, fun _ _ _ e => e, hT, Nat.le_refl _, rfl⟩, ?_⟩
    rintro m σ H2 ⟨rfl, f2, t2, hm, hd⟩
    walk_at "go"
    · refine ⟨_, fun σ' H' h => h, ?_⟩
      rename_i hpos
      have hpos : 0 < m := by
        have h : (0 : Int) < (m : Int) := hpos
        omega
      obtain ⟨m, rfl⟩ : ∃ j, m = j + 1 := ⟨m - 1, by omega⟩
      refine ⟨_, rfl, a, TC, w.dx, _, _, rfl, t2.obj, tc.cl, tc.nFree, tfs_free, ?_⟩
      walk_at "go"
      refine ⟨_, _, rfl, rfl, ?_⟩
      refine ⟨w.dx, _, t2.obj, by show 5 < 1000; decide, ?_⟩
      rw [tfs_pf (f := m) (show ((m + 1 : Nat) : Int) - 1 = (m : Int) by omega)]
      have t3 : TabAt C TC NC (upd H2 a (.ins TC w.dx (tfs t.num t.mt w.pl w.nl m))) a { t with free := m } w := t2.setFree T.cls m
      have f3 : Frm a H (upd H2 a (.ins TC w.dx (tfs t.num t.mt w.pl w.nl m))) := fun b o n e => by rw [upd_ne n]; exact f2 b o n e
      show _
      generalize upd H2 a (.ins TC w.dx (tfs t.num t.mt w.pl w.nl m)) = H3 at t3 f3 ⊢
      have hnl := t3.nodes
      have hml : m < w.as.length := by omega
      walk_at "go"
      cases em : w.as[m] with
      | none =>
        refine l_ixN (i := (m : Int)) hnl (by omega) (x := .non) (by rw [List.getElem?_map, Int.toNat_natCast, List.getElem?_eq_getElem hml, em]; rfl) ?_
        walk_at "go"
        have hg : t.nodes[m]? = some none := t3.gaps m (by rw [List.getElem?_eq_getElem hml, em])
        have hd2 : down t.nodes t.free = some m := hd.trans (down_gap hg)
        have hft : freeTo t = m := by unfold freeTo; rw [hd2]
        exact ends (kQ H3 f3 (by rw [hft]; exact t3)) (by rw [hd2]; rfl)
      | some p =>
        refine l_ixN (i := (m : Int)) hnl (by omega) (x := .ref p) (by rw [List.getElem?_map, Int.toNat_natCast, List.getElem?_eq_getElem hml, em]; rfl) ?_
        walk_at "go"
        obtain ⟨nd, hat, _⟩ := t3.node m p (by rw [List.getElem?_eq_getElem hml, em])
        exact ⟨m, Nat.lt_succ_self _, rfl, f3, t3, by omega, hd.trans (down_occ hat)⟩
    · rename_i hz
      have hz : m = 0 := by
        have h : ¬ (0 : Int) < (m : Int) := hz
        omega
      subst hz
      have hd2 : down t.nodes t.free = none := hd
      have hft : freeTo t = 0 := by unfold freeTo; rw [hd2]
      exact ends (kQ H2 f2 (by rw [hft]; exact t2)) (by rw [hd2]; rfl)
abbrev s_Table_put_beside : Stmt := (inClass (topS 31) 15)
theorem sc_Table_put_beside : FnScope ["self", "at", "key", "value", "node", "home", "ahead"] ["self", "at", "key", "value"] (defScope s_Table_put_beside) := ⟨rfl, rfl, rfl, by decide +kernel, rfl, by decide +kernel, by decide +kernel⟩
theorem ok_Table_put_beside {f : Addr} {fd : FuncData} (F : Fun K "put_beside" "Table.put_beside" s_Table_put_beside f fd) (T : Txt K mg C TC NC KD NV TH) (G_main_position : Cal P w K mg base CX0 2 "main_position" ["key", "many"] (spMp C TC)) (G_Node : CalD P w K mg base 1 "Node" NC ["self", "key", "value", "link"] (spNodI NC) []) : FnOk P w K mg base CX0 3 f fd ["self", "at", "key", "value"] (spBeside C TC NC) := by
  refine F.ok sc_Table_put_beside (fun vs H Q E h => ?_) (fun cdv A outer s H vs Q E hr h => ?_)
  · obtain ⟨a, kv, v, k, t, w, fr, nd, rfl, hT, wf, hsc, hsz, hat, hgap, hk, hs, kQ⟩ := h
    rfl
  · obtain ⟨a, kv, v, k, t, w, fr, nd, rfl, hT, wf, hsc, hsz, hat, hgap, hk, hs, kQ⟩ := h
    have nd := sc_Table_put_beside.nd
    refine ⟨_, (pss_cons (ps_set (i := 4) nd rfl (Or.inl rfl) (pe_ix ix_list (pe_fld (pv 0) rfl) (pv 1) (fun _ _ => rfl))) (pss_cons (ps_set (i := 5) nd rfl (Or.inl rfl) (pe_c G_main_position hr (pa_cons (pe_fld (pv 4) rfl) (pa_cons (pe_callB cLen rfl T.b_len (by decide +kernel) (pa_cons (pe_fld (pv 0) rfl) pa_nil)) pa_nil)))) (pss_cons (ps_if (pt_cmpR op_eq (pv 5) (pv 1) (nomark _)) (pss_cons (ps_asg (pe_mkD G_Node hr (pa_cons (pv 2) (pa_cons (pv 3) (pa_cons (pe_fld (pv 4) rfl) pa_nil)))) (pg_sub (pe_fld (pv 0) rfl) (pe_fld (pv 0) rfl) set_list)) (pss_cons (ps_fld (pv 4) (pe_fld (pv 0) rfl) rfl) (pss_one ps_retN))) pss_nil) (pss_cons (ps_set (i := 6) nd rfl (Or.inl rfl) (pe_ix ix_list (pe_fld (pv 0) rfl) (pv 5) (fun _ _ => rfl))) (pss_cons (ps_while PassesOwn.never (pt_cmpR op_ne (pe_fld (pv 6) rfl) (pv 1) (nomark _)) (pss_one (ps_set (i := 6) nd rfl (Or.inl rfl) (pe_ix ix_list (pe_fld (pv 0) rfl) (pe_fld (pv 6) rfl) (fun _ _ => rfl))))) (pss_cons (ps_fld (pv 6) (pe_fld (pv 0) rfl) rfl) (pss_cons (ps_asg (pv 4) (pg_sub (pe_fld (pv 0) rfl) (pe_fld (pv 0) rfl) set_list)) (pss_one (ps_asg (pe_mkD G_Node hr (pa_cons (pv 2) (pa_cons (pv 3) (pa_cons pe_non pa_nil)))) (pg_sub (pe_fld (pv 0) rfl) (pv 1) set_list)))))))))), ?_⟩
    clear hr nd F
    try simp only [U.nox_K, U.cxOf_K]
    refine U.st0 (σ' := [some _, some _, some _, some _, none, none, none]) rfl ?_
    have tc := T.tab
    have nc := T.nod
    have hlen := hT.len
    have hnl := hT.nodes
    obtain ⟨p, dx, kv0, hp, hn, hk0⟩ := hT.at hat
    have hsd := hsc _ _ hat
    have n0 : 0 < t.nodes.length := Nat.lt_of_le_of_lt (Nat.zero_le _) hat.lt
    walk_at "go"
    refine l_ixN hnl (by omega) (x := .ref p) (by rw [List.getElem?_map, Int.toNat_natCast, hp]; rfl) ?_
    walk_at "go"
    rw [List.length_map, hlen]
    walk_at "go"
    · rename_i hm q dq G nq sq hq
      have hm : mpK t.nodes.length nd.key = mpK t.nodes.length k := by
        rw [← mpK_int n0] at hm
        omega
      have hfl : t.free < t.nodes.length := (List.getElem?_eq_some_iff.mp hgap).1
      have nfa : t.free ≠ mpK t.nodes.length k := fun e => by
        unfold At at hat
        rw [← e, hgap] at hat
        cases hat
      refine ⟨w.nl, _, _, t.free, rfl, rfl, sq _ _ hnl, ixN_nat (by rw [List.length_map]; omega), ?_⟩
      have t1 := hT.newNode hgap nq sq hq hk
      have hn3 : upd G w.nl (.lst ((w.as.map nodeV).set t.free (.ref q))) p = some (.ins NC dx (nfs kv0 nd.val (lnV nd.link))) := by rw [upd_ne (hT.anode hp).2.2]; exact sq _ _ hn
      have k3 : U.KV C TC (upd G w.nl (.lst ((w.as.map nodeV).set t.free (.ref q)))) kv0 nd.key := (hk0.same sq).kp (Kp.lst (sq _ _ hnl))
      have f3 : FrO (w.own a) H (upd G w.nl (.lst ((w.as.map nodeV).set t.free (.ref q)))) := (FrO.of sq).lst (.inr (.inr (.inl rfl)))
      generalize upd G w.nl (.lst ((w.as.map nodeV).set t.free (.ref q))) = H3 at t1 hn3 k3 f3 ⊢
      walk_at "go"
      refine ⟨p, NC, dx, _, rfl, hn3, nc.cl, nc.nLink, by show 4 < 1000; decide, ?_⟩
      rw [nfs_pl]
      have at1 : At ({ t with nodes := t.nodes.set t.free (some ⟨k, v, nd.link⟩) } : TM).nodes (mpK t.nodes.length k) nd := at_set.mpr (.inr ⟨nfa, hat⟩)
      have hp1 : (w.as.set t.free (some q))[mpK t.nodes.length k]? = some (some p) := by rw [List.getElem?_set_ne nfa]; exact hp
      have t4 := t1.setNode T.cls (l := some t.free) (v := nd.val) at1 hp1 hn3 k3
      walk_at "go"
      refine kQ _ ⟨{ w with as := w.as.set t.free (some q) }, ?_, f3.lst (own_at hp), fun b hb => ?_⟩
      · rw [beside_second hat hm]
        exact t4
      · rcases own_set hb with z | z
        · exact .inl z
        · rw [z]; exact .inr nq
    · rename_i hm
      have hm : mpK t.nodes.length nd.key ≠ mpK t.nodes.length k := fun e => hm (by rw [← mpK_int n0]; omega)
      obtain ⟨hd0, hh, _⟩ := wf.home _ _ hat
      obtain ⟨ph, dh, kh, eh, hnh, hkh⟩ := hT.at hh
      refine l_ixN hnl (by rw [← mpK_int n0]; omega) (x := .ref ph) (by rw [List.getElem?_map, ← mpK_int n0, Int.toNat_natCast, eh]; rfl) ?_
      walk_at "go"
      obtain ⟨r, hr⟩ := wf.rank
      refine ⟨fun m σ H' => H' = H ∧ ∃ (i : Nat) (pi : Addr) (x : Nd Ky V), σ = [some (.ref a), some (.int (mpK t.nodes.length k)), some kv, some v, some (.ref p), some (.int (mpI nd.key t.nodes.length)), some (.ref pi)] ∧ w.as[i]? = some (some pi) ∧ At t.nodes i x ∧ Rc t.nodes i (mpK t.nodes.length k) ∧ i ≠ mpK t.nodes.length k ∧ m = r i, ⟨_, rfl, _, ph, hd0, rfl, eh, hh, wf.reach _ _ hat, hm, rfl⟩, ?_⟩
      rintro m σ H2 ⟨rfl, i, pi, x, rfl, ei, hi, hrc, hne, rfl⟩
      obtain ⟨x', hi', di, ki, hni, hki⟩ := hT.node i pi ei
      have hxx := At.inj hi hi'
      subst hxx
      obtain ⟨j, hl, hrj⟩ : ∃ j, x.link = some j ∧ Rc t.nodes j (mpK t.nodes.length k) := by
        cases hrc with
        | refl => exact absurd rfl hne
        | step b l rr => rw [At.inj hi b]; exact ⟨_, l, rr⟩
      rw [hl] at hni
      simp only [lnV] at hni
      walk_at "go"
      · rename_i hjn
        refine ⟨_, fun σ' H' h => h, ?_⟩
        obtain ⟨y, hy⟩ := wf.to _ _ _ hi hl
        obtain ⟨pj, dj, kj, ej, hnj, hkj⟩ := hT.at hy
        walk_at "go"
        refine l_ixN (i := (j : Int)) hnl (by omega) (x := .ref pj) (by rw [List.getElem?_map, Int.toNat_natCast, ej]; rfl) ?_
        walk_at "go"
        exact ⟨r j, hr _ _ _ hi hl, rfl, j, pj, y, rfl, ej, hy, hrj, fun e => hjn (by rw [e]), rfl⟩
      · rename_i hjn
        have hjn : j = mpK t.nodes.length k := by omega
        have hfl : t.free < t.nodes.length := (List.getElem?_eq_some_iff.mp hgap).1
        have nif : i ≠ t.free := fun e => by
          unfold At at hi
          rw [e, hgap] at hi
          cases hi
        refine ⟨pi, NC, di, _, rfl, hni, nc.cl, nc.nLink, by show 4 < 1000; decide, ?_⟩
        rw [nfs_pl]
        have t1 := hT.setNode T.cls (l := some t.free) (v := x.val) hi ei hni hki
        have f1 : FrO (w.own a) H2 (upd H2 pi (.ins NC di (nfs ki x.val (.int t.free)))) := FrO.refl.lst (own_at ei)
        have k1 : U.KV C TC (upd H2 pi (.ins NC di (nfs ki x.val (.int t.free)))) kv k := hk.kp (kpN T.cls hni)
        have fq : ∀ q, upd H2 pi (.ins NC di (nfs ki x.val (.int t.free))) q = none → H2 q = none := fun q e => by
          by_cases z : q = pi
          · rw [z, upd_same] at e; cases e
          · rw [upd_ne z] at e; exact e
        have t1 : TabAt C TC NC (upd H2 pi (.ins NC di (nfs ki x.val (.int t.free)))) a { t with nodes := t.nodes.set i (some ⟨x.key, x.val, some t.free⟩) } w := t1
        generalize upd H2 pi (.ins NC di (nfs ki x.val (.int t.free))) = H3 at t1 f1 k1 fq ⊢
        have at1 : At ({ t with nodes := t.nodes.set i (some ⟨x.key, x.val, some t.free⟩) } : TM).nodes (mpK t.nodes.length k) nd := at_set.mpr (.inr ⟨hne, hat⟩)
        have g1 : (t.nodes.set i (some ⟨x.key, x.val, some t.free⟩))[t.free]? = some none := by rw [List.getElem?_set_ne nif]; exact hgap
        walk_at "go"
        refine ⟨w.nl, _, _, t.free, rfl, rfl, t1.nodes, ixN_nat (by rw [List.length_map, hlen]; exact hfl), ?_⟩
        have o4 : upd H3 w.nl (.lst ((w.as.map nodeV).set t.free (.ref p))) a = some (.ins TC w.dx (tfs t.num t.mt w.pl w.nl t.free)) := by rw [upd_ne t1.anl]; exact t1.obj
        walk_at "go"
        rename_i q dq G nq sq hq
        refine ⟨w.nl, _, _, mpK t.nodes.length k, rfl, rfl, sq _ _ upd_same, ixN_nat (by rw [List.length_set, List.length_map, hlen]; exact hat.lt), ?_⟩
        have nq3 : H3 q = none := by
          by_cases z : q = w.nl
          · rw [z, upd_same] at nq; cases nq
          · rw [upd_ne z] at nq; exact nq
        have t5 := t1.moved at1 hp g1 nq3 sq hq k1
        walk_at "go"
        refine kQ _ ⟨{ w with as := (w.as.set t.free (some p)).set (mpK t.nodes.length k) (some q) }, ?_, ((f1.lst (.inr (.inr (.inl rfl)))).same sq).lst (.inr (.inr (.inl rfl))), fun b hb => ?_⟩
        · rw [beside_move wf hat hm hi (by rw [hl, hjn])]
          exact t5
        · rcases own_set (w := { w with as := w.as.set t.free (some p) }) hb with z | z
          · rcases own_set z with z | z
            · exact .inl z
            · rw [z]; exact .inl (own_at hp)
          · rw [z]; exact .inr (fq _ nq3)
abbrev s_unused_nodes : Stmt := (topS 32)
theorem sc_unused_nodes : FnScope ["many"] ["many"] (defScope s_unused_nodes) := ⟨rfl, rfl, rfl, by decide +kernel, rfl, by decide +kernel, by decide +kernel⟩
theorem ok_unused_nodes {f : Addr} {fd : FuncData} (F : Fun K "unused_nodes" "unused_nodes" s_unused_nodes f fd) (T : Txt K mg C TC NC KD NV TH) : FnOk P w K mg base CX0 1 f fd ["many"] (spUnN) := by
  refine F.ok sc_unused_nodes (fun vs H Q E h => ?_) (fun cdv A outer s H vs Q E hr h => ?_)
  · obtain ⟨n, rfl, hn, kQ⟩ := h
    rfl
  · obtain ⟨n, rfl, hn, kQ⟩ := h
    have nd := sc_unused_nodes.nd
    refine ⟨_, (pss_cons (ps_if (pt_cmpR op_eq (pv 0) pe_int (nomark _)) (pss_one (ps_ret (pe_lst pa_nil))) pss_nil) (pss_one (ps_ret (pe_op op_rep (pe_lst (pa_cons pe_non pa_nil)) (pe_op op_shl pe_int (pe_bits (pe_op op_sub (pv 0) pe_int))))))), ?_⟩
    clear hr nd F
    try simp only [U.nox_K, U.cxOf_K]
    refine U.st0 (σ' := [some _]) rfl ?_
    walk_at "go"
    · rename_i hz p H2 hn1 hs hp
      have hz : n = 0 := by
        have h : (n : Int) = 0 := hz
        omega
      subst hz
      exact kQ _ _ hn1 hs hp
    · rename_i hz p H2 hn1 hs hp
      have hz : n ≠ 0 := fun e => hz (show (n : Int) = 0 by omega)
      refine l_1shl (by have := bits_sz hz hn; omega) ?_
      rw [← sz_pos hz]
      have hle := sz_le n
      refine l_repN (n := sz n) (by omega) (by omega) (by omega) hp (by have := sz_le n; have : sizeLine = 16777216 := rfl; omega) (fun p2 H3 hn2 hs2 hp2 => ?_)
      exact kQ _ _ (hs.free hn2) (hs.trans hs2) hp2
abbrev s_Table_put_new : Stmt := (inClass (topS 31) 14)
theorem sc_Table_put_new : FnScope ["self", "key", "value", "at", "node"] ["self", "key", "value"] (defScope s_Table_put_new) := ⟨rfl, rfl, rfl, by decide +kernel, rfl, by decide +kernel, by decide +kernel⟩
theorem ok_Table_put_new_0 {f : Addr} {fd : FuncData} (F : Fun K "put_new" "Table.put_new" s_Table_put_new f fd) (T : Txt K mg C TC NC KD NV TH) (G_main_position : Cal P w K mg base CX0 2 "main_position" ["key", "many"] (spMp C TC)) (G_Node : CalD P w K mg base 1 "Node" NC ["self", "key", "value", "link"] (spNodI NC) []) (G_find_free : CalN P w K mg base 1 TC "find_free" ["self"] (spFree C TC NC)) (G_put_beside : CalN P w K mg base 3 TC "put_beside" ["self", "at", "key", "value"] (spBeside C TC NC)) (G_grow_and_put : CalN P w K mg base 1 TC "grow_and_put" ["self", "key", "value"] (spNo)) : FnOk P w K mg base CX0 4 f fd ["self", "key", "value"] (spPutN0 C TC NC) := by
  refine F.ok sc_Table_put_new (fun vs H Q E h => ?_) (fun cdv A outer s H vs Q E hr h => ?_)
  · obtain ⟨a, kv, v, k, t, w, ns, f, rfl, hT, hlk, hk, hs, hi, kQ⟩ := h
    rfl
  · obtain ⟨a, kv, v, k, t, w, ns, f, rfl, hT, hlk, hk, hs, hi, kQ⟩ := h
    have nd := sc_Table_put_new.nd
    refine ⟨_, (pss_cons (ps_if (pt_cmpR op_eq (pe_callB cLen rfl T.b_len (by decide +kernel) (pa_cons (pe_fld (pv 0) rfl) pa_nil)) pe_int (nomark _)) (pss_cons ps_never (pss_one ps_retN)) pss_nil) (pss_cons (ps_set (i := 3) nd rfl (Or.inl rfl) (pe_c G_main_position hr (pa_cons (pv 1) (pa_cons (pe_callB cLen rfl T.b_len (by decide +kernel) (pa_cons (pe_fld (pv 0) rfl) pa_nil)) pa_nil)))) (pss_cons (ps_set (i := 4) nd rfl (Or.inl rfl) (pe_ix ix_list (pe_fld (pv 0) rfl) (pv 3) (fun _ _ => rfl))) (pss_one (ps_if (pt_cmpR op_isn (pv 4) pe_non (nomark _)) (pss_one (ps_asg (pe_mkD G_Node hr (pa_cons (pv 1) (pa_cons (pv 2) (pa_cons pe_non pa_nil)))) (pg_sub (pe_fld (pv 0) rfl) (pv 3) set_list))) (pss_one (ps_if (pt_cmpR op_isn (pe_fld (pv 4) rfl) pe_non (nomark _)) (pss_cons (ps_fld (pv 4) (pv 1) rfl) (pss_cons (ps_fld (pv 4) (pv 2) rfl) (pss_one (ps_fld (pv 4) pe_bl rfl)))) (pss_one (ps_if (pt_val (pe_mt0 G_find_free hr (pv 0))) (pss_one (ps_expr (pe_mt1 G_put_beside hr (pv 0) (pa_cons (pv 3) (pa_cons (pv 1) (pa_cons (pv 2) pa_nil)))))) (pss_one ps_never)))))))))), ?_⟩
    clear hr nd F
    try simp only [U.nox_K, U.cxOf_K]
    refine U.st0 (σ' := [some _, some _, some _, none, none]) rfl ?_
    have tc := T.tab
    have nc := T.nod
    have ht := hT.at_
    have hnl := ht.nodes
    have hlen := ht.len
    have hsz := hT.szN
    have n0 := ins_pos hi
    walk_at "go"
    · rename_i hz
      exfalso
      rw [List.length_map] at hz
      omega
    rw [List.length_map, hlen]
    walk_at "go"
    have hml := mpK_lt (k := k) n0
    rw [← mpK_int n0]
    have hia : mpK t.nodes.length k < w.as.length := by omega
    cases em : w.as[mpK t.nodes.length k] with
    | none =>
      have hg : t.nodes[mpK t.nodes.length k]? = some none := ht.gaps _ (by rw [List.getElem?_eq_getElem hia, em])
      refine l_ixN hnl (by omega) (x := .non) (by rw [List.getElem?_map, Int.toNat_natCast, List.getElem?_eq_getElem hia, em]; rfl) ?_
      walk_at "go"
      rename_i q dq G nq sq hq
      refine ⟨w.nl, _, _, mpK t.nodes.length k, rfl, rfl, sq _ _ hnl, ixN_nat (by rw [List.length_map]; exact hia), ?_⟩
      have t1 := ht.newNode (l := none) hg nq sq hq hk
      walk_at "go"
      rw [ins_fresh hg] at hi
      cases hi
      refine kQ _ ⟨{ w with as := w.as.set (mpK t.nodes.length k) (some q) }, t1, (FrO.of sq).lst (.inr (.inr (.inl rfl))), fun b hb => ?_⟩
      rcases own_set hb with z | z
      · exact .inl z
      · rw [z]; exact .inr nq
    | some p =>
      obtain ⟨nd, hat, dx, kv0, hp, hkv⟩ := ht.node _ p (by rw [List.getElem?_eq_getElem hia, em])
      have ep : w.as[mpK t.nodes.length k]? = some (some p) := by rw [List.getElem?_eq_getElem hia, em]
      refine l_ixN hnl (by omega) (x := .ref p) (by rw [List.getElem?_map, Int.toNat_natCast, ep]; rfl) ?_
      walk_at "go"
      refine l_isnD (fun hv => ?_) (fun hv => ?_)
      · walk_at "go"
        refine ⟨p, NC, dx, _, rfl, hp, nc.cl, nc.nKey, by show 4 < 1000; decide, ?_⟩
        rw [nfs_pk]
        walk_at "go"
        refine ⟨p, NC, dx, _, rfl, upd_same, nc.cl, nc.nValue, by show 4 < 1000; decide, ?_⟩
        rw [nfs_pv, upd2]
        walk_at "go"
        refine ⟨p, NC, dx, _, rfl, upd_same, nc.cl, nc.nDead, by show 4 < 1000; decide, ?_⟩
        rw [nfs_pd, upd2]
        walk_at "go"
        have t1 := ht.setNode T.cls (l := nd.link) (v := v) hat ep hp hk
        rw [ins_reuse hat hv] at hi
        cases hi
        exact kQ _ ⟨w, t1, FrO.refl.lst (own_at ep), fun b z => .inl z⟩
      · walk_at "go"
        refine l_free ht hT.wf.le hsz (fun H1 f1 t1 => ?_)
        cases hd : down t.nodes t.free with
        | none => rw [ins_full hat hv hd] at hi; cases hi
        | some f1' =>
          have hft : freeTo t = f1' := by unfold freeTo; rw [hd]
          rw [ins_beside hT.wf hat hv hd] at hi
          cases hi
          rw [hft] at t1
          obtain ⟨d1, d2, d3⟩ := down_some hd
          walk_at "go"
          · refine l_bes (t := { t with free := f }) t1 hT.wf hT.sc hsz hat d2 (hk.sc hs) hs (fun H2 x2 => ?_)
            walk_at "go"
            exact kQ _ (x2.frm f1 ⟨_, ht.obj⟩)
          · exact Bool.noConfusion (show true = false by assumption)
abbrev s_Table_put : Stmt := (inClass (topS 31) 5)
theorem sc_Table_put : FnScope ["self", "key", "value", "at", "node"] ["self", "key", "value"] (defScope s_Table_put) := ⟨rfl, rfl, rfl, by decide +kernel, rfl, by decide +kernel, by decide +kernel⟩
theorem ok_Table_put_0 {f : Addr} {fd : FuncData} (F : Fun K "put" "Table.put" s_Table_put f fd) (T : Txt K mg C TC NC KD NV TH) (G_counted_key : Cal P w K mg base CX0 2 "counted_key" ["key"] (spCk C TC)) (G_has_place : CalN P w K mg base 2 TC "has_place" ["self", "key"] (spHas C TC NC)) (G_node_of : CalN P w K mg base 3 TC "node_of" ["self", "key", "with_dead"] (spNof C TC NC)) (G_check_key : Cal P w K mg base CX0 2 "check_key" ["key"] (spChkK C TC)) (G_put_new : CalN P w K mg base 4 TC "put_new" ["self", "key", "value"] (spPutN0 C TC NC)) : FnOk P w K mg base CX0 5 f fd ["self", "key", "value"] (spPut0 C TC NC) := by
  refine F.ok sc_Table_put (fun vs H Q E h => ?_) (fun cdv A outer s H vs Q E hr h => ?_)
  · obtain ⟨a, kv, v, k, t, t2, w, rfl, hT, hk, hs, hi, kQ⟩ := h
    rfl
  · obtain ⟨a, kv, v, k, t, t2, w, rfl, hT, hk, hs, hi, kQ⟩ := h
    have nd := sc_Table_put.nd
    refine ⟨_, (pss_cons (ps_set (i := 1) nd rfl (Or.inl rfl) (pe_c G_counted_key hr (pa_cons (pv 1) pa_nil))) (pss_cons (ps_if (pt_val (pe_mt1 G_has_place hr (pv 0) (pa_cons (pv 1) pa_nil))) (pss_cons (ps_asg (pv 2) (pg_sub (pe_fld (pv 0) rfl) (pe_op op_sub (pv 1) pe_int) set_list)) (pss_one ps_retN)) pss_nil) (pss_cons (ps_set (i := 3) nd rfl (Or.inl rfl) (pe_mt1 G_node_of hr (pv 0) (pa_cons (pv 1) (pa_cons pe_bl pa_nil)))) (pss_cons (ps_if (pt_cmpR op_notn (pv 3) pe_non (nomark _)) (pss_cons (ps_set (i := 4) nd rfl (Or.inl rfl) (pe_ix ix_list (pe_fld (pv 0) rfl) (pv 3) (fun _ _ => rfl))) (pss_cons (ps_fld (pv 4) (pv 2) rfl) (pss_one ps_retN))) pss_nil) (pss_cons (ps_expr (pe_c G_check_key hr (pa_cons (pv 1) pa_nil))) (pss_one (ps_if (pt_cmpR op_notn (pv 2) pe_non (nomark _)) (pss_one (ps_expr (pe_mt1 G_put_new hr (pv 0) (pa_cons (pv 1) (pa_cons (pv 2) pa_nil))))) pss_nil))))))), ?_⟩
    clear hr nd F
    try simp only [U.nox_K, U.cxOf_K]
    refine U.st0 (σ' := [some _, some _, some _, none, none]) rfl ?_
    have tc := T.tab
    have nc := T.nod
    have ht := hT.at_
    have hnl := ht.nodes
    have hpl := ht.places
    have hlen := ht.len
    walk_at "go"
    · rename_i hz
      obtain ⟨n, rfl⟩ := isPl_i hz
      obtain ⟨h1, h2, x, hx, hg⟩ := getM_pl hz
      obtain ⟨rfl, -⟩ := id hk
      rw [put0_pl hz] at hi
      cases hi
      walk_at "go"
      refine ⟨w.pl, _, _, (n - 1).toNat, rfl, rfl, hpl, by unfold ixN; rw [if_pos (by omega), if_pos (by omega)], ?_⟩
      walk_at "go"
      exact kQ _ ⟨w, ht.setPlace _ v, FrO.refl.lst (.inr (.inl rfl)), fun b z => .inl z⟩
    · rename_i hz H1 s1
      cases el : look t.nodes k with
      | some i =>
        obtain ⟨nd, hat, hkk⟩ := look_some el
        obtain ⟨p, dx, kv0, ei, hp, hkv⟩ := ht.at hat
        rw [put0_at hz el hat] at hi
        cases hi
        simp only [lnV]
        walk_at "go"
        refine l_ixN (s1 _ _ hnl) (by omega) (x := .ref p) (by rw [List.getElem?_map, Int.toNat_natCast, ei]; rfl) ?_
        walk_at "go"
        refine ⟨p, NC, dx, _, rfl, s1 _ _ hp, nc.cl, nc.nValue, by show 4 < 1000; decide, ?_⟩
        rw [nfs_pv]
        walk_at "go"
        have t1 := (ht.same s1).setNode T.cls (l := nd.link) (v := v) hat ei (s1 _ _ hp) (hkv.same s1)
        exact kQ _ ⟨w, t1, (FrO.of s1).lst (own_at ei), fun b z => .inl z⟩
      | none =>
        simp only [lnV]
        walk_at "go"
        refine l_notnD (fun hv => ?_) (fun hv => ?_)
        · subst hv
          rw [put0_non hz el] at hi
          cases hi
          walk_at "go"
          exact kQ _ (TabTo.of ht s1)
        · walk_at "go"
          cases q : ins (mpK t.nodes.length) .non t.nodes t.free k v with
          | none =>
            unfold put0 at hi
            rw [if_neg (by rw [hz]; exact Bool.false_ne_true), el] at hi
            simp only [if_neg hv, q] at hi
            cases hi
          | some r =>
            obtain ⟨ns, f9⟩ := r
            rw [put0_ins hz el hv q] at hi
            cases hi
            refine l_pn0 (hT.same s1) el (hk.same s1) hs q (fun H2 x2 => ?_)
            walk_at "go"
            exact kQ _ (x2.pre s1)
abbrev s_Table_rebuild : Stmt := (inClass (topS 31) 18)
theorem sc_Table_rebuild : FnScope ["self", "places", "nodes", "beyond", "node", "elder", "at", "value"] ["self", "places", "nodes"] (defScope s_Table_rebuild) := ⟨rfl, rfl, rfl, by decide +kernel, rfl, by decide +kernel, by decide +kernel⟩
theorem ok_Table_rebuild {f : Addr} {fd : FuncData} (F : Fun K "rebuild" "Table.rebuild" s_Table_rebuild f fd) (T : Txt K mg C TC NC KD NV TH) (G_unused_nodes : Cal P w K mg base CX0 1 "unused_nodes" ["many"] (spUnN)) (G_put : CalN P w K mg base 5 TC "put" ["self", "key", "value"] (spPut0 C TC NC)) : FnOk P w K mg base CX0 6 f fd ["self", "places", "nodes"] (spReb C TC NC) := by
  refine F.ok sc_Table_rebuild (fun vs H Q E h => ?_) (fun cdv A outer s H vs Q E hr h => ?_)
  · obtain ⟨a, p, n, t, w, rfl, hT, hp, hn, hc, kQ⟩ := h
    rfl
  · obtain ⟨a, p, n, t, w, rfl, hT, hp, hn, hc, kQ⟩ := h
    have nd := sc_Table_rebuild.nd
    refine ⟨_, (pss_cons (ps_set (i := 3) nd rfl (Or.inl rfl) (pe_slice sl_list (pe_fld (pv 0) rfl) (po_some (pv 1)) po_none)) (pss_cons (ps_setLc (i := 5) (own := [("node", 4)]) (g := gName 4) rfl nd rfl rfl (sw_true rfl rfl rfl (by decide +kernel)) (pi_list (pe_fld (pv 0) rfl)) (blkOk_by (own := [("node", 4)]) (N := ["self", "places", "nodes", "beyond", "node", "elder", "at", "value"]) (sc := defScope s_Table_rebuild) (by decide +kernel)) (fun _ _ _ _ _ => by exact (pg_name (i := 4) nd rfl (.inl rfl))) (fun _ _ _ _ _ => by exact (pts_one (PW.pt (pw_and (pt_cmpR op_notn (pv 4) pe_non (nomark _)) (pw_and1 (pt_cmpR op_notn (pe_fldK (K := K) (pv 4) rfl) pe_non (nomark _))))))) (fun _ _ _ _ _ => by exact (pv 4))) (pss_cons (ps_fld (pv 0) (pe_op op_cat (pe_slice sl_list (pe_fld (pv 0) rfl) po_none (po_some (pv 1))) (pe_op op_rep (pe_lst (pa_cons pe_non pa_nil)) (pe_op op_sub (pv 1) (pe_callB cLen rfl T.b_len (by decide +kernel) (pa_cons (pe_fld (pv 0) rfl) pa_nil))))) rfl) (pss_cons (ps_fld (pv 0) (pe_c G_unused_nodes hr (pa_cons (pv 2) pa_nil)) rfl) (pss_cons (ps_fld (pv 0) (pe_callB cLen rfl T.b_len (by decide +kernel) (pa_cons (pe_fld (pv 0) rfl) pa_nil)) rfl) (pss_cons (ps_for PassesOwn.never rfl (pi_enum rfl T.b_enumerate (pa_cons (pv 3) pa_nil)) (pg_tup rfl (pgs_cons (pg_name (i := 6) nd rfl (.inl rfl)) (pgs_cons (pg_name (i := 7) nd rfl (.inl rfl)) pgs_nil))) (pss_one (ps_expr (pe_mt1 G_put hr (pv 0) (pa_cons (pe_op op_add (pe_op op_add (pv 1) (pv 6)) pe_int) (pa_cons (pv 7) pa_nil)))))) (pss_one (ps_for PassesOwn.never rfl (pi_list (pv 5)) (pg_name (i := 4) nd rfl (.inl rfl)) (pss_one (ps_expr (pe_mt1 G_put hr (pv 0) (pa_cons (pe_fld (pv 4) rfl) (pa_cons (pe_fld (pv 4) rfl) pa_nil))))))))))))), ?_⟩
    clear hr nd F
    try simp only [U.nox_K, U.cxOf_K]
    refine U.st0 (σ' := [some _, some _, some _, none, none, none, none, none]) rfl ?_
    have tc := T.tab
    have nc := T.nod
    have ht := hT.at_
    have hnl := ht.nodes
    have hpl := ht.places
    have hlen := ht.len
    have hsz := hT.szN
    have hszp := hT.szP
    walk_at "go"
    refine l_lcT ?_
    walk_at "go"
    rename_i bp H1 hbn s1 hb
    rw [cut_from] at hb
    refine lc_gen (walk_list (xs := w.as.map nodeV)) (eldF t w) (by rw [List.length_map, hlen]; exact Nat.lt_of_le_of_lt hsz (by decide)) (fun H2 s2 => SqL.of (s2 _ _ (s1 _ _ hnl))) ?_ ?_
    · rintro i x Ha Hb R R' hi sa ⟨rfl, hx⟩ h1 h2
      rw [List.length_map] at hi
      refine ⟨rfl, ?_⟩
      cases ei : w.as[i] with
      | none =>
        rw [List.getElem?_map, List.getElem?_eq_getElem hi, ei] at hx
        cases hx
        have gp := ht.gaps i (by rw [List.getElem?_eq_getElem hi, ei])
        show _
        simp only [nodeV]
        walk_at "go"
        exact h2 _ (Same.refl _) (by unfold eldF; rw [gp]; rfl)
      | some p9 =>
        rw [List.getElem?_map, List.getElem?_eq_getElem hi, ei] at hx
        cases hx
        have ep : w.as[i]? = some (some p9) := by rw [List.getElem?_eq_getElem hi, ei]
        obtain ⟨nd, hat, dx, kv0, hpn, hkv⟩ := ht.node _ p9 ep
        have hpn2 := sa _ _ (s1 _ _ hpn)
        simp only [nodeV]
        walk_at "go"
        refine l_notnD (fun hv => ?_) (fun hv => ?_)
        · walk_at "go"
          exact h2 _ (Same.refl _) (by unfold eldF; rw [show t.nodes[i]? = _ from hat]; simp [eldP, hv])
        · walk_at "go"
          exact h1 _ _ (Same.refl _) (by unfold eldF; rw [show t.nodes[i]? = _ from hat, ep]; simp [eldP, hv, nodeV])
    · intro ep H2 hen s2 he
      rw [List.length_map, hlen] at he
      have hpl2 := s2 _ _ (s1 _ _ hpl)
      have hb2 := s2 _ _ hb
      have o2 := s2 _ _ (s1 _ _ ht.obj)
      walk_at "go"
      rename_i q1 H3 hq1 s3 hp3 q2 H4 hq2 s4 hp4
      rw [cut_to] at hp3
      refine l_repN (n := p - t.places.length) (by omega) (by omega) (by omega) hp4 (by have : sizeLine = 16777216 := rfl; omega) (fun q5 H5 hq5 s5 hp5 => ?_)
      refine l_cat (s5 _ _ (s4 _ _ hp3)) hp5 (by have : sizeLine = 16777216 := rfl; rw [List.length_take, List.length_replicate]; omega) (fun q6 H6 hq6 s6 hp6 => ?_)
      have sm6 : Same H2 H6 := ((s3.trans s4).trans s5).trans s6
      have o6 := sm6 _ _ o2
      walk_at "go"
      refine ⟨a, TC, w.dx, _, rfl, o6, tc.cl, tc.nPlaces, by show 5 < 1000; decide, ?_⟩
      rw [tfs_pp]
      walk_at "go"
      refine l_unN hn (fun q7 H7 hq7 s7 hp7 => ?_)
      have o7 := s7 _ _ upd_same
      walk_at "go"
      refine ⟨a, TC, w.dx, _, rfl, o7, tc.cl, tc.nNodes, by show 5 < 1000; decide, ?_⟩
      rw [tfs_pn]
      have sH6 : Same H H6 := (s1.trans s2).trans sm6
      have old : ∀ b o, b ≠ a → H6 b = some o → upd H7 a (.ins TC w.dx (tfs t.num t.mt q6 q7 t.free)) b = some o := fun b o n e => by
        rw [upd_ne n]
        exact s7 _ _ (by rw [upd_ne n]; exact e)
      have hp8 : upd H7 a (.ins TC w.dx (tfs t.num t.mt q6 q7 t.free)) q7 = some (.lst (List.replicate (sz n) .non)) := by
        have : q7 ≠ a := fun e => by rw [e, upd_same] at hq7; cases hq7
        rw [upd_ne this]
        exact hp7
      have f8 : FrO (w.own a) H (upd H7 a (.ins TC w.dx (tfs t.num t.mt q6 q7 t.free))) := ((((FrO.of sH6).lst (.inl rfl)).same s7).lst (.inl rfl))
      have o8 : upd H7 a (.ins TC w.dx (tfs t.num t.mt q6 q7 t.free)) a = some (.ins TC w.dx (tfs t.num t.mt q6 q7 t.free)) := upd_same
      generalize upd H7 a (.ins TC w.dx (tfs t.num t.mt q6 q7 t.free)) = H8 at old hp8 f8 o8 ⊢
      walk_at "go"
      refine ⟨a, TC, w.dx, _, rfl, o8, tc.cl, tc.nFree, by show 5 < 1000; decide, ?_⟩
      rw [tfs_pf (f := sz n) (by rw [List.length_replicate])]
      have h6n : ∀ b, H6 b = none → H b = none := fun b e => sH6.free e
      have n6a : q6 ≠ a := fun e => by rw [e] at hp6; rw [o6] at hp6; cases hp6
      have n7a : q7 ≠ a := fun e => by rw [e, o8] at hp8; cases hp8
      have n76 : q6 ≠ q7 := fun e => by rw [← e, upd_ne n6a, hp6] at hq7; cases hq7
      have q7n : H q7 = none := h6n _ (by rw [upd_ne n7a] at hq7; exact hq7)
      have q6n : H q6 = none := (((s1.trans s2).trans ((s3.trans s4).trans s5))).free hq6
      have t9 : TabAt C TC NC (upd H8 a (.ins TC w.dx (tfs t.num t.mt q6 q7 (sz n)))) a (base0 t p n) ⟨w.dx, q6, q7, List.replicate (sz n) none⟩ := TabAt.fresh upd_same (by rw [upd_ne n6a]; exact old _ _ n6a hp6) (by rw [upd_ne n7a]; exact hp8) n76 ht.cls
      have old9 : ∀ b o, b ≠ a → H6 b = some o → (upd H8 a (.ins TC w.dx (tfs t.num t.mt q6 q7 (sz n)))) b = some o := fun b o n e => by
        rw [upd_ne n]
        exact old _ _ n e
      have f9 : FrO (w.own a) H (upd H8 a (.ins TC w.dx (tfs t.num t.mt q6 q7 (sz n)))) := f8.lst (.inl rfl)
      generalize upd H8 a (.ins TC w.dx (tfs t.num t.mt q6 q7 (sz n))) = H9 at t9 old9 f9 ⊢
      walk_at "go"
      have q6n2 : H5 q6 = none := hq6
      have keep : ∀ b o, b ≠ a → H2 b = some o → ¬ (⟨w.dx, q6, q7, List.replicate (sz n) none⟩ : Tv).own a b ∧ H9 b = some o := fun b o n e => by
        have e5 := ((s3.trans s4).trans s5) _ _ e
        have e6 := s6 _ _ e5
        refine ⟨fun z => ?_, old9 _ _ n e6⟩
        rcases z with z | z | z | z
        · exact n z
        · have z : b = q6 := z
          rw [z, q6n2] at e5; cases e5
        · have z : b = q7 := z
          rw [upd_ne n7a, ← z, e6] at hq7; cases hq7
        · have z := List.eq_of_mem_replicate z
          cases z
      have bpa : bp ≠ a := fun e => by rw [e, ht.obj] at hbn; cases hbn
      have epa : ep ≠ a := fun e => by rw [e, s1 _ _ ht.obj] at hen; cases hen
      obtain ⟨bpo, hb9⟩ := keep _ _ bpa hb2
      obtain ⟨epo, he9⟩ := keep _ _ epa he
      have erf := elders_refs ht
      have w0o : ∀ b, (⟨w.dx, q6, q7, List.replicate (sz n) none⟩ : Tv).own a b → w.own a b ∨ H b = none := fun b z => by
        rcases z with z | z | z | z
        · exact .inl (.inl z)
        · have z : b = q6 := z
          rw [z]; exact .inr q6n
        · have z : b = q7 := z
          rw [z]; exact .inr q7n
        · have z := List.eq_of_mem_replicate z
          cases z
      generalize hw0 : (⟨w.dx, q6, q7, List.replicate (sz n) none⟩ : Tv) = w0 at keep bpo epo w0o t9
      refine ⟨_, _, rfl, SqL.of hb9, ?_⟩
      refine for_it walk_enum (fun i σ Hc => (∃ v4 v6 v7, σ = [some (.ref a), some (.int p), some (.int n), some (.ref bp), v4, some (.ref ep), v6, v7]) ∧ TabTo C TC NC H9 Hc a w0 (putsB (base0 t p n) (p + 1) ((t.places.drop p).take i))) ⟨⟨_, _, _, rfl⟩, TabTo.of t9 (Same.refl _)⟩ (fun i σ Hc _ h => SqL.of (h.2.elim fun wi h => h.2.1 _ _ bpo hb9)) ?_ ?_
      · rintro i x σ Hc Hd hi ⟨⟨v4, v6, v7, rfl⟩, wi, ta, fa, oa⟩ ⟨T1, x1, v, rfl, hT1, rfl, e1, hv⟩
        cases e1
        have sd : Same Hc (upd Hc T1 (.tup [.int i, v])) := sameUpd hT1
        have hd1 : upd Hc T1 (.tup [.int i, v]) T1 = some (.tup [.int i, v]) := upd_same
        generalize upd Hc T1 (.tup [.int i, v]) = Hd at sd hd1 ⊢
        obtain ⟨ok1, pu⟩ := stepB hT.m hp hn (by omega) hv
        have hil : i < t.places.length := by rw [List.length_drop] at hi; omega
        walk_at "go"
        refine l_put0 (k := .i ((p : Int) + i + 1)) (ok1.at_ (ta.same sd)) ⟨rfl, by unfold fitsK; omega⟩ rfl pu (fun H' x' => ?_)
        walk_at "go"
        exact ⟨⟨_, _, _, rfl⟩, TabTo.via (fa.same sd) oa x'⟩
      · rintro σ Hc ⟨⟨v4, v6, v7, rfl⟩, to⟩
        rw [List.take_length] at to
        obtain ⟨w1, ta1, fa1, oa1⟩ := to
        have he10 := fa1 _ _ epo he9
        walk_at "go"
        refine for_it walk_list (fun i σ Hc => (∃ v4 v6 v7, σ = [some (.ref a), some (.int p), some (.int n), some (.ref bp), v4, some (.ref ep), v6, v7]) ∧ TabTo C TC NC H9 Hc a w0 (putsE (putsB (base0 t p n) (p + 1) (t.places.drop p)) ((elders t.nodes).take i))) ⟨⟨_, _, _, rfl⟩, w1, ta1, fa1, oa1⟩ (fun i σ Hc _ h => SqL.of (h.2.elim fun wi h => h.2.1 _ _ epo he9)) ?_ ?_
        · rintro i x σ Hc Hd hi ⟨⟨v4, v6, v7, rfl⟩, wi, ta, fa, oa⟩ ⟨rfl, hx⟩
          obtain ⟨nd, hnd, pn, dn, kvn, ln, rfl, hpn, hkn⟩ := erf.2 i x hx
          obtain ⟨ok1, hsc, pu⟩ := stepE hT.m hp hn hc hnd
          have pna : pn ≠ a := fun e => by
            rw [e, ht.obj] at hpn
            injection hpn with hpn
            injection hpn with e1
            exact ht.cls e1
          obtain ⟨pno, hpn9⟩ := keep _ _ pna (s2 _ _ (s1 _ _ hpn))
          have hpnc := fa _ _ pno hpn9
          walk_at "go"
          refine l_put0 (k := nd.key) (ok1.at_ ta) (hkn.sc hsc) hsc pu (fun H' x' => ?_)
          walk_at "go"
          exact ⟨⟨_, _, _, rfl⟩, TabTo.via fa oa x'⟩
        · rintro σ He ⟨⟨v4, v6, v7, rfl⟩, to⟩
          rw [erf.1, List.take_length] at to
          walk_at "go"
          exact kQ _ (TabTo.via f9 w0o to)
abbrev s_places_for : Stmt := (topS 40)
theorem sc_places_for : FnScope ["keys", "counts", "key", "found", "total", "doublings", "count"] ["keys"] (defScope s_places_for) := ⟨rfl, rfl, rfl, by decide +kernel, rfl, by decide +kernel, by decide +kernel⟩
theorem ok_places_for {f : Addr} {fd : FuncData} (F : Fun K "places_for" "places_for" s_places_for f fd) (T : Txt K mg C TC NC KD NV TH) (G_is_int : Cal P w K mg base CX0 1 "is_int" ["thing"] (spIsInt K)) : FnOk P w K mg base CX0 2 f fd ["keys"] (spPfor C TC) := by
  refine F.ok sc_places_for (fun vs H Q E h => ?_) (fun cdv A outer s H vs Q E hr h => ?_)
  · obtain ⟨l, us, ks, rfl, hl, hk, hn, kQ⟩ := h
    rfl
  · obtain ⟨l, us, ks, rfl, hl, hk, hn, kQ⟩ := h
    have nd := sc_places_for.nd
    refine ⟨_, (pss_cons (ps_set (i := 1) nd rfl (Or.inl rfl) (pe_op op_rep (pe_lst (pa_cons pe_int pa_nil)) (pe_op op_add (pe_gi T.c_DOUBLINGS) pe_int))) (pss_cons (ps_for PassesOwn.never rfl (pi_list (pv 0)) (pg_name (i := 2) nd rfl (.inl rfl)) (pss_one (ps_if (PW.pt (pw_and (pt_val (pe_c G_is_int hr (pa_cons (pv 2) pa_nil))) (pw_and1 (pt_chain op_le op_le pe_int (pv 2) (pe_gi T.c_MOST_PLACES))))) (pss_one (ps_augS (pv 1) (pe_bits (pe_op op_sub (pv 2) pe_int)) get_listL pe_int ip_add set_list)) pss_nil))) (pss_cons (ps_set (i := 3) nd rfl (Or.inl rfl) pe_int) (pss_cons (ps_set (i := 4) nd rfl (Or.inl rfl) pe_int) (pss_cons (ps_for PassesOwn.never rfl (pi_enum rfl T.b_enumerate (pa_cons (pv 1) pa_nil)) (pg_tup rfl (pgs_cons (pg_name (i := 5) nd rfl (.inl rfl)) (pgs_cons (pg_name (i := 6) nd rfl (.inl rfl)) pgs_nil))) (pss_cons (ps_aug (i := 4) nd rfl (Or.inl rfl) (pv 6) ip_add) (pss_one (ps_if (pt_cmpR op_gt (pe_op op_mul pe_int (pv 4)) (pe_op op_shl pe_int (pv 5)) (nomark _)) (pss_one (ps_set (i := 3) nd rfl (Or.inl rfl) (pe_op op_shl pe_int (pv 5)))) pss_nil)))) (pss_one (ps_ret (pv 3)))))))), ?_⟩
    clear hr nd F
    try simp only [U.nox_K, U.cxOf_K]
    refine U.st0 (σ' := [some _, none, none, none, none, none, none]) rfl ?_
    have fc := T.flo
    walk_at "go"
    rename_i l0 H1 hn1 s1 hp1 cl H2 hn2 s2 hp2
    have s02 : Same H H2 := s1.trans s2
    have hcn : H cl = none := s1.free hn2
    have hc : H2 cl = some (.lst (cntL [])) := by rw [cntL_nil]; exact hp2
    have lcl : l ≠ cl := fun e => by rw [← e, hl] at hcn; cases hcn
    refine for_it (walk_list (xs := us)) (fun i σ Hc => (∃ v2 v3 v4 v5 v6, σ = [some (.ref l), some (.ref cl), v2, v3, v4, v5, v6]) ∧ Same H Hc ∧ Hc cl = some (.lst (cntL (ks.take i)))) ⟨⟨_, _, _, _, _, rfl⟩, s02, hc⟩ (fun i σ Hc _ h => SqL.of (h.2.1 _ _ hl)) ?_ ?_
    · rintro i x σ Hc Hd hi ⟨⟨v2, v3, v4, v5, v6, rfl⟩, sc, hcc⟩ ⟨rfl, hx⟩
      obtain ⟨k, hk1, hkv, hks⟩ := hk.get i x hx
      have ek : ks.take (i + 1) = ks.take i ++ [k] := by rw [List.take_succ, hk1]; rfl
      rcases sc_cases hkv hks with ⟨n, rfl, rfl, hn9⟩ | ⟨c, rfl, rfl⟩ | ⟨z, rfl, rfl, hz⟩
      · walk_at "go"
        · rename_i g1 g2
          walk_at "go"
          have hb : Builtin.Int.intBits (n - 1) ≤ 31 := (ib_le (by omega)).mpr (by have : (2 : Int) ^ 31 = 2147483648 := rfl; omega)
          refine l_getL hcc (by omega) (x := .int ((cB (ks.take i) (Builtin.Int.intBits (n - 1)) : Nat) : Int)) (by rw [Int.toNat_natCast]; exact cntL_get (by omega)) ?_
          walk_at "go"
          refine ⟨cl, _, _, Builtin.Int.intBits (n - 1), rfl, rfl, hcc, ixN_nat (by rw [cntL_len]; omega), ?_⟩
          refine ⟨⟨_, _, _, _, _, rfl⟩, fun b o e => ?_, ?_⟩
          · rw [upd_ne (fun z => by rw [z, hcn] at e; cases e)]
            exact sc _ _ e
          · rw [upd_same, ek, ← cntL_in g1 g2]
        · rename_i g1 g2
          exact ⟨⟨_, _, _, _, _, rfl⟩, sc, by rw [ek, cntL_out (k := .i n) (fun j => decide_eq_false (fun z => g2 z.2.1))]; exact hcc⟩
        · rename_i g1
          exact ⟨⟨_, _, _, _, _, rfl⟩, sc, by rw [ek, cntL_out (k := .i n) (fun j => decide_eq_false (fun z => g1 z.1))]; exact hcc⟩
      · walk_at "go"
        exact ⟨⟨_, _, _, _, _, rfl⟩, sc, by rw [ek, cntL_out (fun j => rfl)]; exact hcc⟩
      · walk_at "go"
        exact ⟨⟨_, _, _, _, _, rfl⟩, sc, by rw [ek, cntL_out (fun j => rfl)]; exact hcc⟩
    · rintro σ Hc ⟨⟨v2, v3, v4, v5, v6, rfl⟩, sc, hcc⟩
      rw [hk.len, List.take_length] at hcc
      walk_at "go"
      refine ⟨_, _, rfl, SqL.of hcc, ?_⟩
      refine for_it (walk_enum (xs := cntL ks)) (fun i σ He => (∃ v2 v5 v6, σ = [some (.ref l), some (.ref cl), v2, some (.int ((pfU ks i : Nat) : Int)), some (.int ((tot ks i : Nat) : Int)), v5, v6]) ∧ Same Hc He) ⟨⟨_, _, _, rfl⟩, Same.refl _⟩ (fun i σ He _ h => SqL.of (h.2 _ _ hcc)) ?_ ?_
      · rintro i x σ He Hd hi ⟨⟨v2, v5, v6, rfl⟩, se⟩ ⟨T1, x1, v, rfl, hT1, rfl, e1, hv⟩
        cases e1
        rw [cntL_len] at hi
        have hv := (cntL_get hi).symm.trans hv
        cases hv
        have sd : Same He (upd He T1 (.tup [.int i, .int ((cB ks i : Nat) : Int)])) := sameUpd hT1
        have hd1 : upd He T1 (.tup [.int i, .int ((cB ks i : Nat) : Int)]) T1 = some (.tup [.int i, .int ((cB ks i : Nat) : Int)]) := upd_same
        generalize upd He T1 (.tup [.int i, .int ((cB ks i : Nat) : Int)]) = Hd at sd hd1 ⊢
        have et : ((tot ks i : Nat) : Int) + ((cB ks i : Nat) : Int) = ((tot ks (i + 1) : Nat) : Int) := by show _ = ((tot ks i + cB ks i : Nat) : Int); omega
        have et2 := tot_in2 ks i (by omega)
        walk_at "go"
        · rename_i g
          have e0 : (1 : Int) * 2 ^ ((i : Int)).toNat = ((2 ^ i : Nat) : Int) := by rw [Int.one_mul, Int.toNat_natCast, c2]
          rw [e0, et, et2] at g
          have ep : pfU ks (i + 1) = 2 ^ i := if_pos (by omega)
          refine ⟨⟨v2, some (.int i), some (.int ((cB ks i : Nat) : Int)), ?_⟩, se.trans sd⟩
          rw [ep, et, ← e0]
        · rename_i g
          have e0 : (1 : Int) * 2 ^ ((i : Int)).toNat = ((2 ^ i : Nat) : Int) := by rw [Int.one_mul, Int.toNat_natCast, c2]
          rw [e0, et, et2] at g
          have ep : pfU ks (i + 1) = pfU ks i := if_neg (by omega)
          refine ⟨⟨v2, some (.int i), some (.int ((cB ks i : Nat) : Int)), ?_⟩, se.trans sd⟩
          rw [ep, et]
      · rintro σ He ⟨⟨v2, v5, v6, rfl⟩, se⟩
        rw [cntL_len]
        walk_at "go"
        exact kQ _ (sc.trans se)
abbrev s_Table_grow_and_put : Stmt := (inClass (topS 31) 17)
theorem sc_Table_grow_and_put : FnScope ["self", "key", "value", "keys", "places", "inside", "at", "held", "one", "node"] ["self", "key", "value"] (defScope s_Table_grow_and_put) := ⟨rfl, rfl, rfl, by decide +kernel, rfl, by decide +kernel, by decide +kernel⟩
theorem ok_Table_grow_and_put {f : Addr} {fd : FuncData} (F : Fun K "grow_and_put" "Table.grow_and_put" s_Table_grow_and_put f fd) (T : Txt K mg C TC NC KD NV TH) (G_is_int : Cal P w K mg base CX0 1 "is_int" ["thing"] (spIsInt K)) (G_places_for : Cal P w K mg base CX0 2 "places_for" ["keys"] (spPfor C TC)) (G_rebuild : CalN P w K mg base 6 TC "rebuild" ["self", "places", "nodes"] (spReb C TC NC)) (G_put : CalN P w K mg base 5 TC "put" ["self", "key", "value"] (spPut0 C TC NC)) : FnOk P w K mg base CX0 7 f fd ["self", "key", "value"] (spGrow C TC NC) := by
  refine F.ok sc_Table_grow_and_put (fun vs H Q E h => ?_) (fun cdv A outer s H vs Q E hr h => ?_)
  · obtain ⟨a, kv, v, k, t, w, rfl, hT, hk, hs, hl, kQ⟩ := h
    rfl
  · obtain ⟨a, kv, v, k, t, w, rfl, hT, hk, hs, hl, kQ⟩ := h
    have nd := sc_Table_grow_and_put.nd
    refine ⟨_, (pss_cons (ps_setLc (i := 3) (own := [("at", 6), ("held", 7)]) (g := gTup K 2 (gCons (gName 6) (gCons (gName 7) gNil))) rfl nd rfl rfl (sw_true rfl rfl rfl (by decide +kernel)) (pi_enum rfl T.b_enumerate (pa_cons (pe_fld (pv 0) rfl) pa_nil)) (blkOk_by (own := [("at", 6), ("held", 7)]) (N := ["self", "key", "value", "keys", "places", "inside", "at", "held", "one", "node"]) (sc := defScope s_Table_grow_and_put) (by decide +kernel)) (fun _ _ _ _ _ => by exact (pg_tup rfl (pgs_cons (pg_name (i := 6) nd rfl (.inl rfl)) (pgs_cons (pg_name (i := 7) nd rfl (.inl rfl)) pgs_nil)))) (fun _ _ _ _ _ => by exact (pts_one (pt_cmpR op_notn (pv 7) pe_non (nomark _)))) (fun _ _ _ _ _ => by exact (pe_op op_add (pv 6) pe_int))) (pss_cons (ps_expr (pe_bm PySem.F.plainAttrs_list PySem.F.slot_list_extend PySem.F.type_list_extend mt_extend (pv 3) (pa_cons (pe_lc (own := [("node", 9)]) (g := gName 9) rfl nd (pi_list (pe_fld (pv 0) rfl)) (blkOk_by (own := [("node", 9)]) (N := ["self", "key", "value", "keys", "places", "inside", "at", "held", "one", "node"]) (sc := defScope s_Table_grow_and_put) (by decide +kernel)) (fun _ _ _ _ _ => by exact (pg_name (i := 9) nd rfl (.inl rfl))) (fun _ _ _ _ _ => by exact (pts_one (PW.pt (pw_and (pt_cmpR op_notn (pv 9) pe_non (nomark _)) (pw_and1 (pt_cmpR op_notn (pe_fldK (K := K) (pv 9) rfl) pe_non (nomark _))))))) (fun _ _ _ _ _ => by exact (pe_fldK (K := K) (pv 9) rfl))) pa_nil))) (pss_cons (ps_expr (pe_bm PySem.F.plainAttrs_list PySem.F.slot_list_append PySem.F.type_list_append mt_append (pv 3) (pa_cons (pv 1) pa_nil))) (pss_cons (ps_set (i := 4) nd rfl (Or.inr rfl) (pe_c G_places_for hr (pa_cons (pv 3) pa_nil))) (pss_cons (ps_setLc (i := 5) (own := [("one", 8)]) (g := gName 8) rfl nd rfl rfl (sw_true rfl rfl rfl (by decide +kernel)) (pi_list (pv 3)) (blkOk_by (own := [("one", 8)]) (N := ["self", "key", "value", "keys", "places", "inside", "at", "held", "one", "node"]) (sc := defScope s_Table_grow_and_put) (by decide +kernel)) (fun _ _ _ _ _ => by exact (pg_name (i := 8) nd rfl (.inl rfl))) (fun _ _ _ _ _ => by exact (pts_one (PW.pt (pw_and (pt_val (pe_c G_is_int hr (pa_cons (pv 8) pa_nil))) (pw_and1 (pt_chain op_le op_le pe_int (pv 8) (pv 4))))))) (fun _ _ _ _ _ => by exact (pv 8))) (pss_cons (ps_expr (pe_mt1 G_rebuild hr (pv 0) (pa_cons (pv 4) (pa_cons (pe_op op_sub (pe_callB cLen rfl T.b_len (by decide +kernel) (pa_cons (pv 3) pa_nil)) (pe_callB cLen rfl T.b_len (by decide +kernel) (pa_cons (pv 5) pa_nil))) pa_nil)))) (pss_one (ps_expr (pe_mt1 G_put hr (pv 0) (pa_cons (pv 1) (pa_cons (pv 2) pa_nil))))))))))), ?_⟩
    clear hr nd F
    try simp only [U.nox_K, U.cxOf_K]
    refine U.st0 (σ' := [some _, some _, some _, none, none, none, none, none, none, none]) rfl ?_
    have fc := T.flo
    have tc := T.tab
    have nc := T.nod
    have ht := hT.at_
    have hnl := ht.nodes
    have hpl := ht.places
    have hlen := ht.len
    have hsz := hT.szN
    have hszp := hT.szP
    walk_at "go"
    refine l_lcT ?_
    walk_at "go"
    refine ⟨_, _, rfl, SqL.of hpl, ?_⟩
    refine lc_gen (walk_enum (xs := t.places)) (fun i => (heldF t.places i).map valK) (Nat.lt_of_le_of_lt hszp (by decide)) (fun H2 s2 => SqL.of (s2 _ _ hpl)) ?_ ?_
    · rintro i x Ha Hb R R' hi sa ⟨T1, x1, y1, rfl, hT1, rfl, e1, e2⟩ h1 h2
      cases e1
      have sd : Same Ha (upd Ha T1 (.tup [.int i, y1])) := sameUpd hT1
      have hd1 : upd Ha T1 (.tup [.int i, y1]) T1 = some (.tup [.int i, y1]) := upd_same
      generalize upd Ha T1 (.tup [.int i, y1]) = Hb at sd hd1 ⊢
      refine ⟨T1, _, rfl, SqT.of hd1, rfl, ?_⟩
      refine ⟨_, _, rfl, _, _, rfl, rfl, ?_⟩
      refine ⟨rfl, ?_⟩
      walk_at "go"
      have e2 : t.places[i]? = some y1 := e2
      refine l_notnD (fun hv => ?_) (fun hv => ?_)
      · walk_at "go"
        exact h2 _ sd (by unfold heldF; rw [e2]; simp [hv])
      · walk_at "go"
        exact h1 _ _ sd (by unfold heldF; rw [e2]; simp [hv, valK])
    intro kl H1 hkn s1 hkl
    rw [firsts_map] at hkl
    have hnl1 := s1 _ _ hnl
    walk_at "go"
    refine l_lcT ?_
    walk_at "go"
    refine lc_gen (walk_list (xs := w.as.map nodeV)) (fun i => (eldK t i).map valK) (by rw [List.length_map, hlen]; exact Nat.lt_of_le_of_lt hsz (by decide)) (fun H2 s2 => SqL.of (s2 _ _ hnl1)) ?_ ?_
    · rintro i x Ha Hb R R' hi sa ⟨rfl, hx⟩ h1 h2
      rw [List.length_map] at hi
      refine ⟨rfl, ?_⟩
      cases ei : w.as[i] with
      | none =>
        rw [List.getElem?_map, List.getElem?_eq_getElem hi, ei] at hx
        cases hx
        have gp := ht.gaps i (by rw [List.getElem?_eq_getElem hi, ei])
        simp only [nodeV]
        walk_at "go"
        exact h2 _ (Same.refl _) (by unfold eldK; rw [gp]; rfl)
      | some p9 =>
        rw [List.getElem?_map, List.getElem?_eq_getElem hi, ei] at hx
        cases hx
        have ep : w.as[i]? = some (some p9) := by rw [List.getElem?_eq_getElem hi, ei]
        obtain ⟨nd, hat, dx, kv0, hpn, hkv⟩ := ht.node _ p9 ep
        have hpn2 := sa _ _ (s1 _ _ hpn)
        have ekv := hkv.val (hT.sc _ _ hat)
        simp only [nodeV]
        walk_at "go"
        refine l_notnD (fun hv => ?_) (fun hv => ?_)
        · walk_at "go"
          exact h2 _ (Same.refl _) (by unfold eldK; rw [show t.nodes[i]? = _ from hat]; simp [eldP, hv])
        · walk_at "go"
          exact h1 _ _ (Same.refl _) (by unfold eldK; rw [show t.nodes[i]? = _ from hat]; simp [eldP, hv, ekv])
    intro el H2 hen s2 hel
    rw [firsts_map, List.length_map, hlen] at hel
    have hkl2 := s2 _ _ hkl
    have l1 := firsts_len (F := heldF t.places) (n := t.places.length)
    have l2 := firsts_len (F := eldK t) (n := t.nodes.length)
    have line : sizeLine = 16777216 := rfl
    walk_at "go"
    refine ⟨kl, el, _, _, rfl, rfl, hkl2, hel, by rw [List.length_map, List.length_map]; omega, ?_⟩
    have kk := keysK_ks hT hk hs
    have kn := keysK_len t k
    have kn2 : (firsts (heldF t.places) t.places.length).length + (firsts (eldK t) t.nodes.length).length + 1 = (keysK t k).length := by
      have z := kk.len
      rw [List.length_append, List.length_append, List.length_map, List.length_map, List.length_singleton] at z
      exact z
    generalize hA : (firsts (heldF t.places) t.places.length).map valK ++ (firsts (eldK t) t.nodes.length).map valK = A
    have kk : KsV C TC H (A ++ [kv]) (keysK t k) := by rw [← hA]; exact kk
    have lA : A.length + 1 = (keysK t k).length := by rw [← hA, List.length_append, List.length_map, List.length_map]; omega
    have hkl3 : upd H2 kl (.lst A) kl = some (.lst A) := upd_same
    have s3 : Same H (upd H2 kl (.lst A)) := fun b o e => by
      rw [upd_ne (fun z => by rw [z, hkn] at e; cases e)]
      exact s2 _ _ (s1 _ _ e)
    generalize upd H2 kl (.lst A) = H3 at hkl3 s3 ⊢
    walk_at "go"
    refine ⟨kl, _, _, rfl, rfl, hkl3, by omega, ?_⟩
    have hkl4 : upd H3 kl (.lst (A ++ [kv])) kl = some (.lst (A ++ [kv])) := upd_same
    have s4 : Same H (upd H3 kl (.lst (A ++ [kv]))) := fun b o e => by
      rw [upd_ne (fun z => by rw [z, hkn] at e; cases e)]
      exact s3 _ _ e
    generalize upd H3 kl (.lst (A ++ [kv])) = H4 at hkl4 s4 ⊢
    walk_at "go"
    refine l_pfor hkl4 kk.to (by omega) (fun H5 s5 => ?_)
    have hkl5 := s5 _ _ hkl4
    have gok := grow_ok (v := v) hT.m hs hl
    generalize hp9 : pfM (keysK t k) = p at gok ⊢
    walk_at "go"
    refine l_lcT ?_
    walk_at "go"
    refine lc_gen (walk_list (xs := A ++ [kv])) (fun i => (insK (keysK t k) p i).map valK) (by rw [List.length_append, List.length_singleton]; omega) (fun H6 s6 => SqL.of (s6 _ _ hkl5)) ?_ ?_
    · rintro i x Ha Hb R R' hi sa ⟨rfl, hx⟩ h1 h2
      obtain ⟨kx, hk1, hkv, hks⟩ := kk.get i x hx
      refine ⟨rfl, ?_⟩
      rcases sc_cases hkv hks with ⟨n, rfl, rfl, hn9⟩ | ⟨c, rfl, rfl⟩ | ⟨z, rfl, rfl, hz⟩
      · walk_at "go"
        · rename_i g1 g2
          have e : inK p (.i n) = true := decide_eq_true ⟨g1, g2⟩
          exact h1 _ _ (Same.refl _) (by unfold insK; rw [hk1]; simp [e, valK])
        · rename_i g1 g2
          have e : inK p (.i n) = false := decide_eq_false (fun z => g2 z.2)
          exact h2 _ (Same.refl _) (by unfold insK; rw [hk1]; simp [e])
        · rename_i g1
          have e : inK p (.i n) = false := decide_eq_false (fun z => g1 z.1)
          exact h2 _ (Same.refl _) (by unfold insK; rw [hk1]; simp [e])
      · walk_at "go"
        exact h2 _ (Same.refl _) (by unfold insK; rw [hk1]; rfl)
      · walk_at "go"
        exact h2 _ (Same.refl _) (by unfold insK; rw [hk1]; rfl)
    intro il H6 hin s6 hil
    rw [firsts_map, List.length_append, List.length_singleton, lA] at hil
    have hkl6 := s6 _ _ hkl5
    walk_at "go"
    have en : (((A ++ [kv]).length : Nat) : Int) - ((((firsts (insK (keysK t k) p) (keysK t k).length).map valK).length : Nat) : Int) = (((keysK t k).length - (keysK t k).countP (inK p) : Nat) : Int) := by
      have := List.countP_le_length (p := inK p) (l := keysK t k)
      rw [List.length_map, insK_len, List.length_append, List.length_singleton]
      omega
    rw [en]
    obtain ⟨g1, g2, g3, g4, t9, g5, g6, g7, g8, g9⟩ := gok
    have s06 : Same H H6 := (s4.trans s5).trans s6
    refine l_reb (hT.same s06) g1 g2 g3 (fun H7 to7 => ?_)
    have eg : growM t k = rebuildM t p ((keysK t k).length - (keysK t k).countP (inK p)) := by unfold growM; rw [hp9]
    rw [← eg] at to7
    obtain ⟨w7, t7, f7, o7⟩ := to7
    walk_at "go"
    refine l_put0 (g4.at_ t7) (hk.sc hs) hs g5 (fun H8 to8 => ?_)
    walk_at "go"
    have ev : gputM t k v = t9 := by unfold gputM; rw [g5]; rfl
    refine kQ _ (TabTo.pre s06 ?_)
    rw [ev]
    exact TabTo.via f7 o7 to8
theorem ok_Table_put_new {f : Addr} {fd : FuncData} (F : Fun K "put_new" "Table.put_new" s_Table_put_new f fd) (T : Txt K mg C TC NC KD NV TH) (G_main_position : Cal P w K mg base CX0 2 "main_position" ["key", "many"] (spMp C TC)) (G_Node : CalD P w K mg base 1 "Node" NC ["self", "key", "value", "link"] (spNodI NC) []) (G_find_free : CalN P w K mg base 1 TC "find_free" ["self"] (spFree C TC NC)) (G_put_beside : CalN P w K mg base 3 TC "put_beside" ["self", "at", "key", "value"] (spBeside C TC NC)) (G_grow_and_put : CalN P w K mg base 7 TC "grow_and_put" ["self", "key", "value"] (spGrow C TC NC)) : FnOk P w K mg base CX0 8 f fd ["self", "key", "value"] (spPutN C TC NC) := by
  refine F.ok sc_Table_put_new (fun vs H Q E h => ?_) (fun cdv A outer s H vs Q E hr h => ?_)
  · obtain ⟨a, kv, v, k, t, w, rfl, hT, hk, hs, hl, nv, np, hlk, kQ⟩ := h
    rfl
  · obtain ⟨a, kv, v, k, t, w, rfl, hT, hk, hs, hl, nv, np, hlk, kQ⟩ := h
    have nd := sc_Table_put_new.nd
    refine ⟨_, (pss_cons (ps_if (pt_cmpR op_eq (pe_callB cLen rfl T.b_len (by decide +kernel) (pa_cons (pe_fld (pv 0) rfl) pa_nil)) pe_int (nomark _)) (pss_cons (ps_expr (pe_mt1 G_grow_and_put hr (pv 0) (pa_cons (pv 1) (pa_cons (pv 2) pa_nil)))) (pss_one ps_retN)) pss_nil) (pss_cons (ps_set (i := 3) nd rfl (Or.inl rfl) (pe_c G_main_position hr (pa_cons (pv 1) (pa_cons (pe_callB cLen rfl T.b_len (by decide +kernel) (pa_cons (pe_fld (pv 0) rfl) pa_nil)) pa_nil)))) (pss_cons (ps_set (i := 4) nd rfl (Or.inl rfl) (pe_ix ix_list (pe_fld (pv 0) rfl) (pv 3) (fun _ _ => rfl))) (pss_one (ps_if (pt_cmpR op_isn (pv 4) pe_non (nomark _)) (pss_one (ps_asg (pe_mkD G_Node hr (pa_cons (pv 1) (pa_cons (pv 2) (pa_cons pe_non pa_nil)))) (pg_sub (pe_fld (pv 0) rfl) (pv 3) set_list))) (pss_one (ps_if (pt_cmpR op_isn (pe_fld (pv 4) rfl) pe_non (nomark _)) (pss_cons (ps_fld (pv 4) (pv 1) rfl) (pss_cons (ps_fld (pv 4) (pv 2) rfl) (pss_one (ps_fld (pv 4) pe_bl rfl)))) (pss_one (ps_if (pt_val (pe_mt0 G_find_free hr (pv 0))) (pss_one (ps_expr (pe_mt1 G_put_beside hr (pv 0) (pa_cons (pv 3) (pa_cons (pv 1) (pa_cons (pv 2) pa_nil)))))) (pss_one (ps_expr (pe_mt1 G_grow_and_put hr (pv 0) (pa_cons (pv 1) (pa_cons (pv 2) pa_nil)))))))))))))), ?_⟩
    clear hr nd F
    try simp only [U.nox_K, U.cxOf_K]
    refine U.st0 (σ' := [some _, some _, some _, none, none]) rfl ?_
    have tc := T.tab
    have nc := T.nod
    have ht := hT.at_
    have hnl := ht.nodes
    have hlen := ht.len
    have hsz := hT.szN
    walk_at "go"
    · rename_i hz
      rw [List.length_map] at hz
      refine l_grow hT hk hs hl (fun H' to => ?_)
      walk_at "go"
      exact kQ _ (by rw [putM_none (put0_full np hlk nv (ins_empty (by omega)))]; exact to)
    rename_i hz
    rw [List.length_map, hlen] at hz
    have n0 : 0 < t.nodes.length := by omega
    rw [List.length_map, hlen]
    walk_at "go"
    have hml := mpK_lt (k := k) n0
    rw [← mpK_int n0]
    have hia : mpK t.nodes.length k < w.as.length := by omega
    cases em : w.as[mpK t.nodes.length k] with
    | none =>
      have hg : t.nodes[mpK t.nodes.length k]? = some none := ht.gaps _ (by rw [List.getElem?_eq_getElem hia, em])
      refine l_ixN hnl (by omega) (x := .non) (by rw [List.getElem?_map, Int.toNat_natCast, List.getElem?_eq_getElem hia, em]; rfl) ?_
      walk_at "go"
      rename_i q dq G nq sq hq
      refine ⟨w.nl, _, _, mpK t.nodes.length k, rfl, rfl, sq _ _ hnl, ixN_nat (by rw [List.length_map]; exact hia), ?_⟩
      have t1 := ht.newNode (l := none) hg nq sq hq hk
      walk_at "go"
      refine kQ _ ?_
      rw [putM_some (put0_ins np hlk nv (ins_fresh hg))]
      refine ⟨{ w with as := w.as.set (mpK t.nodes.length k) (some q) }, t1, (FrO.of sq).lst (.inr (.inr (.inl rfl))), fun b hb => ?_⟩
      rcases own_set hb with z | z
      · exact .inl z
      · rw [z]; exact .inr nq
    | some p =>
      obtain ⟨nd, hat, dx, kv0, hp, hkv⟩ := ht.node _ p (by rw [List.getElem?_eq_getElem hia, em])
      have ep : w.as[mpK t.nodes.length k]? = some (some p) := by rw [List.getElem?_eq_getElem hia, em]
      refine l_ixN hnl (by omega) (x := .ref p) (by rw [List.getElem?_map, Int.toNat_natCast, ep]; rfl) ?_
      walk_at "go"
      refine l_isnD (fun hv => ?_) (fun hv => ?_)
      · walk_at "go"
        refine ⟨p, NC, dx, _, rfl, hp, nc.cl, nc.nKey, by show 4 < 1000; decide, ?_⟩
        rw [nfs_pk]
        walk_at "go"
        refine ⟨p, NC, dx, _, rfl, upd_same, nc.cl, nc.nValue, by show 4 < 1000; decide, ?_⟩
        rw [nfs_pv, upd2]
        walk_at "go"
        refine ⟨p, NC, dx, _, rfl, upd_same, nc.cl, nc.nDead, by show 4 < 1000; decide, ?_⟩
        rw [nfs_pd, upd2]
        walk_at "go"
        have t1 := ht.setNode T.cls (l := nd.link) (v := v) hat ep hp hk
        refine kQ _ ?_
        rw [putM_some (put0_ins np hlk nv (ins_reuse hat hv))]
        exact ⟨w, t1, FrO.refl.lst (own_at ep), fun b z => .inl z⟩
      · walk_at "go"
        refine l_free ht hT.wf.le hsz (fun H1 f1 t1 => ?_)
        cases hd : down t.nodes t.free with
        | none =>
          have hft : freeTo t = 0 := by unfold freeTo; rw [hd]
          rw [hft] at t1
          have e9 := put0_full np hlk nv (ins_full hat hv hd)
          walk_at "go"
          · exact Bool.noConfusion (show false = true by assumption)
          · refine l_grow (t := { t with free := 0 }) ((hT.m.free0 hd).at_ t1) (hk.sc hs) hs hl (fun H2 x2 => ?_)
            walk_at "go"
            refine kQ _ (x2.frm f1 ⟨_, ht.obj⟩ |> fun x3 => ?_)
            rw [putM_none e9, ← gputM_free hT.m hs hl 0]
            exact x3
        | some f1' =>
          have hft : freeTo t = f1' := by unfold freeTo; rw [hd]
          rw [hft] at t1
          obtain ⟨d1, d2, d3⟩ := down_some hd
          walk_at "go"
          · refine l_bes (t := { t with free := f1' }) t1 hT.wf hT.sc hsz hat d2 (hk.sc hs) hs (fun H2 x2 => ?_)
            walk_at "go"
            refine kQ _ (x2.frm f1 ⟨_, ht.obj⟩ |> fun x3 => ?_)
            rw [putM_some (put0_ins np hlk nv (ins_beside hT.wf hat hv hd))]
            exact x3
          · exact Bool.noConfusion (show true = false by assumption)
theorem ok_Table_put {f : Addr} {fd : FuncData} (F : Fun K "put" "Table.put" s_Table_put f fd) (T : Txt K mg C TC NC KD NV TH) (G_counted_key : Cal P w K mg base CX0 2 "counted_key" ["key"] (spCk C TC)) (G_has_place : CalN P w K mg base 2 TC "has_place" ["self", "key"] (spHas C TC NC)) (G_node_of : CalN P w K mg base 3 TC "node_of" ["self", "key", "with_dead"] (spNof C TC NC)) (G_check_key : Cal P w K mg base CX0 2 "check_key" ["key"] (spChkK C TC)) (G_put_new : CalN P w K mg base 8 TC "put_new" ["self", "key", "value"] (spPutN C TC NC)) : FnOk P w K mg base CX0 9 f fd ["self", "key", "value"] (spPut C TC NC) := by
  refine F.ok sc_Table_put (fun vs H Q E h => ?_) (fun cdv A outer s H vs Q E hr h => ?_)
  · obtain ⟨a, kv, v, k, t, w, rfl, hT, hk, hs, hl, kQ⟩ := h
    rfl
  · obtain ⟨a, kv, v, k, t, w, rfl, hT, hk, hs, hl, kQ⟩ := h
    have nd := sc_Table_put.nd
    refine ⟨_, (pss_cons (ps_set (i := 1) nd rfl (Or.inl rfl) (pe_c G_counted_key hr (pa_cons (pv 1) pa_nil))) (pss_cons (ps_if (pt_val (pe_mt1 G_has_place hr (pv 0) (pa_cons (pv 1) pa_nil))) (pss_cons (ps_asg (pv 2) (pg_sub (pe_fld (pv 0) rfl) (pe_op op_sub (pv 1) pe_int) set_list)) (pss_one ps_retN)) pss_nil) (pss_cons (ps_set (i := 3) nd rfl (Or.inl rfl) (pe_mt1 G_node_of hr (pv 0) (pa_cons (pv 1) (pa_cons pe_bl pa_nil)))) (pss_cons (ps_if (pt_cmpR op_notn (pv 3) pe_non (nomark _)) (pss_cons (ps_set (i := 4) nd rfl (Or.inl rfl) (pe_ix ix_list (pe_fld (pv 0) rfl) (pv 3) (fun _ _ => rfl))) (pss_cons (ps_fld (pv 4) (pv 2) rfl) (pss_one ps_retN))) pss_nil) (pss_cons (ps_expr (pe_c G_check_key hr (pa_cons (pv 1) pa_nil))) (pss_one (ps_if (pt_cmpR op_notn (pv 2) pe_non (nomark _)) (pss_one (ps_expr (pe_mt1 G_put_new hr (pv 0) (pa_cons (pv 1) (pa_cons (pv 2) pa_nil))))) pss_nil))))))), ?_⟩
    clear hr nd F
    try simp only [U.nox_K, U.cxOf_K]
    refine U.st0 (σ' := [some _, some _, some _, none, none]) rfl ?_
    have tc := T.tab
    have nc := T.nod
    have ht := hT.at_
    have hnl := ht.nodes
    have hpl := ht.places
    have hlen := ht.len
    walk_at "go"
    · rename_i hz
      obtain ⟨n, rfl⟩ := isPl_i hz
      obtain ⟨h1, h2, x, hx, hg⟩ := getM_pl hz
      obtain ⟨rfl, -⟩ := id hk
      walk_at "go"
      refine ⟨w.pl, _, _, (n - 1).toNat, rfl, rfl, hpl, by unfold ixN; rw [if_pos (by omega), if_pos (by omega)], ?_⟩
      walk_at "go"
      refine kQ _ ?_
      rw [putM_some (put0_pl hz)]
      exact ⟨w, ht.setPlace _ v, FrO.refl.lst (.inr (.inl rfl)), fun b z => .inl z⟩
    · rename_i hz H1 s1
      cases el : look t.nodes k with
      | some i =>
        obtain ⟨nd, hat, hkk⟩ := look_some el
        obtain ⟨p, dx, kv0, ei, hp, hkv⟩ := ht.at hat
        simp only [lnV]
        walk_at "go"
        refine l_ixN (s1 _ _ hnl) (by omega) (x := .ref p) (by rw [List.getElem?_map, Int.toNat_natCast, ei]; rfl) ?_
        walk_at "go"
        refine ⟨p, NC, dx, _, rfl, s1 _ _ hp, nc.cl, nc.nValue, by show 4 < 1000; decide, ?_⟩
        rw [nfs_pv]
        walk_at "go"
        have t1 := (ht.same s1).setNode T.cls (l := nd.link) (v := v) hat ei (s1 _ _ hp) (hkv.same s1)
        refine kQ _ ?_
        rw [putM_some (put0_at hz el hat)]
        exact ⟨w, t1, (FrO.of s1).lst (own_at ei), fun b z => .inl z⟩
      | none =>
        simp only [lnV]
        walk_at "go"
        refine l_notnD (fun hv => ?_) (fun hv => ?_)
        · subst hv
          walk_at "go"
          refine kQ _ ?_
          rw [putM_some (put0_non hz el)]
          exact TabTo.of ht s1
        · walk_at "go"
          refine l_putN (hT.same s1) (hk.same s1) hs hl hv hz el (fun H2 x2 => ?_)
          walk_at "go"
          exact kQ _ (x2.pre s1)
abbrev s_Table_make_room : Stmt := (inClass (topS 31) 6)
theorem sc_Table_make_room : FnScope ["self", "count"] ["self", "count"] (defScope s_Table_make_room) := ⟨rfl, rfl, rfl, by decide +kernel, rfl, by decide +kernel, by decide +kernel⟩
theorem ok_Table_make_room {f : Addr} {fd : FuncData} (F : Fun K "make_room" "Table.make_room" s_Table_make_room f fd) (T : Txt K mg C TC NC KD NV TH) (G_rebuild : CalN P w K mg base 6 TC "rebuild" ["self", "places", "nodes"] (spReb C TC NC)) : FnOk P w K mg base CX0 7 f fd ["self", "count"] (spMkR C TC NC) := by
  refine F.ok sc_Table_make_room (fun vs H Q E h => ?_) (fun cdv A outer s H vs Q E hr h => ?_)
  · obtain ⟨a, p, t, w, rfl, hT, hp, hl, kQ⟩ := h
    rfl
  · obtain ⟨a, p, t, w, rfl, hT, hp, hl, kQ⟩ := h
    have nd := sc_Table_make_room.nd
    refine ⟨_, (pss_one (ps_if (pt_cmpR op_lt (pe_callB cLen rfl T.b_len (by decide +kernel) (pa_cons (pe_fld (pv 0) rfl) pa_nil)) (pv 1) (nomark _)) (pss_one (ps_expr (pe_mt1 G_rebuild hr (pv 0) (pa_cons (pv 1) (pa_cons (pe_callB cLen rfl T.b_len (by decide +kernel) (pa_cons (pe_fld (pv 0) rfl) pa_nil)) pa_nil))))) pss_nil)), ?_⟩
    clear hr nd F
    try simp only [U.nox_K, U.cxOf_K]
    refine U.st0 (σ' := [some _, some _]) rfl ?_
    have tc := T.tab
    have ht := hT.at_
    have hnl := ht.nodes
    have hpl := ht.places
    have hlen := ht.len
    walk_at "go"
    · rename_i g
      have g : t.places.length < p := by omega
      rw [List.length_map, hlen]
      refine l_reb hT hp hl (room_reb g) (fun H' to => ?_)
      walk_at "go"
      refine kQ _ ?_
      unfold roomM
      rw [if_pos g]
      exact to
    · rename_i g
      refine kQ _ ?_
      unfold roomM
      rw [if_neg (by omega)]
      exact TabTo.of ht (Same.refl _)
abbrev s_Table_border_between : Stmt := (inClass (topS 31) 13)
theorem sc_Table_border_between : FnScope ["self", "low", "high", "middle"] ["self", "low", "high"] (defScope s_Table_border_between) := ⟨rfl, rfl, rfl, by decide +kernel, rfl, by decide +kernel, by decide +kernel⟩
theorem ok_Table_border_between {f : Addr} {fd : FuncData} (F : Fun K "border_between" "Table.border_between" s_Table_border_between f fd) (T : Txt K mg C TC NC KD NV TH) (G_get : CalN P w K mg base 4 TC "get" ["self", "key"] (spGet C TC NC)) : FnOk P w K mg base CX0 5 f fd ["self", "low", "high"] (spBbt C TC NC) := by
  refine F.ok sc_Table_border_between (fun vs H Q E h => ?_) (fun cdv A outer s H vs Q E hr h => ?_)
  · obtain ⟨a, lo, hi, t, w, rfl, hT, h0, h1, h2, kQ⟩ := h
    rfl
  · obtain ⟨a, lo, hi, t, w, rfl, hT, h0, h1, h2, kQ⟩ := h
    have nd := sc_Table_border_between.nd
    refine ⟨_, (pss_cons (ps_while PassesOwn.never (pt_cmpR op_gt (pe_op op_sub (pv 2) (pv 1)) pe_int (nomark _)) (pss_cons (ps_set (i := 3) nd rfl (Or.inl rfl) (pe_op op_fdivN (pe_op op_add (pv 1) (pv 2)) pe_int)) (pss_one (ps_if (pt_cmpR op_isn (pe_mt1 G_get hr (pv 0) (pa_cons (pv 3) pa_nil)) pe_non (nomark _)) (pss_one (ps_set (i := 2) nd rfl (Or.inl rfl) (pv 3))) (pss_one (ps_set (i := 1) nd rfl (Or.inl rfl) (pv 3))))))) (pss_one (ps_ret (pv 1)))), ?_⟩
    clear hr nd F
    try simp only [U.nox_K, U.cxOf_K]
    refine U.st0 (σ' := [some _, some _, some _, none]) rfl ?_
    have tc := T.tab
    walk_at "go"
    refine ⟨fun m σ H' => Same H H' ∧ ∃ l h v3, σ = [some (.ref a), some (.int l), some (.int h), v3] ∧ lo ≤ l ∧ l ≤ h ∧ h ≤ hi ∧ bbtM (gI t) l h = bbtM (gI t) lo hi ∧ m = (h - l).toNat, ⟨_, Same.refl _, lo, hi, none, rfl, Int.le_refl _, h1, Int.le_refl _, rfl, rfl⟩, ?_⟩
    rintro m σ H2 ⟨s2, l, h, v3, rfl, q1, q2, q3, q4, rfl⟩
    walk_at "go"
    · refine ⟨_, fun σ' H' h => h, ?_⟩
      rename_i g
      walk_at "go"
      rw [Int.fdiv_eq_ediv_of_nonneg _ (show (0 : Int) ≤ 2 by decide)]
      have hT2 := hT.same s2
      refine l_get (k := .i ((l + h) / 2)) hT2 ⟨rfl, by unfold fitsK; omega⟩ rfl (fun H3 s3 => ?_)
      walk_at "go"
      refine l_isnD (fun hv => ?_) (fun hv => ?_)
      · walk_at "go"
        exact ⟨((l + h) / 2 - l).toNat, by omega, s2.trans s3, l, (l + h) / 2, _, rfl, q1, by omega, by omega, by rw [← q4, bbtM_go g, if_pos (show gI t ((l + h) / 2) = .non from hv)], rfl⟩
      · walk_at "go"
        exact ⟨(h - (l + h) / 2).toNat, by omega, s2.trans s3, (l + h) / 2, h, _, rfl, by omega, by omega, q3, by rw [← q4, bbtM_go g, if_neg (show ¬ gI t ((l + h) / 2) = .non from hv)], rfl⟩
    · rename_i g
      refine ends (kQ _ s2) (congrArg V.int ?_)
      have e := bbtM_end (g := gI t) (lo := l) (hi := h) (by omega)
      exact (q4.symm.trans e).symm ▸ rfl
abbrev s_Table_border : Stmt := (inClass (topS 31) 8)
theorem sc_Table_border : FnScope ["self", "many", "low", "high"] ["self"] (defScope s_Table_border) := ⟨rfl, rfl, rfl, by decide +kernel, rfl, by decide +kernel, by decide +kernel⟩
theorem ok_Table_border {f : Addr} {fd : FuncData} (F : Fun K "border" "Table.border" s_Table_border f fd) (T : Txt K mg C TC NC KD NV TH) (G_get : CalN P w K mg base 4 TC "get" ["self", "key"] (spGet C TC NC)) (G_border_between : CalN P w K mg base 5 TC "border_between" ["self", "low", "high"] (spBbt C TC NC)) : FnOk P w K mg base CX0 6 f fd ["self"] (spBord C TC NC) := by
  refine F.ok sc_Table_border (fun vs H Q E h => ?_) (fun cdv A outer s H vs Q E hr h => ?_)
  · obtain ⟨a, t, w, rfl, hT, kQ⟩ := h
    rfl
  · obtain ⟨a, t, w, rfl, hT, kQ⟩ := h
    have nd := sc_Table_border.nd
    refine ⟨_, (pss_cons (ps_set (i := 1) nd rfl (Or.inl rfl) (pe_callB cLen rfl T.b_len (by decide +kernel) (pa_cons (pe_fld (pv 0) rfl) pa_nil))) (pss_cons (ps_if (PW.pt (pw_and (pt_cmpR op_gt (pv 1) pe_int (nomark _)) (pw_and1 (pt_cmpR op_isn (pe_ix ix_list (pe_fld (pv 0) rfl) (pe_op op_sub (pv 1) pe_int) (fun _ _ => rfl)) pe_non (nomark _))))) (pss_one (ps_ret (pe_mt1 G_border_between hr (pv 0) (pa_cons pe_int (pa_cons (pv 1) pa_nil))))) pss_nil) (pss_cons (ps_if (PW.pt (pw_or (pt_cmpR op_eq (pe_callB cLen rfl T.b_len (by decide +kernel) (pa_cons (pe_fld (pv 0) rfl) pa_nil)) pe_int (nomark _)) (pw_or1 (pt_cmpR op_isn (pe_mt1 G_get hr (pv 0) (pa_cons (pe_op op_add (pv 1) pe_int) pa_nil)) pe_non (nomark _))))) (pss_one (ps_ret (pv 1))) pss_nil) (pss_cons (ps_set (i := 2) nd rfl (Or.inl rfl) (pe_callB (cMax rfl) rfl T.b_max (by decide +kernel) (pa_cons (pv 1) (pa_cons pe_int pa_nil)))) (pss_cons (ps_set (i := 3) nd rfl (Or.inl rfl) (pe_callB (cMin rfl) rfl T.b_min (by decide +kernel) (pa_cons (pe_op op_mul pe_int (pv 2)) (pa_cons (pe_gi T.c_GREATEST) pa_nil)))) (pss_cons (ps_while PassesOwn.never (pt_cmpR op_notn (pe_mt1 G_get hr (pv 0) (pa_cons (pv 3) pa_nil)) pe_non (nomark _)) (pss_cons (ps_if (pt_cmpR op_eq (pv 3) (pe_gi T.c_GREATEST) (nomark _)) (pss_one (ps_ret (pv 3))) pss_nil) (pss_cons (ps_set (i := 2) nd rfl (Or.inl rfl) (pv 3)) (pss_one (ps_set (i := 3) nd rfl (Or.inl rfl) (pe_callB (cMin rfl) rfl T.b_min (by decide +kernel) (pa_cons (pe_op op_mul pe_int (pv 2)) (pa_cons (pe_gi T.c_GREATEST) pa_nil)))))))) (pss_one (ps_ret (pe_mt1 G_border_between hr (pv 0) (pa_cons (pv 2) (pa_cons (pv 3) pa_nil))))))))))), ?_⟩
    clear hr nd F
    try simp only [U.nox_K, U.cxOf_K]
    refine U.st0 (σ' := [some _, none, none, none]) rfl ?_
    have tc := T.tab
    have ht := hT.at_
    have hnl := ht.nodes
    have hpl := ht.places
    have hlen := ht.len
    have hszp := hT.szP
    have tP : topI = 9223372036854775807 := rfl
    have part : ∀ (h : ¬ (0 < t.places.length ∧ t.places[t.places.length - 1]? = some .non)) (h2 : ¬ (t.nodes.length = 0 ∨ gI t ((t.places.length : Int) + 1) = .non)), borderM t = climb (gI t) 64 (max (t.places.length : Int) 1) := fun h h2 => by unfold borderM; rw [if_neg h, if_neg h2]
    have part2 : ∀ (h : ¬ (0 < t.places.length ∧ t.places[t.places.length - 1]? = some .non)) (h2 : t.nodes.length = 0 ∨ gI t ((t.places.length : Int) + 1) = .non), borderM t = t.places.length := fun h h2 => by unfold borderM; rw [if_neg h, if_pos h2]
    have part3 : ∀ (h : (0 < t.places.length ∧ t.places[t.places.length - 1]? = some .non)), borderM t = bbtM (gI t) 0 t.places.length := fun h => by unfold borderM; rw [if_pos h]
    walk_at "go"
    · rename_i g
      have hl1 : t.places.length - 1 < t.places.length := by omega
      refine l_ixN hpl (by omega) (x := t.places[t.places.length - 1]) (by rw [show ((t.places.length : Int) - 1).toNat = t.places.length - 1 by omega]; exact List.getElem?_eq_getElem hl1) ?_
      walk_at "go"
      walk_at "go"
      refine l_isnD (fun hv => ?_) (fun hv => ?_)
      · walk_at "go"
        refine l_bbt hT (by omega) (by omega) (by omega) (fun H' s' => ?_)
        walk_at "go"
        exact ends (kQ _ s') (congrArg V.int (part3 ⟨by omega, by rw [List.getElem?_eq_getElem hl1, hv]⟩))
      · have hno : ¬ (0 < t.places.length ∧ t.places[t.places.length - 1]? = some .non) := fun z => hv (by have e := z.2; rw [List.getElem?_eq_getElem hl1] at e; exact Option.some.inj e)
        walk_at "go"
        · rename_i gz
          exact ends (kQ _ (Same.refl _)) (congrArg V.int (part2 hno (.inl (by rw [List.length_map] at gz; omega))))
        · rename_i gz
          have gz : ¬ t.nodes.length = 0 := by rw [List.length_map] at gz; omega
          refine l_get (k := .i ((t.places.length : Int) + 1)) hT ⟨rfl, by unfold fitsK; omega⟩ rfl (fun H1 s1 => ?_)
          walk_at "go"
          refine l_isnD (fun hv1 => ?_) (fun hv1 => ?_)
          · walk_at "go"
            exact ends (kQ _ s1) (congrArg V.int (part2 hno (.inr hv1)))
          · walk_at "go"
            refine ⟨fun m σ H' => Same H H' ∧ ∃ low high : Int, σ = [some (.ref a), some (.int t.places.length), some (.int low), some (.int high)] ∧ high = min (2 * low) topI ∧ 1 ≤ low ∧ low < topI ∧ topI < low * 2 ^ m ∧ climb (gI t) m low = borderM t, ⟨64, s1, _, _, rfl, rfl, by omega, by omega, by have e64 : (2 : Int) ^ 64 = 18446744073709551616 := rfl; rw [e64]; omega, (part hno (fun z => z.elim gz hv1)).symm⟩, ?_⟩
            rintro m σ H2 ⟨s2, low, high, rfl, eh, c1, c2, c3, c4⟩
            obtain ⟨n, rfl⟩ : ∃ n, m = n + 1 := by
              cases m with
              | zero => rw [Int.pow_zero, Int.mul_one] at c3; omega
              | succ n => exact ⟨n, rfl⟩
            walk_at "go"
            refine l_get (k := .i high) (hT.same s2) ⟨rfl, by unfold fitsK; omega⟩ rfl (fun H3 s3 => ?_)
            walk_at "go"
            refine l_notnD (fun hv => ?_) (fun hv => ?_)
            · have hv : gI t (min (2 * low) topI) = .non := by rw [← eh]; exact hv
              unfold climb at c4
              rw [if_pos hv, ← eh] at c4
              walk_at "go"
              refine l_bbt ((hT.same s2).same s3) (by omega) (by omega) (by omega) (fun H4 s4 => ?_)
              walk_at "go"
              exact ends (kQ _ ((s2.trans s3).trans s4)) (congrArg V.int c4.symm)
            · have hv : ¬ gI t (min (2 * low) topI) = .non := by rw [← eh]; exact hv
              unfold climb at c4
              rw [if_neg hv, ← eh] at c4
              walk_at "go"
              refine ⟨_, fun σ' H' h => h, ?_⟩
              walk_at "go"
              · rename_i q
                rw [if_pos (show high = topI from q)] at c4
                exact ends (kQ _ (s2.trans s3)) (congrArg V.int (c4.symm.trans (show topI = high from (show high = topI from q).symm)))
              · rename_i q
                have q : ¬ high = topI := q
                rw [if_neg q] at c4
                refine ⟨n, Nat.lt_succ_self n, s2.trans s3, _, _, rfl, rfl, by omega, by omega, ?_, c4⟩
                have e2 : high = 2 * low := by omega
                rw [e2, Int.mul_comm 2 low, Int.mul_assoc, Int.mul_comm 2, ← Int.pow_succ]
                exact c3
    · have hno : ¬ (0 < t.places.length ∧ t.places[t.places.length - 1]? = some .non) := fun z => by have e := z.1; omega
      rename_i gz
      exact ends (kQ _ (Same.refl _)) (congrArg V.int (part2 hno (.inl (by rw [List.length_map] at gz; omega))))
    · have hno : ¬ (0 < t.places.length ∧ t.places[t.places.length - 1]? = some .non) := fun z => by have e := z.1; omega
      rename_i gz
      have gz : ¬ t.nodes.length = 0 := by rw [List.length_map] at gz; omega
      refine l_get (k := .i ((t.places.length : Int) + 1)) hT ⟨rfl, by unfold fitsK; omega⟩ rfl (fun H1 s1 => ?_)
      walk_at "go"
      refine l_isnD (fun hv1 => ?_) (fun hv1 => ?_)
      · walk_at "go"
        exact ends (kQ _ s1) (congrArg V.int (part2 hno (.inr hv1)))
      · walk_at "go"
        refine ⟨fun m σ H' => Same H H' ∧ ∃ low high : Int, σ = [some (.ref a), some (.int t.places.length), some (.int low), some (.int high)] ∧ high = min (2 * low) topI ∧ 1 ≤ low ∧ low < topI ∧ topI < low * 2 ^ m ∧ climb (gI t) m low = borderM t, ⟨64, s1, _, _, rfl, rfl, by omega, by omega, by have e64 : (2 : Int) ^ 64 = 18446744073709551616 := rfl; rw [e64]; omega, (part hno (fun z => z.elim gz hv1)).symm⟩, ?_⟩
        rintro m σ H2 ⟨s2, low, high, rfl, eh, c1, c2, c3, c4⟩
        obtain ⟨n, rfl⟩ : ∃ n, m = n + 1 := by
          cases m with
          | zero => rw [Int.pow_zero, Int.mul_one] at c3; omega
          | succ n => exact ⟨n, rfl⟩
        walk_at "go"
        refine l_get (k := .i high) (hT.same s2) ⟨rfl, by unfold fitsK; omega⟩ rfl (fun H3 s3 => ?_)
        walk_at "go"
        refine l_notnD (fun hv => ?_) (fun hv => ?_)
        · have hv : gI t (min (2 * low) topI) = .non := by rw [← eh]; exact hv
          unfold climb at c4
          rw [if_pos hv, ← eh] at c4
          walk_at "go"
          refine l_bbt ((hT.same s2).same s3) (by omega) (by omega) (by omega) (fun H4 s4 => ?_)
          walk_at "go"
          exact ends (kQ _ ((s2.trans s3).trans s4)) (congrArg V.int c4.symm)
        · have hv : ¬ gI t (min (2 * low) topI) = .non := by rw [← eh]; exact hv
          unfold climb at c4
          rw [if_neg hv, ← eh] at c4
          walk_at "go"
          refine ⟨_, fun σ' H' h => h, ?_⟩
          walk_at "go"
          · rename_i q
            rw [if_pos (show high = topI from q)] at c4
            exact ends (kQ _ (s2.trans s3)) (congrArg V.int (c4.symm.trans (show topI = high from (show high = topI from q).symm)))
          · rename_i q
            have q : ¬ high = topI := q
            rw [if_neg q] at c4
            refine ⟨n, Nat.lt_succ_self n, s2.trans s3, _, _, rfl, rfl, by omega, by omega, ?_, c4⟩
            have e2 : high = 2 * low := by omega
            rw [e2, Int.mul_comm 2 low, Int.mul_assoc, Int.mul_comm 2, ← Int.pow_succ]
            exact c3
abbrev s_Table_room : Stmt := (inClass (topS 31) 2)
theorem sc_Table_room : FnScope ["self"] ["self"] (defScope s_Table_room) := ⟨rfl, rfl, rfl, by decide +kernel, rfl, by decide +kernel, by decide +kernel⟩
theorem ok_Table_room {f : Addr} {fd : FuncData} (F : Fun K "room" "Table.room" s_Table_room f fd) (T : Txt K mg C TC NC KD NV TH) : FnOk P w K mg base CX0 1 f fd ["self"] (spRoom C TC NC) := by
  refine F.ok sc_Table_room (fun vs H Q E h => ?_) (fun cdv A outer s H vs Q E hr h => ?_)
  · obtain ⟨a, t, w, rfl, hT, kQ⟩ := h
    rfl
  · obtain ⟨a, t, w, rfl, hT, kQ⟩ := h
    have nd := sc_Table_room.nd
    refine ⟨_, (pss_one (ps_ret (pe_tup (pa_cons (pe_callB cLen rfl T.b_len (by decide +kernel) (pa_cons (pe_fld (pv 0) rfl) pa_nil)) (pa_cons (pe_callB cLen rfl T.b_len (by decide +kernel) (pa_cons (pe_fld (pv 0) rfl) pa_nil)) pa_nil))))), ?_⟩
    clear hr nd F
    try simp only [U.nox_K, U.cxOf_K]
    refine U.st0 (σ' := [some _]) rfl ?_
    have tc := T.tab
    have hnl := hT.nodes
    have hpl := hT.places
    have hlen := hT.len
    walk_at "go"
    rename_i p H2 hn s2 hp
    exact kQ _ _ hn s2 (by rw [hp, List.length_map, hlen])
abbrev s_Table_init : Stmt := (inClass (topS 31) 1)
theorem sc_Table_init : FnScope ["self", "number", "array", "nodes", "meta"] ["self", "number", "array", "nodes", "meta"] (defScope s_Table_init) := ⟨rfl, rfl, rfl, by decide +kernel, rfl, by decide +kernel, by decide +kernel⟩
theorem ok_Table_init {f : Addr} {fd : FuncData} (F : FunD K "__init__" "Table.__init__" (defArgs s_Table_init) (defBody s_Table_init) (defScope s_Table_init) [.int 0, .int 0] [("meta", .non)] f fd) (T : Txt K mg C TC NC KD NV TH) (G_unused_nodes : Cal P w K mg base CX0 1 "unused_nodes" ["many"] (spUnN)) : FnOk P w K mg base CX0 2 f fd ["self", "number", "array", "nodes", "meta"] (spTabNew C TC NC) := by
  refine F.ok sc_Table_init (fun vs H Q E h => ?_) (fun cdv A outer s H vs Q E hr h => ?_)
  · obtain ⟨x, dx, num, mt, p, n, rfl, hx, hcl, hp, hn, k⟩ := h
    rfl
  · obtain ⟨x, dx, num, mt, p, n, rfl, hx, hcl, hp, hn, k⟩ := h
    have nd := sc_Table_init.nd
    refine ⟨_, (pss_cons (ps_fld (pv 0) (pv 1) rfl) (pss_cons (ps_fld (pv 0) (pv 4) rfl) (pss_cons (ps_fld (pv 0) (pe_op op_rep (pe_lst (pa_cons pe_non pa_nil)) (pv 2)) rfl) (pss_cons (ps_fld (pv 0) (pe_c G_unused_nodes hr (pa_cons (pv 3) pa_nil)) rfl) (pss_one (ps_fld (pv 0) (pe_callB cLen rfl T.b_len (by decide +kernel) (pa_cons (pe_fld (pv 0) rfl) pa_nil)) rfl)))))), ?_⟩
    clear hr nd F
    try simp only [U.nox_K, U.cxOf_K]
    refine U.st0 (σ' := [some _, some _, some _, some _, some _]) rfl ?_
    have tc := T.tab
    have line : sizeLine = 16777216 := rfl
    walk_at "go"
    refine ⟨x, TC, dx, _, rfl, hx, tc.cl, tc.nNum, by decide, ?_⟩
    walk_at "go"
    refine ⟨x, TC, dx, _, rfl, upd_same, tc.cl, tc.nMeta, by show 1 < 1000; decide, ?_⟩
    rw [upd2]
    have hx2 : ∀ b o, b ≠ x → H b = some o → upd H x (.ins TC dx (putF "meta" mt (putF "number" num []))) b = some o := fun b o nb e => by rw [upd_ne nb]; exact e
    have fx : ∀ b, upd H x (.ins TC dx (putF "meta" mt (putF "number" num []))) b = none → H b = none ∧ b ≠ x := fun b e => by
      by_cases z : b = x
      · rw [z, upd_same] at e; cases e
      · rw [upd_ne z] at e; exact ⟨e, z⟩
    have ox : upd H x (.ins TC dx (putF "meta" mt (putF "number" num []))) x = some (.ins TC dx (putF "meta" mt (putF "number" num []))) := upd_same
    generalize upd H x (.ins TC dx (putF "meta" mt (putF "number" num []))) = H1 at hx2 fx ox ⊢
    walk_at "go"
    rename_i p0 H2 hn0 s0 hp0
    refine l_repN (n := p) (by omega) (by omega) (by omega) hp0 (by omega) (fun p1 H3 hn1 s1 hp1 => ?_)
    have o3 := s1 _ _ (s0 _ _ ox)
    walk_at "go"
    refine ⟨x, TC, dx, _, rfl, o3, tc.cl, tc.nPlaces, by show 2 < 1000; decide, ?_⟩
    walk_at "go"
    refine l_unN hn (fun p2 H4 hn2 s2 hp2 => ?_)
    have o4 := s2 _ _ upd_same
    walk_at "go"
    refine ⟨x, TC, dx, _, rfl, o4, tc.cl, tc.nNodes, by show 3 < 1000; decide, ?_⟩
    have p2x : p2 ≠ x := fun e => by rw [e, upd_same] at hn2; cases hn2
    have n1 := fx _ (s0.free hn1)
    have hn2' : H3 p2 = none := by rw [upd_ne p2x] at hn2; exact hn2
    have n2 := fx _ ((s0.trans s1).free hn2')
    have n12 : p1 ≠ p2 := fun e => by rw [← e, hp1] at hn2'; cases hn2'
    have hp1' : H4 p1 = some (.lst (List.replicate p .non)) := s2 _ _ (by rw [upd_ne n1.2]; exact hp1)
    have h5 : upd H4 x (.ins TC dx (putF "nodes" (.ref p2) (putF "places" (.ref p1) (putF "meta" mt (putF "number" num []))))) p2 = some (.lst (List.replicate (sz n) .non)) := by rw [upd_ne p2x]; exact hp2
    walk_at "go"
    refine ⟨x, TC, dx, _, _, rfl, upd_same, tc.cl, tc.nNodes, rfl, ?_⟩
    walk_at "go"
    refine ⟨x, TC, dx, _, rfl, upd_same, tc.cl, tc.nFree, by show 4 < 1000; decide, ?_⟩
    rw [upd2]
    walk_at "go"
    have ef : putF "free" (V.int ((List.replicate (sz n) V.non).length : Nat)) (putF "nodes" (.ref p2) (putF "places" (.ref p1) (putF "meta" mt (putF "number" num [])))) = tfs num mt p1 p2 (sz n) := by rw [List.length_replicate]; with_unfolding_all rfl
    rw [ef]
    refine k _ ⟨dx, p1, p2, List.replicate (sz n) none⟩ (fun b o nb e => ?_) (TabAt.fresh upd_same (by rw [upd_ne n1.2]; exact hp1') (by rw [upd_ne p2x]; exact hp2) n12 hcl) (fun b z => ?_)
    · have e3 := s1 _ _ (s0 _ _ (hx2 b o nb e))
      rw [upd_ne nb]
      exact s2 _ _ (by rw [upd_ne nb]; exact e3)
    · rcases z with z | z | z | z
      · exact .inl z
      · have z : b = p1 := z
        rw [z]; exact .inr n1.1
      · have z : b = p2 := z
        rw [z]; exact .inr n2.1
      · have z := List.eq_of_mem_replicate z
        cases z
abbrev s_Table_rows : Stmt := (inClass (topS 31) 3)
theorem sc_Table_rows : FnScope ["self", "node"] ["self"] (defScope s_Table_rows) := ⟨rfl, rfl, rfl, by decide +kernel, rfl, by decide +kernel, by decide +kernel⟩
theorem ok_Table_rows {f : Addr} {fd : FuncData} (F : Fun K "rows" "Table.rows" s_Table_rows f fd) (T : Txt K mg C TC NC KD NV TH) : FnOk P w K mg base CX0 1 f fd ["self"] (spRows C TC NC) := by
  refine F.ok sc_Table_rows (fun vs H Q E h => ?_) (fun cdv A outer s H vs Q E hr h => ?_)
  · obtain ⟨a, t, w, rfl, ht, hz, kQ⟩ := h
    rfl
  · obtain ⟨a, t, w, rfl, ht, hz, kQ⟩ := h
    have nd := sc_Table_rows.nd
    refine ⟨_, (pss_one (ps_ret (pe_lc (own := [("node", 1)]) (g := gName 1) (tt := tYes) rfl nd (pi_list (pe_fld (pv 0) rfl)) (blkOk_by (own := [("node", 1)]) (N := ["self", "node"]) (sc := defScope s_Table_rows) (by decide +kernel)) (fun _ _ _ _ _ => by exact (pg_name (i := 1) nd rfl (.inl rfl))) (fun _ _ _ _ _ => by exact pts_nil) (fun _ _ _ _ _ => by exact (pe_ifExp (pt_cmpR op_isn (pv 1) pe_non (nomark _)) pe_non (pe_tup (pa_cons (pe_fldK (K := K) (pv 1) rfl) (pa_cons (pe_fldK (K := K) (pv 1) rfl) (pa_cons (pe_fldK (K := K) (pv 1) rfl) pa_nil))))))))), ?_⟩
    clear hr nd F
    try simp only [U.nox_K, U.cxOf_K]
    refine U.st0 (σ' := [some _, none]) rfl ?_
    have tc := T.tab
    have nc := T.nod
    have hnl := ht.nodes
    have hlen := ht.len
    walk_at "go"
    refine lc_all (xs := w.as.map nodeV) (fun i y _ => y = .non ↔ t.nodes[i]? = some none) hnl (by rw [List.length_map, hlen]; exact Nat.lt_of_le_of_lt hz (by decide)) (fun i y _ _ _ _ _ _ h => h) ?_ ?_
    · intro i x Ha R R' key hx sa
      obtain ⟨o, ho, rfl⟩ : ∃ o, w.as[i]? = some o ∧ x = nodeV o := by
        rw [List.getElem?_map] at hx
        obtain ⟨o, h1, h2⟩ := Option.map_eq_some_iff.mp hx
        exact ⟨o, h1, h2.symm⟩
      cases o with
      | none =>
        have gp := ht.gaps i ho
        simp only [nodeV]
        refine ⟨rfl, ?_⟩
        refine l_yesC ?_
        walk_at "go"
        exact key _ _ (Same.refl _) ⟨fun _ => gp, fun _ => rfl⟩
      | some p9 =>
        obtain ⟨nd, hat, dx, kv0, hpn, hkv⟩ := ht.node _ p9 ho
        have hpn2 := sa _ _ hpn
        simp only [nodeV]
        refine ⟨rfl, ?_⟩
        refine l_yesC ?_
        walk_at "go"
        rename_i p H2 hn2 hs2 hp2
        exact key _ _ hs2 ⟨fun z => (by cases z), fun z => by unfold Tb.At at hat; rw [hat] at z; cases z⟩
    · intro D ys H' hl hp hD sm he
      rw [List.length_map, hlen] at hl
      exact kQ D H' ys hD sm he hl (rows_held hl hp)
abbrev s__law_mix : Stmt := (topS 42)
theorem sc__law_mix : FnScope ["_law_cell", "_law_lap", "_law_blend"] ["_law_cell", "_law_lap"] (defScope s__law_mix) := ⟨rfl, rfl, rfl, by decide +kernel, rfl, by decide +kernel, by decide +kernel⟩
theorem ok__law_mix {f : Addr} {fd : FuncData} (F : Fun K "_law_mix" "_law_mix" s__law_mix f fd) (T : Txt K mg C TC NC KD NV TH) : FnOk P w K mg base CX0 1 f fd ["_law_cell", "_law_lap"] (spMix) := by
  refine F.ok sc__law_mix (fun vs H Q E h => ?_) (fun cdv A outer s H vs Q E hr h => ?_)
  · obtain ⟨c, l, rfl, kQ⟩ := h
    rfl
  · obtain ⟨c, l, rfl, kQ⟩ := h
    have nd := sc__law_mix.nd
    refine ⟨_, (pss_cons (ps_set (i := 2) nd rfl (Or.inl rfl) (pe_op op_add (pe_op op_add (pe_op op_add (pe_op op_mod (pe_callTy cInt rfl T.b_int (by decide +kernel) (pa_cons (pv 0) pa_nil)) pe_int) (pe_op op_mul pe_int (pv 1))) (pe_op op_mod (pe_callTy cInt rfl T.b_int (by decide +kernel) (pa_cons (pe_op op_fdivW (pv 0) pe_int) pa_nil)) pe_int)) pe_int)) (pss_cons (ps_set (i := 2) nd rfl (Or.inl rfl) (pe_op op_mod (pe_callTy cInt rfl T.b_int (by decide +kernel) (pa_cons (pe_op op_mul (pv 2) pe_int) pa_nil)) pe_int)) (pss_cons (ps_set (i := 2) nd rfl (Or.inl rfl) (pe_op op_mod (pe_callTy cInt rfl T.b_int (by decide +kernel) (pa_cons (pe_op op_mul (pv 2) (pe_op op_add (pe_op op_add (pe_op op_fdivW (pv 2) pe_int) pe_int) (pv 1))) pa_nil)) pe_int)) (pss_one (ps_ret (pe_op op_mod (pe_callTy cInt rfl T.b_int (by decide +kernel) (pa_cons (pe_op op_mul (pv 2) (pe_op op_add (pe_op op_fdivW (pv 2) pe_int) pe_int)) pa_nil)) pe_int)))))), ?_⟩
    clear hr nd F
    try simp only [U.nox_K, U.cxOf_K]
    refine U.st0 (σ' := [some _, some _, none]) rfl ?_
    walk_at "go"
    all_goals first
      | exact kQ _
      | fail
abbrev s__law_source : Stmt := (topS 43)
theorem sc__law_source : FnScope ["_law_script", "_law_k", "_law_cell"] ["_law_script", "_law_k"] (defScope s__law_source) := ⟨rfl, rfl, rfl, by decide +kernel, rfl, by decide +kernel, by decide +kernel⟩
theorem ok__law_source {f : Addr} {fd : FuncData} (F : Fun K "_law_source" "_law_source" s__law_source f fd) (T : Txt K mg C TC NC KD NV TH) : FnOk P w K mg base CX0 1 f fd ["_law_script", "_law_k"] (spSrc K) := by
  refine F.ok sc__law_source (fun vs H Q E h => ?_) (fun cdv A outer s H vs Q E hr h => ?_)
  · obtain ⟨l, ns, k, rfl, hl, hn, hk, kQ⟩ := h
    rfl
  · obtain ⟨l, ns, k, rfl, hl, hn, hk, kQ⟩ := h
    have nd := sc__law_source.nd
    refine ⟨_, (pss_cons (ps_set (i := 2) nd rfl (Or.inl rfl) (pe_op op_add (pe_ix ix_list (pe_op op_catL (pv 0) (pe_lst (pa_cons pe_int pa_nil))) pe_int (fun _ _ => rfl)) (pe_op op_mul pe_int (pv 1)))) (pss_cons (ps_if (pt_cmpR op_lt (pv 1) (pe_callB cLen rfl T.b_len (by decide +kernel) (pa_cons (pv 0) pa_nil)) (nomark _)) (pss_one (ps_set (i := 2) nd rfl (Or.inl rfl) (pe_ix ix_list (pv 0) (pv 1) (fun _ _ => rfl)))) pss_nil) (pss_one (ps_ret (pe_lst (pa_cons (pe_op op_mul (pv 2) (pe_callTy cInt rfl T.b_int (by decide +kernel) (pa_cons (pe_cmpR op_ge (pv 2) (pe_op op_pow pe_int pe_int) (nomark _)) pa_nil))) (pa_cons (pv 2) (pa_cons pe_int pa_nil)))))))), ?_⟩
    clear hr nd F
    try simp only [U.nox_K, U.cxOf_K]
    refine U.st0 (σ' := [some _, some _, none]) rfl ?_
    walk_at "go"
    rename_i p H1 hn1 s1 hp1
    refine l_catL (sameS s1 hl) (SqL.of hp1) (by rw [List.length_map]; have : sizeLine = 16777216 := rfl; simp; omega) (fun p2 H2 hn2 s2 hp2 => ?_)
    have hl2 := sameS (s1.trans s2) hl
    obtain ⟨c, hc⟩ : ∃ c, (ns.map V.int ++ [.int 0])[0]? = some (.int c) := by
      cases ns with
      | nil => exact ⟨0, rfl⟩
      | cons n ns => exact ⟨n, rfl⟩
    walk_at "go"
    refine l_ixN hp2 (by decide) hc ?_
    walk_at "go"
    · rename_i g
      have g : k < (ns.map V.int).length := by omega
      obtain ⟨n, e⟩ : ∃ n, (ns.map V.int)[k]? = some (.int n) := by
        rw [List.length_map] at g
        exact ⟨ns[k], by rw [List.getElem?_map, List.getElem?_eq_getElem g]; rfl⟩
      refine U.l_ixL hl2 (atI_nat e) ?_
      walk_at "go"
      rename_i p3 H3 hn3 s3 hp3
      exact kQ _ _ ((s1.trans s2).free hn3) ((s1.trans s2).trans s3) ⟨_, _, _, hp3⟩
    · rename_i p3 H3 hn3 s3 hp3
      exact kQ _ _ ((s1.trans s2).free hn3) ((s1.trans s2).trans s3) ⟨_, _, _, hp3⟩
abbrev s__law_draw : Stmt := (topS 44)
theorem sc__law_draw : FnScope ["_law_well", "_law_many", "_law_drawn"] ["_law_well", "_law_many"] (defScope s__law_draw) := ⟨rfl, rfl, rfl, by decide +kernel, rfl, by decide +kernel, by decide +kernel⟩
theorem ok__law_draw {f : Addr} {fd : FuncData} (F : Fun K "_law_draw" "_law_draw" s__law_draw f fd) (T : Txt K mg C TC NC KD NV TH) (G__law_mix : Cal P w K mg base CX0 1 "_law_mix" ["_law_cell", "_law_lap"] (spMix)) : FnOk P w K mg base CX0 2 f fd ["_law_well", "_law_many"] (spDraw) := by
  refine F.ok sc__law_draw (fun vs H Q E h => ?_) (fun cdv A outer s H vs Q E hr h => ?_)
  · obtain ⟨wl, m, rfl, m0, m1, hw, k⟩ := h
    rfl
  · obtain ⟨wl, m, rfl, m0, m1, hw, k⟩ := h
    have nd := sc__law_draw.nd
    refine ⟨_, (pss_cons (ps_if (pt_cmpR op_gt (pe_ix ix_list (pv 0) pe_int (fun _ _ => rfl)) pe_int (nomark _)) (pss_cons (ps_set (i := 2) nd rfl (Or.inl rfl) (pe_op op_modN (pe_callTy cInt rfl T.b_int (by decide +kernel) (pa_cons (pe_ix ix_list (pv 0) pe_int (fun _ _ => rfl)) pa_nil)) (pv 1))) (pss_cons (ps_asg (pe_op op_fdivN (pe_ix ix_list (pv 0) pe_int (fun _ _ => rfl)) (pv 1)) (pg_sub (pv 0) pe_int set_list)) (pss_one (ps_ret (pv 2))))) pss_nil) (pss_cons (ps_asg (pe_op op_add (pe_ix ix_list (pv 0) pe_int (fun _ _ => rfl)) pe_int) (pg_sub (pv 0) pe_int set_list)) (pss_one (ps_ret (pe_op op_modN (pe_callTy cInt rfl T.b_int (by decide +kernel) (pa_cons (pe_c G__law_mix hr (pa_cons (pe_ix ix_list (pv 0) pe_int (fun _ _ => rfl)) (pa_cons (pe_ix ix_list (pv 0) pe_int (fun _ _ => rfl)) pa_nil))) pa_nil)) (pv 1)))))), ?_⟩
    clear hr nd F
    try simp only [U.nox_K, U.cxOf_K]
    refine U.st0 (σ' := [some _, some _, none]) rfl ?_
    obtain ⟨x, y, z, hW⟩ := id hw
    walk_at "go"
    · exact k _ _ (fmod_range m0).1 (fmod_range m0).2 (by walk_at "exw")
    · refine l_mix (fun d => ?_)
      walk_at "go"
      exact k _ _ (fmod_range m0).1 (fmod_range m0).2 (by walk_at "exw")
abbrev s__law_pick : Stmt := (topS 45)
theorem sc__law_pick : FnScope ["_law_well", "_law_some"] ["_law_well", "_law_some"] (defScope s__law_pick) := ⟨rfl, rfl, rfl, by decide +kernel, rfl, by decide +kernel, by decide +kernel⟩
theorem ok__law_pick {f : Addr} {fd : FuncData} (F : Fun K "_law_pick" "_law_pick" s__law_pick f fd) (T : Txt K mg C TC NC KD NV TH) (G__law_draw : Cal P w K mg base CX0 2 "_law_draw" ["_law_well", "_law_many"] (spDraw)) : FnOk P w K mg base CX0 3 f fd ["_law_well", "_law_some"] (spOne K) := by
  refine F.ok sc__law_pick (fun vs H Q E h => ?_) (fun cdv A outer s H vs Q E hr h => ?_)
  · obtain ⟨wl, l, xs, rfl, ne, hl, h0, h1, hw, k⟩ := h
    rfl
  · obtain ⟨wl, l, xs, rfl, ne, hl, h0, h1, hw, k⟩ := h
    have nd := sc__law_pick.nd
    refine ⟨_, (pss_one (ps_ret (pe_ix ix_list (pv 1) (pe_c G__law_draw hr (pa_cons (pv 0) (pa_cons (pe_callB cLen rfl T.b_len (by decide +kernel) (pa_cons (pv 1) pa_nil)) pa_nil))) (fun _ _ => rfl)))), ?_⟩
    clear hr nd F
    try simp only [U.nox_K, U.cxOf_K]
    refine U.st0 (σ' := [some _, some _]) rfl ?_
    walk_at "go"
    rename_i d H1 d0 d1 hx
    obtain ⟨v, e, hv⟩ := at_mem d0 d1
    exact U.l_ixL (by walk_at "sq") e (k v _ hv hx)
abbrev s__law_power : Stmt := (topS 46)
theorem sc__law_power : FnScope ["_law_many", "_law_found"] ["_law_many"] (defScope s__law_power) := ⟨rfl, rfl, rfl, by decide +kernel, rfl, by decide +kernel, by decide +kernel⟩
theorem ok__law_power {f : Addr} {fd : FuncData} (F : Fun K "_law_power" "_law_power" s__law_power f fd) (T : Txt K mg C TC NC KD NV TH) : FnOk P w K mg base CX0 1 f fd ["_law_many"] (spPow) := by
  refine F.ok sc__law_power (fun vs H Q E h => ?_) (fun cdv A outer s H vs Q E hr h => ?_)
  · obtain ⟨n, rfl, hn, kQ⟩ := h
    rfl
  · obtain ⟨n, rfl, hn, kQ⟩ := h
    have nd := sc__law_power.nd
    refine ⟨_, (pss_cons (ps_set (i := 1) nd rfl (Or.inl rfl) pe_int) (pss_cons (ps_while PassesOwn.never (pt_cmpR op_lt (pv 1) (pv 0) (nomark _)) (pss_one (ps_set (i := 1) nd rfl (Or.inl rfl) (pe_callB (cMax rfl) rfl T.b_max (by decide +kernel) (pa_cons pe_int (pa_cons (pe_op op_mul pe_int (pv 1)) pa_nil)))))) (pss_one (ps_ret (pv 1))))), ?_⟩
    clear hr nd F
    try simp only [U.nox_K, U.cxOf_K]
    refine U.st0 (σ' := [some _, none]) rfl ?_
    walk_at "go"
    refine ⟨fun m σ H' => H' = H ∧ ∃ f : Nat, σ = [some (.int n), some (.int f)] ∧ PowI n f ∧ m = n - f, ⟨_, rfl, 0, rfl, .inl rfl, rfl⟩, ?_⟩
    rintro m σ H2 ⟨rfl, f, rfl, pf, rfl⟩
    walk_at "go"
    · rename_i g
      have g : f < n := by omega
      refine ⟨_, fun σ' H' h => h, ?_⟩
      obtain ⟨f', e, p2, l2⟩ := pow_step pf g
      walk_at "go"
      exact ⟨_, l2, rfl, f', by rw [show (max 1 (2 * (f : Int))) = (f' : Int) by omega], p2, rfl⟩
    · rename_i g
      rw [pow_end pf (by omega)]
      exact kQ
abbrev s__law_names : Stmt := (topS 49)
theorem sc__law_names : FnScope ["_law_many", "_law_k"] ["_law_many"] (defScope s__law_names) := ⟨rfl, rfl, rfl, by decide +kernel, rfl, by decide +kernel, by decide +kernel⟩
theorem ok__law_names {f : Addr} {fd : FuncData} (F : Fun K "_law_names" "_law_names" s__law_names f fd) (T : Txt K mg C TC NC KD NV TH) : FnOk P w K mg base CX0 1 f fd ["_law_many"] (spNames) := by
  refine F.ok sc__law_names (fun vs H Q E h => ?_) (fun cdv A outer s H vs Q E hr h => ?_)
  · obtain ⟨n, rfl, hn, kQ⟩ := h
    rfl
  · obtain ⟨n, rfl, hn, kQ⟩ := h
    have nd := sc__law_names.nd
    refine ⟨_, (pss_one (ps_ret (pe_lc (own := [("_law_k", 1)]) (g := gName 1) (tt := tYes) rfl nd (pi_range1 rfl T.b_range (pa_cons (pv 0) pa_nil)) (blkOk_by (own := [("_law_k", 1)]) (N := ["_law_many", "_law_k"]) (sc := defScope s__law_names) (by decide +kernel)) (fun _ _ _ _ _ => by exact (pg_name (i := 1) nd rfl (.inl rfl))) (fun _ _ _ _ _ => by exact pts_nil) (fun _ _ _ _ _ => by exact (pe_op op_add_str pe_str (pe_callTy call_str_int rfl T.b_str (by decide +kernel) (pa_cons (pv 1) pa_nil))))))), ?_⟩
    clear hr nd F
    try simp only [U.nox_K, U.cxOf_K]
    refine U.st0 (σ' := [some _, none]) rfl ?_
    walk_at "go"
    have ln : sizeLine = 16777216 := rfl
    refine lc_genG (walk_range) (fun i => some (.str (nameS i))) (by omega) (fun _ _ => trivial) ?_ ?_
    · rintro i x Ha Hb R R' hi sa ⟨rfl, rfl⟩ h1 h2
      simp only [Int.zero_add]
      have hi : i < n := by omega
      refine ⟨rfl, ?_⟩
      refine l_yesC ?_
      walk_at "go"
      refine ⟨_, rfl, ?_, ?_⟩
      · exact Nat.lt_of_le_of_lt (Nat.log2_le_self _) (by omega)
      · refine ⟨_, _, rfl, rfl, ?_, ?_⟩
        · have h3 := numS_len (k := i) (by omega)
          have h4 : ("n" : Str).length = 1 := by decide
          exact Nat.le_trans (Nat.add_le_add (Nat.le_of_eq h4) h3) (by rw [ln]; decide)
        · exact h1 _ _ (Same.refl _) rfl
    · intro p H' hp sm he
      refine kQ p H' hp sm ?_
      rw [he, firsts_some]
      rfl
abbrev s__law_row_right : Stmt := (topS 47)
theorem sc__law_row_right : FnScope ["_law_many", "_law_table", "_law_k"] ["_law_many"] (defScope s__law_row_right) := ⟨rfl, rfl, rfl, by decide +kernel, rfl, by decide +kernel, by decide +kernel⟩
theorem ok__law_row_right {f : Addr} {fd : FuncData} (F : Fun K "_law_row_right" "_law_row_right" s__law_row_right f fd) (T : Txt K mg C TC NC KD NV TH) (G_Table1 : CalD P w K mg base 2 "Table" TC ["self", "number", "array", "nodes", "meta"] (spTabNew C TC NC) [.int 0, .int 0, .non]) (G_put : CalN P w K mg base 9 TC "put" ["self", "key", "value"] (spPut C TC NC)) (G_room : CalN P w K mg base 1 TC "room" ["self"] (spRoom C TC NC)) (G_border : CalN P w K mg base 6 TC "border" ["self"] (spBord C TC NC)) (G_get : CalN P w K mg base 4 TC "get" ["self", "key"] (spGet C TC NC)) (G__law_power : Cal P w K mg base CX0 1 "_law_power" ["_law_many"] (spPow)) : FnOk P w K mg base CX0 10 f fd ["_law_many"] (spOkN 1100) := by
  refine F.ok sc__law_row_right (fun vs H Q E h => ?_) (fun cdv A outer s H vs Q E hr h => ?_)
  · obtain ⟨n, rfl, h1, hn, kQ⟩ := h
    rfl
  · obtain ⟨n, rfl, h1, hn, kQ⟩ := h
    have nd := sc__law_row_right.nd
    refine ⟨_, (pss_cons (ps_set (i := 1) nd rfl (Or.inr rfl) (pe_mkD G_Table1 hr (pa_cons pe_int pa_nil))) (pss_cons (ps_for PassesOwn.never rfl (pi_range2 rfl T.b_range (pa_cons pe_int (pa_cons (pe_op op_add (pv 0) pe_int) pa_nil))) (pg_name (i := 2) nd rfl (.inl rfl)) (pss_cons (ps_expr (pe_mt1 G_put hr (pv 1) (pa_cons (pv 2) (pa_cons (pe_un un_neg (pv 2)) pa_nil)))) (pss_one (ps_if (PW.pt (pw_or (pt_cmpR (op_neD hr.units) (pe_mt0 G_room hr (pv 1)) (pe_tup (pa_cons (pe_c G__law_power hr (pa_cons (pv 2) pa_nil)) (pa_cons pe_int pa_nil))) (nomark _)) (pw_or1 (pt_cmpR op_ne (pe_mt0 G_border hr (pv 1)) (pv 2) (nomark _))))) (pss_one (ps_ret pe_bl)) pss_nil)))) (pss_one (ps_ret (pe_cmpR (op_eqD hr.units) (pe_lc (own := [("_law_k", 2)]) (g := gName 2) (tt := tYes) rfl nd (pi_range1 rfl T.b_range (pa_cons (pe_op op_add (pv 0) pe_int) pa_nil)) (blkOk_by (own := [("_law_k", 2)]) (N := ["_law_many", "_law_table", "_law_k"]) (sc := defScope s__law_row_right) (by decide +kernel)) (fun _ _ _ _ _ => by exact (pg_name (i := 2) nd rfl (.inl rfl))) (fun _ _ _ _ _ => by exact pts_nil) (fun _ _ _ _ _ => by exact (pe_mt1 G_get hr (pv 1) (pa_cons (pv 2) pa_nil)))) (pe_op op_cat (pe_op op_cat (pe_lst (pa_cons pe_non pa_nil)) (pe_lc (own := [("_law_k", 2)]) (g := gName 2) (tt := tYes) rfl nd (pi_range2 rfl T.b_range (pa_cons pe_int (pa_cons (pe_op op_add (pv 0) pe_int) pa_nil))) (blkOk_by (own := [("_law_k", 2)]) (N := ["_law_many", "_law_table", "_law_k"]) (sc := defScope s__law_row_right) (by decide +kernel)) (fun _ _ _ _ _ => by exact (pg_name (i := 2) nd rfl (.inl rfl))) (fun _ _ _ _ _ => by exact pts_nil) (fun _ _ _ _ _ => by exact (pe_un un_neg (pv 2))))) (pe_lst (pa_cons pe_non pa_nil))) (nomark _)))))), ?_⟩
    clear hr nd F
    try simp only [U.nox_K, U.cxOf_K]
    refine U.st0 (σ' := [some _, none, none]) rfl ?_
    have tc := T.tab
    walk_at "go"
    refine l_mk1 ?_
    walk_at "go"
    refine l_mkTP 0 0 rfl rfl T.cls.tn (by decide) (by decide) (fun x G w hx sg t9 ow => ?_)
    walk_at "go"
    refine l_iRng2 ?_
    walk_at "go"
    refine ⟨_, _, rfl, ⟨by decide, by decide, by omega, by omega⟩, ?_⟩
    refine for_range (lo := 1) (fun i σ H' => (∃ v2, σ = [some (.int n), some (.ref x), v2]) ∧ TS C TC NC x H H' rK (fun j => .int (-((j : Int) + 1))) i (sz i) 0) ⟨⟨_, rfl⟩, TS.new ⟨w, t9, sg, ow⟩ (by decide) (by decide)⟩ ?_ ?_
    · rintro i σ H1 hi ⟨⟨v2, rfl⟩, t, ⟨w1, ht1, s1, ow1⟩, r1, lp, ln, ge⟩
      have hi : i < n := by omega
      have hT1 := r1.ok.at_ ht1
      rw [show (1 : Int) + (i : Int) = ((i + 1 : Nat) : Int) by omega]
      walk_at "go"
      refine l_put (k := rK i) hT1 ⟨rfl, by unfold fitsK; omega⟩ rfl (by rw [r1.len, List.length_map, List.length_range]; omega) (fun H2 to2 => ?_)
      have y := TS.put (P' := sz (i + 1)) (N' := 0) s1 ow1 r1 lp ln ge to2 rfl rfl (by omega) rfl (fun z => by cases z) rK_inj (rm_row (by omega))
      obtain ⟨t2, ⟨w2, ht2, s2, ow2⟩, r2, lp2, ln2, ge2⟩ := id y
      have bo := row_bord (f := fun m => .int (-(((m - 1).toNat : Nat) + 1))) r2.ok (by omega) (fun m z => by cases z) (rK_get r2 ge2)
      walk_at "go"
      refine l_room ht2 (fun p3 H3 hn3 s3 hp3 => ?_)
      walk_at "go"
      refine l_pow (by omega) ?_
      walk_at "go"
      rename_i p4 H4 hn4 s4 hp4
      refine l_bord ((r2.ok.at_ ht2).same (s3.trans s4)) (fun H5 s5 => ?_)
      rw [bo]
      walk_at "go"
      · rename_i z
        exact absurd rfl z
      · exact ⟨⟨_, rfl⟩, ((y.same s3).same s4).same s5⟩
    · rintro σ H1 ⟨⟨v2, rfl⟩, t, ⟨w1, ht1, s1, ow1⟩, r1, lp, ln, ge⟩
      rw [show ((n : Int) + 1 - 1).toNat = n by omega] at r1 lp ge
      have ge := rK_get r1 ge
      have hT1 := r1.ok.at_ ht1
      have lz : sizeLine = 16777216 := rfl
      walk_at "go"
      refine lc_genG (walk_range) (fun i => some (getM t (.i (i : Int)))) (by omega) (fun _ _ => trivial) ?_ ?_
      · rintro i x Ha Hb R R' hi sa ⟨rfl, rfl⟩ g1 g2
        simp only [Int.zero_add]
        have hi : i < n + 2 := by omega
        refine ⟨rfl, ?_⟩
        refine l_yesC ?_
        walk_at "go"
        exact l_get (k := .i (i : Int)) (hT1.same sa) ⟨rfl, by unfold fitsK; omega⟩ rfl (fun H9 s9 => g1 _ _ s9 rfl)
      · intro p H' hp sm he
        rw [firsts_some] at he
        walk_at "go"
        rename_i p0 H0 hn0 s0 hp0
        refine l_iRng2 ?_
        walk_at "go"
        refine ⟨_, _, rfl, ⟨by decide, by decide, by omega, by omega⟩, ?_⟩
        refine lc_genG (walk_range) (fun i => some (.int (-(1 + (i : Int))))) (by omega) (fun _ _ => trivial) ?_ ?_
        · rintro i x Ha Hb R R' hi sa ⟨rfl, rfl⟩ g1 g2
          simp only []
          refine ⟨rfl, ?_⟩
          refine l_yesC ?_
          walk_at "go"
          exact g1 _ _ (Same.refl _) rfl
        · intro p5 H5 hp5 sm5 he5
          rw [firsts_some] at he5
          walk_at "go"
          refine l_cat (sm5 _ _ hp0) he5 (by rw [List.length_map, List.length_range, List.length_singleton]; omega) (fun p6 H6 hn6 s6 hp6 => ?_)
          walk_at "go"
          rename_i p7 H7 hn7 s7 hp7
          refine l_cat (s7 _ _ hp6) hp7 (by rw [List.length_append, List.length_map, List.length_range, List.length_singleton]; omega) (fun p8 H8 hn8 s8 hp8 => ?_)
          have he8 : H8 p = some (.lst ([V.non] ++ (List.range n).map (fun i : Nat => V.int (-(1 + (i : Int)))) ++ [V.non])) := by
            rw [← rowL ge]
            have q := s8 _ _ (s7 _ _ (s6 _ _ (sm5 _ _ (s0 _ _ he))))
            rw [show ((n : Int) + 2).toNat = n + 2 by omega] at q
            exact q
          simp only [show ((n : Int) + 1 - 1).toNat = n by omega] at hp8
          refine l_eqL he8 hp8 ?_ ?_
          · rw [List.all_append, List.all_append, allNV]
            rfl
          · exact kQ _ (s1.trans (sm.trans (s0.trans (sm5.trans (s6.trans (s7.trans s8))))))
abbrev s__law_down_right : Stmt := (topS 48)
theorem sc__law_down_right : FnScope ["_law_many", "_law_table", "_law_due", "_law_k", "_law_count", "_law_inside", "_law_best", "_law_power_here"] ["_law_many"] (defScope s__law_down_right) := ⟨rfl, rfl, rfl, by decide +kernel, rfl, by decide +kernel, by decide +kernel⟩
theorem ok__law_down_right {f : Addr} {fd : FuncData} (F : Fun K "_law_down_right" "_law_down_right" s__law_down_right f fd) (T : Txt K mg C TC NC KD NV TH) (G_Table1 : CalD P w K mg base 2 "Table" TC ["self", "number", "array", "nodes", "meta"] (spTabNew C TC NC) [.int 0, .int 0, .non]) (G_put : CalN P w K mg base 9 TC "put" ["self", "key", "value"] (spPut C TC NC)) (G_room : CalN P w K mg base 1 TC "room" ["self"] (spRoom C TC NC)) (G_border : CalN P w K mg base 6 TC "border" ["self"] (spBord C TC NC)) (G_get : CalN P w K mg base 4 TC "get" ["self", "key"] (spGet C TC NC)) (G__law_power : Cal P w K mg base CX0 1 "_law_power" ["_law_many"] (spPow)) : FnOk P w K mg base CX0 10 f fd ["_law_many"] (spOkN 40) := by
  refine F.ok sc__law_down_right (fun vs H Q E h => ?_) (fun cdv A outer s H vs Q E hr h => ?_)
  · obtain ⟨n, rfl, h1, hn, kQ⟩ := h
    rfl
  · obtain ⟨n, rfl, h1, hn, kQ⟩ := h
    have nd := sc__law_down_right.nd
    refine ⟨_, (pss_cons (ps_asg (pe_tup (pa_cons (pe_mkD G_Table1 hr (pa_cons pe_int pa_nil)) (pa_cons (pe_tup (pa_cons pe_int (pa_cons pe_int pa_nil))) pa_nil))) (pg_tup rfl (pgs_cons (pg_name (i := 1) nd rfl (.inr rfl)) (pgs_cons (pg_name (i := 2) nd rfl (.inl rfl)) pgs_nil)))) (pss_cons (ps_for PassesOwn.never rfl (pi_range3 rfl T.b_range (pa_cons (pv 0) (pa_cons pe_int (pa_cons (pe_un un_neg pe_int) pa_nil)))) (pg_name (i := 3) nd rfl (.inl rfl)) (pss_cons (ps_set (i := 4) nd rfl (Or.inl rfl) (pe_op op_add (pe_op op_sub (pv 0) (pv 3)) pe_int)) (pss_cons (ps_set (i := 5) nd rfl (Or.inl rfl) (pe_callB (cMax rfl) rfl T.b_max (by decide +kernel) (pa_cons pe_int (pa_cons (pe_op op_sub (pe_callB (cMin rfl) rfl T.b_min (by decide +kernel) (pa_cons (pe_ix ix_tup (pv 2) pe_int (fun _ _ => rfl)) (pa_cons (pv 0) pa_nil))) (pv 3)) pa_nil)))) (pss_cons (ps_if (PW.pt (pw_and (pt_cmpR op_gt (pv 3) (pe_ix ix_tup (pv 2) pe_int (fun _ _ => rfl)) (nomark _)) (pw_and1 (pt_cmpR op_gt (pv 4) (pe_op op_add (pe_ix ix_tup (pv 2) pe_int (fun _ _ => rfl)) (pv 5)) (nomark _))))) (pss_cons (ps_set (i := 6) nd rfl (Or.inl rfl) pe_int) (pss_cons (ps_for PassesOwn.never rfl (pi_range1 rfl T.b_range (pa_cons pe_int pa_nil)) (pg_name (i := 7) nd rfl (.inl rfl)) (pss_one (ps_if (PW.pt (pw_and (pt_cmpR op_gt (pe_op op_mul pe_int (pe_op op_add (pe_op op_sub (pe_op op_shl pe_int (pv 7)) (pv 3)) pe_int)) (pe_op op_shl pe_int (pv 7)) (nomark _)) (pw_and1 (pt_cmpR op_ge (pv 0) (pe_op op_shl pe_int (pv 7)) (nomark _))))) (pss_one (ps_set (i := 6) nd rfl (Or.inl rfl) (pe_op op_shl pe_int (pv 7)))) (pss_one (ps_if (pt_chain op_gt op_ge (pe_op op_mul pe_int (pv 4)) (pe_op op_shl pe_int (pv 7)) (pv 0)) (pss_one (ps_set (i := 6) nd rfl (Or.inl rfl) (pe_op op_shl pe_int (pv 7)))) pss_nil))))) (pss_cons (ps_set (i := 5) nd rfl (Or.inl rfl) (pe_callB (cMax rfl) rfl T.b_max (by decide +kernel) (pa_cons pe_int (pa_cons (pe_op op_add (pe_op op_sub (pe_callB (cMin rfl) rfl T.b_min (by decide +kernel) (pa_cons (pv 6) (pa_cons (pv 0) pa_nil))) (pv 3)) pe_int) pa_nil)))) (pss_one (ps_set (i := 2) nd rfl (Or.inl rfl) (pe_tup (pa_cons (pv 6) (pa_cons (pe_c G__law_power hr (pa_cons (pe_op op_sub (pv 4) (pv 5)) pa_nil)) pa_nil)))))))) pss_nil) (pss_cons (ps_expr (pe_mt1 G_put hr (pv 1) (pa_cons (pv 3) (pa_cons (pv 3) pa_nil)))) (pss_one (ps_if (pt_cmpR (op_neD hr.units) (pe_mt0 G_room hr (pv 1)) (pv 2) (nomark _)) (pss_one (ps_ret pe_bl)) pss_nil))))))) (pss_one (ps_ret (pe_cmpR (op_eqD hr.units) (pe_lc (own := [("_law_k", 3)]) (g := gName 3) (tt := tYes) rfl nd (pi_range2 rfl T.b_range (pa_cons pe_int (pa_cons (pe_op op_add (pv 0) pe_int) pa_nil))) (blkOk_by (own := [("_law_k", 3)]) (N := ["_law_many", "_law_table", "_law_due", "_law_k", "_law_count", "_law_inside", "_law_best", "_law_power_here"]) (sc := defScope s__law_down_right) (by decide +kernel)) (fun _ _ _ _ _ => by exact (pg_name (i := 3) nd rfl (.inl rfl))) (fun _ _ _ _ _ => by exact pts_nil) (fun _ _ _ _ _ => by exact (pe_mt1 G_get hr (pv 1) (pa_cons (pv 3) pa_nil)))) (pe_listRg rfl rfl T.b_list (prg_2 rfl T.b_range pe_int (pe_op op_add (pv 0) pe_int))) (nomark _)))))), ?_⟩
    clear hr nd F
    try simp only [U.nox_K, U.cxOf_K]
    refine U.st0 (σ' := [some _, none, none, none, none, none, none, none]) rfl ?_
    have tc := T.tab
    walk_at "go"
    refine l_mk1 ?_
    walk_at "go"
    refine l_mkTP 0 0 rfl rfl T.cls.tn (by decide) (by decide) (fun x G w hx sg t9 ow => ?_)
    have y0 : TS C TC NC x H G (dK n) (fun j => .int ((n : Int) - j)) 0 0 (sz 0) := TS.new ⟨w, t9, sg, ow⟩ (by decide) (by decide)
    walk_at "go"
    rename_i d0 H1 hn1 s1 hd0 p2 H2 hn2 s2 hp2
    obtain ⟨B, sB, sB1, y1, kl⟩ := y0.rebase s1 hn1
    have hdB := kl _ hd0
    refine ⟨_, _, _, _, rfl, RgC.neg (by omega) (by omega) (by decide) (by decide), ?_⟩
    refine for_rangeC (fun i σ H' => ∃ v3 v4 v5 v6 v7 B d, ∃ P N : Nat, σ = [some (.int n), some (.ref x), some (.ref d), v3, v4, v5, v6, v7] ∧ Same H B ∧ B d = some (.tup [.int P, .int N]) ∧ TS C TC NC x B H' (dK n) (fun j => .int ((n : Int) - j)) i P N) ⟨_, _, _, _, _, B, d0, 0, 0, rfl, sB, hdB, y1.same s2⟩ ?_ ?_
    · rintro i σ H3 hi ⟨v3, v4, v5, v6, v7, B, d, P, N, rfl, sB, hdB, t, ⟨w1, ht1, s1, ow1⟩, r1, lp, ln, ge⟩
      have hi : i < n := by omega
      have hT1 := r1.ok.at_ ht1
      have hd1 := s1 _ _ hdB
      rw [show (n : Int) + (i : Nat) * (-1) = (n : Int) - i by omega]
      have rm := rm_dn (P := P) (N := N) hi (by omega)
      walk_at "go"
      · rename_i g1 g2
        rw [if_pos (by omega)] at rm
        refine for_range (lo := 0) (fun h σ H' => (∃ v5 v7, σ = [some (.int n), some (.ref x), some (.ref d), some (.int ((n : Int) - i)), some (.int ((n : Int) - ((n : Int) - i) + 1)), v5, some (.int ((pfU (dnK n (i + 1)) h : Nat) : Int)), v7]) ∧ H' = H3) ⟨⟨_, _, rfl⟩, rfl⟩ ?_ ?_
        · rintro h σ H4 hh ⟨⟨v5, v7, rfl⟩, rfl⟩
          have e0 : (1 : Int) * 2 ^ ((0 : Int) + (h : Int)).toNat = (2 : Int) ^ h := by rw [Int.one_mul, Int.zero_add, Int.toNat_natCast]
          have q := pf_dn (n := n) (c := i + 1) (j := h) (by omega)
          have e1 : (1 : Int) * 2 ^ ((0 : Int) + (h : Int)).toNat = ((2 ^ h : Nat) : Int) := by rw [Int.one_mul, Int.zero_add, Int.toNat_natCast, c2]
          generalize (2 : Int) ^ h = X at q e0
          walk_at "go"
          all_goals first
            | (have ep : pfU (dnK n (i + 1)) (h + 1) = 2 ^ h := if_pos (q.mpr (by omega))
               refine ⟨⟨v5, some (.int ((0 : Int) + (h : Int))), ?_⟩, rfl⟩
               rw [ep, ← e1]; done)
            | (have ep : pfU (dnK n (i + 1)) (h + 1) = pfU (dnK n (i + 1)) h := if_neg (fun z => by have := q.mp z; omega)
               exact ⟨⟨v5, some (.int ((0 : Int) + (h : Int))), by rw [ep]⟩, rfl⟩)
        · rintro σ H4 ⟨⟨v5, v7, rfl⟩, rfl⟩
          walk_at "go"
          rw [show Int.toNat 12 = 12 from rfl]
          obtain ⟨cn, ecn⟩ : ∃ c : Nat, ((i : Int) + 1 - max 0 (min ((pfU (dnK n (i + 1)) 12 : Nat) : Int) n - ((n : Int) - i) + 1)).toNat = c := ⟨_, rfl⟩
          rw [ecn] at rm
          refine l_powI (n := cn) (by omega) (by omega) ?_
          walk_at "go"
          rename_i d2 H5 hn5 s5 hd5
          have y3 : TS C TC NC x B H4 (dK n) (fun j => .int ((n : Int) - j)) i P N := ⟨t, ⟨w1, ht1, s1, ow1⟩, r1, lp, ln, ge⟩
          obtain ⟨B2, sB2, _, y5, kl2⟩ := y3.rebase s5 hn5
          have hdB2 := kl2 _ hd5
          obtain ⟨t5, ⟨w5, ht5, s5', ow5⟩, r5, lp5, ln5, ge5⟩ := id y5
          have hT5 := r5.ok.at_ ht5
          refine l_put (k := dK n i) hT5 ⟨rfl, by unfold fitsK; omega⟩ rfl (by rw [r5.len, List.length_map, List.length_range]; omega) (fun H6 to6 => ?_)
          have y := TS.put (P' := pfU (dnK n (i + 1)) 12) (N' := sz cn) s5' ow5 r5 lp5 ln5 ge5 to6 rfl rfl (by omega) rfl (fun z => by cases z) dK_inj rm
          obtain ⟨t2, ⟨w2, ht2, s2, ow2⟩, r2, lp2, ln2, ge2⟩ := id y
          have hd6 := s2 _ _ hdB2
          walk_at "go"
          refine l_room ht2 (fun p7 H7 hn7 s7 hp7 => ?_)
          have hd7 := s7 _ _ hd6
          walk_at "go"
          exact ⟨_, _, _, _, _, B2, d2, pfU (dnK n (i + 1)) 12, sz cn, rfl, sB.trans sB2, hdB2, y.same s7⟩
      · rename_i g1 g2
        rw [if_neg (by omega)] at rm
        refine l_put (k := dK n i) hT1 ⟨rfl, by unfold fitsK; omega⟩ rfl (by rw [r1.len, List.length_map, List.length_range]; omega) (fun H4 to4 => ?_)
        have y := TS.put (P' := P) (N' := N) s1 ow1 r1 lp ln ge to4 rfl rfl (by omega) rfl (fun z => by cases z) dK_inj rm
        obtain ⟨t2, ⟨w2, ht2, s2, ow2⟩, r2, lp2, ln2, ge2⟩ := id y
        have hd4 := s2 _ _ hdB
        walk_at "go"
        refine l_room ht2 (fun p5 H5 hn5 s5 hp5 => ?_)
        have hd5 := s5 _ _ hd4
        walk_at "go"
        exact ⟨_, _, _, _, _, B, d, P, N, rfl, sB, hdB, y.same s5⟩
      · rename_i g1
        rw [if_neg (by omega)] at rm
        refine l_put (k := dK n i) hT1 ⟨rfl, by unfold fitsK; omega⟩ rfl (by rw [r1.len, List.length_map, List.length_range]; omega) (fun H4 to4 => ?_)
        have y := TS.put (P' := P) (N' := N) s1 ow1 r1 lp ln ge to4 rfl rfl (by omega) rfl (fun z => by cases z) dK_inj rm
        obtain ⟨t2, ⟨w2, ht2, s2, ow2⟩, r2, lp2, ln2, ge2⟩ := id y
        have hd4 := s2 _ _ hdB
        walk_at "go"
        refine l_room ht2 (fun p5 H5 hn5 s5 hp5 => ?_)
        have hd5 := s5 _ _ hd4
        walk_at "go"
        exact ⟨_, _, _, _, _, B, d, P, N, rfl, sB, hdB, y.same s5⟩
    · rintro σ H3 ⟨v3, v4, v5, v6, v7, B, d, P, N, rfl, sB, hdB, t, ⟨w1, ht1, s1, ow1⟩, r1, lp, ln, ge⟩
      rw [show ((n : Int) - 0).toNat = n by omega] at r1 ge
      have hT1 := r1.ok.at_ ht1
      have lz : sizeLine = 16777216 := rfl
      walk_at "go"
      refine l_iRng2 ?_
      walk_at "go"
      refine ⟨_, _, rfl, ⟨by decide, by decide, by omega, by omega⟩, ?_⟩
      refine lc_genG (walk_range) (fun i => some (getM t (.i (1 + (i : Int))))) (by omega) (fun _ _ => trivial) ?_ ?_
      · rintro i x9 Ha Hb R R' hi sa ⟨rfl, rfl⟩ g1 g2
        simp only []
        refine ⟨rfl, ?_⟩
        refine l_yesC ?_
        walk_at "go"
        exact l_get (k := .i (1 + (i : Int))) (hT1.same sa) ⟨rfl, by unfold fitsK; omega⟩ rfl (fun H9 s9 => g1 _ _ s9 rfl)
      · intro pg Hg hpg smg heg
        rw [firsts_some] at heg
        walk_at "go"
        refine ⟨_, _, rfl, rfl, ⟨by decide, by decide, by omega, by omega, by omega⟩, fun q hq => ?_⟩
        have sq := sameUpd (o := HO.lst (rgV 1 ((n : Int) + 1))) hq
        have eq9 : upd Hg q (.lst (rgV 1 ((n : Int) + 1))) q = some (.lst (rgV 1 ((n : Int) + 1))) := upd_same
        generalize upd Hg q (.lst (rgV 1 ((n : Int) + 1))) = Hi at sq eq9 ⊢
        have hek : Hi pg = some (.lst (rgV 1 ((n : Int) + 1))) := by
          have q9 := sq _ _ heg
          rw [show ((n : Int) + 1 - 1).toNat = n by omega, rgL (b := (n : Int) + 1) rfl (fun i hi => dK_get (i := n) (by omega) r1 ge _ (by omega) (by omega))] at q9
          exact q9
        refine l_eqL hek eq9 (rgNV _ _) ?_
        exact kQ _ (sB.trans (s1.trans (smg.trans sq)))
abbrev s__law_strings_right : Stmt := (topS 50)
theorem sc__law_strings_right : FnScope ["_law_many", "_law_table", "_law_k", "_law_name", "_law_kept", "_law_row"] ["_law_many"] (defScope s__law_strings_right) := ⟨rfl, rfl, rfl, by decide +kernel, rfl, by decide +kernel, by decide +kernel⟩
theorem ok__law_strings_right {f : Addr} {fd : FuncData} (F : Fun K "_law_strings_right" "_law_strings_right" s__law_strings_right f fd) (T : Txt K mg C TC NC KD NV TH) (G_Table1 : CalD P w K mg base 2 "Table" TC ["self", "number", "array", "nodes", "meta"] (spTabNew C TC NC) [.int 0, .int 0, .non]) (G_put : CalN P w K mg base 9 TC "put" ["self", "key", "value"] (spPut C TC NC)) (G_room : CalN P w K mg base 1 TC "room" ["self"] (spRoom C TC NC)) (G_border : CalN P w K mg base 6 TC "border" ["self"] (spBord C TC NC)) (G_get : CalN P w K mg base 4 TC "get" ["self", "key"] (spGet C TC NC)) (G__law_power : Cal P w K mg base CX0 1 "_law_power" ["_law_many"] (spPow)) (G__law_names : Cal P w K mg base CX0 1 "_law_names" ["_law_many"] (spNames)) (G_rows : CalN P w K mg base 1 TC "rows" ["self"] (spRows C TC NC)) : FnOk P w K mg base CX0 10 f fd ["_law_many"] (spOkN 1100) := by
  refine F.ok sc__law_strings_right (fun vs H Q E h => ?_) (fun cdv A outer s H vs Q E hr h => ?_)
  · obtain ⟨n, rfl, h1, hn, kQ⟩ := h
    rfl
  · obtain ⟨n, rfl, h1, hn, kQ⟩ := h
    have nd := sc__law_strings_right.nd
    refine ⟨_, (pss_cons (ps_set (i := 1) nd rfl (Or.inr rfl) (pe_mkD G_Table1 hr (pa_cons pe_int pa_nil))) (pss_cons (ps_for PassesOwn.never rfl (pi_enum rfl T.b_enumerate (pa_cons (pe_c G__law_names hr (pa_cons (pv 0) pa_nil)) pa_nil)) (pg_tup rfl (pgs_cons (pg_name (i := 2) nd rfl (.inl rfl)) (pgs_cons (pg_name (i := 3) nd rfl (.inl rfl)) pgs_nil))) (pss_cons (ps_expr (pe_mt1 G_put hr (pv 1) (pa_cons (pv 3) (pa_cons (pv 2) pa_nil)))) (pss_one (ps_if (pt_cmpR (op_neD hr.units) (pe_mt0 G_room hr (pv 1)) (pe_tup (pa_cons pe_int (pa_cons (pe_c G__law_power hr (pa_cons (pe_op op_add (pv 2) pe_int) pa_nil)) pa_nil))) (nomark _)) (pss_one (ps_ret pe_bl)) pss_nil)))) (pss_cons (ps_setLc (i := 4) (own := [("_law_name", 3)]) (g := gName 3) rfl nd rfl rfl (sw_true rfl rfl rfl (by decide +kernel)) (pi_list (pe_c G__law_names hr (pa_cons (pv 0) pa_nil))) (blkOk_by (own := [("_law_name", 3)]) (N := ["_law_many", "_law_table", "_law_k", "_law_name", "_law_kept", "_law_row"]) (sc := defScope s__law_strings_right) (by decide +kernel)) (fun _ _ _ _ _ => by exact (pg_name (i := 3) nd rfl (.inl rfl))) (fun _ _ _ _ _ => by exact (pts_one (pt_cmpR op_isn (pe_mt1 G_get hr (pv 1) (pa_cons (pv 3) pa_nil)) pe_non (nomark _)))) (fun _ _ _ _ _ => by exact (pv 3))) (pss_one (ps_ret (pe_and (pe_cmpR (op_eqD hr.units) (pv 4) (pe_lst pa_nil) (nomark _)) (pe_and (pe_cmpR op_eq (pe_mt0 G_border hr (pv 1)) pe_int (nomark _)) (pe_one (pe_cmpR op_eq (pe_callB cLen rfl T.b_len (by decide +kernel) (pa_cons (pe_lc (own := [("_law_row", 5)]) (g := gName 5) rfl nd (pi_list (pe_mt0 G_rows hr (pv 1))) (blkOk_by (own := [("_law_row", 5)]) (N := ["_law_many", "_law_table", "_law_k", "_law_name", "_law_kept", "_law_row"]) (sc := defScope s__law_strings_right) (by decide +kernel)) (fun _ _ _ _ _ => by exact (pg_name (i := 5) nd rfl (.inl rfl))) (fun _ _ _ _ _ => by exact (pts_one (pt_cmpR op_notn (pv 5) pe_non (nomark _)))) (fun _ _ _ _ _ => by exact (pv 5))) pa_nil)) (pv 0) (nomark _)))))))))), ?_⟩
    clear hr nd F
    try simp only [U.nox_K, U.cxOf_K]
    refine U.st0 (σ' := [some _, none, none, none, none, none]) rfl ?_
    have tc := T.tab
    walk_at "go"
    refine l_mk1 ?_
    walk_at "go"
    refine l_mkTP 0 0 rfl rfl T.cls.tn (by decide) (by decide) (fun x G w hx sg t9 ow => ?_)
    have lz : sizeLine = 16777216 := rfl
    have y0 : TS C TC NC x H G sK (fun j => .int (j : Int)) 0 0 (sz 0) := TS.new ⟨w, t9, sg, ow⟩ (by decide) (by decide)
    walk_at "go"
    refine l_names hn (fun l H1 hn1 s1 hl => ?_)
    obtain ⟨B, sB, sB1, y1, kl⟩ := y0.rebase s1 hn1
    have hlB := kl _ hl
    walk_at "go"
    refine ⟨_, _, rfl, SqL.of hl, ?_⟩
    refine for_it (walk_enum (xs := nameL n)) (fun i σ H' => (∃ v2 v3 v4 v5, σ = [some (.int n), some (.ref x), v2, v3, v4, v5]) ∧ TS C TC NC x B H' sK (fun j => .int (j : Int)) i 0 (sz i)) ⟨⟨_, _, _, _, rfl⟩, y1⟩ (fun i σ H' _ h => ?_) ?_ ?_
    · obtain ⟨_, t, ⟨w1, h1, s1, o1⟩, _⟩ := h
      exact SqL.of (s1 _ _ hlB)
    · rintro i x9 σ Hc Hd hi ⟨⟨v2, v3, v4, v5, rfl⟩, t, ⟨w1, ht1, s1, ow1⟩, r1, lp, ln, ge⟩ ⟨T1, x1, v, rfl, hT1, rfl, e1, hv⟩
      cases e1
      rw [nameL_len] at hi
      have hv := (nameL_get hi).symm.trans hv
      cases hv
      have sd : Same Hc (upd Hc T1 (.tup [.int i, .str (nameS i)])) := sameUpd hT1
      have hd1 : upd Hc T1 (.tup [.int i, .str (nameS i)]) T1 = some (.tup [.int i, .str (nameS i)]) := upd_same
      generalize upd Hc T1 (.tup [.int i, .str (nameS i)]) = Hd at sd hd1 ⊢
      have hTc := r1.ok.at_ (ht1.same sd)
      walk_at "go"
      refine l_put (k := sK i) hTc ⟨rfl, nameS_len (by omega)⟩ rfl (by rw [r1.len, List.length_map, List.length_range]; omega) (fun H2 to2 => ?_)
      have y := TS.put (P' := 0) (N' := sz (i + 1)) (s1.trans sd) ow1 r1 lp ln ge to2 rfl rfl (by omega) rfl (fun z => by cases z) sK_inj (sK_rm i)
      obtain ⟨t2, ⟨w2, ht2, s2, ow2⟩, r2, lp2, ln2, ge2⟩ := id y
      walk_at "go"
      refine l_room ht2 (fun p3 H3 hn3 s3 hp3 => ?_)
      walk_at "go"
      refine l_pow (n := i + 1) (by omega) ?_
      walk_at "go"
      rename_i p4 H4 hn4 s4 hp4
      exact ⟨⟨_, _, _, _, rfl⟩, (y.same s3).same s4⟩
    · rintro σ H2 ⟨⟨v2, v3, v4, v5, rfl⟩, t, ⟨w1, ht1, s1, ow1⟩, r1, lp, ln, ge⟩
      rw [nameL_len] at r1 ln ge
      have hT1 := r1.ok.at_ ht1
      walk_at "go"
      refine l_lcT ?_
      walk_at "go"
      refine l_names hn (fun l2 H3 hn3 s3 hl3 => ?_)
      walk_at "go"
      refine lc_gen (walk_list (xs := nameL n)) (fun _ => none) (by rw [nameL_len]; omega) (fun H4 s4 => SqL.of (s4 _ _ hl3)) ?_ ?_
      · rintro i x9 Ha Hb R R' hi sa ⟨rfl, hx9⟩ g1 g2
        rw [nameL_len] at hi
        have hx9 := (nameL_get hi).symm.trans hx9
        cases hx9
        refine ⟨rfl, ?_⟩
        walk_at "go"
        refine l_get (k := sK i) ((hT1.same s3).same sa) ⟨rfl, nameS_len (by omega)⟩ rfl (fun H9 s9 => ?_)
        rw [ge i hi]
        walk_at "go"
        exact g2 _ s9 rfl
      · intro D H4 hD sm he
        rw [firsts_none] at he
        walk_at "go"
        rename_i p5 H5 hn5 s5 hp5 z5
        have hT5 := ((hT1.same s3).same sm).same s5
        refine l_bord hT5 (fun H6 s6 => ?_)
        rw [sK_bord r1]
        walk_at "go"
        refine l_lcT ?_
        walk_at "go"
        have hT6 := hT5.same s6
        refine l_rows hT6.at_ hT6.szN (fun pr Hr rs hnr sr hr rl rh => ?_)
        walk_at "go"
        have rl2 := hT6.szN
        have lr : rs.length < sizeLine := by omega
        refine lc_gen (walk_list (xs := rs)) (keptF rs) lr (fun H7 s7 => SqL.of (s7 _ _ hr)) ?_ ?_
        · rintro i x9 Ha Hb R R' hi sa ⟨rfl, hx9⟩ g1 g2
          have ek : keptF rs i = if x9 = .non then none else some x9 := by unfold keptF; rw [hx9]
          refine ⟨rfl, ?_⟩
          walk_at "go"
          refine l_notnD (fun hv => ?_) (fun hv => ?_)
          · walk_at "go"
            exact g2 _ (Same.refl _) (by rw [ek, if_pos hv])
          · walk_at "go"
            exact g1 _ _ (Same.refl _) (by rw [ek, if_neg hv])
        · intro pk Hk hpk smk hek
          walk_at "go"
          have hcount : (firsts (keptF rs) rs.length).length = n := by rw [kept_len, rh, r1.occ_, lp, out0, List.length_map, List.length_range]
          rw [hcount, decide_eq_true rfl]
          exact kQ _ (sB.trans (s1.trans (s3.trans (sm.trans (s5.trans (s6.trans (sr.trans smk)))))))
        · rename_i z
          exact absurd rfl z
        · rename_i z
          exact absurd z (by simp [PyData.eqv, PyData.eqvAll])
abbrev s__law_made_right : Stmt := (topS 51)
theorem sc__law_made_right : FnScope ["_law_places", "_law_nodes", "_law_many", "_law_table", "_law_k", "_law_name"] ["_law_places", "_law_nodes", "_law_many"] (defScope s__law_made_right) := ⟨rfl, rfl, rfl, by decide +kernel, rfl, by decide +kernel, by decide +kernel⟩
theorem ok__law_made_right {f : Addr} {fd : FuncData} (F : Fun K "_law_made_right" "_law_made_right" s__law_made_right f fd) (T : Txt K mg C TC NC KD NV TH) (G_Table : CalD P w K mg base 2 "Table" TC ["self", "number", "array", "nodes", "meta"] (spTabNew C TC NC) [.non]) (G_make_room : CalN P w K mg base 7 TC "make_room" ["self", "count"] (spMkR C TC NC)) (G_put : CalN P w K mg base 9 TC "put" ["self", "key", "value"] (spPut C TC NC)) (G_room : CalN P w K mg base 1 TC "room" ["self"] (spRoom C TC NC)) (G_border : CalN P w K mg base 6 TC "border" ["self"] (spBord C TC NC)) (G_get : CalN P w K mg base 4 TC "get" ["self", "key"] (spGet C TC NC)) (G__law_power : Cal P w K mg base CX0 1 "_law_power" ["_law_many"] (spPow)) (G__law_names : Cal P w K mg base CX0 1 "_law_names" ["_law_many"] (spNames)) : FnOk P w K mg base CX0 10 f fd ["_law_places", "_law_nodes", "_law_many"] (spMade) := by
  refine F.ok sc__law_made_right (fun vs H Q E h => ?_) (fun cdv A outer s H vs Q E hr h => ?_)
  · obtain ⟨p, n, m, rfl, hp, hn, hm, kQ⟩ := h
    rfl
  · obtain ⟨p, n, m, rfl, hp, hn, hm, kQ⟩ := h
    have nd := sc__law_made_right.nd
    refine ⟨_, (pss_cons (ps_set (i := 3) nd rfl (Or.inr rfl) (pe_mkD G_Table hr (pa_cons pe_int (pa_cons (pv 0) (pa_cons (pv 1) pa_nil))))) (pss_cons (ps_if (PW.pt (pw_or (pt_cmpR (op_neD hr.units) (pe_mt0 G_room hr (pv 3)) (pe_tup (pa_cons (pv 0) (pa_cons (pe_c G__law_power hr (pa_cons (pv 1) pa_nil)) pa_nil))) (nomark _)) (pw_or1 (pt_cmpR op_ne (pe_mt0 G_border hr (pv 3)) pe_int (nomark _))))) (pss_one (ps_ret pe_bl)) pss_nil) (pss_cons (ps_for PassesOwn.never rfl (pi_range2 rfl T.b_range (pa_cons pe_int (pa_cons (pe_op op_add (pv 0) pe_int) pa_nil))) (pg_name (i := 4) nd rfl (.inl rfl)) (pss_one (ps_expr (pe_mt1 G_put hr (pv 3) (pa_cons (pv 4) (pa_cons (pv 4) pa_nil)))))) (pss_cons (ps_for PassesOwn.never rfl (pi_list (pe_c G__law_names hr (pa_cons (pv 1) pa_nil))) (pg_name (i := 5) nd rfl (.inl rfl)) (pss_one (ps_expr (pe_mt1 G_put hr (pv 3) (pa_cons (pv 5) (pa_cons pe_str pa_nil)))))) (pss_cons (ps_if (PW.pt (pw_or (pt_cmpR (op_neD hr.units) (pe_mt0 G_room hr (pv 3)) (pe_tup (pa_cons (pv 0) (pa_cons (pe_c G__law_power hr (pa_cons (pv 1) pa_nil)) pa_nil))) (nomark _)) (pw_or1 (pt_cmpR op_ne (pe_mt0 G_border hr (pv 3)) (pv 0) (nomark _))))) (pss_one (ps_ret pe_bl)) pss_nil) (pss_cons (ps_expr (pe_mt1 G_make_room hr (pv 3) (pa_cons (pv 2) pa_nil))) (pss_cons (ps_if (PW.pt (pw_or (pt_cmpR (op_neD hr.units) (pe_mt0 G_room hr (pv 3)) (pe_tup (pa_cons (pe_callB (cMax rfl) rfl T.b_max (by decide +kernel) (pa_cons (pv 0) (pa_cons (pv 2) pa_nil))) (pa_cons (pe_c G__law_power hr (pa_cons (pv 1) pa_nil)) pa_nil))) (nomark _)) (pw_or1 (pt_cmpR op_ne (pe_mt0 G_border hr (pv 3)) (pv 0) (nomark _))))) (pss_one (ps_ret pe_bl)) pss_nil) (pss_one (ps_ret (pe_cmpR (op_eqD hr.units) (pe_lc (own := [("_law_k", 4)]) (g := gName 4) (tt := tYes) rfl nd (pi_range2 rfl T.b_range (pa_cons pe_int (pa_cons (pe_op op_add (pv 0) pe_int) pa_nil))) (blkOk_by (own := [("_law_k", 4)]) (N := ["_law_places", "_law_nodes", "_law_many", "_law_table", "_law_k", "_law_name"]) (sc := defScope s__law_made_right) (by decide +kernel)) (fun _ _ _ _ _ => by exact (pg_name (i := 4) nd rfl (.inl rfl))) (fun _ _ _ _ _ => by exact pts_nil) (fun _ _ _ _ _ => by exact (pe_mt1 G_get hr (pv 3) (pa_cons (pv 4) pa_nil)))) (pe_op op_cat (pe_listRg rfl rfl T.b_list (prg_2 rfl T.b_range pe_int (pe_op op_add (pv 0) pe_int))) (pe_lst (pa_cons pe_non pa_nil))) (nomark _))))))))))), ?_⟩
    clear hr nd F
    try simp only [U.nox_K, U.cxOf_K]
    refine U.st0 (σ' := [some _, some _, some _, none, none, none]) rfl ?_
    have tc := T.tab
    walk_at "go"
    refine l_mk3 ?_
    walk_at "go"
    refine l_mkTP p n rfl rfl T.cls.tn (by omega) (by omega) (fun x G w hx sg t9 ow => ?_)
    have y0 : TS C TC NC x H G (mK p) (mV p) 0 p (sz n) := TS.new ⟨w, t9, sg, ow⟩ (by omega) (by omega)
    obtain ⟨t, ⟨w1, ht1, s1, ow1⟩, r1, lp, ln, ge⟩ := id y0
    walk_at "go"
    refine l_room ht1 (fun p3 H3 hn3 s3 hp3 => ?_)
    walk_at "go"
    refine l_pow (by omega) ?_
    walk_at "go"
    rename_i p4 H4 hn4 s4 hp4
    have bo : borderM t = 0 := row_bord (f := .int) (n := 0) r1.ok (by decide) (fun m z => by cases z) (fun m => by have := mK_get r1 ge m; rwa [Nat.zero_min] at this)
    refine l_bord ((r1.ok.at_ ht1).same (s3.trans s4)) (fun H5 s5 => ?_)
    rw [bo]
    walk_at "go"
    · rename_i z
      exact absurd rfl z
    refine l_iRng2 ?_
    walk_at "go"
    refine ⟨_, _, rfl, ⟨by decide, by decide, by omega, by omega⟩, ?_⟩
    refine for_range (lo := 1) (fun i σ H' => (∃ v4 v5, σ = [some (.int p), some (.int n), some (.int m), some (.ref x), v4, v5]) ∧ TS C TC NC x H H' (mK p) (mV p) i p (sz n)) ⟨⟨_, _, rfl⟩, ((y0.same s3).same s4).same s5⟩ ?_ ?_
    · rintro i σ H6 hi ⟨⟨v4, v5, rfl⟩, t, ⟨w1, ht1, s1, ow1⟩, r1, lp, ln, ge⟩
      have hi : i < p := by omega
      have hT1 := r1.ok.at_ ht1
      rw [show (1 : Int) + (i : Int) = ((i + 1 : Nat) : Int) by omega]
      walk_at "go"
      refine l_put (k := .i ((i + 1 : Nat) : Int)) hT1 ⟨rfl, by unfold fitsK; omega⟩ rfl (by rw [r1.len, List.length_map, List.length_range]; omega) (fun H7 to7 => ?_)
      have y := TS.put (P' := p) (N' := sz n) s1 ow1 r1 lp ln ge to7 (mK_lo hi).symm (if_pos hi).symm (by omega) rfl (fun z => by cases z) mK_inj (by rw [mK_lo hi]; exact rm_same (.inl (decide_eq_true (by omega))))
      walk_at "go"
      exact ⟨⟨_, _, rfl⟩, y⟩
    · rintro σ H6 ⟨⟨v4, v5, rfl⟩, y6⟩
      rw [show ((p : Int) + 1 - 1).toNat = p by omega] at y6
      walk_at "go"
      refine l_names (by omega) (fun l H7 hn7 s7 hl => ?_)
      obtain ⟨B, sB, sB1, y7, kl⟩ := y6.rebase s7 hn7
      have hlB := kl _ hl
      walk_at "go"
      refine for_it (walk_list (xs := nameL n)) (fun i σ H' => (∃ v4 v5, σ = [some (.int p), some (.int n), some (.int m), some (.ref x), v4, v5]) ∧ TS C TC NC x B H' (mK p) (mV p) (p + i) p (sz n)) ⟨⟨_, _, rfl⟩, y7⟩ (fun i σ H' _ h => ?_) ?_ ?_
      · obtain ⟨_, t, ⟨w1, h1, s1, o1⟩, _⟩ := h
        exact SqL.of (s1 _ _ hlB)
      · rintro i x9 σ Hc Hd hi ⟨⟨v4, v5, rfl⟩, t, ⟨w1, ht1, s1, ow1⟩, r1, lp, ln, ge⟩ ⟨rfl, hx9⟩
        rw [nameL_len] at hi
        have hx9 := (nameL_get hi).symm.trans hx9
        cases hx9
        have hT1 := r1.ok.at_ ht1
        have hz := sz_ge n
        walk_at "go"
        refine l_put (k := .s (nameS i)) hT1 ⟨rfl, nameS_len (by omega)⟩ rfl (by rw [r1.len, List.length_map, List.length_range]; omega) (fun H7 to7 => ?_)
        have y := TS.put (P' := p) (N' := sz n) s1 ow1 r1 lp ln ge to7 (by rw [mK_hi (by omega)]; congr 2; omega) (if_neg (by omega)).symm (by omega) (by rfl) (fun z => by cases z) mK_inj (by rw [mK_hi (by omega)]; exact rm_same (.inr (by rw [mK_out]; omega)))
        walk_at "go"
        exact ⟨⟨_, _, rfl⟩, y⟩
      · rintro σ H8 ⟨⟨v4, v5, rfl⟩, y8⟩
        rw [nameL_len] at y8
        obtain ⟨t8, ⟨w8, ht8, s8, ow8⟩, r8, lp8, ln8, ge8⟩ := id y8
        have gi := mK_get r8 ge8
        rw [show min (p + n) p = p by omega] at gi
        have bo8 := row_bord (f := .int) r8.ok (by omega) (fun m z => by cases z) gi
        have hT8 := r8.ok.at_ ht8
        have hz := sz_le n
        walk_at "go"
        refine l_room ht8 (fun p9 H9 hn9 s9 hp9 => ?_)
        walk_at "go"
        refine l_pow (by omega) ?_
        walk_at "go"
        rename_i pa Ha hna sa hpa
        refine l_bord ((hT8.same s9).same sa) (fun Hb sb => ?_)
        rw [bo8]
        walk_at "go"
        · rename_i z
          exact absurd rfl z
        obtain ⟨rc, lpc, lnc, gec⟩ := r8.room (p := m) (by omega) (by omega) ln8
        refine l_mkR (((hT8.same s9).same sa).same sb) (by omega) (by omega) (fun Hc toc => ?_)
        obtain ⟨wc, htc, sc, owc⟩ := TN.to (((s8.trans s9).trans sa).trans sb) ow8 toc
        have gic : ∀ m9 : Int, getM (roomM t8 m) (.i m9) = if 1 ≤ m9 ∧ m9 ≤ p then .int m9 else .non := fun m9 => (gec _).trans (gi m9)
        have boc := row_bord (f := .int) rc.ok (by omega) (fun m z => by cases z) gic
        have hTc := rc.ok.at_ htc
        rw [lp8] at lpc
        walk_at "go"
        refine l_room htc (fun p9 Hd hnd sd hpd => ?_)
        walk_at "go"
        refine l_pow (by omega) ?_
        walk_at "go"
        rename_i pe He hne se hpe
        refine l_bord ((hTc.same sd).same se) (fun Hf sf => ?_)
        rw [boc]
        walk_at "go"
        · rename_i z
          exact absurd rfl z
        have hTf := ((hTc.same sd).same se).same sf
        have lz : sizeLine = 16777216 := rfl
        refine l_iRng2 ?_
        walk_at "go"
        refine ⟨_, _, rfl, ⟨by decide, by decide, by omega, by omega⟩, ?_⟩
        refine lc_genG (walk_range) (fun i => some (getM (roomM t8 m) (.i (1 + (i : Int))))) (by omega) (fun _ _ => trivial) ?_ ?_
        · rintro i x Hg Hh R R' hi sg ⟨rfl, rfl⟩ g1 g2
          simp only []
          refine ⟨rfl, ?_⟩
          refine l_yesC ?_
          walk_at "go"
          exact l_get (k := .i (1 + (i : Int))) (hTf.same sg) ⟨rfl, by unfold fitsK; omega⟩ rfl (fun H9 s9 => g1 _ _ s9 rfl)
        · intro pg Hg hpg smg heg
          rw [firsts_some] at heg
          walk_at "go"
          refine ⟨_, _, rfl, rfl, ⟨by decide, by decide, by omega, by omega, by omega⟩, fun q hq => ?_⟩
          have sq := sameUpd (o := HO.lst (rgV 1 ((p : Int) + 1))) hq
          have eq9 : upd Hg q (.lst (rgV 1 ((p : Int) + 1))) q = some (.lst (rgV 1 ((p : Int) + 1))) := upd_same
          generalize upd Hg q (.lst (rgV 1 ((p : Int) + 1))) = Hi at sq eq9 ⊢
          walk_at "go"
          rename_i p7 Hj hnj sj hpj
          refine l_cat (sj _ _ eq9) hpj (by rw [rgV_length, List.length_singleton]; omega) (fun pk Hk hnk sk hpk => ?_)
          have hek : Hk pg = some (.lst (rgV 1 ((p : Int) + 1) ++ [V.non])) := by
            have q9 := sk _ _ (sj _ _ (sq _ _ heg))
            rw [show ((p : Int) + 2 - 1).toNat = p + 1 by omega, List.range_succ, List.map_append, rgL (b := (p : Int) + 1) rfl (fun i hi => by rw [gic, if_pos (by omega)])] at q9
            rw [q9, List.map_cons, List.map_nil, gic, if_neg (by omega)]
          refine l_eqL hek hpk ?_ ?_
          · rw [List.all_append, rgNV]
            rfl
          · exact kQ _ (sB.trans (sc.trans (sd.trans (se.trans (sf.trans (smg.trans (sq.trans (sj.trans sk))))))))
abbrev s__law_gone_right : Stmt := (topS 52)
theorem sc__law_gone_right : FnScope ["_law_many", "_law_name", "_law_table", "_law_k"] ["_law_many", "_law_name"] (defScope s__law_gone_right) := ⟨rfl, rfl, rfl, by decide +kernel, rfl, by decide +kernel, by decide +kernel⟩
theorem ok__law_gone_right {f : Addr} {fd : FuncData} (F : Fun K "_law_gone_right" "_law_gone_right" s__law_gone_right f fd) (T : Txt K mg C TC NC KD NV TH) (G_Table1 : CalD P w K mg base 2 "Table" TC ["self", "number", "array", "nodes", "meta"] (spTabNew C TC NC) [.int 0, .int 0, .non]) (G_put : CalN P w K mg base 9 TC "put" ["self", "key", "value"] (spPut C TC NC)) (G_room : CalN P w K mg base 1 TC "room" ["self"] (spRoom C TC NC)) (G_border : CalN P w K mg base 6 TC "border" ["self"] (spBord C TC NC)) (G_get : CalN P w K mg base 4 TC "get" ["self", "key"] (spGet C TC NC)) (G__law_power : Cal P w K mg base CX0 1 "_law_power" ["_law_many"] (spPow)) : FnOk P w K mg base CX0 10 f fd ["_law_many", "_law_name"] (spGone C TC) := by
  refine F.ok sc__law_gone_right (fun vs H Q E h => ?_) (fun cdv A outer s H vs Q E hr h => ?_)
  · obtain ⟨m, v, k, rfl, h1, h2, hk, hs, hz, kQ⟩ := h
    rfl
  · obtain ⟨m, v, k, rfl, h1, h2, hk, hs, hz, kQ⟩ := h
    have nd := sc__law_gone_right.nd
    refine ⟨_, (pss_cons (ps_set (i := 2) nd rfl (Or.inl rfl) (pe_mkD G_Table1 hr (pa_cons pe_int pa_nil))) (pss_cons (ps_for PassesOwn.never rfl (pi_range2 rfl T.b_range (pa_cons pe_int (pa_cons (pe_op op_add (pe_op op_shl pe_int (pv 0)) pe_int) pa_nil))) (pg_name (i := 3) nd rfl (.inl rfl)) (pss_one (ps_expr (pe_mt1 G_put hr (pv 2) (pa_cons (pv 3) (pa_cons (pv 3) pa_nil)))))) (pss_cons (ps_for PassesOwn.never rfl (pi_range2 rfl T.b_range (pa_cons pe_int (pa_cons (pe_op op_add (pe_op op_shl pe_int (pv 0)) pe_int) pa_nil))) (pg_name (i := 3) nd rfl (.inl rfl)) (pss_one (ps_expr (pe_mt1 G_put hr (pv 2) (pa_cons (pv 3) (pa_cons pe_non pa_nil)))))) (pss_cons (ps_if (PW.pt (pw_or (pt_cmpR (op_neD hr.units) (pe_mt0 G_room hr (pv 2)) (pe_tup (pa_cons (pe_op op_shl pe_int (pv 0)) (pa_cons pe_int pa_nil))) (nomark _)) (pw_or1 (pt_cmpR op_ne (pe_mt0 G_border hr (pv 2)) pe_int (nomark _))))) (pss_one (ps_ret pe_bl)) pss_nil) (pss_cons (ps_expr (pe_mt1 G_put hr (pv 2) (pa_cons (pv 1) (pa_cons pe_int pa_nil)))) (pss_one (ps_ret (pe_and (pe_cmpR (op_eqD hr.units) (pe_mt0 G_room hr (pv 2)) (pe_tup (pa_cons pe_int (pa_cons pe_int pa_nil))) (nomark _)) (pe_and (pe_cmpR op_eq (pe_mt1 G_get hr (pv 2) (pa_cons pe_int pa_nil)) pe_int (nomark _)) (pe_and (pe_cmpR op_eq (pe_mt1 G_get hr (pv 2) (pa_cons (pv 1) pa_nil)) pe_int (nomark _)) (pe_one (pe_cmpR op_eq (pe_mt0 G_border hr (pv 2)) pe_int (nomark _))))))))))))), ?_⟩
    clear hr nd F
    try simp only [U.nox_K, U.cxOf_K]
    refine U.st0 (σ' := [some _, some _, none, none]) rfl ?_
    have tc := T.tab
    walk_at "go"
    refine l_mk1 ?_
    walk_at "go"
    refine l_mkTP 0 0 rfl rfl T.cls.tn (by decide) (by decide) (fun x G w hx sg t9 ow => ?_)
    obtain ⟨M, eM, zM, M2, M32⟩ : ∃ M : Nat, (1 : Int) * 2 ^ (m : Int).toNat = (M : Int) ∧ sz M = M ∧ 2 ≤ M ∧ M ≤ 32 := by
      have h5 : m = 1 ∨ m = 2 ∨ m = 3 ∨ m = 4 ∨ m = 5 := by omega
      rcases h5 with rfl | rfl | rfl | rfl | rfl
      · exact ⟨2, by decide, sz_char (j := 1) (by decide) (.inr (by decide)) (by decide), by decide, by decide⟩
      · exact ⟨4, by decide, sz_char (j := 2) (by decide) (.inr (by decide)) (by decide), by decide, by decide⟩
      · exact ⟨8, by decide, sz_char (j := 3) (by decide) (.inr (by decide)) (by decide), by decide, by decide⟩
      · exact ⟨16, by decide, sz_char (j := 4) (by decide) (.inr (by decide)) (by decide), by decide, by decide⟩
      · exact ⟨32, by decide, sz_char (j := 5) (by decide) (.inr (by decide)) (by decide), by decide, by decide⟩
    walk_at "go"
    refine l_iRng2 ?_
    walk_at "go"
    rw [eM]
    refine ⟨_, _, rfl, ⟨by decide, by decide, by omega, by omega⟩, ?_⟩
    refine for_range (lo := 1) (fun i σ H' => (∃ v3, σ = [some (.int m), some v, some (.ref x), v3]) ∧ TS C TC NC x H H' rK (fun j => .int ((j : Int) + 1)) i (sz i) 0) ⟨⟨_, rfl⟩, TS.new ⟨w, t9, sg, ow⟩ (by decide) (by decide)⟩ ?_ ?_
    · rintro i σ H1 hi ⟨⟨v3, rfl⟩, t, ⟨w1, ht1, s1, ow1⟩, r1, lp, ln, ge⟩
      have hi : i < M := by omega
      have hT1 := r1.ok.at_ ht1
      rw [show (1 : Int) + (i : Int) = ((i + 1 : Nat) : Int) by omega]
      walk_at "go"
      refine l_put (k := rK i) hT1 ⟨rfl, by unfold fitsK; omega⟩ rfl (by rw [r1.len, List.length_map, List.length_range]; omega) (fun H2 to2 => ?_)
      have y := TS.put (P' := sz (i + 1)) (N' := 0) s1 ow1 r1 lp ln ge to2 rfl rfl (by omega) rfl (fun z => by cases z) rK_inj (rm_row (by omega))
      walk_at "go"
      exact ⟨⟨_, rfl⟩, y⟩
    · rintro σ H1 ⟨⟨v3, rfl⟩, y1⟩
      rw [show ((M : Int) + 1 - 1).toNat = M by omega, zM] at y1
      have g1 := GI.start (by omega) (by omega) y1
      walk_at "go"
      refine l_iRng2 ?_
      walk_at "go"
      rw [eM]
      refine ⟨_, _, rfl, ⟨by decide, by decide, by omega, by omega⟩, ?_⟩
      refine for_range (lo := 2) (fun i σ H' => (∃ v3, σ = [some (.int m), some v, some (.ref x), v3]) ∧ GI C TC NC x H H' M i) ⟨⟨_, rfl⟩, g1⟩ ?_ ?_
      · rintro i σ H2 hi ⟨⟨v3, rfl⟩, t, ks, ⟨w1, ht1, s1, ow1⟩, r1, hks, lp, ln, ll, g1⟩
        have hi : i + 2 ≤ M := by omega
        have hT1 := r1.ok.at_ ht1
        rw [show (2 : Int) + (i : Int) = (i : Int) + 2 by omega]
        walk_at "go"
        refine l_put (k := .i ((i : Int) + 2)) hT1 ⟨rfl, by unfold fitsK; omega⟩ rfl (by rw [r1.len]; omega) (fun H3 to3 => ?_)
        have y := GI.put s1 ow1 r1 hks lp ln ll g1 hi to3
        walk_at "go"
        exact ⟨⟨_, rfl⟩, y⟩
      · rintro σ H2 ⟨⟨v3, rfl⟩, g2⟩
        have y2 := GI.done k g2 (by omega)
        obtain ⟨t, ⟨w1, ht1, s1, ow1⟩, r1, lp, ln, ge⟩ := id y2
        have bo := oK_bord r1
        walk_at "go"
        refine l_room ht1 (fun p3 H3 hn3 s3 hp3 => ?_)
        walk_at "go"
        rename_i p4 H4 hn4 s4 hp4
        simp only [eM] at hp4
        refine l_bord ((r1.ok.at_ ht1).same (s3.trans s4)) (fun H5 s5 => ?_)
        rw [bo]
        walk_at "go"
        · rename_i z
          exact absurd rfl z
        have y5 := ((y2.same s3).same s4).same s5
        obtain ⟨t5, ⟨w5, ht5, s5', ow5⟩, r5, lp5, ln5, ge5⟩ := id y5
        refine l_put (k := k) (r5.ok.at_ ht5) (hk _) hs (by rw [r5.len]; simp) (fun H6 to6 => ?_)
        have y6 := TS.put (P' := 1) (N' := 1) (key := oK k) s5' ow5 r5 lp5 ln5 ge5 to6 rfl rfl (by decide) hs (fun z => by cases z) (oK_inj hz) (oK_rm M32 hz)
        obtain ⟨t6, ⟨w6, ht6, s6, ow6⟩, r6, lp6, ln6, ge6⟩ := id y6
        have g0 : getM t6 (.i 1) = .int 1 := ge6 0 (by decide)
        have g5 : getM t6 k = .int 5 := ge6 1 (by decide)
        have bo6 := oK_bord2 hz r6 lp6 g0
        have hT6 := r6.ok.at_ ht6
        walk_at "go"
        refine l_room ht6 (fun p7 H7 hn7 s7 hp7 => ?_)
        walk_at "go"
        rename_i p8 H8 hn8 s8 hp8
        refine l_get (k := .i 1) ((hT6.same s7).same s8) ⟨rfl, by constructor <;> decide⟩ rfl (fun H9 s9 => ?_)
        rw [g0]
        walk_at "go"
        refine l_get (k := k) (((hT6.same s7).same s8).same s9) (hk _) hs (fun Ha sa => ?_)
        rw [g5]
        walk_at "go"
        refine l_bord ((((hT6.same s7).same s8).same s9).same sa) (fun Hb sb => ?_)
        rw [bo6]
        walk_at "go"
        exact kQ _ (s6.trans (s7.trans (s8.trans (s9.trans (sa.trans sb)))))
        · rename_i z
          exact absurd rfl z
        · rename_i z
          exact absurd rfl z
abbrev s__law_right : Stmt := (topS 53)
theorem sc__law_right : FnScope ["_law_well", "_law_many", "_law_some", "_law_table", "_law_k"] ["_law_well"] (defScope s__law_right) := ⟨rfl, rfl, rfl, by decide +kernel, rfl, by decide +kernel, by decide +kernel⟩
theorem ok__law_right {f : Addr} {fd : FuncData} (F : Fun K "_law_right" "_law_right" s__law_right f fd) (T : Txt K mg C TC NC KD NV TH) (G__law_draw : Cal P w K mg base CX0 2 "_law_draw" ["_law_well", "_law_many"] (spDraw)) (G__law_pick : Cal P w K mg base CX0 3 "_law_pick" ["_law_well", "_law_some"] (spOne K)) (G__law_row_right : Cal P w K mg base CX0 10 "_law_row_right" ["_law_many"] (spOkN 1100)) (G__law_strings_right : Cal P w K mg base CX0 10 "_law_strings_right" ["_law_many"] (spOkN 1100)) (G__law_down_right : Cal P w K mg base CX0 10 "_law_down_right" ["_law_many"] (spOkN 40)) (G__law_made_right : Cal P w K mg base CX0 10 "_law_made_right" ["_law_places", "_law_nodes", "_law_many"] (spMade)) (G__law_gone_right : Cal P w K mg base CX0 10 "_law_gone_right" ["_law_many", "_law_name"] (spGone C TC)) (G_Table1 : CalD P w K mg base 2 "Table" TC ["self", "number", "array", "nodes", "meta"] (spTabNew C TC NC) [.int 0, .int 0, .non]) (G_put : CalN P w K mg base 9 TC "put" ["self", "key", "value"] (spPut C TC NC)) (G_room : CalN P w K mg base 1 TC "room" ["self"] (spRoom C TC NC)) (G__law_power : Cal P w K mg base CX0 1 "_law_power" ["_law_many"] (spPow)) : FnOk P w K mg base CX0 11 f fd ["_law_well"] (spGood) := by
  refine F.ok sc__law_right (fun vs H Q E h => ?_) (fun cdv A outer s H vs Q E hr h => ?_)
  · obtain ⟨wl, rfl, hw, kQ⟩ := h
    rfl
  · obtain ⟨wl, rfl, hw, kQ⟩ := h
    have nd := sc__law_right.nd
    refine ⟨_, (pss_cons (ps_par (i := 1) (j := 2) rfl nd rfl rfl (by decide) rfl rfl (pa_cons (pe_op op_add pe_int (pe_c G__law_draw hr (pa_cons (pv 0) (pa_cons (pe_c G__law_pick hr (pa_cons (pv 0) (pa_cons (pe_lst (pa_cons pe_int (pa_cons pe_int (pa_cons pe_int (pa_cons pe_int pa_nil))))) pa_nil))) pa_nil)))) (pa_cons (pe_c G__law_draw hr (pa_cons (pv 0) (pa_cons pe_int pa_nil))) pa_nil)) rfl) (pss_cons (ps_if (PW.pt (pw_or (pt_not (pt_val (pe_c G__law_row_right hr (pa_cons (pv 1) pa_nil)))) (pw_or (pt_not (pt_val (pe_c G__law_strings_right hr (pa_cons (pv 1) pa_nil)))) (pw_or1 (pt_not (pt_val (pe_c G__law_down_right hr (pa_cons (pe_op op_add pe_int (pe_c G__law_draw hr (pa_cons (pv 0) (pa_cons pe_int pa_nil)))) pa_nil)))))))) (pss_one (ps_ret pe_bl)) pss_nil) (pss_cons (ps_if (pt_not (pt_val (pe_c G__law_made_right hr (pa_cons (pe_c G__law_draw hr (pa_cons (pv 0) (pa_cons pe_int pa_nil))) (pa_cons (pe_c G__law_draw hr (pa_cons (pv 0) (pa_cons pe_int pa_nil))) (pa_cons (pe_c G__law_draw hr (pa_cons (pv 0) (pa_cons (pe_c G__law_pick hr (pa_cons (pv 0) (pa_cons (pe_lst (pa_cons pe_int (pa_cons pe_int pa_nil))) pa_nil))) pa_nil))) pa_nil)))))) (pss_one (ps_ret pe_bl)) pss_nil) (pss_cons (ps_set (i := 3) nd rfl (Or.inl rfl) (pe_mkD G_Table1 hr (pa_cons pe_int pa_nil))) (pss_cons (ps_for PassesOwn.never rfl (pi_range1 rfl T.b_range (pa_cons (pv 1) pa_nil)) (pg_name (i := 4) nd rfl (.inl rfl)) (pss_one (ps_expr (pe_mt1 G_put hr (pv 3) (pa_cons (pe_op op_add (pe_op op_mul pe_int (pv 4)) pe_int) (pa_cons pe_str pa_nil)))))) (pss_cons (ps_if (pt_cmpR (op_neD hr.units) (pe_mt0 G_room hr (pv 3)) (pe_tup (pa_cons pe_int (pa_cons (pe_c G__law_power hr (pa_cons (pv 1) pa_nil)) pa_nil))) (nomark _)) (pss_one (ps_ret pe_bl)) pss_nil) (pss_one (ps_ret (pe_c G__law_gone_right hr (pa_cons (pe_op op_add pe_int (pe_c G__law_draw hr (pa_cons (pv 0) (pa_cons pe_int pa_nil)))) (pa_cons (pe_c G__law_pick hr (pa_cons (pv 0) (pa_cons (pe_lst (pa_cons pe_str (pa_cons (pe_op op_add (pe_op op_pow pe_int pe_int) (pv 2)) (pa_cons (pe_op op_sub (pe_un un_neg (pv 2)) pe_int) (pa_cons pe_bl pa_nil))))) pa_nil))) pa_nil))))))))))), ?_⟩
    clear hr nd F
    try simp only [U.nox_K, U.cxOf_K]
    refine U.st0 (σ' := [some _, none, none, none, none]) rfl ?_
    have tc := T.tab
    walk_at "go"
    rename_i p H1 hn1 s1 hp1 hw1 ne1 v H2 hv hx2
    obtain ⟨b, rfl, b0, b1⟩ : ∃ b : Int, v = .int b ∧ 1 ≤ b ∧ b ≤ 1100 := by
      simp only [List.mem_cons, List.not_mem_nil, or_false] at hv
      rcases hv with rfl | rfl | rfl | rfl <;> exact ⟨_, rfl, by decide, by decide⟩
    walk_at "go"
    rename_i d H3 d0 d1 hx3 e H4 e0 e1 hx4
    obtain ⟨n, rfl⟩ := Int.eq_ofNat_of_zero_le d0
    have ex4 : Ex wl H H4 := by walk_at "exw"
    rw [show (1 : Int) + (n : Int) = ((n + 1 : Nat) : Int) by omega]
    refine l_okN (by omega) (by omega) (fun H5 s5 => ?_)
    have ex5 := ex4.andSame s5
    have hw5 := ex5.well
    walk_at "go"
    refine l_okN (by omega) (by omega) (fun H6 s6 => ?_)
    have ex6 := ex5.andSame s6
    have hw6 := ex6.well
    walk_at "go"
    rename_i f H7 f0 f1 hx7
    obtain ⟨n2, rfl⟩ := Int.eq_ofNat_of_zero_le f0
    rw [show (1 : Int) + (n2 : Int) = ((n2 + 1 : Nat) : Int) by omega]
    have ex7 := ex6.trans hx7
    refine l_okN (by omega) (by omega) (fun H8 s8 => ?_)
    have ex8 := ex7.andSame s8
    have hw8 := ex8.well
    walk_at "go"
    rename_i g H9 g0 g1 hx9 h Ha h0 h1 hxa pb Hb hnb sb hpb hwb neb v2 Hc hv2 hxc
    obtain ⟨b2, rfl, b20, b21⟩ : ∃ b : Int, v2 = .int b ∧ 1 ≤ b ∧ b ≤ 300 := by
      simp only [List.mem_cons, List.not_mem_nil, or_false] at hv2
      rcases hv2 with rfl | rfl <;> exact ⟨_, rfl, by decide, by decide⟩
    walk_at "go"
    rename_i m Hd m0 m1 hxd
    have exd := ((((ex8.trans hx9).trans hxa).andSame sb).trans hxc).trans hxd
    have hwd := exd.well
    obtain ⟨g', rfl⟩ := Int.eq_ofNat_of_zero_le g0
    obtain ⟨h', rfl⟩ := Int.eq_ofNat_of_zero_le h0
    obtain ⟨m', rfl⟩ := Int.eq_ofNat_of_zero_le m0
    refine l_made (by omega) (by omega) (by omega) (fun He se => ?_)
    have exe := exd.andSame se
    have hwe := exe.well
    walk_at "go"
    refine l_mk1 ?_
    walk_at "go"
    refine l_mkTP 0 0 rfl rfl T.cls.tn (by decide) (by decide) (fun x G w hx sg t9 ow => ?_)
    have y0 : TS C TC NC x He G tK (fun _ => .str "w") 0 0 (sz 0) := TS.new ⟨w, t9, sg, ow⟩ (by decide) (by decide)
    walk_at "go"
    refine for_range (lo := 0) (fun i σ H' => (∃ v4, σ = [some (.ref wl), some (.int ((n + 1 : Nat) : Int)), some (.int e), some (.ref x), v4]) ∧ TS C TC NC x He H' tK (fun _ => .str "w") i 0 (sz i)) ⟨⟨_, rfl⟩, y0⟩ ?_ ?_
    · rintro i σ H1 hi ⟨⟨v3, rfl⟩, t, ⟨w1, ht1, s1, ow1⟩, r1, lp, ln, ge⟩
      have hi : i < n + 1 := by omega
      have hT1 := r1.ok.at_ ht1
      rw [show (0 : Int) + (i : Int) = (i : Int) by omega]
      walk_at "go"
      refine l_put (k := tK i) hT1 ⟨rfl, by unfold fitsK; omega⟩ rfl (by rw [r1.len, List.length_map, List.length_range]; omega) (fun H2 to2 => ?_)
      have y := TS.put (P' := 0) (N' := sz (i + 1)) s1 ow1 r1 lp ln ge to2 rfl rfl (by omega) rfl (fun z => by cases z) tK_inj (rm_thr i)
      walk_at "go"
      exact ⟨⟨_, rfl⟩, y⟩
    · rintro σ H1 ⟨⟨v3, rfl⟩, t, ⟨w1, ht1, s1, ow1⟩, r1, lp, ln, ge⟩
      simp only [Int.sub_zero, Int.toNat_natCast] at r1 ln ge
      walk_at "go"
      refine l_room ht1 (fun p5 H5 hn5 s5 hp5 => ?_)
      walk_at "go"
      refine l_pow (n := n + 1) (by omega) ?_
      walk_at "go"
      rename_i p6 H6 hn6 s6 hp6 hw6 ne6 q H7 q0 q1 hx7' p8 H8 hn8 s8' hp8 hw8' ne8 v9 H9' hv9 hx9'
      obtain ⟨q', rfl⟩ := Int.eq_ofNat_of_zero_le q0
      obtain ⟨k, hk, hks, hkz⟩ : ∃ k : Ky, (∀ H, U.KV C TC H v9 k) ∧ k.sc = true ∧ ∀ z, k = .i z → z < 1 ∨ 64 < z := by
        simp only [List.mem_cons, List.not_mem_nil, or_false] at hv9
        rcases hv9 with rfl | rfl | rfl | rfl
        · exact ⟨.s _, fun H => ⟨rfl, by decide⟩, rfl, fun z e => by cases e⟩
        · have e10 : (10 : Int) ^ (9 : Int).toNat = 1000000000 := by decide
          refine ⟨.i _, fun H => ⟨rfl, ?_⟩, rfl, fun z e => ?_⟩
          · unfold fitsK; omega
          · injection e with e; omega
        · refine ⟨.i _, fun H => ⟨rfl, ?_⟩, rfl, fun z e => ?_⟩
          · unfold fitsK; omega
          · injection e with e; omega
        · exact ⟨.b _, fun H => rfl, rfl, fun z e => by cases e⟩
      rw [show (1 : Int) + (q' : Int) = ((q' + 1 : Nat) : Int) by omega]
      refine l_gone (by omega) (by omega) hk hks hkz (fun Hz sz9 => ?_)
      walk_at "go"
      have exA := exe.andSame (s1.trans (s5.trans s6))
      exact kQ _ ((((exA.trans hx7').andSame s8').trans hx9').andSame sz9)
abbrev s_law : Stmt := (topS 54)
theorem sc_law : FnScope ["_law_script", "_law_k"] ["_law_script"] (defScope s_law) := ⟨rfl, rfl, rfl, by decide +kernel, rfl, by decide +kernel, by decide +kernel⟩
theorem ok_law {f : Addr} {fd : FuncData} (F : Fun K "law" "law" s_law f fd) (T : Txt K mg C TC NC KD NV TH) (G__law_source : Cal P w K mg base CX0 1 "_law_source" ["_law_script", "_law_k"] (spSrc K)) (G__law_right : Cal P w K mg base CX0 11 "_law_right" ["_law_well"] (spGood)) : FnOk P w K mg base CX0 12 f fd ["_law_script"] (spLaw K) := by
  refine F.ok sc_law (fun vs H Q E h => ?_) (fun cdv A outer s H vs Q E hr h => ?_)
  · obtain ⟨l, ns, rfl, hl, hn, kQ⟩ := h
    rfl
  · obtain ⟨l, ns, rfl, hl, hn, kQ⟩ := h
    have nd := sc_law.nd
    refine ⟨_, (pss_cons (ps_for PassesOwn.never rfl (pi_range1 rfl T.b_range (pa_cons (pe_callB (cMax rfl) rfl T.b_max (by decide +kernel) (pa_cons pe_int (pa_cons (pe_callB (cMin rfl) rfl T.b_min (by decide +kernel) (pa_cons pe_int (pa_cons (pe_callB cLen rfl T.b_len (by decide +kernel) (pa_cons (pv 0) pa_nil)) pa_nil))) pa_nil))) pa_nil)) (pg_name (i := 1) nd rfl (.inl rfl)) (pss_one (ps_if (pt_not (pt_val (pe_c G__law_right hr (pa_cons (pe_c G__law_source hr (pa_cons (pv 0) (pa_cons (pv 1) pa_nil))) pa_nil)))) (pss_one (ps_ret pe_bl)) pss_nil))) (pss_one (ps_ret pe_bl))), ?_⟩
    clear hr nd F
    try simp only [U.nox_K, U.cxOf_K]
    refine U.st0 (σ' := [some _, none]) rfl ?_
    walk_at "go"
    refine for_range (lo := 0) (fun i σ H' => (∃ v1, σ = [some (.ref l), v1]) ∧ Same H H') ⟨⟨_, rfl⟩, Same.refl _⟩ ?_ ?_
    · rintro i σ H1 hi ⟨⟨v1, rfl⟩, s1⟩
      walk_at "go"
      rw [Int.zero_add]
      refine l_src (sameS s1 hl) hn (by omega) (fun wl H2 hn2 s2 hw2 => ?_)
      walk_at "go"
      rename_i H3 hx3
      exact ⟨⟨_, rfl⟩, s1.trans (hx3.fresh hn2 s2)⟩
    · rintro σ H1 ⟨⟨v1, rfl⟩, s1⟩
      walk_at "go"
      exact kQ _
theorem all_mk {P : Program} {w : World} {K : PySem.W.Frag} {h : Heap} {mg : Str → Option Value} {fa C TC NC KD NV TH dT27 dK27 f1 f2 f3 f4 f5 f6 f7 f8 f9 f10 f11 f12 f13 f14 f15 f16 f17 f18 f19 f20 f21 f22 f23 f24 f25 f26 f27 f28 f29 f30 f31 f32 f33 f34 f35 f36 f37 f38 f39 f40 f41 : Addr} (X : K.In h) (G : h.Ns mainGlobals mg) (hfa : mg "law" = some (.ref fa))
    {od1 an1 od2 an2 od3 an3 od4 an4 od5 an5 od6 an6 od7 an7 od8 an8 od9 an9 od10 an10 od11 an11 od12 an12 od13 an13 od14 an14 od15 an15 od16 an16 od17 an17 od18 an18 od19 an19 od20 an20 od21 an21 od22 an22 od23 an23 od24 an24 od25 an25 od26 an26 od27 an27 od28 an28 od29 an29 od30 an30 od31 an31 od32 an32 od33 an33 od34 an34 od35 an35 od36 an36 od37 an37 od38 an38 od39 an39 od40 an40 od41 an41 : Option Addr} {sl1 sl2 sl3 sl4 sl5 sl6 sl7 sl8 sl9 sl10 sl11 sl12 sl13 sl14 sl15 sl16 sl17 sl18 sl19 sl20 sl21 sl22 sl23 sl24 sl25 sl26 sl27 sl28 sl29 sl30 sl31 sl32 sl33 sl34 sl35 sl36 sl37 sl38 sl39 sl40 sl41 : Array (Option Value)} {oc1 kV1 dc1 pm1 cd1 ct1 oc2 kV2 dc2 pm2 cd2 ct2 oc3 kV3 dc3 pm3 cd3 ct3 oc4 kV4 dc4 pm4 cd4 ct4 oc5 kV5 dc5 pm5 cd5 ct5 oc6 kV6 dc6 pm6 cd6 ct6 oc7 kV7 dc7 pm7 cd7 ct7 oc8 kV8 dc8 pm8 cd8 ct8 oc9 kV9 dc9 pm9 cd9 ct9 oc10 kV10 dc10 pm10 cd10 ct10 oc11 kV11 dc11 pm11 cd11 ct11 oc12 kV12 dc12 pm12 cd12 ct12 oc13 kV13 dc13 pm13 cd13 ct13 oc14 kV14 dc14 pm14 cd14 ct14 oc15 kV15 dc15 pm15 cd15 ct15 oc16 kV16 dc16 pm16 cd16 ct16 oc17 kV17 dc17 pm17 cd17 ct17 oc18 kV18 dc18 pm18 cd18 ct18 oc19 kV19 dc19 pm19 cd19 ct19 oc20 kV20 dc20 pm20 cd20 ct20 oc21 kV21 dc21 pm21 cd21 ct21 oc22 kV22 dc22 pm22 cd22 ct22 oc23 kV23 dc23 pm23 cd23 ct23 oc24 kV24 dc24 pm24 cd24 ct24 oc25 kV25 dc25 pm25 cd25 ct25 oc26 kV26 dc26 pm26 cd26 ct26 oc27 dc27 pm27 cd27 ct27 oc28 kV28 dc28 pm28 cd28 ct28 oc29 kV29 dc29 pm29 cd29 ct29 oc30 kV30 dc30 pm30 cd30 ct30 oc31 kV31 dc31 pm31 cd31 ct31 oc32 kV32 dc32 pm32 cd32 ct32 oc33 kV33 dc33 pm33 cd33 ct33 oc34 kV34 dc34 pm34 cd34 ct34 oc35 kV35 dc35 pm35 cd35 ct35 oc36 kV36 dc36 pm36 cd36 ct36 oc37 kV37 dc37 pm37 cd37 ct37 oc38 kV38 dc38 pm38 cd38 ct38 oc39 kV39 dc39 pm39 cd39 ct39 oc40 kV40 dc40 pm40 cd40 ct40 oc41 kV41 dc41 pm41 cd41 ct41 : Value} {t_SHORT_ONES : Tok} {t_MOST_PLACES : Tok} {t_DOUBLINGS : Tok} {oT : Option Addr} {nTT : Nat} {slT : Array (Option Value)} {v1 v2 : Tok}
    (aC : PySem.W.nsIn K mainGlobals "Float" = some (some (.ref C)))
    (pg : PySem.W.plainGet K C Str.empty = true)
    (hd : PySem.W.hasDictIn K C = true)
    (po : PySem.W.plainOver K C = true)
    (sa : PySem.W.findIn K (.ref C) "__setattr__" = some (some (.builtin "object.__setattr__")))
    (ne : PySem.W.findIn K (.ref C) "__ne__" = some (some (.builtin "object.__ne__")))
    (ob : PySem.W.mroIn K C (.type "object") = some true)
    (nS : PySem.W.findIn K (.ref C) "sign" = some none)
    (nT : PySem.W.findIn K (.ref C) "top" = some none)
    (nP : PySem.W.findIn K (.ref C) "power" = some none)
    (ha : PySem.W.findIn K (.ref C) "__class__" = some (some (.builtin "object.__class__")))
    (hn : PySem.W.specialIn K (.builtin "object.__class__") "__get__" = some (some (.builtin "getset_descriptor.__get__")))
    (ht : PySem.W.takesIn K (.builtin "object.__class__") = some true)
    (tyC : PySem.W.typeIn K (.ref C) = some (.type "type"))
    (kI : PySem.W.subIn K (.ref C) (.type "int") = some false)
    (kB : PySem.W.subIn K (.ref C) (.type "bool") = some false)
    (kS : PySem.W.subIn K (.ref C) (.type "str") = some false)
    (jI : PySem.W.subIn K (.type "int") (.ref C) = some false)
    (jB : PySem.W.subIn K (.type "bool") (.ref C) = some false)
    (jS : PySem.W.subIn K (.type "str") (.ref C) = some false)
    (jN : PySem.W.subIn K (.type "NoneType") (.ref C) = some false)
    (jL : PySem.W.subIn K (.type "list") (.ref C) = some false)
    (jT : PySem.W.subIn K (.type "tuple") (.ref C) = some false)
    (jD : PySem.W.subIn K (.type "dict") (.ref C) = some false)
    (fF : PySem.W.notFirst K C (.ref C) = true)
    (fI : PySem.W.notFirst K C (.type "int") = true)
    (fB : PySem.W.notFirst K C (.type "bool") = true)
    (fS : PySem.W.notFirst K C (.type "str") = true)
    (fN : PySem.W.notFirst K C (.type "NoneType") = true)
    (fL : PySem.W.notFirst K C (.type "list") = true)
    (fT : PySem.W.notFirst K C (.type "tuple") = true)
    (mk : PySem.W.makesIn K C = true)
    (kc : PySem.W.keepIn K (.ref C) = true)
    (aTC : PySem.W.nsIn K mainGlobals "Table" = some (some (.ref TC)))
    (aNC : PySem.W.nsIn K mainGlobals "Node" = some (some (.ref NC)))
    (aKD : PySem.W.nsIn K mainGlobals "Kinded" = some (some (.ref KD)))
    (aNV : PySem.W.nsIn K mainGlobals "Native" = some (some (.ref NV)))
    (aTH : PySem.W.nsIn K mainGlobals "Thrown" = some (some (.ref TH)))
    (tpg : PySem.W.plainGet K TC Str.empty = true)
    (thd : PySem.W.hasDictIn K TC = true)
    (tpo : PySem.W.plainOver K TC = true)
    (tsa : PySem.W.findIn K (.ref TC) "__setattr__" = some (some (.builtin "object.__setattr__")))
    (tmk : PySem.W.makesIn K TC = true)
    (tkc : PySem.W.keepIn K (.ref TC) = true)
    (tn1 : PySem.W.findIn K (.ref TC) "number" = some none)
    (tn2 : PySem.W.findIn K (.ref TC) "meta" = some none)
    (tn3 : PySem.W.findIn K (.ref TC) "places" = some none)
    (tn4 : PySem.W.findIn K (.ref TC) "nodes" = some none)
    (tn5 : PySem.W.findIn K (.ref TC) "free" = some none)
    (npg : PySem.W.plainGet K NC Str.empty = true)
    (nhd : PySem.W.hasDictIn K NC = true)
    (npo : PySem.W.plainOver K NC = true)
    (nsa : PySem.W.findIn K (.ref NC) "__setattr__" = some (some (.builtin "object.__setattr__")))
    (nmk : PySem.W.makesIn K NC = true)
    (nkc : PySem.W.keepIn K (.ref NC) = true)
    (nn1 : PySem.W.findIn K (.ref NC) "key" = some none)
    (nn2 : PySem.W.findIn K (.ref NC) "value" = some none)
    (nn3 : PySem.W.findIn K (.ref NC) "link" = some none)
    (nn4 : PySem.W.findIn K (.ref NC) "is_dead" = some none)
    (ne1 : C ≠ TC)
    (ne2 : C ≠ NC)
    (ne3 : TC ≠ NC)
    (cONES : ∃ t, mg "ONES" = some (.int 18446744073709551615 t))
    (cGREATEST : ∃ t, mg "GREATEST" = some (.int 9223372036854775807 t))
    (c_SHORT_ONES : PySem.W.nsIn K mainGlobals "SHORT_ONES" = some (some (.int 4294967295 t_SHORT_ONES)))
    (c_MOST_PLACES : PySem.W.nsIn K mainGlobals "MOST_PLACES" = some (some (.int 2147483648 t_MOST_PLACES)))
    (c_DOUBLINGS : PySem.W.nsIn K mainGlobals "DOUBLINGS" = some (some (.int 31 t_DOUBLINGS)))
    (b_isinstance : PySem.W.nsIn K mainGlobals "isinstance" = some none)
    (b_int : PySem.W.nsIn K mainGlobals "int" = some none)
    (b_bool : PySem.W.nsIn K mainGlobals "bool" = some none)
    (b_str : PySem.W.nsIn K mainGlobals "str" = some none)
    (b_len : PySem.W.nsIn K mainGlobals "len" = some none)
    (b_list : PySem.W.nsIn K mainGlobals "list" = some none)
    (b_min : PySem.W.nsIn K mainGlobals "min" = some none)
    (b_max : PySem.W.nsIn K mainGlobals "max" = some none)
    (b_ord : PySem.W.nsIn K mainGlobals "ord" = some none)
    (b_range : PySem.W.nsIn K mainGlobals "range" = some none)
    (b_enumerate : PySem.W.nsIn K mainGlobals "enumerate" = some none)
    (a1 : PySem.W.nsIn K mainGlobals "is_int" = some (some (.ref f1)))
    (l1 : K.lookup f1 = some ⟨oc1, od1, .func (PySem.W.fnOf "is_int" "is_int" (defArgs s_is_int) (defBody s_is_int) (defScope s_is_int) .none kV1 dc1 pm1 an1 cd1 ct1), sl1⟩)
    (c1 : PySem.W.codeIn K cd1 "is_int" = true)
    (k1 : PySem.W.keepIn K (.ref f1) = true)
    (a2 : PySem.W.nsIn K mainGlobals "is_nan" = some (some (.ref f2)))
    (l2 : K.lookup f2 = some ⟨oc2, od2, .func (PySem.W.fnOf "is_nan" "is_nan" (defArgs s_is_nan) (defBody s_is_nan) (defScope s_is_nan) .none kV2 dc2 pm2 an2 cd2 ct2), sl2⟩)
    (c2 : PySem.W.codeIn K cd2 "is_nan" = true)
    (k2 : PySem.W.keepIn K (.ref f2) = true)
    (a3 : PySem.W.nsIn K mainGlobals "whole_of" = some (some (.ref f3)))
    (l3 : K.lookup f3 = some ⟨oc3, od3, .func (PySem.W.fnOf "whole_of" "whole_of" (defArgs s_whole_of) (defBody s_whole_of) (defScope s_whole_of) .none kV3 dc3 pm3 an3 cd3 ct3), sl3⟩)
    (c3 : PySem.W.codeIn K cd3 "whole_of" = true)
    (k3 : PySem.W.keepIn K (.ref f3) = true)
    (a4 : PySem.W.nsIn K mainGlobals "counted_key" = some (some (.ref f4)))
    (l4 : K.lookup f4 = some ⟨oc4, od4, .func (PySem.W.fnOf "counted_key" "counted_key" (defArgs s_counted_key) (defBody s_counted_key) (defScope s_counted_key) .none kV4 dc4 pm4 an4 cd4 ct4), sl4⟩)
    (c4 : PySem.W.codeIn K cd4 "counted_key" = true)
    (k4 : PySem.W.keepIn K (.ref f4) = true)
    (a5 : PySem.W.nsIn K mainGlobals "are_equal_keys" = some (some (.ref f5)))
    (l5 : K.lookup f5 = some ⟨oc5, od5, .func (PySem.W.fnOf "are_equal_keys" "are_equal_keys" (defArgs s_are_equal_keys) (defBody s_are_equal_keys) (defScope s_are_equal_keys) .none kV5 dc5 pm5 an5 cd5 ct5), sl5⟩)
    (c5 : PySem.W.codeIn K cd5 "are_equal_keys" = true)
    (k5 : PySem.W.keepIn K (.ref f5) = true)
    (a6 : PySem.W.nsIn K mainGlobals "check_key" = some (some (.ref f6)))
    (l6 : K.lookup f6 = some ⟨oc6, od6, .func (PySem.W.fnOf "check_key" "check_key" (defArgs s_check_key) (defBody s_check_key) (defScope s_check_key) .none kV6 dc6 pm6 an6 cd6 ct6), sl6⟩)
    (c6 : PySem.W.codeIn K cd6 "check_key" = true)
    (k6 : PySem.W.keepIn K (.ref f6) = true)
    (a7 : PySem.W.nsIn K mainGlobals "can_be_key" = some (some (.ref f7)))
    (l7 : K.lookup f7 = some ⟨oc7, od7, .func (PySem.W.fnOf "can_be_key" "can_be_key" (defArgs s_can_be_key) (defBody s_can_be_key) (defScope s_can_be_key) .none kV7 dc7 pm7 an7 cd7 ct7), sl7⟩)
    (c7 : PySem.W.codeIn K cd7 "can_be_key" = true)
    (k7 : PySem.W.keepIn K (.ref f7) = true)
    (a8 : PySem.W.nsIn K mainGlobals "sum_of_text" = some (some (.ref f8)))
    (l8 : K.lookup f8 = some ⟨oc8, od8, .func (PySem.W.fnOf "sum_of_text" "sum_of_text" (defArgs s_sum_of_text) (defBody s_sum_of_text) (defScope s_sum_of_text) .none kV8 dc8 pm8 an8 cd8 ct8), sl8⟩)
    (c8 : PySem.W.codeIn K cd8 "sum_of_text" = true)
    (k8 : PySem.W.keepIn K (.ref f8) = true)
    (a9 : PySem.W.nsIn K mainGlobals "sum_of_float" = some (some (.ref f9)))
    (l9 : K.lookup f9 = some ⟨oc9, od9, .func (PySem.W.fnOf "sum_of_float" "sum_of_float" (defArgs s_sum_of_float) (defBody s_sum_of_float) (defScope s_sum_of_float) .none kV9 dc9 pm9 an9 cd9 ct9), sl9⟩)
    (c9 : PySem.W.codeIn K cd9 "sum_of_float" = true)
    (k9 : PySem.W.keepIn K (.ref f9) = true)
    (a10 : PySem.W.nsIn K mainGlobals "main_position" = some (some (.ref f10)))
    (l10 : K.lookup f10 = some ⟨oc10, od10, .func (PySem.W.fnOf "main_position" "main_position" (defArgs s_main_position) (defBody s_main_position) (defScope s_main_position) .none kV10 dc10 pm10 an10 cd10 ct10), sl10⟩)
    (c10 : PySem.W.codeIn K cd10 "main_position" = true)
    (k10 : PySem.W.keepIn K (.ref f10) = true)
    (a11 : PySem.W.findIn K (.ref TC) "has_place" = some (some (.ref f11)))
    (l11 : K.lookup f11 = some ⟨oc11, od11, .func (PySem.W.fnOf "has_place" "Table.has_place" (defArgs s_Table_has_place) (defBody s_Table_has_place) (defScope s_Table_has_place) .none kV11 dc11 pm11 an11 cd11 ct11), sl11⟩)
    (c11 : PySem.W.codeIn K cd11 "Table.has_place" = true)
    (k11 : PySem.W.keepIn K (.ref f11) = true)
    (i11 : PySem.W.isFn K (.ref f11) = true)
    (t11 : PySem.W.typeIn K (.ref f11) = some (.type "function"))
    (a12 : PySem.W.findIn K (.ref TC) "node_of" = some (some (.ref f12)))
    (l12 : K.lookup f12 = some ⟨oc12, od12, .func (PySem.W.fnOf "node_of" "Table.node_of" (defArgs s_Table_node_of) (defBody s_Table_node_of) (defScope s_Table_node_of) .none kV12 dc12 pm12 an12 cd12 ct12), sl12⟩)
    (c12 : PySem.W.codeIn K cd12 "Table.node_of" = true)
    (k12 : PySem.W.keepIn K (.ref f12) = true)
    (i12 : PySem.W.isFn K (.ref f12) = true)
    (t12 : PySem.W.typeIn K (.ref f12) = some (.type "function"))
    (a13 : PySem.W.findIn K (.ref TC) "get" = some (some (.ref f13)))
    (l13 : K.lookup f13 = some ⟨oc13, od13, .func (PySem.W.fnOf "get" "Table.get" (defArgs s_Table_get) (defBody s_Table_get) (defScope s_Table_get) .none kV13 dc13 pm13 an13 cd13 ct13), sl13⟩)
    (c13 : PySem.W.codeIn K cd13 "Table.get" = true)
    (k13 : PySem.W.keepIn K (.ref f13) = true)
    (i13 : PySem.W.isFn K (.ref f13) = true)
    (t13 : PySem.W.typeIn K (.ref f13) = some (.type "function"))
    (a14 : PySem.W.findIn K (.ref NC) "__init__" = some (some (.ref f14)))
    (l14 : K.lookup f14 = some ⟨oc14, od14, .func (PySem.W.fnOf "__init__" "Node.__init__" (defArgs s_Node_init) (defBody s_Node_init) (defScope s_Node_init) .none kV14 dc14 pm14 an14 cd14 ct14), sl14⟩)
    (c14 : PySem.W.codeIn K cd14 "Node.__init__" = true)
    (k14 : PySem.W.keepIn K (.ref f14) = true)
    (i14 : PySem.W.isFn K (.ref f14) = true)
    (t14 : PySem.W.typeIn K (.ref f14) = some (.type "function"))
    (a15 : PySem.W.findIn K (.ref TC) "find_free" = some (some (.ref f15)))
    (l15 : K.lookup f15 = some ⟨oc15, od15, .func (PySem.W.fnOf "find_free" "Table.find_free" (defArgs s_Table_find_free) (defBody s_Table_find_free) (defScope s_Table_find_free) .none kV15 dc15 pm15 an15 cd15 ct15), sl15⟩)
    (c15 : PySem.W.codeIn K cd15 "Table.find_free" = true)
    (k15 : PySem.W.keepIn K (.ref f15) = true)
    (i15 : PySem.W.isFn K (.ref f15) = true)
    (t15 : PySem.W.typeIn K (.ref f15) = some (.type "function"))
    (a16 : PySem.W.findIn K (.ref TC) "put_beside" = some (some (.ref f16)))
    (l16 : K.lookup f16 = some ⟨oc16, od16, .func (PySem.W.fnOf "put_beside" "Table.put_beside" (defArgs s_Table_put_beside) (defBody s_Table_put_beside) (defScope s_Table_put_beside) .none kV16 dc16 pm16 an16 cd16 ct16), sl16⟩)
    (c16 : PySem.W.codeIn K cd16 "Table.put_beside" = true)
    (k16 : PySem.W.keepIn K (.ref f16) = true)
    (i16 : PySem.W.isFn K (.ref f16) = true)
    (t16 : PySem.W.typeIn K (.ref f16) = some (.type "function"))
    (a17 : PySem.W.nsIn K mainGlobals "unused_nodes" = some (some (.ref f17)))
    (l17 : K.lookup f17 = some ⟨oc17, od17, .func (PySem.W.fnOf "unused_nodes" "unused_nodes" (defArgs s_unused_nodes) (defBody s_unused_nodes) (defScope s_unused_nodes) .none kV17 dc17 pm17 an17 cd17 ct17), sl17⟩)
    (c17 : PySem.W.codeIn K cd17 "unused_nodes" = true)
    (k17 : PySem.W.keepIn K (.ref f17) = true)
    (a18 : PySem.W.findIn K (.ref TC) "grow_and_put" = some (some (.ref f18)))
    (l18 : K.lookup f18 = some ⟨oc18, od18, .func (PySem.W.fnOf "grow_and_put" "Table.grow_and_put" (defArgs s_Table_grow_and_put) (defBody s_Table_grow_and_put) (defScope s_Table_grow_and_put) .none kV18 dc18 pm18 an18 cd18 ct18), sl18⟩)
    (c18 : PySem.W.codeIn K cd18 "Table.grow_and_put" = true)
    (k18 : PySem.W.keepIn K (.ref f18) = true)
    (i18 : PySem.W.isFn K (.ref f18) = true)
    (t18 : PySem.W.typeIn K (.ref f18) = some (.type "function"))
    (a19 : PySem.W.findIn K (.ref TC) "put_new" = some (some (.ref f19)))
    (l19 : K.lookup f19 = some ⟨oc19, od19, .func (PySem.W.fnOf "put_new" "Table.put_new" (defArgs s_Table_put_new) (defBody s_Table_put_new) (defScope s_Table_put_new) .none kV19 dc19 pm19 an19 cd19 ct19), sl19⟩)
    (c19 : PySem.W.codeIn K cd19 "Table.put_new" = true)
    (k19 : PySem.W.keepIn K (.ref f19) = true)
    (i19 : PySem.W.isFn K (.ref f19) = true)
    (t19 : PySem.W.typeIn K (.ref f19) = some (.type "function"))
    (a20 : PySem.W.findIn K (.ref TC) "put" = some (some (.ref f20)))
    (l20 : K.lookup f20 = some ⟨oc20, od20, .func (PySem.W.fnOf "put" "Table.put" (defArgs s_Table_put) (defBody s_Table_put) (defScope s_Table_put) .none kV20 dc20 pm20 an20 cd20 ct20), sl20⟩)
    (c20 : PySem.W.codeIn K cd20 "Table.put" = true)
    (k20 : PySem.W.keepIn K (.ref f20) = true)
    (i20 : PySem.W.isFn K (.ref f20) = true)
    (t20 : PySem.W.typeIn K (.ref f20) = some (.type "function"))
    (a21 : PySem.W.findIn K (.ref TC) "rebuild" = some (some (.ref f21)))
    (l21 : K.lookup f21 = some ⟨oc21, od21, .func (PySem.W.fnOf "rebuild" "Table.rebuild" (defArgs s_Table_rebuild) (defBody s_Table_rebuild) (defScope s_Table_rebuild) .none kV21 dc21 pm21 an21 cd21 ct21), sl21⟩)
    (c21 : PySem.W.codeIn K cd21 "Table.rebuild" = true)
    (k21 : PySem.W.keepIn K (.ref f21) = true)
    (i21 : PySem.W.isFn K (.ref f21) = true)
    (t21 : PySem.W.typeIn K (.ref f21) = some (.type "function"))
    (a22 : PySem.W.nsIn K mainGlobals "places_for" = some (some (.ref f22)))
    (l22 : K.lookup f22 = some ⟨oc22, od22, .func (PySem.W.fnOf "places_for" "places_for" (defArgs s_places_for) (defBody s_places_for) (defScope s_places_for) .none kV22 dc22 pm22 an22 cd22 ct22), sl22⟩)
    (c22 : PySem.W.codeIn K cd22 "places_for" = true)
    (k22 : PySem.W.keepIn K (.ref f22) = true)
    (a23 : PySem.W.findIn K (.ref TC) "make_room" = some (some (.ref f23)))
    (l23 : K.lookup f23 = some ⟨oc23, od23, .func (PySem.W.fnOf "make_room" "Table.make_room" (defArgs s_Table_make_room) (defBody s_Table_make_room) (defScope s_Table_make_room) .none kV23 dc23 pm23 an23 cd23 ct23), sl23⟩)
    (c23 : PySem.W.codeIn K cd23 "Table.make_room" = true)
    (k23 : PySem.W.keepIn K (.ref f23) = true)
    (i23 : PySem.W.isFn K (.ref f23) = true)
    (t23 : PySem.W.typeIn K (.ref f23) = some (.type "function"))
    (a24 : PySem.W.findIn K (.ref TC) "border_between" = some (some (.ref f24)))
    (l24 : K.lookup f24 = some ⟨oc24, od24, .func (PySem.W.fnOf "border_between" "Table.border_between" (defArgs s_Table_border_between) (defBody s_Table_border_between) (defScope s_Table_border_between) .none kV24 dc24 pm24 an24 cd24 ct24), sl24⟩)
    (c24 : PySem.W.codeIn K cd24 "Table.border_between" = true)
    (k24 : PySem.W.keepIn K (.ref f24) = true)
    (i24 : PySem.W.isFn K (.ref f24) = true)
    (t24 : PySem.W.typeIn K (.ref f24) = some (.type "function"))
    (a25 : PySem.W.findIn K (.ref TC) "border" = some (some (.ref f25)))
    (l25 : K.lookup f25 = some ⟨oc25, od25, .func (PySem.W.fnOf "border" "Table.border" (defArgs s_Table_border) (defBody s_Table_border) (defScope s_Table_border) .none kV25 dc25 pm25 an25 cd25 ct25), sl25⟩)
    (c25 : PySem.W.codeIn K cd25 "Table.border" = true)
    (k25 : PySem.W.keepIn K (.ref f25) = true)
    (i25 : PySem.W.isFn K (.ref f25) = true)
    (t25 : PySem.W.typeIn K (.ref f25) = some (.type "function"))
    (a26 : PySem.W.findIn K (.ref TC) "room" = some (some (.ref f26)))
    (l26 : K.lookup f26 = some ⟨oc26, od26, .func (PySem.W.fnOf "room" "Table.room" (defArgs s_Table_room) (defBody s_Table_room) (defScope s_Table_room) .none kV26 dc26 pm26 an26 cd26 ct26), sl26⟩)
    (c26 : PySem.W.codeIn K cd26 "Table.room" = true)
    (k26 : PySem.W.keepIn K (.ref f26) = true)
    (i26 : PySem.W.isFn K (.ref f26) = true)
    (t26 : PySem.W.typeIn K (.ref f26) = some (.type "function"))
    (a27 : PySem.W.findIn K (.ref TC) "__init__" = some (some (.ref f27)))
    (l27 : K.lookup f27 = some ⟨oc27, od27, .func (PySem.W.fnOf "__init__" "Table.__init__" (defArgs s_Table_init) (defBody s_Table_init) (defScope s_Table_init) (.ref dT27) (.ref dK27) dc27 pm27 an27 cd27 ct27), sl27⟩)
    (c27 : PySem.W.codeIn K cd27 "Table.__init__" = true)
    (k27 : PySem.W.keepIn K (.ref f27) = true)
    (i27 : PySem.W.isFn K (.ref f27) = true)
    (t27 : PySem.W.typeIn K (.ref f27) = some (.type "function"))
    (a28 : PySem.W.findIn K (.ref TC) "rows" = some (some (.ref f28)))
    (l28 : K.lookup f28 = some ⟨oc28, od28, .func (PySem.W.fnOf "rows" "Table.rows" (defArgs s_Table_rows) (defBody s_Table_rows) (defScope s_Table_rows) .none kV28 dc28 pm28 an28 cd28 ct28), sl28⟩)
    (c28 : PySem.W.codeIn K cd28 "Table.rows" = true)
    (k28 : PySem.W.keepIn K (.ref f28) = true)
    (i28 : PySem.W.isFn K (.ref f28) = true)
    (t28 : PySem.W.typeIn K (.ref f28) = some (.type "function"))
    (a29 : PySem.W.nsIn K mainGlobals "_law_mix" = some (some (.ref f29)))
    (l29 : K.lookup f29 = some ⟨oc29, od29, .func (PySem.W.fnOf "_law_mix" "_law_mix" (defArgs s__law_mix) (defBody s__law_mix) (defScope s__law_mix) .none kV29 dc29 pm29 an29 cd29 ct29), sl29⟩)
    (c29 : PySem.W.codeIn K cd29 "_law_mix" = true)
    (k29 : PySem.W.keepIn K (.ref f29) = true)
    (a30 : PySem.W.nsIn K mainGlobals "_law_source" = some (some (.ref f30)))
    (l30 : K.lookup f30 = some ⟨oc30, od30, .func (PySem.W.fnOf "_law_source" "_law_source" (defArgs s__law_source) (defBody s__law_source) (defScope s__law_source) .none kV30 dc30 pm30 an30 cd30 ct30), sl30⟩)
    (c30 : PySem.W.codeIn K cd30 "_law_source" = true)
    (k30 : PySem.W.keepIn K (.ref f30) = true)
    (a31 : PySem.W.nsIn K mainGlobals "_law_draw" = some (some (.ref f31)))
    (l31 : K.lookup f31 = some ⟨oc31, od31, .func (PySem.W.fnOf "_law_draw" "_law_draw" (defArgs s__law_draw) (defBody s__law_draw) (defScope s__law_draw) .none kV31 dc31 pm31 an31 cd31 ct31), sl31⟩)
    (c31 : PySem.W.codeIn K cd31 "_law_draw" = true)
    (k31 : PySem.W.keepIn K (.ref f31) = true)
    (a32 : PySem.W.nsIn K mainGlobals "_law_pick" = some (some (.ref f32)))
    (l32 : K.lookup f32 = some ⟨oc32, od32, .func (PySem.W.fnOf "_law_pick" "_law_pick" (defArgs s__law_pick) (defBody s__law_pick) (defScope s__law_pick) .none kV32 dc32 pm32 an32 cd32 ct32), sl32⟩)
    (c32 : PySem.W.codeIn K cd32 "_law_pick" = true)
    (k32 : PySem.W.keepIn K (.ref f32) = true)
    (a33 : PySem.W.nsIn K mainGlobals "_law_power" = some (some (.ref f33)))
    (l33 : K.lookup f33 = some ⟨oc33, od33, .func (PySem.W.fnOf "_law_power" "_law_power" (defArgs s__law_power) (defBody s__law_power) (defScope s__law_power) .none kV33 dc33 pm33 an33 cd33 ct33), sl33⟩)
    (c33 : PySem.W.codeIn K cd33 "_law_power" = true)
    (k33 : PySem.W.keepIn K (.ref f33) = true)
    (a34 : PySem.W.nsIn K mainGlobals "_law_names" = some (some (.ref f34)))
    (l34 : K.lookup f34 = some ⟨oc34, od34, .func (PySem.W.fnOf "_law_names" "_law_names" (defArgs s__law_names) (defBody s__law_names) (defScope s__law_names) .none kV34 dc34 pm34 an34 cd34 ct34), sl34⟩)
    (c34 : PySem.W.codeIn K cd34 "_law_names" = true)
    (k34 : PySem.W.keepIn K (.ref f34) = true)
    (a35 : PySem.W.nsIn K mainGlobals "_law_row_right" = some (some (.ref f35)))
    (l35 : K.lookup f35 = some ⟨oc35, od35, .func (PySem.W.fnOf "_law_row_right" "_law_row_right" (defArgs s__law_row_right) (defBody s__law_row_right) (defScope s__law_row_right) .none kV35 dc35 pm35 an35 cd35 ct35), sl35⟩)
    (c35 : PySem.W.codeIn K cd35 "_law_row_right" = true)
    (k35 : PySem.W.keepIn K (.ref f35) = true)
    (a36 : PySem.W.nsIn K mainGlobals "_law_down_right" = some (some (.ref f36)))
    (l36 : K.lookup f36 = some ⟨oc36, od36, .func (PySem.W.fnOf "_law_down_right" "_law_down_right" (defArgs s__law_down_right) (defBody s__law_down_right) (defScope s__law_down_right) .none kV36 dc36 pm36 an36 cd36 ct36), sl36⟩)
    (c36 : PySem.W.codeIn K cd36 "_law_down_right" = true)
    (k36 : PySem.W.keepIn K (.ref f36) = true)
    (a37 : PySem.W.nsIn K mainGlobals "_law_strings_right" = some (some (.ref f37)))
    (l37 : K.lookup f37 = some ⟨oc37, od37, .func (PySem.W.fnOf "_law_strings_right" "_law_strings_right" (defArgs s__law_strings_right) (defBody s__law_strings_right) (defScope s__law_strings_right) .none kV37 dc37 pm37 an37 cd37 ct37), sl37⟩)
    (c37 : PySem.W.codeIn K cd37 "_law_strings_right" = true)
    (k37 : PySem.W.keepIn K (.ref f37) = true)
    (a38 : PySem.W.nsIn K mainGlobals "_law_made_right" = some (some (.ref f38)))
    (l38 : K.lookup f38 = some ⟨oc38, od38, .func (PySem.W.fnOf "_law_made_right" "_law_made_right" (defArgs s__law_made_right) (defBody s__law_made_right) (defScope s__law_made_right) .none kV38 dc38 pm38 an38 cd38 ct38), sl38⟩)
    (c38 : PySem.W.codeIn K cd38 "_law_made_right" = true)
    (k38 : PySem.W.keepIn K (.ref f38) = true)
    (a39 : PySem.W.nsIn K mainGlobals "_law_gone_right" = some (some (.ref f39)))
    (l39 : K.lookup f39 = some ⟨oc39, od39, .func (PySem.W.fnOf "_law_gone_right" "_law_gone_right" (defArgs s__law_gone_right) (defBody s__law_gone_right) (defScope s__law_gone_right) .none kV39 dc39 pm39 an39 cd39 ct39), sl39⟩)
    (c39 : PySem.W.codeIn K cd39 "_law_gone_right" = true)
    (k39 : PySem.W.keepIn K (.ref f39) = true)
    (a40 : PySem.W.nsIn K mainGlobals "_law_right" = some (some (.ref f40)))
    (l40 : K.lookup f40 = some ⟨oc40, od40, .func (PySem.W.fnOf "_law_right" "_law_right" (defArgs s__law_right) (defBody s__law_right) (defScope s__law_right) .none kV40 dc40 pm40 an40 cd40 ct40), sl40⟩)
    (c40 : PySem.W.codeIn K cd40 "_law_right" = true)
    (k40 : PySem.W.keepIn K (.ref f40) = true)
    (a41 : PySem.W.nsIn K mainGlobals "law" = some (some (.ref f41)))
    (l41 : K.lookup f41 = some ⟨oc41, od41, .func (PySem.W.fnOf "law" "law" (defArgs s_law) (defBody s_law) (defScope s_law) .none kV41 dc41 pm41 an41 cd41 ct41), sl41⟩)
    (c41 : PySem.W.codeIn K cd41 "law" = true)
    (k41 : PySem.W.keepIn K (.ref f41) = true)
    (lD : K.lookup dT27 = some ⟨.type "tuple", oT, .seq #[.int 0 v1, .int 0 v2] nTT, slT⟩)
    (aK : PySem.W.nsIn K dK27 "meta" = some (some .none)) :
    ∃ fd : FuncData, (∀ (s : Shared) (v : Value), BindsTo s fd ⟨[v], []⟩ [("_law_script", v)]) ∧ ∀ base : Heap, K.In base → base.Ns mainGlobals mg → FnOk P w K mg base CX0 12 fa fd ["_law_script"] (spLaw K) := by
  have e := hfa.symm.trans (PySem.W.mg_of X G a41)
  cases e
  have fc : FloC K C := ⟨⟨pg, hd, po, sa⟩, ⟨ne, ob⟩, nS, nT, nP, ha, hn, ht, kit_self, kit_oT (by decide +kernel) kI, kit_oT (by decide +kernel) kB, kit_oT (by decide +kernel) kS, kit_tO hd tyC jI, kit_tO hd tyC jB, kit_tO hd tyC jS, kit_tO hd tyC jN, kit_tO hd tyC jL, kit_tO hd tyC jT, kit_tO hd tyC jD, fF, fI, fB, fS, fN, fL, fT⟩
  have tbc : TabC K TC := ⟨⟨tpg, thd, tpo, tsa⟩, tn1, tn2, tn3, tn4, tn5⟩
  have ndc : NodC K NC := ⟨⟨npg, nhd, npo, nsa⟩, nn1, nn2, nn3, nn4⟩
  have T : Txt K mg C TC NC KD NV TH := ⟨fc, tbc, ndc, ⟨ne1, ne2, ne3⟩, PySem.W.mg_of X G aC, PySem.W.mg_of X G aTC, PySem.W.mg_of X G aNC, PySem.W.mg_of X G aKD, PySem.W.mg_of X G aNV, PySem.W.mg_of X G aTH, cONES, ⟨_, PySem.W.mg_of X G c_SHORT_ONES⟩, ⟨_, PySem.W.mg_of X G c_MOST_PLACES⟩, ⟨_, PySem.W.mg_of X G c_DOUBLINGS⟩, cGREATEST, PySem.W.mg_none_of X G b_isinstance, PySem.W.mg_none_of X G b_int, PySem.W.mg_none_of X G b_bool, PySem.W.mg_none_of X G b_str, PySem.W.mg_none_of X G b_len, PySem.W.mg_none_of X G b_list, PySem.W.mg_none_of X G b_min, PySem.W.mg_none_of X G b_max, PySem.W.mg_none_of X G b_ord, PySem.W.mg_none_of X G b_range, PySem.W.mg_none_of X G b_enumerate⟩
  have F1 := fun_mk (st := s_is_int) l1 c1 k1
  have b1 := F1.binds (ps := ["thing"]) fun _ _ _ _ _ _ us hl => match us, hl with | [_], _ => rfl
  have F2 := fun_mk (st := s_is_nan) l2 c2 k2
  have b2 := F2.binds (ps := ["number"]) fun _ _ _ _ _ _ us hl => match us, hl with | [_], _ => rfl
  have F3 := fun_mk (st := s_whole_of) l3 c3 k3
  have b3 := F3.binds (ps := ["number"]) fun _ _ _ _ _ _ us hl => match us, hl with | [_], _ => rfl
  have F4 := fun_mk (st := s_counted_key) l4 c4 k4
  have b4 := F4.binds (ps := ["key"]) fun _ _ _ _ _ _ us hl => match us, hl with | [_], _ => rfl
  have F5 := fun_mk (st := s_are_equal_keys) l5 c5 k5
  have b5 := F5.binds (ps := ["one", "other"]) fun _ _ _ _ _ _ us hl => match us, hl with | [_, _], _ => rfl
  have F6 := fun_mk (st := s_check_key) l6 c6 k6
  have b6 := F6.binds (ps := ["key"]) fun _ _ _ _ _ _ us hl => match us, hl with | [_], _ => rfl
  have F7 := fun_mk (st := s_can_be_key) l7 c7 k7
  have b7 := F7.binds (ps := ["thing"]) fun _ _ _ _ _ _ us hl => match us, hl with | [_], _ => rfl
  have F8 := fun_mk (st := s_sum_of_text) l8 c8 k8
  have b8 := F8.binds (ps := ["text"]) fun _ _ _ _ _ _ us hl => match us, hl with | [_], _ => rfl
  have F9 := fun_mk (st := s_sum_of_float) l9 c9 k9
  have b9 := F9.binds (ps := ["number"]) fun _ _ _ _ _ _ us hl => match us, hl with | [_], _ => rfl
  have F10 := fun_mk (st := s_main_position) l10 c10 k10
  have b10 := F10.binds (ps := ["key", "many"]) fun _ _ _ _ _ _ us hl => match us, hl with | [_, _], _ => rfl
  have F11 := fun_mk (st := s_Table_has_place) l11 c11 k11
  have b11 := F11.binds (ps := ["self", "key"]) fun _ _ _ _ _ _ us hl => match us, hl with | [_, _], _ => rfl
  have F12 := fun_mk (st := s_Table_node_of) l12 c12 k12
  have b12 := F12.binds (ps := ["self", "key", "with_dead"]) fun _ _ _ _ _ _ us hl => match us, hl with | [_, _, _], _ => rfl
  have F13 := fun_mk (st := s_Table_get) l13 c13 k13
  have b13 := F13.binds (ps := ["self", "key"]) fun _ _ _ _ _ _ us hl => match us, hl with | [_, _], _ => rfl
  have F14 := fun_mk (st := s_Node_init) l14 c14 k14
  have b14 := F14.binds (ps := ["self", "key", "value", "link"]) fun _ _ _ _ _ _ us hl => match us, hl with | [_, _, _, _], _ => rfl
  have F15 := fun_mk (st := s_Table_find_free) l15 c15 k15
  have b15 := F15.binds (ps := ["self"]) fun _ _ _ _ _ _ us hl => match us, hl with | [_], _ => rfl
  have F16 := fun_mk (st := s_Table_put_beside) l16 c16 k16
  have b16 := F16.binds (ps := ["self", "at", "key", "value"]) fun _ _ _ _ _ _ us hl => match us, hl with | [_, _, _, _], _ => rfl
  have F17 := fun_mk (st := s_unused_nodes) l17 c17 k17
  have b17 := F17.binds (ps := ["many"]) fun _ _ _ _ _ _ us hl => match us, hl with | [_], _ => rfl
  have F18 := fun_mk (st := s_Table_grow_and_put) l18 c18 k18
  have b18 := F18.binds (ps := ["self", "key", "value"]) fun _ _ _ _ _ _ us hl => match us, hl with | [_, _, _], _ => rfl
  have F19 := fun_mk (st := s_Table_put_new) l19 c19 k19
  have b19 := F19.binds (ps := ["self", "key", "value"]) fun _ _ _ _ _ _ us hl => match us, hl with | [_, _, _], _ => rfl
  have F20 := fun_mk (st := s_Table_put) l20 c20 k20
  have b20 := F20.binds (ps := ["self", "key", "value"]) fun _ _ _ _ _ _ us hl => match us, hl with | [_, _, _], _ => rfl
  have F21 := fun_mk (st := s_Table_rebuild) l21 c21 k21
  have b21 := F21.binds (ps := ["self", "places", "nodes"]) fun _ _ _ _ _ _ us hl => match us, hl with | [_, _, _], _ => rfl
  have F22 := fun_mk (st := s_places_for) l22 c22 k22
  have b22 := F22.binds (ps := ["keys"]) fun _ _ _ _ _ _ us hl => match us, hl with | [_], _ => rfl
  have F23 := fun_mk (st := s_Table_make_room) l23 c23 k23
  have b23 := F23.binds (ps := ["self", "count"]) fun _ _ _ _ _ _ us hl => match us, hl with | [_, _], _ => rfl
  have F24 := fun_mk (st := s_Table_border_between) l24 c24 k24
  have b24 := F24.binds (ps := ["self", "low", "high"]) fun _ _ _ _ _ _ us hl => match us, hl with | [_, _, _], _ => rfl
  have F25 := fun_mk (st := s_Table_border) l25 c25 k25
  have b25 := F25.binds (ps := ["self"]) fun _ _ _ _ _ _ us hl => match us, hl with | [_], _ => rfl
  have F26 := fun_mk (st := s_Table_room) l26 c26 k26
  have b26 := F26.binds (ps := ["self"]) fun _ _ _ _ _ _ us hl => match us, hl with | [_], _ => rfl
  have F27 : FunD K "__init__" "Table.__init__" (defArgs s_Table_init) (defBody s_Table_init) (defScope s_Table_init) [.int 0, .int 0] [("meta", .non)] f27 _ := ⟨⟨oc27, od27, .ref dT27, .ref dK27, dc27, pm27, an27, cd27, ct27, sl27, rfl, l27, c27, .inr ⟨by simp, dT27, _, [.int 0 v1, .int 0 v2], nTT, rfl, lD, rfl, .cons ⟨_, rfl⟩ (.cons ⟨_, rfl⟩ .nil)⟩,
    .inr ⟨dK27, rfl, fun q hq => by cases List.mem_singleton.mp hq; exact ⟨_, aK, rfl⟩⟩⟩, k27⟩
  obtain ⟨dsB, rvB, bB⟩ := F27.binds (ps := ["self", "number", "array", "nodes", "meta"]) 2 0 (by simp) (by rfl) (fun T D doc pm an cdv ct us its ks h1 h2 h3 => match us, its, ks, h1, h2, h3 with
    | [a, b], [c, d], [e], _, _, _ => ⟨_, rfl, ⟨_, _, _, _, _, _, rfl, rfl, rfl⟩⟩) (by simp)
  obtain ⟨dsA, rvA, bA⟩ := F27.binds (ps := ["self", "number", "array", "nodes", "meta"]) 4 2 (by simp) (by rfl) (fun T D doc pm an cdv ct us its ks h1 h2 h3 => match us, its, ks, h1, h2, h3 with
    | [a, b, p, q], [c, d], [e], _, _, _ => ⟨_, rfl, ⟨_, _, _, _, _, _, rfl, rfl, rfl⟩⟩) (by simp)
  have F28 := fun_mk (st := s_Table_rows) l28 c28 k28
  have b28 := F28.binds (ps := ["self"]) fun _ _ _ _ _ _ us hl => match us, hl with | [_], _ => rfl
  have F29 := fun_mk (st := s__law_mix) l29 c29 k29
  have b29 := F29.binds (ps := ["_law_cell", "_law_lap"]) fun _ _ _ _ _ _ us hl => match us, hl with | [_, _], _ => rfl
  have F30 := fun_mk (st := s__law_source) l30 c30 k30
  have b30 := F30.binds (ps := ["_law_script", "_law_k"]) fun _ _ _ _ _ _ us hl => match us, hl with | [_, _], _ => rfl
  have F31 := fun_mk (st := s__law_draw) l31 c31 k31
  have b31 := F31.binds (ps := ["_law_well", "_law_many"]) fun _ _ _ _ _ _ us hl => match us, hl with | [_, _], _ => rfl
  have F32 := fun_mk (st := s__law_pick) l32 c32 k32
  have b32 := F32.binds (ps := ["_law_well", "_law_some"]) fun _ _ _ _ _ _ us hl => match us, hl with | [_, _], _ => rfl
  have F33 := fun_mk (st := s__law_power) l33 c33 k33
  have b33 := F33.binds (ps := ["_law_many"]) fun _ _ _ _ _ _ us hl => match us, hl with | [_], _ => rfl
  have F34 := fun_mk (st := s__law_names) l34 c34 k34
  have b34 := F34.binds (ps := ["_law_many"]) fun _ _ _ _ _ _ us hl => match us, hl with | [_], _ => rfl
  have F35 := fun_mk (st := s__law_row_right) l35 c35 k35
  have b35 := F35.binds (ps := ["_law_many"]) fun _ _ _ _ _ _ us hl => match us, hl with | [_], _ => rfl
  have F36 := fun_mk (st := s__law_down_right) l36 c36 k36
  have b36 := F36.binds (ps := ["_law_many"]) fun _ _ _ _ _ _ us hl => match us, hl with | [_], _ => rfl
  have F37 := fun_mk (st := s__law_strings_right) l37 c37 k37
  have b37 := F37.binds (ps := ["_law_many"]) fun _ _ _ _ _ _ us hl => match us, hl with | [_], _ => rfl
  have F38 := fun_mk (st := s__law_made_right) l38 c38 k38
  have b38 := F38.binds (ps := ["_law_places", "_law_nodes", "_law_many"]) fun _ _ _ _ _ _ us hl => match us, hl with | [_, _, _], _ => rfl
  have F39 := fun_mk (st := s__law_gone_right) l39 c39 k39
  have b39 := F39.binds (ps := ["_law_many", "_law_name"]) fun _ _ _ _ _ _ us hl => match us, hl with | [_, _], _ => rfl
  have F40 := fun_mk (st := s__law_right) l40 c40 k40
  have b40 := F40.binds (ps := ["_law_well"]) fun _ _ _ _ _ _ us hl => match us, hl with | [_], _ => rfl
  have F41 := fun_mk (st := s_law) l41 c41 k41
  have b41 := F41.binds (ps := ["_law_script"]) fun _ _ _ _ _ _ us hl => match us, hl with | [_], _ => rfl
  refine ⟨PySem.W.fnOf "law" "law" (defArgs s_law) (defBody s_law) (defScope s_law) .none kV41 dc41 pm41 an41 cd41 ct41, fun s v => .of_eq rfl, fun base _ _ => ?_⟩
  have G_is_int : Cal P w K mg base CX0 1 "is_int" ["thing"] (spIsInt K) := ⟨_, _, PySem.W.mg_of X G a1, k1, b1, (ok_is_int (P := P) (w := w) (mg := mg) (base := base) F1 T)⟩
  have G_is_nan : Cal P w K mg base CX0 1 "is_nan" ["number"] (spIsNanS C TC) := ⟨_, _, PySem.W.mg_of X G a2, k2, b2, (ok_is_nan (P := P) (w := w) (mg := mg) (base := base) F2 T)⟩
  have G_whole_of : Cal P w K mg base CX0 1 "whole_of" ["number"] (spNo) := ⟨_, _, PySem.W.mg_of X G a3, k3, b3, (ok_whole_of (P := P) (w := w) (mg := mg) (base := base) F3)⟩
  have G_counted_key : Cal P w K mg base CX0 2 "counted_key" ["key"] (spCk C TC) := ⟨_, _, PySem.W.mg_of X G a4, k4, b4, (ok_counted_key (P := P) (w := w) (mg := mg) (base := base) F4 T G_whole_of)⟩
  have G_are_equal_keys : Cal P w K mg base CX0 1 "are_equal_keys" ["one", "other"] (spAeq C TC) := ⟨_, _, PySem.W.mg_of X G a5, k5, b5, (ok_are_equal_keys (P := P) (w := w) (mg := mg) (base := base) F5 T)⟩
  have G_check_key : Cal P w K mg base CX0 2 "check_key" ["key"] (spChkK C TC) := ⟨_, _, PySem.W.mg_of X G a6, k6, b6, (ok_check_key (P := P) (w := w) (mg := mg) (base := base) F6 T G_is_nan)⟩
  have G_can_be_key : Cal P w K mg base CX0 2 "can_be_key" ["thing"] (spCbk C TC) := ⟨_, _, PySem.W.mg_of X G a7, k7, b7, (ok_can_be_key (P := P) (w := w) (mg := mg) (base := base) F7 T G_is_nan)⟩
  have G_sum_of_text : Cal P w K mg base CX0 1 "sum_of_text" ["text"] (spSumT) := ⟨_, _, PySem.W.mg_of X G a8, k8, b8, (ok_sum_of_text (P := P) (w := w) (mg := mg) (base := base) F8 T)⟩
  have G_sum_of_float : Cal P w K mg base CX0 1 "sum_of_float" ["number"] (spNo) := ⟨_, _, PySem.W.mg_of X G a9, k9, b9, (ok_sum_of_float (P := P) (w := w) (mg := mg) (base := base) F9)⟩
  have G_main_position : Cal P w K mg base CX0 2 "main_position" ["key", "many"] (spMp C TC) := ⟨_, _, PySem.W.mg_of X G a10, k10, b10, (ok_main_position (P := P) (w := w) (mg := mg) (base := base) F10 T G_sum_of_text G_sum_of_float)⟩
  have G_has_place : CalN P w K mg base 2 TC "has_place" ["self", "key"] (spHas C TC NC) := ⟨tbc.cl, _, _, ⟨a11, i11, k11⟩, b11, (ok_Table_has_place (P := P) (w := w) (mg := mg) (base := base) F11 T G_is_int)⟩
  have G_node_of : CalN P w K mg base 3 TC "node_of" ["self", "key", "with_dead"] (spNof C TC NC) := ⟨tbc.cl, _, _, ⟨a12, i12, k12⟩, b12, (ok_Table_node_of (P := P) (w := w) (mg := mg) (base := base) F12 T G_can_be_key G_main_position G_are_equal_keys)⟩
  have G_get : CalN P w K mg base 4 TC "get" ["self", "key"] (spGet C TC NC) := ⟨tbc.cl, _, _, ⟨a13, i13, k13⟩, b13, (ok_Table_get (P := P) (w := w) (mg := mg) (base := base) F13 T G_counted_key G_has_place G_node_of)⟩
  have G_Node : CalD P w K mg base 1 "Node" NC ["self", "key", "value", "link"] (spNodI NC) [] := ⟨PySem.W.mg_of X G aNC, _, _, [], ⟨nmk, a14, i14, nkc⟩, b14, .nil, (ok_Node_init (P := P) (w := w) (mg := mg) (base := base) F14 T)⟩
  have G_find_free : CalN P w K mg base 1 TC "find_free" ["self"] (spFree C TC NC) := ⟨tbc.cl, _, _, ⟨a15, i15, k15⟩, b15, (ok_Table_find_free (P := P) (w := w) (mg := mg) (base := base) F15 T)⟩
  have G_put_beside : CalN P w K mg base 3 TC "put_beside" ["self", "at", "key", "value"] (spBeside C TC NC) := ⟨tbc.cl, _, _, ⟨a16, i16, k16⟩, b16, (ok_Table_put_beside (P := P) (w := w) (mg := mg) (base := base) F16 T G_main_position G_Node)⟩
  have G_unused_nodes : Cal P w K mg base CX0 1 "unused_nodes" ["many"] (spUnN) := ⟨_, _, PySem.W.mg_of X G a17, k17, b17, (ok_unused_nodes (P := P) (w := w) (mg := mg) (base := base) F17 T)⟩
  have G_grow_and_put : CalN P w K mg base 1 TC "grow_and_put" ["self", "key", "value"] (spNo) := ⟨tbc.cl, _, _, ⟨a18, i18, k18⟩, b18, F18.ok sc_Table_grow_and_put (fun _ _ _ _ h => (show False from h).elim) (fun _ _ _ _ _ _ _ _ _ h => (show False from h).elim)⟩
  have G_put_new : CalN P w K mg base 4 TC "put_new" ["self", "key", "value"] (spPutN0 C TC NC) := ⟨tbc.cl, _, _, ⟨a19, i19, k19⟩, b19, (ok_Table_put_new_0 (P := P) (w := w) (mg := mg) (base := base) F19 T G_main_position G_Node G_find_free G_put_beside G_grow_and_put)⟩
  have G_put : CalN P w K mg base 5 TC "put" ["self", "key", "value"] (spPut0 C TC NC) := ⟨tbc.cl, _, _, ⟨a20, i20, k20⟩, b20, (ok_Table_put_0 (P := P) (w := w) (mg := mg) (base := base) F20 T G_counted_key G_has_place G_node_of G_check_key G_put_new)⟩
  have G_rebuild : CalN P w K mg base 6 TC "rebuild" ["self", "places", "nodes"] (spReb C TC NC) := ⟨tbc.cl, _, _, ⟨a21, i21, k21⟩, b21, (ok_Table_rebuild (P := P) (w := w) (mg := mg) (base := base) F21 T G_unused_nodes G_put)⟩
  have G_places_for : Cal P w K mg base CX0 2 "places_for" ["keys"] (spPfor C TC) := ⟨_, _, PySem.W.mg_of X G a22, k22, b22, (ok_places_for (P := P) (w := w) (mg := mg) (base := base) F22 T G_is_int)⟩
  have G_grow_and_put : CalN P w K mg base 7 TC "grow_and_put" ["self", "key", "value"] (spGrow C TC NC) := ⟨tbc.cl, _, _, ⟨a18, i18, k18⟩, b18, (ok_Table_grow_and_put (P := P) (w := w) (mg := mg) (base := base) F18 T G_is_int G_places_for G_rebuild G_put)⟩
  have G_put_new : CalN P w K mg base 8 TC "put_new" ["self", "key", "value"] (spPutN C TC NC) := ⟨tbc.cl, _, _, ⟨a19, i19, k19⟩, b19, (ok_Table_put_new (P := P) (w := w) (mg := mg) (base := base) F19 T G_main_position G_Node G_find_free G_put_beside G_grow_and_put)⟩
  have G_put : CalN P w K mg base 9 TC "put" ["self", "key", "value"] (spPut C TC NC) := ⟨tbc.cl, _, _, ⟨a20, i20, k20⟩, b20, (ok_Table_put (P := P) (w := w) (mg := mg) (base := base) F20 T G_counted_key G_has_place G_node_of G_check_key G_put_new)⟩
  have G_make_room : CalN P w K mg base 7 TC "make_room" ["self", "count"] (spMkR C TC NC) := ⟨tbc.cl, _, _, ⟨a23, i23, k23⟩, b23, (ok_Table_make_room (P := P) (w := w) (mg := mg) (base := base) F23 T G_rebuild)⟩
  have G_border_between : CalN P w K mg base 5 TC "border_between" ["self", "low", "high"] (spBbt C TC NC) := ⟨tbc.cl, _, _, ⟨a24, i24, k24⟩, b24, (ok_Table_border_between (P := P) (w := w) (mg := mg) (base := base) F24 T G_get)⟩
  have G_border : CalN P w K mg base 6 TC "border" ["self"] (spBord C TC NC) := ⟨tbc.cl, _, _, ⟨a25, i25, k25⟩, b25, (ok_Table_border (P := P) (w := w) (mg := mg) (base := base) F25 T G_get G_border_between)⟩
  have G_room : CalN P w K mg base 1 TC "room" ["self"] (spRoom C TC NC) := ⟨tbc.cl, _, _, ⟨a26, i26, k26⟩, b26, (ok_Table_room (P := P) (w := w) (mg := mg) (base := base) F26 T)⟩
  have okT := (ok_Table_init (P := P) (w := w) (mg := mg) (base := base) F27 T G_unused_nodes)
  have G_Table : CalD P w K mg base 2 "Table" TC ["self", "number", "array", "nodes", "meta"] (spTabNew C TC NC) [.non] := ⟨PySem.W.mg_of X G aTC, _, _, dsA, ⟨tmk, a27, i27, tkc⟩, bA, rvA, okT⟩
  have G_Table1 : CalD P w K mg base 2 "Table" TC ["self", "number", "array", "nodes", "meta"] (spTabNew C TC NC) [.int 0, .int 0, .non] := ⟨PySem.W.mg_of X G aTC, _, _, dsB, ⟨tmk, a27, i27, tkc⟩, bB, rvB, okT⟩
  have G_rows : CalN P w K mg base 1 TC "rows" ["self"] (spRows C TC NC) := ⟨tbc.cl, _, _, ⟨a28, i28, k28⟩, b28, (ok_Table_rows (P := P) (w := w) (mg := mg) (base := base) F28 T)⟩
  have G__law_mix : Cal P w K mg base CX0 1 "_law_mix" ["_law_cell", "_law_lap"] (spMix) := ⟨_, _, PySem.W.mg_of X G a29, k29, b29, (ok__law_mix (P := P) (w := w) (mg := mg) (base := base) F29 T)⟩
  have G__law_source : Cal P w K mg base CX0 1 "_law_source" ["_law_script", "_law_k"] (spSrc K) := ⟨_, _, PySem.W.mg_of X G a30, k30, b30, (ok__law_source (P := P) (w := w) (mg := mg) (base := base) F30 T)⟩
  have G__law_draw : Cal P w K mg base CX0 2 "_law_draw" ["_law_well", "_law_many"] (spDraw) := ⟨_, _, PySem.W.mg_of X G a31, k31, b31, (ok__law_draw (P := P) (w := w) (mg := mg) (base := base) F31 T G__law_mix)⟩
  have G__law_pick : Cal P w K mg base CX0 3 "_law_pick" ["_law_well", "_law_some"] (spOne K) := ⟨_, _, PySem.W.mg_of X G a32, k32, b32, (ok__law_pick (P := P) (w := w) (mg := mg) (base := base) F32 T G__law_draw)⟩
  have G__law_power : Cal P w K mg base CX0 1 "_law_power" ["_law_many"] (spPow) := ⟨_, _, PySem.W.mg_of X G a33, k33, b33, (ok__law_power (P := P) (w := w) (mg := mg) (base := base) F33 T)⟩
  have G__law_names : Cal P w K mg base CX0 1 "_law_names" ["_law_many"] (spNames) := ⟨_, _, PySem.W.mg_of X G a34, k34, b34, (ok__law_names (P := P) (w := w) (mg := mg) (base := base) F34 T)⟩
  have G__law_row_right : Cal P w K mg base CX0 10 "_law_row_right" ["_law_many"] (spOkN 1100) := ⟨_, _, PySem.W.mg_of X G a35, k35, b35, (ok__law_row_right (P := P) (w := w) (mg := mg) (base := base) F35 T G_Table1 G_put G_room G_border G_get G__law_power)⟩
  have G__law_down_right : Cal P w K mg base CX0 10 "_law_down_right" ["_law_many"] (spOkN 40) := ⟨_, _, PySem.W.mg_of X G a36, k36, b36, (ok__law_down_right (P := P) (w := w) (mg := mg) (base := base) F36 T G_Table1 G_put G_room G_border G_get G__law_power)⟩
  have G__law_strings_right : Cal P w K mg base CX0 10 "_law_strings_right" ["_law_many"] (spOkN 1100) := ⟨_, _, PySem.W.mg_of X G a37, k37, b37, (ok__law_strings_right (P := P) (w := w) (mg := mg) (base := base) F37 T G_Table1 G_put G_room G_border G_get G__law_power G__law_names G_rows)⟩
  have G__law_made_right : Cal P w K mg base CX0 10 "_law_made_right" ["_law_places", "_law_nodes", "_law_many"] (spMade) := ⟨_, _, PySem.W.mg_of X G a38, k38, b38, (ok__law_made_right (P := P) (w := w) (mg := mg) (base := base) F38 T G_Table G_make_room G_put G_room G_border G_get G__law_power G__law_names)⟩
  have G__law_gone_right : Cal P w K mg base CX0 10 "_law_gone_right" ["_law_many", "_law_name"] (spGone C TC) := ⟨_, _, PySem.W.mg_of X G a39, k39, b39, (ok__law_gone_right (P := P) (w := w) (mg := mg) (base := base) F39 T G_Table1 G_put G_room G_border G_get G__law_power)⟩
  have G__law_right : Cal P w K mg base CX0 11 "_law_right" ["_law_well"] (spGood) := ⟨_, _, PySem.W.mg_of X G a40, k40, b40, (ok__law_right (P := P) (w := w) (mg := mg) (base := base) F40 T G__law_draw G__law_pick G__law_row_right G__law_strings_right G__law_down_right G__law_made_right G__law_gone_right G_Table1 G_put G_room G__law_power)⟩
  exact ok_law F41 T G__law_source G__law_right
theorem walk {l : PySem.W.OpenLaw} {q : Program} {loose : List Str} {XP : (Str → Option Value) → Heap → Prop} {YP : World → Heap → Prop} {d : DefRec} {K : Params → PySem.W.Frag} (hn : l.most = some 63) (hdf : d.params.defaults = [])
    (hY : ∀ (w : World) (h : Heap), YP w h → (K w.params).In h)
    (F : ∀ (w : World) (mg : Str → Option Value) (fa : Addr) (h : Heap), (K w.params).In h → XP mg h → h.Ns mainGlobals mg → mg d.name = some (.ref fa) →
      ∃ fd : FuncData, (∀ (s : Shared) (u : Value), BindsTo s fd ⟨[u], []⟩ [("_law_script", u)]) ∧ ∀ base : Heap, (K w.params).In base → base.Ns mainGlobals mg → FnOk l.prog w (K w.params) mg base CX0 12 fa fd ["_law_script"] (spLaw (K w.params))) :
    PySem.W.WalkO q loose XP YP l.row.toRowW d [] (fun f vs => PySem.call f vs) :=
  U.walk_ofX (n := 63) (k := 12) (x := "_law_script") (CX := fun _ => CX0) (sp := fun w => spLaw (K w.params)) hn (by decide) hdf ⟨rfl, by decide, by decide⟩ hY F (fun _ _ a ns hl _ hS => ⟨a, ns, rfl, hS, hl, fun _ => rfl⟩) fun _ _ _ _ _ z => z
end
end Q
open PySem PySem.W PyProof.Rows
set_option maxRecDepth 100000 in
set_option maxHeartbeats 0 in
theorem PySem.Challenge.cw_upvalues_k13_whole_rooms_of_grown_tables_holds : PySem.Challenge.rw_upvalues_k13_whole_rooms_of_grown_tables.Holds := by
  w_on; o_law; k_head; (case hw => w_witness2)
  k_fill
  refine Q.walk (l := PySem.Challenge.rw_upvalues_k13_whole_rooms_of_grown_tables) rfl rfl (fun w h Y => PySem.W.kIn_of Y) ?F
  case F =>
    intro w mg fa h KX XK G hmg
    refine' Q.all_mk KX G hmg ?aC ?pg ?hd ?po ?sa ?ne ?ob ?nS ?nT ?nP ?ha ?hn ?ht ?tyC ?kI ?kB ?kS ?jI ?jB ?jS ?jN ?jL ?jT ?jD ?fF ?fI ?fB ?fS ?fN ?fL ?fT ?mk ?kc ?aTC ?aNC ?aKD ?aNV ?aTH ?tpg ?thd ?tpo ?tsa ?tmk ?tkc ?tn1 ?tn2 ?tn3 ?tn4 ?tn5 ?npg ?nhd ?npo ?nsa ?nmk ?nkc ?nn1 ?nn2 ?nn3 ?nn4 ?ne1 ?ne2 ?ne3 ?cONES ?cGREATEST ?c_SHORT_ONES ?c_MOST_PLACES ?c_DOUBLINGS ?b_isinstance ?b_int ?b_bool ?b_str ?b_len ?b_list ?b_min ?b_max ?b_ord ?b_range ?b_enumerate ?a1 ?l1 ?c1 ?k1 ?a2 ?l2 ?c2 ?k2 ?a3 ?l3 ?c3 ?k3 ?a4 ?l4 ?c4 ?k4 ?a5 ?l5 ?c5 ?k5 ?a6 ?l6 ?c6 ?k6 ?a7 ?l7 ?c7 ?k7 ?a8 ?l8 ?c8 ?k8 ?a9 ?l9 ?c9 ?k9 ?a10 ?l10 ?c10 ?k10 ?a11 ?l11 ?c11 ?k11 ?i11 ?t11 ?a12 ?l12 ?c12 ?k12 ?i12 ?t12 ?a13 ?l13 ?c13 ?k13 ?i13 ?t13 ?a14 ?l14 ?c14 ?k14 ?i14 ?t14 ?a15 ?l15 ?c15 ?k15 ?i15 ?t15 ?a16 ?l16 ?c16 ?k16 ?i16 ?t16 ?a17 ?l17 ?c17 ?k17 ?a18 ?l18 ?c18 ?k18 ?i18 ?t18 ?a19 ?l19 ?c19 ?k19 ?i19 ?t19 ?a20 ?l20 ?c20 ?k20 ?i20 ?t20 ?a21 ?l21 ?c21 ?k21 ?i21 ?t21 ?a22 ?l22 ?c22 ?k22 ?a23 ?l23 ?c23 ?k23 ?i23 ?t23 ?a24 ?l24 ?c24 ?k24 ?i24 ?t24 ?a25 ?l25 ?c25 ?k25 ?i25 ?t25 ?a26 ?l26 ?c26 ?k26 ?i26 ?t26 ?a27 ?l27 ?c27 ?k27 ?i27 ?t27 ?a28 ?l28 ?c28 ?k28 ?i28 ?t28 ?a29 ?l29 ?c29 ?k29 ?a30 ?l30 ?c30 ?k30 ?a31 ?l31 ?c31 ?k31 ?a32 ?l32 ?c32 ?k32 ?a33 ?l33 ?c33 ?k33 ?a34 ?l34 ?c34 ?k34 ?a35 ?l35 ?c35 ?k35 ?a36 ?l36 ?c36 ?k36 ?a37 ?l37 ?c37 ?k37 ?a38 ?l38 ?c38 ?k38 ?a39 ?l39 ?c39 ?k39 ?a40 ?l40 ?c40 ?k40 ?a41 ?l41 ?c41 ?k41 ?lD ?aK
    (case aC => k_is)
    (case pg => k_is)
    (case hd => k_is)
    (case po => k_is)
    (case sa => k_is)
    (case ne => k_is)
    (case ob => k_is)
    (case nS => k_is)
    (case nT => k_is)
    (case nP => k_is)
    (case ha => k_is)
    (case hn => k_is)
    (case ht => k_is)
    (case tyC => k_is)
    (case kI => k_is)
    (case kB => k_is)
    (case kS => k_is)
    (case jI => k_is)
    (case jB => k_is)
    (case jS => k_is)
    (case jN => k_is)
    (case jL => k_is)
    (case jT => k_is)
    (case jD => k_is)
    (case fF => k_is)
    (case fI => k_is)
    (case fB => k_is)
    (case fS => k_is)
    (case fN => k_is)
    (case fL => k_is)
    (case fT => k_is)
    (case mk => k_is)
    (case kc => k_is)
    (case aTC => k_is)
    (case aNC => k_is)
    (case aKD => k_is)
    (case aNV => k_is)
    (case aTH => k_is)
    (case tpg => k_is)
    (case thd => k_is)
    (case tpo => k_is)
    (case tsa => k_is)
    (case tmk => k_is)
    (case tkc => k_is)
    (case tn1 => k_is)
    (case tn2 => k_is)
    (case tn3 => k_is)
    (case tn4 => k_is)
    (case tn5 => k_is)
    (case npg => k_is)
    (case nhd => k_is)
    (case npo => k_is)
    (case nsa => k_is)
    (case nmk => k_is)
    (case nkc => k_is)
    (case nn1 => k_is)
    (case nn2 => k_is)
    (case nn3 => k_is)
    (case nn4 => k_is)
    (case ne1 => decide)
    (case ne2 => decide)
    (case ne3 => decide)
    (case cONES => first | exact U.xl_int XK (.head _) | exact U.xl_int XK (.tail _ (.head _)) | exact U.xl_int XK (.tail _ (.tail _ (.head _))))
    (case cGREATEST => first | exact U.xl_int XK (.head _) | exact U.xl_int XK (.tail _ (.head _)) | exact U.xl_int XK (.tail _ (.tail _ (.head _))))
    (case c_SHORT_ONES => k_is)
    (case c_MOST_PLACES => k_is)
    (case c_DOUBLINGS => k_is)
    (case b_isinstance => k_is)
    (case b_int => k_is)
    (case b_bool => k_is)
    (case b_str => k_is)
    (case b_len => k_is)
    (case b_list => k_is)
    (case b_min => k_is)
    (case b_max => k_is)
    (case b_ord => k_is)
    (case b_range => k_is)
    (case b_enumerate => k_is)
    (case a1 => k_is)
    (case l1 => k_is)
    (case c1 => k_is)
    (case k1 => k_is)
    (case a2 => k_is)
    (case l2 => k_is)
    (case c2 => k_is)
    (case k2 => k_is)
    (case a3 => k_is)
    (case l3 => k_is)
    (case c3 => k_is)
    (case k3 => k_is)
    (case a4 => k_is)
    (case l4 => k_is)
    (case c4 => k_is)
    (case k4 => k_is)
    (case a5 => k_is)
    (case l5 => k_is)
    (case c5 => k_is)
    (case k5 => k_is)
    (case a6 => k_is)
    (case l6 => k_is)
    (case c6 => k_is)
    (case k6 => k_is)
    (case a7 => k_is)
    (case l7 => k_is)
    (case c7 => k_is)
    (case k7 => k_is)
    (case a8 => k_is)
    (case l8 => k_is)
    (case c8 => k_is)
    (case k8 => k_is)
    (case a9 => k_is)
    (case l9 => k_is)
    (case c9 => k_is)
    (case k9 => k_is)
    (case a10 => k_is)
    (case l10 => k_is)
    (case c10 => k_is)
    (case k10 => k_is)
    (case a11 => k_is)
    (case l11 => k_is)
    (case c11 => k_is)
    (case k11 => k_is)
    (case i11 => k_is)
    (case t11 => k_is)
    (case a12 => k_is)
    (case l12 => k_is)
    (case c12 => k_is)
    (case k12 => k_is)
    (case i12 => k_is)
    (case t12 => k_is)
    (case a13 => k_is)
    (case l13 => k_is)
    (case c13 => k_is)
    (case k13 => k_is)
    (case i13 => k_is)
    (case t13 => k_is)
    (case a14 => k_is)
    (case l14 => k_is)
    (case c14 => k_is)
    (case k14 => k_is)
    (case i14 => k_is)
    (case t14 => k_is)
    (case a15 => k_is)
    (case l15 => k_is)
    (case c15 => k_is)
    (case k15 => k_is)
    (case i15 => k_is)
    (case t15 => k_is)
    (case a16 => k_is)
    (case l16 => k_is)
    (case c16 => k_is)
    (case k16 => k_is)
    (case i16 => k_is)
    (case t16 => k_is)
    (case a17 => k_is)
    (case l17 => k_is)
    (case c17 => k_is)
    (case k17 => k_is)
    (case a18 => k_is)
    (case l18 => k_is)
    (case c18 => k_is)
    (case k18 => k_is)
    (case i18 => k_is)
    (case t18 => k_is)
    (case a19 => k_is)
    (case l19 => k_is)
    (case c19 => k_is)
    (case k19 => k_is)
    (case i19 => k_is)
    (case t19 => k_is)
    (case a20 => k_is)
    (case l20 => k_is)
    (case c20 => k_is)
    (case k20 => k_is)
    (case i20 => k_is)
    (case t20 => k_is)
    (case a21 => k_is)
    (case l21 => k_is)
    (case c21 => k_is)
    (case k21 => k_is)
    (case i21 => k_is)
    (case t21 => k_is)
    (case a22 => k_is)
    (case l22 => k_is)
    (case c22 => k_is)
    (case k22 => k_is)
    (case a23 => k_is)
    (case l23 => k_is)
    (case c23 => k_is)
    (case k23 => k_is)
    (case i23 => k_is)
    (case t23 => k_is)
    (case a24 => k_is)
    (case l24 => k_is)
    (case c24 => k_is)
    (case k24 => k_is)
    (case i24 => k_is)
    (case t24 => k_is)
    (case a25 => k_is)
    (case l25 => k_is)
    (case c25 => k_is)
    (case k25 => k_is)
    (case i25 => k_is)
    (case t25 => k_is)
    (case a26 => k_is)
    (case l26 => k_is)
    (case c26 => k_is)
    (case k26 => k_is)
    (case i26 => k_is)
    (case t26 => k_is)
    (case a27 => k_is)
    (case l27 => k_is)
    (case c27 => k_is)
    (case k27 => k_is)
    (case i27 => k_is)
    (case t27 => k_is)
    (case a28 => k_is)
    (case l28 => k_is)
    (case c28 => k_is)
    (case k28 => k_is)
    (case i28 => k_is)
    (case t28 => k_is)
    (case a29 => k_is)
    (case l29 => k_is)
    (case c29 => k_is)
    (case k29 => k_is)
    (case a30 => k_is)
    (case l30 => k_is)
    (case c30 => k_is)
    (case k30 => k_is)
    (case a31 => k_is)
    (case l31 => k_is)
    (case c31 => k_is)
    (case k31 => k_is)
    (case a32 => k_is)
    (case l32 => k_is)
    (case c32 => k_is)
    (case k32 => k_is)
    (case a33 => k_is)
    (case l33 => k_is)
    (case c33 => k_is)
    (case k33 => k_is)
    (case a34 => k_is)
    (case l34 => k_is)
    (case c34 => k_is)
    (case k34 => k_is)
    (case a35 => k_is)
    (case l35 => k_is)
    (case c35 => k_is)
    (case k35 => k_is)
    (case a36 => k_is)
    (case l36 => k_is)
    (case c36 => k_is)
    (case k36 => k_is)
    (case a37 => k_is)
    (case l37 => k_is)
    (case c37 => k_is)
    (case k37 => k_is)
    (case a38 => k_is)
    (case l38 => k_is)
    (case c38 => k_is)
    (case k38 => k_is)
    (case a39 => k_is)
    (case l39 => k_is)
    (case c39 => k_is)
    (case k39 => k_is)
    (case a40 => k_is)
    (case l40 => k_is)
    (case c40 => k_is)
    (case k40 => k_is)
    (case a41 => k_is)
    (case l41 => k_is)
    (case c41 => k_is)
    (case k41 => k_is)
    (case lD => k_is)
    (case aK => k_is)
