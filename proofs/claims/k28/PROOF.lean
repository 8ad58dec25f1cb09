import PyProof.Rows.All
import Wide.All
import OpenK.AllK
import Wide.FinOn
import HandS.ForMost
import HandS.Evl
import HandS.Style
import HandS.Wide
import HandS.IsInst
import HandS.Walk
import HandS.EndBits
import HandS.Conv
import HandS.More
import HandS.Star
import HandS.OwnEq
import HandS.ExcInit
import HandS.ExcField
import HandS.ExcOwn
import HandS.HotCalls
import HandS.WordsExc
import HandS.ClsMeth
import HandS.ExcIs
import KE.KExcIs
import HandS.Set
import HandS.Strs
import HandS.Zip
import KE.GoesMore
import KE.GoesZip
import KE.GoesEnum
import HandS.FStr
import HandS.Text
import KE.KOpsOwn
import KE.KFmtOwn
import KE.KCallOwn
import HandS.Dict
import HandS.SortInts
import KE.KDictSum
import KE.KDictList
import PyProof.Rows.SortShell
import HandS.SetBool
import OpenK.KOps
import OpenK.KMeth
import HandS.NoneIn
import HandS.Property
import HandS.MakeKwOnly
import KE.DataFind
import KE.KParD
import PySem.Challenge.RW_gluedlines_k28_lines_glued_one_by_one
set_option Elab.async false
set_option linter.all false
set_option maxRecDepth 100000
set_option maxHeartbeats 2000000
/-! Fw: what every law's proof here rests on: defs and constants at hand, a pool that draws change, texts walked, lists compared. -/
namespace Kz
open PySem PySem.Spec PyProof.Rows L2 Evl StX

/-! ### constants and defs of the text at hand -/
def Cst (mg : Str → Option Value) (x : Str) (v : V) : Prop := ∃ u, mg x = some u ∧ RelV v u
theorem pe_cst {X : Cx} {x : Str} {v : V} {pos : Pos} (h : Cst X.mg x v) (hg : Gl X x) (hd : (x == ("__debug__" : Str)) = false := by decide) : PE X (.Name x pos) (tC v) := by
  obtain ⟨u, hm, r⟩ := h
  exact pe_glob hg hm r hd
def Df (P : Program) (w : World) (K : PySem.W.Frag) (mg : Str → Option Value) (base : Heap) (x : Str) (ps : List Str) (k : Nat) (sp : Sp) : Prop :=
  ∃ (f : Addr) (fd : FuncData), mg x = some (.ref f) ∧ PySem.W.keepIn K (.ref f) = true ∧ Binds K fd ps [] ∧ FnOk P w K mg base CX0 k f fd ps sp
theorem pe_df {X : Cx} {k : Nat} {ps : List Str} {sp : Sp} {x : Str} {p pos : Pos} {e : Expr} {es : List Expr} {t : TA} (D : Df X.prog X.w X.K X.mg X.base x ps k sp) (hr : Room k X.A) (hg : Gl X x)
    (ha : PA X (e :: es) t) (hdb : (x == ("__debug__" : Str)) = false := by decide) (he : starEach (e :: es) X.env = (false, eval e X.env) :: starEach es X.env := by rfl) (hpl : (backTo pos (starEach es X.env)).any (·.1) = false := by rfl) :
    PE X (.Call (.Name x p) (e :: es) [] pos) (tCall sp [] E0 t) := by
  obtain ⟨f, fd, hm, hk, hb, F⟩ := D
  exact pe_call F hr hg hm hk hb .nil pass0 ha hdb he hpl
theorem pe_df0 {X : Cx} {k : Nat} {ps : List Str} {sp : Sp} {x : Str} {p pos : Pos} (D : Df X.prog X.w X.K X.mg X.base x ps k sp) (hr : Room k X.A) (hg : Gl X x)
    (hdb : (x == ("__debug__" : Str)) = false := by decide) : PE X (.Call (.Name x p) [] [] pos) (tCall sp [] E0 tNil) := by
  obtain ⟨f, fd, hm, hk, hb, F⟩ := D
  exact pe_call0 F hr hg hm hk hb .nil pass0 hdb

/-- a tuple that the text's top made -/
def WT (K : PySem.W.Frag) (a : Addr) (xs : List V) : Prop := ∃ (o : Obj) (its : Array Value) (n : Nat), K.lookup a = some o ∧ o.cls = .type "tuple" ∧ o.data = .seq its n ∧ its.size ≤ sizeLine ∧ Vals xs its.toList
theorem WT.at_ {K : PySem.W.Frag} {a : Addr} {xs : List V} {H : Hp} (h : WT K a xs) : SqT K H a xs := .inr h

/-! ### within a comprehension: the rules at the written part K itself -/
section
variable {X : Cx}
theorem op_in_seqK (K : PySem.W.Frag) (e : X.K = K) : OpR X (compareOp .In) (rIn K false) := e ▸ op_in_seq
theorem op_notIn_seqK (K : PySem.W.Frag) (e : X.K = K) : OpR X (compareOp .NotIn) (rIn K true) := e ▸ op_notIn_seq
theorem op_eqDK (K : PySem.W.Frag) (e : X.K = K) (hu : X.A.units + 64 < cLine) : OpR X (compareOp .Eq) (rEqD K) := e ▸ op_eqD hu
theorem op_neDK (K : PySem.W.Frag) (e : X.K = K) (hu : X.A.units + 64 < cLine) : OpR X (compareOp .NotEq) (rNeD K) := e ▸ op_neD hu
theorem ix_listK (K : PySem.W.Frag) (e : X.K = K) : IxR X (rIxL K) := e ▸ ix_list
theorem ix_tupK (K : PySem.W.Frag) (e : X.K = K) : IxR X (rIxT K) := e ▸ ix_tup
theorem call_len_seqK (K : PySem.W.Frag) (e : X.K = K) : CallR X (.builtin "len") (fun xs H Q => ∃ p ys, xs = [.ref p] ∧ (SqL K H p ys ∨ SqT K H p ys) ∧ Q (.int ys.length) H) := e ▸ call_len_seq
theorem call_isiK' (K : PySem.W.Frag) (e : X.K = K) : CallR X (.builtin "isinstance") (rIsi K) := e ▸ call_isi
theorem pi_listK {tg l : Expr} {tl : TE} (K : PySem.W.Frag) (e : X.K = K) (h : PE X l tl) : PI X tg l (iList K tl) := e ▸ pi_list h
theorem pi_tupK {tg l : Expr} {tl : TE} (K : PySem.W.Frag) (e : X.K = K) (h : PE X l tl) : PI X tg l (iTup K tl) := e ▸ pi_tup h
theorem call_isiTK (K : PySem.W.Frag) (e : X.K = K) : CallR X (.builtin "isinstance") (rIsiT K) := e ▸ call_isiT
end

/-! ### a pool that draws change: all else stays -/
def pl (s : Int × Int) : HO := .lst [.int s.1, .int s.2]
def hide (p : Addr) (H : Hp) : Hp := fun a => if a = p then none else H a
theorem hide_at {p : Addr} {H : Hp} : hide p H p = none := if_pos rfl
theorem hide_ne {p a : Addr} {H : Hp} (h : a ≠ p) : hide p H a = H a := if_neg h
theorem hide_some {p a : Addr} {H : Hp} {o : HO} (h : hide p H a = some o) : a ≠ p ∧ H a = some o := by
  by_cases e : a = p
  · rw [e, hide_at] at h
    cases h
  · rw [hide_ne e] at h
    exact ⟨e, h⟩
theorem hide_le {p : Addr} {H : Hp} : Ex (hide p H) H := fun _ _ h => (hide_some h).2
theorem hx_of {p : Addr} {H H' : Hp} (e : Ex H H') : Ex (hide p H) H' := hide_le.trans e
theorem hx_hide {p : Addr} {H H' : Hp} (e : Ex (hide p H) H') : Ex (hide p H) (hide p H') := fun a o h => by
  rw [hide_ne (hide_some h).1]
  exact e a o h
theorem hx_trans {p : Addr} {H H1 H2 : Hp} (a : Ex (hide p H) H1) (b : Ex (hide p H1) H2) : Ex (hide p H) H2 := (hx_hide a).trans b
theorem hx_upd {p : Addr} {H : Hp} {o : HO} : Ex (hide p H) (upd H p o) := fun a u h => by
  rw [upd_ne (hide_some h).1]
  exact (hide_some h).2

structure Kn (G : Hp) (p : Addr) (s : Int × Int) (H : Hp) : Prop where
  ex : Ex G H
  at_ : H p = some (pl s)
  fr : G p = none
theorem Kn.next {G H H' : Hp} {p : Addr} {s s' : Int × Int} (k : Kn G p s H) (e : Ex (hide p H) H') (h : H' p = some (pl s')) : Kn G p s' H' :=
  ⟨fun a o ha => e a o (by
    have ne : a ≠ p := fun z => by
      rw [z, k.fr] at ha
      cases ha
    rw [hide_ne ne]
    exact k.ex a o ha), h, k.fr⟩
theorem Kn.same {G H H' : Hp} {p : Addr} {s : Int × Int} (k : Kn G p s H) (e : Ex H H') : Kn G p s H' := k.next (hx_of e) (e p _ k.at_)
theorem Kn.here {H : Hp} {p : Addr} {s : Int × Int} (h : H p = some (pl s)) : Kn (hide p H) p s H := ⟨hide_le, h, hide_at⟩
/-- what is known besides -/
theorem Kn.more {G G' H : Hp} {p : Addr} {s : Int × Int} (k : Kn G p s H) (e : Ex G' H) (h : G' p = none) : Kn G' p s H := ⟨e, k.at_, h⟩

def EvP (te : TE) (σ : L2.St) (G : Hp) (p : Addr) (s : Int × Int) (v : V) (s' : Int × Int) : Prop := ∀ H, Kn G p s H → ∀ Q : VK, (∀ H', Ex (hide p H) H' → H' p = some (pl s') → Q v H') → te σ H Q
def EvAP (ta : TA) (σ : L2.St) (G : Hp) (p : Addr) (s : Int × Int) (vs : List V) (s' : Int × Int) : Prop := ∀ H, Kn G p s H → ∀ Q : List V → Hp → Prop, (∀ H', Ex (hide p H) H' → H' p = some (pl s') → Q vs H') → ta σ H Q
def EvTP (t : TT) (σ : L2.St) (G : Hp) (p : Addr) (s : Int × Int) (b : Bool) (s' : Int × Int) : Prop := ∀ H, Kn G p s H → ∀ Q : Bool → Hp → Prop, (∀ H', Ex (hide p H) H' → H' p = some (pl s') → Q b H') → t σ H Q
def SpP (sp : Sp) (vs : List V) (G : Hp) (p : Addr) (s : Int × Int) (v : V) (s' : Int × Int) : Prop := ∀ H, Kn G p s H → ∀ Q : VK, (∀ H', Ex (hide p H) H' → H' p = some (pl s') → Q v H') → ∀ E : XK, sp vs H Q E
section
variable {K : PySem.W.Frag} {σ : L2.St} {G H : Hp} {p : Addr} {s s1 s2 s3 : Int × Int} {ta tb te : TE} {t u : TT} {x y z v : V} {r : R2}
theorem EvP.of (h : Ev te σ G v) : EvP te σ G p s v s := fun H k Q q => h H k.ex Q fun H' e => q H' (hx_of e) (e p _ k.at_)
theorem EvTP.of {b : Bool} (h : EvT t σ G b) : EvTP t σ G p s b s := fun H k Q q => h H k.ex Q fun H' e => q H' (hx_of e) (e p _ k.at_)
theorem EvAP.of {ta : TA} {vs : List V} (h : EvA ta σ G vs) : EvAP ta σ G p s vs s := fun H k Q q => h H k.ex Q fun H' e => q H' (hx_of e) (e p _ k.at_)
theorem evp_op (ha : EvP ta σ G p s x s1) (hb : EvP tb σ G p s1 y s2) (hr : RV r x y G z) : EvP (tOp r ta tb) σ G p s z s2 := fun H k Q q =>
  ha H k _ fun H1 e1 h1 => hb H1 (k.next e1 h1) _ fun H2 e2 h2 => hr H2 ((k.next e1 h1).next e2 h2).ex Q fun H3 e3 => q H3 (hx_trans (hx_trans e1 e2) (hx_of e3)) (e3 p _ h2)
theorem evp_is {w : V} (h : EvP te σ G p s v s1) (e : v = w) : EvP te σ G p s w s1 := e ▸ h
theorem eap_cons {tr : TA} {vs : List V} (h : EvP ta σ G p s x s1) (hr : EvAP tr σ G p s1 vs s2) : EvAP (tCons ta tr) σ G p s (x :: vs) s2 := fun H k Q q =>
  h H k _ fun H1 e1 h1 => hr H1 (k.next e1 h1) _ fun H2 e2 h2 => q H2 (hx_trans e1 e2) h2
theorem eap_nil : EvAP tNil σ G p s [] s := EvAP.of ea_nil
theorem evp_call {sp : Sp} {E : XK} {ta : TA} {vs : List V} (h : EvAP ta σ G p s vs s1) (hs : SpP sp (vs ++ []) G p s1 z s2) : EvP (tCall sp [] E ta) σ G p s z s2 := fun H k Q q =>
  h H k _ fun H1 e1 h1 => hs H1 (k.next e1 h1) Q (fun H2 e2 h2 => q H2 (hx_trans e1 e2) h2) E
theorem evtp_test {b : Bool} (h : EvP te σ G p s (.bl b) s1) : EvTP (tTest te) σ G p s b s1 := fun H k Q q => h H k _ fun H1 e1 h1 => ⟨b, rfl, q H1 e1 h1⟩
theorem evtp_B {b : Bool} (h : EvP te σ G p s (.bl b) s1) : EvTP (tB te) σ G p s b s1 := fun H k Q q => h H k _ fun H1 e1 h1 => ⟨b, rfl, q H1 e1 h1⟩
theorem evtp_is {a b : Bool} (h : EvTP t σ G p s a s1) (e : a = b) : EvTP t σ G p s b s1 := e ▸ h
theorem evtp_or {a b : Bool} (h1 : EvTP t σ G p s a s1) (h2 : a = false → EvTP u σ G p s1 b s2) (h3 : a = true → s2 = s1) : EvTP (tOr t u) σ G p s (a || b) s2 := fun H k Q q => h1 H k _ fun H1 e1 g1 => by
  cases a with
  | true =>
    show Q true H1
    rw [h3 rfl] at q
    exact q H1 e1 g1
  | false =>
    show u σ H1 Q
    exact h2 rfl H1 (k.next e1 g1) Q fun H2 e2 g2 => q H2 (hx_trans e1 e2) g2
theorem evtp_and {a b : Bool} (h1 : EvTP t σ G p s a s1) (h2 : a = true → EvTP u σ G p s1 b s2) (h3 : a = false → s2 = s1) : EvTP (tAnd t u) σ G p s (a && b) s2 := fun H k Q q => h1 H k _ fun H1 e1 g1 => by
  cases a with
  | true =>
    show u σ H1 Q
    exact h2 rfl H1 (k.next e1 g1) Q fun H2 e2 g2 => q H2 (hx_trans e1 e2) g2
  | false =>
    show Q false H1
    rw [h3 rfl] at q
    exact q H1 e1 g1
theorem evtp_orI {a b : Bool} (h1 : EvTP t σ G p s a s1) (h2 : a = false → EvTP u σ G p s1 b s2) : EvTP (tOr t u) σ G p s (a || b) (if a = true then s1 else s2) := by
  cases a with
  | true => exact evtp_or h1 (fun z => by cases z) (fun _ => rfl)
  | false => exact evtp_or h1 (fun z => h2 z) (fun z => by cases z)
theorem evtp_andI {a b : Bool} (h1 : EvTP t σ G p s a s1) (h2 : a = true → EvTP u σ G p s1 b s2) : EvTP (tAnd t u) σ G p s (a && b) (if a = true then s2 else s1) := by
  cases a with
  | true => exact evtp_and h1 (fun z => h2 z) (fun z => by cases z)
  | false => exact evtp_and h1 (fun z => by cases z) (fun _ => rfl)
theorem evtp_not {a : Bool} (h1 : EvTP t σ G p s a s1) : EvTP (tNot t) σ G p s (!a) s1 := fun H k Q q => h1 H k _ fun H1 e1 g1 => q H1 e1 g1

/-! statements -/
variable {D : Ends} {tu tw tz : TS} {g : TG}
theorem sp_asg {i : Nat} (k : Kn G p s H) (h : EvP te σ G p s v s1) (nx : ∀ H', Kn G p s1 H' → Ex (hide p H) H' → D.nx (σ.set i (some v)) H') : tAsg te (gName i) D σ H := h H k _ fun H' e g => nx H' (k.next e g) e
theorem qp_asg {i : Nat} (k : Kn G p s H) (h : EvP te σ G p s v s1) (nx : ∀ H', Kn G p s1 H' → Ex (hide p H) H' → tz D (σ.set i (some v)) H') : tSeq (tAsg te (gName i)) tz D σ H := sp_asg (D := { D with nx := tz D }) k h nx
theorem sp_ret (k : Kn G p s H) (h : EvP te σ G p s v s1) (nx : ∀ H', Kn G p s1 H' → Ex (hide p H) H' → D.rt v H') : tRet te D σ H := h H k _ fun H' e g => nx H' (k.next e g) e
theorem sp_if {b : Bool} (k : Kn G p s H) (h : EvTP t σ G p s b s1) (h1 : b = true → ∀ H', Kn G p s1 H' → Ex (hide p H) H' → tu D σ H') (h2 : b = false → ∀ H', Kn G p s1 H' → Ex (hide p H) H' → tw D σ H') : tIfS t tu tw D σ H := h H k _ fun H' e g => by
  cases b with
  | true =>
    show tu D σ H'
    exact h1 rfl H' (k.next e g) e
  | false =>
    show tw D σ H'
    exact h2 rfl H' (k.next e g) e
theorem qp_if {b : Bool} (k : Kn G p s H) (h : EvTP t σ G p s b s1) (h1 : b = true → ∀ H', Kn G p s1 H' → Ex (hide p H) H' → tu { D with nx := tz D } σ H') (h2 : b = false → ∀ H', Kn G p s1 H' → Ex (hide p H) H' → tw { D with nx := tz D } σ H') : tSeq (tIfS t tu tw) tz D σ H :=
  sp_if (D := { D with nx := tz D }) k h h1 h2
theorem qp_when {b : Bool} (k : Kn G p s H) (h : EvTP t σ G p s b s1) (h1 : b = true → ∀ H', Kn G p s1 H' → Ex (hide p H) H' → tu { D with nx := tz D } σ H') (h2 : b = false → ∀ H', Kn G p s1 H' → Ex (hide p H) H' → tz D σ H') : tSeq (tIfS t tu tNext) tz D σ H :=
  sp_if (D := { D with nx := tz D }) k h h1 h2
theorem Kn.mut {l : Addr} {o : HO} (k : Kn G p s H) (h : G l = none) (ne : p ≠ l) : Kn G p s (upd H l o) := ⟨Ex.mut k.ex h, by rw [upd_ne ne]; exact k.at_, k.fr⟩
/-- xs.append(a draw) -/
theorem sp_app {K : PySem.W.Frag} {l : Addr} {i : Nat} {xs : List V} (k : Kn G p s H) (hl : H l = some (.lst xs)) (ne : l ≠ p) (hi : σ[i]? = some (some (.ref l))) (h : EvP te σ G p s v s1) (hz : xs.length < 100000) (nx : ∀ H', Kn G p s1 H' → Ex (hide p H) H' → D.nx σ (upd H' l (.lst (xs ++ [v])))) :
    tDrop (tBM K "list" rAppend (tVar i) (tCons te tNil)) D σ H := ⟨_, hi, Or.inl ⟨rfl, xs, sq_of hl⟩, h H k _ fun H' e g => ⟨l, xs, v, rfl, rfl, e l _ (by rw [hide_ne ne]; exact hl), sz_lt hz, nx H' (k.next e g) e⟩⟩
/-- a new list of draws -/
theorem qp_asgLst {ta : TA} {i : Nat} {vs : List V} (k : Kn G p s H) (h : EvAP ta σ G p s vs s1) (hl : vs.length ≤ 100000) (nx : ∀ l H', Kn G p s1 H' → Ex (hide p H) H' → H' l = some (.lst vs) → tz D (σ.set i (some (.ref l))) H') : tSeq (tAsg (tLst ta) (gName i)) tz D σ H :=
  h H k _ fun H' e g => ⟨sz_of hl, fun l nl => nx l _ ((k.next e g).same (Ex.new nl)) (e.trans (Ex.new nl)) upd_same⟩
theorem sp_forR1 {ta : TA} {j : Nat} {n : Int} (k : Kn G p s H) (h : EvAP ta σ G p s [.int n] s1) (hn : 0 ≤ n ∧ n ≤ 100000) (Pv : Nat → L2.St → Hp → Prop) (h0 : ∀ H1, Kn G p s1 H1 → Ex (hide p H) H1 → Pv 0 σ H1)
    (hs : ∀ (i : Nat) σ' H', (i : Int) < n → Pv i σ' H' → tu { D with nx := Pv (i + 1), ct := Pv (i + 1), bk := D.nx } (σ'.set j (some (.int (i : Int)))) H') (hd : ∀ σ' H', Pv n.toNat σ' H' → D.nx σ' H') : tFor (iRng1 ta) (gName j) tu D σ H :=
  h H k _ fun H1 e g1 => ⟨n, rfl, by omega, by omega, for_range (lo := 0) (n := n.toNat) Pv (h0 H1 (k.next e g1) e) (fun i σ' H' hi q => by
    have e0 : (0 : Int) + (i : Int) = (i : Int) := Int.zero_add _
    show tu { D with nx := Pv (i + 1), ct := Pv (i + 1), bk := D.nx } (σ'.set j (some (.int ((0 : Int) + (i : Int))))) H'
    rw [e0]
    exact hs i σ' H' (by omega) q) hd⟩
theorem qp_forR1 {ta : TA} {j : Nat} {n : Int} (k : Kn G p s H) (h : EvAP ta σ G p s [.int n] s1) (hn : 0 ≤ n ∧ n ≤ 100000) (Pv : Nat → L2.St → Hp → Prop) (h0 : ∀ H1, Kn G p s1 H1 → Ex (hide p H) H1 → Pv 0 σ H1)
    (hs : ∀ (i : Nat) σ' H', (i : Int) < n → Pv i σ' H' → tu { D with nx := Pv (i + 1), ct := Pv (i + 1), bk := tz D } (σ'.set j (some (.int (i : Int)))) H') (hd : ∀ σ' H', Pv n.toNat σ' H' → tz D σ' H') : tSeq (tFor (iRng1 ta) (gName j) tu) tz D σ H :=
  sp_forR1 (D := { D with nx := tz D }) k h hn Pv h0 hs hd
end

/-! ### values by operators -/
section
variable {K : PySem.W.Frag} {σ : L2.St} {G H : Hp} {ta tb te : TE} {t : TT} {x y z v : V} {r : R2}
theorem rv_add {i j : Int} : RV (rI0 fun i j => .int (i + j)) (.int i) (.int j) H (.int (i + j)) := rv_I0
theorem rv_mul {i j : Int} (h : (-(2 ^ 64) < i ∧ i < 2 ^ 64) ∨ (-(2 ^ 64) < j ∧ j < 2 ^ 64)) : RV (rI CMul fun i j => .int (i * j)) (.int i) (.int j) H (.int (i * j)) := rv_I h
theorem ev_neg {i : Int} (h : Ev te σ H (.int i)) : Ev (tUn (rU fun i => .int (-i)) te) σ H (.int (-i)) := ev_un h ru_neg
theorem at_last {xs : List V} (h : xs ≠ []) : atI xs (-1) = xs.getLast? := by
  have hl := List.length_pos_iff.mpr h
  unfold atI ixN
  rw [if_neg (by omega), if_pos (by omega), List.getLast?_eq_getElem?]
  show xs[((-1 : Int) + (xs.length : Int)).toNat]? = _
  congr 1
  omega
theorem rv_mod {i j : Int} (h : 0 < j) : RV (rI (fun _ j => 0 < j) fun i j => .int (i % j)) (.int i) (.int j) H (.int (i % j)) := rv_I h
theorem rv_div {i j : Int} (h : 0 < j) (h2 : j < 2 ^ 64) : RV (rI CDivW fun i j => .int (i / j)) (.int i) (.int j) H (.int (i / j)) := rv_I (wide_div (b := 64) h (by omega) (by decide) (by decide))
theorem rv_cat {a b : Str} (h : a.length + b.length ≤ 100000) : RV (fun x y H Q => ∃ i j, x = .str i ∧ y = .str j ∧ i.length + j.length ≤ sizeLine ∧ Q (.str (i ++ j)) H) (.str a) (.str b) H (.str (a ++ b)) :=
  fun H1 _ _ q => ⟨a, b, rfl, rfl, sz_of h, q H1 (Ex.refl H1)⟩
theorem rv_sgn {c : Nat} {z : Str} : RV (fun x y H Q => ∃ (c : Nat) (z : Str), x = .str ⟨#[c]⟩ ∧ y = .str z ∧ Q (.bl (decide (c ∈ z.cps.toList))) H) (.str ⟨#[c]⟩) (.str z) H (.bl (decide (c ∈ z.cps.toList))) :=
  fun H1 _ _ q => ⟨c, z, rfl, rfl, q H1 (Ex.refl H1)⟩
theorem rv_nsgn {c : Nat} {z : Str} : RV (fun x y H Q => ∃ (c : Nat) (z : Str), x = .str ⟨#[c]⟩ ∧ y = .str z ∧ Q (.bl (!decide (c ∈ z.cps.toList))) H) (.str ⟨#[c]⟩) (.str z) H (.bl (!decide (c ∈ z.cps.toList))) :=
  fun H1 _ _ q => ⟨c, z, rfl, rfl, q H1 (Ex.refl H1)⟩
theorem rv_notB {a b : Bool} : RV rNotB (.bl a) (.bl b) H (.bl (!decide (a = b))) := fun H1 _ _ q => ⟨a, b, rfl, rfl, q H1 (Ex.refl H1)⟩
theorem rv_isB {a b : Bool} : RV rIsB (.bl a) (.bl b) H (.bl (decide (a = b))) := fun H1 _ _ q => ⟨a, b, rfl, rfl, q H1 (Ex.refl H1)⟩
/-- int(n), int(truth) -/
theorem ev_int {i : Int} (h : Ev te σ H (.int i)) : Ev (tCB (fun xs H Q => (∃ i, xs = [.int i] ∧ Q (.int i) H) ∨ ∃ k, xs = [.bl k] ∧ Q (.int (if k then 1 else 0)) H) (tCons te tNil)) σ H (.int i) := fun H1 e Q q =>
  h H1 e _ fun H2 e2 => .inl ⟨i, rfl, q H2 e2⟩
theorem ev_intB {b : Bool} (h : Ev te σ H (.bl b)) : Ev (tCB (fun xs H Q => (∃ i, xs = [.int i] ∧ Q (.int i) H) ∨ ∃ k, xs = [.bl k] ∧ Q (.int (if k then 1 else 0)) H) (tCons te tNil)) σ H (.int (if b then 1 else 0)) := fun H1 e Q q =>
  h H1 e _ fun H2 e2 => .inr ⟨b, rfl, q H2 e2⟩
theorem ev_lenS {z : Str} (h : Ev te σ H (.str z)) (hz : z.length ≤ 100000) : Ev (tCB (fun xs H Q => ∃ z, xs = [.str z] ∧ z.length ≤ sizeLine ∧ Q (.int z.length) H) (tCons te tNil)) σ H (.int z.length) := fun H1 e Q q =>
  h H1 e _ fun H2 e2 => ⟨z, rfl, sz_of hz, q H2 e2⟩
theorem ev_lenL {p : Addr} {xs : List V} (h : Ev te σ H (.ref p)) (hx : SqL K H p xs) : Ev (tCB (fun xs H Q => ∃ p ys, xs = [.ref p] ∧ (SqL K H p ys ∨ SqT K H p ys) ∧ Q (.int ys.length) H) (tCons te tNil)) σ H (.int xs.length) := fun H1 e Q q =>
  h H1 e _ fun H2 e2 => ⟨p, xs, rfl, .inl (ex_l (e.trans e2) hx), q H2 e2⟩
theorem ev_min2 {i j : Int} (ha : Ev ta σ H (.int i)) (hb : Ev tb σ H (.int j)) : Ev (tCB (fun xs H Q => ∃ i j, xs = [.int i, .int j] ∧ Q (.int (if j < i then j else i)) H) (tCons ta (tCons tb tNil))) σ H (.int (if j < i then j else i)) := fun H1 e Q q =>
  ha H1 e _ fun H2 e2 => hb H2 (e.trans e2) _ fun H3 e3 => ⟨i, j, rfl, q H3 (e2.trans e3)⟩
theorem ev_max {i j : Int} (ha : Ev ta σ H (.int i)) (hb : Ev tb σ H (.int j)) : Ev (tCB (fun xs H Q => ∃ i j, xs = [.int i, .int j] ∧ Q (.int (if j > i then j else i)) H) (tCons ta (tCons tb tNil))) σ H (.int (if j > i then j else i)) := fun H1 e Q q =>
  ha H1 e _ fun H2 e2 => hb H2 (e.trans e2) _ fun H3 e3 => ⟨i, j, rfl, q H3 (e2.trans e3)⟩
theorem tyx_mono {H H' : Hp} {x : V} {t : Value} (e : Ex H H') (h : TyX K H x t) : TyX K H' x t := by
  cases h with
  | base b =>
    cases b with
    | non => exact .base .non
    | bl x => exact .base (.bl x)
    | int x => exact .base (.int x)
    | str x => exact .base (.str x)
    | flt x => exact .base (.flt x)
    | lst q => exact .base (.lst (e _ _ q))
    | frz q => exact .base (.frz (e _ _ q))
    | tup q => exact .base (.tup (e _ _ q))
    | dK q => exact .base (.dK (e _ _ q))
    | dT q => exact .base (.dT (e _ _ q))
    | ins q cl ha hn htk hm => exact .base (.ins (e _ _ q) cl ha hn htk hm)
  | byt b => exact .byt b
  | set q => exact .set (e _ _ q)
  | kList q c => exact .kList q c
  | kTuple q c => exact .kTuple q c
  | kDict q c => exact .kDict q c
  | fTuple q => exact .fTuple (e _ _ q)
  | fDict q => exact .fDict (e _ _ q)
/-- isinstance(x, T), T a built-in type -/
theorem ev_isi {a c : String} {b : Bool} (h : Ev te σ H x) (ty : TyX K H x (.type a)) (hk : kitB a c = some b) : Ev (tCB (rIsi K) (tCons te (tCons (tC (.ty c)) tNil))) σ H (.bl b) := fun H1 e Q q =>
  h H1 e _ fun H2 e2 => ⟨x, .ty c, .type a, .type c, b, rfl, .ty c, tyx_mono (e.trans e2) ty, kit_ty hk, q H2 e2⟩
/-- all(a new list of truths) -/
theorem ev_all {bs : List Bool} (h : EvL te σ H (bs.map V.bl)) : Ev (tCB (rAll K) (tCons te tNil)) σ H (.bl (bs.all id)) := fun H1 e Q q =>
  h H1 e _ fun p H2 _ e2 h2 => ⟨p, bs, rfl, sq_of h2, q H2 e2⟩
theorem ev_any {bs : List Bool} (h : EvL te σ H (bs.map V.bl)) : Ev (tCB (rAny K) (tCons te tNil)) σ H (.bl (bs.any id)) := fun H1 e Q q =>
  h H1 e _ fun p H2 _ e2 h2 => ⟨p, bs, rfl, sq_of h2, q H2 e2⟩
theorem et_yes : EvT tYes σ H true := fun H1 _ _ q => q H1 (Ex.refl H1)
/-- a comprehension over a text's signs -/
theorem el_lcS {zt : Str} {tl : TE} {j : Nat} {vs : List Nat} (f : Nat → Bool) (w : Nat → V) (h : Ev tl σ H (.str zt)) (hz : zt.cps.size ≤ 40000) (hw : ∀ x, wipe ((wipe σ vs).set j (some x)) vs = wipe σ vs)
    (ht : ∀ (i : Nat) (c : Nat) H1, Ex H H1 → zt.cps[i]? = some c → EvT t ((wipe σ vs).set j (some (.str ⟨#[c]⟩))) H1 (f i)) (he : ∀ (i : Nat) (c : Nat) H1, Ex H H1 → zt.cps[i]? = some c → f i = true → Ev te ((wipe σ vs).set j (some (.str ⟨#[c]⟩))) H1 (w i)) :
    EvL (tLc (iStr tl) (gName j) t te vs) σ H (given zt.cps.size f w) := fun H0 e Q q => h H0 e _ fun H1 e1 => ⟨zt, rfl, fun Dl hD =>
  lc_it walk_str (Cw H1 f w Dl) ⟨hD, Ex.new hD, upd_same⟩ (fun _ _ _ _ => trivial) (fun i x H' H'' hi pc y => by
    obtain ⟨rfl, c, hc, rfl⟩ := y
    exact ⟨hw _, cw_turn pc (by omega) (ht i c H1 (e.trans e1) hc) (fun hf => he i c H1 (e.trans e1) hc hf)⟩)
    (fun H' pc => q Dl H' (fresh_back e1 pc.1) (e1.trans pc.2.1) pc.2.2)⟩
/-- for c in text -/
theorem s_forS {zt : Str} {tl : TE} {j : Nat} {D : Ends} {tu : TS} (h : Ev tl σ H (.str zt)) (Pv : Nat → L2.St → Hp → Prop) (h0 : ∀ H1, Ex H H1 → Pv 0 σ H1)
    (hs : ∀ (i : Nat) (c : Nat) σ' H', zt.cps[i]? = some c → Pv i σ' H' → tu { D with nx := Pv (i + 1), ct := Pv (i + 1), bk := D.nx } (σ'.set j (some (.str ⟨#[c]⟩))) H') (hd : ∀ σ' H', Pv zt.cps.size σ' H' → D.nx σ' H') : tFor (iStr tl) (gName j) tu D σ H :=
  h H (Ex.refl H) _ fun H1 e => ⟨zt, rfl, for_it walk_str Pv (h0 H1 e) (fun _ _ _ _ _ => trivial) (fun i x σ' H' H'' hi pc y => by
    obtain ⟨rfl, c, hc, rfl⟩ := y
    exact hs i c σ' H'' hc pc) hd⟩
theorem q_forS {zt : Str} {tl : TE} {j : Nat} {D : Ends} {tu tz : TS} (h : Ev tl σ H (.str zt)) (Pv : Nat → L2.St → Hp → Prop) (h0 : ∀ H1, Ex H H1 → Pv 0 σ H1)
    (hs : ∀ (i : Nat) (c : Nat) σ' H', zt.cps[i]? = some c → Pv i σ' H' → tu { D with nx := Pv (i + 1), ct := Pv (i + 1), bk := tz D } (σ'.set j (some (.str ⟨#[c]⟩))) H') (hd : ∀ σ' H', Pv zt.cps.size σ' H' → tz D σ' H') : tSeq (tFor (iStr tl) (gName j) tu) tz D σ H :=
  s_forS (D := { D with nx := tz D }) h Pv h0 hs hd

theorem rv_eqI {i j : Int} : RV rEq (.int i) (.int j) H (.bl (decide (i = j))) := fun H1 e Q q => rv_eq (H := H) (x := .int i) (y := .int j) rfl H1 e Q fun H2 e2 => by
  rw [dec_int, show (i == j) = decide (i = j) from rfl]
  exact q H2 e2
theorem rv_neI {i j : Int} : RV rNe (.int i) (.int j) H (.bl (!decide (i = j))) := fun H1 e Q q => rv_ne (H := H) (x := .int i) (y := .int j) rfl H1 e Q fun H2 e2 => by
  rw [dec_int, show (i == j) = decide (i = j) from rfl]
  exact q H2 e2
theorem rv_eqS {i j : Str} : RV rEq (.str i) (.str j) H (.bl (decide (i = j))) := fun H1 e Q q => rv_eq (H := H) (x := .str i) (y := .str j) rfl H1 e Q fun H2 e2 => by
  rw [show decide (V.str i = V.str j) = decide (i = j) from by by_cases h : i = j <;> simp [h]]
  exact q H2 e2
theorem rv_neS {i j : Str} : RV rNe (.str i) (.str j) H (.bl (!decide (i = j))) := fun H1 e Q q => rv_ne (H := H) (x := .str i) (y := .str j) rfl H1 e Q fun H2 e2 => by
  rw [show decide (V.str i = V.str j) = decide (i = j) from by by_cases h : i = j <;> simp [h]]
  exact q H2 e2
theorem rv_neB {i j : Bool} : RV rNe (.bl i) (.bl j) H (.bl (!decide (i = j))) := fun H1 e Q q => rv_ne (H := H) (x := .bl i) (y := .bl j) rfl H1 e Q fun H2 e2 => by
  rw [show decide (V.bl i = V.bl j) = decide (i = j) from by by_cases h : i = j <;> simp [h]]
  exact q H2 e2
theorem rv_eqB {i j : Bool} : RV rEq (.bl i) (.bl j) H (.bl (decide (i = j))) := fun H1 e Q q => rv_eq (H := H) (x := .bl i) (y := .bl j) rfl H1 e Q fun H2 e2 => by
  rw [show decide (V.bl i = V.bl j) = decide (i = j) from by by_cases h : i = j <;> simp [h]]
  exact q H2 e2
/-- a comprehension's list by places is one by items -/
theorem given_eq {α : Type} (l : List α) (d : α) (F : α → Bool) (W : α → V) : given l.length (fun i => F (l.getD i d)) (fun i => W (l.getD i d)) = (l.filter F).map W := by
  have e : l = (List.range l.length).map fun i => l.getD i d := by
    apply List.ext_getElem
    · simp
    · intro i h1 h2
      simp [h1]
  unfold given
  conv => rhs; rw [e, List.filter_map, List.map_map]
  rfl
theorem codes_at {zt : Str} {i c : Nat} (h : zt.cps[i]? = some c) : zt.cps.toList.getD i 0 = c ∧ c ∈ zt.cps.toList := by
  have h2 : zt.cps.toList[i]? = some c := by
    rw [← h]
    simp
  exact ⟨by rw [List.getD_eq_getElem?_getD, h2]; rfl, List.mem_of_getElem? h2⟩
/-- a comprehension over a text, said sign by sign -/
theorem el_lcT {zt : Str} {tl : TE} {j : Nat} {vs : List Nat} (F : Nat → Bool) (W : Nat → V) (h : Ev tl σ H (.str zt)) (hz : zt.length ≤ 40000) (hw : ∀ x, wipe ((wipe σ vs).set j (some x)) vs = wipe σ vs)
    (ht : ∀ (c : Nat) H1, Ex H H1 → c ∈ zt.cps.toList → EvT t ((wipe σ vs).set j (some (.str ⟨#[c]⟩))) H1 (F c)) (he : ∀ (c : Nat) H1, Ex H H1 → c ∈ zt.cps.toList → F c = true → Ev te ((wipe σ vs).set j (some (.str ⟨#[c]⟩))) H1 (W c)) :
    EvL (tLc (iStr tl) (gName j) t te vs) σ H ((zt.cps.toList.filter F).map W) := by
  have e := el_lcS (σ := σ) (H := H) (te := te) (t := t) (zt := zt) (tl := tl) (j := j) (vs := vs) (fun i => F (zt.cps.toList.getD i 0)) (fun i => W (zt.cps.toList.getD i 0)) h hz hw
    (fun i c H1 e1 hc => by rw [(codes_at hc).1]; exact ht c H1 e1 (codes_at hc).2) (fun i c H1 e1 hc hf => by rw [(codes_at hc).1] at hf ⊢; exact he c H1 e1 (codes_at hc).2 hf)
  have e2 : zt.cps.size = zt.cps.toList.length := by simp
  rw [e2, given_eq] at e
  exact e
/-- a comprehension over a list that stands, its items r of the xs -/
theorem el_lcM {α : Type} {a : Addr} {xs : List α} {r : α → V} {tl : TE} {j : Nat} {vs : List Nat} (d : α) (F : α → Bool) (W : α → V) (h : Ev tl σ H (.ref a)) (hx : SqL K H a (xs.map r)) (hz : xs.length ≤ 40000) (hw : ∀ x, wipe ((wipe σ vs).set j (some x)) vs = wipe σ vs)
    (ht : ∀ (x : α) H1, Ex H H1 → x ∈ xs → EvT t ((wipe σ vs).set j (some (r x))) H1 (F x)) (he : ∀ (x : α) H1, Ex H H1 → x ∈ xs → F x = true → Ev te ((wipe σ vs).set j (some (r x))) H1 (W x)) :
    EvL (tLc (iList K tl) (gName j) t te vs) σ H ((xs.filter F).map W) := by
  have key : ∀ (i : Nat) (x : V), (xs.map r)[i]? = some x → r (xs.getD i d) = x ∧ xs.getD i d ∈ xs := fun i x hi => by
    rw [List.getElem?_map] at hi
    cases hy : xs[i]? with
    | none =>
      rw [hy] at hi
      cases hi
    | some y =>
      rw [hy] at hi
      rw [List.getD_eq_getElem?_getD, hy]
      exact ⟨Option.some.inj hi, List.mem_of_getElem? hy⟩
  have e := el_lcL (K := K) (σ := σ) (H := H) (te := te) (t := t) (a := a) (xs := xs.map r) (tl := tl) (j := j) (vs := vs) (fun i => F (xs.getD i d)) (fun i => W (xs.getD i d)) h hx (by rw [List.length_map]; exact hz) hw
    (fun i x H1 e1 hc => by rw [← (key i x hc).1]; exact ht _ H1 e1 (key i x hc).2) (fun i x H1 e1 hc hf => by rw [← (key i x hc).1]; exact he _ H1 e1 (key i x hc).2 hf)
  rw [List.length_map, given_eq] at e
  exact e
/-- a comprehension over a new list -/
theorem el_lcNM {α : Type} {xs : List α} {r : α → V} {tl : TE} {j : Nat} {vs : List Nat} (d : α) (F : α → Bool) (W : α → V) (h : EvL tl σ H (xs.map r)) (hz : xs.length ≤ 40000) (hw : ∀ x, wipe ((wipe σ vs).set j (some x)) vs = wipe σ vs)
    (ht : ∀ (x : α) H1, Ex H H1 → x ∈ xs → EvT t ((wipe σ vs).set j (some (r x))) H1 (F x)) (he : ∀ (x : α) H1, Ex H H1 → x ∈ xs → F x = true → Ev te ((wipe σ vs).set j (some (r x))) H1 (W x)) :
    EvL (tLc (iList K tl) (gName j) t te vs) σ H ((xs.filter F).map W) := by
  have key : ∀ (i : Nat) (x : V), (xs.map r)[i]? = some x → r (xs.getD i d) = x ∧ xs.getD i d ∈ xs := fun i x hi => by
    rw [List.getElem?_map] at hi
    cases hy : xs[i]? with
    | none =>
      rw [hy] at hi
      cases hi
    | some y =>
      rw [hy] at hi
      rw [List.getD_eq_getElem?_getD, hy]
      exact ⟨Option.some.inj hi, List.mem_of_getElem? hy⟩
  have e := el_lcNL (K := K) (σ := σ) (H := H) (te := te) (t := t) (xs := xs.map r) (tl := tl) (j := j) (vs := vs) (fun i => F (xs.getD i d)) (fun i => W (xs.getD i d)) h (by rw [List.length_map]; exact hz) hw
    (fun i x H1 e1 hc => by rw [← (key i x hc).1]; exact ht _ H1 e1 (key i x hc).2) (fun i x H1 e1 hc hf => by rw [← (key i x hc).1]; exact he _ H1 e1 (key i x hc).2 hf)
  rw [List.length_map, given_eq] at e
  exact e
/-- a comprehension over a tuple that stands -/
theorem el_lcUM {α : Type} {a : Addr} {xs : List α} {r : α → V} {tl : TE} {j : Nat} {vs : List Nat} (d : α) (F : α → Bool) (W : α → V) (h : Ev tl σ H (.ref a)) (hx : SqT K H a (xs.map r)) (hz : xs.length ≤ 40000) (hw : ∀ x, wipe ((wipe σ vs).set j (some x)) vs = wipe σ vs)
    (ht : ∀ (x : α) H1, Ex H H1 → x ∈ xs → EvT t ((wipe σ vs).set j (some (r x))) H1 (F x)) (he : ∀ (x : α) H1, Ex H H1 → x ∈ xs → F x = true → Ev te ((wipe σ vs).set j (some (r x))) H1 (W x)) :
    EvL (tLc (iTup K tl) (gName j) t te vs) σ H ((xs.filter F).map W) := by
  have key : ∀ (i : Nat) (x : V), (xs.map r)[i]? = some x → r (xs.getD i d) = x ∧ xs.getD i d ∈ xs := fun i x hi => by
    rw [List.getElem?_map] at hi
    cases hy : xs[i]? with
    | none =>
      rw [hy] at hi
      cases hi
    | some y =>
      rw [hy] at hi
      rw [List.getD_eq_getElem?_getD, hy]
      exact ⟨Option.some.inj hi, List.mem_of_getElem? hy⟩
  have e : EvL (tLc (iTup K tl) (gName j) t te vs) σ H (given (xs.map r).length (fun i => F (xs.getD i d)) (fun i => W (xs.getD i d))) := fun H0 e Q q => h H0 e _ fun H1 e1 => ⟨a, rfl, ⟨xs.map r, ex_t (e.trans e1) hx⟩, fun Dl hD =>
    lc_it walk_tup (Cw H1 (fun i => F (xs.getD i d)) (fun i => W (xs.getD i d)) Dl) ⟨hD, Ex.new hD, upd_same⟩ (fun i H' _ pc => ex_t ((e.trans e1).trans pc.2.1) hx) (fun i x H' H'' hi pc y => by
      obtain ⟨rfl, hy⟩ := y
      obtain ⟨k1, k2⟩ := key i x hy
      rw [List.length_map] at hi
      exact ⟨hw _, cw_turn pc (by omega) (by rw [← k1]; exact ht _ H1 (e.trans e1) k2) (fun hf => by rw [← k1]; exact he _ H1 (e.trans e1) k2 hf)⟩)
      (fun H' pc => q Dl H' (fresh_back e1 pc.1) (e1.trans pc.2.1) pc.2.2)⟩
  rw [List.length_map, given_eq] at e
  exact e
theorem ex_fresh {p : Addr} {H1 H2 H3 : Hp} (hp : H1 p = none) (e2 : Ex H1 H2) (e3 : Ex (hide p H2) H3) : Ex H1 H3 := fun a o h => e3 a o (by
  rw [hide_ne (ne_of_none h hp)]
  exact e2 a o h)
theorem filter_yes {α : Type} (l : List α) : l.filter (fun _ => true) = l := List.filter_eq_self.mpr fun _ _ => rfl

/-! ### flat lists compared -/
def toD : V → PyData
  | .bl b => .bool b
  | .int i => .int i
  | .str x => .str x
  | _ => .none
/-- None, truths, ints and texts of signs that there are -/
def okV : V → Bool
  | .non => true
  | .bl _ => true
  | .int _ => true
  | .str x => x.cps.all (· < 0x110000)
  | _ => false
theorem dp_toD {v : V} (h : okV v = true) : Dp K H v (toD v) := by
  cases v with
  | non => exact .non
  | bl b => exact .bl b
  | int i => exact .int i
  | str x => exact .str x
  | byt _ => cases h
  | flt _ => cases h
  | ref _ => cases h
  | ty _ => cases h
theorem dpAll_toD : ∀ {vs : List V}, (∀ v ∈ vs, okV v = true) → DpAll K H vs (vs.map toD)
  | [], _ => .nil
  | v :: vs, h => .cons (dp_toD (h v List.mem_cons_self)) (dpAll_toD fun u hu => h u (List.mem_cons_of_mem _ hu))
theorem lay_toD {v : V} (h : okV v = true) : (toD v).canLay0 = true ∧ (toD v).depth = 0 := by
  cases v with
  | non => exact ⟨by simp [toD, PyData.canLay0], by simp [toD, PyData.depth]⟩
  | bl b => exact ⟨by simp [toD, PyData.canLay0], by simp [toD, PyData.depth]⟩
  | int i => exact ⟨by simp [toD, PyData.canLay0], by simp [toD, PyData.depth]⟩
  | str x => exact ⟨by simp only [toD, PyData.canLay0]; exact h, by simp [toD, PyData.depth]⟩
  | byt _ => cases h
  | flt _ => cases h
  | ref _ => cases h
  | ty _ => cases h
theorem layAll_toD : ∀ {vs : List V}, (∀ v ∈ vs, okV v = true) → PyData.canLayAll0 (vs.map toD) = true ∧ PyData.depthAll (vs.map toD) = 0
  | [], _ => ⟨by simp [PyData.canLayAll0], by simp [PyData.depthAll]⟩
  | v :: vs, h => by
    have h1 := lay_toD (h v List.mem_cons_self)
    have h2 := layAll_toD (vs := vs) fun u hu => h u (List.mem_cons_of_mem _ hu)
    exact ⟨by simp [PyData.canLayAll0, h1.1, h2.1], by simp [PyData.depthAll, h1.2, h2.2]⟩
theorem shaped_l {vs : List V} (h : ∀ v ∈ vs, okV v = true) : SeqAt.shaped (.list (vs.map toD)) = true := by
  have h2 := layAll_toD h
  show (PyData.canLay0 (.list (vs.map toD)) && decide (PyData.depth (.list (vs.map toD)) ≤ 64)) = true
  rw [Bool.and_eq_true]
  exact ⟨by simp only [PyData.canLay0]; exact h2.1, decide_eq_true (by simp only [PyData.depth]; omega)⟩
theorem shaped_t {vs : List V} (h : ∀ v ∈ vs, okV v = true) : SeqAt.shaped (.tuple (vs.map toD)) = true := by
  have h2 := layAll_toD h
  show (PyData.canLay0 (.tuple (vs.map toD)) && decide (PyData.depth (.tuple (vs.map toD)) ≤ 64)) = true
  rw [Bool.and_eq_true]
  exact ⟨by simp only [PyData.canLay0]; exact h2.1, decide_eq_true (by simp only [PyData.depth]; omega)⟩
/-- equal, item by item -/
def eqF : List V → List V → Bool
  | [], [] => true
  | x :: xs, y :: ys => PyData.eqv (toD x) (toD y) && eqF xs ys
  | _, _ => false
theorem eqvAll_toD : ∀ xs ys : List V, PyData.eqvAll (xs.map toD) (ys.map toD) = eqF xs ys
  | [], [] => by simp [PyData.eqvAll, eqF]
  | x :: xs, y :: ys => by simp only [List.map_cons, PyData.eqvAll, eqF, eqvAll_toD xs ys]
  | [], _ :: _ => by simp [PyData.eqvAll, eqF]
  | _ :: _, [] => by simp [PyData.eqvAll, eqF]
theorem rv_eqL {p q : Addr} {xs ys : List V} (hx : SqL K H p xs) (hy : SqL K H q ys) (h1 : ∀ v ∈ xs, okV v = true) (h2 : ∀ v ∈ ys, okV v = true) : RV (rEqD K) (.ref p) (.ref q) H (.bl (eqF xs ys)) := fun H1 e Q k =>
  ⟨.list (xs.map toD), .list (ys.map toD), .lst (ex_l e hx) (dpAll_toD h1), .lst (ex_l e hy) (dpAll_toD h2), shaped_l h1, shaped_l h2, by
    rw [show PyData.eqv (.list (xs.map toD)) (.list (ys.map toD)) = eqF xs ys by simp only [PyData.eqv, eqvAll_toD]]
    exact k H1 (Ex.refl H1)⟩
theorem rv_neL {p q : Addr} {xs ys : List V} (hx : SqL K H p xs) (hy : SqL K H q ys) (h1 : ∀ v ∈ xs, okV v = true) (h2 : ∀ v ∈ ys, okV v = true) : RV (rNeD K) (.ref p) (.ref q) H (.bl (!eqF xs ys)) := fun H1 e Q k =>
  ⟨.list (xs.map toD), .list (ys.map toD), .lst (ex_l e hx) (dpAll_toD h1), .lst (ex_l e hy) (dpAll_toD h2), shaped_l h1, shaped_l h2, by
    rw [show PyData.eqv (.list (xs.map toD)) (.list (ys.map toD)) = eqF xs ys by simp only [PyData.eqv, eqvAll_toD]]
    exact k H1 (Ex.refl H1)⟩
theorem rv_eqT {p q : Addr} {xs ys : List V} (hx : SqT K H p xs) (hy : SqT K H q ys) (h1 : ∀ v ∈ xs, okV v = true) (h2 : ∀ v ∈ ys, okV v = true) : RV (rEqD K) (.ref p) (.ref q) H (.bl (eqF xs ys)) := fun H1 e Q k =>
  ⟨.tuple (xs.map toD), .tuple (ys.map toD), .tup (ex_t e hx) (dpAll_toD h1), .tup (ex_t e hy) (dpAll_toD h2), shaped_t h1, shaped_t h2, by
    rw [show PyData.eqv (.tuple (xs.map toD)) (.tuple (ys.map toD)) = eqF xs ys by simp only [PyData.eqv, eqvAll_toD]]
    exact k H1 (Ex.refl H1)⟩
theorem okV_str1 {c : Nat} (h : c < 0x110000) : okV (.str ⟨#[c]⟩) = true := by
  show ((#[c] : Array Nat).all fun x => decide (x < 0x110000)) = true
  simp
  omega
theorem rv_neT {p q : Addr} {xs ys : List V} (hx : SqT K H p xs) (hy : SqT K H q ys) (h1 : ∀ v ∈ xs, okV v = true) (h2 : ∀ v ∈ ys, okV v = true) : RV (rNeD K) (.ref p) (.ref q) H (.bl (!eqF xs ys)) := fun H1 e Q k =>
  ⟨.tuple (xs.map toD), .tuple (ys.map toD), .tup (ex_t e hx) (dpAll_toD h1), .tup (ex_t e hy) (dpAll_toD h2), shaped_t h1, shaped_t h2, by
    rw [show PyData.eqv (.tuple (xs.map toD)) (.tuple (ys.map toD)) = eqF xs ys by simp only [PyData.eqv, eqvAll_toD]]
    exact k H1 (Ex.refl H1)⟩
theorem eqF_nil (xs : List V) : eqF xs [] = xs.isEmpty := by
  cases xs <;> rfl
/-- of texts -/
theorem eqF_strs : ∀ xs ys : List Str, eqF (xs.map V.str) (ys.map V.str) = decide (xs = ys)
  | [], [] => rfl
  | x :: xs, y :: ys => by
    show (PyData.eqv (.str x) (.str y) && eqF (xs.map V.str) (ys.map V.str)) = _
    rw [eqF_strs xs ys, show PyData.eqv (.str x) (.str y) = (x == y) by simp only [PyData.eqv]]
    by_cases h : x = y
    · subst h
      by_cases h2 : xs = ys
      · subst h2
        simp
      · simp [h2]
    · simp [h]
  | [], _ :: _ => rfl
  | _ :: _, [] => rfl
theorem eqF_ints : ∀ xs ys : List Int, eqF (xs.map V.int) (ys.map V.int) = decide (xs = ys)
  | [], [] => rfl
  | x :: xs, y :: ys => by
    show (PyData.eqv (.int x) (.int y) && eqF (xs.map V.int) (ys.map V.int)) = _
    rw [eqF_ints xs ys, show PyData.eqv (.int x) (.int y) = (x == y) by simp only [PyData.eqv]]
    by_cases h : x = y
    · subst h
      by_cases h2 : xs = ys
      · subst h2
        simp
      · simp [h2]
    · simp [h]
  | [], _ :: _ => rfl
  | _ :: _, [] => rfl
theorem okV_ints {ns : List Int} : ∀ v ∈ ns.map V.int, okV v = true := fun v h => by
  obtain ⟨i, _, rfl⟩ := List.mem_map.mp h
  rfl
end

/-! ### drawing -/
/-- what a pool is between two draws -/
def Pk (s : Int × Int) : Prop := 0 ≤ s.2 ∧ s.2 < 2147483647
/-- a draw: its digit, and the pool behind it -/
def take (s : Int × Int) (n : Int) : Int × (Int × Int) :=
  if 0 < s.1 then (s.1 % n, (s.1 / n, s.2))
  else (((s.2 * 48271 + 11) % 2147483647 * ((s.2 * 48271 + 11) % 2147483647)) % 2147483629 / 64 % n, (s.1, (s.2 * 48271 + 11) % 2147483647))
theorem take_pos {s : Int × Int} {n : Int} (h : 0 < s.1) : take s n = (s.1 % n, (s.1 / n, s.2)) := if_pos h
theorem take_neg {s : Int × Int} {n : Int} (h : ¬ 0 < s.1) : take s n = (((s.2 * 48271 + 11) % 2147483647 * ((s.2 * 48271 + 11) % 2147483647)) % 2147483629 / 64 % n, (s.1, (s.2 * 48271 + 11) % 2147483647)) := if_neg h
theorem take_lt {s : Int × Int} {n : Int} (h : 0 < n) : 0 ≤ (take s n).1 ∧ (take s n).1 < n := by
  by_cases c : 0 < s.1
  · rw [take_pos c]
    exact ⟨Int.emod_nonneg _ (by omega), Int.emod_lt_of_pos _ h⟩
  · rw [take_neg c]
    exact ⟨Int.emod_nonneg _ (by omega), Int.emod_lt_of_pos _ h⟩
theorem take_pk {s : Int × Int} {n : Int} (h : Pk s) : Pk (take s n).2 := by
  by_cases c : 0 < s.1
  · rw [take_pos c]
    exact h
  · rw [take_neg c]
    exact ⟨Int.emod_nonneg _ (by omega), Int.emod_lt_of_pos _ (by omega)⟩
/-- the script's cell for k -/
def cellAt (ns : List Int) (k : Int) : Int := if ns = [] then 0 else ns.getD (k % (ns.length : Int)).toNat 0
def pool0 (ns : List Int) (k : Int) : Int × Int :=
  (cellAt ns k * (if decide (10 ^ 18 ≤ cellAt ns k) then 1 else 0), (cellAt ns k % 2147483629 + 104729 * k + 11) * 48271 % 2147483647)
theorem pool0_pk (ns : List Int) (k : Int) : Pk (pool0 ns k) := ⟨Int.emod_nonneg _ (by omega), Int.emod_lt_of_pos _ (by omega)⟩
/-- what a def that draws hands back: v, the pool at p then s' -/
def RetP (p : Addr) (s' : Int × Int) (v : V) (H : Hp) (Q : VK) : Prop := ∀ H', Ex (hide p H) H' → H' p = some (pl s') → Q v H'
def spTake : Sp := fun vs H Q _ => ∃ (p : Addr) (s : Int × Int) (n : Int), vs = [.ref p, .int n] ∧ H p = some (pl s) ∧ Pk s ∧ 0 < n ∧ n < 2 ^ 60 ∧ RetP p (take s n).2 (.int (take s n).1) H Q
theorem sp_take {G : Hp} {p : Addr} {s : Int × Int} {n : Int} (h : Pk s) (h0 : 0 < n) (h1 : n < 2 ^ 60) : SpP spTake [.ref p, .int n] G p s (.int (take s n).1) (take s n).2 := fun H k Q q _ =>
  ⟨p, s, n, rfl, k.at_, h, h0, h1, q⟩
def spPool (K : PySem.W.Frag) : Sp := fun vs H Q _ => ∃ (a : Addr) (ns : List Int) (k : Int), vs = [.ref a, .int k] ∧ SqL K H a (ns.map V.int) ∧ ns.length ≤ 63 ∧ 0 ≤ k ∧ k ≤ 1000 ∧ ∀ p H', H p = none → Ex H H' → H' p = some (pl (pool0 ns k)) → Q (.ref p) H'

/-! ### more rules: a text times a number, list(text) -/
def repS (z : Str) (k : Nat) : Str := ⟨((List.replicate k z.cps.toList).flatten).toArray⟩
theorem rep_fold (a : Array Nat) : ∀ (k : Nat) (acc : Array Nat), (List.replicate k a).foldl (· ++ ·) acc = acc ++ ((List.replicate k a.toList).flatten).toArray
  | 0, acc => by simp
  | k + 1, acc => by
    simp only [List.replicate_succ, List.foldl_cons, List.flatten_cons]
    rw [rep_fold a k]
    apply Array.ext'
    simp
theorem repS_len (z : Str) (k : Nat) : (repS z k).length = k * z.length := by
  show ((List.replicate k z.cps.toList).flatten).toArray.size = _
  rw [List.size_toArray, List.length_flatten, List.map_replicate, List.sum_replicate_nat]
  show k * z.cps.toList.length = k * z.cps.size
  simp
def rMulS : R2 := fun x y H Q => ∃ (z : Str) (n : Int), x = .str z ∧ y = .int n ∧ 0 ≤ n ∧ n ≤ 1000 ∧ z.length ≤ 1000 ∧ Q (.str (repS z n.toNat)) H
theorem op_mulS {X : Cx} : OpR X (binaryOp .Mult) rMulS := by
  intro pins s σ H x y v u Q I rx ry h
  obtain ⟨z, n, rfl, rfl, h0, h1, hz, q⟩ := h
  obtain ⟨t, rfl⟩ := rx
  obtain ⟨t', rfl⟩ := ry
  have hm : z.length * n.toNat ≤ 1000 * 1000 := Nat.mul_le_mul hz (by omega)
  refine PySem.P.mul_str (by rw [decide_eq_false (by omega), decide_eq_false (by omega)]; rfl) (fun _ _ hh => ?_) (fun _ _ => ?_) ?_
  · have h2 : (1000 : Int) ≤ (2 ^ 63 - 1) / n := by
      have hn : 0 < n := by omega
      rw [Int.le_ediv_iff_mul_le hn]
      have : 1000 * n ≤ 1000 * 1000 := by omega
      have e : (1000 : Int) * 1000 ≤ 2 ^ 63 - 1 := by decide
      omega
    omega
  · exact decide_eq_false (by
      have : (1000 * 1000 : Nat) ≤ sizeLine := by decide
      omega)
  · by_cases c : n < 1
    · rw [if_pos c]
      have e : repS z n.toNat = Str.empty := by
        rw [show n.toNat = 0 by omega]
        rfl
      exact ⟨by decide, .str (repS z n.toNat), H, I.tok _, ⟨_, by rw [e]⟩, q⟩
    · rw [if_neg c]
      by_cases d : (n == 1 || z.length == 0) = true
      · rw [if_pos d]
        have e : repS z n.toNat = z := by
          rcases Bool.or_eq_true _ _ ▸ d with d | d
          · have : n = 1 := by simpa using d
            rw [this]
            show (⟨((List.replicate 1 z.cps.toList).flatten).toArray⟩ : Str) = z
            cases z with
            | mk a => simp
          · have hz0 : z.cps.size = 0 := eq_of_beq d
            cases z with
            | mk a =>
              have : a = #[] := Array.eq_empty_of_size_eq_zero hz0
              subst this
              unfold repS
              have : ∀ k : Nat, (List.replicate k ([] : List Nat)).flatten = [] := fun k => by induction k with
                | zero => rfl
                | succ k ih => simpa [List.replicate_succ] using ih
              show (⟨((List.replicate n.toNat ([] : List Nat)).flatten).toArray⟩ : Str) = _
              rw [this]
        exact ⟨.str (repS z n.toNat), H, I, ⟨_, by rw [e]⟩, q⟩
      · rw [if_neg d]
        have e : (⟨(List.replicate n.toNat z.cps).foldl (· ++ ·) #[]⟩ : Str) = repS z n.toNat := by
          rw [rep_fold]
          unfold repS
          simp
        rw [e]
        have hl := repS_len z n.toNat
        refine ⟨?_, .str (repS z n.toNat), H, I.tok _, ⟨_, rfl⟩, q⟩
        rw [hl, Nat.mul_comm]
        have : (1000 * 1000 : Nat) ≤ sizeLine := by decide
        omega
/-- the signs of a text, a text each -/
def chars (z : Str) : List V := z.cps.toList.map fun c => V.str ⟨#[c]⟩
def rListStr : List V → Hp → VK → Prop := fun xs H Q => ∃ z : Str, xs = [.str z] ∧ z.length ≤ sizeLine ∧ ∀ l, H l = none → Q (.ref l) (upd H l (.lst (chars z)))
theorem call_listS {X : Cx} (hc : X.calm = true) : CallR X (.type "list") rListStr := by
  intro pins s σ H xs us Q I r h
  obtain ⟨z, rfl, hz, q⟩ := h
  obtain ⟨u, rfl, rx⟩ := vals1 r
  obtain ⟨t, rfl⟩ := rx
  refine PySem.call_list_str (I.ok.hd hc) z t (fun h' tk acc' c' hk e hi => ?_) (by simpa [Str.length] using hz)
  have hlen : (chars z).length = z.cps.size := by simp [chars]
  refine ⟨.ref s.heap.objs.size, upd H s.heap.objs.size (.lst (chars z)), I.laid hk (Nat.le_refl _) ⟨by rw [hlen]; exact hz, acc'.toList, c', ?_, by rw [Array.toArray_toList]; exact e⟩, rfl, q _ (I.hok.fresh (Nat.le_refl _))⟩
  refine vals_of_idx _ _ (by rw [hlen, Array.length_toList]; exact hi.1) fun j u hj => ?_
  obtain ⟨c, t', hc, rfl⟩ := hi.2 j u (by rw [← Array.getElem?_toList]; exact hj)
  refine ⟨.str ⟨#[c]⟩, ?_, ⟨_, rfl⟩⟩
  unfold chars
  rw [List.getElem?_map, Array.getElem?_toList, hc]
  rfl
section
variable {K : PySem.W.Frag} {σ : L2.St} {G H : Hp} {ta tb te : TE} {t : TT} {x y z v : V} {r : R2} {D : Ends} {tz : TS}
theorem rv_rep {zt : Str} {n : Int} (h0 : 0 ≤ n) (h1 : n ≤ 1000) (hz : zt.length ≤ 1000) : RV rMulS (.str zt) (.int n) H (.str (repS zt n.toNat)) := fun H1 _ _ q => ⟨zt, n, rfl, rfl, h0, h1, hz, q H1 (Ex.refl H1)⟩
theorem el_listS {zt : Str} (h : Ev te σ H (.str zt)) (hz : zt.length ≤ 100000) : EvL (tCB rListStr (tCons te tNil)) σ H (chars zt) := fun H1 e Q q =>
  h H1 e _ fun H2 e2 => ⟨zt, rfl, sz_of hz, fun l hl => q l _ (fresh_back e2 hl) (e2.trans (Ex.new hl)) upd_same⟩
theorem el_listL {a : Addr} {xs : List V} (h : Ev te σ H (.ref a)) (hx : SqL K H a xs) : EvL (tCB (fun xs H Q => ∃ p ys, xs = [.ref p] ∧ (SqL K H p ys ∨ SqT K H p ys) ∧ ∀ l, H l = none → Q (.ref l) (upd H l (.lst ys))) (tCons te tNil)) σ H xs := fun H1 e Q q =>
  h H1 e _ fun H2 e2 => ⟨a, xs, rfl, .inl (ex_l (e.trans e2) hx), fun l hl => q l _ (fresh_back e2 hl) (e2.trans (Ex.new hl)) upd_same⟩
/-- tuple(list) -/
theorem eu_tupL {a : Addr} {xs : List V} (h : Ev te σ H (.ref a)) (hx : SqL K H a xs) : EvU (tCB (fun xs H Q => ∃ p ys, xs = [.ref p] ∧ ((SqL K H p ys ∧ ∀ l, H l = none → Q (.ref l) (upd H l (.tup ys))) ∨ (SqT K H p ys ∧ Q (.ref p) H))) (tCons te tNil)) σ H xs := fun H1 e Q q =>
  h H1 e _ fun H2 e2 => ⟨a, xs, rfl, .inl ⟨ex_l (e.trans e2) hx, fun l hl => q l _ (fresh_back e2 hl) (e2.trans (Ex.new hl)) upd_same⟩⟩
theorem el_listRg {i j : Int} (ha : Ev ta σ H (.int i)) (hb : Ev tb σ H (.int j)) (h0 : 0 ≤ i) (h1 : i ≤ 100000) (h2 : 0 ≤ j) (h3 : j ≤ 100000) : EvL (tLstRg (tRg2 ta tb)) σ H (rgV i j) := fun H1 e Q q =>
  ha H1 e _ fun H2 e2 => hb H2 (e.trans e2) _ fun H3 e3 => ⟨i, j, rfl, rfl, RgOk.of_le h0 (by omega) (by omega) h2, fun l hl => q l _ (fresh_back (e2.trans e3) hl) ((e2.trans e3).trans (Ex.new hl)) upd_same⟩
theorem ev_slS {zt : Str} {tl th : TO} {lo hi : Option Int} (h : Ev te σ H (.str zt)) (h1 : EvO tl σ H lo) (h2 : EvO th σ H hi) (hz : zt.length ≤ 100000) : Ev (tSl rSlS te tl th) σ H (.str (cutS zt lo hi)) := fun H1 e _ q =>
  h H1 e _ fun H2 e2 => h1 H2 (e.trans e2) _ fun H3 e3 => h2 H3 ((e.trans e2).trans e3) _ fun H4 e4 => ⟨zt, rfl, sz_of hz, q H4 ((e2.trans e3).trans e4)⟩
/-- a list that stands and a new one, joined -/
theorem el_cat {a : Addr} {xs ys : List V} (ha : Ev ta σ H (.ref a)) (hx : H a = some (.lst xs)) (hb : EvL tb σ H ys) (hz : xs.length + ys.length ≤ 100000) : EvL (tOp rCat ta tb) σ H (xs ++ ys) := fun H1 e Q q =>
  ha H1 e _ fun H2 e2 => hb H2 (e.trans e2) _ fun b H3 hb3 e3 hy => ⟨a, b, xs, ys, rfl, rfl, e3 _ _ (e2 _ _ (e _ _ hx)), hy, sz_of hz, fun l hl => q l _ (fresh_back (e2.trans e3) hl) ((e2.trans e3).trans (Ex.new hl)) upd_same⟩
theorem el_catN {xs ys : List V} (ha : EvL ta σ H xs) (hb : EvL tb σ H ys) (hz : xs.length + ys.length ≤ 100000) : EvL (tOp rCat ta tb) σ H (xs ++ ys) := fun H1 e Q q =>
  ha H1 e _ fun a H2 ha2 e2 hx => hb H2 (e.trans e2) _ fun b H3 hb3 e3 hy => ⟨a, b, xs, ys, rfl, rfl, e3 _ _ hx, hy, sz_of hz, fun l hl => q l _ (fresh_back (e2.trans e3) hl) ((e2.trans e3).trans (Ex.new hl)) upd_same⟩
/-- xs.extend(a new list) -/
theorem s_extL {l : Addr} {xs ys : List V} (hl : H l = some (.lst xs)) (ha : Ev ta σ H (.ref l)) (h : EvL te σ H ys) (hz : xs.length + ys.length ≤ 100000) (k : ∀ p H1, H p = none → Ex H H1 → D.nx σ (upd H1 l (.lst (xs ++ ys)))) :
    tDrop (tBM K "list" rExtend ta (tCons te tNil)) D σ H := ha H (Ex.refl H) _ fun H1 e1 =>
  ⟨Or.inl ⟨rfl, xs, sq_of (e1 l _ hl)⟩, h H1 e1 _ fun p H2 hp e2 h2 => ⟨l, p, xs, ys, rfl, rfl, e2 l _ (e1 l _ hl), h2, sz_of hz, k p H2 (fresh_back e1 hp) (e1.trans e2)⟩⟩
theorem cut_lt {zt : Str} {b : Nat} : cutS zt none (some (b : Int)) = ⟨(zt.cps.toList.take b).toArray⟩ := by
  unfold cutS
  have e : zt.length = zt.cps.toList.length := by simp [Str.length]
  rw [HT.sIx_none, HT.sIx_nat, e]
  congr 2
  rw [List.drop_zero, Nat.sub_zero]
  by_cases h : b ≤ zt.cps.toList.length
  · rw [Nat.min_eq_left h]
  · rw [Nat.min_eq_right (by omega), List.take_of_length_le (Nat.le_refl _), List.take_of_length_le (by omega)]
theorem cut_ge {zt : Str} {a : Nat} : cutS zt (some (a : Int)) none = ⟨(zt.cps.toList.drop a).toArray⟩ := by
  unfold cutS
  have e : zt.length = zt.cps.toList.length := by simp [Str.length]
  rw [HT.sIx_none, HT.sIx_nat, e]
  congr 1
  by_cases h : a ≤ zt.cps.toList.length
  · rw [Nat.min_eq_left h, List.take_of_length_le (by rw [List.length_drop]; exact Nat.le_refl _)]
  · rw [Nat.min_eq_right (by omega), Nat.sub_self, List.take_zero, List.drop_of_length_le (by omega)]
theorem cut_in {zt : Str} {a b : Nat} : cutS zt (some (a : Int)) (some (b : Int)) = ⟨((zt.cps.toList.drop a).take (b - a)).toArray⟩ := by
  unfold cutS
  have e : zt.length = zt.cps.toList.length := by simp [Str.length]
  rw [HT.sIx_nat, HT.sIx_nat, e]
  congr 1
  by_cases h : a ≤ zt.cps.toList.length
  · rw [Nat.min_eq_left h]
    by_cases h2 : b ≤ zt.cps.toList.length
    · rw [Nat.min_eq_left h2]
    · rw [Nat.min_eq_right (by omega), List.take_of_length_le (by rw [List.length_drop]; exact Nat.le_refl _), List.take_of_length_le (by rw [List.length_drop]; omega)]
  · rw [Nat.min_eq_right (by omega : zt.cps.toList.length ≤ a), List.drop_of_length_le (Nat.le_refl _), List.drop_of_length_le (by omega)]
    simp
/-- a call that hands back a new tuple -/
def SpU (sp : Sp) (vs : List V) (H : Hp) (xs : List V) : Prop := ∀ H1, Ex H H1 → ∀ Q : VK, (∀ p H2, H1 p = none → Ex H1 H2 → H2 p = some (.tup xs) → Q (.ref p) H2) → ∀ E : XK, sp vs H1 Q E
theorem eu_call {sp : Sp} {dvs vs xs : List V} {E : XK} {ta : TA} (h : EvA ta σ H vs) (hs : SpU sp (vs ++ dvs) H xs) : EvU (tCall sp dvs E ta) σ H xs := fun H1 e Q q =>
  h H1 e _ fun H2 e2 => hs H2 (e.trans e2) Q (fun p H3 hp e3 h3 => q p H3 (fresh_back e2 hp) (e2.trans e3) h3) E
/-- a call of a new tuple, of a new list -/
theorem el_call1U {sp : Sp} {E : XK} {xs ys : List V} (h : EvU te σ H xs) (hs : ∀ p H1, H1 p = some (.tup xs) → Ex H H1 → SpL sp [.ref p] H1 ys) : EvL (tCall sp [] E (tCons te tNil)) σ H ys := fun H1 e Q q =>
  h H1 e _ fun p H2 hp e2 h2 => hs p H2 h2 (e.trans e2) H2 (Ex.refl _) Q (fun r H3 hr e3 h3 => q r H3 (fresh_back e2 hr) (e2.trans e3) h3) E
theorem ev_call1L {sp : Sp} {E : XK} {xs : List V} (h : EvL te σ H xs) (hs : ∀ p H1, H1 p = some (.lst xs) → Ex H H1 → SpV sp [.ref p] H1 z) : Ev (tCall sp [] E (tCons te tNil)) σ H z := fun H1 e Q q =>
  h H1 e _ fun p H2 hp e2 h2 => hs p H2 h2 (e.trans e2) H2 (Ex.refl _) Q (fun H3 e3 => q H3 (e2.trans e3)) E
/-- a slice of a drawn text -/
theorem evp_slS {zt : Str} {tl th : TO} {lo hi : Option Int} {p : Addr} {s s1 : Int × Int} (h : EvP te σ G p s (.str zt) s1) (h1 : EvO tl σ G lo) (h2 : EvO th σ G hi) (hz : zt.length ≤ 100000) : EvP (tSl rSlS te tl th) σ G p s (.str (cutS zt lo hi)) s1 := fun H k _ q =>
  h H k _ fun H2 e2 g2 => h1 H2 (k.next e2 g2).ex _ fun H3 e3 => h2 H3 ((k.next e2 g2).ex.trans e3) _ fun H4 e4 => ⟨zt, rfl, sz_of hz, q H4 (hx_trans e2 (hx_of (e3.trans e4))) (e4 _ _ (e3 _ _ g2))⟩
/-- if c: x = e, what x is behind it by a word -/
theorem q_ifAsgM {M : V → Hp → Prop} {b : Bool} {i : Nat} (h : EvT t σ H b) (h1 : b = true → ∀ H1, Ex H H1 → ∀ Q : VK, (∀ v H2, M v H2 → Q v H2) → te σ H1 Q) (h2 : b = false → ∀ H1, Ex H H1 → ∃ v, σ.set i (some v) = σ ∧ M v H1) (k : ∀ v H2, M v H2 → tz D (σ.set i (some v)) H2) :
    tSeq (tIfS t (tAsg te (gName i)) tNext) tz D σ H := q_when h (fun hb H1 e1 => h1 hb H1 e1 _ fun v H2 m => k v H2 m) (fun hb H1 e1 => by
  obtain ⟨v, hv, m⟩ := h2 hb H1 e1
  have := k v H1 m
  rw [hv] at this
  exact this)
theorem qp_ifAsgM {M : V → Hp → Prop} {b : Bool} {i : Nat} {p : Addr} {s s1 : Int × Int} (K0 : Kn G p s H) (h : EvTP t σ G p s b s1) (h1 : b = true → ∀ H1, Kn G p s1 H1 → Ex (hide p H) H1 → ∀ Q : VK, (∀ v H2, M v H2 → Q v H2) → te σ H1 Q) (h2 : b = false → ∀ H1, Kn G p s1 H1 → Ex (hide p H) H1 → ∃ v, σ.set i (some v) = σ ∧ M v H1) (k : ∀ v H2, M v H2 → tz D (σ.set i (some v)) H2) :
    tSeq (tIfS t (tAsg te (gName i)) tNext) tz D σ H := qp_when K0 h (fun hb H1 K1 e1 => h1 hb H1 K1 e1 _ fun v H2 m => k v H2 m) (fun hb H1 K1 e1 => by
  obtain ⟨v, hv, m⟩ := h2 hb H1 K1 e1
  have := k v H1 m
  rw [hv] at this
  exact this)
end

/-! ### own classes -/
/-- x in o, o an instance whose class has its own __contains__ -/
def rInOwn (C : Addr) (sp : Sp) (E : XK) : R2 := fun x y H Q => ∃ a dx fs, y = .ref a ∧ H a = some (.ins C dx fs) ∧ sp [.ref a, x] H (fun v H' => ∃ b, v = .bl b ∧ Q (.bl b) H') E
theorem contains_own {X : Cx} {CX : CXT} {C f : Addr} {fd : FuncData} {ps : List Str} {k : Nat} {sp : Sp} {E : XK} (hs : PySem.W.findIn X.K (.ref C) "__contains__" = some (some (.ref f))) (hf : PySem.W.typeIn X.K (.ref f) = some (.type "function"))
    (F : FnOk X.prog X.w X.K X.mg X.base CX k f fd ps sp) (hr : Room k X.A) (hb : Binds X.K fd ps []) (hx : Passes CX X E) {pins : List (Addr × Obj)} {s : Shared} {σ : L2.St} {H : Hp} {x : V} {v : Value} {a dx : Addr} {fs : List (Str × V)} {Q : Bool → Hp → Prop}
    (I : Inv X pins σ H s) (rx : RelV x v) (ha : H a = some (.ins C dx fs)) (h : sp [.ref a, x] H (fun v H' => ∃ b, v = .bl b ∧ Q b H') E) :
    wpAny (model X.prog X.w) X.A (contains (.ref a) v) (TP X pins σ Q) X.xe s := by
  obtain ⟨mA, J, _⟩ := ins_get I.hok ha
  obtain ⟨od, J, _⟩ := J.look
  unfold contains
  refine wpAny_holding ?_
  show wpAny _ _ (specialOf (.ref a) "__contains__" >>= fun r => _) _ _ s
  have hsp : ∀ {β : Type} {t : Option Value → Sem β} {Q' : β → Shared → Prop}, wpAny (model X.prog X.w) X.A (t (some (.ref f))) Q' X.xe s → wpAny (model X.prog X.w) X.A (specialOf (.ref a) "__contains__" >>= t) Q' X.xe s := fun z =>
    wpAny_bind (wpAny_bind (J.type.here ((PySem.W.looks_findIn I.kIn hs).here z)))
  refine hsp ?_
  show wpAny _ _ (callSpecialUnlessNone? (.ref a) "__contains__" [v] _ >>= fun r => _) _ _ s
  refine wpAny_bind ?_
  unfold callSpecialUnlessNone?
  refine hsp ?_
  show wpAny _ _ (holding [.ref a, v] (bindSpecial (.ref f) (.ref a) >>= fun p => _)) _ _ s
  refine wpAny_holding (wpAny_bind ((PySem.W.bind_fn I.kIn _ hf).here ?_))
  show wpAny _ _ (call (.ref f) [.ref a, v] >>= fun r => pure (some r)) _ _ s
  refine wpAny_bind (wpAny_mono (run_fn (us := [.ref a, v]) F hr hb .nil hx I (.cons (show RelV (.ref a) (Value.ref a) from rfl) (.cons rx .nil)) h) (fun r s' q => ?_) fun _ _ z => z)
  obtain ⟨z, H', I', rz, b, rfl, q⟩ := q
  cases (show r = Value.bool b from rz)
  refine wpAny_pure ?_
  exact wpAny_truthy_bool ⟨H', I', q⟩
theorem op_inOwn {X : Cx} {CX : CXT} {C f : Addr} {fd : FuncData} {ps : List Str} {k : Nat} {sp : Sp} {E : XK} (hs : PySem.W.findIn X.K (.ref C) "__contains__" = some (some (.ref f))) (hf : PySem.W.typeIn X.K (.ref f) = some (.type "function"))
    (F : FnOk X.prog X.w X.K X.mg X.base CX k f fd ps sp) (hr : Room k X.A) (hb : Binds X.K fd ps []) (hx : Passes CX X E) : OpR X (compareOp .In) (rInOwn C sp E) := by
  intro pins s σ H x y v u Q I rx ry h
  obtain ⟨a, dx, fs, rfl, ha, hsp⟩ := h
  cases (show u = Value.ref a from ry)
  show wpAny _ _ (contains (.ref a) v >>= fun b => (pure (Value.bool b) : Sem Value)) _ _ s
  refine wpAny_bind (wpAny_mono (contains_own (Q := fun b H' => Q (.bl b) H') hs hf F hr hb hx I rx ha hsp) (fun b s' q => ?_) fun _ _ z => z)
  obtain ⟨H', I', q⟩ := q
  exact wpAny_pure ⟨.bl b, H', I', rfl, q⟩
/-- a method; a special method; an __init__; an __init__ with a star -/
def DfM (P : Program) (w : World) (K : PySem.W.Frag) (mg : Str → Option Value) (base : Heap) (C : Addr) (m : Str) (ps : List Str) (k : Nat) (sp : Sp) : Prop :=
  ∃ (f : Addr) (fd : FuncData), Meth K C m f ∧ Binds K fd ps [] ∧ FnOk P w K mg base CX0 k f fd ps sp
def DfC (P : Program) (w : World) (K : PySem.W.Frag) (mg : Str → Option Value) (base : Heap) (C : Addr) (m : Str) (ps : List Str) (k : Nat) (sp : Sp) : Prop :=
  ∃ (f : Addr) (fd : FuncData), PySem.W.findIn K (.ref C) m = some (some (.ref f)) ∧ PySem.W.typeIn K (.ref f) = some (.type "function") ∧ Binds K fd ps [] ∧ FnOk P w K mg base CX0 k f fd ps sp
def DfI (P : Program) (w : World) (K : PySem.W.Frag) (mg : Str → Option Value) (base : Heap) (x : Str) (C : Addr) (ps : List Str) (k : Nat) (sp : Sp) : Prop :=
  ∃ (f : Addr) (fd : FuncData), Mk K C f ∧ mg x = some (.ref C) ∧ Binds K fd ps [] ∧ FnOk P w K mg base CX0 k f fd ps sp
def DfS (P : Program) (w : World) (K : PySem.W.Frag) (mg : Str → Option Value) (base : Heap) (x : Str) (C : Addr) (k : Nat) (sp : Sp) : Prop :=
  ∃ f : Addr, Mk K C f ∧ mg x = some (.ref C) ∧ FnR P w K mg base CX0 k f sp
section
variable {X : Cx} {k : Nat} {ps : List Str} {sp : Sp} {C : Addr} {x m : Str} {p pos apos : Pos} {o e : Expr} {es : List Expr} {t : TA} {ta : TE}
theorem pe_mk (D : DfI X.prog X.w X.K X.mg X.base x C ps k sp) (hr : Room (k + 1) X.A) (hg : Gl X x) (ha : PA X (e :: es) t) (hdb : (x == ("__debug__" : Str)) = false := by decide)
    (he : starEach (e :: es) X.env = (false, eval e X.env) :: starEach es X.env := by rfl) (hpl : (backTo pos (starEach es X.env)).any (·.1) = false := by rfl) : PE X (.Call (.Name x p) (e :: es) [] pos) (tMake C sp [] E0 t) := by
  obtain ⟨f, fd, M, hm, hb, F⟩ := D
  exact pe_make M F hr hg hm hb .nil pass0 ha hdb he hpl
theorem pe_mkS (D : DfS X.prog X.w X.K X.mg X.base x C k sp) (hr : Room (k + 1) X.A) (hg : Gl X x) (ha : PA X (e :: es) t) (hdb : (x == ("__debug__" : Str)) = false := by decide)
    (he : starEach (e :: es) X.env = (false, eval e X.env) :: starEach es X.env := by rfl) (hpl : (backTo pos (starEach es X.env)).any (·.1) = false := by rfl) : PE X (.Call (.Name x p) (e :: es) [] pos) (tMakeR C sp E0 t) := by
  obtain ⟨f, M, hm, F⟩ := D
  exact pe_makeR M F hr hg hm pass0 ha hdb he hpl
theorem pe_mth0 {pl : Sem Bool} (c : Cls X.K C) (D : DfM X.prog X.w X.K X.mg X.base C m ps k sp) (hr : Room k X.A) (he : PE X o ta)
    (ht : eval (.Call (.Attribute o m apos) [] [] pos) X.env = (do let ov ← eval o X.env; standAt apos.atName; let (f, first) ← holding [ov] (getMethod ov m pl); callWith pos f first (backTo pos (starEach [] X.env)) (backToKw pos (keywordEach [] X.env))) := by rfl) :
    PE X (.Call (.Attribute o m apos) [] [] pos) (tMeth C m sp [] E0 ta tNil) := by
  obtain ⟨f, fd, hm, hb, F⟩ := D
  exact pe_meth0 he c hm F hr hb .nil pass0 ht
theorem pe_mth {pl : Sem Bool} (c : Cls X.K C) (D : DfM X.prog X.w X.K X.mg X.base C m ps k sp) (hr : Room k X.A) (he : PE X o ta) (ha : PA X (e :: es) t)
    (hst : starEach (e :: es) X.env = (false, eval e X.env) :: starEach es X.env := by rfl) (hpl : (backTo pos (starEach es X.env)).any (·.1) = false := by rfl)
    (ht : eval (.Call (.Attribute o m apos) (e :: es) [] pos) X.env = (do let ov ← eval o X.env; standAt apos.atName; let (f, first) ← holding [ov] (getMethod ov m pl); callWith pos f first (backTo pos (starEach (e :: es) X.env)) (backToKw pos (keywordEach [] X.env))) := by rfl) :
    PE X (.Call (.Attribute o m apos) (e :: es) [] pos) (tMeth C m sp [] E0 ta t) := by
  obtain ⟨f, fd, hm, hb, F⟩ := D
  exact pe_meth he c hm F hr hb .nil pass0 ha hst hpl ht
theorem op_in_df (D : DfC X.prog X.w X.K X.mg X.base C "__contains__" ps k sp) (hr : Room k X.A) : OpR X (compareOp .In) (rInOwn C sp E0) := by
  obtain ⟨f, fd, h1, h2, hb, F⟩ := D
  exact op_inOwn h1 h2 F hr hb pass0
end
end Kz
namespace Kz
open PySem PySem.Spec PyProof.Rows L2 Evl StX
/-! ### own exceptions: made and raised, passed on, caught, asked -/
/-- class C, named x, whose own __init__ keeps sp -/
structure XIn (K : PySem.W.Frag) (C : Addr) : Prop where
  o : OexC K C
  x : XfC K C
  h : (PySem.W.clsIn K C).isSome = true
  a : PySem.W.findIn K (.ref C) "__class__" = some (some (.builtin "object.__class__"))
  n : PySem.W.specialIn K (.builtin "object.__class__") "__get__" = some (some (.builtin "getset_descriptor.__get__"))
  t : PySem.W.takesIn K (.builtin "object.__class__") = some true
  m : PySem.W.mroIn K C (.type "object") = some true
  s : PySem.W.exmOne K (.ref C) (.ref C) = some true
def DfX (P : Program) (w : World) (K : PySem.W.Frag) (mg : Str → Option Value) (base : Heap) (x : Str) (C : Addr) (ps : List Str) (k : Nat) (sp : Sp) : Prop :=
  ∃ (f : Addr) (fd : FuncData), OexC K C ∧ PySem.W.findIn K (.ref C) "__init__" = some (some (.ref f)) ∧ PySem.W.typeIn K (.ref f) = some (.type "function") ∧ mg x = some (.ref C) ∧ Binds K fd ps [] ∧ FnOk P w K mg base CX0 k f fd ps sp
/-- an own class whose starred __init__ may raise -/
def DfSX (P : Program) (w : World) (K : PySem.W.Frag) (mg : Str → Option Value) (base : Heap) (x : Str) (C : Addr) (k : Nat) (sp : Sp) : Prop :=
  ∃ f : Addr, Mk K C f ∧ mg x = some (.ref C) ∧ FnR P w K mg base (L2.CX P w) k f sp
/-- a def that may raise -/
def DfR (P : Program) (w : World) (K : PySem.W.Frag) (mg : Str → Option Value) (base : Heap) (x : Str) (ps : List Str) (k : Nat) (sp : Sp) : Prop :=
  ∃ (f : Addr) (fd : FuncData), mg x = some (.ref f) ∧ PySem.W.keepIn K (.ref f) = true ∧ Binds K fd ps [] ∧ FnOk P w K mg base (L2.CX P w) k f fd ps sp
section
variable {X : Cx} {k : Nat} {ps : List Str} {sp : Sp} {C : Addr} {x : Str} {p pos pos2 : Pos} {e : Expr} {es : List Expr} {t : TA} {W : WX}
theorem ps_raiseX (D : DfX X.prog X.w X.K X.mg X.base x C ps k sp) (hr : Room (k + 1) X.A) (hg : Gl X x) (hc : X.calm = true) (tk : Takes X W) (ha : PA X (e :: es) t) (hdb : (x == ("__debug__" : Str)) = false := by decide)
    (he : starEach (e :: es) X.env = (false, eval e X.env) :: starEach es X.env := by rfl) (hpl : (backTo pos (starEach es X.env)).any (·.1) = false := by rfl) :
    PS X (.Raise (some (.Call (.Name x p) (e :: es) [] pos)) none pos2) (fun _ σ H => tMkO C sp [] t σ H fun cls d H' => W cls d σ H') := by
  obtain ⟨f, fd, h1, h2, h3, h4, h5, F⟩ := D
  exact ps_raise hc tk (pmk_oex h1 h2 h3 F hr h5 .nil pass0 hg h4 ha hdb he hpl)
theorem pe_mkSX {E : XK} (D : DfSX X.prog X.w X.K X.mg X.base x C k sp) (hr : Room (k + 1) X.A) (hg : Gl X x) (tk : Takes X (fun cls d _ H => E cls d H)) (ha : PA X (e :: es) t) (hdb : (x == ("__debug__" : Str)) = false := by decide)
    (he : starEach (e :: es) X.env = (false, eval e X.env) :: starEach es X.env := by rfl) (hpl : (backTo pos (starEach es X.env)).any (·.1) = false := by rfl) : PE X (.Call (.Name x p) (e :: es) [] pos) (tMakeR C sp E t) := by
  obtain ⟨f, M, hm, F⟩ := D
  exact pe_makeR M F hr hg hm (passes_call tk fun _ _ _ _ h => h) ha hdb he hpl
theorem pe_mkSX0 {E : XK} (D : DfSX X.prog X.w X.K X.mg X.base x C k sp) (hr : Room (k + 1) X.A) (hg : Gl X x) (tk : Takes X (fun cls d _ H => E cls d H)) (hdb : (x == ("__debug__" : Str)) = false := by decide) :
    PE X (.Call (.Name x p) [] [] pos) (tMakeR C sp E tNil) := by
  obtain ⟨f, M, hm, F⟩ := D
  refine ⟨fun pins s σ H Q I h => wpAny_Call_Name_kw (ld_glob I hg hm (PySem.W.callWith_K0 I.kIn M.kp (run_makeR (us := []) M F hr (passes_call tk fun _ _ _ _ h => h) I .nil h)) hdb)⟩
theorem pe_dfR (D : DfR X.prog X.w X.K X.mg X.base x ps k sp) (hr : Room k X.A) (hg : Gl X x) (tk : Takes X W) (ha : PA X (e :: es) t) (hdb : (x == ("__debug__" : Str)) = false := by decide)
    (he : starEach (e :: es) X.env = (false, eval e X.env) :: starEach es X.env := by rfl) (hpl : (backTo pos (starEach es X.env)).any (·.1) = false := by rfl) : PE X (.Call (.Name x p) (e :: es) [] pos) (tCallS sp (WE W) t) := by
  obtain ⟨f, fd, hm, hk, hb, F⟩ := D
  exact pe_callS F hr hg hm hk hb (fun σ => passAt tk σ) ha hdb he hpl
end
/-- an __init__ that keeps its one argument at the field f -/
def spXI (C : Addr) (f : Str) : Sp := fun vs H Q _ => ∃ (a : Addr) (v : V), vs = [.ref a, v] ∧ H a = some (exo a C none) ∧ ∀ dx, H dx = none → dx ≠ a → Q .non (upd (upd H dx (exd dx [(f, v)])) a (exo a C (some dx)))
theorem mkX {C : Addr} {f : Str} {σ : L2.St} {H : Hp} {te : TE} {v : V} {Q : XK} (h : Ev te σ H v) (q : ∀ d H1, H d = none → Ex H H1 → H1 d = some (.xd [(f, v)]) → Q (.ref C) (some d) H1) : tMkO C (spXI C f) [] (tCons te tNil) σ H Q :=
  h H (Ex.refl _) _ fun H1 e1 => ⟨by simp, fun a ha => ⟨a, v, rfl, upd_same, fun dx hdx hne => by
    have hd1 : H1 dx = none := by
      rw [upd_ne hne] at hdx
      exact hdx
    refine ⟨rfl, dx, _, upd_same, by rw [upd_ne hne, upd_same], hd1, q dx _ (fresh_back e1 hd1) (e1.trans fun b o hb => ?_) upd_same⟩
    have nb : b ≠ dx := ne_of_none hb hd1
    have na : b ≠ a := ne_of_none hb ha
    rw [upd_ne nb, del_ne na, upd_ne na, upd_ne nb, upd_ne na]
    exact hb⟩⟩

/-! a def that is called with the caught exception -/
open L2H in
structure FnE (P : Program) (w : World) (K : PySem.W.Frag) (mg : Str → Option Value) (base : Heap) (k : Nat) (f : Addr) (fd : FuncData) (ps : List Str) (sp : Addr → Value → Option Addr → Sp) : Prop where
  len : ∀ a c d vs H Q E, sp a c d vs H Q E → vs.length = ps.length
  run : ∀ (a : Addr) (oe : Obj) (c : Value) (d : Option Addr), Zc c d oe → (∃ vs, oe.data = .fields vs) → ∀ (A : Around) (outer : List Env) (s : Shared) (H : Hp), RoomH k A → PinOk outer H s (a, oe) → Env0 P w K mg base A outer s H →
    ∀ (args : Args) (us : List Value) (vs : List V) (Q : VK) (E : XK), BindsTo s fd args (ps.zip us) → Vals vs us → sp a c d vs H Q E → codeAny (model P w) A (.call (.ref f) args) (CR CX0 outer P w H s Q E) s
def DfE (P : Program) (w : World) (K : PySem.W.Frag) (mg : Str → Option Value) (base : Heap) (x : Str) (ps : List Str) (k : Nat) (sp : Addr → Value → Option Addr → Sp) : Prop :=
  ∃ (f : Addr) (fd : FuncData), mg x = some (.ref f) ∧ PySem.W.keepIn K (.ref f) = true ∧ Binds K fd ps [] ∧ FnE P w K mg base k f fd ps sp
open L2H in
theorem Fun.okE {P : Program} {w : World} {K : PySem.W.Frag} {mg : Str → Option Value} {base : Heap} {x qual : Str} {st : Stmt} {f : Addr} {fd : FuncData} {N ps : List Str} {k : Nat} {sp : Addr → Value → Option Addr → Sp}
    (F : Fun K x qual st f fd) (S : FnScope N ps (defScope st)) (len : ∀ a c d vs H Q E, sp a c d vs H Q E → vs.length = ps.length)
    (walk : ∀ (a : Addr) (oe : Obj) (c : Value) (d : Option Addr), Zc c d oe → (∃ vs, oe.data = .fields vs) → ∀ (cdv : Value) (A : Around) (outer : List Env) (s : Shared) (H : Hp) (vs : List V) (Q : VK) (E : XK),
      RoomH k (A.deeper (envOfC qual (defScope st) s.heap.objs.size f cdv)) → sp a c d vs H Q E →
      ∃ t, PSs (cxH CX0 P w K mg base N qual (defScope st) f cdv A outer s H E (a, oe)) (defBody st) t ∧ t { nx := fun _ H' => Q .non H', rt := Q } (L2.start N vs) H) :
    FnE P w K mg base (k + 1) f fd ps sp := by
  obtain ⟨oc, od, kV, doc, pm, an, cdv, ct, osl, rfl, lk, hcd⟩ := F.ex
  refine ⟨len, ?_⟩
  intro a oe c d hz hf A outer s H hr pin e0 args us vs Q E hb r h
  have inn : K.In s.heap := e0.mod.kin.keeps fun b o z => (e0.bs b o z).1
  have nol : s.heap.NoLimit := e0.mod.nolimit.keeps fun b o z => (e0.bs b o z).1
  refine codeAny_call_function hr.depth (inn _ _ lk) rfl S.co S.gen rfl (PySem.W.codeRec_of inn hcd) (hb _ _ _ _ (wpAny_newFunctionEnv_cells S.kind ?_ ?_))
  · rintro ⟨n, v⟩ hy
    exact (S.par n (List.of_mem_zip hy).1).imp id fun q => ⟨q, PySem.W.cellsFrom_some _ _ _ (.inl q)⟩
  · rintro env rfl s1 ic
    refine ⟨nol.keeps ic.toInCall.keep, codeAny_func ?_⟩
    obtain ⟨t, ht, hq⟩ := walk a oe c d hz hf cdv A outer s H vs Q E (hr.deeper _) h
    have J0 := inv_startH (CX := CX0) (P := P) (w := w) (mg := mg) (base := base) (f := f) (E := E) S pin e0 (len _ _ _ _ _ _ _ h) r ic
    refine wpAny_mono (ht.run [] s1 _ H _ J0 hq) (fun fl s' z => ?_) fun er s' z => z
    match fl, z with
    | .ret u, z =>
      obtain ⟨v, σ', H', J, rv, q⟩ := z
      exact ⟨v, H', J.os, J.bare, J.base, J.hok, rv, q⟩
    | .next, z =>
      obtain ⟨σ', H', J, q⟩ := z
      exact ⟨V.non, H', J.os, J.bare, J.base, J.hok, rfl, q⟩
    | .brk, z => exact z.elim fun _ z => z.elim fun _ z => z.2.elim
    | .cont, z => exact z.elim fun _ z => z.elim fun _ z => z.2.elim
open L2H in
theorem pe_dfE {X : Cx} {k : Nat} {ps : List Str} {sp : Addr → Value → Option Addr → Sp} {x : Str} {p pos : Pos} {e : Expr} {es : List Expr} {t : TA} {a : Addr} {oe : Obj} {c : Value} {d : Option Addr} (D : DfE X.prog X.w X.K X.mg X.base x ps k sp) (hr : RoomH k X.A) (hg : Gl X x)
    (hp : (a, oe) ∈ X.pn) (hz : Zc c d oe) (hf : ∃ vs, oe.data = .fields vs) (ha : PA X (e :: es) t) (hdb : (x == ("__debug__" : Str)) = false := by decide)
    (he : starEach (e :: es) X.env = (false, eval e X.env) :: starEach es X.env := by rfl) (hpl : (backTo pos (starEach es X.env)).any (·.1) = false := by rfl) :
    PE X (.Call (.Name x p) (e :: es) [] pos) (tCall (sp a c d) [] E0 t) := by
  obtain ⟨f, fd, hm, hk, hb, F⟩ := D
  refine ⟨fun pins s σ H Q I h => wpAny_Call_Name_kw (ld_glob I hg hm ?_ hdb)⟩
  refine PySem.W.callWith_K (h₀ := X.base) I.ok.mod.kin hk (thn (ha.run pos pins s σ H _ I h) ?_) he hpl
  rintro us s1 ⟨vs, H1, J, r, q⟩
  refine ⟨J.kIn, ?_⟩
  rw [List.append_nil] at q
  have b := hb s1 us J.kIn (by rw [List.append_nil, ← r.length]; exact F.len _ _ _ _ _ _ _ q)
  rw [List.append_nil] at b
  obtain ⟨g1, g2, g3, g4, g5⟩ := J.pin (a, oe) (List.mem_append_left _ hp)
  refine wpAny_call (codeAny_mono (F.run a oe c d hz hf X.A X.stack s1 H1 hr ⟨g1, g2, fun hm => (List.mem_cons.mp (J.stkSub a hm)).elim g3 g4, g5⟩ J.env0 ⟨us, []⟩ us vs Q E0 b r q) fun z s' hq => ?_)
  match z, hq with
  | .error er, hq => exact hq.elim
  | .ok (.ret u), hq => exact J.after hq
  | .ok .next, hq => exact hq.elim
  | .ok .brk, hq => exact hq.elim
  | .ok .cont, hq => exact hq.elim
open L2H in
theorem roomS {X : Cx} {k : Nat} {a : Addr} {pn : List (Addr × Obj)} (hr : Room k X.A) : RoomH k (X.suite a pn).A := ⟨hr.dp, hr.un⟩
/-- isinstance(e, c), isinstance(e, (c1, ..)) of the exception that is held -/
def rXo (K : PySem.W.Frag) (a : Addr) (cls : Value) (d : Option Addr) : List V → Hp → VK → Prop := fun xs H Q => ∃ (D dd : Addr) (fs : List (Str × V)), cls = .ref D ∧ d = some dd ∧ H dd = some (.xd fs) ∧ XIn K D ∧
  ((∃ (c : V) (u : Value) (b : Bool), xs = [.ref a, c] ∧ ClsV c u ∧ PySem.W.kitOne K cls u = some b ∧ Q (.bl b) H) ∨
   (∃ (tp : Addr) (cs : List V) (us : List Value) (b : Bool), xs = [.ref a, .ref tp] ∧ H tp = some (.tup cs) ∧ Paired ClsV cs us ∧ PySem.W.kitAny K cls us = some b ∧ Q (.bl b) H))
theorem call_isX {X : Cx} {a : Addr} {oe : Obj} {c : Value} {d : Option Addr} (hp : (a, oe) ∈ X.pn) (hz : Zc c d oe) (hf : ∃ vs, oe.data = .fields vs) : CallR X (.builtin "isinstance") (rXo X.K a c d) := by
  intro pins s σ H xs us Q I r h
  obtain ⟨D, dd, fs, rfl, rfl, hd, T, h⟩ := h
  obtain ⟨g1, _⟩ := I.pin (a, oe) (List.mem_append_left _ hp)
  obtain ⟨mA, hns, _⟩ := (show ObjOk X.prog X.w H s.heap dd (.xd fs) from I.hok dd _ hd)
  obtain ⟨od, ho, _⟩ := lookIn_ns hns
  have J : PySem.W.InstAt s.heap a oe D (some od) := ⟨g1, hz.1, by
    obtain ⟨vs, e⟩ := hf
    unfold PySem.W.notCls
    rw [e] <;> rfl, by rw [hz.2]; exact ho⟩
  have Z := PySem.W.kitx_exc (x := a) (ox := oe) (od := some od) T.h T.x.ga T.x.gg T.x.exC T.a T.n T.t T.m
  rcases h with ⟨cc, u, b, rfl, k, e, q⟩ | ⟨tp, cs, ws, b, rfl, hT, k, e, q⟩
  · obtain ⟨u1, u2, rfl, r1, r2⟩ := vals2 r
    cases (show u1 = Value.ref a from r1)
    cases k.eq r2
    exact PySem.W.kia_one Z I.kIn J e (fun z => nomatch z) fun tk => ⟨.bl b, H, I.tok tk, rfl, q⟩
  · obtain ⟨u1, u2, rfl, r1, r2⟩ := vals2 r
    cases (show u1 = Value.ref a from r1)
    cases (show u2 = Value.ref tp from r2)
    obtain ⟨_, its, rv, o, h1, h2, n, h3⟩ := (show ObjOk X.prog X.w H s.heap tp (.tup cs) from I.hok tp _ hT)
    cases ClsV.all k rv
    obtain ⟨oc, od2, dt, sl⟩ := o
    simp only at h2 h3
    subst h2 h3
    exact PySem.W.kia_tup Z I.kIn J h1 e (fun z => nomatch z) fun tk => ⟨.bl b, H, I.tok tk, rfl, q⟩
theorem ev_xoT {K : PySem.W.Frag} {σ : L2.St} {H : Hp} {i : Nat} {a D dd : Addr} {fs : List (Str × V)} {cs : List V} {us : List Value} {b : Bool} {tb : TE} (T : XIn K D) (hi : σ[i]? = some (some (.ref a))) (hh : H dd = some (.xd fs)) (hb : EvU tb σ H cs) (hp : Paired ClsV cs us) (hk : PySem.W.kitAny K (.ref D) us = some b) :
    Ev (tCB (rXo K a (.ref D) (some dd)) (tCons (tVar i) (tCons tb tNil))) σ H (.bl b) := fun H1 e Q q =>
  ⟨_, hi, hb H1 e _ fun p H2 hp2 e2 h2 => ⟨D, dd, fs, rfl, rfl, e2 _ _ (e _ _ hh), T, .inr ⟨p, cs, us, b, rfl, h2, hp, hk, q H2 e2⟩⟩⟩
theorem ev_xo1 {K : PySem.W.Frag} {σ : L2.St} {H : Hp} {i : Nat} {a D dd : Addr} {fs : List (Str × V)} {c : V} {u : Value} {b : Bool} {tb : TE} (T : XIn K D) (hi : σ[i]? = some (some (.ref a))) (hh : H dd = some (.xd fs)) (hb : Ev tb σ H c) (hp : ClsV c u) (hk : PySem.W.kitOne K (.ref D) u = some b) :
    Ev (tCB (rXo K a (.ref D) (some dd)) (tCons (tVar i) (tCons tb tNil))) σ H (.bl b) := fun H1 e Q q =>
  ⟨_, hi, hb H1 e _ fun H2 e2 => ⟨D, dd, fs, rfl, rfl, e2 _ _ (e _ _ hh), T, .inl ⟨c, u, b, rfl, hp, hk, q H2 e2⟩⟩⟩
theorem ev_xf {σ : L2.St} {H : Hp} {i : Nat} {a C dd : Addr} {fs : List (Str × V)} {f : Str} {v : V} (hi : σ[i]? = some (some (.ref a))) (hh : H dd = some (.xd fs)) (hl : fs.lookup f = some v) : Ev (tXf a (.ref C) (some dd) C f (tVar i)) σ H v := fun H1 e Q q =>
  ⟨_, hi, rfl, rfl, dd, fs, v, rfl, e _ _ hh, hl, q H1 (Ex.refl _)⟩
end Kz
namespace Kz
open PySem PySem.Spec PyProof.Rows L2
/-! ### a set of texts: what it holds -/
def keyT (e : Int × Value) : Str := match e.2 with
  | .str k _ => k
  | _ => Str.empty
def GdT (w : World) (e : Int × Value) : Prop := ∃ (k : Str) (tk : Tok), e = (hashStr w k, Value.str k tk)
structure TSet (w : World) (es : Array (Int × Value)) (t : SetTable) (ks : List Str) : Prop where
  good : ∀ e ∈ es.toList, GdT w e
  nd : (es.toList.map keyT).Nodup
  mem : ∀ k, k ∈ es.toList.map keyT ↔ k ∈ ks
  le : es.size ≤ ks.length
  fits : t.fits es.size = true
  ris : Ris t.place.toList
  led : w.params.followText "set-order" = true ∨ t.led = true
def SetTx (w : World) (h : Heap) (a : Addr) (ks : List Str) : Prop := ∃ (o : Obj) (es : Array (Int × Value)) (ep : Nat) (t : SetTable), h.get? a = some o ∧ o.ExactSet ∧ o.data = .set es ep t ∧ TSet w es t ks
section
variable {P : Program} {w : World}
theorem gd_elems {l : List (Int × Value)} (g : ∀ e ∈ l, GdT w e) : ElemsOf (PySem.strKind P w) l := fun e he => by
  obtain ⟨k, tk, rfl⟩ := g e he
  exact ⟨⟨k, strKind_is P w k tk, rfl⟩, rfl⟩
theorem gd_is {e : Int × Value} (g : GdT w e) (k : Str) : (PySem.strKind P w).is k e.2 = true ↔ keyT e = k := by
  obtain ⟨k0, tk, rfl⟩ := g
  constructor
  · intro h
    have h' : Value.isStrOf k (.str k0 tk) = true := h
    obtain ⟨t, ht⟩ := Value.isStrOf_shape h'
    injection ht with h1 h2
  · intro h
    have h' : k0 = k := h
    rw [← h']
    exact strKind_is P w k0 tk
end
section
variable {P : Program} {w : World} {A : Around} {E : Value → Shared → Prop} {s : Shared} {a : Addr} {ks : List Str}
theorem SetTx.keep {h h' : Heap} (R : SetTx w h a ks) (k : ∀ o, h.get? a = some o → h'.get? a = some o) : SetTx w h' a ks :=
  let ⟨o, es, ep, t, ho, r⟩ := R
  ⟨o, es, ep, t, k o ho, r⟩
theorem tx_found {es : Array (Int × Value)} {t : SetTable} (T : TSet w es t ks) {k : Str} (h : k ∈ es.toList.map keyT) : TSet w es t (ks ++ [k]) :=
  { T with
    mem := fun i => by
      rw [T.mem i, List.mem_append, List.mem_singleton]
      exact ⟨.inl, fun z => z.elim id fun e => e ▸ (T.mem k).mp h⟩
    le := by
      rw [List.length_append]
      exact Nat.le_add_right_of_le T.le }
/-- the last steps of an add: stored, and laid anew where the table is too full -/
theorem tx_tail {g : Bool → Sem Unit} (hg : ∀ (b : Bool) (s₁ : Shared) (Q' : Unit → Shared → Prop), Q' () s₁ → wpAny (model P w) A (g b) Q' E s₁) {o : Obj} {es : Array (Int × Value)} {ep : Nat} {t : SetTable} (ho : s.heap.get? a = some o) (hx : o.ExactSet) (hd : o.data = .set es ep t)
    {es1 : Array (Int × Value)} {t2 : SetTable} (T : TSet w es1 t2 ks) (hk : ks.length < scanBound) {dummy : Bool} {R : Option Bool → Shared → Prop} (hR : ∀ h', Heap.SameBut a s.heap h' → SetTx w h' a ks → R (some true) { s with heap := h' }) :
    wpAny (model P w) A (storeSet a es1 t2 >>= fun _ =>
      if (!dummy && t2.tooFull) = true then g (relayAll t2 es1 (SetTable.grown es1.size)).2.2 >>= fun _ => storeSet a (relayAll t2 es1 (SetTable.grown es1.size)).1 (relayAll t2 es1 (SetTable.grown es1.size)).2.1 >>= fun _ => pure (some true)
      else pure (some true)) R E s := by
  have hb : es1.size < scanBound := Nat.lt_of_le_of_lt T.le hk
  refine wpAny_bind (wpAny_storeSet_of ho hd ?_ (fits_of_scanBound hb))
  have ho1 := store_at (es' := es1) (t' := t2) ho hd
  have same1 := Heap.SameBut.update s.heap a (Obj.putSet es1 t2)
  by_cases hc : (!dummy && t2.tooFull) = true
  · rw [if_pos hc]
    have p1 := relayAll_perm t2 es1 (SetTable.grown es1.size)
    have p2 := relayAll_fits t2 es1 (SetTable.grown es1.size)
    have p3 := relayAll_ris t2 es1 (SetTable.grown es1.size)
    have p4 := relayAll_led t2 es1 (SetTable.grown es1.size)
    generalize relayAll t2 es1 (SetTable.grown es1.size) = Z at p1 p2 p3 p4 ⊢
    have hsz : Z.1.size = es1.size := by
      have := p1.length_eq
      simpa using this
    refine wpAny_bind (hg _ _ _ (wpAny_bind (wpAny_storeSet_of ho1 rfl ?_ (fits_of_scanBound (by rw [hsz]; exact hb)))))
    have ho2 := store_at (es' := Z.1) (t' := Z.2.1) ho1 rfl
    exact wpAny_pure (hR _ (same1.trans (Heap.SameBut.update _ a _)) ⟨_, Z.1, _, Z.2.1, ho2, hx, rfl, {
      good := fun e he => T.good e (p1.mem_iff.mp he)
      nd := (p1.map keyT).nodup_iff.mpr T.nd
      mem := fun k => (p1.map keyT).mem_iff.trans (T.mem k)
      le := by rw [hsz]; exact T.le
      fits := p2
      ris := p3
      led := T.led.imp id fun z => by rw [p4]; exact z }⟩)
  · rw [if_neg hc]
    exact wpAny_pure (hR _ same1 ⟨_, es1, _, t2, ho1, hx, rfl, T⟩)
/-- a text added -/
theorem tx_add {k : Str} {tk : Tok} {Q : Bool → Shared → Prop} (R : SetTx w s.heap a ks) (room : ks.length + 1 < scanBound) (hQ : ∀ b h', Heap.SameBut a s.heap h' → SetTx w h' a (ks ++ [k]) → Q b { s with heap := h' }) :
    wpAny (model P w) A (setAddHashed a (.str k tk) (hashStr w k)) Q E s := by
  obtain ⟨o, es, ep, t, ho, hx, hd, T⟩ := R
  have isk : (PySem.strKind P w).is k (.str k tk) = true := strKind_is P w k tk
  have scn : (Value.str k tk).scannable = true := rfl
  have els : ElemsOf (PySem.strKind P w) es.toList := gd_elems T.good
  have hb : es.size < scanBound := by have := T.le; omega
  unfold setAddHashed setAddHashedIn
  refine wpAny_holding (wpAny_bind (wpAny_setState_of ho hd T.fits ?_))
  dsimp only
  rw [byScan_of scn hb els]
  simp only [↓reduceIte]
  unfold setAddByScan
  refine wpAny_bind (wpAny_bind (wpAny_rule (wpAny_bind (wpAny_setScan_of (knd := PySem.strKind P w) isk ho hd T.fits els ?_))))
  cases hf : List.findIdx? (fun e => (PySem.strKind P w).is k e.2) es.toList with
  | some j =>
    dsimp only
    obtain ⟨hj, pj, _⟩ := List.findIdx?_eq_some_iff_getElem.mp hf
    have hm : k ∈ es.toList.map keyT := List.mem_map.mpr ⟨_, List.getElem_mem hj, (gd_is (P := P) (T.good _ (List.getElem_mem hj)) k).mp pj⟩
    exact wpAny_pure (wpAny_pure (hQ _ s.heap (Heap.SameBut.refl a s.heap) ⟨o, es, ep, t, ho, hx, hd, tx_found T hm⟩))
  | none =>
    dsimp only
    have hno : k ∉ es.toList.map keyT := fun z => by
      obtain ⟨e, he, q⟩ := List.mem_map.mp z
      have c := List.findIdx?_eq_none_iff.mp hf e he
      rw [(gd_is (P := P) (T.good e he) k).mpr q] at c
      cases c
    have p1 := layNew_perm t es (hashStr w k) (.str k tk)
    have p2 := layNew_fits t es (hashStr w k) (.str k tk)
    have p3 := layNew_ris t es (hashStr w k) (.str k tk) T.ris
    have p4 := layNew_led t es (hashStr w k) (.str k tk)
    have pass : ∀ (b : Bool) {s₁ : Shared} {Q' : Unit → Shared → Prop}, Q' () s₁ → wpAny (model P w) A (match b with | true => rule "set.scan.the-table-gave-way" | false => pure ()) Q' E s₁ := fun b s₁ Q' q => by
      cases b
      · exact wpAny_pure q
      · exact wpAny_rule q
    generalize layNew t es (hashStr w k) (.str k tk) = Z at p1 p2 p3 p4 ⊢
    obtain ⟨es1, t1, dummy, gave⟩ := Z
    dsimp only at p1 p2 p3 p4 ⊢
    rw [Array.toList_push] at p1
    have pc : es1.toList.Perm ((hashStr w k, Value.str k tk) :: es.toList) := p1.trans (List.perm_append_singleton _ _)
    have pk : (es1.toList.map keyT).Perm (k :: es.toList.map keyT) := pc.map keyT
    have T1 : ∀ t', t'.fits es1.size = true → Ris t'.place.toList → (w.params.followText "set-order" = true ∨ t'.led = true) → TSet w es1 t' (ks ++ [k]) := fun t' h1 h2 h3 => {
      good := fun e he => (List.mem_cons.mp (pc.mem_iff.mp he)).elim (fun z => ⟨k, tk, z⟩) (T.good e)
      nd := pk.nodup_iff.mpr (List.nodup_cons.mpr ⟨hno, T.nd⟩)
      mem := fun i => by
        rw [pk.mem_iff, List.mem_cons, List.mem_append, List.mem_singleton, T.mem i]
        exact Or.comm
      le := by
        have h := pc.length_eq
        rw [Array.length_toList, List.length_cons, Array.length_toList] at h
        rw [List.length_append, List.length_singleton]
        have := T.le
        omega
      fits := h1
      ris := h2
      led := h3 }
    have hled : w.params.followText "set-order" = true ∨ t1.led = true := T.led.imp id fun z => by rw [p4]; exact z
    have hkl : (ks ++ [k]).length < scanBound := by
      rw [List.length_append, List.length_singleton]
      exact room
    refine wpAny_bind (pass _ ?_)
    split
    · refine wpAny_bind ?_
      rw [hashByValue_scannable 8 scn]
      refine wpAny_pure (tx_tail (ks := ks ++ [k]) (fun b s₁ Q' q => by cases b <;> first | exact wpAny_pure q | exact wpAny_rule q) ho hx hd (T1 _ ?_ ?_ ?_) hkl fun h' sb r => ?_)
      · first | (split <;> first | exact p2 | exact SetTable.fits_plain_off p2) | exact p2
      · first | (split <;> exact p3) | exact p3
      · first | (split <;> exact hled) | exact hled
      · dsimp only
        exact wpAny_pure (hQ _ h' sb r)
    · refine wpAny_bind (wpAny_pure ?_)
      simp only [↓reduceIte]
      refine tx_tail (ks := ks ++ [k]) (fun b s₁ Q' q => by cases b <;> first | exact wpAny_pure q | exact wpAny_rule q) ho hx hd (T1 _ p2 p3 hled) hkl fun h' sb r => ?_
      dsimp only
      exact wpAny_pure (hQ _ h' sb r)
/-- walking what is to be added -/
theorem tx_loop {R : Result → Shared → Prop} {I : Addr} {fp wr : List Addr} {G : Array GenState → Array GenState → Prop} {n : Nat} {Pv : Nat → Value → Prop} {St : Nat → Shared → Prop} (W : WalksS P w A.in1 I fp wr G n Pv St) (S : Addr) (hS : S ∉ fp) (xs : List Str) (hn : xs.length = n) (room : n + 1 < scanBound)
    (hval : ∀ i v, Pv i v → ∃ t, v = .str (xs.getD i Str.empty) t) : ∀ (k i : Nat) (s : Shared), n - i = k → i ≤ n → St i s → SetTx w s.heap S (xs.take i) →
      (∀ s', Moved (S :: wr) G s s' → SetTx w s'.heap S xs → R (.ok (.ret .none)) s') → codeAny (model P w) A (.builtin "set.update.loop" ⟨[.ref S, .ref I], []⟩) R s := by
  have hSw : S ∉ wr := fun h => hS (W.sub _ h)
  have more : ∀ b ∈ wr, b ∈ S :: wr := fun b hb => List.mem_cons_of_mem _ hb
  intro k
  induction k with
  | zero =>
    intro i s hk hi st hs hR
    obtain rfl : i = n := by omega
    refine codeAny_builtin PyProof.Rows.F.entry_set_update_loop ?_
    rw [Around.under_plainId PyProof.Rows.F.plain_set_update_loop _]
    show wpAny _ A.in1 (pyNext (.ref I) >>= _) _ _ s
    refine wpAny_bind (W.done s _ _ st fun s' hm => ?_)
    show wpAny _ A.in1 (ret Value.none) _ _ s'
    rw [List.take_of_length_le (by omega)] at hs
    exact wpAny_pure (hR s' (hm.mono more) (hs.keep fun o ho => hm.heap S o hSw ho))
  | succ k ih =>
    intro i s hk hi st hs hR
    have hlt : i < n := by omega
    refine codeAny_builtin PyProof.Rows.F.entry_set_update_loop ?_
    rw [Around.under_plainId PyProof.Rows.F.plain_set_update_loop _]
    show wpAny _ A.in1 (pyNext (.ref I) >>= _) _ _ s
    refine wpAny_bind (W.item i s _ _ hlt st fun v s' hP st' hm => ?_)
    obtain ⟨t, rfl⟩ := hval i v hP
    have hs' : SetTx w s'.heap S (xs.take i) := hs.keep fun o ho => hm.heap S o hSw ho
    have tk1 : xs.take i ++ [xs.getD i Str.empty] = xs.take (i + 1) := by
      rw [List.take_add_one, List.getD_eq_getElem?_getD, List.getElem?_eq_getElem (by omega)]
      rfl
    show wpAny _ A.in1 (holding [Value.str (xs.getD i Str.empty) t] (setAdd S (.str (xs.getD i Str.empty) t)) >>= _) _ _ s'
    refine wpAny_bind (wpAny_holding ?_)
    unfold setAdd
    refine wpAny_holding (wpAny_bind ((PySem.strKind P w).pyHash (k := xs.getD i Str.empty) (strKind_is _ _ _ _) ?_))
    have len : (xs.take i).length + 1 < scanBound := by
      rw [List.length_take]
      omega
    refine tx_add (s := { s' with toks := s'.toks + 1 }) hs' len fun b h' sb r => ?_
    rw [tk1] at r
    refine wpAny_pure ⟨plainId_quiet PyProof.Rows.F.plain_set_update_loop _, ih (i + 1) _ (by omega) hlt (W.frame _ s' _ _ st' (Nat.le_succ _) fun b hb o e => ?_) r fun s'' hm2 hs2 => ?_⟩
    · rw [sb.2 b (fun z => hS (z ▸ hb))]
      exact e
    · refine hR s'' (Moved.trans W.gtrans ((hm.mono more).then_heap (Nat.le_succ _) fun b o hb e => ?_) hm2) hs2
      rw [sb.2 b (fun z => hb (by rw [z]; exact List.mem_cons_self))]
      exact e
/-- sorted(a set of texts) -/
theorem tx_sorted {Q : Value → Shared → Prop} (R : SetTx w s.heap a ks) (hh : A.handled = none) (h64 : ks.length < 64)
    (hQ : ∀ s' p (out : Array Value) (c : Nat) (ys : List Str), (∀ b o, s.heap.get? b = some o → s'.heap.get? b = some o) → s'.gens = s.gens → s'.os = s.os → s.heap.objs.size ≤ p → s'.heap.get? p = some (seqObj "list" out c) →
      StrsAre out.toList ys → sortedS ys = true → ys.Nodup → (∀ k, k ∈ ys ↔ k ∈ ks) → ys.length ≤ ks.length → Q (.ref p) s') : wpAny (model P w) A (call (.builtin "sorted") [.ref a]) Q E s := by
  obtain ⟨o, es, ep, t, ho, hx, hd, T⟩ := R
  have hb : es.size < scanBound := by
    have := T.le
    unfold scanBound
    omega
  refine Calls.call_function_entry kind_sorted plain_sorted entry_sorted (args_sorted1 _) ?_
  unfold Builtin.«sorted»
  refine wpAny_bind (m := checkCount "sorted" 1 1 _) (wpAny_pure ?_)
  refine wpAny_bind (collect_set (A := A.in1) hh ⟨o, ho, hx.1, hd⟩ T.fits hb T.ris T.led fun s1 vs k1 hz g1 o1 pm => ?_)
  have hvl : vs.length = es.size := by rw [pm.length_eq, List.length_map, Array.length_toList]
  have every : ∀ v ∈ vs, ∃ (x : Str) (tk : Tok), v = Value.str x tk := fun v hv => by
    obtain ⟨e, he, q⟩ := List.mem_map.mp (pm.mem_iff.mp hv)
    obtain ⟨k, tk, rfl⟩ := T.good e he
    exact ⟨k, tk, q.symm⟩
  have hS : StrsAre vs (vs.map strOf) := strsAre_map vs every
  have pk : (vs.map strOf).Perm (es.toList.map keyT) := by
    have q := pm.map strOf
    rw [List.map_map] at q
    exact q.trans (List.Perm.of_eq (List.map_congr_left fun e he => by
      obtain ⟨k, tk, rfl⟩ := T.good e he
      rfl))
  have hv64 : vs.length < 64 := by have := T.le; omega
  refine wpAny_bind (wpAny_newList ?_ (by rw [sizeLine_eq]; omega))
  have hL : (s1.heap.push (seqObj "list" vs.toArray 0)).get? s1.heap.objs.size = some (seqObj "list" vs.toArray 0) := Heap.get?_push_size _ rfl
  refine wpAny_bind (wpAny_holding (wpAny_call_entry slot_list_sort ⟨_, hL, rfl⟩ entry_list_sort (list_sort_treeK PyProof.Rows.strKind_oneLt hL hS.keysOf (fun v₁ v₂ rest e => keyKind_strs (by rw [← e]; exact hS)) hv64 fun st' hp hs => ⟨_, rfl, ?_⟩) (args_list_sort _)))
  obtain ⟨ys, y1, y2, y3⟩ := sorted_out_str hS hp hs
  obtain ⟨c, hc⟩ := sortedHeap_at (vs := vs) (out := (arrOf st').map (·.2)) hL
  have py := y2.trans pk
  refine wpAny_pure ⟨_, rfl, hQ _ s1.heap.objs.size _ c ys (fun b u e => ?_) g1 o1 hz hc y1 y3 (py.nodup_iff.mpr T.nd) (fun k => by rw [py.mem_iff, T.mem k]) ?_⟩
  · have q := k1 b u e
    have lt := Heap.lt_size q
    show (sortedHeap (s1.heap.push (seqObj "list" vs.toArray 0)) s1.heap.objs.size vs _).get? b = some u
    rw [sortedHeap_old (Nat.ne_of_lt lt) (by rw [size_push']; exact Nat.lt_succ_of_lt lt)]
    exact Heap.get?_push_of_some _ q
  · rw [py.length_eq, List.length_map, Array.length_toList]
    exact T.le
/-- the empty set that set(..) begins with -/
abbrev newTx (w : World) : Obj := { cls := .type "set", dict := none, data := .set #[] 0 (.fresh 0 0 (!w.params.followText "set-order")) }
theorem tx_fresh {h : Heap} (ho : h.get? a = some (newTx w)) : SetTx w h a [] := ⟨_, #[], 0, _, ho, ⟨rfl, rfl, rfl⟩, rfl, {
  good := fun e he => by simp at he
  nd := by simp
  mem := fun k => by simp
  le := Nat.le_refl _
  fits := rfl
  ris := List.Pairwise.nil
  led := by
    show _ ∨ (!w.params.followText "set-order") = true
    cases w.params.followText "set-order" with
    | true => exact .inl rfl
    | false => exact .inr rfl }⟩
theorem tx_code (x : Value) {Q₁ : Value → Shared → Prop} (h : Q₁ (.ref s.heap.objs.size) { s with heap := s.heap.push (newTx w) }) : codeAny (model P w) A (.call (.builtin "set.__new__") ⟨[.type "set", x], []⟩) (wants Q₁ E) s := by
  refine codeAny_of_tree ?_
  show wpAny _ A.in1 (do checkBuiltinCall "set.__new__" ⟨[.type "set", x], []⟩; again (.builtin "set.__new__" ⟨[.type "set", x], []⟩)) _ _ s
  refine wpAny_bind (wpAny_of_eq (PySem.F.newCall_set_1 x) (wpAny_pure ⟨plainId_quiet F.plain_set_new _, codeAny_builtin F.entry_set_new ?_⟩))
  rw [Around.under_plainId F.plain_set_new _]
  unfold Builtin.«set.__new__» Builtin.Frozenset.newClass
  have sb := sub_set_self
  obtain ⟨hp, g, d, tk, os⟩ := s
  dsimp only
  wp_walk
  refine wpAny_askSetting (wpAny_pure ?_)
  dsimp only
  simp only [newObj]
  exact wpAny_bind (wpAny_alloc (wpAny_pure (wpAny_pure h)))
set_option maxHeartbeats 8000000 in
/-- set(a list of texts) -/
theorem tx_list {l : Addr} {items : Array Value} {xs : List Str} {Q : Value → Shared → Prop} (hh : A.handled = none) (hl : s.heap.IsList l items) (hi : StrsAre items.toList xs) (room : xs.length + 1 < scanBound)
    (h : ∀ (h' : Heap) (tk : Nat), SetTx w h' s.heap.objs.size xs → (∀ b o, s.heap.get? b = some o → h'.get? b = some o) → Q (.ref s.heap.objs.size) { s with heap := h', toks := tk }) : wpAny (model P w) A (call (.type "set") [.ref l]) Q E s := by
  obtain ⟨c, tl, hmro⟩ := PySem.F.called_set.mro
  have hmade := PySem.F.called_set.made
  have hsub := PySem.F.called_set.sub
  refine wpAny_call (codeAny_of_tree ?_)
  show wpAny _ _ (callAny (.type "set") _) _ _ _
  refine wpAny_pure ⟨Code.quiet_builtin _ (by decide +kernel), codeAny_builtin PySem.F.entry_type_call ?_⟩
  rw [Around.under_plain (weight_type_call_type "set" [.ref l] []) rfl]
  have h1 := PySem.F.called_set.notType
  have h2 := PySem.F.called_set.canCreate
  have hct := PySem.F.typeCall_set_1 (.ref l)
  repeat (any_goals (first | assumption | wp_step))
  refine codeAny_mono (tx_code (.ref l) (E := E) (Q₁ := fun obj s₁ => obj = .ref s.heap.objs.size ∧ s₁ = { s with heap := s.heap.push (newTx w) }) ⟨rfl, rfl⟩) fun r s₁ hr => ?_
  match r, hr with
  | .error e, hr => exact hr
  | .ok .next, hr => exact hr.elim
  | .ok .brk, hr => exact hr.elim
  | .ok .cont, hr => exact hr.elim
  | .ok (.ret obj), hr =>
    obtain ⟨rfl, rfl⟩ := hr
    have hS : (s.heap.push (newTx w)).get? s.heap.objs.size = some (newTx w) := Heap.get?_push_size _ rfl
    have hT : Shared.TypeIs { s with heap := s.heap.push (newTx w) } (.ref s.heap.objs.size) "set" := ⟨_, hS, rfl⟩
    have hli := PySem.F.called_set.init.lookup
    have hbi := PySem.F.called_set.init.bind (.ref s.heap.objs.size)
    repeat (any_goals (first | assumption | wp_step))
    refine codeAny_mono (codeAny_call_builtin (R := wants (fun r s₂ => r = .none ∧ ∃ h' tk, s₂ = { s with heap := h', toks := tk } ∧ SetTx w h' s.heap.objs.size xs ∧ (∀ b o, s.heap.get? b = some o → h'.get? b = some o)) E) PySem.F.called_set.init.plain PySem.F.entry_set_init (check_set_init_1 hT ?_)) fun r₂ s₂ hr₂ => ?_
    · obtain ⟨ol, hol, hcl, nl, hdl⟩ := hl
      obtain ⟨oc, od, odt, osl⟩ := ol
      simp only at hcl hdl
      subst hcl hdl
      have hol' : (s.heap.push (newTx w)).get? l = some { cls := .type "list", dict := od, data := .seq items nl, slots := osl } := Heap.get?_push_of_some _ hol
      have n1 := PySem.F.sub_list_set
      have n2 := PySem.F.sub_list_frozenset
      have n3 : (Value.type "list" == Value.type "dict") = false := by decide
      have hl1 : (s.heap.push (newTx w)).IsList l items := ⟨_, hol', rfl, nl, rfl⟩
      unfold Builtin.«set.__init__» noKeywords Builtin.Frozenset.updateFrom
      generalize hPI : pyIter = PI
      wp_walk
      subst hPI
      refine wpAny_pyIter_list hl1 (wpAny_bind (wpAny_runValue ?_))
      have lt := Heap.lt_size hol
      have hz : (s.heap.push (newTx w)).objs.size = s.heap.objs.size + 1 := size_push' _ _
      have hh3 : A.in1.in1.in1.handled = none := by simp [hh]
      have neI : l ≠ (s.heap.push (newTx w)).objs.size := by
        rw [hz]
        exact Nat.ne_of_lt (Nat.lt_succ_of_lt lt)
      have nS : s.heap.objs.size ∉ [(s.heap.push (newTx w)).objs.size, l] := by
        rw [hz]
        simp only [List.mem_cons, List.not_mem_nil, or_false, not_or]
        exact ⟨Nat.ne_of_lt (Nat.lt_succ_self _), Nat.ne_of_gt lt⟩
      have hsz : xs.length = items.size := by rw [← StrsAre.len_eq hi, Array.length_toList]
      refine tx_loop ((Walks.list hh3 _ l neI items).toS) s.heap.objs.size nS xs hsz (by omega) (fun i v hv => SS.strs_at hi i v (by rw [Array.getElem?_toList]; exact hv)) (items.size - 0) 0 _ (by omega) (Nat.zero_le _) ⟨⟨_, Heap.get?_push_size _ rfl, rfl, rfl⟩, (hl1.push _)⟩ ?_ ?_
      · rw [List.take_zero]
        exact tx_fresh (Heap.get?_push_of_some _ hS)
      · intro s' hm hs'
        obtain ⟨h', g', d', tk', os'⟩ := s'
        have eg : g' = s.gens := hm.gens
        have ed : d' = s.drawn := hm.drawn
        have eo : os' = s.os := hm.os
        subst eg ed eo
        show wpAny _ _ _ _ _ _
        refine wpAny_pure ?_
        show wpAny _ _ (ret Value.none) _ _ _
        refine wpAny_pure ⟨rfl, h', tk', rfl, hs', fun b o e => ?_⟩
        have hb := Heap.lt_size e
        exact hm.heap b o (by simp only [List.mem_cons, List.not_mem_nil, or_false, not_or]; exact ⟨Nat.ne_of_lt hb, by rw [size_push']; exact Nat.ne_of_lt (Nat.lt_succ_of_lt hb)⟩) (Heap.get?_push_of_some _ (Heap.get?_push_of_some _ e))
    · match r₂, hr₂ with
      | .error e, hr₂ => exact hr₂
      | .ok .next, hr₂ => exact hr₂.elim
      | .ok .brk, hr₂ => exact hr₂.elim
      | .ok .cont, hr₂ => exact hr₂.elim
      | .ok (.ret r), hr₂ =>
        obtain ⟨rfl, h', tk, rfl, hs', hk'⟩ := hr₂
        repeat (any_goals (first | assumption | wp_step))
        exact h _ _ hs' hk'
end
/-! ### the rules -/
def SetX (w : World) (a : Addr) (ks : List Str) : HO := .ext fun h => SetTx w h a ks
theorem setX_new {P : Program} {w : World} {H : Hp} {h : Heap} {a : Addr} {ks : List Str} (R : SetTx w h a ks) : ObjOk P w H h a (SetX w a ks) := by
  have ⟨o, _, _, _, ho, _⟩ := R
  exact ⟨R, ⟨o, ho⟩, fun h1 h2 p k => p.keep k⟩
/-- set(a list of texts) -/
def rSetTx (K : PySem.W.Frag) (w : World) : List V → Hp → VK → Prop := fun vs H Q => ∃ (l : Addr) (ks : List Str), vs = [.ref l] ∧ SqL K H l (ks.map V.str) ∧ ks.length < 64 ∧ ∀ a, H a = none → Q (.ref a) (upd H a (SetX w a ks))
/-- sorted(a set of texts) -/
def rSortTx (w : World) : List V → Hp → VK → Prop := fun vs H Q => ∃ (a : Addr) (ks : List Str), vs = [.ref a] ∧ H a = some (SetX w a ks) ∧ ks.length < 64 ∧
  ∀ (ys : List Str) (p : Addr), sortedS ys = true → ys.Nodup → (∀ k, k ∈ ys ↔ k ∈ ks) → H p = none → Q (.ref p) (upd H p (.lst (ys.map V.str)))
theorem cr_setTx {X : Cx} (hc : X.calm = true) : CallR X (.type "set") (rSetTx X.K X.w) := by
  intro pins s σ H vs us Q I r h
  obtain ⟨l, ks, rfl, hs, h64, q⟩ := h
  obtain ⟨its, rv, hl, _⟩ := I.list hs
  rw [Vals.ref1 r]
  refine tx_list (I.ok.hd hc) hl.isList rv.strs (by unfold scanBound; omega) fun h' tk R kp => ?_
  have fresh : H s.heap.objs.size = none := I.hok.fresh (Nat.le_refl _)
  exact ⟨.ref _, upd H s.heap.objs.size (SetX X.w s.heap.objs.size ks), I.laid (t' := tk) kp (Nat.le_refl _) (setX_new R), rfl, q _ fresh⟩
theorem cr_sortTx {X : Cx} (hc : X.calm = true) : CallR X (.builtin "sorted") (rSortTx X.w) := by
  intro pins s σ H vs us Q I r h
  obtain ⟨a, ks, rfl, ha, h64, q⟩ := h
  have R : SetTx X.w s.heap a ks := (show ObjOk X.prog X.w H s.heap a (.ext fun h => SetTx X.w h a ks) from I.hok a _ ha).1
  rw [Vals.ref1 r]
  refine tx_sorted R (I.ok.hd hc) h64 fun s' p out c ys k g o hp hg hi hs hn hm hl => ?_
  have small : (ys.map V.str).length ≤ sizeLine := by rw [List.length_map, sizeLine_eq]; omega
  have fresh : H p = none := I.hok.fresh hp
  have J : Inv X pins σ (upd H p (.lst (ys.map V.str))) { s with heap := s'.heap, gens := s'.gens, drawn := s'.drawn, toks := s'.toks } :=
    I.call (ch := []) (Un.laid k hp fresh) (I.hok.laid k hp ⟨small, out.toList, c, vals_of_strs hi, hg⟩) (by rw [g]; exact I.bare) (fun _ z => nomatch z)
  obtain ⟨h1, h2, h3, h4, h5⟩ := s'
  obtain rfl : h5 = s.os := o
  exact ⟨.ref p, _, J, rfl, q ys p hs hn hm fresh⟩
open Evl
/-! ### one sorted list of given texts -/
theorem rising_pw : ∀ (l : List Str) (p : Str), risingS p l = true → (∀ b ∈ l, ltCps b.cps.toList p.cps.toList = false) ∧ l.Pairwise (fun a b => ltCps b.cps.toList a.cps.toList = false)
  | [], p, _ => ⟨fun b hb => (nomatch hb), .nil⟩
  | x :: r, p, h => by
    unfold risingS at h
    obtain ⟨h1, h2⟩ := Bool.and_eq_true_iff.mp h
    obtain ⟨k1, k2⟩ := rising_pw r x h2
    have h0 : ltCps x.cps.toList p.cps.toList = false := by simpa using h1
    refine ⟨fun b hb => ?_, .cons k1 k2⟩
    rcases List.mem_cons.mp hb with rfl | hb
    · exact h0
    · have h3 := k1 b hb
      rw [ltCps_eq] at h0 h3 ⊢
      have h0' := of_decide_eq_false h0
      have h3' := of_decide_eq_false h3
      exact decide_eq_false fun z => h0' (List.lt_of_le_of_lt (List.not_lt.mp h3') z)
theorem sortedS_pw {l : List Str} (h : sortedS l = true) : l.Pairwise (fun a b => ltCps b.cps.toList a.cps.toList = false) := by
  cases l with
  | nil => exact .nil
  | cons x r =>
    obtain ⟨k1, k2⟩ := rising_pw r x h
    exact .cons k1 k2
theorem cps_inj {x y : Str} (h : x.cps.toList = y.cps.toList) : x = y := by
  obtain ⟨⟨x⟩⟩ := x
  obtain ⟨⟨y⟩⟩ := y
  have h' : x = y := h
  rw [h']
theorem sortedS_uniq : ∀ {xs ys : List Str}, xs.Pairwise (fun a b => ltCps b.cps.toList a.cps.toList = false) → ys.Pairwise (fun a b => ltCps b.cps.toList a.cps.toList = false) → xs.Nodup → ys.Nodup → (∀ k, k ∈ xs ↔ k ∈ ys) → xs = ys
  | [], [], _, _, _, _, _ => rfl
  | [], y :: t, _, _, _, _, h => (nomatch (h y).mpr List.mem_cons_self)
  | x :: r, [], _, _, _, _, h => (nomatch (h x).mp List.mem_cons_self)
  | x :: r, y :: t, .cons a1 a2, .cons b1 b2, .cons c1 c2, .cons d1 d2, h => by
    have e : x = y := by
      rcases List.mem_cons.mp ((h x).mp List.mem_cons_self) with e | hx
      · exact e
      rcases List.mem_cons.mp ((h y).mpr List.mem_cons_self) with e | hy
      · exact e.symm
      have p1 := b1 x hx
      have p2 := a1 y hy
      rw [ltCps_eq] at p1 p2
      exact cps_inj (List.le_antisymm (List.not_lt.mp (of_decide_eq_false p2)) (List.not_lt.mp (of_decide_eq_false p1)))
    subst e
    rw [sortedS_uniq a2 b2 c2 d2 fun k => ?_]
    constructor
    · intro hk
      rcases List.mem_cons.mp ((h k).mp (List.mem_cons_of_mem _ hk)) with rfl | hk'
      · exact absurd rfl (c1 k hk)
      · exact hk'
    · intro hk
      rcases List.mem_cons.mp ((h k).mpr (List.mem_cons_of_mem _ hk)) with rfl | hk'
      · exact absurd rfl (d1 k hk)
      · exact hk'
/-- sorted(set(a new list of texts)) -/
theorem el_sortSet {K : PySem.W.Frag} {w : World} {σ : L2.St} {H : Hp} {te : TE} {ks ys : List Str} (h : EvL te σ H (ks.map V.str)) (hl : ks.length < 64) (hs : sortedS ys = true) (hn : ys.Nodup) (hm : ∀ k, k ∈ ys ↔ k ∈ ks) :
    EvL (tCB (rSortTx w) (tCons (tCB (rSetTx K w) (tCons te tNil)) tNil)) σ H (ys.map V.str) := fun H1 e Q q =>
  h H1 e _ fun l H2 hl2 e2 h2 => ⟨l, ks, rfl, sq_of h2, hl, fun a ha => ⟨a, ks, rfl, upd_same, hl, fun zs p z1 z2 z3 hp => by
    have ez : zs = ys := sortedS_uniq (sortedS_pw z1) (sortedS_pw hs) z2 hn fun k => (z3 k).trans (hm k).symm
    rw [ez]
    have e3 : Ex H2 (upd H2 a (SetX w a ks)) := Ex.new ha
    exact q p _ (fresh_back (e2.trans e3) hp) ((e2.trans e3).trans (Ex.new hp)) upd_same⟩⟩
end Kz
namespace Kz
open PySem PySem.Spec PyProof.Rows L2 Evl StX

/-- the list a beside the tuple b, turn by turn, in new pairs -/
def ItM (K : PySem.W.Frag) (a b : Addr) : It :=
  ⟨fun i H => ∃ us ws : List V, (SqL K H a us ∧ SqT K H b ws) ∧ i < us.length ∧ i < ws.length,
   fun i H v H' => ∃ m x y, v = .ref m ∧ H m = none ∧ H' = upd H m (.tup [x, y]) ∧ (∀ us, SqL K H a us → us[i]? = some x) ∧ (∀ ws, SqT K H b ws → ws[i]? = some y),
   fun i H => ∃ us ws : List V, (SqL K H a us ∧ SqT K H b ws) ∧ (i = us.length ∨ i = ws.length) ∧ i ≤ us.length ∧ i ≤ ws.length⟩
/-- what such a zip is made of at turn i -/
def atM (a b z c o j k : Addr) (i : Nat) (h : Heap) : Prop :=
  (IsZip h z c o .none ∧ IsTupOf2 h c (.ref j) (.ref k)) ∧ (∃ x y, IsTupOf2 h o x y) ∧ h.IsListIter j a i ∧ h.IsTupleIter k b i
theorem mem5 {z c o j k d : Addr} (h : d ∈ [z, c, o, j, k]) : d = z ∨ d = c ∨ d = o ∨ d = j ∨ d = k := by simpa using h
theorem get_back {xs : List V} {us : List Value} (r : Vals xs us) {i : Nat} {u : Value} (h : us[i]? = some u) : ∃ x, xs[i]? = some x ∧ RelV x u := by
  induction r generalizing i with
  | nil => cases h
  | cons r0 _ ih =>
    cases i with
    | zero =>
      cases h
      exact ⟨_, rfl, r0⟩
    | succ i => exact ih h
theorem turnM {P : Program} {w : World} {K : PySem.W.Frag} {elts : List Expr} {kk : Nat} {tp : Pos} {a b z c o j k : Addr} (S : ZipSep2 z c o j k [j, a] [k, b]) (na : a ≠ j) (nb : b ≠ k) :
    Turn P w K (.Tuple elts kk tp) (ItM K a b) [z, c, o, j, k] z (atM a b z c o j k) where
  mem := List.mem_cons_self
  obj := fun i h st d hd => by
    obtain ⟨⟨g1, g2⟩, ⟨x, y, g3⟩, ⟨p1, r1, _, t1⟩, ⟨p2, r2, _, t2⟩⟩ := st
    rcases mem5 hd with rfl | rfl | rfl | rfl | rfl
    · exact ⟨_, g1, fun v e => nomatch e⟩
    · exact ⟨_, g2, fun v e => nomatch e⟩
    · exact ⟨_, g3, fun v e => nomatch e⟩
    · exact ⟨_, r1, fun v e => by rw [t1] at e; cases e⟩
    · exact ⟨_, r2, fun v e => by rw [t2] at e; cases e⟩
  keep := fun i h h' st kp => by
    obtain ⟨⟨g1, g2⟩, ⟨x, y, g3⟩, g4, g5⟩ := st
    exact ⟨⟨kp z (by simp) _ g1, kp c (by simp) _ g2⟩, ⟨x, y, kp o (by simp) _ g3⟩, g4.at fun u e => kp j (by simp) u e, g5.at fun u e => kp k (by simp) u e⟩
  item := by
    intro X u1 u2 u3 calm i pins s σ H E I free st go
    subst u1 u2 u3
    obtain ⟨⟨g1, g2⟩, ⟨x0, y0, g3⟩, g4, g5⟩ := st
    obtain ⟨us, ws, ⟨q1, q2⟩, n1, n2⟩ := go
    obtain ⟨ts, rv, p, _⟩ := I.list q1
    obtain ⟨ts2, rv2, p2, _⟩ := I.tuple q2
    have m1 := rv.length
    have m2 := rv2.length
    have d1 := Draws.list (prog := X.prog) (w := X.w) (A := X.A.in1) (I.ok.hd calm) j a na ts.toArray
    have d2 := Draws.tuple (prog := X.prog) (w := X.w) (A := X.A.in1) (I.ok.hd calm) k b nb ts2.toArray
    have zl : z < s.heap.objs.size := Heap.lt_size g1
    refine wpAny_pyNext_zipD2_item S d1 d2 g1 g2 g3 ⟨g4, p.isList⟩ ⟨g5, p2⟩ (by simp; omega) (by simp; omega) fun u v h1 tk hu hv e1 e2 e3 e4 nw big kp => ?_
    refine ⟨_, rfl, wpAny_letOwnedTupleGo_zip (s := { s with heap := h1, toks := tk }) e1 fun h2 f1 sb => ?_⟩
    obtain ⟨x, hx, rx⟩ := get_back rv (by simpa using hu)
    obtain ⟨y, hy, ry⟩ := get_back rv2 (by simpa using hv)
    have nw2 : h2.get? s.heap.objs.size = some { cls := .type "tuple", data := .seq #[u, v] } := (sb.2 _ (Nat.ne_of_gt zl)).trans nw
    have ok : ObjOk X.prog X.w (upd H s.heap.objs.size (.tup [x, y])) h2 s.heap.objs.size (.tup [x, y]) :=
      ⟨sz_of (by simp), [u, v], .cons rx (.cons ry .nil), ⟨_, nw2, rfl, _, rfl⟩⟩
    have J : Inv X pins σ (upd H s.heap.objs.size (.tup [x, y])) { s with heap := h2, toks := tk } :=
      I.turnedNew (t' := tk) (ch := [z, c, o, j, k]) (fun d od hd e => (sb.2 d fun w => hd (by simp [w])).trans (kp d od (fun w => hd (by simp [w])) (fun w => hd (by simp [w])) (fun w => hd (by simp [w])) (fun w => hd (by simp [w])) e)) free (Nat.le_refl _) ok
    refine ⟨.ref s.heap.objs.size, _, J, rfl, ⟨_, x, y, rfl, I.hok.fresh (Nat.le_refl _), rfl, fun l hl => by rw [I.list_inj hl q1]; exact hx, fun l hl => by rw [I.tuple_inj hl q2]; exact hy⟩, ⟨⟨f1, ?_⟩, ⟨u, v, ?_⟩, ?_, ?_⟩, fun d hd => ?_⟩
    · exact (sb.2 _ S.TIz).trans (kp _ _ S.TIz S.TITO S.TIi1 S.TIi2 g2)
    · exact (sb.2 _ S.TOz).trans e2
    · exact e3.1.at fun q e => (sb.2 _ S.zi1.symm).trans e
    · exact e4.1.at fun q e => (sb.2 _ S.zi2.symm).trans e
    · have lt : d < s.heap.objs.size := by
        obtain ⟨p1, r1, _⟩ := id g4
        obtain ⟨p2, r2, _⟩ := id g5
        rcases mem5 hd with rfl | rfl | rfl | rfl | rfl
        · exact zl
        · exact Heap.lt_size g2
        · exact Heap.lt_size g3
        · exact Heap.lt_size r1
        · exact Heap.lt_size r2
      rw [upd_ne (Nat.ne_of_lt lt)]
      exact (free d hd).1
  done := by
    intro X u1 u2 u3 calm i pins s σ H E I free st stop
    subst u1 u2 u3
    obtain ⟨⟨g1, g2⟩, ⟨x0, y0, g3⟩, g4, g5⟩ := st
    obtain ⟨us, ws, ⟨q1, q2⟩, n0, n1, n2⟩ := stop
    obtain ⟨ts, rv, p, _⟩ := I.list q1
    obtain ⟨ts2, rv2, p2, _⟩ := I.tuple q2
    have m1 := rv.length
    have m2 := rv2.length
    have d1 := Draws.list (prog := X.prog) (w := X.w) (A := X.A.in1) (I.ok.hd calm) j a na ts.toArray
    have d2 := Draws.tuple (prog := X.prog) (w := X.w) (A := X.A.in1) (I.ok.hd calm) k b nb ts2.toArray
    refine wpAny_pyNext_zipD2_end S d1 d2 g1 g2 g3 ⟨g4, p.isList⟩ ⟨g5, p2⟩ (by simp; omega) (by simp; omega) (by simp; omega) fun h1 tk kp => ⟨rfl, ?_⟩
    exact I.turnedL (t' := tk) (ch := [z, c, o, j, k]) (fun d od hd e => kp d od (fun w => hd (by simp [w])) (fun w => hd (by simp [w])) (fun w => hd (by simp [w])) (fun w => hd (by simp [w])) e) free
  self := fun A i s Q E st h => wpAny_pyIter_zip st.1.1 h
def iZipM (K : PySem.W.Frag) (ta : TA) : TI := fun σ H R => ta σ H fun vs H1 => ∃ (a b : Addr) (us ws : List V), vs = [.ref a, .ref b] ∧ (SqL K H1 a us ∧ SqT K H1 b ws) ∧ R (ItM K a b) H1
theorem pi_zipM {X : Cx} {e1 e2 : Expr} {ta : TA} {p pos tp : Pos} {elts : List Expr} {kk : Nat} (hg : Gl X "zip") (hm : X.mg "zip" = none) (ha : PA X [e1, e2] ta)
    (h1 : starEach [e1, e2] X.env = (false, eval e1 X.env) :: starEach [e2] X.env := by rfl) (h2 : (backTo pos (starEach [e2] X.env)).any (·.1) = false := by rfl) :
    PI X (.Tuple elts kk tp) (.Call (.Name "zip" p) [e1, e2] [] pos) (iZipM X.K ta) := by
  refine ⟨fun pins s σ H R I h => ?_⟩
  refine Call_ (ld_blt I hg hm PyProof.Rows.boot_zip (PyProof.Rows.callWith_type1 (thn (ha.run pos pins s σ H _ I h) fun vs s1 ⟨xs, H1, J, rr, q⟩ => ?_) h1 h2))
  obtain ⟨a, b, us, ws, rfl, ⟨q1, q2⟩, r⟩ := q
  cases rr with
  | cons r1 rr =>
  cases rr with
  | cons r2 rr =>
  cases rr
  cases r1
  cases r2
  obtain ⟨ts, rv, p1, _⟩ := J.list q1
  obtain ⟨ts2, rv2, p2, _⟩ := J.tuple q2
  obtain ⟨o1, l1, _⟩ := id p1.isList
  obtain ⟨o2, l2, _⟩ := id p2
  have lt1 := Heap.lt_size l1
  have lt2 := Heap.lt_size l2
  have sep : ZipSep2 (s1.heap.objs.size + 4) (s1.heap.objs.size + 2) (s1.heap.objs.size + 3) s1.heap.objs.size (s1.heap.objs.size + 1) [s1.heap.objs.size, a] [s1.heap.objs.size + 1, b] :=
    zip_sep2 (fun d hd => by rw [List.mem_singleton.mp hd]; exact lt1) (fun d hd => by rw [List.mem_singleton.mp hd]; exact lt2)
  refine zip_begins2 (begins_list a ts.toArray) (begins_tuple b ts2.toArray) p1.isList p2 fun h' f1 f2 f3 f4 f5 big kp => wpAny_pyIter_zip f1 ?_
  have J2 : Inv X pins σ H1 { s1 with heap := h' } := J.kept (t' := s1.toks) kp
  refine ⟨s1.heap.objs.size + 4, _, _, _, H1, rfl, J2, turnM sep (Nat.ne_of_lt lt1) (show b ≠ s1.heap.objs.size + 1 from Nat.ne_of_lt (Nat.lt_succ_of_lt lt2)), ⟨⟨f1, f2⟩, ⟨_, _, f3⟩, ⟨_, f4, rfl, rfl⟩, ⟨_, f5, rfl, rfl⟩⟩, fun d hd => ?_, r⟩
  have ge : s1.heap.objs.size ≤ d := by
    rcases mem5 hd with e | e | e | e | e
    · rw [e]; exact Nat.le_add_right _ _
    · rw [e]; exact Nat.le_add_right _ _
    · rw [e]; exact Nat.le_add_right _ _
    · rw [e]; exact Nat.le_refl _
    · rw [e]; exact Nat.le_add_right _ _
  exact J.fpOk ge (J.hok.fresh ge)
theorem pi_zipMK {X : Cx} {e1 e2 : Expr} {ta : TA} {p pos tp : Pos} {elts : List Expr} {kk : Nat} (K : PySem.W.Frag) (eK : X.K = K) (hg : Gl X "zip") (hm : X.mg "zip" = none) (ha : PA X [e1, e2] ta)
    (h1 : starEach [e1, e2] X.env = (false, eval e1 X.env) :: starEach [e2] X.env := by rfl) (h2 : (backTo pos (starEach [e2] X.env)).any (·.1) = false := by rfl) :
    PI X (.Tuple elts kk tp) (.Call (.Name "zip" p) [e1, e2] [] pos) (iZipM K ta) := eK ▸ pi_zipM hg hm ha h1 h2
/-- the walk of it -/
theorem walkM {K : PySem.W.Frag} {a b : Addr} {us ws : List V} (hn : us.length = ws.length) : Walk (ItM K a b) us.length (fun H => SqL K H a us ∧ SqT K H b ws) (YPair (fun i => us[i]?) (fun i => ws[i]?)) := by
  refine ⟨fun i H hi q => ⟨us, ws, q, hi, by omega⟩, fun H q => ⟨us, ws, q, .inl rfl, Nat.le_refl _, by omega⟩, fun i H v H' _ q y => ?_⟩
  obtain ⟨m, x, y, h1, h2, h3, h4, h5⟩ := y
  exact ⟨m, x, y, h1, h2, h3, h4 us q.1, h5 ws q.2⟩

/-! ### lists whose items are objects told one by one -/
inductive Rs {α : Type} (R : α → Addr → Hp → Prop) (H : Hp) : List V → List α → Prop
  | nil : Rs R H [] []
  | cons {x : α} {p : Addr} {xs : List α} {vs : List V} : R x p H → Rs R H vs xs → Rs R H (.ref p :: vs) (x :: xs)
section
variable {α β : Type} {R : α → Addr → Hp → Prop} {H H' : Hp} {vs : List V} {xs : List α}
theorem Rs.len (h : Rs R H vs xs) : vs.length = xs.length := by
  induction h with
  | nil => rfl
  | cons _ _ ih => rw [List.length_cons, List.length_cons, ih]
theorem Rs.imp {S : α → Addr → Hp → Prop} (h : Rs R H vs xs) (m : ∀ x p, x ∈ xs → R x p H → S x p H') : Rs S H' vs xs := by
  induction h with
  | nil => exact .nil
  | cons r _ ih => exact .cons (m _ _ List.mem_cons_self r) (ih fun x p hx => m x p (List.mem_cons_of_mem _ hx))
theorem Rs.snoc {x : α} {p : Addr} (h : Rs R H vs xs) (r : R x p H) : Rs R H (vs ++ [.ref p]) (xs ++ [x]) := by
  induction h with
  | nil => exact .cons r .nil
  | cons r0 _ ih => exact .cons r0 ih
theorem Rs.get (h : Rs R H vs xs) {i : Nat} {v : V} (hi : vs[i]? = some v) : ∃ p x, v = .ref p ∧ xs[i]? = some x ∧ R x p H := by
  induction h generalizing i with
  | nil => cases hi
  | cons r0 _ ih =>
    cases i with
    | zero =>
      cases hi
      exact ⟨_, _, rfl, rfl, r0⟩
    | succ i => exact ih hi
theorem Rs.refs (h : Rs R H vs xs) : ∀ v ∈ vs, ∃ r : Addr, v = .ref r := by
  induction h with
  | nil => intro v hv; cases hv
  | cons r0 _ ih =>
    intro v hv
    rcases List.mem_cons.mp hv with rfl | hv
    · exact ⟨_, rfl⟩
    · exact ih v hv
theorem Rs.take (h : Rs R H vs xs) : ∀ n, Rs R H (vs.take n) (xs.take n) := by
  induction h with
  | nil => intro n; rw [List.take_nil, List.take_nil]; exact .nil
  | cons r0 _ ih =>
    intro n
    cases n with
    | zero => exact .nil
    | succ n => exact .cons r0 (ih n)
/-- R stands however the heap grows -/
def Up {α : Type} (R : α → Addr → Hp → Prop) : Prop := ∀ x p H H', Ex H H' → R x p H → R x p H'
/-- R asks nothing of a list of objects elsewhere -/
def Off {α : Type} (R : α → Addr → Hp → Prop) : Prop := ∀ x p H D acc, R x p H → H D = some (.lst acc) → (∀ v ∈ acc, ∃ r : Addr, v = .ref r) → p ≠ D → R x p (hide D H)
theorem Rs.ex (up : Up R) (h : Rs R H vs xs) (e : Ex H H') : Rs R H' vs xs := h.imp fun x p _ r => up x p H H' e r
/-- a new list of such objects, a new such object -/
def EvRs (te : TE) (σ : L2.St) (H : Hp) (R : α → Addr → Hp → Prop) (xs : List α) : Prop := ∀ H1, Ex H H1 → ∀ Q : VK, (∀ l vs H2, H1 l = none → Ex H1 H2 → H2 l = some (.lst vs) → Rs R H2 vs xs → Q (.ref l) H2) → te σ H1 Q
def EvN (te : TE) (σ : L2.St) (H : Hp) (r : Addr → Hp → Prop) : Prop := ∀ H1, Ex H H1 → ∀ Q : VK, (∀ p H2, H1 p = none → Ex H1 H2 → r p H2 → Q (.ref p) H2) → te σ H1 Q
theorem hide_upd {D : Addr} {H : Hp} {o : HO} : hide D (upd H D o) = hide D H := by
  funext a
  by_cases e : a = D
  · rw [e, hide_at, hide_at]
  · rw [hide_ne e, hide_ne e, upd_ne e]
theorem hide_none {D : Addr} {H : Hp} (h : H D = none) : hide D H = H := by
  funext a
  by_cases e : a = D
  · rw [e, hide_at, h]
  · rw [hide_ne e]
/-- Ex past what is hidden -/
theorem ex_hide {D : Addr} {H H' : Hp} (e : Ex H H') : Ex (hide D H) (hide D H') := fun a o h => by
  rw [hide_ne (hide_some h).1]
  exact e a o (hide_some h).2
theorem ex_to_hide {D : Addr} {H H' : Hp} (h : H D = none) (e : Ex H H') : Ex H (hide D H') := by
  have := ex_hide (D := D) e
  rw [hide_none h] at this
  exact this
/-- an iterator that has come -/
def iHere (J : It) (H : Hp) : TI := fun _ _ R => R J H
theorem lcRs {J : It} {n : Nat} {G : Hp → Prop} {Y : Nat → Hp → V → Hp → Prop} (w : Walk J n G Y) {g : TG} {te : TE} {us : List Nat} {σ : L2.St} {H1 H0 : Hp} {Q : VK} (up : Up R) (off : Off R) (hn : n ≤ 100000) (hl : xs.length = n) (hG : ∀ H, Ex H1 H → G H)
    (hs : ∀ i y x H H', xs[i]? = some y → Ex H1 H → Y i H x H' → ∀ k : L2.St → Hp → Prop, (∀ σ2 H2, Ex H H2 → wipe σ2 us = wipe σ us → EvN te σ2 H2 (R y) → k σ2 H2) → g x (wipe σ us) H' k)
    (hq : ∀ l vs H2, H1 l = none → Ex H1 H2 → H2 l = some (.lst vs) → Rs R H2 vs xs → Q (.ref l) H2) : tLc (iHere J H1) g tYes te us σ H0 Q := fun D hD => by
  refine lc_it w (fun i H => ∃ vs, H D = some (.lst vs) ∧ Ex H1 (hide D H) ∧ Rs R (hide D H) vs (xs.take i)) ⟨[], upd_same, ?_, ?_⟩ ?_ ?_ ?_
  · rw [hide_upd, hide_none hD]
    exact Ex.refl _
  · exact .nil
  · rintro i H _ ⟨vs, _, e, _⟩
    exact hG H (e.trans hide_le)
  · rintro i x H H' hi ⟨vs, hv, e, r⟩ y
    obtain ⟨z, hz⟩ : ∃ z, xs[i]? = some z := ⟨xs[i]'(by omega), List.getElem?_eq_getElem (by omega)⟩
    refine hs i z x H H' hz (e.trans hide_le) y _ fun σ2 H2 e2 hw ev => ⟨hw, ?_⟩
    show te σ2 H2 fun y H4 => ∃ acc, H4 D = some (.lst acc) ∧ acc.length < sizeLine ∧ _
    refine ev H2 (Ex.refl _) _ fun p H3 hp e3 rp => ?_
    have hv2 := e2 _ _ hv
    have hv3 := e3 _ _ hv2
    have ne : p ≠ D := fun q => by
      rw [q, hv2] at hp
      cases hp
    have el : vs.length = (xs.take i).length := r.len
    rw [List.length_take] at el
    refine ⟨vs, hv3, sz_lt (by omega), vs ++ [.ref p], upd_same, ?_, ?_⟩
    · rw [hide_upd]
      exact e.trans (ex_hide (e2.trans e3))
    · rw [hide_upd, List.take_add_one, hz]
      exact (r.ex up (ex_hide (e2.trans e3))).snoc (off _ _ _ _ _ rp hv3 r.refs ne)
  · rintro H ⟨vs, hv, e, r⟩
    rw [← hl, List.take_length] at r
    exact hq D vs H hD (e.trans hide_le) hv (r.ex up hide_le)
variable {K : PySem.W.Frag} {σ : L2.St} {te tl : TE}
/-- over a list that stands -/
theorem ers_lc {a : Addr} {us : List V} {j : Nat} {ws : List Nat} (up : Up R) (off : Off R) (h : Ev tl σ H (.ref a)) (hx : SqL K H a us) (hn : us.length ≤ 40000) (hl : xs.length = us.length) (hw : ∀ x, wipe ((wipe σ ws).set j (some x)) ws = wipe σ ws)
    (he : ∀ (i : Nat) (u : V) (y : α) (H1 : Hp), Ex H H1 → us[i]? = some u → xs[i]? = some y → EvN te ((wipe σ ws).set j (some u)) H1 (R y)) : EvRs (tLc (iList K tl) (gName j) tYes te ws) σ H R xs := fun H0 e Q q => h H0 e _ fun H1 e1 => ⟨a, rfl, ⟨us, ex_l (e.trans e1) hx⟩,
  lcRs (H0 := H1) (walk_list (K := K) (a := a) (xs := us)) up off (by omega) hl (fun H2 e2 => ex_l ((e.trans e1).trans e2) hx) (fun i y x H2 H3 hy e2 yy k hk => by
    obtain ⟨rfl, hu⟩ := yy
    exact hk _ _ (Ex.refl _) (hw _) (he i x y _ ((e.trans e1).trans e2) hu hy)) fun l vs H2 hl0 e2 h2 r => q l vs H2 (fresh_back e1 hl0) (e1.trans e2) h2 r⟩
/-- over zip of a list and a tuple -/
theorem ers_zip {ta : TA} {a b : Addr} {us vs : List V} {j k : Nat} {ws : List Nat} (up : Up R) (off : Off R) (h : EvA ta σ H [.ref a, .ref b]) (hx : SqL K H a us) (hy : SqT K H b vs) (hn : us.length ≤ 40000) (hl : xs.length = us.length) (h2 : us.length = vs.length)
    (hw : ∀ x y, wipe (((wipe σ ws).set j (some x)).set k (some y)) ws = wipe σ ws)
    (he : ∀ (i : Nat) (u v : V) (y : α) (H1 : Hp), Ex H H1 → us[i]? = some u → vs[i]? = some v → xs[i]? = some y → EvN te (((wipe σ ws).set j (some u)).set k (some v)) H1 (R y)) : EvRs (tLc (iZipM K ta) (gTup K 2 (gCons (gName j) (gCons (gName k) gNil))) tYes te ws) σ H R xs := fun H0 e Q q => h H0 e _ fun H1 e1 => ⟨a, b, us, vs, rfl, ⟨ex_l (e.trans e1) hx, ex_t (e.trans e1) hy⟩,
  lcRs (H0 := H1) (walkM (K := K) (a := a) (b := b) h2) up off (by omega) hl (fun H2 e2 => ⟨ex_l ((e.trans e1).trans e2) hx, ex_t ((e.trans e1).trans e2) hy⟩) (fun i y x H2 H3 hyi e2 yy kk hk => by
    obtain ⟨m, u, v, rfl, hm, rfl, hu, hv⟩ := yy
    refine ⟨m, [u, v], rfl, st_of upd_same, rfl, u, [v], rfl, v, [], rfl, rfl, ?_⟩
    exact hk _ _ (Ex.new hm) (hw _ _) (he i u v y _ (((e.trans e1).trans e2).trans (Ex.new hm)) hu hv hyi)) fun l vs' H2 hl0 e2 h2 r => q l vs' H2 (fresh_back e1 hl0) (e1.trans e2) h2 r⟩
end

/-! ### xs[::-1] -/
theorem fm_self {α : Type} : ∀ l : List α, (List.range l.length).filterMap (fun k => l[k]?) = l := fun l => by
  have h : (List.range l.length).filterMap (fun k => l[k]?) = (List.range l.length).filterMap fun k => (l.map some).getD k none := by
    congr 1
    funext k
    rw [List.getD_eq_getElem?_getD, List.getElem?_map]
    cases l[k]? <;> rfl
  have g : (List.range l.length).map (fun k => (l.map some).getD k none) = l.map some := by
    apply List.ext_getElem
    · simp
    · intro i h1 h2
      simp at h1 ⊢
      simp [h1]
  have f : (List.range l.length).filterMap (fun k => (l.map some).getD k none) = ((List.range l.length).map fun k => (l.map some).getD k none).filterMap id := by
    rw [List.filterMap_map]
    rfl
  rw [h, f, g, List.filterMap_map]
  show l.filterMap some = l
  exact List.filterMap_some
theorem fm_congr {α β : Type} {f g : α → Option β} : ∀ l : List α, (∀ x ∈ l, f x = g x) → l.filterMap f = l.filterMap g
  | [], _ => rfl
  | x :: l, h => by
    rw [List.filterMap_cons, List.filterMap_cons, h x List.mem_cons_self, fm_congr l fun y hy => h y (List.mem_cons_of_mem _ hy)]
theorem pick_rev (us : List Value) : slicePick us.toArray none none (some (-1)) = us.reverse.toArray := by
  unfold slicePick sliceBounds sliceRange
  have n0 : ¬ ((-1 : Int) > 0) := by decide
  simp only [Option.getD_some, n0, if_false, List.size_toArray]
  have c : (if ((us.length : Int) - 1 > -1) then ((us.length : Int) - 1 - -1 - -1 - 1) / (- -1) else 0) = (us.length : Int) := by
    split
    · rw [show (- -1 : Int) = 1 from rfl, Int.ediv_one]
      omega
    · omega
  rw [c, Int.toNat_natCast, List.filterMap_map]
  congr 1
  have e : us.length = us.reverse.length := (List.length_reverse).symm
  conv => rhs; rw [← fm_self us.reverse]
  rw [← e]
  refine fm_congr _ fun k hk => ?_
  have hk' : k < us.length := List.mem_range.mp hk
  show us.toArray[((us.length : Int) - 1 + -1 * (k : Int)).toNat]? = _
  rw [List.getElem?_reverse hk', show ((us.length : Int) - 1 + -1 * (k : Int)).toNat = us.length - 1 - k by omega]
  simp
def tRev (K : PySem.W.Frag) (te : TE) (ts : TO) : TE := fun σ H Q => te σ H fun x H1 => ts σ H1 fun l H2 => l = some (-1) ∧ ∃ a xs, x = .ref a ∧ SqL K H2 a xs ∧ ∀ p, H2 p = none → Q (.ref p) (upd H2 p (.lst xs.reverse))
theorem vals_rev {xs : List V} {us : List Value} (r : Vals xs us) : Vals xs.reverse us.reverse := by
  refine vals_of_idx _ _ (by rw [List.length_reverse, List.length_reverse, r.length]) fun i u hi => ?_
  have lt := (List.getElem?_eq_some_iff.mp hi).1
  rw [List.length_reverse] at lt
  rw [List.getElem?_reverse lt] at hi
  have n := r.length
  obtain ⟨x, hx, rx⟩ := get_back r hi
  exact ⟨x, by rw [List.getElem?_reverse (by omega), n]; exact hx, rx⟩
theorem pe_rev {X : Cx} {e st : Expr} {te : TE} {ts : TO} {pos p2 : Pos} (he : PE X e te) (hs : PO X (some st) ts) : PE X (.Subscript e (.Slice none none (some st) p2) pos) (tRev X.K te ts) := by
  refine ⟨fun pins s σ H Q I0 h0 => ?_⟩
  refine Subscript_ (thn (he.run pins s σ H _ I0 h0) fun v s1 ⟨x, H1, I1, r1, q1⟩ => wpAny_Slice ?_)
  rw [evalPart_none]
  refine wpAny_pure (wpAny_pure (thn (hs.run pins s1 σ H1 _ I1 q1) fun vs s2 ⟨l, H2, I2, pl, el, a, xs, e1, hx, q⟩ => ?_))
  subst el e1
  cases r1
  have I3 : Inv X pins σ H2 { s2 with heap := s2.heap.push { cls := .type "slice", data := .fields #[.none, .none, vs] } } := I2.kept (t' := s2.toks) fun b ob z => Heap.get?_push_of_some _ z
  obtain ⟨ts', rv, pl2, hz⟩ := I3.list hx
  have n := rv.length
  refine tail_any (ops := [.ref a, .ref s2.heap.objs.size]) pl2.isList.typeIs slot_list_getitem.lookup ?_ (by with_unfolding_all rfl)
  refine wpAny_getItem_list_slice pl2.isList (Heap.IsSliceOf.new ..) .none .none pl (by decide) ?_ (by rw [List.size_toArray]; omega)
  rw [pick_rev]
  refine ⟨.ref _, _, I3.laid (t' := s2.toks) (o := .lst xs.reverse) (fun b ob z => Heap.get?_push_of_some _ z) (Nat.le_refl _) ?_, rfl, q _ (I3.hok.fresh (Nat.le_refl _))⟩
  exact ⟨by rw [List.length_reverse]; exact hz, _, 0, vals_rev rv, Heap.get?_push_size _ rfl⟩
section
variable {K : PySem.W.Frag} {σ : L2.St} {H : Hp} {te : TE} {ts : TO}
theorem el_rev {a : Addr} {xs : List V} (h : Ev te σ H (.ref a)) (hx : SqL K H a xs) (hs : EvO ts σ H (some (-1))) : EvL (tRev K te ts) σ H xs.reverse := fun H0 e0 Q q =>
  h H0 e0 _ fun H1 e1 => hs H1 (e0.trans e1) _ fun H2 e2 => ⟨rfl, a, xs, rfl, ex_l ((e0.trans e1).trans e2) hx, fun l hl => q l _ (fresh_back (e1.trans e2) hl) ((e1.trans e2).trans (Ex.new hl)) upd_same⟩
end

/-! ### items that are fixed values -/
theorem lcVs {J : It} {n : Nat} {G : Hp → Prop} {Y : Nat → Hp → V → Hp → Prop} (w : Walk J n G Y) {g : TG} {te : TE} {us : List Nat} {σ : L2.St} {H1 H0 : Hp} {Q : VK} {xs : List V} (hn : n ≤ 100000) (hl : xs.length = n) (hG : ∀ H, Ex H1 H → G H)
    (hs : ∀ (i : Nat) (y x : V) (H H' : Hp), xs[i]? = some y → Ex H1 H → Y i H x H' → ∀ k : L2.St → Hp → Prop, (∀ σ2 H2, Ex H H2 → wipe σ2 us = wipe σ us → Ev te σ2 H2 y → k σ2 H2) → g x (wipe σ us) H' k)
    (hq : ∀ l H2, H1 l = none → Ex H1 H2 → H2 l = some (.lst xs) → Q (.ref l) H2) : tLc (iHere J H1) g tYes te us σ H0 Q := fun D hD => by
  refine lc_it w (fun i H => H D = some (.lst (xs.take i)) ∧ Ex H1 (hide D H)) ⟨upd_same, ?_⟩ ?_ ?_ ?_
  · rw [hide_upd, hide_none hD]
    exact Ex.refl _
  · rintro i H _ ⟨_, e⟩
    exact hG H (e.trans hide_le)
  · rintro i x H H' hi ⟨hv, e⟩ y
    obtain ⟨z, hz⟩ : ∃ z, xs[i]? = some z := ⟨xs[i]'(by omega), List.getElem?_eq_getElem (by omega)⟩
    refine hs i z x H H' hz (e.trans hide_le) y _ fun σ2 H2 e2 hw ev => ⟨hw, ?_⟩
    show te σ2 H2 fun y H4 => ∃ acc, H4 D = some (.lst acc) ∧ acc.length < sizeLine ∧ _
    refine ev H2 (Ex.refl _) _ fun H3 e3 => ⟨_, e3 _ _ (e2 _ _ hv), sz_lt (by rw [List.length_take]; omega), ?_, ?_⟩
    · rw [upd_same, List.take_add_one, hz]
      rfl
    · rw [hide_upd]
      exact e.trans (ex_hide (e2.trans e3))
  · rintro H ⟨hv, e⟩
    rw [← hl, List.take_length] at hv
    exact hq D H hD (e.trans hide_le) hv
section
variable {K : PySem.W.Frag} {σ : L2.St} {H : Hp} {te tl : TE}
theorem elv_zip {ta : TA} {a b : Addr} {us vs xs : List V} {j k : Nat} {ws : List Nat} (h : EvA ta σ H [.ref a, .ref b]) (hx : SqL K H a us) (hy : SqT K H b vs) (hn : us.length ≤ 40000) (hl : xs.length = us.length) (h2 : us.length = vs.length)
    (hw : ∀ x y, wipe (((wipe σ ws).set j (some x)).set k (some y)) ws = wipe σ ws)
    (he : ∀ (i : Nat) (u v y : V) (H1 : Hp), Ex H H1 → us[i]? = some u → vs[i]? = some v → xs[i]? = some y → Ev te (((wipe σ ws).set j (some u)).set k (some v)) H1 y) : EvL (tLc (iZipM K ta) (gTup K 2 (gCons (gName j) (gCons (gName k) gNil))) tYes te ws) σ H xs := fun H0 e Q q => h H0 e _ fun H1 e1 => ⟨a, b, us, vs, rfl, ⟨ex_l (e.trans e1) hx, ex_t (e.trans e1) hy⟩,
  lcVs (H0 := H1) (walkM (K := K) (a := a) (b := b) h2) (by omega) hl (fun H2 e2 => ⟨ex_l ((e.trans e1).trans e2) hx, ex_t ((e.trans e1).trans e2) hy⟩) (fun i y x H2 H3 hyi e2 yy kk hk => by
    obtain ⟨m, u, v, rfl, hm, rfl, hu, hv⟩ := yy
    refine ⟨m, [u, v], rfl, st_of upd_same, rfl, u, [v], rfl, v, [], rfl, rfl, ?_⟩
    exact hk _ _ (Ex.new hm) (hw _ _) (he i u v y _ (((e.trans e1).trans e2).trans (Ex.new hm)) hu hv hyi)) fun l H2 hl0 e2 h2 => q l H2 (fresh_back e1 hl0) (e1.trans e2) h2⟩
/-- over a list of pairs -/
theorem elv_pairs {a : Addr} {us xs : List V} {j k : Nat} {ws : List Nat} (h : Ev tl σ H (.ref a)) (hx : SqL K H a us) (hn : us.length ≤ 40000) (hl : xs.length = us.length)
    (hw : ∀ x y, wipe (((wipe σ ws).set j (some x)).set k (some y)) ws = wipe σ ws)
    (he : ∀ (i : Nat) (u y : V), us[i]? = some u → xs[i]? = some y → ∃ (p : Addr) (x1 x2 : V), u = .ref p ∧ H p = some (.tup [x1, x2]) ∧ ∀ H1, Ex H H1 → Ev te (((wipe σ ws).set j (some x1)).set k (some x2)) H1 y) : EvL (tLc (iList K tl) (gTup K 2 (gCons (gName j) (gCons (gName k) gNil))) tYes te ws) σ H xs := fun H0 e Q q => h H0 e _ fun H1 e1 => ⟨a, rfl, ⟨us, ex_l (e.trans e1) hx⟩,
  lcVs (H0 := H1) (walk_list (K := K) (a := a) (xs := us)) (by omega) hl (fun H2 e2 => ex_l ((e.trans e1).trans e2) hx) (fun i y x H2 H3 hyi e2 yy kk hk => by
    obtain ⟨rfl, hu⟩ := yy
    obtain ⟨p, x1, x2, rfl, hp, hv⟩ := he i x y hu hyi
    have e3 := (e.trans e1).trans e2
    refine ⟨p, [x1, x2], rfl, st_of (e3 _ _ hp), rfl, x1, [x2], rfl, x2, [], rfl, rfl, ?_⟩
    exact hk _ _ (Ex.refl _) (hw _ _) (hv _ e3)) fun l H2 hl0 e2 h2 => q l H2 (fresh_back e1 hl0) (e1.trans e2) h2⟩
/-- two fors, the inner list new each time -/
theorem elv_lc2 {β : Type} {te1 : TE} {t1 : TT} {a : Addr} {us : List V} {ys : List (List β)} {r W : β → V} {F : β → Bool} {j k m : Nat} {ws ws1 : List Nat} (h : Ev tl σ H (.ref a)) (hx : SqL K H a us) (hl : ys.length = us.length) (hm : (ys.flatMap fun y => (y.filter F).map W).length ≤ 40000)
    (hw : ∀ x, wipe ((wipe σ ws).set j (some x)) ws = wipe σ ws) (hw1 : ∀ x y, wipe ((wipe ((wipe σ ws).set j (some x)) ws1).set k (some y)) ws1 = wipe ((wipe σ ws).set j (some x)) ws1)
    (hi : ∀ (i : Nat) (u : V) (y : List β) (H1 : Hp), Ex H H1 → us[i]? = some u → ys[i]? = some y → EvL te1 ((wipe σ ws).set j (some u)) H1 (y.map r))
    (ht : ∀ (u : V) (x : β) (H1 : Hp), Ex H H1 → (∃ y ∈ ys, x ∈ y) → EvT t1 ((wipe ((wipe σ ws).set j (some u)) ws1).set k (some (r x))) H1 (F x))
    (he : ∀ (u : V) (x : β) (H1 : Hp), Ex H H1 → (∃ y ∈ ys, x ∈ y) → Ev te ((wipe ((wipe σ ws).set j (some u)) ws1).set k (some (r x))) H1 (W x)) :
    EvL (tLc2 (iList K tl) (gName j) tYes (iList K te1) (gName k) t1 te ws ws1) σ H (ys.flatMap fun y => (y.filter F).map W) := fun H0 e Q q => h H0 e _ fun H1 e1 => ⟨a, rfl, ⟨us, ex_l (e.trans e1) hx⟩, fun D hD => by
  have w := walk_list (K := K) (a := a) (xs := us)
  have cut : ∀ i, ((ys.take i).flatMap fun y => (y.filter F).map W).length ≤ (ys.flatMap fun y => (y.filter F).map W).length := fun i => by
    conv => rhs; rw [← List.take_append_drop i ys, List.flatMap_append, List.length_append]
    omega
  refine ⟨fun i c H2 => c = us.length - i ∧ i ≤ us.length ∧ H2 D = some (.lst ((ys.take i).flatMap fun y => (y.filter F).map W)) ∧ Ex H1 (hide D H2), ⟨us.length, rfl, Nat.zero_le _, upd_same, ?_⟩, ?_⟩
  · rw [hide_upd, hide_none hD]
    exact Ex.refl _
  rintro i c H2 ⟨rfl, hi0, hv, e2⟩
  have e12 := (e.trans e1).trans (e2.trans hide_le)
  by_cases lt : i < us.length
  · refine .inr ⟨w.goes i H2 lt (ex_l e12 hx), fun H' => H' D = some (.lst ((ys.take (i + 1)).flatMap fun y => (y.filter F).map W)) ∧ Ex H1 (hide D H'), fun H' z => ⟨_, by omega, rfl, lt, z.1, z.2⟩, fun x H' yy => ?_⟩
    obtain ⟨rfl, hu⟩ := w.yields i H2 x H' lt (ex_l e12 hx) yy
    obtain ⟨y, hy⟩ : ∃ y, ys[i]? = some y := ⟨ys[i]'(by omega), List.getElem?_eq_getElem (by omega)⟩
    refine ⟨hw _, ?_⟩
    show te1 _ H' _
    refine hi i x y H' e12 hu hy H' (Ex.refl _) _ fun l H3 hl0 e3 h3 => ⟨l, rfl, ⟨_, sq_of h3⟩, ?_⟩
    have hv3 := e3 _ _ hv
    have nl : l ≠ D := fun z => by
      rw [z, hv] at hl0
      cases hl0
    have h3' : hide D H3 l = some (.lst (y.map r)) := by rw [hide_ne nl]; exact h3
    have w2 := walk_list (K := K) (a := l) (xs := y.map r)
    have e23 : Ex H1 (hide D H3) := e2.trans (ex_hide e3)
    have tk : (ys.take (i + 1)).flatMap (fun y => (y.filter F).map W) = ((ys.take i).flatMap fun y => (y.filter F).map W) ++ (y.filter F).map W := by
      rw [List.take_add_one, hy, List.flatMap_append]
      simp
    refine ⟨fun i2 c2 H4 => c2 = y.length - i2 ∧ i2 ≤ y.length ∧ H4 D = some (.lst (((ys.take i).flatMap fun y => (y.filter F).map W) ++ ((y.take i2).filter F).map W)) ∧ Ex (hide D H3) (hide D H4), ⟨y.length, rfl, Nat.zero_le _, ?_, Ex.refl _⟩, ?_⟩
    · rw [hv3]
      simp
    rintro i2 c2 H4 ⟨rfl, hi2, hv4, e4⟩
    have q4 : SqL K H4 l (y.map r) := sq_of (hide_le _ _ (e4 _ _ h3'))
    have ee : Ex H H4 := (e.trans e1).trans ((e23.trans e4).trans hide_le)
    by_cases lt2 : i2 < y.length
    · refine .inr ⟨w2.goes i2 H4 (by rw [List.length_map]; exact lt2) q4, fun H' => H' D = some (.lst (((ys.take i).flatMap fun y => (y.filter F).map W) ++ ((y.take (i2 + 1)).filter F).map W)) ∧ Ex (hide D H3) (hide D H'), fun H' z => ⟨_, by omega, rfl, lt2, z.1, z.2⟩, fun x2 H' yy => ?_⟩
      obtain ⟨rfl, hx2⟩ := w2.yields i2 H4 x2 H' (by rw [List.length_map]; exact lt2) q4 yy
      rw [List.getElem?_map, List.getElem?_eq_getElem lt2] at hx2
      have hx3 : r (y[i2]) = x2 := Option.some.inj hx2
      subst hx3
      have tk2 : ((y.take (i2 + 1)).filter F).map W = ((y.take i2).filter F).map W ++ (if F y[i2] = true then [W y[i2]] else []) := by
        rw [List.take_add_one, List.getElem?_eq_getElem lt2, List.filter_append, List.map_append]
        congr 1
        by_cases hf : F y[i2] = true <;> simp [hf]
      have inn : ∃ y' ∈ ys, y[i2] ∈ y' := ⟨y, List.mem_of_getElem? hy, List.getElem_mem lt2⟩
      refine ⟨hw1 _ _, ht _ _ H' ee inn H' (Ex.refl _) _ fun H5 e5 => ?_⟩
      by_cases hf : F y[i2] = true
      · rw [if_pos hf]
        refine he _ _ H5 (ee.trans e5) inn H5 (Ex.refl _) _ fun H6 e6 => ⟨_, e6 _ _ (e5 _ _ hv4), sz_lt ?_, ?_, ?_⟩
        · have h1 := cut (i + 1)
          rw [tk, List.length_append] at h1
          have h2 : ((y.take i2).filter F).length ≤ (y.filter F).length := by
            conv => rhs; rw [← List.take_append_drop i2 y, List.filter_append, List.length_append]
            omega
          rw [List.length_map] at h1
          rw [List.length_append, List.length_map]
          omega
        · rw [upd_same, tk2, if_pos hf, List.append_assoc]
        · rw [hide_upd]
          exact e4.trans (ex_hide (e5.trans e6))
      · rw [if_neg hf]
        refine ⟨?_, e4.trans (ex_hide e5)⟩
        rw [tk2, if_neg hf, List.append_nil]
        exact e5 _ _ hv4
    · have ei : i2 = y.length := by omega
      subst ei
      rw [List.take_length] at hv4
      have st := w2.stops H4 q4
      rw [List.length_map] at st
      exact .inl ⟨st, by rw [tk]; exact hv4, e23.trans e4⟩
  · have ei : i = us.length := by omega
    subst ei
    rw [← hl, List.take_length] at hv
    exact .inl ⟨w.stops H2 (ex_l e12 hx), q D H2 (fresh_back e1 hD) (e1.trans (e2.trans hide_le)) hv⟩⟩
/-- tuple(a new list of objects) -/
def EvRt {α : Type} (te : TE) (σ : L2.St) (H : Hp) (R : α → Addr → Hp → Prop) (xs : List α) : Prop := ∀ H1, Ex H H1 → ∀ Q : VK, (∀ l vs H2, H1 l = none → Ex H1 H2 → H2 l = some (.tup vs) → Rs R H2 vs xs → Q (.ref l) H2) → te σ H1 Q
theorem ers_tup {α : Type} {R : α → Addr → Hp → Prop} {xs : List α} (up : Up R) (h : EvRs te σ H R xs) : EvRt (tCB (fun xs H Q => ∃ p ys, xs = [.ref p] ∧ ((SqL K H p ys ∧ ∀ l, H l = none → Q (.ref l) (upd H l (.tup ys))) ∨ (SqT K H p ys ∧ Q (.ref p) H))) (tCons te tNil)) σ H R xs := fun H1 e Q q =>
  h H1 e _ fun l vs H2 hl e2 h2 r => ⟨l, vs, rfl, .inl ⟨sq_of h2, fun m hm => q m vs _ (fresh_back e2 hm) (e2.trans (Ex.new hm)) upd_same (r.ex up (Ex.new hm))⟩⟩
theorem eu_tupE {xs : List V} (h : EvL te σ H xs) : EvU (tCB (fun xs H Q => ∃ p ys, xs = [.ref p] ∧ ((SqL K H p ys ∧ ∀ l, H l = none → Q (.ref l) (upd H l (.tup ys))) ∨ (SqT K H p ys ∧ Q (.ref p) H))) (tCons te tNil)) σ H xs := fun H1 e Q q =>
  h H1 e _ fun l H2 hl e2 h2 => ⟨l, xs, rfl, .inl ⟨sq_of h2, fun m hm => q m _ (fresh_back e2 hm) (e2.trans (Ex.new hm)) upd_same⟩⟩
/-- a tuple that stands or is new -/
def EvTp (te : TE) (σ : L2.St) (H : Hp) (xs : List V) : Prop := ∀ H1, Ex H H1 → ∀ Q : VK, (∀ p H2, Ex H1 H2 → H2 p = some (.tup xs) → Q (.ref p) H2) → te σ H1 Q
end

/-! ### data of data compared -/
theorem layAll_of {n : Nat} : ∀ {ds : List PyData}, (∀ d ∈ ds, d.canLay0 = true ∧ d.depth ≤ n) → PyData.canLayAll0 ds = true ∧ PyData.depthAll ds ≤ n
  | [], _ => ⟨by simp [PyData.canLayAll0], by simp [PyData.depthAll]⟩
  | d :: ds, h => by
    have h1 := h d List.mem_cons_self
    have h2 := layAll_of (ds := ds) fun e he => h e (List.mem_cons_of_mem _ he)
    exact ⟨by simp [PyData.canLayAll0, h1.1, h2.1], by simp only [PyData.depthAll]; omega⟩
theorem shaped_tt {n : Nat} {ds : List PyData} (h : ∀ d ∈ ds, d.canLay0 = true ∧ d.depth ≤ n) (hn : n ≤ 60) : SeqAt.shaped (.tuple ds) = true := by
  have h2 := layAll_of h
  show (PyData.canLay0 (.tuple ds) && decide (PyData.depth (.tuple ds) ≤ 64)) = true
  rw [Bool.and_eq_true]
  exact ⟨by simp only [PyData.canLay0]; exact h2.1, decide_eq_true (by simp only [PyData.depth]; omega)⟩
theorem shaped_ll {n : Nat} {ds : List PyData} (h : ∀ d ∈ ds, d.canLay0 = true ∧ d.depth ≤ n) (hn : n ≤ 60) : SeqAt.shaped (.list ds) = true := by
  have h2 := layAll_of h
  show (PyData.canLay0 (.list ds) && decide (PyData.depth (.list ds) ≤ 64)) = true
  rw [Bool.and_eq_true]
  exact ⟨by simp only [PyData.canLay0]; exact h2.1, decide_eq_true (by simp only [PyData.depth]; omega)⟩
theorem lay_tup {vs : List V} (h : ∀ v ∈ vs, okV v = true) : (PyData.tuple (vs.map toD)).canLay0 = true ∧ (PyData.tuple (vs.map toD)).depth ≤ 1 := by
  have h2 := layAll_toD h
  exact ⟨by simp only [PyData.canLay0]; exact h2.1, by simp only [PyData.depth]; omega⟩
theorem lay_lst {vs : List V} (h : ∀ v ∈ vs, okV v = true) : (PyData.list (vs.map toD)).canLay0 = true ∧ (PyData.list (vs.map toD)).depth ≤ 1 := by
  have h2 := layAll_toD h
  exact ⟨by simp only [PyData.canLay0]; exact h2.1, by simp only [PyData.depth]; omega⟩
theorem eqF_same : ∀ xs : List V, (∀ v ∈ xs, PyData.eqv (toD v) (toD v) = true) → eqF xs xs = true
  | [], _ => rfl
  | x :: xs, h => by
    show (PyData.eqv (toD x) (toD x) && eqF xs xs) = true
    rw [h x List.mem_cons_self, eqF_same xs fun v hv => h v (List.mem_cons_of_mem _ hv)]
    rfl
theorem eqvAll_same : ∀ ds : List PyData, (∀ d ∈ ds, PyData.eqv d d = true) → PyData.eqvAll ds ds = true
  | [], _ => by simp [PyData.eqvAll]
  | d :: ds, h => by
    simp only [PyData.eqvAll]
    rw [h d List.mem_cons_self, eqvAll_same ds fun v hv => h v (List.mem_cons_of_mem _ hv)]
    rfl
section
variable {K : PySem.W.Frag} {σ : L2.St} {H : Hp} {te : TE} {tz : TS} {D : Ends} {α : Type} {R : α → Addr → Hp → Prop} {xs : List α}
/-- data of such objects -/
theorem Rs.dp {d : α → PyData} {vs : List V} (r : Rs R H vs xs) (h : ∀ x p, x ∈ xs → R x p H → Dp K H (.ref p) (d x)) : DpAll K H vs (xs.map d) := by
  induction r with
  | nil => exact .nil
  | cons r0 _ ih => exact .cons (h _ _ List.mem_cons_self r0) (ih fun x p hx => h x p (List.mem_cons_of_mem _ hx))
theorem q_asgRs {i : Nat} (h : EvRs te σ H R xs) (k : ∀ l vs H1, H l = none → Ex H H1 → H1 l = some (.lst vs) → Rs R H1 vs xs → tz D (σ.set i (some (.ref l))) H1) : tSeq (tAsg te (gName i)) tz D σ H := h H (Ex.refl H) _ k
theorem q_asgRt {i : Nat} (h : EvRt te σ H R xs) (k : ∀ l vs H1, H l = none → Ex H H1 → H1 l = some (.tup vs) → Rs R H1 vs xs → tz D (σ.set i (some (.ref l))) H1) : tSeq (tAsg te (gName i)) tz D σ H := h H (Ex.refl H) _ k
theorem s_asgRt {i : Nat} (h : EvRt te σ H R xs) (k : ∀ l vs H1, H l = none → Ex H H1 → H1 l = some (.tup vs) → Rs R H1 vs xs → D.nx (σ.set i (some (.ref l))) H1) : tAsg te (gName i) D σ H := h H (Ex.refl H) _ k
end

/-! ### a comprehension over range(n) whose items are drawn -/
def drawN {α : Type} (f : Int × Int → α × (Int × Int)) : Nat → Int × Int → List α × (Int × Int)
  | 0, s => ([], s)
  | i + 1, s => ((drawN f i s).1 ++ [(f (drawN f i s).2).1], (f (drawN f i s).2).2)
theorem drawN_len {α : Type} (f : Int × Int → α × (Int × Int)) (s : Int × Int) : ∀ n, (drawN f n s).1.length = n
  | 0 => rfl
  | n + 1 => by
    show ((drawN f n s).1 ++ [_]).length = _
    rw [List.length_append, drawN_len f s n]
    rfl
theorem drawN_pk {α : Type} {f : Int × Int → α × (Int × Int)} (hf : ∀ s, Pk s → Pk (f s).2) {s : Int × Int} (h : Pk s) : ∀ n, Pk (drawN f n s).2
  | 0 => h
  | n + 1 => hf _ (drawN_pk hf h n)
theorem drawN_all {α : Type} {f : Int × Int → α × (Int × Int)} {G : α → Prop} (hf : ∀ s, Pk s → Pk (f s).2 ∧ G (f s).1) {s : Int × Int} (h : Pk s) : ∀ n, ∀ x ∈ (drawN f n s).1, G x
  | 0 => fun x hx => by cases hx
  | n + 1 => fun x hx => by
    rcases List.mem_append.mp hx with hx | hx
    · exact drawN_all hf h n x hx
    · rw [List.mem_singleton.mp hx]
      exact (hf _ (drawN_pk (fun s hs => (hf s hs).1) h n)).2
/-- R speaks of its own object alone -/
def One {α : Type} (R : α → Addr → Hp → Prop) : Prop := ∀ x p H a, R x p H → p ≠ a → R x p (hide a H)
theorem ex_hide2 {p D : Addr} {H H' : Hp} (e : Ex (hide p H) H') : Ex (hide p (hide D H)) (hide p (hide D H')) := fun a o h => by
  obtain ⟨n1, h⟩ := hide_some h
  obtain ⟨n2, h⟩ := hide_some h
  rw [hide_ne n1, hide_ne n2]
  exact e a o (by rw [hide_ne n1]; exact h)
theorem lc_draw {α : Type} {R : α → Addr → Hp → Prop} (up : Up R) (one : One R) {f : Int × Int → α × (Int × Int)} (hf : ∀ s, Pk s → Pk (f s).2) {te : TE} {σ : L2.St} {us : List Nat} {j : Nat} {p : Addr} {s : Int × Int} {H0 H1 : Hp} {n : Nat} {Q : VK} (hk : Pk s) (hp : H1 p = some (pl s)) (hn : n ≤ 1000)
    (hw : ∀ x, wipe ((wipe σ us).set j (some x)) us = wipe σ us)
    (he : ∀ (i : Nat) (H : Hp) (s : Int × Int), Pk s → H p = some (pl s) → ∀ Q : VK, (∀ l H', H l = none → Ex (hide p H) H' → H' p = some (pl (f s).2) → R (f s).1 l H' → Q (.ref l) H') → te ((wipe σ us).set j (some (.int (i : Int)))) H Q)
    (hq : ∀ l vs H', H1 l = none → Ex (hide p H1) H' → H' p = some (pl (drawN f n s).2) → H' l = some (.lst vs) → Rs R (hide p H') vs (drawN f n s).1 → Q (.ref l) H') : tLc (iHere (Itr 0 n) H1) (gName j) tYes te us σ H0 Q := fun D hD => by
  have npD : p ≠ D := fun z => by
    rw [z, hD] at hp
    cases hp
  refine lc_it (walk_range (lo := 0) (n := n)) (fun i H => ∃ vs, H D = some (.lst vs) ∧ H p = some (pl (drawN f i s).2) ∧ Ex (hide p H1) (hide p (hide D H)) ∧ Rs R (hide p (hide D H)) vs (drawN f i s).1) ⟨[], upd_same, ?_, ?_, .nil⟩ (fun _ _ _ _ => trivial) ?_ ?_
  · rw [upd_ne npD]
    exact hp
  · rw [hide_upd, hide_none hD]
    exact Ex.refl _
  · rintro i x H H' hi ⟨vs, hv, hp2, e, r⟩ ⟨rfl, rfl⟩
    have ez : (0 : Int) + (i : Int) = (i : Int) := Int.zero_add _
    show wipe ((wipe σ us).set j (some (.int ((0 : Int) + (i : Int))))) us = wipe σ us ∧ te ((wipe σ us).set j (some (.int ((0 : Int) + (i : Int))))) H' _
    rw [ez]
    refine ⟨hw _, he i H' _ (drawN_pk hf hk i) hp2 _ fun l H4 hl e4 hp4 rl => ?_⟩
    have nlD : l ≠ D := fun z => by
      rw [z, hv] at hl
      cases hl
    have nlp : l ≠ p := fun z => by
      rw [z, hp2] at hl
      cases hl
    have hv4 : H4 D = some (.lst vs) := e4 _ _ (by rw [hide_ne npD.symm]; exact hv)
    have el := r.len
    rw [drawN_len] at el
    refine ⟨vs, hv4, sz_lt (by omega), vs ++ [.ref l], upd_same, ?_, ?_, ?_⟩
    · rw [upd_ne npD]
      exact hp4
    · rw [hide_upd]
      exact e.trans (ex_hide2 e4)
    · rw [hide_upd]
      exact (r.ex up (ex_hide2 e4)).snoc (one _ _ _ _ (one _ _ _ _ rl nlD) nlp)
  · rintro H ⟨vs, hv, hp2, e, r⟩
    have e2 : Ex (hide p (hide D H)) (hide p H) := ex_hide hide_le
    exact hq D vs H hD ((e.trans e2).trans hide_le) hp2 hv (r.ex up e2)
theorem qp_asgDraw {α : Type} {R : α → Addr → Hp → Prop} (up : Up R) (one : One R) {f : Int × Int → α × (Int × Int)} (hf : ∀ s, Pk s → Pk (f s).2) {ta : TA} {te : TE} {tz : TS} {E : Ends} {σ : L2.St} {us : List Nat} {i j : Nat} {p : Addr} {s s1 : Int × Int} {G H : Hp} {n : Int} (K0 : Kn G p s H) (h : EvAP ta σ G p s [.int n] s1) (hk : Pk s1) (hn : 0 ≤ n ∧ n ≤ 1000)
    (hw : ∀ x, wipe ((wipe σ us).set j (some x)) us = wipe σ us)
    (he : ∀ (i : Nat) (H : Hp) (s : Int × Int), Pk s → H p = some (pl s) → ∀ Q : VK, (∀ l H', H l = none → Ex (hide p H) H' → H' p = some (pl (f s).2) → R (f s).1 l H' → Q (.ref l) H') → te ((wipe σ us).set j (some (.int (i : Int)))) H Q)
    (k : ∀ l vs H', l ≠ p → Ex (hide p H) H' → H' p = some (pl (drawN f n.toNat s1).2) → H' l = some (.lst vs) → Rs R (hide p H') vs (drawN f n.toNat s1).1 → tz E (σ.set i (some (.ref l))) H') : tSeq (tAsg (tLc (iRng1 ta) (gName j) tYes te us) (gName i)) tz E σ H :=
  h H K0 _ fun H1 e1 g1 => ⟨n, rfl, by omega, by omega, lc_draw (H0 := H1) (Q := fun v H' => tz E (σ.set i (some v)) H') up one hf hk g1 (by omega) hw he fun l vs H' hl e' hp' hl' r' => k l vs H' (fun z => by
    rw [z, g1] at hl
    cases hl) (hx_trans e1 e') hp' hl' r'⟩
section
variable {K : PySem.W.Frag} {σ : L2.St} {H : Hp} {te tl : TE}
/-- over a list that stands, the items fixed values -/
theorem elv_lc {a : Addr} {us xs : List V} {j : Nat} {ws : List Nat} (h : Ev tl σ H (.ref a)) (hx : SqL K H a us) (hn : us.length ≤ 40000) (hl : xs.length = us.length) (hw : ∀ x, wipe ((wipe σ ws).set j (some x)) ws = wipe σ ws)
    (he : ∀ (i : Nat) (u y : V) (H1 : Hp), Ex H H1 → us[i]? = some u → xs[i]? = some y → Ev te ((wipe σ ws).set j (some u)) H1 y) : EvL (tLc (iList K tl) (gName j) tYes te ws) σ H xs := fun H0 e Q q => h H0 e _ fun H1 e1 => ⟨a, rfl, ⟨us, ex_l (e.trans e1) hx⟩,
  lcVs (H0 := H1) (walk_list (K := K) (a := a) (xs := us)) (by omega) hl (fun H2 e2 => ex_l ((e.trans e1).trans e2) hx) (fun i y x H2 H3 hy e2 yy k hk => by
    obtain ⟨rfl, hu⟩ := yy
    exact hk _ _ (Ex.refl _) (hw _) (he i x y _ ((e.trans e1).trans e2) hu hy)) fun l H2 hl0 e2 h2 => q l H2 (fresh_back e1 hl0) (e1.trans e2) h2⟩
end
end Kz
namespace Kz
open PySem PySem.Spec PyProof.Rows L2 Evl StX
/-- an own def called somewhere below -/
theorem call_at {X : Cx} {CX : CXT} {f : Addr} {fd : FuncData} {ps : List Str} {n : Nat} {sp : Sp} {E : XK} (F : FnOk X.prog X.w X.K X.mg X.base CX n f fd ps sp) (hb : Binds X.K fd ps []) (hx : Passes CX X E) {A : Around} (sb : Sub X n A)
    {pins : List (Addr × Obj)} {s : Shared} {σ : L2.St} {H : Hp} {vs : List V} {us : List Value} {Q : VK} (I : Inv X pins σ H s) (r : Vals vs us) (h : sp vs H Q E) : wpAny (model X.prog X.w) A (call (.ref f) us) (EP X pins σ Q) X.xe s := by
  have e0 : Env0 X.prog X.w X.K X.mg X.base A X.stack s H := by
    have e := I.env0
    exact ⟨by rw [sb.fr]; exact e.frames, e.mod, e.bs, e.bsz, e.funs, e.frf, e.hok, e.bare⟩
  have b := hb s us I.kIn (by rw [List.append_nil, ← r.length]; exact F.len _ _ _ _ h)
  rw [List.append_nil] at b
  refine wpAny_call (codeAny_mono (F.run A X.stack s H ⟨us, []⟩ us vs Q E sb.room e0 b r h) fun z s' hq => ?_)
  match z, hq with
  | .error er, hq => exact hx pins σ H s er s' I hq
  | .ok (.ret u), hq => exact I.after hq
  | .ok .next, hq => exact hq.elim
  | .ok .brk, hq => exact hq.elim
  | .ok .cont, hq => exact hq.elim
theorem sub_here {X : Cx} {n : Nat} (hr : Room n X.A) : Sub X n X.A := ⟨hr, rfl⟩
/-! ### x & y, x | y by the own method of x -/
structure OpC (K : PySem.W.Frag) (nm : String) (C f : Addr) : Prop where
  fst : PySem.W.selfFirst K C = true
  find : PySem.W.findIn K (.ref C) (PySem.dunder nm) = some (some (.ref f))
  isf : PySem.W.isFn K (.ref f) = true
  rev : PySem.W.findIn K (.ref C) (dunderR nm) = some none
def rBinOwn (C C2 : Addr) (sp : Sp) (E : XK) : R2 := fun x y H Q => ∃ a b dx dy fs gs, x = .ref a ∧ y = .ref b ∧ H a = some (.ins C dx fs) ∧ H b = some (.ins C2 dy gs) ∧ sp [.ref a, .ref b] H (fun v H' => ∃ r, v = .ref r ∧ Q (.ref r) H') E
theorem back_ref {X : Cx} {pins : List (Addr × Obj)} {σ : L2.St} {Q : VK} {v : Value} {s : Shared} (h : EP X pins σ (fun v H' => ∃ r, v = .ref r ∧ Q (.ref r) H') v s) : PySem.W.CmpBack (EP X pins σ Q) v s := by
  obtain ⟨x, H', I, r, p, rfl, q⟩ := h
  cases (show v = Value.ref p from r)
  exact ⟨.ref p, H', I, rfl, q⟩
theorem bin_two {prog : Program} {w : World} {A : Around} {E : Value → Shared → Prop} {s : Shared} {K : PySem.W.Frag} {a b C C2 f f2 : Addr} {oa ob : Obj} {da db : Option Obj} {op : Operator} {Q : Value → Shared → Prop} (Z : K.In s.heap) (J : PySem.W.InstAt s.heap a oa C da) (J2 : PySem.W.InstAt s.heap b ob C2 db)
    (h1 : OpC K op.info.2 C f) (h2 : OpC K op.info.2 C2 f2) (ne : C ≠ C2) (hs : PySem.W.subIn K (.ref C2) (.ref C) = some false) (h : wpAny (model prog w) A (call (.ref f) [.ref a, .ref b]) (PySem.W.CmpBack Q) E s) : wpAny (model prog w) A (binaryOp op (.ref a) (.ref b)) Q E s := by
  obtain ⟨c1, t1, k1, m1⟩ := PySem.W.ksp_first h1.fst
  obtain ⟨c2, t2, k2, m2⟩ := PySem.W.ksp_first h2.fst
  obtain ⟨_, g1, g2, g3⟩ := h1
  obtain ⟨_, u1, u2, u3⟩ := h2
  rcases hi : op.info with ⟨sym, nm⟩
  rw [hi] at g1 g3 u1 u3
  dsimp only at g1 g3 u1 u3
  have one := PySem.W.ksp_try Z J g1 g2 h
  obtain ⟨hh, g, d, tt, os⟩ := s
  have L1 : PySem.W.Looks (model prog w) hh (typeOf (.ref a)) (.ref C) := J.type
  have L2 : PySem.W.Looks (model prog w) hh (typeOf (.ref b)) (.ref C2) := J2.type
  have L3 : PySem.W.Looks (model prog w) hh (fillsNumberSlot (.ref C) nm) true := PySem.W.fills_K Z k1 m1 g1
  have L4 : PySem.W.Looks (model prog w) hh (fillsNumberSlot (.ref C2) nm) true := PySem.W.fills_K Z k2 m2 u1
  have L5 : PySem.W.Looks (model prog w) hh (isSubtype (.ref C2) (.ref C)) false := PySem.W.looks_subIn Z hs
  have L6 : PySem.W.Looks (model prog w) hh (numberSlotInPython (.ref C) nm) true := PySem.W.ksp_inPy Z g1 g3 (.inl rfl)
  have L7 : PySem.W.Looks (model prog w) hh (numberSlotInPython (.ref C2) nm) true := PySem.W.ksp_inPy Z u1 u3 (.inl rfl)
  have hne : (Value.ref C == Value.ref C2) = false := Bool.eq_false_iff.mpr fun q => ne (by cases beq_iff_eq.mp q; rfl)
  simp only [binaryOp, hi]
  refine wpAny_holding (wpAny_bind ?_)
  unfold binaryOp1
  refine wpAny_bind (L1.at (wpAny_bind (L2.at (wpAny_bind (L3.at ?_)))))
  simp only [hne, Bool.false_eq_true, if_false]
  ksp_lk
  refine wpAny_mono one (fun r s' z => ?_) fun _ _ e => e
  obtain ⟨v, rfl, hq⟩ := z
  ksp_lk
  exact hq
theorem op_binOwn {X : Cx} {CX : CXT} {op : Operator} {C C2 f f2 : Addr} {fd : FuncData} {ps : List Str} {k : Nat} {sp : Sp} {E : XK} (h1 : OpC X.K op.info.2 C f) (h2 : OpC X.K op.info.2 C2 f2) (hs : C = C2 ∨ PySem.W.subIn X.K (.ref C2) (.ref C) = some false)
    (F : FnOk X.prog X.w X.K X.mg X.base CX k f fd ps sp) (hr : Room k X.A) (hb : Binds X.K fd ps []) (hx : Passes CX X E) : OpR X (binaryOp op) (rBinOwn C C2 sp E) := by
  intro pins s σ H x y v u Q I rx ry h
  obtain ⟨a, b, dx, dy, fs, gs, rfl, rfl, ha, hb2, hsp⟩ := h
  cases (show v = Value.ref a from rx)
  cases (show u = Value.ref b from ry)
  obtain ⟨mA, J, _⟩ := ins_get I.hok ha
  obtain ⟨oa, J, _⟩ := J.look
  obtain ⟨mB, J2, _⟩ := ins_get I.hok hb2
  obtain ⟨ob, J2, _⟩ := J2.look
  have one := wpAny_mono (call_at F hb hx (sub_here hr) I (us := [.ref a, .ref b]) (.cons (show RelV (.ref a) (Value.ref a) from rfl) (.cons (show RelV (.ref b) (Value.ref b) from rfl) .nil)) hsp) (fun _ _ z => back_ref z) fun _ _ z => z
  by_cases ne : C = C2
  · subst ne
    obtain ⟨m, fr⟩ := I.fr
    exact PySem.W.binop_K fr I.ok.mod.kin J J2.type h1.fst h1.find h1.isf one
  · exact bin_two I.kIn J J2 h1 h2 ne (hs.resolve_left ne) one
/-! ### x == y by the own __eq__ of x -/
structure EqC (K : PySem.W.Frag) (C f : Addr) : Prop where
  find : PySem.W.findIn K (.ref C) "__eq__" = some (some (.ref f))
  isf : PySem.W.isFn K (.ref f) = true
def rEqOwn (K : PySem.W.Frag) (C : Addr) (sp : Sp) (E : XK) : R2 := fun x y H Q => ∃ a dx fs, x = .ref a ∧ H a = some (.ins C dx fs) ∧
  ((∃ b C2 dy gs, y = .ref b ∧ H b = some (.ins C2 dy gs) ∧ PySem.W.notFirst K C (.ref C2) = true) ∨ ∃ z, y = .str z ∧ PySem.W.notFirst K C (.type "str") = true) ∧ sp [.ref a, y] H (fun v H' => ∃ b, v = .bl b ∧ Q (.bl b) H') E
theorem back_bl {X : Cx} {pins : List (Addr × Obj)} {σ : L2.St} {Q : VK} {v : Value} {s : Shared} (h : EP X pins σ (fun v H' => ∃ b, v = .bl b ∧ Q (.bl b) H') v s) : PySem.W.CmpBack (EP X pins σ Q) v s := by
  obtain ⟨x, H', I, r, p, rfl, q⟩ := h
  cases (show v = Value.bool p from r)
  exact ⟨.bl p, H', I, rfl, q⟩
theorem op_eqOwn {X : Cx} {CX : CXT} {C f : Addr} {fd : FuncData} {ps : List Str} {k : Nat} {sp : Sp} {E : XK} (h1 : EqC X.K C f) (F : FnOk X.prog X.w X.K X.mg X.base CX k f fd ps sp) (hr : Room k X.A) (hb : Binds X.K fd ps []) (hx : Passes CX X E) : OpR X (compareOp .Eq) (rEqOwn X.K C sp E) := by
  intro pins s σ H x y v u Q I rx ry h
  obtain ⟨a, dx, fs, rfl, ha, hy, hsp⟩ := h
  cases (show v = Value.ref a from rx)
  obtain ⟨mA, J, _⟩ := ins_get I.hok ha
  obtain ⟨oa, J, _⟩ := J.look
  obtain ⟨m, fr⟩ := I.fr
  have one := wpAny_mono (call_at F hb hx (sub_here hr) I (us := [.ref a, u]) (.cons (show RelV (.ref a) (Value.ref a) from rfl) (.cons ry .nil)) hsp) (fun _ _ z => back_bl z) fun _ _ z => z
  show wpAny _ _ (richCompare .Eq (.ref a) u) _ _ s
  rcases hy with ⟨b, C2, dy, gs, rfl, hb2, nf⟩ | ⟨z, rfl, nf⟩
  · cases (show u = Value.ref b from ry)
    obtain ⟨mB, J2, _⟩ := ins_get I.hok hb2
    obtain ⟨ob, J2, _⟩ := J2.look
    exact PySem.W.cmp_K (op := .Eq) hr.units0 fr I.ok.mod.kin J J2.type nf h1.find h1.isf one
  · obtain ⟨t, rfl⟩ := ry
    exact PySem.W.cmp_K (op := .Eq) (tb := .type "str") hr.units0 fr I.ok.mod.kin J (PySem.W.Looks.of_pure rfl) nf h1.find h1.isf one
/-! ### str(x) and {x} by the own __str__ of x -/
structure StC (K : PySem.W.Frag) (C f : Addr) : Prop where
  find : PySem.W.findIn K (.ref C) "__str__" = some (some (.ref f))
  isf : PySem.W.isFn K (.ref f) = true
def rStrOwn (C : Addr) (sp : Sp) (E : XK) : List V → Hp → VK → Prop := fun xs H Q => ∃ a dx fs, xs = [.ref a] ∧ H a = some (.ins C dx fs) ∧ sp [.ref a] H (fun v H' => ∃ z, v = .str z ∧ Q (.str z) H') E
theorem back_str {X : Cx} {pins : List (Addr × Obj)} {σ : L2.St} {Q : VK} {v : Value} {s : Shared} (h : EP X pins σ (fun v H' => ∃ z, v = .str z ∧ Q (.str z) H') v s) : PySem.W.StrBack (EP X pins σ Q) v s := by
  obtain ⟨x, H', I, r, p, rfl, q⟩ := h
  obtain ⟨t, rfl⟩ := r
  exact ⟨.str p, H', I, ⟨t, rfl⟩, q⟩
theorem call_strOwn {X : Cx} {CX : CXT} {C f : Addr} {fd : FuncData} {ps : List Str} {k : Nat} {sp : Sp} {E : XK} (h1 : StC X.K C f) (F : FnOk X.prog X.w X.K X.mg X.base CX k f fd ps sp) (hr : Room (k + 2) X.A) (hb : Binds X.K fd ps []) (hx : Passes CX X E) : CallR X (.type "str") (rStrOwn C sp E) := by
  intro pins s σ H xs us Q I r h
  obtain ⟨a, dx, fs, rfl, ha, hsp⟩ := h
  obtain ⟨u, rfl, rx⟩ := vals1 r
  cases (show u = Value.ref a from rx)
  obtain ⟨mA, J, _⟩ := ins_get I.hok ha
  obtain ⟨oa, J, _⟩ := J.look
  have sb : Sub X k X.A.in1.in1 := (sub_here hr).in1.in1
  exact PySem.W.kso_call sb.room.units0 I.kIn J h1.find h1.isf (wpAny_mono (call_at F hb hx sb I (us := [.ref a]) (.cons (show RelV (.ref a) (Value.ref a) from rfl) .nil) hsp) (fun _ _ z => back_str z) fun _ _ z => z)
def tFmtOwn (C : Addr) (sp : Sp) (E : XK) (te : TE) : TE := fun σ H Q => te σ H fun x H1 => rStrOwn C sp E [x] H1 Q
structure FmC (K : PySem.W.Frag) (C f : Addr) : Prop where
  str : StC K C f
  fmt : PySem.W.findIn K (.ref C) "__format__" = some (some (.builtin "object.__format__"))
  obj : PySem.W.mroIn K C (.type "object") = some true
theorem pe_fmtOwn {X : Cx} {CX : CXT} {C f : Addr} {fd : FuncData} {ps : List Str} {k : Nat} {sp : Sp} {E : XK} {e : Expr} {te : TE} {pos : Pos} (h1 : FmC X.K C f) (F : FnOk X.prog X.w X.K X.mg X.base CX k f fd ps sp) (hr : Room (k + 1) X.A) (hb : Binds X.K fd ps []) (hx : Passes CX X E) (he : PE X e te) :
    PE X (.FormattedValue e (-1) none pos) (tFmtOwn C sp E te) := by
  refine ⟨fun pins s σ H Q I0 h0 => ?_⟩
  refine wpAny_FormattedValue_plain (thn (he.run pins s σ H _ I0 h0) fun v s1 hv => ?_)
  obtain ⟨x, H1, I, r1, a, dx, fs, hxs, ha, hsp⟩ := hv
  cases hxs
  cases (show v = Value.ref a from r1)
  have I2 : Inv X pins σ H1 { s1 with toks := s1.toks + 1 } := I.tok _
  obtain ⟨mA, J, _⟩ := ins_get I.hok ha
  obtain ⟨oa, J, _⟩ := J.look
  have sb : Sub X k X.A.in1 := (sub_here hr).in1
  exact PySem.W.kfo_fieldS sb.room.units0 I.kIn J h1.fmt h1.obj h1.str.find h1.str.isf (wpAny_mono (call_at F hb hx sb I2 (us := [.ref a]) (.cons (show RelV (.ref a) (Value.ref a) from rfl) .nil) hsp) (fun _ _ z => back_str z) fun _ _ z => z)
/-- one of two rules, by what stands there -/
def tAlt (t u : TE) : TE := fun σ H Q => t σ H Q ∨ u σ H Q
theorem pe_alt {X : Cx} {e : Expr} {t u : TE} (h1 : PE X e t) (h2 : PE X e u) : PE X e (tAlt t u) := ⟨fun pins s σ H Q I h => h.elim (h1.run pins s σ H Q I) (h2.run pins s σ H Q I)⟩
def tAltT (t u : TT) : TT := fun σ H Q => t σ H Q ∨ u σ H Q
theorem pt_alt {X : Cx} {e : Expr} {t u : TT} (h1 : PT X e t) (h2 : PT X e u) : PT X e (tAltT t u) := ⟨fun pins s σ H Q I h => h.elim (h1.run pins s σ H Q I) (h2.run pins s σ H Q I)⟩
theorem et_alt3 {a b c : TE} {σ : L2.St} {H : Hp} {k : Bool} (h : Ev (tAlt a (tAlt b c)) σ H (.bl k)) : EvT (tAltT (tTest a) (tAltT (tTest b) (tTest c))) σ H k := fun H1 e Q q =>
  h H1 e (fun v H2 => ∃ k, v = .bl k ∧ Q k H2) fun H2 e2 => ⟨k, rfl, q H2 e2⟩
/-- s.join(e) within a comprehension -/
theorem pe_joinK {X : Cx} {o e : Expr} {to te : TE} (K : PySem.W.Frag) (eK : X.K = K) {apos pos : Pos} (ho : PE X o to) (he : PE X e te) (hs : starEach [e] X.env = [(false, eval e X.env)] := by rfl) (hbase : attributeBase o "join" X.env (eval o X.env) = eval o X.env := by rfl) (hline : (apos.endLine == pos.line) = true := by rfl) :
    PE X (.Call (.Attribute o "join" apos) [e] [] pos) (tM1 (fun x xs H Q => ∃ a p, ∃ ys : List Str, x = .str a ∧ xs = [.ref p] ∧ (SqL K H p (ys.map V.str) ∨ SqT K H p (ys.map V.str)) ∧
      (ys.map (·.length)).sum + ys.length * a.length ≤ 16777216 ∧ Q (.str (Txt.join a ys)) H) to te) := eK ▸ pe_join ho he hs hbase hline
/-! ### the defs of such classes, as the terms name them -/
section
variable (P : Program) (w : World) (K : PySem.W.Frag) (mg : Str → Option Value) (base : Heap)
def DfO (nm : String) (C : Addr) (ps : List Str) (k : Nat) (sp : Sp) : Prop := ∃ (f : Addr) (fd : FuncData), OpC K nm C f ∧ Binds K fd ps [] ∧ FnOk P w K mg base (L2.CX P w) k f fd ps sp
def DfEq (C : Addr) (ps : List Str) (k : Nat) (sp : Sp) : Prop := ∃ (f : Addr) (fd : FuncData), EqC K C f ∧ Binds K fd ps [] ∧ FnOk P w K mg base CX0 k f fd ps sp
def DfSt (C : Addr) (ps : List Str) (k : Nat) (sp : Sp) : Prop := ∃ (f : Addr) (fd : FuncData), FmC K C f ∧ Binds K fd ps [] ∧ FnOk P w K mg base CX0 k f fd ps sp
/-- an own class whose __init__ may raise -/
def DfIX (x : Str) (C : Addr) (ps : List Str) (k : Nat) (sp : Sp) : Prop := ∃ (f : Addr) (fd : FuncData), Mk K C f ∧ mg x = some (.ref C) ∧ Binds K fd ps [] ∧ FnOk P w K mg base (L2.CX P w) k f fd ps sp
end
section
variable {X : Cx} {C C2 : Addr} {ps ps2 : List Str} {k k2 : Nat} {sp sp2 : Sp} {E : XK}
theorem op_dfO {op : Operator} {nm : String} (D : DfO X.prog X.w X.K X.mg X.base nm C ps k sp) (D2 : DfO X.prog X.w X.K X.mg X.base nm C2 ps2 k2 sp2) (hs : C = C2 ∨ PySem.W.subIn X.K (.ref C2) (.ref C) = some false) (hr : Room k X.A) (tk : Takes X (fun cls d _ H => E cls d H)) (he : op.info.2 = nm := by rfl) :
    OpR X (binaryOp op) (rBinOwn C C2 sp E) := by
  subst he
  obtain ⟨f, fd, h1, hb, F⟩ := D
  obtain ⟨f2, fd2, h2, _, _⟩ := D2
  exact op_binOwn h1 h2 hs F hr hb (passes_call tk fun _ _ _ _ h => h)
theorem op_eq_df (D : DfEq X.prog X.w X.K X.mg X.base C ps k sp) (hr : Room k X.A) : OpR X (compareOp .Eq) (rEqOwn X.K C sp E0) := by
  obtain ⟨f, fd, h1, hb, F⟩ := D
  exact op_eqOwn h1 F hr hb pass0
theorem call_str_df (D : DfSt X.prog X.w X.K X.mg X.base C ps k sp) (hr : Room (k + 2) X.A) : CallR X (.type "str") (rStrOwn C sp E0) := by
  obtain ⟨f, fd, h1, hb, F⟩ := D
  exact call_strOwn h1.str F hr hb pass0
theorem pe_fmt_df {e : Expr} {te : TE} {pos : Pos} (D : DfSt X.prog X.w X.K X.mg X.base C ps k sp) (hr : Room (k + 1) X.A) (he : PE X e te) : PE X (.FormattedValue e (-1) none pos) (tFmtOwn C sp E0 te) := by
  obtain ⟨f, fd, h1, hb, F⟩ := D
  exact pe_fmtOwn h1 F hr hb pass0 he
theorem pe_mkIX {x : Str} {p pos : Pos} {e : Expr} {es : List Expr} {t : TA} (D : DfIX X.prog X.w X.K X.mg X.base x C ps k sp) (hr : Room (k + 1) X.A) (hg : Gl X x) (tk : Takes X (fun cls d _ H => E cls d H)) (ha : PA X (e :: es) t) (hdb : (x == ("__debug__" : Str)) = false := by decide)
    (he : starEach (e :: es) X.env = (false, eval e X.env) :: starEach es X.env := by rfl) (hpl : (backTo pos (starEach es X.env)).any (·.1) = false := by rfl) : PE X (.Call (.Name x p) (e :: es) [] pos) (tMake C sp [] E t) := by
  obtain ⟨f, fd, M, hm, hb, F⟩ := D
  exact pe_make M F hr hg hm hb .nil (passes_call tk fun _ _ _ _ h => h) ha hdb he hpl
end
end Kz
namespace Kz
open PySem PySem.Spec PyProof.Rows L2 Evl StX
def kI (ns : List Nat) : List Key := ns.map fun (n : Nat) => Sum.inl (n : Int)
theorem kI_V (ns : List Nat) : (kI ns).map kV = ns.map fun (n : Nat) => V.int (n : Int) := by
  unfold kI
  rw [List.map_map]
  rfl
theorem kI_inj {a b : List Nat} (h : kI a = kI b) : a = b := by
  unfold kI at h
  induction a generalizing b with
  | nil =>
    cases b with
    | nil => rfl
    | cons _ _ => cases h
  | cons x a ih =>
    cases b with
    | nil => cases h
    | cons y b =>
      injection h with h1 h2
      injection h1 with h1
      rw [ih h2, Int.ofNat.inj h1]
theorem tk_room {A : Around} {prog : Program} {w : World} {K : Type} [DecidableEq K] {knd : KeyKind prog w K} (hu : A.units + 1 < cLine) : (tupleKind knd).room A := Nat.lt_of_succ_lt hu
/-- {k: v}, k a tuple -/
def tDisp1T (tk tv : TE) : TE := fun σ H Q => ∀ p, H p = none → tk σ (upd H p (.dT [])) fun x H1 => tv σ H1 fun y H2 => ∃ (b : Addr) (ks : List Key), x = .ref b ∧ H2 b = some (.tup (ks.map kV)) ∧ H2 p = some (.dT []) ∧ Q (.ref p) (upd H2 p (.dT [(ks, y)]))
theorem pe_disp1T {X : Cx} {k v : Expr} {tk tv : TE} {pos : Pos} (hu : X.A.units + 1 < cLine) (hk : PE X k tk) (hv : PE X v tv) : PE X (.Dict [some k] [v] pos) (tDisp1T tk tv) := by
  refine ⟨fun pins s σ H Q I q => ?_⟩
  have hn := I.hok.fresh (Nat.le_refl s.heap.objs.size)
  have I1 := I.laid (a := s.heap.objs.size) (o := .dT []) (h' := s.heap.push { cls := .type "dict", data := .dict #[] }) (t' := s.toks) (fun _ _ q => Heap.get?_push_of_some _ q) (Nat.le_refl _) (dt_empty s.heap I.big)
  rw [arm_eval_Dict, zip_pairTrees [some k] [v] X.env pos rfl rfl, dictDisplay_pairs _ (by simp [pairTrees]) (by simp [pairTrees])]
  refine wpAny_bind (wpAny_standAt (wpAny_bind ?_))
  unfold subDict
  refine wpAny_bind (wpAny_alloc ?_)
  refine wpAny_bind (wpAny_holding ?_)
  rw [if_pos (show (pairTrees [some k] [v] X.env pos).length ≤ 15 by show 1 ≤ 15; decide)]
  refine wpAny_bind (evalPairs_cons (thn (hk.run pins _ σ _ _ I1 (q _ hn)) fun u s1 h1 => ?_))
  obtain ⟨x, H1, I2, rx, q1⟩ := h1
  refine wpAny_bind (thn (hv.run pins s1 σ H1 _ I2 q1) fun u2 s2 h2 => wpAny_bind (wpAny_standAt (wpAny_pure (evalPairs_nil ?_))))
  obtain ⟨y, H2, I3, ry, b, ks, ex, eb, ep, q2⟩ := h2
  subst ex
  obtain rfl : u = Value.ref b := rx
  obtain ⟨z, hd, xs, rel, dd⟩ := dt_of I3.hok ep
  cases rel
  refine wpAny_holding (wpAny_bind ?_)
  rw [List.forIn_cons]
  refine wpAny_bind (wpAny_bind (wpAny_dictSet_heap (hsz := by simp) ((tk_room hu)) (key_of I3.hok eb) dd fun h' dd' hs => wpAny_pure ?_))
  dsimp only
  rw [List.forIn_nil]
  refine wpAny_pure (wpAny_pure (wpAny_pure (wpAny_pure ⟨.ref s.heap.objs.size, _, ?_, rfl, q2⟩)))
  obtain ⟨qo, es, pp, hq, h2, h3, h4, _, h5⟩ := dd'
  have rel2 : KT H2 (putK ([] : List (List Key × V)) ks y) (storedH [] ks b u2) := KT.put .nil ks eb ry
  exact d_write I3 (by rw [ep]; exact True.intro) hs ⟨qo, hq⟩ ⟨by rw [sizeLine_eq]; show 1 ≤ _; omega, hd, _, rel2.keeps fun c ys ec => by
    rw [upd_ne (ne_of ec ep (fun z => nomatch z))]
    exact ec, qo, es, pp, hq, h2, h3, h4, h5⟩
/-! lists of objects, by place -/
theorem Rs.at {α : Type} {R : α → Addr → Hp → Prop} {H : Hp} {vs : List V} {xs : List α} (h : Rs R H vs xs) {i : Nat} {x : α} (hi : xs[i]? = some x) : ∃ p, vs[i]? = some (.ref p) ∧ R x p H := by
  induction h generalizing i with
  | nil => cases hi
  | cons r0 _ ih =>
    cases i with
    | zero =>
      cases hi
      exact ⟨_, rfl, r0⟩
    | succ i => exact ih hi
/-! zip of two lists; zip of a list of pairs and a tuple -/
section
variable {K : PySem.W.Frag} {σ : L2.St} {H : Hp} {te tl : TE}
theorem elv_zipL {ta : TA} {a b : Addr} {us vs xs : List V} {j k : Nat} {ws : List Nat} (h : EvA ta σ H [.ref a, .ref b]) (hx : SqL K H a us) (hy : SqL K H b vs) (hn : us.length ≤ 40000) (hl : xs.length = us.length) (h2 : us.length = vs.length)
    (hw : ∀ x y, wipe (((wipe σ ws).set j (some x)).set k (some y)) ws = wipe σ ws)
    (he : ∀ (i : Nat) (u v y : V) (H1 : Hp), Ex H H1 → us[i]? = some u → vs[i]? = some v → xs[i]? = some y → Ev te (((wipe σ ws).set j (some u)).set k (some v)) H1 y) : EvL (tLc (iZip K ta) (gTup K 2 (gCons (gName j) (gCons (gName k) gNil))) tYes te ws) σ H xs := fun H0 e Q q => h H0 e _ fun H1 e1 => ⟨a, b, us, vs, rfl, ex_l (e.trans e1) hx, ex_l (e.trans e1) hy,
  lcVs (H0 := H1) (walk_zip (K := K) (a := a) (b := b) (xs := us) (ys := vs) (n := us.length) (by omega)) (by omega) hl (fun H2 e2 => ⟨ex_l ((e.trans e1).trans e2) hx, ex_l ((e.trans e1).trans e2) hy⟩) (fun i y x H2 H3 hyi e2 yy kk hk => by
    obtain ⟨m, u, v, rfl, hm, rfl, hu, hv⟩ := yy
    refine ⟨m, [u, v], rfl, st_of upd_same, rfl, u, [v], rfl, v, [], rfl, rfl, ?_⟩
    exact hk _ _ (Ex.new hm) (hw _ _) (he i u v y _ (((e.trans e1).trans e2).trans (Ex.new hm)) hu hv hyi)) fun l H2 hl0 e2 h2 => q l H2 (fresh_back e1 hl0) (e1.trans e2) h2⟩
theorem elv_zipN {ta : TA} {a b : Addr} {us vs xs : List V} {j1 j2 k : Nat} {ws : List Nat} (h : EvA ta σ H [.ref a, .ref b]) (hx : SqL K H a us) (hy : SqT K H b vs) (hn : us.length ≤ 40000) (hl : xs.length = us.length) (h2 : us.length = vs.length)
    (hw : ∀ x y z, wipe ((((wipe σ ws).set j1 (some x)).set j2 (some y)).set k (some z)) ws = wipe σ ws)
    (he : ∀ (i : Nat) (u v y : V), us[i]? = some u → vs[i]? = some v → xs[i]? = some y → ∃ (p : Addr) (x1 x2 : V), u = .ref p ∧ H p = some (.tup [x1, x2]) ∧ ∀ H1, Ex H H1 → Ev te ((((wipe σ ws).set j1 (some x1)).set j2 (some x2)).set k (some v)) H1 y) :
    EvL (tLc (iZipM K ta) (gTup K 2 (gCons (gTup K 2 (gCons (gName j1) (gCons (gName j2) gNil))) (gCons (gName k) gNil))) tYes te ws) σ H xs := fun H0 e Q q => h H0 e _ fun H1 e1 => ⟨a, b, us, vs, rfl, ⟨ex_l (e.trans e1) hx, ex_t (e.trans e1) hy⟩,
  lcVs (H0 := H1) (walkM (K := K) (a := a) (b := b) h2) (by omega) hl (fun H2 e2 => ⟨ex_l ((e.trans e1).trans e2) hx, ex_t ((e.trans e1).trans e2) hy⟩) (fun i y x H2 H3 hyi e2 yy kk hk => by
    obtain ⟨m, u, v, rfl, hm, rfl, hu, hv⟩ := yy
    obtain ⟨p, x1, x2, rfl, hp, hE⟩ := he i u v y hu hv hyi
    have e3 := (((e.trans e1).trans e2).trans (Ex.new (o := .tup [V.ref p, v]) hm))
    refine ⟨m, [V.ref p, v], rfl, st_of upd_same, rfl, V.ref p, [v], rfl, ?_⟩
    refine ⟨p, [x1, x2], rfl, st_of (e3 _ _ hp), rfl, x1, [x2], rfl, x2, [], rfl, rfl, ?_⟩
    refine ⟨v, [], rfl, rfl, ?_⟩
    exact hk _ _ (Ex.new hm) (hw _ _ _) (hE _ e3)) fun l H2 hl0 e2 h2 => q l H2 (fresh_back e1 hl0) (e1.trans e2) h2⟩
end
/-! comprehensions of objects whose own lists are told apart from the one that is filled -/
def Off2 {α : Type} (R : α → Addr → Hp → Prop) : Prop := ∀ x p H D acc ys, R x p H → H D = some (.lst acc) → Rs R H acc ys → p ≠ D → R x p (hide D H)
theorem lcRs2 {α : Type} {R : α → Addr → Hp → Prop} {xs : List α} {J : It} {n : Nat} {G : Hp → Prop} {Y : Nat → Hp → V → Hp → Prop} (w : Walk J n G Y) {g : TG} {te : TE} {us : List Nat} {σ : L2.St} {H1 H0 : Hp} {Q : VK} (up : Up R) (off : Off2 R) (hn : n ≤ 100000) (hl : xs.length = n) (hG : ∀ H, Ex H1 H → G H)
    (hs : ∀ i y x H H', xs[i]? = some y → Ex H1 H → Y i H x H' → ∀ k : L2.St → Hp → Prop, (∀ σ2 H2, Ex H H2 → wipe σ2 us = wipe σ us → EvN te σ2 H2 (R y) → k σ2 H2) → g x (wipe σ us) H' k)
    (hq : ∀ l vs H2, H1 l = none → Ex H1 H2 → H2 l = some (.lst vs) → Rs R H2 vs xs → Q (.ref l) H2) : tLc (iHere J H1) g tYes te us σ H0 Q := fun D hD => by
  refine lc_it w (fun i H => ∃ vs, H D = some (.lst vs) ∧ Ex H1 (hide D H) ∧ Rs R (hide D H) vs (xs.take i)) ⟨[], upd_same, ?_, ?_⟩ ?_ ?_ ?_
  · rw [hide_upd, hide_none hD]
    exact Ex.refl _
  · exact .nil
  · rintro i H _ ⟨vs, _, e, _⟩
    exact hG H (e.trans hide_le)
  · rintro i x H H' hi ⟨vs, hv, e, r⟩ y
    obtain ⟨z, hz⟩ : ∃ z, xs[i]? = some z := ⟨xs[i]'(by omega), List.getElem?_eq_getElem (by omega)⟩
    refine hs i z x H H' hz (e.trans hide_le) y _ fun σ2 H2 e2 hw ev => ⟨hw, ?_⟩
    show te σ2 H2 fun y H4 => ∃ acc, H4 D = some (.lst acc) ∧ acc.length < sizeLine ∧ _
    refine ev H2 (Ex.refl _) _ fun p H3 hp e3 rp => ?_
    have hv2 := e2 _ _ hv
    have hv3 := e3 _ _ hv2
    have ne : p ≠ D := fun q => by
      rw [q, hv2] at hp
      cases hp
    have el : vs.length = (xs.take i).length := r.len
    rw [List.length_take] at el
    refine ⟨vs, hv3, sz_lt (by omega), vs ++ [.ref p], upd_same, ?_, ?_⟩
    · rw [hide_upd]
      exact e.trans (ex_hide (e2.trans e3))
    · rw [hide_upd, List.take_add_one, hz]
      exact (r.ex up (ex_hide (e2.trans e3))).snoc (off _ _ _ _ _ _ rp hv3 (r.ex up ((hide_le.trans e2).trans e3)) ne)
  · rintro H ⟨vs, hv, e, r⟩
    rw [← hl, List.take_length] at r
    exact hq D vs H hD (e.trans hide_le) hv (r.ex up hide_le)
theorem ers_lc2 {α : Type} {R : α → Addr → Hp → Prop} {xs : List α} {K : PySem.W.Frag} {σ : L2.St} {H : Hp} {te tl : TE} {a : Addr} {us : List V} {j : Nat} {ws : List Nat} (up : Up R) (off : Off2 R) (h : Ev tl σ H (.ref a)) (hx : SqL K H a us) (hn : us.length ≤ 40000) (hl : xs.length = us.length) (hw : ∀ x, wipe ((wipe σ ws).set j (some x)) ws = wipe σ ws)
    (he : ∀ (i : Nat) (u : V) (y : α) (H1 : Hp), Ex H H1 → us[i]? = some u → xs[i]? = some y → EvN te ((wipe σ ws).set j (some u)) H1 (R y)) : EvRs (tLc (iList K tl) (gName j) tYes te ws) σ H R xs := fun H0 e Q q => h H0 e _ fun H1 e1 => ⟨a, rfl, ⟨us, ex_l (e.trans e1) hx⟩,
  lcRs2 (H0 := H1) (walk_list (K := K) (a := a) (xs := us)) up off (by omega) hl (fun H2 e2 => ex_l ((e.trans e1).trans e2) hx) (fun i y x H2 H3 hy e2 yy k hk => by
    obtain ⟨rfl, hu⟩ := yy
    exact hk _ _ (Ex.refl _) (hw _) (he i x y _ ((e.trans e1).trans e2) hu hy)) fun l vs H2 hl0 e2 h2 r => q l vs H2 (fresh_back e1 hl0) (e1.trans e2) h2 r⟩
theorem Rs.app' {α : Type} {R : α → Addr → Hp → Prop} {H : Hp} {vs ws : List V} {xs ys : List α} (h : Rs R H vs xs) (k : Rs R H ws ys) : Rs R H (vs ++ ws) (xs ++ ys) := by
  induction h with
  | nil => exact k
  | cons r _ ih => exact .cons r ih
theorem Rs.off {α : Type} {R : α → Addr → Hp → Prop} {H : Hp} {D : Addr} {acc vs : List V} {xs : List α} (off : Off R) (nl : ∀ x p H D acc, R x p H → H D = some (.lst acc) → p ≠ D) (r : Rs R H vs xs) (hD : H D = some (.lst acc)) (refs : ∀ v ∈ acc, ∃ q : Addr, v = .ref q) : Rs R (hide D H) vs xs :=
  r.imp fun x p _ h => off x p H D acc h hD refs (nl x p H D acc h hD)
/-- two fors, the outer over a new list, the inner over a new list of objects each time, which are kept -/
theorem ers_flat {α : Type} {R : α → Addr → Hp → Prop} {K : PySem.W.Frag} {σ : L2.St} {H : Hp} {te te1 tl : TE} {us : List V} {ys : List (List α)} {j k : Nat} {ws ws1 : List Nat} (up : Up R) (off : Off R) (nl : ∀ x p H D acc, R x p H → H D = some (.lst acc) → p ≠ D) (h : EvL tl σ H us) (hl : ys.length = us.length) (hm : ys.flatten.length ≤ 40000)
    (hw : ∀ x, wipe ((wipe σ ws).set j (some x)) ws = wipe σ ws) (hw1 : ∀ x y, wipe ((wipe ((wipe σ ws).set j (some x)) ws1).set k (some y)) ws1 = wipe ((wipe σ ws).set j (some x)) ws1)
    (hi : ∀ (i : Nat) (u : V) (y : List α) (H1 : Hp), Ex H H1 → us[i]? = some u → ys[i]? = some y → EvRs te1 ((wipe σ ws).set j (some u)) H1 R y)
    (he : ∀ (u x : V) (H1 : Hp), Ex H H1 → Ev te ((wipe ((wipe σ ws).set j (some u)) ws1).set k (some x)) H1 x) :
    EvRs (tLc2 (iList K tl) (gName j) tYes (iList K te1) (gName k) tYes te ws ws1) σ H R ys.flatten := fun H0 e Q q => h H0 e _ fun a H1 ha0 e1 ha => ⟨a, rfl, ⟨us, sq_of ha⟩, fun D hD => by
  have w := walk_list (K := K) (a := a) (xs := us)
  have cut : ∀ i, (ys.take i).flatten.length ≤ ys.flatten.length := fun i => by
    conv => rhs; rw [← List.take_append_drop i ys, List.flatten_append, List.length_append]
    omega
  refine ⟨fun i c H2 => c = us.length - i ∧ i ≤ us.length ∧ ∃ vs, H2 D = some (.lst vs) ∧ Ex H1 (hide D H2) ∧ Rs R (hide D H2) vs (ys.take i).flatten, ⟨us.length, rfl, Nat.zero_le _, [], upd_same, ?_, .nil⟩, ?_⟩
  · rw [hide_upd, hide_none hD]
    exact Ex.refl _
  rintro i c H2 ⟨rfl, hi0, vs, hv, e2, r2⟩
  have e12 := (e.trans e1).trans (e2.trans hide_le)
  have ha2 : SqL K H2 a us := sq_of (hide_le _ _ (e2 _ _ ha))
  by_cases lt : i < us.length
  · refine .inr ⟨w.goes i H2 lt ha2, fun H' => ∃ vs, H' D = some (.lst vs) ∧ Ex H1 (hide D H') ∧ Rs R (hide D H') vs (ys.take (i + 1)).flatten, fun H' z => ⟨_, by omega, rfl, lt, z⟩, fun x H' yy => ?_⟩
    obtain ⟨rfl, hu⟩ := w.yields i H2 x H' lt ha2 yy
    obtain ⟨y, hy⟩ : ∃ y, ys[i]? = some y := ⟨ys[i]'(by omega), List.getElem?_eq_getElem (by omega)⟩
    refine ⟨hw _, ?_⟩
    show te1 _ H' _
    refine hi i x y H' e12 hu hy H' (Ex.refl _) _ fun l zs H3 hl0 e3 h3 r3 => ⟨l, rfl, ⟨_, sq_of h3⟩, ?_⟩
    have hv3 := e3 _ _ hv
    have nlD : l ≠ D := fun z => by
      rw [z, hv] at hl0
      cases hl0
    have h3' : hide D H3 l = some (.lst zs) := by rw [hide_ne nlD]; exact h3
    have w2 := walk_list (K := K) (a := l) (xs := zs)
    have e23 : Ex H1 (hide D H3) := e2.trans (ex_hide e3)
    have r3' : Rs R (hide D H3) zs y := r3.off off nl hv3 r2.refs
    have r2' := r2.ex up (ex_hide e3)
    have tk : (ys.take (i + 1)).flatten = (ys.take i).flatten ++ y := by
      rw [List.take_add_one, hy, List.flatten_append]
      simp
    have lz := r3'.len
    have lv := r2'.len
    have c1 := cut (i + 1)
    rw [tk, List.length_append] at c1
    refine ⟨fun i2 c2 H4 => c2 = zs.length - i2 ∧ i2 ≤ zs.length ∧ H4 D = some (.lst (vs ++ zs.take i2)) ∧ Ex (hide D H3) (hide D H4), ⟨zs.length, rfl, Nat.zero_le _, ?_, Ex.refl _⟩, ?_⟩
    · rw [hv3, List.take_zero, List.append_nil]
    rintro i2 c2 H4 ⟨rfl, hi2, hv4, e4⟩
    have q4 : SqL K H4 l zs := sq_of (hide_le _ _ (e4 _ _ h3'))
    have ee : Ex H H4 := (e.trans e1).trans ((e23.trans e4).trans hide_le)
    by_cases lt2 : i2 < zs.length
    · refine .inr ⟨w2.goes i2 H4 lt2 q4, fun H' => H' D = some (.lst (vs ++ zs.take (i2 + 1))) ∧ Ex (hide D H3) (hide D H'), fun H' z => ⟨_, by omega, rfl, lt2, z.1, z.2⟩, fun x2 H' yy => ?_⟩
      obtain ⟨rfl, hx2⟩ := w2.yields i2 H4 x2 H' lt2 q4 yy
      refine ⟨hw1 _ _, ?_⟩
      show (te _ H' _)
      refine he _ _ H' ee H' (Ex.refl _) _ fun H6 e6 => ⟨_, e6 _ _ hv4, sz_lt ?_, ?_, ?_⟩
      · rw [List.length_append, List.length_take]
        omega
      · rw [upd_same, List.append_assoc, List.take_add_one, hx2]
        rfl
      · rw [hide_upd]
        exact e4.trans (ex_hide e6)
    · have ei : i2 = zs.length := by omega
      subst ei
      rw [List.take_length] at hv4
      have st := w2.stops H4 q4
      refine .inl ⟨st, vs ++ zs, hv4, e23.trans e4, ?_⟩
      rw [tk]
      exact (r2'.ex up e4).app' (r3'.ex up e4)
  · have ei : i = us.length := by omega
    subst ei
    rw [← hl, List.take_length] at r2
    exact .inl ⟨w.stops H2 ha2, q D vs H2 (fresh_back e1 hD) (e1.trans (e2.trans hide_le)) hv (r2.ex up hide_le)⟩⟩
/-- [*xs, *ys] -/
theorem el_star2 {K : PySem.W.Frag} {σ : L2.St} {H : Hp} {ta tb : TE} {a b : Addr} {xs ys : List V} (ha : Ev ta σ H (.ref a)) (hb : Ev tb σ H (.ref b)) (hx : SqL K H a xs) (hy : SqL K H b ys) (hl : (xs ++ ys).length ≤ 100000) : EvL (tLst (tStar K ta (tStar K tb tNil))) σ H (xs ++ ys) := fun H1 e Q q =>
  ha H1 e _ fun H2 e2 => ⟨a, xs, rfl, .inr (ex_l (e.trans e2) hx), hb H2 (e.trans e2) _ fun H3 e3 => ⟨b, ys, rfl, .inr (ex_l ((e.trans e2).trans e3) hy), by
    show (xs ++ (ys ++ [])).length ≤ sizeLine ∧ _
    rw [List.append_nil]
    exact ⟨sz_of hl, fun p hp => q p _ (fresh_back (e2.trans e3) hp) ((e2.trans e3).trans (Ex.new hp)) upd_same⟩⟩⟩
/-- for i, x in enumerate(a list that stands) -/
theorem q_forEL {K : PySem.W.Frag} {σ : L2.St} {H : Hp} {te : TE} {D : Ends} {tu tz : TS} {a : Addr} {xs : List V} {j k : Nat} (h : Ev te σ H (.ref a)) (hx : SqL K H a xs) (Pv : Nat → L2.St → Hp → Prop) (h0 : ∀ H1, Ex H H1 → Pv 0 σ H1) (hl : ∀ i σ' H', i ≤ xs.length → Pv i σ' H' → SqL K H' a xs)
    (hs : ∀ i x σ' H' T, xs[i]? = some x → Pv i σ' H' → H' T = none → tu { D with nx := Pv (i + 1), ct := Pv (i + 1), bk := tz D } ((σ'.set j (some (.int (i : Int)))).set k (some x)) (upd H' T (.tup [.int (i : Int), x])))
    (hd : ∀ σ' H', Pv xs.length σ' H' → tz D σ' H') : tSeq (tFor (iEnum K (tCons te tNil)) (gTup K 2 (gCons (gName j) (gCons (gName k) gNil))) tu) tz D σ H :=
  h H (Ex.refl H) _ fun H1 e => ⟨a, xs, rfl, ex_l e hx, for_it (D := { D with nx := tz D }) (walk_enum (K := K) (a := a) (xs := xs)) Pv (h0 H1 e) hl (fun i x σ' H' H'' hi pc y => by
    obtain ⟨T, i', c, rfl, hT, rfl, hi', hc⟩ := y
    cases hi'
    exact ⟨T, [_, _], rfl, st_of upd_same, rfl, _, _, rfl, _, _, rfl, rfl, hs i c σ' H' T hc pc hT⟩) hd⟩
/-- as q_forEL, with nothing behind it -/
theorem s_forEL {K : PySem.W.Frag} {σ : L2.St} {H : Hp} {te : TE} {D : Ends} {tu : TS} {a : Addr} {xs : List V} {j k : Nat} (h : Ev te σ H (.ref a)) (hx : SqL K H a xs) (Pv : Nat → L2.St → Hp → Prop) (h0 : ∀ H1, Ex H H1 → Pv 0 σ H1) (hl : ∀ i σ' H', i ≤ xs.length → Pv i σ' H' → SqL K H' a xs)
    (hs : ∀ i x σ' H' T, xs[i]? = some x → Pv i σ' H' → H' T = none → tu { D with nx := Pv (i + 1), ct := Pv (i + 1), bk := D.nx } ((σ'.set j (some (.int (i : Int)))).set k (some x)) (upd H' T (.tup [.int (i : Int), x])))
    (hd : ∀ σ' H', Pv xs.length σ' H' → D.nx σ' H') : tFor (iEnum K (tCons te tNil)) (gTup K 2 (gCons (gName j) (gCons (gName k) gNil))) tu D σ H :=
  h H (Ex.refl H) _ fun H1 e => ⟨a, xs, rfl, ex_l e hx, for_it (D := D) (walk_enum (K := K) (a := a) (xs := xs)) Pv (h0 H1 e) hl (fun i x σ' H' H'' hi pc y => by
    obtain ⟨T, i', c, rfl, hT, rfl, hi', hc⟩ := y
    cases hi'
    exact ⟨T, [_, _], rfl, st_of upd_same, rfl, _, _, rfl, _, _, rfl, rfl, hs i c σ' H' T hc pc hT⟩) hd⟩
/-- as q_forEL, for any target -/
theorem q_forEg {K : PySem.W.Frag} {σ : L2.St} {H : Hp} {te : TE} {D : Ends} {tu tz : TS} {g : TG} {a : Addr} {xs : List V} (h : Ev te σ H (.ref a)) (hx : SqL K H a xs) (Pv : Nat → L2.St → Hp → Prop) (h0 : ∀ H1, Ex H H1 → Pv 0 σ H1) (hl : ∀ i σ' H', i ≤ xs.length → Pv i σ' H' → SqL K H' a xs)
    (hs : ∀ i x σ' H' T, xs[i]? = some x → Pv i σ' H' → H' T = none → g (.ref T) σ' (upd H' T (.tup [.int (i : Int), x])) fun σ2 H2 => tu { D with nx := Pv (i + 1), ct := Pv (i + 1), bk := tz D } σ2 H2)
    (hd : ∀ σ' H', Pv xs.length σ' H' → tz D σ' H') : tSeq (tFor (iEnum K (tCons te tNil)) g tu) tz D σ H :=
  h H (Ex.refl H) _ fun H1 e => ⟨a, xs, rfl, ex_l e hx, for_it (D := { D with nx := tz D }) (walk_enum (K := K) (a := a) (xs := xs)) Pv (h0 H1 e) hl (fun i x σ' H' H'' hi pc y => by
    obtain ⟨T, i', c, rfl, hT, rfl, hi', hc⟩ := y
    cases hi'
    exact hs i c σ' H' T hc pc hT) hd⟩
/-- objects told with what they hold -/
theorem Rs.choose {α β : Type} {S : α → β → Addr → Hp → Prop} {H : Hp} {vs : List V} {xs : List α} (r : Rs (fun x p H => ∃ d, S x d p H) H vs xs) : ∃ ds : List β, ds.length = xs.length ∧ Rs (fun (e : α × β) p H => S e.1 e.2 p H) H vs (xs.zip ds) := by
  induction r with
  | nil => exact ⟨[], rfl, .nil⟩
  | cons r0 _ ih =>
    obtain ⟨d, hd⟩ := r0
    obtain ⟨ds, h1, h2⟩ := ih
    exact ⟨d :: ds, by rw [List.length_cons, List.length_cons, h1], .cons hd h2⟩
/-! sorted(d) of a dict with one tuple key at most -/
theorem list_sort_few {prog : Program} {w : World} {A : Around} {E : Value → Shared → Prop} {s : Shared} {a : Addr} {vs : List Value} {n : Nat} {P : Fin → Shared → Prop} (ho : s.heap.get? a = some (seqObj "list" vs.toArray n)) (h2' : vs.length < 2)
    (h : P (.done (.ret .none)) { s with heap := sortedHeap s.heap a vs vs.toArray }) : wpAny (model prog w) A (Builtin.«list.sort» ⟨[.ref a], []⟩) P E s := by
  rw [list_sort_plain]
  have ha : a < s.heap.objs.size := Heap.lt_size ho
  have hle : vs.length ≤ sizeLine := by rw [sizeLine_eq]; omega
  refine wpAny_bind (listItems_at ho rfl ?_)
  refine wpAny_bind (listUpdate_at ho rfl ?_)
  obtain ⟨e1, ho1⟩ : ∃ e1, (s.heap.update a (Obj.mapSeq fun _ => #[])).get? a = some (seqObj "list" #[] e1) := ⟨_, get?_update_seq ho (fun _ => #[])⟩
  refine wpAny_bind (seqEpoch_at ho1 rfl ?_)
  refine wpAny_bind (wpAny_newTuple ?_)
  refine wpAny_bind (wpAny_newList ?_)
  refine wpAny_holding ?_
  have ho6 : (((s.heap.update a (Obj.mapSeq fun _ => #[])).push (seqObj "tuple" vs.toArray 0)).push (seqObj "list" #[] 0)).get? a = some (seqObj "list" #[] e1) := by
    rw [Heap.get?_push_ne _ _ _ (by rw [size_push', Heap.size_update]; exact Nat.ne_of_lt (Nat.lt_succ_of_lt ha)), Heap.get?_push_ne _ _ _ (by rw [Heap.size_update]; exact Nat.ne_of_lt ha)]
    exact ho1
  show wpAny (model prog w) A _ P E { s with heap := ((s.heap.update a (Obj.mapSeq fun _ => #[])).push (seqObj "tuple" vs.toArray 0)).push (seqObj "list" #[] 0) }
  dsimp only
  have hsz : vs.toArray.size = vs.length := by simp
  have h2 : vs.toArray.size < 2 := by omega
  rw [if_pos h2, if_pos h2]
  refine wpAny_bind (wpAny_pure ?_)
  rw [StateT.run_pure]
  refine wpAny_bind (wpAny_pure ?_)
  dsimp only
  refine wpAny_bind (seqEpoch_at ho6 rfl ?_)
  refine wpAny_bind (listUpdate_at ho6 rfl ?_ (hsz2 := by rw [Array.size_map]; show (pairsOf vs).size ≤ _; rw [pairsOf_size, sizeLine_eq]; omega))
  simp only [bne_self_eq_false, Bool.false_eq_true, if_false]
  have e : (arrOf (SortSt.mk' general' (vs.toArray.zip vs.toArray) #[] 7 none)).map (·.2) = vs.toArray := by
    show (vs.toArray.zip vs.toArray).map (·.2) = vs.toArray
    apply Array.ext'
    rw [Array.toList_map]
    simp [List.map_snd_zip]
  rw [e]
  exact wpAny_pure h
theorem call_sortedDT1 {X : Cx} (hcalm : X.calm = true) : CallR X (.builtin "sorted") (fun xs H Q => ∃ (d : Addr) (kvs : List (List Key × V)), xs = [.ref d] ∧ Rd H d (.dT kvs) ∧ kvs.length < 2 ∧
    ∀ (p : Addr) (bs : List Addr), H p = none → IsKeys H kvs bs → Q (.ref p) (upd H p (.lst (bs.map V.ref)))) := by
  intro pins s σ H xs us Q I r q
  obtain ⟨d, kvs, ex, hd, h2, q⟩ := q
  subst ex
  obtain ⟨u, eu, rx⟩ := vals1 r
  subst eu
  cases rx
  obtain ⟨z, hs, ks, pr, o, es, ep, ho, hx, hdt, he, hn⟩ := (show ObjOk X.prog X.w H s.heap d (.dT kvs) from hd.ok I.hok)
  have l1 : es.size = ks.length := size_of_entries he
  have l2 : kvs.length = ks.length := Paired.length pr
  refine Calls.call_function_entry PyProof.Rows.kind_sorted PyProof.Rows.plain_sorted PyProof.Rows.entry_sorted (PyProof.Rows.args_sorted1 _) ?_
  unfold Builtin.«sorted»
  refine wpAny_bind (m := checkCount "sorted" 1 1 _) (wpAny_pure ?_)
  refine wpAny_bind (PySem.W.kdu_collect (A := X.A.in1) (kdl_raw hs hx hdt) (I.ok.hd hcalm) ho (by omega) fun h' tk acc' hk it => ?_)
  have ea : acc'.toList = (ks.map fun x => x.2.1).map Value.ref := by
    have hl : acc'.toList.length = ks.length := by rw [Array.length_toList, it.1]; exact l1
    apply List.ext_getElem?
    intro j
    rw [List.map_map, List.getElem?_map]
    cases hj : acc'.toList[j]? with
    | none =>
      have h1 := List.getElem?_eq_none_iff.mp hj
      rw [List.getElem?_eq_none (by omega)]
      rfl
    | some v =>
      obtain ⟨en, hen, hv⟩ := it.2 j v (by rw [← Array.getElem?_toList]; exact hj)
      have qe := entry_at he j
      rw [hen] at qe
      cases hb : ks[j]? with
      | none =>
        rw [hb] at qe
        exact nomatch (show some en = none from qe)
      | some b =>
        rw [hb] at qe
        have e2 : en = entryOfKey (tupleKind (mixKind X.prog X.w)) b := Option.some.inj qe
        rw [hv, e2]
        rfl
  have hal : acc'.toList.length = ks.length := by rw [ea, List.length_map, List.length_map]
  have I1 : Inv X pins σ H { s with heap := h', toks := tk } := I.kept hk
  refine wpAny_bind (wpAny_newList ?_ (by rw [hal, sizeLine_eq]; omega))
  have hoL : (h'.push (seqObj "list" acc'.toList.toArray 0)).get? h'.objs.size = some (seqObj "list" acc'.toList.toArray 0) := Heap.get?_push_size _ rfl
  show wpAny _ _ _ _ _ { s with heap := h'.push (seqObj "list" acc'.toList.toArray 0), toks := tk }
  refine wpAny_bind (wpAny_holding (wpAny_call_entry PyProof.Rows.slot_list_sort ⟨_, hoL, rfl⟩ PyProof.Rows.entry_list_sort
    (list_sort_few (s := { s with heap := h'.push (seqObj "list" acc'.toList.toArray 0), toks := tk }) hoL (by rw [hal]; omega) ⟨_, rfl, ?_⟩) (PyProof.Rows.args_list_sort _)))
  obtain ⟨e', he'⟩ := PyProof.Rows.sortedHeap_at (vs := acc'.toList) (out := acc'.toList.toArray) hoL
  have hlen : ((ks.map fun x => x.2.1).map V.ref).length ≤ sizeLine := by
    rw [List.length_map, List.length_map, sizeLine_eq]
    omega
  refine wpAny_pure ⟨_, rfl, .ref h'.objs.size, upd H h'.objs.size (.lst ((ks.map fun x => x.2.1).map V.ref)), I1.laid (t' := tk) (fun b u e => ?_) (Nat.le_refl _)
    (show ObjOk X.prog X.w _ _ _ (.lst ((ks.map fun x => x.2.1).map V.ref)) from ⟨hlen, acc'.toList, e', by rw [ea]; exact vals_refs _, by exact he'⟩), rfl, q _ _ (I1.hok.fresh (Nat.le_refl _)) (isKeys_of pr)⟩
  have hb : b < h'.objs.size := Heap.lt_size e
  rw [PyProof.Rows.sortedHeap_old (Nat.ne_of_lt hb) (by rw [size_push']; exact Nat.lt_succ_of_lt hb)]
  exact Heap.get?_push_of_some _ e
/-- a comprehension over a new list of objects -/
theorem ers_lcR {α β : Type} {S : β → Addr → Hp → Prop} {R : α → Addr → Hp → Prop} {ks : List β} {f : β → α} {K : PySem.W.Frag} {σ : L2.St} {H : Hp} {te tl : TE} {j : Nat} {ws : List Nat} (upS : Up S) (up : Up R) (off : Off R) (h : EvRs tl σ H S ks) (hn : ks.length ≤ 40000) (hw : ∀ x, wipe ((wipe σ ws).set j (some x)) ws = wipe σ ws)
    (he : ∀ (k : β) (q : Addr) (H1 : Hp), k ∈ ks → Ex H H1 → S k q H1 → EvN te ((wipe σ ws).set j (some (.ref q))) H1 (R (f k))) : EvRs (tLc (iList K tl) (gName j) tYes te ws) σ H R (ks.map f) := fun H0 e Q q => h H0 e _ fun a us H1 ha e1 h1 r1 => ⟨a, rfl, ⟨us, sq_of h1⟩, by
  have l1 := r1.len
  exact lcRs (H0 := H1) (walk_list (K := K) (a := a) (xs := us)) up off (by omega) (by rw [List.length_map]; omega) (fun H2 e2 => ex_l e2 (sq_of h1)) (fun i y x H2 H3 hy e2 yy k hk => by
    obtain ⟨rfl, hu⟩ := yy
    obtain ⟨p, z, rfl, hz, hS⟩ := r1.get hu
    rw [List.getElem?_map, hz] at hy
    cases hy
    exact hk _ _ (Ex.refl _) (hw _) (he z p _ (List.mem_of_getElem? hz) ((e.trans e1).trans e2) (upS _ _ _ _ e2 hS))) fun l vs H2 hl0 e2 h2 r => q l vs H2 (fresh_back e1 hl0) (e1.trans e2) h2 r⟩
/-! len(set(xs)) of any ints -/
def dedN (ns : List Int) : List Int := PyProof.Rows.firstMet (fun i => ns.getD i 0) ns.length
theorem met_all (f : Nat → Int) : ∀ i, (PyProof.Rows.firstMet f i).length ≤ i ∧ ((PyProof.Rows.firstMet f i).length = i → PyProof.Rows.firstMet f i = (List.range i).map f ∧ ((List.range i).map f).Nodup)
  | 0 => ⟨Nat.le_refl _, fun _ => ⟨rfl, by simp⟩⟩
  | i + 1 => by
    obtain ⟨h1, h2⟩ := met_all f i
    rw [PyProof.Rows.firstMet_succ]
    show (if (PyProof.Rows.firstMet f i).any (· == f i) = true then PyProof.Rows.firstMet f i else PyProof.Rows.firstMet f i ++ [f i]).length ≤ i + 1 ∧ ((if (PyProof.Rows.firstMet f i).any (· == f i) = true then PyProof.Rows.firstMet f i else PyProof.Rows.firstMet f i ++ [f i]).length = i + 1 → (if (PyProof.Rows.firstMet f i).any (· == f i) = true then PyProof.Rows.firstMet f i else PyProof.Rows.firstMet f i ++ [f i]) = _ ∧ _)
    by_cases h : (PyProof.Rows.firstMet f i).any (· == f i) = true
    · rw [if_pos h]
      exact ⟨by omega, fun z => by omega⟩
    · rw [if_neg h, List.length_append]
      refine ⟨by show _ + 1 ≤ _; omega, fun z => ?_⟩
      have z' : (PyProof.Rows.firstMet f i).length = i := by
        have : (PyProof.Rows.firstMet f i).length + 1 = i + 1 := z
        omega
      obtain ⟨e, nd⟩ := h2 z'
      rw [e] at h ⊢
      rw [List.range_succ, List.map_append]
      refine ⟨rfl, List.nodup_append.mpr ⟨nd, by simp, fun a ha b hb => ?_⟩⟩
      rw [List.map_cons, List.map_nil, List.mem_singleton] at hb
      rintro rfl
      exact h (List.any_eq_true.mpr ⟨a, ha, by rw [hb]; exact beq_self_eq_true _⟩)
theorem ded_len (ns : List Int) : (dedN ns).length ≤ ns.length := (met_all _ _).1
theorem ded_iff (ns : List Int) : (dedN ns).length = ns.length ↔ ns.Nodup := by
  constructor
  · intro h
    have := ((met_all (fun i => ns.getD i 0) ns.length).2 h).2
    have e : (List.range ns.length).map (fun i => ns.getD i 0) = ns := by
      apply List.ext_getElem
      · simp
      · intro k h1 h2
        rw [List.getElem_map, List.getElem_range, List.getD_eq_getElem?_getD, List.getElem?_eq_getElem h2]
        rfl
    rwa [e] at this
  · intro h
    unfold dedN
    rw [RZ.firstMet_nodup h ns.length (Nat.le_refl _), List.take_length]
def tLenSetG (K : PySem.W.Frag) (ta : TE) : TE := fun σ H Q => ta σ H fun x H1 => ∃ (l : Addr) (ns : List Int), x = .ref l ∧ SqL K H1 l (ns.map V.int) ∧ ns.length ≤ 4000 ∧ Q (.int ((dedN ns).length : Nat)) H1
theorem pe_lenSetG {X : Cx} {a : Expr} {ta : TE} {p p2 q pos : Pos} (hg : Gl X "len") (hm : X.mg "len" = none) (hg2 : Gl X "set") (hm2 : X.mg "set" = none) (ha : PE X a ta) (hc : X.calm = true := by rfl)
    (na : starEach [a] X.env = (false, eval a X.env) :: starEach [] X.env := by rfl) : PE X (.Call (.Name "len" p) [.Call (.Name "set" p2) [a] [] q] [] pos) (tLenSetG X.K ta) := by
  refine ⟨fun pins s σ H Q I h => ?_⟩
  refine Call_ (ld_blt I hg hm boot_len ?_)
  refine PyProof.Rows.callWith_builtin1 (PyProof.Rows.args_cons ?_ rfl) rfl rfl
  refine Call_ (ld_blt I hg2 hm2 boot_set ?_)
  refine PyProof.Rows.callWith_type1 (PyProof.Rows.args_cons (thn (ha.run pins s σ H _ I h) fun v s1 ⟨x, H1, I1, r1, q1⟩ => PyProof.Rows.args_nil ?_) na) na rfl
  obtain ⟨l, ns, rfl, hq, hl, q1⟩ := q1
  cases r1
  obtain ⟨its, r, pl, hz⟩ := I1.list hq
  have hlen : its.toArray.size = ns.length := by rw [List.size_toArray, ← r.length, List.length_map]
  refine call_set_list (I1.ok.hd hc) pl.isList (by simpa using RZ.intsAre_vals r) (by rw [hlen]; unfold scanBound; omega) fun h' tk hS hk => ?_
  refine PyProof.Rows.args_nil ?_
  rw [hlen] at hS
  have hdl := ded_len ns
  rw [show PyProof.Rows.firstMet (fun i => ns.getD i 0) ns.length = dedN ns from rfl] at hS
  obtain ⟨o, es, ep, t, ho, hex, hd, _, _, _, hf, hn⟩ := hS
  have I2 : Inv X pins σ H1 { s1 with heap := h', toks := tk } := I1.kept fun b o e => hk b o (Heap.lt_size e) e
  exact call_len_set ho hex hd hf (by rw [hn] <;> omega) ⟨.int (dedN ns).length, H1, I2.tok _, ⟨_, by rw [hn]⟩, q1⟩
/-! exceptions that keep two things -/
def spXI2 (C : Addr) (f g : Str) : Sp := fun vs H Q _ => ∃ (a : Addr) (v w : V), vs = [.ref a, v, w] ∧ H a = some (exo a C none) ∧ ∀ dx, H dx = none → dx ≠ a → Q .non (upd (upd (upd H dx (exd dx [(f, v)])) a (exo a C (some dx))) dx (exd dx [(g, w), (f, v)]))
theorem mkX2 {C : Addr} {f g : Str} {σ : L2.St} {H : Hp} {te tf : TE} {v w : V} {Q : XK} (h : Ev te σ H v) (k : Ev tf σ H w) (q : ∀ d H1, H d = none → Ex H H1 → H1 d = some (.xd [(g, w), (f, v)]) → Q (.ref C) (some d) H1) : tMkO C (spXI2 C f g) [] (tCons te (tCons tf tNil)) σ H Q :=
  h H (Ex.refl _) _ fun H0 e0 => k H0 e0 _ fun H1 e01 => ⟨by simp, fun a ha => ⟨a, v, w, rfl, upd_same, fun dx hdx hne => by
    have e1 := e0.trans e01
    have hd1 : H1 dx = none := by
      rw [upd_ne hne] at hdx
      exact hdx
    refine ⟨rfl, dx, _, by rw [upd_ne (Ne.symm hne), upd_same], upd_same, hd1, q dx _ (fresh_back e1 hd1) (e1.trans fun b o hb => ?_) upd_same⟩
    have nb : b ≠ dx := ne_of_none hb hd1
    have na : b ≠ a := ne_of_none hb ha
    rw [upd_ne nb, del_ne na, upd_ne nb, upd_ne na, upd_ne nb, upd_ne na]
    exact hb⟩⟩
theorem cr_sortedIK {X : Cx} (K : PySem.W.Frag) (e : X.K = K) : CallR X (.builtin "sorted") (rSortedI K) := e ▸ cr_sortedI
end Kz
namespace Kz
open PySem PySem.Spec PyProof.Rows L2 Evl StX
/-! ### the set comprehension with two fors -/
section
variable {prog : Program} {w : World} {A : Around} {R : Result → Shared → Prop} {e elt t0 i0 t1 i1 : Expr} {scope : Scope} {pos : Pos} {it acc : Value} {env : Env} {s : Shared}
abbrev Nb (prog : Program) (w : World) (A : Around) (env : Env) (R : Result → Shared → Prop) : Value → Shared → Prop := notedBy (model prog w) A env fun x s' => R (.error x) s'
/-- one loop of a comprehension whose turn is stored and goes on with rest -/
theorem turns {d : Nat} {p0 : Pos} {tg : Expr} {rest : Sem Fin} (hq : (Code.compLoop e d it acc env).quiet = true)
    (hden : (model prog w).den (.compLoop e d it acc env) = (compTurn e d it acc env).onRaise (fun x => do noteFrame x env; theTreesLotGoes x)) (hund : A.under (.compLoop e d it acc env) = A)
    (ht : compTurn e d it acc env = (standAt p0 >>= fun _ => pyNext it >>= fun r => match r with
      | none => pure (.done .next)
      | some v => letOwnedTupleGo tg it v >>= fun _ => assign tg env v >>= fun _ => rest))
    (I : Nat → Shared → Prop)
    (turn : ∀ n s, I n s → wpAny (model prog w) A (pyNext it) (fun r s1 => match r with
      | none => R (.ok .next) s1
      | some v => wpAny (model prog w) A (letOwnedTupleGo tg it v) (fun _ s2 => wpAny (model prog w) A (assign tg env v) (fun _ s3 =>
          wpAny (model prog w) A rest (fun z s4 => z = .again (.compLoop e d it acc env) ∧ ∃ m, m < n ∧ I m s4) (Nb prog w A env R) s3) (Nb prog w A env R) s2) (Nb prog w A env R) s1) (Nb prog w A env R) s)
    (n : Nat) (h : I n s) : codeAny (model prog w) A (.compLoop e d it acc env) R s := by
  refine codeAny_loop hq I (fun n s hI => ?_) n h
  rw [hden, hund]
  refine wpAny_noted ?_
  rw [ht]
  refine wpAny_bind (wpAny_standAt (wpAny_bind (thn (turn n s hI) fun r s1 h1 => ?_)))
  cases r with
  | none => exact wpAny_pure h1
  | some v =>
    refine wpAny_bind (thn h1 fun _ s2 h2 => wpAny_bind (thn h2 fun _ s3 h3 => thn h3 fun z s4 h4 => ?_))
    obtain ⟨rfl, h4⟩ := h4
    exact ⟨rfl, h4⟩
abbrev sc2 (elt t0 i0 t1 i1 : Expr) (scope : Scope) (pos : Pos) : Expr := .SetComp elt [⟨t0, i0, [], 0⟩, ⟨t1, i1, [], 0⟩] scope pos
theorem turn_out : compTurn (sc2 elt t0 i0 t1 i1 scope pos) 0 it acc env = (standAt i0.pos >>= fun _ => pyNext it >>= fun r => match r with
      | none => pure (.done .next)
      | some v => letOwnedTupleGo t0 it v >>= fun _ => assign t0 env v >>= fun _ =>
        eval i1 env >>= fun x => standAt i1.pos >>= fun _ => foldedSetIterable i1 env x >>= fun x => holding [x] (pyIter x) >>= fun j => runOwn (.compStart (sc2 elt t0 i0 t1 i1 scope pos) 1 j acc env) env >>= fun _ => again (.compLoop (sc2 elt t0 i0 t1 i1 scope pos) 0 it acc env)) := by rfl
theorem turn_in : compTurn (sc2 elt t0 i0 t1 i1 scope pos) 1 it acc env = (standAt i1.pos >>= fun _ => pyNext it >>= fun r => match r with
      | none => pure (.done .next)
      | some v => letOwnedTupleGo t1 it v >>= fun _ => assign t1 env v >>= fun _ =>
        (eval elt env >>= fun x => standAt elt.pos >>= fun _ => call (.builtin "set.add") [acc, x] >>= fun _ => pure ()) >>= fun _ => again (.compLoop (sc2 elt t0 i0 t1 i1 scope pos) 1 it acc env)) := by rfl
end

/-- where the inner loop begins -/
theorem start_in {prog : Program} {w : World} {A : Around} {R : Result → Shared → Prop} {elt t0 i0 t1 i1 : Expr} {scope : Scope} {pos : Pos} {it acc : Value} {env : Env} {s : Shared}
    (h0 : codeAny (model prog w) A (.compLoop (sc2 elt t0 i0 t1 i1 scope pos) 1 it acc env) R s)
    (h : wpAny (model prog w) A (pyIter it) (fun j s' => codeAny (model prog w) A (.compLoop (sc2 elt t0 i0 t1 i1 scope pos) 1 j acc env) R s') (notedBy (model prog w) A env fun x s' => R (.error x) s') s) :
    codeAny (model prog w) A (.compStart (sc2 elt t0 i0 t1 i1 scope pos) 1 it acc env) R s := by
  have e : compStart (sc2 elt t0 i0 t1 i1 scope pos) 1 it acc env = (ask >>= fun r => if r.params.followText "comprehension-iter-twice" = true then again (.compLoop (sc2 elt t0 i0 t1 i1 scope pos) 1 it acc env)
      else rule "comprehension.iter-twice" >>= fun _ => standAt i1.pos >>= fun _ => pyIter it >>= fun j => again (.compLoop (sc2 elt t0 i0 t1 i1 scope pos) 1 j acc env)) := by rfl
  refine codeAny_of_tree ?_
  show wpAny _ _ ((compStart (sc2 elt t0 i0 t1 i1 scope pos) 1 it acc env).onRaise (fun x => do noteFrame x env; standAt theWindowsPlace)) _ _ s
  refine wpAny_notedAt ?_
  rw [e]
  refine wpAny_bind (wpAny_askSetting ?_)
  split
  · exact wpAny_pure ⟨rfl, h0⟩
  · exact wpAny_bind (wpAny_rule (wpAny_bind (wpAny_standAt (wpAny_bind (wpAny_mono h (fun j s' hj => wpAny_pure ⟨rfl, hj⟩) fun _ _ z => z)))))
/-- {elt for t0 in i0 for t1 in i1} where each elt is an int: D the new set -/
def tSc2 (w : World) (wi : TI) (g : TG) (wi1 : TI) (g1 : TG) (te : TE) (vs vs1 : List Nat) : TE := fun σ H Q => wi σ H fun J H1 => ∀ D, H1 D = none → ∃ W : Nat → Nat → Hp → Prop, (∃ m, W 0 m (upd H1 D (SetO w D (fun _ => false) 0))) ∧ ∀ i m H2, W i m H2 →
  (J.stop i H2 ∧ Q (.ref D) H2) ∨ (J.go i H2 ∧ ∃ N0 : Hp → Prop, (∀ H3, N0 H3 → ∃ m', m' < m ∧ W (i + 1) m' H3) ∧ ∀ x H3, J.yld i H2 x H3 → g x (wipe σ vs) H3 fun σ2 H4 => wipe σ2 vs = wipe σ vs ∧
    wi1 σ2 H4 fun J1 H5 => ∃ W1 : Nat → Nat → Hp → Prop, (∃ m, W1 0 m H5) ∧ ∀ j k H6, W1 j k H6 →
      (J1.stop j H6 ∧ N0 H6) ∨ (J1.go j H6 ∧ ∃ N1 : Hp → Prop, (∀ H7, N1 H7 → ∃ k', k' < k ∧ W1 (j + 1) k' H7) ∧ ∀ y H7, J1.yld j H6 y H7 → g1 y (wipe σ2 vs1) H7 fun σ3 H8 => wipe σ3 vs1 = wipe σ2 vs1 ∧
        te σ3 H8 fun v H9 => ∃ (c : Int) (S : Int → Bool) (n : Nat), v = .int c ∧ H9 D = some (SetO w D S n) ∧ n + 1 < scanBound ∧ N1 (upd H9 D (SetO w D (fun z => S z || decide (z = c)) (if S c = true then n else n + 1)))))
section
variable {X : Cx}
/-- set.add of an int -/
theorem put_int {pins : List (Addr × Obj)} {σ : L2.St} {H : Hp} {s : Shared} {E : Value → Shared → Prop} {D : Addr} {S : Int → Bool} {n : Nat} {c : Int} {v : Value} {Q : Value → Shared → Prop} (I : Inv X pins σ H s) (hD : H D = some (SetO X.w D S n)) (room : n + 1 < scanBound) (rv : RelV (.int c) v)
    (k : ∀ s', Inv X pins σ (upd H D (SetO X.w D (fun z => S z || decide (z = c)) (if S c = true then n else n + 1))) s' → Q .none s') : wpAny (model X.prog X.w) X.A (call (.builtin "set.add") [.ref D, v]) Q E s := by
  obtain ⟨tk, rfl⟩ := rv
  refine setR_add (setO_get I hD) room fun h' sb new => k _ ?_
  obtain ⟨ob, _, _, _, hob, _⟩ := id new
  exact I.write (e := D) (t' := s.toks + 1) (by rw [hD]; trivial) (.inl rfl) (fun b u hb hu => (sb.2 b hb).trans hu) ⟨ob, hob⟩ (setO_new new)
theorem sc2_loops {pins : List (Addr × Obj)} {s : Shared} {σ : L2.St} {H : Hp} {Q : VK} {elt tg iter tg1 iter1 : Expr} {scope : Scope} {own : List (Str × Nat)} {vs1 : List Nat} {pos pos' : Pos} {wi wi1 : TI} {g g1 : TG} {te : TE} {Qf : Value → Shared → Prop}
    (hc : X.calm = true) (hN : X.N.Nodup) (I : Inv X pins σ H s) (hi : PI X tg iter wi) (ok : BlkOk X.N X.env.scope scope own) (hv : ∀ i ∈ vs1, i ∈ own.map (·.2))
    (hg : ∀ (s : Shared) (H : Hp) (C : Addr) (cl : List (Str × Addr)) (fp : List Addr), PG (X.blk s H scope (compEnvC scope cl C X.env) fp) tg g)
    (he : ∀ (s : Shared) (H : Hp) (C : Addr) (cl : List (Str × Addr)) (fp : List Addr), PE (X.blk s H scope (compEnvC scope cl C X.env) fp) elt te) (hs : ∀ x, foldedSetIterable iter X.env x = pure x)
    (hi1 : ∀ (s : Shared) (H : Hp) (C : Addr) (cl : List (Str × Addr)) (fp : List Addr), PI (X.blk s H scope (compEnvC scope cl C X.env) fp) tg1 iter1 wi1)
    (hg1 : ∀ (s : Shared) (H : Hp) (C : Addr) (cl : List (Str × Addr)) (fp : List Addr), PG (X.blk s H scope (compEnvC scope cl C X.env) fp) tg1 g1) (hs1 : ∀ env x, foldedSetIterable iter1 env x = pure x)
    (h : tSc2 X.w wi g wi1 g1 te (own.map (·.2)) vs1 σ H Q)
    (hRR : ∀ D C s' m H', Inv X pins σ H' s' → Q (.ref D) H' → s'.heap.Ns C m → FpOk X pins H' C → compPost (model X.prog X.w) X.A X.xe none Qf (.ref D) C (.ok .next) s') :
    wpAny (model X.prog X.w) X.A (comprehension (sc2 elt tg iter tg1 iter1 scope pos) scope X.env pos' (newSet (.type "set")) false (eval iter X.env) none) Qf X.xe s := by
  have cells : ∀ y ∈ scope.names, y.2 = .free → ∃ c, X.env.cells.lookup y.1 = some c := fun y hy e => (ok.free y hy e).elim (fun k => I.ok.has _ (.inl k)) fun k => I.ok.has _ (.inr k)
  refine wpAny_comprehension_free (use := none) rfl hs (closure_ok cells) ok.kind (fun y hy e => by rw [ok.uniq y hy, e]) (thn (hi.run pins s σ H _ I h) fun xv s1 hx => thn hx fun itv s2 h2 => ?_)
  obtain ⟨it, fp, tn, J, H2, rfl, I2, T, st2, f2, q⟩ := h2
  refine PpSet.newSet_ok (newEnv_comp ?_)
  have new0 := setR_fresh (h := s2.heap) X.w
  generalize hD : s2.heap.objs.size = D at new0 ⊢
  obtain ⟨W, ⟨m0, w0⟩, turn⟩ := q D (I2.hok.fresh (Nat.le_of_eq hD))
  have lt2 : ∀ b ∈ fp, b < D := fun b hb => by
    obtain ⟨o, e, _⟩ := T.obj _ _ st2 b hb
    rw [← hD]
    exact Heap.lt_size e
  have I3 := I2.laid (a := D) (o := SetO X.w D (fun _ => false) 0) (h' := s2.heap.push { cls := .type "set", dict := none, data := .set #[] 0 (.fresh 0 0 (!X.w.params.followText "set-order")) }) (t' := s2.toks) (fun b o e => Heap.get?_push_of_some _ e) (Nat.le_of_eq hD) (setO_new new0)
  have st3 := T.keep _ _ (s2.heap.push { cls := .type "set", dict := none, data := .set #[] 0 (.fresh 0 0 (!X.w.params.followText "set-order")) }) st2 fun b _ o e => Heap.get?_push_of_some _ e
  have big : D < (s2.heap.push { cls := .type "set", dict := none, data := .set #[] 0 (.fresh 0 0 (!X.w.params.followText "set-order")) }).objs.size := by
    rw [Heap.size_push, hD]
    exact Nat.lt_succ_self _
  generalize s2.heap.push { cls := .type "set", dict := none, data := .set #[] 0 (.fresh 0 0 (!X.w.params.followText "set-order")) } = hp3 at I3 st3 big ⊢
  obtain ⟨s3, hs3⟩ : ∃ s3 : Shared, s3 = { s2 with heap := hp3 } := ⟨_, rfl⟩
  rw [← hs3] at I3
  have hh3 : s3.heap = hp3 := by rw [hs3]
  generalize hH3 : upd H2 D (SetO X.w D (fun _ => false) 0) = H3 at I3 w0
  have f3 : ∀ b ∈ fp, FpOk X pins H3 b ∧ b < s3.heap.objs.size := fun b hb => by
    have lt := lt2 b hb
    refine ⟨⟨?_, (f2 b hb).2⟩, by rw [hh3]; exact Nat.lt_trans lt big⟩
    rw [← hH3, upd_ne (Nat.ne_of_lt lt)]
    exact (f2 b hb).1
  have I4 := block_start I3 ok hN f3
  show codeAny _ _ (.compStart (sc2 elt tg iter tg1 iter1 scope pos) 0 (.ref it) (.ref D) (compEnvC scope (cellsFrom (hp3.objs.size + 1) scope.names (cloFrom X.env.cells scope.names [])) hp3.objs.size X.env)) (compPost (model X.prog X.w) X.A X.xe none Qf (.ref D) hp3.objs.size) { s2 with heap := pushCells (hp3.push { cls := .type "dict", data := .dict #[] }) scope.names }
  obtain ⟨s4, hs4⟩ : ∃ s4 : Shared, s4 = { s2 with heap := pushCells (hp3.push { cls := .type "dict", data := .dict #[] }) scope.names } := ⟨_, rfl⟩
  rw [hh3] at I4
  have I4 : Inv (X.blk s3 H3 scope (compEnvC scope (cellsFrom (hp3.objs.size + 1) scope.names (cloFrom X.env.cells scope.names [])) hp3.objs.size X.env) fp) [] (wipe σ (own.map (·.2))) H3 s4 := by
    rw [hs4]
    rw [hs3] at I4 ⊢
    exact I4
  rw [← hs4]
  have st4 : tn 0 s4.heap := T.keep _ _ _ st3 fun b _ o e => by rw [hs4]; exact pushCells_keeps _ _ _ _ (Heap.get?_push_of_some _ e)
  have pg := hg s3 H3 hp3.objs.size (cellsFrom (hp3.objs.size + 1) scope.names (cloFrom X.env.cells scope.names [])) fp
  have pe := he s3 H3 hp3.objs.size (cellsFrom (hp3.objs.size + 1) scope.names (cloFrom X.env.cells scope.names [])) fp
  have pi1 := hi1 s3 H3 hp3.objs.size (cellsFrom (hp3.objs.size + 1) scope.names (cloFrom X.env.cells scope.names [])) fp
  have pg1 := hg1 s3 H3 hp3.objs.size (cellsFrom (hp3.objs.size + 1) scope.names (cloFrom X.env.cells scope.names [])) fp
  have hC : (compEnvC scope (cellsFrom (hp3.objs.size + 1) scope.names (cloFrom X.env.cells scope.names [])) hp3.objs.size X.env).locals = hp3.objs.size := rfl
  generalize compEnvC scope (cellsFrom (hp3.objs.size + 1) scope.names (cloFrom X.env.cells scope.names [])) hp3.objs.size X.env = ce at I4 pg pe pi1 pg1 hC ⊢
  have stat : ∀ {σ' : L2.St} {H' : Hp} {s' : Shared}, Inv (X.blk s3 H3 scope ce fp) [] σ' H' s' → (∀ b ∈ fp, H' b = none) → ∀ b ∈ fp, FpOk (X.blk s3 H3 scope ce fp) [] H' b := fun {σ' H' s'} I' hn b hb =>
    ⟨hn b hb, (I'.ok.exf b hb).1, I'.ok.exfs b hb, .inl hb, fun x c e => (I'.ok.exf b hb).2 x c e, fun p hp => absurd (show p ∈ ([] : List (Addr × Obj)) ++ [] from hp) (by simp)⟩
  have loop : codeAny (model X.prog X.w) X.A (.compLoop (sc2 elt tg iter tg1 iter1 scope pos) 0 (.ref it) (.ref D) ce) (compPost (model X.prog X.w) X.A X.xe none Qf (.ref D) hp3.objs.size) s4 := by
    refine turns rfl rfl rfl turn_out (fun n s' => ∃ i H', Inv (X.blk s3 H3 scope ce fp) [] (wipe σ (own.map (·.2))) H' s' ∧ tn i s'.heap ∧ (∀ b ∈ fp, H' b = none) ∧ W i n H') ?_ m0 ⟨0, H3, I4, st4, fun b hb => (f3 b hb).1.1, w0⟩
    rintro n s5 ⟨i, H5, I5, st5, n5, w5⟩
    rcases turn i n H5 w5 with ⟨stop, qq⟩ | ⟨go, N0, hN0, step⟩
    · refine thnF (T.done (X.blk s3 H3 scope ce fp) rfl rfl rfl hc i [] s5 _ H5 (fun _ _ => False) I5 (stat I5 n5) st5 stop) fun r s6 ⟨hr, I6⟩ => ?_
      subst hr
      have I7 : Inv X pins σ H5 s6 := I3.call' (ch := fp) I6.os I6.base I6.hok I6.bare fun b hb => ⟨(f3 b hb).1.2.2.2.1, (f3 b hb).1.2.1, (f3 b hb).1.2.2.2.2.1, (f3 b hb).1.2.2.2.2.2⟩
      obtain ⟨m, hn, _⟩ := I6.loc
      have nC : H5 ce.locals = none := I6.free
      have hn : s6.heap.Ns ce.locals m := hn
      rw [hC] at hn nC
      exact hRR D hp3.objs.size s6 m H5 I7 qq hn (I3.fpOk (Nat.le_of_eq (by rw [hh3])) nC)
    · refine thnF (T.item (X.blk s3 H3 scope ce fp) rfl rfl rfl hc i [] s5 _ H5 (fun _ _ => False) I5 (stat I5 n5) st5 go) fun r s6 ⟨u, hr, h6⟩ => ?_
      subst hr
      refine thnF h6 fun _ s7 ⟨x, H7, I7, r7, y7, st7, n7⟩ => ?_
      have I7p := I7.pinned (stat I7 n7) (T.obj _ _ st7)
      refine thnF (pg.run _ s7 _ H7 x u _ I7p r7 (step x H7 y7)) fun _ s8 ⟨σ8, H8, I8, hw8, q8⟩ => ?_
      have len8 : (wipe σ (own.map (·.2))).length = σ8.length := by rw [← hw8, wipe_length]
      refine wpAny_bind (thnF (pi1.run _ s8 σ8 H8 _ I8 q8) fun xv s9 hx => wpAny_bind (wpAny_standAt (wpAny_bind (wpAny_of_eq (hs1 ce xv) (wpAny_bind (wpAny_holding (thnF hx fun itv s10 h10 => ?_)))))))
      obtain ⟨it1, fp1, tn1, J1, H10, rfl, I10, T1, st10, f10, W1, ⟨m1, w1⟩, turn1⟩ := h10
      have stat1 : ∀ {H' : Hp}, (∀ b ∈ fp1, H' b = none) → ∀ b ∈ fp1, FpOk (X.blk s3 H3 scope ce fp) ([] ++ pinsAt fp s7.heap) H' b := fun hn b hb => ⟨hn b hb, (f10 b hb).2⟩
      have inner : codeAny (model X.prog X.w) X.A (.compLoop (sc2 elt tg iter tg1 iter1 scope pos) 1 (.ref it1) (.ref D) ce) (fun z s' => match z with
          | .ok _ => ∃ m, m < n ∧ ∃ i H', Inv (X.blk s3 H3 scope ce fp) [] (wipe σ (own.map (·.2))) H' s' ∧ tn i s'.heap ∧ (∀ b ∈ fp, H' b = none) ∧ W i m H'
          | .error _ => False) s10 := by
        refine turns rfl rfl rfl turn_in (fun k s' => ∃ j H', Inv (X.blk s3 H3 scope ce fp) ([] ++ pinsAt fp s7.heap) (wipe σ8 vs1) H' s' ∧ tn1 j s'.heap ∧ (∀ b ∈ fp1, H' b = none) ∧ W1 j k H') ?_ m1 ⟨0, H10, I10.weak (wipe_length _ _) (fun j v e => (wipe_some e).1), st10, fun b hb => (f10 b hb).1, w1⟩
        rintro k s11 ⟨j, H11, I11, st11, n11, w11⟩
        rcases turn1 j k H11 w11 with ⟨stop1, nx0⟩ | ⟨go1, N1, hN1, step1⟩
        · refine thnF (T1.done (X.blk s3 H3 scope ce fp) rfl rfl rfl hc j _ s11 (wipe σ8 vs1) H11 (fun _ _ => False) I11 (stat1 n11) st11 stop1) fun r s12 ⟨hr, I12⟩ => ?_
          subst hr
          obtain ⟨m', lt, w'⟩ := hN0 H11 nx0
          have pin : ∀ b ∈ fp, ∀ o, s7.heap.get? b = some o → s12.heap.get? b = some o ∧ H11 b = none := fun b hb o e =>
            ⟨(I12.pin (b, o) (List.mem_append_right _ (List.mem_append_right _ (mem_pinsAt hb e)))).1, (I12.pin (b, o) (List.mem_append_right _ (List.mem_append_right _ (mem_pinsAt hb e)))).2.1⟩
          refine ⟨m', lt, i + 1, H11, (I12.unpinned (pins := [])).weak (len8.trans (wipe_length σ8 vs1).symm) (fun j v e => ?_), T.keep _ _ _ st7 fun b hb o e => (pin b hb o e).1, fun b hb => ?_, w'⟩
          · rw [← hw8] at e
            obtain ⟨e1, e2⟩ := wipe_some e
            rw [wipe_out fun z => e2 (hv j z)]
            exact e1
          · obtain ⟨o, e, _⟩ := T.obj _ _ st7 b hb
            exact (pin b hb o e).2
        · refine thnF (T1.item (X.blk s3 H3 scope ce fp) rfl rfl rfl hc j _ s11 (wipe σ8 vs1) H11 (fun _ _ => False) I11 (stat1 n11) st11 go1) fun r s12 ⟨u1, hr, h12⟩ => ?_
          subst hr
          refine thnF h12 fun _ s13 ⟨x1, H13, I13, r13, y13, st13, n13⟩ => ?_
          have I13p := I13.pinned (stat1 n13) (T1.obj _ _ st13)
          refine thnF (pg1.run _ s13 (wipe σ8 vs1) H13 x1 u1 _ I13p r13 (step1 x1 H13 y13)) fun _ s14 ⟨σ14, H14, I14, hw14, q14⟩ => ?_
          refine wpAny_bind (wpAny_bind (thnF (pe.run _ s14 σ14 H14 _ I14 q14) fun v s15 ⟨yv, H15, I15, r15, c, S, m, ey, hD15, room, nx⟩ => wpAny_bind (wpAny_standAt (wpAny_bind ?_))))
          subst ey
          refine put_int (X := X.blk s3 H3 scope ce fp) I15 hD15 room r15 fun s16 I16 => wpAny_pure (wpAny_pure ⟨rfl, ?_⟩)
          obtain ⟨k', lt, w'⟩ := hN1 _ nx
          have pin1 : ∀ b ∈ fp1, ∀ o, s13.heap.get? b = some o → s16.heap.get? b = some o ∧ (upd H15 D (SetO X.w D (fun z => S z || decide (z = c)) (if S c = true then m else m + 1))) b = none := fun b hb o e =>
            ⟨(I16.pin (b, o) (List.mem_append_right _ (List.mem_append_right _ (mem_pinsAt hb e)))).1, (I16.pin (b, o) (List.mem_append_right _ (List.mem_append_right _ (mem_pinsAt hb e)))).2.1⟩
          refine ⟨k', lt, j + 1, _, I16.unpinned.weak (by rw [← hw14, wipe_length]) (fun j v e => by rw [← hw14] at e; exact (wipe_some e).1), T1.keep _ _ _ st13 fun b hb o e => (pin1 b hb o e).1, fun b hb => ?_, w'⟩
          obtain ⟨o, e, _⟩ := T1.obj _ _ st13 b hb
          exact (pin1 b hb o e).2
      refine wpAny_bind (wpAny_runOwn ?_)
      rw [Around.mark_none]
      refine codeAny_mono (start_in inner (T1.self X.A 0 _ _ _ st10 inner)) fun z s' hz => ?_
      cases z with
      | ok f => exact wpAny_pure ⟨rfl, hz⟩
      | error er => exact hz.elim
  exact PpSet.codeAny_compStart_set loop (T.self X.A 0 _ _ _ st4 loop)
/-- as a value -/
theorem pe_sc2 {elt tg iter tg1 iter1 : Expr} {scope : Scope} {own : List (Str × Nat)} {vs1 : List Nat} {pos : Pos} {wi wi1 : TI} {g g1 : TG} {te : TE} (hc : X.calm = true) (hN : X.N.Nodup) (hi : PI X tg iter wi) (ok : BlkOk X.N X.env.scope scope own) (hv : ∀ i ∈ vs1, i ∈ own.map (·.2))
    (hg : ∀ (s : Shared) (H : Hp) (C : Addr) (cl : List (Str × Addr)) (fp : List Addr), PG (X.blk s H scope (compEnvC scope cl C X.env) fp) tg g)
    (hi1 : ∀ (s : Shared) (H : Hp) (C : Addr) (cl : List (Str × Addr)) (fp : List Addr), PI (X.blk s H scope (compEnvC scope cl C X.env) fp) tg1 iter1 wi1)
    (hg1 : ∀ (s : Shared) (H : Hp) (C : Addr) (cl : List (Str × Addr)) (fp : List Addr), PG (X.blk s H scope (compEnvC scope cl C X.env) fp) tg1 g1)
    (he : ∀ (s : Shared) (H : Hp) (C : Addr) (cl : List (Str × Addr)) (fp : List Addr), PE (X.blk s H scope (compEnvC scope cl C X.env) fp) elt te)
    (hs : ∀ x, foldedSetIterable iter X.env x = pure x := by intro _; rfl) (hs1 : ∀ env x, foldedSetIterable iter1 env x = pure x := by intro _ _; rfl) :
    PE X (sc2 elt tg iter tg1 iter1 scope pos) (tSc2 X.w wi g wi1 g1 te (own.map (·.2)) vs1) := by
  refine ⟨fun pins s σ H Q I h => ?_⟩
  rw [PpSet.eval_SetComp]
  refine sc2_loops hc hN I hi ok hv hg he hs hi1 hg1 hs1 h fun D C s' m H' I' q hn f => ⟨m, hn, fun h2 sb => ?_⟩
  obtain ⟨f0, f1, f2, f3, f4, f5⟩ := f
  exact ⟨.ref D, H', I'.turned (t' := s'.toks) (fun b o hb e => (sb.2 b hb).trans e) f0 f1 f3 f4 f5, rfl, q⟩
end
/-- members told by a list -/
def memZ (l : List Int) : Int → Bool := fun z => decide (z ∈ l)
theorem memZ_in {l : List Int} {c : Int} (h : c ∈ l) : (fun z => memZ l z || decide (z = c)) = memZ l := by
  funext z
  by_cases e : z = c
  · subst e
    simp [memZ, h]
  · simp [e]
theorem memZ_new {l : List Int} {c : Int} : (fun z => memZ l z || decide (z = c)) = memZ (l ++ [c]) := by
  funext z
  unfold memZ
  rw [← Bool.decide_or]
  congr 1
  simp
/-- the set at D holds what the lists hold -/
def SetD (w : World) (D : Addr) (l : List Int) (H : Hp) : Prop := ∃ d : List Int, d.Nodup ∧ (∀ z, z ∈ d ↔ z ∈ l) ∧ H D = some (SetO w D (memZ d) d.length)
theorem asc_uniq : ∀ {a b : List Int}, a.Pairwise (· < ·) → b.Pairwise (· < ·) → (∀ z, z ∈ a ↔ z ∈ b) → a = b := by
  intro a b ha hb h
  have p : a.Perm b := (List.perm_ext_iff_of_nodup (ha.imp fun h => Int.ne_of_lt h) (hb.imp fun h => Int.ne_of_lt h)).mpr h
  exact p.eq_of_pairwise (le := fun x y : Int => x ≤ y) (fun x y _ _ h k => Int.le_antisymm h k) (ha.imp fun h => Int.le_of_lt h) (hb.imp fun h => Int.le_of_lt h)
theorem nodup_asc {os : List Int} (h : os.Pairwise (· < ·)) : os.Nodup := h.imp fun h => Int.ne_of_lt h
/-- sorted({x for k in xs for x in ys(k)}) over lists that stand, as the ascending list of what the lists hold -/
theorem el_sortSc2 {w : World} {K : PySem.W.Frag} {σ : L2.St} {H : Hp} {tl te1 te : TE} {a : Addr} {us : List V} {ys : List (List Int)} {j k : Nat} {ws ws1 : List Nat} (h : Ev tl σ H (.ref a)) (hx : SqL K H a us) (hl : ys.length = us.length)
    (hw : ∀ x, wipe ((wipe σ ws).set j (some x)) ws = wipe σ ws) (hw1 : ∀ x y, wipe ((wipe ((wipe σ ws).set j (some x)) ws1).set k (some y)) ws1 = wipe ((wipe σ ws).set j (some x)) ws1)
    (hi : ∀ (i : Nat) (u : V) (y : List Int), us[i]? = some u → ys[i]? = some y → ∃ b, SqL K H b (y.map V.int) ∧ ∀ H1, Ex H H1 → Ev te1 ((wipe σ ws).set j (some u)) H1 (.ref b))
    (he : ∀ (u : V) (x : Int) (H1 : Hp), Ev te ((wipe ((wipe σ ws).set j (some u)) ws1).set k (some (.int x))) H1 (.int x))
    {os : List Int} (ho : os.Pairwise (· < ·)) (hm : ∀ z, z ∈ os ↔ z ∈ ys.flatten) (h64 : os.length < 60) :
    EvL (tCB (rSortedSet w) (tCons (tSc2 w (iList K tl) (gName j) (iList K te1) (gName k) te ws ws1) tNil)) σ H (os.map V.int) := fun H0 e Q q => h H0 e _ fun H1 e1 => ⟨a, rfl, ⟨us, ex_l (e.trans e1) hx⟩, fun D hD => by
  have wk := walk_list (K := K) (a := a) (xs := us)
  have few : ∀ d : List Int, d.Nodup → (∀ z ∈ d, z ∈ ys.flatten) → d.length < 60 := fun d hd hz => by
    have := List.Nodup.length_le_of_subset hd (l₂ := os) fun z hz1 => (hm z).mpr (hz z hz1)
    omega
  have sub : ∀ i, ∀ z ∈ (ys.take i).flatten, z ∈ ys.flatten := fun i z hz => by
    obtain ⟨l, hl, hz⟩ := List.mem_flatten.mp hz
    exact List.mem_flatten.mpr ⟨l, List.mem_of_mem_take hl, hz⟩
  refine ⟨fun i c H2 => c = us.length - i ∧ i ≤ us.length ∧ SetD w D (ys.take i).flatten H2 ∧ Ex H1 (hide D H2), ⟨us.length, rfl, Nat.zero_le _, ⟨[], List.nodup_nil, fun z => by simp, upd_same⟩, ?_⟩, ?_⟩
  · rw [hide_upd, hide_none hD]
    exact Ex.refl _
  rintro i c H2 ⟨rfl, hi0, ⟨d0, nd0, md0, hv⟩, e2⟩
  have e12 := (e.trans e1).trans (e2.trans hide_le)
  by_cases lt : i < us.length
  · refine .inr ⟨wk.goes i H2 lt (ex_l e12 hx), fun H' => SetD w D (ys.take (i + 1)).flatten H' ∧ Ex H1 (hide D H'), fun H' z => ⟨_, by omega, rfl, lt, z.1, z.2⟩, fun x H' yy => ?_⟩
    obtain ⟨rfl, hu⟩ := wk.yields i H2 x H' lt (ex_l e12 hx) yy
    obtain ⟨y, hy⟩ : ∃ y, ys[i]? = some y := ⟨ys[i]'(by omega), List.getElem?_eq_getElem (by omega)⟩
    obtain ⟨b, hb, hE⟩ := hi i x y hu hy
    refine ⟨hw _, ?_⟩
    show te1 _ H' _
    refine hE H' e12 H' (Ex.refl _) _ fun H3 e3 => ⟨b, rfl, ⟨_, ex_l (e12.trans e3) hb⟩, ?_⟩
    have w2 := walk_list (K := K) (a := b) (xs := y.map V.int)
    have tk : (ys.take (i + 1)).flatten = (ys.take i).flatten ++ y := by
      rw [List.take_add_one, hy, List.flatten_append]
      simp
    refine ⟨fun i2 c2 H4 => c2 = y.length - i2 ∧ i2 ≤ y.length ∧ SetD w D ((ys.take i).flatten ++ y.take i2) H4 ∧ Ex H1 (hide D H4), ⟨y.length, rfl, Nat.zero_le _, ⟨d0, nd0, fun z => by rw [md0 z, List.take_zero, List.append_nil], e3 _ _ hv⟩, e2.trans (ex_hide e3)⟩, ?_⟩
    rintro i2 c2 H4 ⟨rfl, hi2, ⟨d, nd, md, hv4⟩, e4⟩
    have q4 : SqL K H4 b (y.map V.int) := ex_l ((e.trans e1).trans (e4.trans hide_le)) hb
    have ln : (y.map V.int).length = y.length := List.length_map _
    by_cases lt2 : i2 < y.length
    · refine .inr ⟨w2.goes i2 H4 (by omega) q4, fun H' => SetD w D ((ys.take i).flatten ++ y.take (i2 + 1)) H' ∧ Ex H1 (hide D H'), fun H' z => ⟨_, by omega, rfl, lt2, z.1, z.2⟩, fun x2 H' yy => ?_⟩
      obtain ⟨rfl, hx2⟩ := w2.yields i2 H4 x2 H' (by omega) q4 yy
      rw [List.getElem?_map, List.getElem?_eq_getElem lt2] at hx2
      have hx3 : V.int (y[i2]) = x2 := Option.some.inj hx2
      subst hx3
      refine ⟨hw1 _ _, ?_⟩
      show te _ H' _
      have tk2 : y.take (i2 + 1) = y.take i2 ++ [y[i2]] := by
        rw [List.take_add_one, List.getElem?_eq_getElem lt2]
        rfl
      have l1 := few d nd fun z hz => by
        rw [md] at hz
        rcases List.mem_append.mp hz with hz | hz
        · exact sub i z hz
        · exact List.mem_flatten.mpr ⟨y, List.mem_of_getElem? hy, List.mem_of_mem_take hz⟩
      refine he _ _ H' H' (Ex.refl _) _ fun H5 e5 => ⟨y[i2], memZ d, d.length, rfl, e5 _ _ hv4, ?_, ?_⟩
      · have : (100 : Nat) < scanBound := by decide
        omega
      · refine ⟨?_, ?_⟩
        · by_cases hin : y[i2] ∈ d
          · refine ⟨d, nd, fun z => ?_, ?_⟩
            · rw [tk2, ← List.append_assoc, List.mem_append, ← md z, List.mem_singleton]
              exact ⟨.inl, fun h => h.elim id fun h => h ▸ hin⟩
            · rw [upd_same, memZ_in hin, if_pos (show memZ d y[i2] = true from decide_eq_true hin)]
          · refine ⟨d ++ [y[i2]], ?_, fun z => ?_, ?_⟩
            · rw [List.nodup_append]
              refine ⟨nd, by simp, fun x hx z hz => ?_⟩
              rw [List.mem_singleton.mp hz]
              exact fun h => hin (h ▸ hx)
            · rw [tk2, ← List.append_assoc, List.mem_append, List.mem_append (s := _ ++ _), md z]
            · rw [upd_same, memZ_new, if_neg (show ¬ memZ d y[i2] = true from fun h => hin (of_decide_eq_true h)), List.length_append]
              rfl
        · rw [hide_upd]
          exact e4.trans (ex_hide e5)
    · have ei : i2 = y.length := by omega
      subst ei
      rw [List.take_length] at md
      have st := w2.stops H4 q4
      rw [ln] at st
      exact .inl ⟨st, ⟨d, nd, fun z => by rw [tk]; exact md z, hv4⟩, e4⟩
  · have ei : i = us.length := by omega
    subst ei
    rw [← hl, List.take_length] at md0
    have l0 := few d0 nd0 fun z hz => (md0 z).mp hz
    refine .inl ⟨wk.stops H2 (ex_l e12 hx), D, memZ d0, d0.length, rfl, hv, by omega, fun ns p hs hk _ hp => ?_⟩
    have : ns = os := asc_uniq hs ho fun z => by
      rw [hk z, hm z, ← md0 z]
      exact decide_eq_true_iff
    subst this
    have hp1 : H1 p = none := fresh_back (e2.trans hide_le) hp
    exact q p _ (fresh_back e1 hp1) (e1.trans ((e2.trans hide_le).trans (Ex.new hp))) upd_same⟩
/-! ### drawn lists whose items are new, parts and all -/
/-- x stands at l by what is new in H' alone -/
def New {α : Type} (R : α → Addr → Hp → Prop) (x : α) (l : Addr) (H H' : Hp) : Prop := ∀ G : Hp, (∀ (a : Addr) (o : HO), H a = none → H' a = some o → G a = some o) → R x l G
theorem New.here {α : Type} {R : α → Addr → Hp → Prop} {x : α} {l : Addr} {H H' : Hp} (n : New R x l H H') : R x l H' := n H' fun _ _ _ h => h
theorem lc_drawN {α : Type} {R : α → Addr → Hp → Prop} (up : Up R) {f : Int × Int → α × (Int × Int)} (hf : ∀ s, Pk s → Pk (f s).2) {te : TE} {σ : L2.St} {us : List Nat} {j : Nat} {p : Addr} {s : Int × Int} {H0 H1 : Hp} {n : Nat} {Q : VK} (hk : Pk s) (hp : H1 p = some (pl s)) (hn : n ≤ 1000)
    (hw : ∀ x, wipe ((wipe σ us).set j (some x)) us = wipe σ us)
    (he : ∀ (i : Nat) (H : Hp) (s : Int × Int), Pk s → H p = some (pl s) → Ex (hide p H1) H → ∀ Q : VK, (∀ l H', H l = none → Ex (hide p H) H' → H' p = some (pl (f s).2) → New R (f s).1 l H H' → Q (.ref l) H') → te ((wipe σ us).set j (some (.int (i : Int)))) H Q)
    (hq : ∀ l vs H', H1 l = none → Ex (hide p H1) H' → H' p = some (pl (drawN f n s).2) → H' l = some (.lst vs) → Rs R (hide p (hide l H')) vs (drawN f n s).1 → Q (.ref l) H') : tLc (iHere (Itr 0 n) H1) (gName j) tYes te us σ H0 Q := fun D hD => by
  have npD : p ≠ D := fun z => by
    rw [z, hD] at hp
    cases hp
  refine lc_it (walk_range (lo := 0) (n := n)) (fun i H => ∃ vs, H D = some (.lst vs) ∧ H p = some (pl (drawN f i s).2) ∧ Ex (hide p H1) (hide p (hide D H)) ∧ Rs R (hide p (hide D H)) vs (drawN f i s).1) ⟨[], upd_same, ?_, ?_, .nil⟩ (fun _ _ _ _ => trivial) ?_ ?_
  · rw [upd_ne npD]
    exact hp
  · rw [hide_upd, hide_none hD]
    exact Ex.refl _
  · rintro i x H H' hi ⟨vs, hv, hp2, e, r⟩ ⟨rfl, rfl⟩
    have ez : (0 : Int) + (i : Int) = (i : Int) := Int.zero_add _
    show wipe ((wipe σ us).set j (some (.int ((0 : Int) + (i : Int))))) us = wipe σ us ∧ te ((wipe σ us).set j (some (.int ((0 : Int) + (i : Int))))) H' _
    rw [ez]
    refine ⟨hw _, he i H' _ (drawN_pk hf hk i) hp2 (e.trans (hide_le.trans hide_le)) _ fun l H4 hl e4 hp4 nw => ?_⟩
    have hv4 : H4 D = some (.lst vs) := e4 _ _ (by rw [hide_ne npD.symm]; exact hv)
    have el := r.len
    rw [drawN_len] at el
    refine ⟨vs, hv4, sz_lt (by omega), vs ++ [.ref l], upd_same, ?_, ?_, ?_⟩
    · rw [upd_ne npD]
      exact hp4
    · rw [hide_upd]
      exact e.trans (ex_hide2 e4)
    · rw [hide_upd]
      refine (r.ex up (ex_hide2 e4)).snoc (nw _ fun a o h1 h2 => ?_)
      have n1 : a ≠ p := fun z => by
        rw [z, hp2] at h1
        cases h1
      have n2 : a ≠ D := fun z => by
        rw [z, hv] at h1
        cases h1
      rw [hide_ne n1, hide_ne n2]
      exact h2
  · rintro H ⟨vs, hv, hp2, e, r⟩
    have e2 : Ex (hide p (hide D H)) (hide p H) := ex_hide hide_le
    exact hq D vs H hD ((e.trans e2).trans hide_le) hp2 hv r
theorem qp_asgDrawN {α : Type} {R : α → Addr → Hp → Prop} (up : Up R) {f : Int × Int → α × (Int × Int)} (hf : ∀ s, Pk s → Pk (f s).2) {ta : TA} {te : TE} {tz : TS} {E : Ends} {σ : L2.St} {us : List Nat} {i j : Nat} {p : Addr} {s s1 : Int × Int} {G H : Hp} {n : Int} (K0 : Kn G p s H) (h : EvAP ta σ G p s [.int n] s1) (hk : Pk s1) (hn : 0 ≤ n ∧ n ≤ 1000)
    (hw : ∀ x, wipe ((wipe σ us).set j (some x)) us = wipe σ us)
    (he : ∀ (i : Nat) (H2 : Hp) (s : Int × Int), Pk s → H2 p = some (pl s) → Ex (hide p H) H2 → ∀ Q : VK, (∀ l H', H2 l = none → Ex (hide p H2) H' → H' p = some (pl (f s).2) → New R (f s).1 l H2 H' → Q (.ref l) H') → te ((wipe σ us).set j (some (.int (i : Int)))) H2 Q)
    (k : ∀ l vs H', l ≠ p → H l = none ∨ True → Ex (hide p H) H' → H' p = some (pl (drawN f n.toNat s1).2) → H' l = some (.lst vs) → Rs R (hide p (hide l H')) vs (drawN f n.toNat s1).1 → tz E (σ.set i (some (.ref l))) H') : tSeq (tAsg (tLc (iRng1 ta) (gName j) tYes te us) (gName i)) tz E σ H :=
  h H K0 _ fun H1 e1 g1 => ⟨n, rfl, by omega, by omega, lc_drawN (H0 := H1) (Q := fun v H' => tz E (σ.set i (some v)) H') up hf hk g1 (by omega) hw (fun i H2 s hs hp2 ex => he i H2 s hs hp2 (hx_trans e1 ex)) fun l vs H' hl e' hp' hl' r' => k l vs H' (fun z => by
    rw [z, g1] at hl
    cases hl) (.inr trivial) (hx_trans e1 e') hp' hl' r'⟩
/-! ### [k for k in range(n) if a draw of m is 0] -/
def siftN (m : Int) : Nat → Int × Int → List Nat × (Int × Int)
  | 0, s => ([], s)
  | i + 1, s => (if (take (siftN m i s).2 m).1 = 0 then (siftN m i s).1 ++ [i] else (siftN m i s).1, (take (siftN m i s).2 m).2)
theorem sift_one {m : Int} {s : Int × Int} {n : Nat} : (siftN m (n + 1) s).1 = if (take (siftN m n s).2 m).1 = 0 then (siftN m n s).1 ++ [n] else (siftN m n s).1 := rfl
theorem sift_pk {m : Int} {s : Int × Int} (h : Pk s) : ∀ n, Pk (siftN m n s).2
  | 0 => h
  | n + 1 => take_pk (sift_pk h n)
theorem sift_lt {m : Int} {s : Int × Int} : ∀ n, (siftN m n s).1.Pairwise (· < ·) ∧ ∀ k ∈ (siftN m n s).1, k < n
  | 0 => ⟨.nil, fun k hk => by cases hk⟩
  | n + 1 => by
    obtain ⟨h1, h2⟩ := sift_lt (m := m) (s := s) n
    rw [sift_one]
    split
    · refine ⟨List.pairwise_append.mpr ⟨h1, by simp, fun a ha b hb => ?_⟩, fun k hk => ?_⟩
      · rw [List.mem_singleton.mp hb]
        exact h2 a ha
      · rcases List.mem_append.mp hk with hk | hk
        · exact Nat.lt_succ_of_lt (h2 k hk)
        · rw [List.mem_singleton.mp hk]
          exact Nat.lt_succ_self n
    · exact ⟨h1, fun k hk => Nat.lt_succ_of_lt (h2 k hk)⟩
theorem sift_len {m : Int} {s : Int × Int} : ∀ n, (siftN m n s).1.length ≤ n
  | 0 => Nat.le_refl _
  | n + 1 => by
    have := sift_len (m := m) (s := s) n
    rw [sift_one]
    split
    · rw [List.length_append]
      simp
      omega
    · omega
theorem lc_sift {m : Int} {tt : TT} {te : TE} {σ : L2.St} {us : List Nat} {j : Nat} {p : Addr} {s : Int × Int} {H0 H1 : Hp} {n : Nat} {Q : VK} (hk : Pk s) (hp : H1 p = some (pl s)) (hn : n ≤ 1000)
    (hw : ∀ x, wipe ((wipe σ us).set j (some x)) us = wipe σ us)
    (ht : ∀ (i : Nat) (H : Hp) (s : Int × Int), Pk s → H p = some (pl s) → Ex (hide p H1) H → ∀ Q : Bool → Hp → Prop, (∀ H', Ex (hide p H) H' → H' p = some (pl (take s m).2) → Q (decide ((take s m).1 = 0)) H') → tt ((wipe σ us).set j (some (.int (i : Int)))) H Q)
    (he : ∀ (i : Nat) (H : Hp), Ev te ((wipe σ us).set j (some (.int (i : Int)))) H (.int (i : Int)))
    (hq : ∀ l H', H1 l = none → Ex (hide p H1) H' → H' p = some (pl (siftN m n s).2) → H' l = some (.lst ((siftN m n s).1.map fun (k : Nat) => V.int (k : Int))) → Q (.ref l) H') : tLc (iHere (Itr 0 n) H1) (gName j) tt te us σ H0 Q := fun D hD => by
  have npD : p ≠ D := fun z => by
    rw [z, hD] at hp
    cases hp
  refine lc_it (walk_range (lo := 0) (n := n)) (fun i H => H D = some (.lst ((siftN m i s).1.map fun (k : Nat) => V.int (k : Int))) ∧ H p = some (pl (siftN m i s).2) ∧ Ex (hide p H1) (hide p (hide D H))) ⟨upd_same, ?_, ?_⟩ (fun _ _ _ _ => trivial) ?_ ?_
  · rw [upd_ne npD]
    exact hp
  · rw [hide_upd, hide_none hD]
    exact Ex.refl _
  · rintro i x H H' hi ⟨hv, hp2, e⟩ ⟨rfl, rfl⟩
    have ez : (0 : Int) + (i : Int) = (i : Int) := Int.zero_add _
    show wipe ((wipe σ us).set j (some (.int ((0 : Int) + (i : Int))))) us = wipe σ us ∧ tt ((wipe σ us).set j (some (.int ((0 : Int) + (i : Int))))) H' _
    rw [ez]
    refine ⟨hw _, ht i H' _ (sift_pk hk i) hp2 (e.trans (hide_le.trans hide_le)) _ fun H4 e4 hp4 => ?_⟩
    have hv4 := e4 D _ (by rw [hide_ne npD.symm]; exact hv)
    by_cases c : (take (siftN m i s).2 m).1 = 0
    · rw [decide_eq_true c, if_pos rfl]
      show te ((wipe σ us).set j (some (.int ((0 : Int) + (i : Int))))) H4 _
      rw [ez]
      refine he i H4 H4 (Ex.refl _) _ fun H5 e5 => ⟨_, e5 _ _ hv4, sz_lt ?_, ?_, ?_, ?_⟩
      · have := sift_len (m := m) (s := s) i
        rw [List.length_map]
        omega
      · rw [upd_same, sift_one, if_pos c, List.map_append]
        rfl
      · rw [upd_ne npD]
        exact e5 _ _ hp4
      · rw [hide_upd]
        exact (e.trans (ex_hide2 e4)).trans (ex_hide (ex_hide e5))
    · rw [decide_eq_false c, if_neg (by simp)]
      refine ⟨?_, hp4, e.trans (ex_hide2 e4)⟩
      rw [sift_one, if_neg c]
      exact hv4
  · rintro H ⟨hv, hp2, e⟩
    have e2 : Ex (hide p (hide D H)) (hide p H) := ex_hide hide_le
    exact hq D H hD ((e.trans e2).trans hide_le) hp2 hv
/-! ### xs.index(x); a def that never raises, where one may -/
theorem pe_indexK {X : Cx} {o e : Expr} {to : TE} {ta : TA} {apos cpos : Pos} (K : PySem.W.Frag) (eK : X.K = K) (ho : PE X o to) (ha : PA X [e] ta)
    (hbase : attributeBase o "index" X.env (eval o X.env) = eval o X.env := by rfl)
    (hfew : ((backTo cpos (starEach [e] X.env)).all (fun x => !x.1) && (backToKw cpos (keywordEach [] X.env)).all (fun x => x.1.isSome) && decide (([e] : List Expr).length + ([] : List Keyword).length + (if ([] : List Keyword).isEmpty then 0 else 1) < 30)) = true := by rfl)
    (hline : (apos.endLine == cpos.line) = true := by rfl) (hs : starEach [e] X.env = (false, eval e X.env) :: starEach [] X.env := by rfl) (hplain : (backTo cpos (starEach [] X.env)).any (·.1) = false := by rfl) :
    PE X (.Call (.Attribute o "index" apos) [e] [] cpos) (tBM K "list" (rIndex K) to ta) := eK ▸ pe_bm PySem.F.plainAttrs_list PySem.F.slot_list_index PySem.F.type_list_index mt_index ho ha hbase hfew hline hs hplain
theorem fnok_cx {P : Program} {w : World} {K : PySem.W.Frag} {mg : Str → Option Value} {base : Heap} {CX : CXT} {k : Nat} {f : Addr} {fd : FuncData} {ps : List Str} {sp : Sp} (F : FnOk P w K mg base CX0 k f fd ps sp) : FnOk P w K mg base CX k f fd ps sp :=
  ⟨F.len, fun A outer s H args us vs Q E hr he hb hv hs => codeAny_mono (F.run A outer s H args us vs Q E hr he hb hv hs) fun z s' h => by
    match z, h with
    | .error e, h => exact h.elim
    | .ok (.ret u), h => exact h
    | .ok .next, h => exact h.elim
    | .ok .brk, h => exact h.elim
    | .ok .cont, h => exact h.elim⟩
theorem ev_index {K : PySem.W.Frag} {σ : L2.St} {H : Hp} {to te : TE} {a : Addr} {ks : List Nat} {j x : Nat} (ho : Ev to σ H (.ref a)) (hx : H a = some (.lst (ks.map fun (k : Nat) => V.int (k : Int)))) (h : Ev te σ H (.int (x : Int))) (hj : ks[j]? = some x) (hn : ks.Nodup) :
    Ev (tBM K "list" (rIndex K) to (tCons te tNil)) σ H (.int (j : Int)) := fun H1 e Q q => ho H1 e _ fun H2 e2 => ⟨Or.inl ⟨rfl, _, sq_of (e2 _ _ (e _ _ hx))⟩, h H2 (e.trans e2) _ fun H3 e3 =>
  ⟨a, _, .int (x : Int), j, .int (x : Int), rfl, rfl, sq_of (e3 _ _ (e2 _ _ (e _ _ hx))), rfl, List.all_eq_true.mpr fun v hv => by
    obtain ⟨_, _, rfl⟩ := List.mem_map.mp hv
    rfl, by rw [List.getElem?_map, hj]; rfl, by simp [eqV], fun m z hm hz => by
    rw [List.getElem?_map] at hz
    cases hk : ks[m]? with
    | none =>
      rw [hk] at hz
      cases hz
    | some y =>
      rw [hk] at hz
      cases hz
      have ne : y ≠ x := fun z => by
        subst z
        obtain ⟨l1, g1⟩ := List.getElem?_eq_some_iff.mp hk
        obtain ⟨l2, g2⟩ := List.getElem?_eq_some_iff.mp hj
        exact List.pairwise_iff_getElem.mp (List.nodup_iff_pairwise_ne.mp hn) m j l1 l2 hm (g1.trans g2.symm)
      simp [eqV]
      omega, q H3 (e2.trans e3)⟩⟩
theorem pe_fldK {X : Cx} {e : Expr} {f : Str} {ta : TE} {pos : Pos} (K : PySem.W.Frag) (eK : X.K = K) (he : PE X e ta) (hb : attributeBase e f X.env (eval e X.env) = eval e X.env) : PE X (.Attribute e f pos) (tFld K ta f) := eK ▸ pe_fld he hb
theorem call_list_ofK {X : Cx} (K : PySem.W.Frag) (e : X.K = K) : CallR X (.type "list") (fun xs H Q => ∃ p ys, xs = [.ref p] ∧ (SqL K H p ys ∨ SqT K H p ys) ∧ ∀ l, H l = none → Q (.ref l) (upd H l (.lst ys))) := e ▸ call_list_of
theorem qp_asgSift {m : Int} {ta : TA} {tt : TT} {te : TE} {tz : TS} {E : Ends} {σ : L2.St} {us : List Nat} {i j : Nat} {p : Addr} {s s1 : Int × Int} {G H : Hp} {n : Nat} (K0 : Kn G p s H) (h : EvAP ta σ G p s [.int (n : Int)] s1) (hk : Pk s1) (hn : n ≤ 1000)
    (hw : ∀ x, wipe ((wipe σ us).set j (some x)) us = wipe σ us)
    (ht : ∀ (i : Nat) (H2 : Hp) (s : Int × Int), Pk s → H2 p = some (pl s) → Ex (hide p H) H2 → ∀ Q : Bool → Hp → Prop, (∀ H', Ex (hide p H2) H' → H' p = some (pl (take s m).2) → Q (decide ((take s m).1 = 0)) H') → tt ((wipe σ us).set j (some (.int (i : Int)))) H2 Q)
    (he : ∀ (i : Nat) (H : Hp), Ev te ((wipe σ us).set j (some (.int (i : Int)))) H (.int (i : Int)))
    (k : ∀ l H', l ≠ p → Ex (hide p H) H' → H' p = some (pl (siftN m n s1).2) → H' l = some (.lst ((siftN m n s1).1.map fun (k : Nat) => V.int (k : Int))) → tz E (σ.set i (some (.ref l))) H') : tSeq (tAsg (tLc (iRng1 ta) (gName j) tt te us) (gName i)) tz E σ H :=
  h H K0 _ fun H1 e1 g1 => ⟨(n : Int), rfl, by omega, by omega, lc_sift (H0 := H1) (Q := fun v H' => tz E (σ.set i (some v)) H') hk g1 (by omega) hw (fun i H2 s hs hp2 ex => ht i H2 s hs hp2 (hx_trans e1 ex)) he fun l H' hl e' hp' hl' => k l H' (fun z => by
    rw [z, g1] at hl
    cases hl) (hx_trans e1 e') hp' hl'⟩
/-- one name forgotten, stored, forgotten again -/
theorem wipe1 {σ : L2.St} {j : Nat} (x : V) : wipe ((wipe σ [j]).set j (some x)) [j] = wipe σ [j] := by
  simp [wipe]
theorem set_at {σ : L2.St} {j : Nat} {x : V} (h : j < σ.length) : ((wipe σ [j]).set j (some x))[j]? = some (some x) := by
  rw [List.getElem?_set_self]
  simp [wipe]
  exact h
theorem set_off {σ : L2.St} {i j : Nat} {x : V} {v : Option V} (n : j ≠ i) (h : σ[i]? = some v) : ((wipe σ [j]).set j (some x))[i]? = some v := by
  rw [List.getElem?_set_ne n, wipe_out (by simp; omega)]
  exact h
/-! ### a list of new objects over range(n), each told apart from the lists that stood -/
def EvNF {α : Type} (te : TE) (σ : L2.St) (H : Hp) (R : α → Addr → Hp → Prop) (y : α) : Prop := ∀ H1, Ex H H1 → ∀ Q : VK, (∀ p H2, H1 p = none → Ex H1 H2 → R y p H2 → (∀ (D : Addr) (acc : List V), H1 D = some (.lst acc) → (∀ v ∈ acc, ∃ r : Addr, v = .ref r) → R y p (hide D H2)) → Q (.ref p) H2) → te σ H1 Q
theorem ers_rngF {α : Type} {R : α → Addr → Hp → Prop} {xs : List α} {σ : L2.St} {H : Hp} {te : TE} {ta : TA} {n j : Nat} {us : List Nat} (up : Up R) (h : EvA ta σ H [.int (n : Int)]) (hn : n ≤ 40000) (hl : xs.length = n) (hw : ∀ x, wipe ((wipe σ us).set j (some x)) us = wipe σ us)
    (he : ∀ (i : Nat) (y : α) (H1 : Hp), Ex H H1 → xs[i]? = some y → EvNF te ((wipe σ us).set j (some (.int (i : Int)))) H1 R y) : EvRs (tLc (iRng1 ta) (gName j) tYes te us) σ H R xs := fun H0 e Q q => h H0 e _ fun H1 e1 => ⟨(n : Int), rfl, by omega, by omega, fun D hD => by
  refine lc_it (walk_range (lo := 0) (n := n)) (fun i H => ∃ vs, H D = some (.lst vs) ∧ Ex H1 (hide D H) ∧ Rs R (hide D H) vs (xs.take i)) ⟨[], upd_same, ?_, ?_⟩ (fun _ _ _ _ => trivial) ?_ ?_
  · rw [hide_upd, hide_none hD]
    exact Ex.refl _
  · exact .nil
  · rintro i x H2 H3 hi ⟨vs, hv, e2, r⟩ ⟨rfl, rfl⟩
    have ez : (0 : Int) + (i : Int) = (i : Int) := Int.zero_add _
    obtain ⟨z, hz⟩ : ∃ z, xs[i]? = some z := ⟨xs[i]'(by omega), List.getElem?_eq_getElem (by omega)⟩
    show wipe ((wipe σ us).set j (some (.int ((0 : Int) + (i : Int))))) us = wipe σ us ∧ te ((wipe σ us).set j (some (.int ((0 : Int) + (i : Int))))) H3 _
    rw [ez]
    refine ⟨hw _, he i z H3 ((e.trans e1).trans (e2.trans hide_le)) hz H3 (Ex.refl _) _ fun p H4 hp e4 rp rD => ?_⟩
    have hv4 := e4 _ _ hv
    have el : vs.length = (xs.take i).length := r.len
    rw [List.length_take] at el
    refine ⟨vs, hv4, sz_lt (by omega), vs ++ [.ref p], upd_same, ?_, ?_⟩
    · rw [hide_upd]
      exact e2.trans (ex_hide e4)
    · rw [hide_upd, List.take_add_one, hz]
      exact (r.ex up (ex_hide e4)).snoc (rD D vs hv r.refs)
  · rintro H2 ⟨vs, hv, e2, r⟩
    rw [← hl, List.take_length] at r
    exact q D vs H2 (fresh_back e1 hD) (e1.trans (e2.trans hide_le)) hv (r.ex up hide_le)⟩
theorem q_asgNF {α : Type} {R : α → Addr → Hp → Prop} {y : α} {te : TE} {g : TG} {tz : TS} {D : Ends} {σ : L2.St} {H : Hp} (h : EvNF te σ H R y) (k : ∀ p H1, H p = none → Ex H H1 → R y p H1 → (∀ (A : Addr) (acc : List V), H A = some (.lst acc) → (∀ v ∈ acc, ∃ r : Addr, v = .ref r) → R y p (hide A H1)) → g (.ref p) σ H1 fun σ2 H2 => tz D σ2 H2) :
    tSeq (tAsg te g) tz D σ H := h H (Ex.refl H) _ k
end Kz
namespace Kz
open PySem PySem.Spec PyProof.Rows L2 Evl StX
def rLenOwn (C : Addr) (sp : Sp) (E : XK) : List V → Hp → VK → Prop := fun xs H Q => ∃ a dx fs, xs = [.ref a] ∧ H a = some (.ins C dx fs) ∧ sp [.ref a] H (fun v H' => ∃ n : Int, v = .int n ∧ 0 ≤ n ∧ n < 2 ^ 63 ∧ Q (.int n) H') E
theorem call_lenOwn {X : Cx} {CX : CXT} {C f : Addr} {fd : FuncData} {ps : List Str} {k : Nat} {sp : Sp} {E : XK} (h1 : PySem.W.findIn X.K (.ref C) "__len__" = some (some (.ref f))) (h2 : PySem.W.isFn X.K (.ref f) = true) (F : FnOk X.prog X.w X.K X.mg X.base CX k f fd ps sp) (hr : Room (k + 1) X.A) (hb : Binds X.K fd ps []) (hx : Passes CX X E) : CallR X (.builtin "len") (rLenOwn C sp E) := by
  intro pins s σ H xs us Q I r h
  obtain ⟨a, dx, fs, rfl, ha, hsp⟩ := h
  obtain ⟨u, rfl, rx⟩ := vals1 r
  cases (show u = Value.ref a from rx)
  obtain ⟨mA, J, _⟩ := ins_get I.hok ha
  obtain ⟨oa, J, _⟩ := J.look
  obtain ⟨m, fr⟩ := I.fr
  have sb : Sub X k X.A.in1 := (sub_here hr).in1
  refine PySem.W.len_K fr I.ok.mod.kin J h1 h2 (wpAny_mono (call_at F hb hx sb I (us := [.ref a]) (.cons (show RelV (.ref a) (Value.ref a) from rfl) .nil) hsp) (fun v s' z => ?_) fun _ _ z => z)
  obtain ⟨x, H', I', rv, n, rfl, n0, n1, q⟩ := z
  obtain ⟨t, rfl⟩ := rv
  exact ⟨⟨n0, n1⟩, .int n, H', I'.tok _, ⟨_, rfl⟩, q⟩
def rIxOwn (C : Addr) (sp : Sp) (E : XK) : R2 := fun x y H Q => ∃ a dx fs, x = .ref a ∧ H a = some (.ins C dx fs) ∧ sp [.ref a, y] H Q E
theorem pe_ixOwn0 {X : Cx} {CX : CXT} {C f : Addr} {fd : FuncData} {ps : List Str} {k : Nat} {sp : Sp} {E : XK} {e i : Expr} {ta tb : TE} {pos : Pos} (h1 : PySem.W.findIn X.K (.ref C) "__getitem__" = some (some (.ref f))) (h2 : PySem.W.fnIn X.K f = true) (h3 : PySem.W.isFn X.K (.ref f) = true)
    (F : FnOk X.prog X.w X.K X.mg X.base CX k f fd ps sp) (hr : Room (k + 1) X.A) (hb : Binds X.K fd ps []) (hx : Passes CX X E) (he : PE X e ta) (hi : PE X i tb)
    (hsl : ∀ (x : Addr) (v : Value), subscripted i true (.ref x) v = runValue (.builtin "lifetime.subscript" ⟨[.ref x, v], []⟩)) : PE X (.Subscript e i pos) (tOp (rIxOwn C sp E) ta tb) := by
  refine ⟨fun pins s σ H Q I h => ?_⟩
  refine Subscript_ (binT he hi I h fun v u s2 x y H2 I2 rx ry q => ?_)
  obtain ⟨a, dx, fs, rfl, ha, hsp⟩ := q
  cases (show v = Value.ref a from rx)
  obtain ⟨mA, J, _⟩ := ins_get I2.hok ha
  obtain ⟨oa, J, _⟩ := J.look
  obtain ⟨m, fr⟩ := I2.fr
  have sb : Sub X k X.A.in1 := (sub_here hr).in1
  exact PySem.W.sub_K fr I2.ok.mod.kin J h1 h2 h3 (call_at F hb hx sb I2 (us := [.ref a, u]) (.cons (show RelV (.ref a) (Value.ref a) from rfl) (.cons ry .nil)) hsp) (hsl a u)
section
variable (P : Program) (w : World) (K : PySem.W.Frag) (mg : Str → Option Value) (base : Heap)
def DfLen (C : Addr) (ps : List Str) (k : Nat) (sp : Sp) : Prop := ∃ (f : Addr) (fd : FuncData), (PySem.W.findIn K (.ref C) "__len__" = some (some (.ref f)) ∧ PySem.W.isFn K (.ref f) = true) ∧ Binds K fd ps [] ∧ FnOk P w K mg base CX0 k f fd ps sp
def DfGet (C : Addr) (ps : List Str) (k : Nat) (sp : Sp) : Prop := ∃ (f : Addr) (fd : FuncData), (PySem.W.findIn K (.ref C) "__getitem__" = some (some (.ref f)) ∧ PySem.W.fnIn K f = true ∧ PySem.W.isFn K (.ref f) = true) ∧ Binds K fd ps [] ∧ FnOk P w K mg base CX0 k f fd ps sp
end
theorem call_len_df {X : Cx} {C : Addr} {ps : List Str} {k : Nat} {sp : Sp} (D : DfLen X.prog X.w X.K X.mg X.base C ps k sp) (hr : Room (k + 1) X.A) : CallR X (.builtin "len") (rLenOwn C sp E0) := by
  obtain ⟨f, fd, ⟨h1, h2⟩, hb, F⟩ := D
  exact call_lenOwn h1 h2 F hr hb pass0
theorem pe_ixOwn {X : Cx} {C : Addr} {ps : List Str} {k : Nat} {sp : Sp} {e i : Expr} {ta tb : TE} {pos : Pos} (D : DfGet X.prog X.w X.K X.mg X.base C ps k sp) (hr : Room (k + 1) X.A) (he : PE X e ta) (hi : PE X i tb)
    (hsl : ∀ (x : Addr) (v : Value), subscripted i true (.ref x) v = runValue (.builtin "lifetime.subscript" ⟨[.ref x, v], []⟩) := by intro _ _; with_unfolding_all rfl) : PE X (.Subscript e i pos) (tOp (rIxOwn C sp E0) ta tb) := by
  obtain ⟨f, fd, ⟨h1, h2, h3⟩, hb, F⟩ := D
  exact pe_ixOwn0 h1 h2 h3 F hr hb pass0 he hi hsl
/-- [x] * n -/
theorem el_repN {σ : L2.St} {H : Hp} {ta tb : TE} {n : Nat} (h : EvL ta σ H ([n].map fun (k : Nat) => V.int (k : Int))) (hb : Ev tb σ H (.int (n : Int))) (hn : n ≤ 1000) : EvL (tOp rRep ta tb) σ H ((List.replicate n n).map fun (k : Nat) => V.int (k : Int)) := fun H1 e Q q =>
  h H1 e _ fun l H2 hl e2 h2 => hb H2 (e.trans e2) _ fun H3 e3 => ⟨l, (n : Int), _, rfl, rfl, e3 _ _ h2, by omega, by omega, sz_of (by simp; omega), fun p hp => by
    have er : (List.replicate ((n : Int)).toNat ([n].map fun (k : Nat) => V.int (k : Int))).flatten = (List.replicate n n).map fun (k : Nat) => V.int (k : Int) := by
      rw [Int.toNat_natCast, List.map_replicate]
      generalize n = m
      have : ∀ j : Nat, (List.replicate j ([m].map fun (k : Nat) => V.int (k : Int))).flatten = List.replicate j (V.int (m : Int)) := fun j => by
        induction j with
        | zero => rfl
        | succ j ih =>
          rw [List.replicate_succ, List.flatten_cons, ih, List.replicate_succ]
          rfl
      exact this m
    rw [er]
    exact q p _ (fresh_back (e2.trans e3) hp) ((e2.trans e3).trans (Ex.new hp)) upd_same⟩
/-- a new list of draws, told apart from all that is frozen -/
theorem qp_asgLstN {G H : Hp} {p : Addr} {s s1 : Int × Int} {σ : L2.St} {D : Ends} {tz : TS} {ta : TA} {i : Nat} {vs : List V} (k : Kn G p s H) (h : EvAP ta σ G p s vs s1) (hl : vs.length ≤ 100000) (nx : ∀ l H', G l = none → H l = none → l ≠ p → Kn G p s1 H' → Ex (hide p H) H' → H' l = some (.lst vs) → tz D (σ.set i (some (.ref l))) H') :
    tSeq (tAsg (tLst ta) (gName i)) tz D σ H := h H k _ fun H' e g => ⟨sz_of hl, fun l nl => by
  have ne : l ≠ p := fun z => by
    rw [z, g] at nl
    cases nl
  refine nx l _ ?_ ?_ ne ((k.next e g).same (Ex.new nl)) (e.trans (Ex.new nl)) upd_same
  · cases hG : G l with
    | none => rfl
    | some o =>
      have := (k.next e g).ex l o hG
      rw [nl] at this
      cases this
  · cases hH : H l with
    | none => rfl
    | some o =>
      have := e l o (by rw [hide_ne ne]; exact hH)
      rw [nl] at this
      cases this⟩
theorem ev_lenA {K : PySem.W.Frag} {σ : L2.St} {H : Hp} {te : TE} {a : Addr} {xs : List V} (h : Ev te σ H (.ref a)) (hx : SqL K H a xs) : Ev (tCB (fun ys H Q => ∃ x n, ys = [x] ∧ LenV K x H n ∧ Q (.int (n : Int)) H) (tCons te tNil)) σ H (.int (xs.length : Int)) := fun H1 e Q q =>
  h H1 e _ fun H2 e2 => ⟨.ref a, xs.length, rfl, .inl ⟨xs, ex_l (e.trans e2) hx, rfl⟩, q H2 e2⟩
/-! ### a list of drawn texts, one for each item of a list that stands -/
theorem lc_drawL {K : PySem.W.Frag} {P : Str → Prop} {te tl : TE} {σ : L2.St} {us : List Nat} {j : Nat} {p a : Addr} {s : Int × Int} {H1 : Hp} {xs : List V} {Q : VK} (hk : Pk s) (hp : H1 p = some (pl s)) (hn : xs.length ≤ 1000) (ht : Ev tl σ H1 (.ref a)) (ha : hide p H1 a = some (.lst xs))
    (hw : ∀ x, wipe ((wipe σ us).set j (some x)) us = wipe σ us)
    (he : ∀ (i : Nat) (x : V) (H : Hp) (s : Int × Int), xs[i]? = some x → Pk s → H p = some (pl s) → Ex (hide p H1) H → ∀ Q : VK, (∀ (z : Str) (s' : Int × Int), P z → Pk s' → RetP p s' (.str z) H Q) → te ((wipe σ us).set j (some x)) H Q)
    (hq : ∀ (l : Addr) (zs : List Str) (s' : Int × Int) (H' : Hp), H1 l = none → (∀ z ∈ zs, P z) → zs.length = xs.length → Pk s' → Ex (hide p H1) H' → H' p = some (pl s') → H' l = some (.lst (zs.map V.str)) → Q (.ref l) H') : tLc (iList K tl) (gName j) tYes te us σ H1 Q :=
  ht H1 (Ex.refl _) _ fun H2 e2 => ⟨a, rfl, ⟨xs, sq_of (e2 _ _ (hide_le _ _ ha))⟩, fun D hD => by
  have hp2 := e2 _ _ hp
  have npD : p ≠ D := fun z => by
    rw [z, hD] at hp2
    cases hp2
  have e12 : Ex (hide p H1) (hide p H2) := ex_hide e2
  have ha2 := e12 _ _ ha
  refine lc_it (walk_list (K := K) (a := a) (xs := xs)) (fun i H => ∃ (zs : List Str) (s' : Int × Int), H D = some (.lst (zs.map V.str)) ∧ (∀ z ∈ zs, P z) ∧ zs.length = i ∧ Pk s' ∧ H p = some (pl s') ∧ Ex (hide p H2) (hide p (hide D H))) ⟨[], s, upd_same, fun z hz => (by cases hz), rfl, hk, ?_, ?_⟩ ?_ ?_ ?_
  · rw [upd_ne npD]
    exact hp2
  · rw [hide_upd, hide_none hD]
    exact Ex.refl _
  · rintro i H _ ⟨_, _, _, _, _, _, _, e⟩
    exact sq_of (hide_le _ _ (hide_le _ _ (e _ _ ha2)))
  · rintro i x H H' hi ⟨zs, s', hv, hz, hl, hk', hp', e⟩ y
    obtain ⟨rfl, hx⟩ := y
    refine ⟨hw _, he i x H' s' hx hk' hp' (e12.trans (e.trans (hide_le.trans hide_le))) _ fun z s2 pz hk2 H4 e4 hp4 => ?_⟩
    have hv4 := e4 D _ (by rw [hide_ne npD.symm]; exact hv)
    refine ⟨_, hv4, sz_lt (by rw [List.length_map]; omega), zs ++ [z], s2, by rw [upd_same, List.map_append]; rfl, fun u hu => ?_, by rw [List.length_append, hl]; rfl, hk2, by rw [upd_ne npD]; exact hp4, ?_⟩
    · rcases List.mem_append.mp hu with h | h
      · exact hz u h
      · rw [List.mem_singleton.mp h]
        exact pz
    · rw [hide_upd]
      exact e.trans (ex_hide2 e4)
  · rintro H ⟨zs, s', hv, hz, hl, hk', hp', e⟩
    have e3 : Ex (hide p (hide D H)) (hide p H) := ex_hide hide_le
    exact hq D zs s' H (fresh_back e2 hD) hz hl hk' (e12.trans ((e.trans e3).trans hide_le)) hp' hv⟩
end Kz
namespace Kz
open PySem PySem.Spec PyProof.Rows L2 Evl StX
/-! ### a dict whose keys are None, ints and texts -/
def kN : Option Key → V
  | none => .non
  | some k => kV k
theorem kN_inj {a b : Option Key} (e : kN a = kN b) : a = b := by
  cases a with
  | none =>
    cases b with
    | none => rfl
    | some k => cases k with
      | inl i => exact nomatch (show V.non = V.int i from e)
      | inr x => exact nomatch (show V.non = V.str x from e)
  | some j =>
    cases b with
    | none => cases j with
      | inl i => exact nomatch (show V.int i = V.non from e)
      | inr x => exact nomatch (show V.str x = V.non from e)
    | some k => rw [kV_inj e]
def dNφ (P : Program) (w : World) (a : Addr) (kvs : List (Option Key × V)) (h : Heap) : Prop := kvs.length ≤ sizeLine ∧ (a == sysModules) = false ∧ ∃ vs, KV kvs vs ∧ h.DictOf (noneKind P w) a vs
def dN (P : Program) (w : World) (a : Addr) (kvs : List (Option Key × V)) : HO := .ext (dNφ P w a kvs)
theorem kN_is {P : Program} {w : World} {k : Option Key} {u : Value} (r : RelV (kN k) u) : (noneKind P w).is k u = true := by
  cases k with
  | none =>
    obtain rfl : u = Value.none := r
    rfl
  | some k => exact kV_is (P := P) (w := w) r
theorem relN_key {P : Program} {w : World} {k : Option Key} {u : Value} (h : (noneKind P w).is k u = true) : RelV (kN k) u := by
  cases k with
  | none => exact nk_none h
  | some k => exact relV_key h
theorem kN_part {k : Option Key} {u : Value} (r : RelV (kN k) u) : (keyPart u).isSome = true := by
  cases k with
  | none =>
    obtain rfl : u = Value.none := r
    rfl
  | some k =>
    cases k with
    | inl i => obtain ⟨t, q⟩ := (show ∃ t, u = Value.int i t from r); subst q; rfl
    | inr x => obtain ⟨t, q⟩ := (show ∃ t, u = Value.str x t from r); subst q; rfl
section
variable {P : Program} {w : World} {H : Hp} {h : Heap} {a : Addr} {kvs : List (Option Key × V)}
theorem dNφ_at {h1 h2 : Heap} (q : dNφ P w a kvs h1) (e : ∀ o, h1.get? a = some o → h2.get? a = some o) : dNφ P w a kvs h2 := by
  obtain ⟨z, hd, vs, rel, o, es, ep, ho, r⟩ := q
  exact ⟨z, hd, vs, rel, o, es, ep, e o ho, r⟩
theorem dN_new (z : kvs.length ≤ sizeLine) (hd : (a == sysModules) = false) {vs : List (Option Key × Value)} (rel : KV kvs vs) (dd : h.DictOf (noneKind P w) a vs) : ObjOk P w H h a (dN P w a kvs) := by
  refine ⟨⟨z, hd, vs, rel, dd⟩, ?_, fun h1 h2 q e => dNφ_at q e⟩
  obtain ⟨o, es, ep, ho, r⟩ := dd
  exact ⟨o, ho⟩
theorem dN_of (ok : HOk P w H h) (e : H a = some (dN P w a kvs)) : kvs.length ≤ sizeLine ∧ (a == sysModules) = false ∧ ∃ vs, KV kvs vs ∧ h.DictOf (noneKind P w) a vs := (ok a _ e).1
end
/-- told as it stands, or locked -/
def RdN (P : Program) (w : World) (H : Hp) (a : Addr) (kvs : List (Option Key × V)) : Prop := H a = some (dN P w a kvs) ∨ ∃ o, H a = some (.frz o (dN P w a kvs))
theorem rdN_of {P : Program} {w : World} {H : Hp} {h : Heap} {a : Addr} {kvs : List (Option Key × V)} (ok : HOk P w H h) (e : RdN P w H a kvs) : kvs.length ≤ sizeLine ∧ (a == sysModules) = false ∧ ∃ vs, KV kvs vs ∧ h.DictOf (noneKind P w) a vs := by
  rcases e with e | ⟨o, e⟩
  · exact dN_of ok e
  · exact (ok a _ e).2.1
section
variable {X : Cx} {pins : List (Addr × Obj)} {σ : L2.St} {H : Hp} {s : Shared} {a : Addr} {kvs : List (Option Key × V)} {k : Option Key} {v : V} {u r : Value} {A : Around} {E : Value → Shared → Prop}
theorem n_in {Q : Value → Shared → Prop} (I : Inv X pins σ H s) (e : RdN X.prog X.w H a kvs) (ry : RelV (kN k) u) (h : ∀ s', Inv X pins σ H s' → Q (.bool (valV kvs k).isSome) s') : wpAny (model X.prog X.w) A (compareOp .In u (.ref a)) Q E s := by
  obtain ⟨_, hd, vs, rel, dd⟩ := rdN_of I.hok e
  refine wpAny_in_of (kN_is ry) hd dd.mapOf ?_
  rw [← (rel.val k).isSome_eq]
  exact h _ (I.tok _)
theorem n_notIn {Q : Value → Shared → Prop} (I : Inv X pins σ H s) (e : RdN X.prog X.w H a kvs) (ry : RelV (kN k) u) (h : ∀ s', Inv X pins σ H s' → Q (.bool (!(valV kvs k).isSome)) s') : wpAny (model X.prog X.w) A (compareOp .NotIn u (.ref a)) Q E s := by
  obtain ⟨_, hd, vs, rel, dd⟩ := rdN_of I.hok e
  refine wpAny_notIn_of (kN_is ry) hd dd.mapOf ?_
  rw [← (rel.val k).isSome_eq]
  exact h _ (I.tok _)
theorem n_setItem {Q : Unit → Shared → Prop} (I : Inv X pins σ H s) (e : H a = some (dN X.prog X.w a kvs)) (hl : kvs.length < sizeLine) (ry : RelV (kN k) u) (rv : RelV v r) (h : ∀ s', Inv X pins σ (upd H a (dN X.prog X.w a (putK kvs k v))) s' → Q () s') :
    wpAny (model X.prog X.w) A (setItem (.ref a) u r) Q E s := by
  obtain ⟨z, hd, vs, rel, dd⟩ := dN_of I.hok e
  have hz : vs.length ≤ sizeLine := by rw [← rel.length]; exact z
  have hl : (putK kvs k v).length ≤ sizeLine := by have := length_putK kvs k v; omega
  refine wpAny_setItem_pairs (hsz := hz) (kN_is ry) dd fun h' dd' hs => h _ ?_
  have he : ∃ q, h'.get? a = some q := let ⟨q, _, _, hq, _⟩ := dd'; ⟨q, hq⟩
  exact d_write I (by rw [e]; exact True.intro) hs he (dN_new hl hd (rel.put k rv) dd')
theorem n_pop {more : List Value} {Q : Value → Shared → Prop} (I : Inv X pins σ H s) (e : H a = some (dN X.prog X.w a kvs)) (ry : RelV (kN k) u) (l : valV kvs k = some v) (hm : more = [] ∨ ∃ x, more = [x])
    (h : ∀ w' s', Inv X pins σ (upd H a (dN X.prog X.w a (dropK kvs k))) s' → RelV v w' → Q w' s') : wpAny (model X.prog X.w) A (call (.builtin "dict.pop") (.ref a :: u :: more)) Q E s := by
  obtain ⟨z, hd, vs, rel, dd⟩ := dN_of I.hok e
  obtain ⟨w', hw, rw'⟩ := RelO.some_of (v := v) (o := valueAt vs k) (by rw [← l]; exact rel.val k)
  have ha : argsOk "dict.pop" ⟨.ref a :: u :: more, []⟩ := by
    rcases hm with q | ⟨x, q⟩
    · subst q; exact PySem.F.args_dict_pop_2 _ _
    · subst q; exact PySem.F.args_dict_pop_3 _ _ _
  refine call_meetsIn PySem.F.slot_dict_pop dd.typeIs PySem.F.entry_dict_pop ha (meets_dict_pop_there (noneKind X.prog X.w) a (kN_is ry) more hm (kN_part ry))
    ⟨vs, w', dd, by rw [← rel.length]; exact z, hw, fun h' dd' hs => h w' _ ?_ rw'⟩
  have he : ∃ q, h'.get? a = some q := let ⟨q, _, _, hq, _⟩ := dd'; ⟨q, hq⟩
  exact d_write I (by rw [e]; exact True.intro) hs he (dN_new (Nat.le_trans (dropK_le kvs k) z) hd (rel.drop k) dd')
theorem n_popD {Q : Value → Shared → Prop} (I : Inv X pins σ H s) (e : RdN X.prog X.w H a kvs) (ry : RelV (kN k) u) (l : valV kvs k = none) (h : ∀ s', Inv X pins σ H s' → Q r s') :
    wpAny (model X.prog X.w) A (call (.builtin "dict.pop") [.ref a, u, r]) Q E s := by
  obtain ⟨z, hd, vs, rel, dd⟩ := rdN_of I.hok e
  have hn : valueAt vs k = none := RelO.none_of (by rw [← l]; exact rel.val k)
  exact call_meetsIn PySem.F.slot_dict_pop dd.typeIs PySem.F.entry_dict_pop (PySem.F.args_dict_pop_3 _ _ _) (meets_dict_pop_default (noneKind X.prog X.w) a (kN_is ry) hd (kN_part ry) r) ⟨vs, dd, hn, h _ (I.tok _)⟩
theorem n_typeIs (I : Inv X pins σ H s) (e : RdN X.prog X.w H a kvs) : s.TypeIs (.ref a) "dict" ∧ (∀ b, Value.ref a = .ref b → ∃ ob, s.heap.get? b = some ob ∧ ob.dict = none) := by
  obtain ⟨_, hd, vs, _, dd⟩ := rdN_of I.hok e
  refine ⟨dd.typeIs, fun b q => ?_⟩
  cases q
  obtain ⟨ob, _, _, h1, h2, _⟩ := dd
  exact ⟨ob, h1, h2.2.1⟩
end
/-- {} -/
def tNNew (P : Program) (w : World) : TE := fun _ H Q => ∀ p, H p = none → Q (.ref p) (upd H p (dN P w p []))
/-- y in d, y not in d -/
def tNIn (P : Program) (w : World) (ty td : TE) : TE := fun σ H Q => ty σ H fun y H1 => td σ H1 fun x H2 => ∃ a kvs k, x = .ref a ∧ y = kN k ∧ RdN P w H2 a kvs ∧ Q (.bl (valV kvs k).isSome) H2
def tNNotIn (P : Program) (w : World) (ty td : TE) : TE := fun σ H Q => ty σ H fun y H1 => td σ H1 fun x H2 => ∃ a kvs k, x = .ref a ∧ y = kN k ∧ RdN P w H2 a kvs ∧ Q (.bl (!(valV kvs k).isSome)) H2
/-- d[y] = v -/
def sNPut (P : Program) (w : World) (td ty tv : TE) : TS := fun D σ H => tv σ H fun v H1 => td σ H1 fun x H2 => ty σ H2 fun y H3 => ∃ a kvs k, x = .ref a ∧ y = kN k ∧ H3 a = some (dN P w a kvs) ∧ kvs.length < sizeLine ∧ D.nx σ (upd H3 a (dN P w a (putK kvs k v)))
/-- d.pop(y); d.pop(y, z) -/
def tNPop1 (P : Program) (w : World) (td ty : TE) : TE := fun σ H Q => td σ H fun x H1 => ∃ a, x = .ref a ∧ (∃ kvs, RdN P w H1 a kvs) ∧ ty σ H1 fun y H2 => ∃ kvs k v, H2 a = some (dN P w a kvs) ∧ y = kN k ∧ valV kvs k = some v ∧ Q v (upd H2 a (dN P w a (dropK kvs k)))
def tNPop2 (P : Program) (w : World) (td ty tx : TE) : TE := fun σ H Q => td σ H fun x H1 => ∃ a, x = .ref a ∧ (∃ kvs, RdN P w H1 a kvs) ∧ ty σ H1 fun y H2 => tx σ H2 fun z H3 => ∃ kvs k, H3 a = some (dN P w a kvs) ∧ y = kN k ∧
  (∀ v, valV kvs k = some v → Q v (upd H3 a (dN P w a (dropK kvs k)))) ∧ (valV kvs k = none → Q z H3)
section
variable {X : Cx} {o i e f value : Expr} {td ty tx tv : TE} {pos pos' apos cpos : Pos}
theorem pe_nnew (P : Program) (w : World) (hP : X.prog = P) (hw : X.w = w) : PE X (.Dict [] [] pos) (tNNew P w) := by
  subst hP hw
  exact ⟨fun pins s σ H Q I h => wpAny_Dict_empty ⟨.ref s.heap.objs.size, _, I.laid (a := s.heap.objs.size) (o := dN X.prog X.w s.heap.objs.size []) (t' := s.toks) (fun _ _ q => Heap.get?_push_of_some _ q) (Nat.le_refl _)
    (dN_new (vs := []) (Nat.zero_le _) (beq_eq_false_iff_ne.mpr (Ne.symm (Nat.ne_of_lt I.big))) .nil (Heap.DictOf.new s.heap)), rfl, h _ (I.hok.fresh (Nat.le_refl _))⟩⟩
theorem pc_nin (P : Program) (w : World) (hP : X.prog = P) (hw : X.w = w) (hi : PE X i ty) (ho : PE X o td) : PC X .In i o (tNIn P w ty td) := by
  subst hP hw
  refine ⟨fun pins s σ H Q I h => ?_⟩
  refine thn (hi.run pins s σ H _ I h) fun iv s1 ⟨y, H1, I1, ry, q1⟩ => thn (ho.run pins s1 σ H1 _ I1 q1) fun u s2 ⟨x, H2, I2, rx, a, kvs, k, ex, ey, g, q2⟩ => ?_
  subst ex ey
  obtain rfl : u = Value.ref a := rx
  exact n_in I2 g ry fun s3 I3 => ⟨.bl (valV kvs k).isSome, H2, I3, rfl, q2⟩
theorem pc_nnotin (P : Program) (w : World) (hP : X.prog = P) (hw : X.w = w) (hi : PE X i ty) (ho : PE X o td) : PC X .NotIn i o (tNNotIn P w ty td) := by
  subst hP hw
  refine ⟨fun pins s σ H Q I h => ?_⟩
  refine thn (hi.run pins s σ H _ I h) fun iv s1 ⟨y, H1, I1, ry, q1⟩ => thn (ho.run pins s1 σ H1 _ I1 q1) fun u s2 ⟨x, H2, I2, rx, a, kvs, k, ex, ey, g, q2⟩ => ?_
  subst ex ey
  obtain rfl : u = Value.ref a := rx
  exact n_notIn I2 g ry fun s3 I3 => ⟨.bl (!(valV kvs k).isSome), H2, I3, rfl, q2⟩
theorem ps_nput (P : Program) (w : World) (hP : X.prog = P) (hw : X.w = w) (ho : PE X o td) (hi : PE X i ty) (hv : PE X value tv) (hs : swapsWith value (some (.Subscript o i pos')) pos.line X.env = pure false) :
    PS X (.Assign [.Subscript o i pos'] value pos) (sNPut P w td ty tv) := by
  subst hP hw
  refine ⟨fun pins s σ H D I h => ?_⟩
  refine wpAny_Assign_Subscript (thn (hv.run pins s σ H _ I h) fun r s1 ⟨v, H1, I1, rv, q1⟩ => thn (ho.run pins s1 σ H1 _ I1 q1) fun u s2 ⟨x, H2, I2, rx, q2⟩ => thn (hi.run pins s2 σ H2 _ I2 q2) fun iv s3 ⟨y, H3, I3, ry, a, kvs, k, ex, ey, g, hl, q3⟩ => ?_) hs
  subst ex ey
  obtain rfl : u = Value.ref a := rx
  exact n_setItem I3 g hl ry rv fun s4 I4 => ⟨σ, _, I4, q3⟩
theorem pe_npop1 (P : Program) (w : World) (hP : X.prog = P) (hw : X.w = w) (ho : PE X o td) (he : PE X e ty) (m : M1 X o "pop" apos e cpos) : PE X (.Call (.Attribute o "pop" apos) [e] [] cpos) (tNPop1 P w td ty) := by
  subst hP hw
  refine ⟨fun pins s σ H Q I h => ?_⟩
  refine wpAny_Call_method m.base m.few m.line PySem.F.plainAttrs_dict PySem.F.slot_dict_pop PySem.F.type_dict_pop (thn (ho.run pins s σ H _ I h) fun u s1 ⟨x, H1, I1, rx, a, ex, ⟨kv0, d⟩, q1⟩ => ?_)
  subst ex
  obtain rfl : u = Value.ref a := rx
  obtain ⟨t1, t2⟩ := n_typeIs I1 d
  refine ⟨t1, t2, ?_⟩
  rw [m.trees]
  refine Calls.callWith_builtin rfl (Calls.evalArgs_plain (Calls.spliced_cons (thn (he.run pins s1 σ H1 _ I1 q1) fun iv s2 ⟨y, H2, I2, ry, kvs, k, v, ea, ey, l, q2⟩ => Calls.spliced_nil ?_)))
  subst ey
  exact n_pop I2 ea ry l (.inl rfl) fun w' s3 I3 rw' => ⟨v, _, I3, rw', q2⟩
theorem pe_npop2 (P : Program) (w : World) (hP : X.prog = P) (hw : X.w = w) (ho : PE X o td) (he : PE X e ty) (hf : PE X f tx) (m : M2 X o "pop" apos e f cpos) : PE X (.Call (.Attribute o "pop" apos) [e, f] [] cpos) (tNPop2 P w td ty tx) := by
  subst hP hw
  refine ⟨fun pins s σ H Q I h => ?_⟩
  refine wpAny_Call_method m.base m.few m.line PySem.F.plainAttrs_dict PySem.F.slot_dict_pop PySem.F.type_dict_pop (thn (ho.run pins s σ H _ I h) fun u s1 ⟨x, H1, I1, rx, a, ex, ⟨kv0, d⟩, q1⟩ => ?_)
  subst ex
  obtain rfl : u = Value.ref a := rx
  obtain ⟨t1, t2⟩ := n_typeIs I1 d
  refine ⟨t1, t2, ?_⟩
  rw [m.trees]
  refine Calls.callWith_builtin rfl (Calls.evalArgs_plain (Calls.spliced_cons (thn (he.run pins s1 σ H1 _ I1 q1) fun iv s2 ⟨y, H2, I2, ry, q2⟩ => Calls.spliced_cons (thn (hf.run pins s2 σ H2 _ I2 q2) fun fv s3 ⟨z, H3, I3, rz, kvs, k, ea, ey, q3, q4⟩ => Calls.spliced_nil ?_))))
  subst ey
  cases l : valV kvs k with
  | some v => exact n_pop I3 ea ry l (.inr ⟨fv, rfl⟩) fun w' s4 I4 rw' => ⟨v, _, I4, rw', q3 v l⟩
  | none => exact n_popD I3 (.inl ea) ry l fun s4 I4 => ⟨z, H3, I4, rz, q4 l⟩
end
/-- list(d), len(d) -/
def rListN (P : Program) (w : World) : List V → Hp → VK → Prop := fun xs H Q => ∃ p kvs, xs = [.ref p] ∧ RdN P w H p kvs ∧ ∀ q, H q = none → Q (.ref q) (upd H q (.lst (kvs.map fun kv => kN kv.1)))
theorem call_list_dN {X : Cx} (P : Program) (w : World) (hP : X.prog = P) (hw : X.w = w) (hc : X.calm = true) : CallR X (.type "list") (rListN P w) := by
  subst hP hw
  intro pins s σ H xs us Q I r h
  obtain ⟨p, kvs, e, hk, q⟩ := h
  subst e
  obtain ⟨u, eu, rx⟩ := vals1 r
  subst eu
  obtain rfl : u = Value.ref p := rx
  obtain ⟨z, lo, vs, rk, hd⟩ := rdN_of I.hok hk
  obtain ⟨ep, hat⟩ := hd.dictAt
  have hl : kvs.length = vs.length := Paired.length rk
  refine PySem.W.kdl_call (PySem.W.kdl_dict (knd := noneKind X.prog X.w) (kvs := vs) (ep := ep) lo) (I.ok.hd hc) hat (by rw [← hl]; exact z) fun h' tk acc' c' hkeep hS hacc => ?_
  refine ⟨.ref s.heap.objs.size, upd H s.heap.objs.size (.lst (kvs.map fun kv => kN kv.1)), I.laid hkeep (Nat.le_refl _) (show ObjOk X.prog X.w _ _ _ (.lst (kvs.map fun kv => kN kv.1)) from ⟨?_, acc'.toList, c', ?_, ?_⟩), rfl, q _ (I.hok.fresh (Nat.le_refl _))⟩
  · rw [List.length_map]; exact z
  · have el : acc'.toList.length = acc'.size := by simp
    refine vals_of_at (by rw [List.length_map, el, hacc.1, hl]) fun j x w h1 h2 => ?_
    obtain ⟨k, y, hky, hi⟩ := hacc.2 j w (by rw [← Array.getElem?_toList]; exact h2)
    have e1 : (kvs.map (·.1))[j]? = some k := by
      rw [KV.keys rk, List.getElem?_map, hky] <;> rfl
    have e2 : (kvs.map fun kv => kN kv.1)[j]? = some (kN k) := by
      have e3 : (kvs.map fun kv => kN kv.1) = (kvs.map (·.1)).map kN := by rw [List.map_map] <;> rfl
      rw [e3, List.getElem?_map, e1] <;> rfl
    rw [e2] at h1
    cases h1
    exact relN_key hi
  · simpa using hS

theorem call_list_dNK {X : Cx} (P : Program) (w : World) (hP : X.prog = P) (hw : X.w = w) (hc : X.calm = true) : CallR X (.type "list") (rListN P w) := call_list_dN P w hP hw hc
theorem call_len_dN {X : Cx} (P : Program) (w : World) (hP : X.prog = P) (hw : X.w = w) : CallR X (.builtin "len") (fun xs H Q => ∃ a kvs, xs = [V.ref a] ∧ RdN P w H a kvs ∧ Q (.int kvs.length) H) := by
  subst hP hw
  intro pins s σ H xs us Q I r h
  obtain ⟨a, kvs, rfl, ha, q⟩ := h
  obtain ⟨u, rfl, ru⟩ := vals1 r
  cases ru
  obtain ⟨z, hd, vs, rel, dd⟩ := rdN_of I.hok ha
  refine call_len_dict hd dd (by rw [← rel.length]; rw [sizeLine_eq] at z; omega) ?_
  rw [← rel.length]
  exact ⟨.int kvs.length, H, I.tok _, ⟨_, rfl⟩, q⟩
/-- the pairs of a locked dict, each a new tuple -/
def ItN (P : Program) (w : World) (d : Addr) (o : Obj) (kvs : List (Option Key × V)) : It :=
  ⟨fun i H => H d = some (.frz o (dN P w d kvs)) ∧ i < kvs.length, fun i H x H' => ∃ T k v, kvs[i]? = some (k, v) ∧ x = .ref T ∧ H T = none ∧ H' = upd H T (.tup [kN k, v]), fun i H => H d = some (.frz o (dN P w d kvs)) ∧ kvs.length ≤ i⟩
section
variable {X : Cx} {pins : List (Addr × Obj)} {σ : L2.St} {H : Hp} {s : Shared} {d : Addr} {o : Obj}
theorem frzN {kvs : List (Option Key × V)} (I : Inv X pins σ H s) (h : H d = some (.frz o (dN X.prog X.w d kvs))) :
    (d == sysModules) = false ∧ s.heap.get? d = some o ∧ o.ExactDict ∧ ∃ (es : Array DictEntry) (ep : Nat) (vs : List (Option Key × Value)), o.data = .dict es ep ∧ es.size = kvs.length ∧ KV kvs vs ∧ s.heap.DictAt (noneKind X.prog X.w) d vs ep := by
  obtain ⟨hd, ⟨z, hs, vs, kv, o', es, ep, ho, hx, hdt, r⟩, _⟩ := I.hok d _ h
  rw [hd] at ho
  cases ho
  refine ⟨hs, hd, hx, es, ep, vs, hdt, ?_, kv, o, es, hd, hx, hdt, r⟩
  have l1 := r.2.1.length
  have l2 : kvs.length = vs.length := Paired.length kv
  rw [Array.length_toList] at l1
  omega
end
theorem turn_itemsN {P : Program} {w : World} {K : PySem.W.Frag} {d : Addr} {o : Obj} {es : Array DictEntry} {ep : Nat} {kvs : List (Option Key × V)} {elts : List Expr} {kk : Nat} {tpos : Pos} (it : Addr) (hod : o.data = .dict es ep) :
    Turn P w K (.Tuple elts kk tpos) (ItN P w d o kvs) [it] it (fun i h => ∃ ok ov, IsItemIter h it d i kvs.length ep ok ov) where
  mem := by simp
  obj := fun i h st b hb => by
    have e : b = it := by simpa using hb
    subst e
    obtain ⟨ok, ov, e⟩ := st
    exact ⟨_, e, fun v z => nomatch z⟩
  keep := fun i h h' st k => let ⟨ok, ov, e⟩ := st; ⟨ok, ov, k it (by simp) _ e⟩
  item := by
    intro X hP hw hK hc i pins s σ H E I hf st hg
    subst hP hw hK
    obtain ⟨hd, hi⟩ := hg
    obtain ⟨hs, hgd, hx, es', ep', vs, hdt, hsz, kv, hm⟩ := frzN I hd
    obtain ⟨rfl, rfl⟩ := dict_ep hod hdt
    obtain ⟨⟨k, v⟩, hkv⟩ : ∃ p, kvs[i]? = some p := ⟨kvs[i], List.getElem?_eq_getElem hi⟩
    obtain ⟨u, hu, ru⟩ := kv_get kv hkv
    have hl : kvs.length = vs.length := Paired.length kv
    obtain ⟨ok, ov, he⟩ := st
    rw [hl] at he
    have hlt : it < s.heap.objs.size := Heap.lt_size he
    refine wpAny_pyNext_items_item he hm hu fun key h' hkey ho hT hz hk => ?_
    refine ⟨_, rfl, wpAny_letOwnedTupleGo_items (s := { s with heap := h' }) ho fun h'' he' sb => ?_⟩
    have hT2 : h''.get? s.heap.objs.size = some { cls := .type "tuple", data := .seq #[key, u] } := (sb.2 _ (Nat.ne_of_gt hlt)).trans hT
    have new : ObjOk X.prog X.w (upd H s.heap.objs.size (.tup [kN k, v])) h'' s.heap.objs.size (.tup [kN k, v]) :=
      ⟨by show 2 ≤ sizeLine; decide, [key, u], .cons (relN_key (show (noneKind X.prog X.w).is k key = true from hkey)) (.cons ru .nil), ⟨_, hT2, rfl, _, rfl⟩⟩
    have I1 : Inv X pins σ (upd H s.heap.objs.size (.tup [kN k, v])) { s with heap := h'' } :=
      I.turnedNew (t' := s.toks) (ch := [it]) (fun b ob hb e => (sb.2 b (by simpa using hb)).trans (hk b ob (by simpa using hb) e)) hf (Nat.le_refl _) new
    refine ⟨.ref s.heap.objs.size, _, I1, rfl, ⟨_, k, v, hkv, rfl, I.hok.fresh (Nat.le_refl _), rfl⟩, ⟨key, u, ?_⟩, fun b hb => ?_⟩
    · rw [hl]; exact he'
    · have e : b = it := by simpa using hb
      rw [e, upd_ne (Nat.ne_of_lt hlt)]
      exact (hf it (by simp)).1
  done := by
    intro X hP hw hK hc i pins s σ H E I hf st hg
    subst hP hw hK
    obtain ⟨hd, hi⟩ := hg
    obtain ⟨f0, f1, f2, f3, f4, f5⟩ := hf it (by simp)
    obtain ⟨hs, hgd, hx, es', ep', vs, hdt, hsz, kv, hm⟩ := frzN I hd
    obtain ⟨rfl, rfl⟩ := dict_ep hod hdt
    have hl : kvs.length = vs.length := Paired.length kv
    obtain ⟨ok, ov, he⟩ := st
    rw [hl] at he
    exact wpAny_pyNext_items_end (I.ok.hd hc) he hm (List.getElem?_eq_none (by omega)) fun h' eb => ⟨rfl, I.turned (t' := s.toks) (fun b ob hb e => eb b ob hb e) f0 f1 f3 f4 f5⟩
  self := fun A i s Q E st h => let ⟨_, _, e⟩ := st; PySem.W.kcp_self e h
def iItemsN (P : Program) (w : World) (td : TE) : TI := fun σ H R => td σ H fun x H1 => ∃ d o kvs, x = .ref d ∧ H1 d = some (.frz o (dN P w d kvs)) ∧ R (ItN P w d o kvs) H1
theorem pi_itemsN {X : Cx} {e : Expr} {td : TE} {apos cpos : Pos} {elts : List Expr} {kk : Nat} {tpos : Pos} (P : Program) (w : World) (hP : X.prog = P) (hw : X.w = w) (he : PE X e td) (hbase : attributeBase e "items" X.env (eval e X.env) = eval e X.env := by rfl) (hline : (apos.endLine == cpos.line) = true := by rfl) :
    PI X (.Tuple elts kk tpos) (.Call (.Attribute e "items" apos) [] [] cpos) (iItemsN P w td) := by
  subst hP hw
  refine ⟨fun pins s σ H R I h => ?_⟩
  refine wpAny_Call_method (T := "dict") (id := "dict.items") hbase rfl hline F.plainAttrs_dict F.slot_dict_items F.type_dict_items (thn (he.run pins s σ H _ I h) fun u s1 ⟨x, H1, I1, rx, d, o, kvs, ex, hd, q⟩ => ?_)
  subst ex
  obtain rfl : u = Value.ref d := rx
  obtain ⟨hs, hgd, hx, es, ep, vs, hdt, hsz, kv, hm⟩ := frzN I1 hd
  have hl : kvs.length = vs.length := Paired.length kv
  refine ⟨hm.dictOf.typeIs, hm.dictOf.mapOf.noDict, ?_⟩
  have I2 : Inv X pins σ H1 { s1 with heap := s1.heap.push { cls := .type "dict_items", data := .fields #[.ref d] } } := I1.kept (t' := s1.toks) fun b ob q => Heap.get?_push_of_some _ q
  have fin : wpAny (model X.prog X.w) X.A (pyIter (.ref s1.heap.objs.size)) (PIE X pins σ (.Tuple elts kk tpos) R) X.xe { s1 with heap := s1.heap.push { cls := .type "dict_items", data := .fields #[.ref d] } } := by
    refine wpAny_pyIter_items (d := d) (knd := noneKind X.prog X.w) ⟨_, Heap.get?_push_size _ rfl, rfl, rfl⟩ (hm.push _) (pi_one (tk := s1.toks) I2 _ (turn_itemsN _ hdt) ⟨.none, .none, ?_⟩ q)
    rw [hl]
    exact Heap.get?_push_size _ rfl
  show wpAny _ _ (callWith cpos (.builtin "dict.items") [.ref d] [] []) _ X.xe s1
  exact method_meetsIn F.slot_dict_items F.entry_dict_items rfl (PySem.evalArgs_none ⟨rfl, hm.dictOf.typeIs, F.args_dict_items_1 _, _, meets_dict_items (noneKind X.prog X.w) d hs, ⟨vs, hm.dictOf⟩, fin⟩)
theorem walk_itemsN {P : Program} {w : World} {d : Addr} {o : Obj} {kvs : List (Option Key × V)} : Walk (ItN P w d o kvs) kvs.length (fun H => H d = some (.frz o (dN P w d kvs))) (YPair (fun i => kvs[i]?.map fun kv => kN kv.1) (fun i => kvs[i]?.map Prod.snd)) := by
  refine ⟨fun _ _ hi q => ⟨q, hi⟩, fun _ q => ⟨q, Nat.le_refl _⟩, fun i H x H' _ _ y => ?_⟩
  obtain ⟨T, k, v, h1, h2, h3, h4⟩ := y
  exact ⟨T, kN k, v, h2, h3, h4, by simp [h1], by simp [h1]⟩
/-! ### xs.remove(x), data -/
def rRemD (K : PySem.W.Frag) : V → List V → Hp → VK → Prop := fun x vs H Q => ∃ l xs ds y d j, x = .ref l ∧ vs = [y] ∧ H l = some (.lst xs) ∧ DpAll K H xs ds ∧ Dp K H y d ∧ PyData.plainAll ds = true ∧ d.plain = true ∧ d.depth ≤ 60 ∧ PySem.SeqAt.dataPlace ds d = some j ∧ Q .non (upd H l (.lst (xs.eraseIdx j)))
theorem mt_remD {X : Cx} (hu : X.A.units + 64 < cLine) : MtM X "list.remove" (rRemD X.K) := by
  intro pins s σ H x vs v us Q I rx rv h
  obtain ⟨l, xs, ds, y, d, j, rfl, rfl, hH, hds, hd, p1, p2, dp, hj, q⟩ := h
  cases rx
  obtain ⟨u, rfl, ru⟩ := rv.one
  obtain ⟨z, its, n, r, hl, e⟩ := I.lstM hH
  obtain ⟨as, r1⟩ := Dp.readsAll I ds xs its hds r
  obtain ⟨bs, r2⟩ := Dp.reads I d y u hd ru
  refine PySem.SeqAt.remove_list_data (vs := its.toArray) (j := j) ⟨_, e, rfl, n, rfl⟩ (by simpa using r1) r2 p1 p2 (by omega) hj (by rw [List.size_toArray]; omega) ?_
  refine ⟨.non, _, I.lset (its' := its.eraseIdx j) hH e ?_ (r.eraseIdx j) ?_, rfl, q⟩
  · show its.toArray.eraseIdxIfInBounds j = (its.eraseIdx j).toArray
    rw [List.eraseIdxIfInBounds_toArray]
  · have := len_erase xs j
    omega
/-! ### properties, keyword-only inits, instances called -/
def DfP (P : Program) (w : World) (K : PySem.W.Frag) (mg : Str → Option Value) (base : Heap) (C : Addr) (f : Str) (k : Nat) (sp : Sp) : Prop :=
  ∃ (p g : Addr) (fd : FuncData), PropOf K C f p g ∧ Binds K fd ["self"] [] ∧ FnOk P w K mg base CX0 k g fd ["self"] sp
theorem pe_propD {X : Cx} {C : Addr} {f : Str} {k : Nat} {sp : Sp} {e : Expr} {ta : TE} {pos : Pos} (c : Cls X.K C) (D : DfP X.prog X.w X.K X.mg X.base C f k sp) (hr : Room (k + 1) X.A) (he : PE X e ta) (hab : attributeBase e f X.env (eval e X.env) = eval e X.env := by rfl) :
    PE X (.Attribute e f pos) (tProp C sp [] E0 ta) := by
  obtain ⟨p, g, fd, hp, hb, F⟩ := D
  exact pe_prop (ds := []) he c hp F hr hb .nil pass0 hab
def DfIK (P : Program) (w : World) (K : PySem.W.Frag) (mg : Str → Option Value) (base : Heap) (x : Str) (C : Addr) (ps : List Str) (n : Nat) (ks : List Str) (k : Nat) (sp : Sp) : Prop :=
  ∃ (f : Addr) (fd : FuncData), Mk K C f ∧ mg x = some (.ref C) ∧ KBn K fd ps (n + 1) ks (fun us ws => us ++ ws) (fun vs zs => vs ++ zs) ∧ FnOk P w K mg base CX0 k f fd ps sp
theorem pe_mkK {X : Cx} {x : Str} {C : Addr} {ps ks : List Str} {n k : Nat} {sp : Sp} {e : Expr} {es : List Expr} {kws : List Keyword} {t tk : TA} {p pos : Pos} (D : DfIK X.prog X.w X.K X.mg X.base x C ps n ks k sp) (hr : Room (k + 1) X.A) (hg : Gl X x) (ha : PA X (e :: es) t) (hkw : PK X kws tk)
    (hall : (backToKw pos (keywordEach kws X.env)).all (·.1.isSome) = true := by rfl) (hks : (backToKw pos (keywordEach kws X.env)).filterMap (·.1) = ks := by rfl) (hdb : (x == ("__debug__" : Str)) = false := by decide)
    (he : starEach (e :: es) X.env = (false, eval e X.env) :: starEach es X.env := by rfl) (hpl : ((backTo pos (starEach (e :: es) X.env)).any (·.1) || (backToKw pos (keywordEach kws X.env)).any (·.1.isNone)) = false := by rfl) :
    PE X (.Call (.Name x p) (e :: es) kws pos) (tMakeK C n ks.length sp (fun vs zs => vs ++ zs) E0 t tk) := by
  obtain ⟨f, fd, M, hm, hb, F⟩ := D
  exact pe_makeK M F hr hg hm hb pass0 ha hkw hall hks hdb he hpl
/-- a def whose last parameters have defaults -/
def FunP (K : PySem.W.Frag) (x qual : Str) (st : Stmt) (dvs : List V) (f : Addr) (fd : FuncData) : Prop := FunD K x qual (defArgs st) (defBody st) (defScope st) dvs [] f fd
theorem FunP.ok {P : Program} {w : World} {K : PySem.W.Frag} {mg : Str → Option Value} {base : Heap} {x qual : Str} {st : Stmt} {dvs : List V} {f : Addr} {fd : FuncData} {N ps : List Str} {k : Nat} {sp : Sp} (F : FunP K x qual st dvs f fd) (S : FnScope N ps (defScope st)) (len : ∀ vs H Q E, sp vs H Q E → vs.length = ps.length)
    (hbody : ∀ (cdv : Value) (A : Around) (outer : List Env) (s : Shared) (H : Hp) (vs : List V) (Q : VK) (E : XK), Room k (A.deeper (envOfC qual (defScope st) s.heap.objs.size f cdv)) → sp vs H Q E →
      ∃ t, PSs (cxOf CX0 P w K mg base N qual (defScope st) f cdv A outer s H E).nox (defBody st) t ∧ t { nx := fun _ H' => Q .non H', rt := Q } (start N vs) H) : FnOk P w K mg base CX0 (k + 1) f fd ps sp :=
  FunD.ok F S len fun cdv A outer s H vs Q E hr hsp => by
    obtain ⟨t, h, q⟩ := hbody cdv A outer s H vs Q E hr hsp
    exact ⟨t, h.nox, q⟩
/-- x(e, ..), all parameters written, or the last one left out -/
def DfCl (P : Program) (w : World) (K : PySem.W.Frag) (mg : Str → Option Value) (base : Heap) (C : Addr) (ps : List Str) (dvs : List V) (k : Nat) (sp : Sp) : Prop :=
  ∃ (g : Addr) (fd : FuncData), CallO K C g ∧ (∃ ds, Vals [] ds ∧ Binds K fd ps ds) ∧ (∃ ds, Vals dvs ds ∧ Binds K fd ps ds) ∧ FnOk P w K mg base CX0 k g fd ps sp
theorem pe_cl {X : Cx} {C : Addr} {ps : List Str} {dvs : List V} {k : Nat} {sp : Sp} {fe e : Expr} {es : List Expr} {tf : TE} {t : TA} {pos : Pos} (D : DfCl X.prog X.w X.K X.mg X.base C ps dvs k sp) (hr : Room k X.A) (hf : PE X fe tf) (ha : PA X (e :: es) t)
    (ht : eval (.Call fe (e :: es) [] pos) X.env = (do callWith pos (← eval fe X.env) [] (backTo pos (starEach (e :: es) X.env)) (backToKw pos (keywordEach [] X.env))) := by rfl)
    (he : starEach (e :: es) X.env = (false, eval e X.env) :: starEach es X.env := by rfl) (hpl : (backTo pos (starEach es X.env)).any (·.1) = false := by rfl) : PE X (.Call fe (e :: es) [] pos) (tCallO X C (fun vs H Q E => sp (vs ++ []) H Q E) E0 tf t) := by
  obtain ⟨g, fd, c, ⟨ds, hd, hb⟩, _, F⟩ := D
  exact pe_callO hf c (F.raw hb hd) hr pass0 ha ht he hpl
theorem pe_clD {X : Cx} {C : Addr} {ps : List Str} {dvs : List V} {k : Nat} {sp : Sp} {fe e : Expr} {es : List Expr} {tf : TE} {t : TA} {pos : Pos} (D : DfCl X.prog X.w X.K X.mg X.base C ps dvs k sp) (hr : Room k X.A) (hf : PE X fe tf) (ha : PA X (e :: es) t)
    (ht : eval (.Call fe (e :: es) [] pos) X.env = (do callWith pos (← eval fe X.env) [] (backTo pos (starEach (e :: es) X.env)) (backToKw pos (keywordEach [] X.env))) := by rfl)
    (he : starEach (e :: es) X.env = (false, eval e X.env) :: starEach es X.env := by rfl) (hpl : (backTo pos (starEach es X.env)).any (·.1) = false := by rfl) : PE X (.Call fe (e :: es) [] pos) (tCallO X C (fun vs H Q E => sp (vs ++ dvs) H Q E) E0 tf t) := by
  obtain ⟨g, fd, c, _, ⟨ds, hd, hb⟩, F⟩ := D
  exact pe_callO hf c (F.raw hb hd) hr pass0 ha ht he hpl
end Kz
namespace Kz
open PySem PySem.Spec PyProof.Rows L2 Evl StX
/-! ### a new dict filled by names -/
section
variable {P : Program} {w : World} {A : Around} {E : Value → Shared → Prop}
theorem nss_step {s : Shared} {d : Addr} {es : List DictEntry} {n : Nat} {k : Str} {v : Value} {Q : Unit → Shared → Prop} (hd : s.heap.get? d = some (PySem.W.dictOf es n)) (hs : ∀ e ∈ es, e.key.isStr k = false) (hr : ∀ e ∈ es, e.refKey = false)
    (h : ∀ h' : Heap, h'.get? d = some (PySem.W.dictOf (es ++ [⟨PyData.keyHash w.params k, .str k s.toks, v⟩]) (n + 1)) → (∀ b o, b ≠ d → s.heap.get? b = some o → h'.get? b = some o) → h'.objs.size = s.heap.objs.size → Q () { s with heap := h', toks := s.toks + 1 }) :
    wpAny (model P w) A (nsSet d k v) Q E s := by
  have e1 : es.any (·.key.isStr k) = false := by
    cases q : es.any (·.key.isStr k) with
    | false => rfl
    | true => obtain ⟨e, he, z⟩ := List.any_eq_true.mp q; rw [hs e he] at z; cases z
  have e2 : es.any (·.refKey) = false := by
    cases q : es.any (·.refKey) with
    | false => rfl
    | true => obtain ⟨e, he, z⟩ := List.any_eq_true.mp q; rw [hr e he] at z; cases z
  have e : Obj.putName k (PyData.keyHash w.params k) (.str k s.toks) v (PySem.W.dictOf es n) = PySem.W.dictOf (es ++ [⟨PyData.keyHash w.params k, .str k s.toks, v⟩]) (n + 1) := by
    rw [PySem.W.putName_dict, PySem.W.putL_new hs]
    show PySem.W.dictOf _ (if es.any (·.key.isStr k) then n else n + 1) = _
    rw [e1, if_neg Bool.false_ne_true]
  have c : aRefKeyMayBeTheName k es.toArray = false := by
    rw [aRefKeyMayBeTheName_at, ← Array.any_toList, ← Array.any_toList]
    show (!es.any (·.key.isStr k) && es.any (·.refKey)) = false
    rw [e2, Bool.and_false]
  unfold nsSet
  refine wpAny_bind (wpAny_bind (wpAny_askSetting (wpAny_pure (wpAny_bind (wpAny_mkText (wpAny_bind (wpAny_loadPart hd ?_)))))))
  dsimp only
  rw [c]
  refine wpAny_updatePart hd (h _ ?_ (fun b o hb ho => ?_) (Heap.size_update _ _ _))
  · rw [← e]
    refine Heap.get?_update_self _ hd ?_
    show (Obj.putName k (PyData.keyHash w.params k) (.str k s.toks) v (PySem.W.dictOf es n)).isFreed = false
    rw [e]
    rfl
  · rw [Heap.get?_update_ne _ _ _ _ hb]
    exact ho
theorem nss_fill {d : Addr} {Q : PUnit → Shared → Prop} : ∀ (ex : List (Str × Value)) (s : Shared) (es : List DictEntry) (n : Nat), s.heap.get? d = some (PySem.W.dictOf es n) → (∀ e ∈ es, ∀ x ∈ ex, e.key.isStr x.1 = false) → (∀ e ∈ es, e.refKey = false) → (ex.map (·.1)).Nodup →
    (∀ h' : Heap, h'.get? d = some (PySem.W.dictOf (es ++ PySem.W.kwEs w.params s.toks ex) (n + ex.length)) → (∀ b o, b ≠ d → s.heap.get? b = some o → h'.get? b = some o) → h'.objs.size = s.heap.objs.size → Q ⟨⟩ { s with heap := h', toks := s.toks + ex.length }) →
    wpAny (model P w) A (forIn ex PUnit.unit fun x _ => (nsSet d x.1 x.2 >>= fun _ => pure (ForInStep.yield PUnit.unit))) Q E s
  | [], s, es, n, hd, _, _, _, h => by
    rw [List.forIn_nil]
    refine wpAny_pure (h s.heap ?_ (fun b o _ ho => ho) rfl)
    show s.heap.get? d = some (PySem.W.dictOf (es ++ []) n)
    rw [List.append_nil]
    exact hd
  | x :: r, s, es, n, hd, hs, hr, hn, h => by
    obtain ⟨hn1, hn2⟩ := List.nodup_cons.mp (show (x.1 :: r.map (·.1)).Nodup from hn)
    rw [List.forIn_cons]
    refine wpAny_bind (wpAny_bind (nss_step hd (fun e he => hs e he x (.head _)) hr fun h' hd' k1 z1 => wpAny_pure ?_))
    show wpAny (model P w) A (forIn r PUnit.unit fun x _ => (nsSet d x.1 x.2 >>= fun _ => pure (ForInStep.yield PUnit.unit))) Q E { s with heap := h', toks := s.toks + 1 }
    refine nss_fill r { s with heap := h', toks := s.toks + 1 } _ _ hd' (fun e he y hy => ?_) (fun e he => ?_) hn2 fun h'' hd'' k2 z2 => ?_
    · rcases List.mem_append.mp he with he | he
      · exact hs e he y (.tail _ hy)
      · obtain rfl := List.mem_singleton.mp he
        show (x.1 == y.1) = false
        exact beq_eq_false_iff_ne.mpr fun q => hn1 (by rw [q]; exact List.mem_map_of_mem hy)
    · rcases List.mem_append.mp he with he | he
      · exact hr e he
      · obtain rfl := List.mem_singleton.mp he
        rfl
    · have t1 : s.toks + 1 + r.length = s.toks + (r.length + 1) := by omega
      have t2 : n + 1 + r.length = n + (r.length + 1) := by omega
      show Q ⟨⟩ { s with heap := h'', toks := s.toks + 1 + r.length }
      rw [t1]
      refine h h'' ?_ (fun b o hb ho => k2 b o hb (k1 b o hb ho)) (z2.trans z1)
      rw [t2, List.append_assoc] at hd''
      exact hd''
def kwK (ex : List (Str × Value)) : List (Key × Value) := ex.map fun x => (.inr x.1, x.2)
theorem kw_pairs : ∀ (ex : List (Str × Value)) (t : Tok), Pairs (mixKind P w) (PySem.W.kwEs w.params t ex) (kwK ex)
  | [], _ => Pairs.nil
  | x :: r, t => Pairs.cons (by show (mixKind P w).is (.inr x.1) (.str x.1 t) = true; exact decide_eq_true rfl) rfl (kw_pairs r (t + 1))
theorem kw_dict {ex : List (Str × Value)} (t : Tok) (n : Nat) (hn : (ex.map (·.1)).Nodup) : (PySem.W.dictOf (PySem.W.kwEs w.params t ex) n).IsDictOf (mixKind P w) (kwK ex) :=
  ⟨(PySem.W.kwEs w.params t ex).toArray, n, ⟨rfl, rfl, rfl⟩, rfl, fun e he => by
    obtain ⟨k, u, hk, hh⟩ := PySem.W.kwEs_key ex t e (List.mem_toArray.mp he)
    exact ⟨.inr k, by rw [hk]; exact decide_eq_true rfl, hh.trans rfl⟩, kw_pairs ex t, by
    unfold kwK
    rw [List.map_map]
    have : (ex.map ((fun x : Key × Value => x.1) ∘ fun x : Str × Value => ((.inr x.1 : Key), x.2))) = (ex.map (·.1)).map Sum.inr := by rw [List.map_map]; rfl
    rw [this]
    exact List.Pairwise.map _ (fun a b h e => h (Sum.inr.inj e)) hn⟩
end
/-! ### a def f(self, **more): called with keywords -/
section
variable {P : Program} {w : World} {K : PySem.W.Frag} {mg : Str → Option Value} {base : Heap} {A : Around} {outer : List Env} {s : Shared} {H : Hp}
theorem env0_grown {h' : Heap} {u : HO} {t' : Nat} (e0 : Env0 P w K mg base A outer s H) (kp : ∀ b x, s.heap.get? b = some x → h'.get? b = some x) (z : s.heap.objs.size ≤ h'.objs.size) (new : ObjOk P w (upd H s.heap.objs.size u) h' s.heap.objs.size u) :
    Env0 P w K mg base A outer { s with heap := h', toks := t' } (upd H s.heap.objs.size u) := by
  refine ⟨e0.frames, e0.mod, fun b x e => ⟨kp b x (e0.bs b x e).1, ?_⟩, ?_, Heap.FunFrames.of_keeps (fun b x e _ => ⟨x, kp b x e, rfl⟩) e0.funs, fun b hb => ?_, e0.hok.laid kp (Nat.le_refl _) new, e0.bare⟩
  · rw [upd_ne (Nat.ne_of_lt (Heap.lt_size (e0.bs b x e).1))]
    exact (e0.bs b x e).2
  · exact Nat.le_trans e0.bsz z
  · obtain ⟨_, x, hx, _⟩ := e0.funs.mem hb
    rw [upd_ne (Nat.ne_of_lt (Heap.lt_size hx))]
    exact e0.frf b hb
/-- keywords' values by names -/
def kwV (ks : List Str) (zs : List V) : List (Key × V) := (ks.zip zs).map fun x => (.inr x.1, x.2)
theorem kwV_kv : ∀ {ks : List Str} {zs : List V} {ws : List Value}, Vals zs ws → KV (kwV ks zs) (kwK (ks.zip ws))
  | [], _, _, _ => .nil
  | _ :: _, _, _, .nil => .nil
  | k :: ks, _, _, .cons r rs => .cons ⟨rfl, r⟩ (kwV_kv (ks := ks) rs)
def FnW (P : Program) (w : World) (K : PySem.W.Frag) (mg : Str → Option Value) (base : Heap) (CX : CXT) (k : Nat) (f : Addr) (sp : List Str → List V → Sp) : Prop :=
  ∀ (A : Around) (outer : List Env) (s : Shared) (H : Hp) (ks : List Str) (us ws : List Value) (vs zs : List V) (Q : VK) (E : XK), Room k A → Env0 P w K mg base A outer s H → Vals vs us → Vals zs ws → sp ks zs vs H Q E →
    codeAny (model P w) A (.call (.ref f) ⟨us, ks.zip ws⟩) (CR CX outer P w H s Q E) s
/-- the promise: keywords ks, no two alike; the values in a new dict -/
def spW (sp : Sp) : List Str → List V → Sp := fun ks zs vs H Q E => ks.Nodup ∧ ks.length = zs.length ∧ ks.length ≤ 100 ∧ vs.length = 1 ∧ ∀ d, H d = none → sp (vs ++ [.ref d]) (upd H d (.dK (kwV ks zs))) Q E
theorem fn_more {CX : CXT} {k : Nat} {f : Addr} {name qual : Str} {params : Arguments} {body : List Stmt} {scope : Scope} {dV kV doc pm cdv ct oc : Value} {an od : Option Addr} {osl : Array (Option Value)} {N : List Str} {p1 pd : Str} {sp : Sp}
    (lk : K.lookup f = some ⟨oc, od, .func (PySem.W.fnOf name qual params body scope dV kV doc pm an cdv ct), osl⟩) (hcd : PySem.W.codeIn K cdv qual = true) (S : FnScope N [p1, pd] scope) (hCX : CXUp CX) (C : List Str → Prop)
    (hb : ∀ (u : Value) (ks : List Str) (ws : List Value), C ks → ks.length = ws.length → bindArgs (PySem.W.fnOf name qual params body scope dV kV doc pm an cdv ct) ⟨[u], ks.zip ws⟩ =
      ((alloc ({ cls := .type "dict", data := .dict #[] } : Obj) : Sem Addr) >>= fun d => forIn (ks.zip ws) PUnit.unit (fun x _ => (nsSet d x.1 x.2 >>= fun _ => pure (ForInStep.yield PUnit.unit))) >>= fun _ => pure [(p1, u), (pd, Value.ref d)]))
    (hbody : ∀ (A : Around) (outer : List Env) (s : Shared) (H : Hp) (vs : List V) (Q : VK) (E : XK), Room k (A.deeper (envOfC qual scope s.heap.objs.size f cdv)) → sp vs H Q E →
      ∃ t, PSs (cxOf CX P w K mg base N qual scope f cdv A outer s H E) body t ∧ t { nx := fun _ H' => Q .non H', rt := Q } (start N vs) H) :
    FnW P w K mg base CX (k + 1) f (fun ks zs vs H Q E => C ks ∧ spW sp ks zs vs H Q E) := by
  intro A outer s H ks us ws vs zs Q E hr e0 r rz hsp
  obtain ⟨hC, nd, lz, l100, l1, hq⟩ := hsp
  have lw : ks.length = ws.length := lz.trans rz.length
  obtain ⟨v, rfl⟩ : ∃ v, vs = [v] := by
    cases vs with
    | nil => cases l1
    | cons v l => cases l with
      | nil => exact ⟨v, rfl⟩
      | cons _ _ => simp at l1
  cases r with
  | cons rv rn =>
  cases rn
  rename_i u
  have hn : H s.heap.objs.size = Option.none := e0.hok.fresh (Nat.le_refl _)
  refine run_bnd lk hcd S hr e0 (G := fun xs H2 => ∃ d, H d = Option.none ∧ xs = [v, V.ref d] ∧ H2 = upd H d (.dK (kwV ks zs))) (fun A' Ex Q' h => ?_) fun s2 H2 xs ⟨d, hd, ex, eH⟩ hr' => ?_
  · rw [hb u ks ws hC lw]
    have zk : (ks.zip ws).map (·.1) = ks := List.map_fst_zip (by omega)
    refine wpAny_bind (wpAny_alloc (wpAny_bind ?_))
    refine nss_fill (ks.zip ws) _ [] 0 (Heap.get?_push_size _ rfl) (fun e he => by cases he) (fun e he => by cases he) (by rw [zk]; exact nd) fun h' hd' kp z => wpAny_pure ?_
    have kp' : ∀ b x, s.heap.get? b = some x → h'.get? b = some x := fun b x q => kp b x (Nat.ne_of_lt (Heap.lt_size q)) (Heap.get?_push_of_some _ q)
    have zz : s.heap.objs.size ≤ h'.objs.size := by
      rw [z]
      show s.heap.objs.size ≤ (s.heap.push _).objs.size
      rw [Heap.size_push]
      exact Nat.le_succ _
    have lv : (kwV ks zs).length ≤ sizeLine := by
      unfold kwV
      rw [List.length_map, List.length_zip]
      exact sz_of (by omega)
    have new : ObjOk P w (upd H s.heap.objs.size (.dK (kwV ks zs))) h' s.heap.objs.size (.dK (kwV ks zs)) :=
      ⟨lv, beq_eq_false_iff_ne.mpr (Ne.symm (Nat.ne_of_lt (env0_big e0))), kwK (ks.zip ws), kwV_kv rz, Heap.dictOf_iff.mpr ⟨_, hd', kw_dict _ _ (by rw [zk]; exact nd)⟩⟩
    have un : Un (frs outer) [] H (upd H s.heap.objs.size (.dK (kwV ks zs))) s.heap h' := Un.laid kp' (Nat.le_refl _) hn
    have e1 := env0_grown (t' := s.toks + (ks.zip ws).length) e0 kp' zz new
    exact h _ _ [v, V.ref s.heap.objs.size] [u, Value.ref s.heap.objs.size] e1 un rfl (fun e s' => hCX outer s H _ _ E e s' un kp' rfl) (.cons rv (.cons rfl .nil)) rfl ⟨_, hn, rfl, rfl⟩
  · subst ex eH
    exact hbody A outer s2 _ _ Q E hr' (hq d hd)
end
/-! ### x.m(k = v, ..) of such a method -/
def DfW (P : Program) (w : World) (K : PySem.W.Frag) (mg : Str → Option Value) (base : Heap) (C : Addr) (m : Str) (k : Nat) (sp : List Str → List V → Sp) : Prop := ∃ f : Addr, Meth K C m f ∧ FnW P w K mg base CX0 k f sp
def tMethW (C : Addr) (m : Str) (ks : List Str) (sp : List Str → List V → Sp) (E : XK) (ta : TE) (tk : TA) : TE := fun σ H Q => ta σ H fun x H1 => ∃ a dx fs, x = .ref a ∧ H1 a = some (.ins C dx fs) ∧ fs.lookup m = none ∧ tk σ H1 fun zs H2 => sp ks zs [x] H2 Q E
theorem run_fnW {X : Cx} {CX : CXT} {pins : List (Addr × Obj)} {σ : L2.St} {H : Hp} {s : Shared} {k : Nat} {f : Addr} {sp : List Str → List V → Sp} {E : XK} {Q : VK} {ks : List Str} {us ws : List Value} {vs zs : List V} (F : FnW X.prog X.w X.K X.mg X.base CX k f sp) (hr : Room k X.A) (hx : Passes CX X E) (I : Inv X pins σ H s) (r : Vals vs us) (rz : Vals zs ws) (h : sp ks zs vs H Q E) :
    codeAny (model X.prog X.w) X.A (.call (.ref f) ⟨us, ks.zip ws⟩) (fun r s' => match r with | .ok (.ret v) => EP X pins σ Q v s' | .ok _ => False | .error e => X.xe e s') s := by
  refine codeAny_mono (F X.A X.stack s H ks us ws vs zs Q E hr I.env0 r rz h) fun r s' hq => ?_
  cases r with
  | error e => exact hx pins σ H s e s' I hq
  | ok fl =>
    cases fl with
    | ret u => exact I.after hq
    | next => exact False.elim hq
    | brk => exact False.elim hq
    | cont => exact False.elim hq
theorem pe_methW {X : Cx} {C : Addr} {m : Str} {k : Nat} {ks : List Str} {sp : List Str → List V → Sp} {E : XK} {o : Expr} {kws : List Keyword} {ta : TE} {tk : TA} {apos pos : Pos} {pl : Sem Bool} (he : PE X o ta) (c : Cls X.K C) (D : DfW X.prog X.w X.K X.mg X.base C m k sp) (hr : Room k X.A) (hx : Passes CX0 X E) (hkw : PK X kws tk)
    (hall : (backToKw pos (keywordEach kws X.env)).all (·.1.isSome) = true := by rfl) (hks : (backToKw pos (keywordEach kws X.env)).filterMap (·.1) = ks := by rfl) (hpl : ((backTo pos (starEach [] X.env)).any (·.1) || (backToKw pos (keywordEach kws X.env)).any (·.1.isNone)) = false := by rfl)
    (ht : eval (.Call (.Attribute o m apos) [] kws pos) X.env = (do
      let ov ← eval o X.env
      standAt apos.atName
      let (f, first) ← holding [ov] (getMethod ov m pl)
      callWith pos f first (backTo pos (starEach [] X.env)) (backToKw pos (keywordEach kws X.env))) := by rfl) : PE X (.Call (.Attribute o m apos) [] kws pos) (tMethW C m ks sp E ta tk) := by
  refine ⟨fun pins s σ H Q I h => ?_⟩
  obtain ⟨f, hm, F⟩ := D
  refine PySem.W.methodCall_KW (pl := pl) (thn (he.run pins s σ H _ I h) fun u s1 ⟨x, H1, I1, rx, a, dx, fs, ex, ea, l, q⟩ => ?_) ht
  subst ex
  obtain rfl : u = Value.ref a := rx
  refine getmeth_ok I1 ea c hm l ?_
  refine PySem.W.callWith_KW0 (first := [.ref a]) I1.kIn hm.kp hall ?_ hpl
  refine thn (hkw.run pos pins s1 σ H1 _ I1 q) fun ws s2 ⟨zs, H2, I2, rz, q2⟩ => ⟨I2.kIn, ?_⟩
  rw [hks]
  exact wpAny_call (run_fnW F hr hx I2 (us := [.ref a]) (vs := [.ref a]) (.cons rfl .nil) rz q2)
/-! ### an instance called with keywords -/
theorem callO_ofK {M : Model} {A : Around} {E : Value → Shared → Prop} {s : Shared} {a : Addr} {pos : Pos} {Q : Value → Shared → Prop} {args : List (Bool × Sem Value)} {kws : List (Option Str × Sem Value)} (hplain : (args.any (·.1) || kws.any (·.1.isNone)) = false)
    (h : wpAny M A (evalArgs (.ref a) true args kws) (fun z s₁ => (∃ C ox od, PySem.W.InstAt s₁.heap a ox C od ∧ ox.data = .plain) ∧ wpAny M A (call (.ref a) ([] ++ z.pos) z.kw) Q E s₁) E s) : wpAny M A (callWith pos (.ref a) [] args kws) Q E s := by
  unfold callWith
  refine wpAny_bind (wpAny_holding (wpAny_mono h (fun z s₁ h₁ => wpAny_bind (wpAny_standAt ?_)) fun _ _ y => y))
  obtain ⟨⟨C, ox, od, J, hd⟩, h₁⟩ := h₁
  have L := PySem.W.kco_keeper (M := M) J hd
  simp only [hplain]
  refine wpAny_bind (L.here ?_)
  have tail : ∀ {t : Sem Value}, wpAny M A t Q E s₁ → wpAny M A (t >>= fun r => holding [r] point >>= fun _ => pure r) Q E s₁ :=
    fun ht => wpAny_bind (wpAny_mono ht (fun r s₂ hr => wpAny_bind (wpAny_holding (wpAny_point (wpAny_pure hr)))) fun _ _ y => y)
  exact tail (wpAny_operateT h₁)
def DfClK (P : Program) (w : World) (K : PySem.W.Frag) (mg : Str → Option Value) (base : Heap) (C : Addr) (ps : List Str) (n : Nat) (ks : List Str) (k : Nat) (sp : Sp) : Prop :=
  ∃ (g : Addr) (fd : FuncData), CallO K C g ∧ KBn K fd ps n ks (fun us ws => us ++ ws) (fun vs zs => vs ++ zs) ∧ FnOk P w K mg base CX0 k g fd ps sp
def tCallOK (X : Cx) (C : Addr) (n m : Nat) (sp : Sp) (E : XK) (tf : TE) (t tk : TA) : TE := fun σ H Q => tf σ H fun y H1 => ∃ a, y = V.ref a ∧ t σ H1 fun vs H2 => tk σ H2 fun zs H3 => vs.length + 1 = n ∧ zs.length = m ∧ InsC X H3 a C ∧ sp ((V.ref a :: vs) ++ zs) H3 Q E
theorem pe_clK {X : Cx} {C : Addr} {ps ks : List Str} {n k : Nat} {sp : Sp} {fe e : Expr} {es : List Expr} {kws : List Keyword} {tf : TE} {t tk : TA} {pos : Pos} (D : DfClK X.prog X.w X.K X.mg X.base C ps n ks k sp) (hr : Room k X.A) (hf : PE X fe tf) (ha : PA X (e :: es) t) (hkw : PK X kws tk)
    (ht : eval (.Call fe (e :: es) kws pos) X.env = (do callWith pos (← eval fe X.env) [] (backTo pos (starEach (e :: es) X.env)) (backToKw pos (keywordEach kws X.env))) := by rfl)
    (hall : (backToKw pos (keywordEach kws X.env)).all (·.1.isSome) = true := by rfl) (hks : (backToKw pos (keywordEach kws X.env)).filterMap (·.1) = ks := by rfl)
    (he : starEach (e :: es) X.env = (false, eval e X.env) :: starEach es X.env := by rfl) (hpl : ((backTo pos (starEach (e :: es) X.env)).any (·.1) || (backToKw pos (keywordEach kws X.env)).any (·.1.isNone)) = false := by rfl) :
    PE X (.Call fe (e :: es) kws pos) (tCallOK X C n ks.length sp E0 tf t tk) := by
  obtain ⟨g, fd, c, hb, F⟩ := D
  refine ⟨fun pins s σ H Q I h => ?_⟩
  rw [ht]
  refine wpAny_bind (thn (hf.run pins s σ H _ I h) fun u s1 ⟨y, H1, I1, ry, a, ey, q⟩ => ?_)
  subst ey
  obtain rfl : u = Value.ref a := ry
  refine callO_ofK hpl (PyProof.Rows.evalArgs_kw2 hall (thn (ha.run pos pins s1 σ H1 _ I1 q) fun us s2 ⟨vs, H2, I2, r, q2⟩ => thn (hkw.run pos pins s2 σ H2 _ I2 q2) fun ws s3 ⟨zs, H3, I3, rz, l1, l2, hi, q3⟩ => ?_) he)
  obtain ⟨ox, od, J, hd⟩ := insC_at I3 hi
  refine ⟨⟨C, ox, od, J, hd⟩, ?_⟩
  rw [hks]
  have r1 : Vals (V.ref a :: vs) (Value.ref a :: us) := .cons rfl r
  have n1 : (Value.ref a :: us).length = n := by
    rw [List.length_cons, ← r.length, l1]
  refine wpAny_call (PySem.W.kco_code I3.kIn J hd c.at_ c.fn c.fi (codeAny_mono (F.run X.A X.stack _ _ ⟨Value.ref a :: us, ks.zip ws⟩ ((Value.ref a :: us) ++ ws) _ _ E0 hr I3.env0 (hb.to _ (Value.ref a :: us) ws I3.kIn n1 (rz.length.symm.trans l2)) (hb.rel r1 rz) q3) fun r s' hq => ?_))
  cases r with
  | error e => exact pass0 pins σ _ _ e s' I3 hq
  | ok fl =>
    cases fl with
    | ret u => exact I3.after hq
    | next => exact False.elim hq
    | brk => exact False.elim hq
    | cont => exact False.elim hq
/-- a def with defaults, some of its parameters by keyword, none lacking -/
theorem _root_.L2.FunD.kbindsP {K : PySem.W.Frag} {x qual : Str} {params : Arguments} {body : List Stmt} {scope : Scope} {dvs : List V} {f : Addr} {fd : FuncData} {ps : List Str} (F : FunD K x qual params body scope dvs [] f fd) (n : Nat) (ks : List Str) (hd : dvs ≠ [])
    (h : ∀ (T : Addr) (kV doc pm : Value) (an : Option Addr) (cdv ct : Value) (us ws its : List Value), us.length = n → ws.length = ks.length → its.length = dvs.length →
      ∃ k, bindArgs (PySem.W.fnOf x qual params body scope (.ref T) kV doc pm an cdv ct) ⟨us, ks.zip ws⟩ = seqItems? (.ref T) >>= k ∧ k (some its.toArray) = pure (ps.zip (us ++ ws))) : KBn K fd ps n ks (fun us ws => us ++ ws) (fun vs zs => vs ++ zs) := by
  obtain ⟨oc, od, dV, kV, doc, pm, an, cdv, ct, osl, rfl, lk, hcd, hD, hK⟩ := F.ex
  rcases hD with ⟨e, _⟩ | ⟨_, T, o, its, m, rfl, lT, oT, rT⟩
  · exact absurd e hd
  · refine ⟨fun s us ws X l1 l2 => ?_, fun r1 r2 => r1.append r2⟩
    obtain ⟨k, e1, e2⟩ := h T kV doc pm an cdv ct us ws its l1 l2 rT.length.symm
    refine BindsTo.of_looks fun M => ?_
    rw [e1]
    exact looks_items X lT oT (.of_pure e2)
end Kz
set_option Elab.async false
set_option linter.all false
set_option maxRecDepth 100000
set_option maxHeartbeats 4000000
namespace Q
open PySem PySem.Spec PyProof.Rows L2 Evl StX Kz
def topS (i : Nat) : Stmt := PySem.Challenge.pw_gluedlines_k28_lines_glued_one_by_one.main.body.getD i (.Pass ⟨0, 0, 0, 0⟩)

abbrev s_is_line : Stmt := topS 9
theorem sc_is_line : FnScope ["thing", "sign"] ["thing"] (defScope s_is_line) := ⟨rfl, rfl, rfl, by decide +kernel, rfl, by decide +kernel, by decide +kernel⟩
abbrev s_cells_of : Stmt := topS 15
theorem sc_cells_of : FnScope ["parts", "cells", "part"] ["parts"] (defScope s_cells_of) := ⟨rfl, rfl, rfl, by decide +kernel, rfl, by decide +kernel, by decide +kernel⟩
abbrev s_started : Stmt := topS 16
theorem sc_started : FnScope ["cells"] ["cells"] (defScope s_started) := ⟨rfl, rfl, rfl, by decide +kernel, rfl, by decide +kernel, by decide +kernel⟩
abbrev s_moved : Stmt := topS 17
theorem sc_moved : FnScope ["cells", "positions", "sign", "found", "k"] ["cells", "positions", "sign"] (defScope s_moved) := ⟨rfl, rfl, rfl, by decide +kernel, rfl, by decide +kernel, by decide +kernel⟩
abbrev s_is_done : Stmt := topS 18
theorem sc_is_done : FnScope ["cells", "positions"] ["cells", "positions"] (defScope s_is_done) := ⟨rfl, rfl, rfl, by decide +kernel, rfl, by decide +kernel, by decide +kernel⟩
abbrev s__closed : Stmt := topS 19
theorem sc__closed : FnScope ["cells", "positions", "closed", "k"] ["cells", "positions"] (defScope s__closed) := ⟨rfl, rfl, rfl, by decide +kernel, rfl, by decide +kernel, by decide +kernel⟩
abbrev s__takes : Stmt := topS 20
theorem sc__takes : FnScope ["cell", "sign"] ["cell", "sign"] (defScope s__takes) := ⟨rfl, rfl, rfl, by decide +kernel, rfl, by decide +kernel, by decide +kernel⟩
abbrev s_Form___init__ : Stmt := inClass (topS 26) 3
theorem sc_Form___init__ : FnScope ["self", "parts", "at"] ["self", "parts"] (defScope s_Form___init__) := ⟨rfl, rfl, rfl, by decide +kernel, rfl, by decide +kernel, by decide +kernel⟩
abbrev s_Form_parts : Stmt := inClass (topS 26) 4
theorem sc_Form_parts : FnScope ["self"] ["self"] (defScope s_Form_parts) := ⟨rfl, rfl, rfl, by decide +kernel, rfl, by decide +kernel, by decide +kernel⟩
abbrev s_Form_forms : Stmt := inClass (topS 26) 5
theorem sc_Form_forms : FnScope ["self"] ["self"] (defScope s_Form_forms) := ⟨rfl, rfl, rfl, by decide +kernel, rfl, by decide +kernel, by decide +kernel⟩
abbrev s_Form___contains__ : Stmt := inClass (topS 26) 7
theorem sc_Form___contains__ : FnScope ["self", "line", "positions", "sign"] ["self", "line"] (defScope s_Form___contains__) := ⟨rfl, rfl, rfl, by decide +kernel, rfl, by decide +kernel, by decide +kernel⟩
abbrev s_Form___and__ : Stmt := inClass (topS 26) 8
theorem sc_Form___and__ : FnScope ["self", "other"] ["self", "other"] (defScope s_Form___and__) := ⟨rfl, rfl, rfl, by decide +kernel, rfl, by decide +kernel, by decide +kernel⟩
abbrev s_Form___or__ : Stmt := inClass (topS 26) 9
theorem sc_Form___or__ : FnScope ["self", "other"] ["self", "other"] (defScope s_Form___or__) := ⟨rfl, rfl, rfl, by decide +kernel, rfl, by decide +kernel, by decide +kernel⟩
abbrev s_Form___str__ : Stmt := inClass (topS 26) 11
theorem sc_Form___str__ : FnScope ["self"] ["self"] (defScope s_Form___str__) := ⟨rfl, rfl, rfl, by decide +kernel, rfl, by decide +kernel, by decide +kernel⟩
abbrev s_Both___init__ : Stmt := inClass (topS 27) 0
theorem sc_Both___init__ : FnScope ["self", "one", "other"] ["self", "one", "other"] (defScope s_Both___init__) := ⟨rfl, rfl, rfl, by decide +kernel, rfl, by decide +kernel, by decide +kernel⟩
abbrev s_Both_forms : Stmt := inClass (topS 27) 1
theorem sc_Both_forms : FnScope ["self"] ["self"] (defScope s_Both_forms) := ⟨rfl, rfl, rfl, by decide +kernel, rfl, by decide +kernel, by decide +kernel⟩
abbrev s_Both___contains__ : Stmt := inClass (topS 27) 3
theorem sc_Both___contains__ : FnScope ["self", "line"] ["self", "line"] (defScope s_Both___contains__) := ⟨rfl, rfl, rfl, by decide +kernel, rfl, by decide +kernel, by decide +kernel⟩
abbrev s_Both___and__ : Stmt := inClass (topS 27) 4
theorem sc_Both___and__ : FnScope ["self", "other"] ["self", "other"] (defScope s_Both___and__) := ⟨rfl, rfl, rfl, by decide +kernel, rfl, by decide +kernel, by decide +kernel⟩
abbrev s_Both___or__ : Stmt := inClass (topS 27) 5
theorem sc_Both___or__ : FnScope ["self", "other"] ["self", "other"] (defScope s_Both___or__) := ⟨rfl, rfl, rfl, by decide +kernel, rfl, by decide +kernel, by decide +kernel⟩
abbrev s_Both___str__ : Stmt := inClass (topS 27) 7
theorem sc_Both___str__ : FnScope ["self"] ["self"] (defScope s_Both___str__) := ⟨rfl, rfl, rfl, by decide +kernel, rfl, by decide +kernel, by decide +kernel⟩
abbrev s_Either___init__ : Stmt := inClass (topS 28) 0
theorem sc_Either___init__ : FnScope ["self", "one", "other"] ["self", "one", "other"] (defScope s_Either___init__) := ⟨rfl, rfl, rfl, by decide +kernel, rfl, by decide +kernel, by decide +kernel⟩
abbrev s_Either_forms : Stmt := inClass (topS 28) 1
theorem sc_Either_forms : FnScope ["self"] ["self"] (defScope s_Either_forms) := ⟨rfl, rfl, rfl, by decide +kernel, rfl, by decide +kernel, by decide +kernel⟩
abbrev s_Either___contains__ : Stmt := inClass (topS 28) 3
theorem sc_Either___contains__ : FnScope ["self", "line"] ["self", "line"] (defScope s_Either___contains__) := ⟨rfl, rfl, rfl, by decide +kernel, rfl, by decide +kernel, by decide +kernel⟩
abbrev s_Either___str__ : Stmt := inClass (topS 28) 7
theorem sc_Either___str__ : FnScope ["self"] ["self"] (defScope s_Either___str__) := ⟨rfl, rfl, rfl, by decide +kernel, rfl, by decide +kernel, by decide +kernel⟩
abbrev s__is_allowed : Stmt := topS 29
theorem sc__is_allowed : FnScope ["parts", "at", "part"] ["parts", "at"] (defScope s__is_allowed) := ⟨rfl, rfl, rfl, by decide +kernel, rfl, by decide +kernel, by decide +kernel⟩
abbrev s__check_room : Stmt := topS 30
theorem sc__check_room : FnScope ["one", "other"] ["one", "other"] (defScope s__check_room) := ⟨rfl, rfl, rfl, by decide +kernel, rfl, by decide +kernel, by decide +kernel⟩
abbrev s_Rule___init__ : Stmt := inClass (topS 36) 0
theorem sc_Rule___init__ : FnScope ["self", "begins", "ends", "most", "alone", "tags", "quiet"] ["self", "begins", "ends", "most", "alone", "tags", "quiet"] (defScope s_Rule___init__) := ⟨rfl, rfl, rfl, by decide +kernel, rfl, by decide +kernel, by decide +kernel⟩
abbrev s_Rule_most : Stmt := inClass (topS 36) 4
theorem sc_Rule_most : FnScope ["self"] ["self"] (defScope s_Rule_most) := ⟨rfl, rfl, rfl, by decide +kernel, rfl, by decide +kernel, by decide +kernel⟩
abbrev s_Rule_alone : Stmt := inClass (topS 36) 6
theorem sc_Rule_alone : FnScope ["self"] ["self"] (defScope s_Rule_alone) := ⟨rfl, rfl, rfl, by decide +kernel, rfl, by decide +kernel, by decide +kernel⟩
abbrev s_Rule_tags : Stmt := inClass (topS 36) 8
theorem sc_Rule_tags : FnScope ["self"] ["self"] (defScope s_Rule_tags) := ⟨rfl, rfl, rfl, by decide +kernel, rfl, by decide +kernel, by decide +kernel⟩
abbrev s_Rule_quiet : Stmt := inClass (topS 36) 10
theorem sc_Rule_quiet : FnScope ["self"] ["self"] (defScope s_Rule_quiet) := ⟨rfl, rfl, rfl, by decide +kernel, rfl, by decide +kernel, by decide +kernel⟩
abbrev s_Rule_change : Stmt := inClass (topS 36) 12
theorem sc_Rule_change : FnScope ["self", "settings", "name", "field"] ["self", "settings"] (defScope s_Rule_change) := ⟨rfl, rfl, rfl, by decide +kernel, rfl, by decide +kernel, by decide +kernel⟩
abbrev s_Rule_begins : Stmt := inClass (topS 36) 13
theorem sc_Rule_begins : FnScope ["self"] ["self"] (defScope s_Rule_begins) := ⟨rfl, rfl, rfl, by decide +kernel, rfl, by decide +kernel, by decide +kernel⟩
abbrev s_Rule_ends : Stmt := inClass (topS 36) 14
theorem sc_Rule_ends : FnScope ["self"] ["self"] (defScope s_Rule_ends) := ⟨rfl, rfl, rfl, by decide +kernel, rfl, by decide +kernel, by decide +kernel⟩
abbrev s_Rule_begins_on : Stmt := inClass (topS 36) 15
theorem sc_Rule_begins_on : FnScope ["self", "line", "mark"] ["self", "line"] (defScope s_Rule_begins_on) := ⟨rfl, rfl, rfl, by decide +kernel, rfl, by decide +kernel, by decide +kernel⟩
abbrev s_Rule_ends_on : Stmt := inClass (topS 36) 16
theorem sc_Rule_ends_on : FnScope ["self", "line", "mark"] ["self", "line"] (defScope s_Rule_ends_on) := ⟨rfl, rfl, rfl, by decide +kernel, rfl, by decide +kernel, by decide +kernel⟩
abbrev s__check : Stmt := topS 37
theorem sc__check : FnScope ["field", "value", "allowed"] ["field", "value"] (defScope s__check) := ⟨rfl, rfl, rfl, by decide +kernel, rfl, by decide +kernel, by decide +kernel⟩
abbrev s__is_number : Stmt := topS 38
theorem sc__is_number : FnScope ["value", "low", "high"] ["value", "low", "high"] (defScope s__is_number) := ⟨rfl, rfl, rfl, by decide +kernel, rfl, by decide +kernel, by decide +kernel⟩
abbrev s_Keeper___init__ : Stmt := inClass (topS 40) 0
theorem sc_Keeper___init__ : FnScope ["self", "rule"] ["self", "rule"] (defScope s_Keeper___init__) := ⟨rfl, rfl, rfl, by decide +kernel, rfl, by decide +kernel, by decide +kernel⟩
abbrev s_Keeper_take : Stmt := inClass (topS 40) 1
theorem sc_Keeper_take : FnScope ["self", "line", "tag", "thing", "begins", "given", "things"] ["self", "line", "tag", "thing"] (defScope s_Keeper_take) := ⟨rfl, rfl, rfl, by decide +kernel, rfl, by decide +kernel, by decide +kernel⟩
abbrev s_Keeper_waiting : Stmt := inClass (topS 40) 4
theorem sc_Keeper_waiting : FnScope ["self", "tag", "things"] ["self"] (defScope s_Keeper_waiting) := ⟨rfl, rfl, rfl, by decide +kernel, rfl, by decide +kernel, by decide +kernel⟩
abbrev s_Keeper__too_many : Stmt := inClass (topS 40) 5
theorem sc_Keeper__too_many : FnScope ["self"] ["self"] (defScope s_Keeper__too_many) := ⟨rfl, rfl, rfl, by decide +kernel, rfl, by decide +kernel, by decide +kernel⟩
abbrev s_Keeper__shut : Stmt := inClass (topS 40) 6
theorem sc_Keeper__shut : FnScope ["self", "tags", "given", "tag"] ["self", "tags"] (defScope s_Keeper__shut) := ⟨rfl, rfl, rfl, by decide +kernel, rfl, by decide +kernel, by decide +kernel⟩
abbrev s_Gluer___init__ : Stmt := inClass (topS 41) 0
theorem sc_Gluer___init__ : FnScope ["self", "rule"] ["self", "rule"] (defScope s_Gluer___init__) := ⟨rfl, rfl, rfl, by decide +kernel, rfl, by decide +kernel, by decide +kernel⟩
abbrev s_Gluer_many : Stmt := inClass (topS 41) 1
theorem sc_Gluer_many : FnScope ["self"] ["self"] (defScope s_Gluer_many) := ⟨rfl, rfl, rfl, by decide +kernel, rfl, by decide +kernel, by decide +kernel⟩
abbrev s_Gluer___call__ : Stmt := inClass (topS 41) 2
theorem sc_Gluer___call__ : FnScope ["self", "line", "tag"] ["self", "line", "tag"] (defScope s_Gluer___call__) := ⟨rfl, rfl, rfl, by decide +kernel, rfl, by decide +kernel, by decide +kernel⟩
abbrev s_Gluer_waiting : Stmt := inClass (topS 41) 5
theorem sc_Gluer_waiting : FnScope ["self"] ["self"] (defScope s_Gluer_waiting) := ⟨rfl, rfl, rfl, by decide +kernel, rfl, by decide +kernel, by decide +kernel⟩
abbrev s_Gluer__counted : Stmt := inClass (topS 41) 6
theorem sc_Gluer__counted : FnScope ["self", "given"] ["self", "given"] (defScope s_Gluer__counted) := ⟨rfl, rfl, rfl, by decide +kernel, rfl, by decide +kernel, by decide +kernel⟩
abbrev s__law_pool : Stmt := topS 43
theorem sc__law_pool : FnScope ["script", "k", "cell", "seed"] ["script", "k"] (defScope s__law_pool) := ⟨rfl, rfl, rfl, by decide +kernel, rfl, by decide +kernel, by decide +kernel⟩
abbrev s__law_take : Stmt := topS 44
theorem sc__law_take : FnScope ["pool", "many", "digit"] ["pool", "many"] (defScope s__law_take) := ⟨rfl, rfl, rfl, by decide +kernel, rfl, by decide +kernel, by decide +kernel⟩
abbrev s__law_all_signs : Stmt := topS 45
theorem sc__law_all_signs : FnScope [] [] (defScope s__law_all_signs) := ⟨rfl, rfl, rfl, by decide +kernel, rfl, by decide +kernel, by decide +kernel⟩
abbrev s__law_text : Stmt := topS 46
theorem sc__law_text : FnScope ["pool", "text", "style", "k"] ["pool"] (defScope s__law_text) := ⟨rfl, rfl, rfl, by decide +kernel, rfl, by decide +kernel, by decide +kernel⟩
abbrev s__law_parts : Stmt := topS 47
theorem sc__law_parts : FnScope ["pool", "parts", "k", "kind", "fixed"] ["pool"] (defScope s__law_parts) := ⟨rfl, rfl, rfl, by decide +kernel, rfl, by decide +kernel, by decide +kernel⟩
abbrev s__law_form : Stmt := topS 48
theorem sc__law_form : FnScope ["parts"] ["parts"] (defScope s__law_form) := ⟨rfl, rfl, rfl, by decide +kernel, rfl, by decide +kernel, by decide +kernel⟩
abbrev s__law_ends : Stmt := topS 49
theorem sc__law_ends : FnScope ["part", "line", "at", "found", "taken", "end"] ["part", "line", "at"] (defScope s__law_ends) := ⟨rfl, rfl, rfl, by decide +kernel, rfl, by decide +kernel, by decide +kernel⟩
abbrev s__law_fits : Stmt := topS 50
theorem sc__law_fits : FnScope ["parts", "line", "places", "part", "more", "at", "end"] ["parts", "line"] (defScope s__law_fits) := ⟨rfl, rfl, rfl, by decide +kernel, rfl, by decide +kernel, by decide +kernel⟩
abbrev s__law_line : Stmt := topS 51
theorem sc__law_line : FnScope ["pool", "parts", "line", "part"] ["pool", "parts"] (defScope s__law_line) := ⟨rfl, rfl, rfl, by decide +kernel, rfl, by decide +kernel, by decide +kernel⟩
abbrev s__law_tree : Stmt := topS 52
theorem sc__law_tree : FnScope ["pool", "kind"] ["pool"] (defScope s__law_tree) := ⟨rfl, rfl, rfl, by decide +kernel, rfl, by decide +kernel, by decide +kernel⟩
abbrev s__law_built : Stmt := topS 53
theorem sc__law_built : FnScope ["tree"] ["tree"] (defScope s__law_built) := ⟨rfl, rfl, rfl, by decide +kernel, rfl, by decide +kernel, by decide +kernel⟩
abbrev s__law_bears : Stmt := topS 54
theorem sc__law_bears : FnScope ["tree", "line"] ["tree", "line"] (defScope s__law_bears) := ⟨rfl, rfl, rfl, by decide +kernel, rfl, by decide +kernel, by decide +kernel⟩
abbrev s__law_written : Stmt := topS 55
theorem sc__law_written : FnScope ["pool", "tree"] ["pool", "tree"] (defScope s__law_written) := ⟨rfl, rfl, rfl, by decide +kernel, rfl, by decide +kernel, by decide +kernel⟩
abbrev s__law_rule : Stmt := topS 56
theorem sc__law_rule : FnScope ["pool", "begins", "ends", "cap", "limit", "k"] ["pool"] (defScope s__law_rule) := ⟨rfl, rfl, rfl, by decide +kernel, rfl, by decide +kernel, by decide +kernel⟩
abbrev s__law_marks : Stmt := topS 57
theorem sc__law_marks : FnScope ["trees", "tree"] ["trees"] (defScope s__law_marks) := ⟨rfl, rfl, rfl, by decide +kernel, rfl, by decide +kernel, by decide +kernel⟩
abbrev s__law_ruled : Stmt := topS 58
theorem sc__law_ruled : FnScope ["rule", "begins"] ["rule"] (defScope s__law_ruled) := ⟨rfl, rfl, rfl, by decide +kernel, rfl, by decide +kernel, by decide +kernel⟩
abbrev s__law_marked : Stmt := topS 59
theorem sc__law_marked : FnScope ["trees", "line", "tree"] ["trees", "line"] (defScope s__law_marked) := ⟨rfl, rfl, rfl, by decide +kernel, rfl, by decide +kernel, by decide +kernel⟩
abbrev s__law_row : Stmt := topS 60
theorem sc__law_row : FnScope ["pool", "rule", "trees", "at"] ["pool", "rule"] (defScope s__law_row) := ⟨rfl, rfl, rfl, by decide +kernel, rfl, by decide +kernel, by decide +kernel⟩
abbrev s__law_fed : Stmt := topS 61
theorem sc__law_fed : FnScope ["rule", "held", "line", "some_tag", "thing", "begins", "given", "own", "row"] ["rule", "held", "line", "some_tag", "thing"] (defScope s__law_fed) := ⟨rfl, rfl, rfl, by decide +kernel, rfl, by decide +kernel, by decide +kernel⟩
abbrev s__law_told : Stmt := topS 62
theorem sc__law_told : FnScope ["gluer", "held", "given", "told", "some_tag", "lines"] ["gluer", "held", "given"] (defScope s__law_told) := ⟨rfl, rfl, rfl, by decide +kernel, rfl, by decide +kernel, by decide +kernel⟩
abbrev s__law_right : Stmt := topS 63
theorem sc__law_right : FnScope ["rule", "lines", "kept", "gluer", "other", "held", "given", "turn", "line", "due", "told", "some_tag", "some"] ["rule", "lines"] (defScope s__law_right) := ⟨rfl, rfl, rfl, by decide +kernel, rfl, by decide +kernel, by decide +kernel⟩
abbrev s__law_second : Stmt := topS 64
theorem sc__law_second : FnScope ["rule", "lines", "gluer", "held", "turn", "due"] ["rule", "lines"] (defScope s__law_second) := ⟨rfl, rfl, rfl, by decide +kernel, rfl, by decide +kernel, by decide +kernel⟩
abbrev s_law : Stmt := topS 65
theorem sc_law : FnScope ["script", "rule", "lines", "k"] ["script"] (defScope s_law) := ⟨rfl, rfl, rfl, by decide +kernel, rfl, by decide +kernel, by decide +kernel⟩
structure Txt (K : PySem.W.Frag) (mg : Str → Option Value) (a_FIELDS : Addr) (a_OPEN_PARTS : Addr) (C_Both : Addr) (C_Either : Addr) (C_Form : Addr) (C_Gluer : Addr) (C_Keeper : Addr) (C_Rule : Addr) : Prop where
  c_ANY_SIGNS : Cst mg "ANY_SIGNS" (.str (Str.ofString "<any>"))
  c_DIGIT_SIGNS : Cst mg "DIGIT_SIGNS" (.str (Str.ofString "0123456789"))
  c_FIELDS : Cst mg "FIELDS" (.ref a_FIELDS)
  o_FIELDS : WT K a_FIELDS [V.str (Str.ofString "most"), V.str (Str.ofString "alone"), V.str (Str.ofString "tags"), V.str (Str.ofString "quiet")]
  c_LETTER_SIGNS : Cst mg "LETTER_SIGNS" (.str (Str.ofString "ABCDEFGHIJKLMNOPQRSTUVWXYZabcdefghijklmnopqrstuvwxyz"))
  c_MOST_FORMS : Cst mg "MOST_FORMS" (.int 3)
  c_MOST_LINES : Cst mg "MOST_LINES" (.int 20)
  c_MOST_MARKS : Cst mg "MOST_MARKS" (.int 6)
  c_MOST_PARTS : Cst mg "MOST_PARTS" (.int 4)
  c_MOST_SIGNS : Cst mg "MOST_SIGNS" (.int 4)
  c_MOST_TAGS : Cst mg "MOST_TAGS" (.int 9)
  c_OPEN_PARTS : Cst mg "OPEN_PARTS" (.ref a_OPEN_PARTS)
  o_OPEN_PARTS : WT K a_OPEN_PARTS [V.str (Str.ofString "<digits>"), V.str (Str.ofString "<word>"), V.str (Str.ofString "<any>")]
  c_SIGNS : Cst mg "SIGNS" (.str (Str.ofString " #-.0123456789:>ABCDEFGHIJKLMNOPQRSTUVWXYZabcdefghijklmnopqrstuvwxyz"))
  c_SOME_DIGITS : Cst mg "SOME_DIGITS" (.str (Str.ofString "<digits>"))
  c_SOME_LETTERS : Cst mg "SOME_LETTERS" (.str (Str.ofString "<word>"))
  n_all : mg "all" = none
  n_any : mg "any" = none
  n_bool : mg "bool" = none
  n_int : mg "int" = none
  n_isinstance : mg "isinstance" = none
  n_len : mg "len" = none
  n_list : mg "list" = none
  n_max : mg "max" = none
  n_min : mg "min" = none
  n_range : mg "range" = none
  n_str : mg "str" = none
  n_tuple : mg "tuple" = none
  k_Both : Cls K C_Both
  k_Either : Cls K C_Either
  k_Form : Cls K C_Form
  k_Gluer : Cls K C_Gluer
  k_Keeper : Cls K C_Keeper
  k_Rule : Cls K C_Rule
  a_Both__one : NoAttr K C_Both "_one"
  a_Both__other : NoAttr K C_Both "_other"
  a_Either__one : NoAttr K C_Either "_one"
  a_Either__other : NoAttr K C_Either "_other"
  a_Form__cells : NoAttr K C_Form "_cells"
  a_Form__parts : NoAttr K C_Form "_parts"
  a_Gluer__keeper : NoAttr K C_Gluer "_keeper"
  a_Gluer__many : NoAttr K C_Gluer "_many"
  a_Keeper__kept : NoAttr K C_Keeper "_kept"
  a_Keeper__rule : NoAttr K C_Keeper "_rule"
  a_Rule__alone : NoAttr K C_Rule "_alone"
  a_Rule__begins : NoAttr K C_Rule "_begins"
  a_Rule__ends : NoAttr K C_Rule "_ends"
  a_Rule__most : NoAttr K C_Rule "_most"
  a_Rule__quiet : NoAttr K C_Rule "_quiet"
  a_Rule__tags : NoAttr K C_Rule "_tags"
section
variable {P : Program} {w : World} {K : PySem.W.Frag} {mg : Str → Option Value} {base : Heap} {a_FIELDS : Addr} {a_OPEN_PARTS : Addr} {C_Both : Addr} {C_Either : Addr} {C_Form : Addr} {C_Gluer : Addr} {C_Keeper : Addr} {C_Rule : Addr}
/-! ### drawing: _law_pool, _law_take, _law_all_signs -/
theorem ok__law_take {f : Addr} {fd : FuncData} (F : Fun K "_law_take" "_law_take" s__law_take f fd) (T : Txt K mg a_FIELDS a_OPEN_PARTS C_Both C_Either C_Form C_Gluer C_Keeper C_Rule) : FnOk P w K mg base CX0 1 f fd ["pool", "many"] spTake := by
  refine F.ok sc__law_take (fun vs H Q E h => ?_) (fun cdv A outer s0 H vs Q E hr h => ?_)
  · obtain ⟨p, s, n, rfl, _⟩ := h
    rfl
  · obtain ⟨p, s, n, rfl, hp, hk, h0, h1, q⟩ := h
    refine ⟨_, (pss_cons (ps_if (pt_cmpR op_gt (pe_ix ix_list (pv 0) pe_int (fun _ _ => rfl)) pe_int (nomark _))
      (pss_cons (ps_set (i := 2) sc__law_take.nd rfl (Or.inl rfl) (pe_op op_mod (pe_callTy call_int1 (by rfl) T.n_int (by decide +kernel) (pa_cons (pe_ix ix_list (pv 0) pe_int (fun _ _ => rfl)) pa_nil)) (pv 1)))
      (pss_cons (ps_asg (pe_op op_fdivW (pe_ix ix_list (pv 0) pe_int (fun _ _ => rfl)) (pv 1)) (pg_sub (pv 0) pe_int set_list))
      (pss_one (ps_ret (pv 2)))))
      pss_nil)
      (pss_cons (ps_asg (pe_op op_mod (pe_callTy call_int1 (by rfl) T.n_int (by decide +kernel) (pa_cons (pe_op op_add (pe_op op_mul (pe_ix ix_list (pv 0) pe_int (fun _ _ => rfl)) pe_int) pe_int) pa_nil)) pe_int) (pg_sub (pv 0) pe_int set_list))
      (pss_one (ps_ret (pe_op op_mod (pe_callTy call_int1 (by rfl) T.n_int (by decide +kernel) (pa_cons (pe_op op_fdivW (pe_op op_mod (pe_callTy call_int1 (by rfl) T.n_int (by decide +kernel) (pa_cons (pe_op op_mul (pe_ix ix_list (pv 0) pe_int (fun _ _ => rfl)) (pe_ix ix_list (pv 0) pe_int (fun _ _ => rfl))) pa_nil)) pe_int) pe_int) pa_nil)) (pv 1)))))), ?_⟩
    refine q_when (b := decide (0 < s.1)) (et_test (ev_op (ev_op (ev_var rfl) ev_c (rv_ixL (sq_of hp) rfl)) ev_c rv_I0)) (fun hb H1 e1 => ?_) (fun hb H1 e1 => ?_)
    · have hc : 0 < s.1 := of_decide_eq_true hb
      rw [take_pos hc] at q
      have hp1 := e1 p _ hp
      refine q_asg (ev_op (ev_int (ev_op (ev_var rfl) ev_c (rv_ixL (sq_of hp1) rfl))) (ev_var rfl) (rv_mod h0)) fun H2 e2 => ?_
      have hp2 := e2 p _ hp1
      refine q_setL hp2 (ev_op (ev_op (ev_var rfl) ev_c (rv_ixL (sq_of hp2) rfl)) (ev_var rfl) (rv_div h0 (by omega))) (ev_var rfl) (j := 0) ev_c (by simp) fun H3 e3 => ?_
      refine s_ret (ev_var rfl) fun H4 e4 => q H4 ?_ (e4 p _ upd_same)
      exact (hx_trans (hx_of ((e1.trans e2).trans e3)) hx_upd).trans e4
    · have hc : ¬ 0 < s.1 := of_decide_eq_false hb
      rw [take_neg hc] at q
      have hp1 := e1 p _ hp
      have k2 := hk.2
      have k1 := hk.1
      refine q_setL hp1 (ev_op (ev_int (ev_op (ev_op (ev_op (ev_var rfl) ev_c (rv_ixL (sq_of hp1) rfl)) ev_c (rv_mul (.inr (by decide)))) ev_c rv_add)) ev_c (rv_mod (by decide))) (ev_var rfl) (j := 1) ev_c (by simp) fun H3 e3 => ?_
      have hp3 : (upd H3 p (.lst [.int s.1, .int ((s.2 * 48271 + 11) % 2147483647)])) p = some (.lst [.int s.1, .int ((s.2 * 48271 + 11) % 2147483647)]) := upd_same
      have b1 : 0 ≤ (s.2 * 48271 + 11) % 2147483647 := Int.emod_nonneg _ (by omega)
      have b2 : (s.2 * 48271 + 11) % 2147483647 < 2147483647 := Int.emod_lt_of_pos _ (by omega)
      refine s_ret (ev_op (ev_int (ev_op (ev_op (ev_int (ev_op (ev_op (ev_var rfl) ev_c (rv_ixL (sq_of hp3) rfl)) (ev_op (ev_var rfl) ev_c (rv_ixL (sq_of hp3) rfl)) (rv_mul (.inr (by omega))))) ev_c (rv_mod (by decide))) ev_c (rv_div (by decide) (by decide)))) (ev_var rfl) (rv_mod h0)) fun H4 e4 => q H4 ?_ (e4 p _ upd_same)
      exact (hx_trans (hx_of (e1.trans e3)) hx_upd).trans e4
theorem cell_ix {ns : List Int} {k : Int} (h : ns ≠ []) : atI (ns.map V.int) (k % ((ns.map V.int).length : Int)) = some (.int (cellAt ns k)) := by
  have hl : 0 < ns.length := List.length_pos_iff.mpr h
  have h1 : 0 ≤ k % (ns.length : Int) := Int.emod_nonneg k (by omega)
  have h2 : k % (ns.length : Int) < (ns.length : Int) := Int.emod_lt_of_pos k (by omega)
  rw [List.length_map]
  unfold atI ixN cellAt
  rw [List.length_map, if_pos h1, if_pos h2, if_neg h]
  have h3 : (k % (ns.length : Int)).toNat < ns.length := by omega
  show (ns.map V.int)[(k % (ns.length : Int)).toNat]? = _
  rw [List.getElem?_map, List.getElem?_eq_getElem h3, List.getD_eq_getElem?_getD, List.getElem?_eq_getElem h3]
  rfl
theorem ok__law_pool {f : Addr} {fd : FuncData} (F : Fun K "_law_pool" "_law_pool" s__law_pool f fd) (T : Txt K mg a_FIELDS a_OPEN_PARTS C_Both C_Either C_Form C_Gluer C_Keeper C_Rule) : FnOk P w K mg base CX0 1 f fd ["script", "k"] (spPool K) := by
  refine F.ok sc__law_pool (fun vs H Q E h => ?_) (fun cdv A outer s0 H vs Q E hr h => ?_)
  · obtain ⟨a, ns, k, rfl, _⟩ := h
    rfl
  · obtain ⟨a, ns, k, rfl, hS, hl, k0, k1, q⟩ := h
    refine ⟨_, (pss_cons (ps_set (i := 2) sc__law_pool.nd rfl (Or.inl rfl) pe_int)
      (pss_cons (ps_if (pt_cmpR (op_neD hr.units) (pv 0) (pe_lst pa_nil) (nomark _))
      (pss_one (ps_set (i := 2) sc__law_pool.nd rfl (Or.inl rfl) (pe_ix ix_list (pv 0) (pe_op op_mod (pe_callTy call_int1 (by rfl) T.n_int (by decide +kernel) (pa_cons (pv 1) pa_nil)) (pe_callB call_len_seq (by rfl) T.n_len PySem.boot_len (pa_cons (pv 0) pa_nil))) (fun _ _ => rfl))))
      pss_nil)
      (pss_cons (ps_set (i := 3) sc__law_pool.nd rfl (Or.inl rfl) (pe_op op_mod (pe_op op_mul (pe_callTy call_int1 (by rfl) T.n_int (by decide +kernel) (pa_cons (pe_op op_add (pe_op op_add (pe_op op_mod (pe_callTy call_int1 (by rfl) T.n_int (by decide +kernel) (pa_cons (pv 2) pa_nil)) pe_int) (pe_op op_mul pe_int (pv 1))) pe_int) pa_nil)) pe_int) pe_int))
      (pss_one (ps_ret (pe_lst (pa_cons (pe_op op_mul (pv 2) (pe_callTy call_int1 (by rfl) T.n_int (by decide +kernel) (pa_cons (pe_cmpR op_ge (pv 2) (pe_op op_pow pe_int pe_int) (nomark _)) pa_nil))) (pa_cons (pv 3) pa_nil)))))))), ?_⟩
    refine q_asg ev_c fun H1 e1 => ?_
    have hS1 := ex_l e1 hS
    refine q_ifAsg (v := .int (cellAt ns k)) (b := !eqF (ns.map V.int) []) (et_test (ev_opL (ev_var rfl) (el_lst ea_nil (Nat.zero_le _)) fun p H2 hp2 e2 => rv_neL (ex_l e2 hS1) (sq_of hp2) okV_ints (by simp)))
      (fun hb => ?_) (fun hb => ?_) fun H2 e2 => ?_
    · have hn : ns ≠ [] := fun z => by
        subst z
        cases hb
      have hn2 : 0 < ((ns.map V.int).length : Int) := by
        have := List.length_pos_iff.mpr hn
        rw [List.length_map]
        omega
      exact ev_op (ev_var rfl) (ev_op (ev_int (ev_var rfl)) (ev_lenL (ev_var rfl) hS1) (rv_mod hn2)) (rv_ixL hS1 (cell_ix hn))
    · have hn : ns = [] := by
        rw [eqF_nil] at hb
        cases ns with
        | nil => rfl
        | cons _ _ => cases hb
      subst hn
      rfl
    refine q_asg (ev_op (ev_op (ev_int (ev_op (ev_op (ev_op (ev_int (ev_var rfl)) ev_c (rv_mod (by decide))) (ev_op ev_c (ev_var rfl) (rv_mul (.inl (by decide)))) rv_add) ev_c rv_add)) ev_c (rv_mul (.inr (by decide)))) ev_c (rv_mod (by decide))) fun H3 e3 => ?_
    refine s_retL (el_lst (ea_cons (ev_op (ev_var rfl) (ev_intB (ev_op (ev_var rfl) (ev_op ev_c ev_c (rv_I ⟨by decide, by decide, by decide⟩)) rv_I0)) (rv_mul (.inr ?_))) (ea_cons (ev_var rfl) ea_nil)) (by simp)) fun p H4 hp e4 h4 => ?_
    · split <;> decide
    · exact q p H4 (fresh_back ((e1.trans e2).trans e3) hp) (((e1.trans e2).trans e3).trans e4) h4
/-- a def without arguments that hands back v -/
def spK (v : V) : Sp := fun vs H Q _ => vs = [] ∧ RetV v H Q
theorem sv_spK {v : V} {G : Hp} : SpV (spK v) [] G v := fun H1 e Q q E => ⟨rfl, q⟩
def signsS : Str := " #-.0123456789:>ABCDEFGHIJKLMNOPQRSTUVWXYZabcdefghijklmnopqrstuvwxyz"
theorem ok__law_all_signs {f : Addr} {fd : FuncData} (F : Fun K "_law_all_signs" "_law_all_signs" s__law_all_signs f fd) : FnOk P w K mg base CX0 1 f fd [] (spK (.str signsS)) := by
  refine F.ok sc__law_all_signs (fun vs H Q E h => ?_) (fun cdv A outer s0 H vs Q E hr h => ?_)
  · obtain ⟨rfl, _⟩ := h
    rfl
  · obtain ⟨rfl, q⟩ := h
    refine ⟨_, (pss_one (ps_ret pe_str)), ?_⟩
    exact s_ret ev_c q

/-! ### is_line -/
def isLn (z : Str) : Bool := decide ((0 : Int) < (z.length : Int)) && z.cps.toList.all fun c => decide (c ∈ signsS.cps.toList)
def spIsLine (K : PySem.W.Frag) : Sp := fun vs H Q _ => ∃ x : V, vs = [x] ∧ ((∃ z : Str, x = .str z ∧ z.length ≤ 40000 ∧ RetV (.bl (isLn z)) H Q) ∨ (∃ a : String, TyX K H x (.type a) ∧ kitB a "str" = some false ∧ RetV (.bl false) H Q))
theorem ok_is_line {f : Addr} {fd : FuncData} (F : Fun K "is_line" "is_line" s_is_line f fd) (T : Txt K mg a_FIELDS a_OPEN_PARTS C_Both C_Either C_Form C_Gluer C_Keeper C_Rule) : FnOk P w K mg base CX0 1 f fd ["thing"] (spIsLine K) := by
  refine F.ok sc_is_line (fun vs H Q E h => ?_) (fun cdv A outer s0 H vs Q E hr h => ?_)
  · obtain ⟨x, rfl, _⟩ := h
    rfl
  · obtain ⟨x, rfl, h⟩ := h
    refine ⟨_, (pss_one (ps_ret (pe_and (pe_callB call_isi (by rfl) T.n_isinstance (by decide +kernel) (pa_cons (pv 0) (pa_cons (pe_bltn (v := .ty "str") (by rfl) T.n_str (by decide +kernel) rfl) pa_nil))) (pe_and (pe_cmpR op_gt (pe_callB call_len_str (by rfl) T.n_len PySem.boot_len (pa_cons (pv 0) pa_nil)) pe_int (nomark _)) (pe_one (pe_callB (cr_all rfl) (by rfl) T.n_all (by decide +kernel) (pa_cons (pe_lc (own := [("sign", 1)]) (g := gName 1) rfl sc_is_line.nd (pi_str (pv 0)) (blkOk_by (own := [("sign", 1)]) (N := ["thing", "sign"]) (sc := defScope s_is_line) (by decide +kernel)) (fun _ _ _ _ _ => pg_name (i := 1) sc_is_line.nd rfl (Or.inl rfl)) (fun _ _ _ _ _ => pts_nil) (fun _ _ _ _ _ => (pe_cmpR op_in_sign (pv 1) (pe_cst T.c_SIGNS (by rfl)) (by rfl)))) pa_nil))))))), ?_⟩
    rcases h with ⟨z, rfl, hz, q⟩ | ⟨a, ty, hk, q⟩
    · refine s_ret (v := .bl (true && (decide ((0 : Int) < (z.length : Int)) && (z.cps.toList.map fun c => decide (c ∈ signsS.cps.toList)).all id))) ?_ ?_
      · refine ev_andV (ev_isi (ev_var rfl) (.base (.str z)) (by decide +kernel)) fun _ => ?_
        refine ev_andV (ev_op (ev_lenS (ev_var rfl) (by omega)) ev_c rv_I0) fun _ => ?_
        refine ev_all ?_
        have e := el_lcT (σ := start ["thing", "sign"] [.str z]) (H := H) (tl := tVar 0) (te := tOp _ (tVar 1) (tC (.str signsS))) (t := tYes) (j := 1) (vs := [1]) (fun _ => true) (fun c => .bl (decide (c ∈ signsS.cps.toList))) (ev_var rfl) hz (fun _ => rfl) (fun _ _ _ _ => et_yes)
          (fun c H1 e1 hc _ => ev_op (ev_var rfl) ev_c rv_sgn)
        rw [filter_yes] at e
        rw [List.map_map]
        exact e
      · have ee : (true && (decide ((0 : Int) < (z.length : Int)) && (z.cps.toList.map fun c => decide (c ∈ signsS.cps.toList)).all id)) = isLn z := by
          unfold isLn
          rw [Bool.true_and, List.all_map]
          rfl
        rw [ee]
        exact q
    · refine s_ret (v := .bl (false && false)) (ev_andV (ev_isi (ev_var rfl) ty hk) fun z => by cases z) q

/-! ### cells: the mirror -/
def anyP : Str := "<any>"
def digP : Str := "<digits>"
def wordP : Str := "<word>"
def digS : Str := "0123456789"
def letS : Str := "ABCDEFGHIJKLMNOPQRSTUVWXYZabcdefghijklmnopqrstuvwxyz"
def vN (k : Nat) : V := .int (k : Int)
def isOpen (p : Str) : Bool := inV (.str p) [V.str digP, V.str wordP, V.str anyP]
/-- the signs of a text, a text each -/
def signsOf (p : Str) : List Str := p.cps.toList.map fun c => ⟨#[c]⟩
def cellOf1 (p : Str) : List Str := if isOpen p then [p] else signsOf p
def cellsM : List Str → List Str
  | [] => []
  | p :: ps => cellOf1 p ++ cellsM ps
def takesM (cell : Str) (c : Nat) : Bool := if cell = digP then decide (c ∈ digS.cps.toList) else if cell = wordP then decide (c ∈ letS.cps.toList) else decide (cell = ⟨#[c]⟩)
def cellAt' (cells : List Str) (k : Nat) : Str := cells.getD k ""
def closeT (cells : List Str) (ps cl : List Nat) (k : Nat) : Bool := decide (k ∈ ps) || (decide (0 < k) && decide (k - 1 ∈ cl) && decide (cellAt' cells (k - 1) = anyP))
def closedN (cells : List Str) (ps : List Nat) : Nat → List Nat
  | 0 => []
  | k + 1 => if closeT cells ps (closedN cells ps k) k then closedN cells ps k ++ [k] else closedN cells ps k
def closedM (cells : List Str) (ps : List Nat) : List Nat := closedN cells ps (cells.length + 1)
def rawA (cells : List Str) (c : Nat) (acc : List Nat) (k : Nat) : List Nat :=
  if decide (k < cells.length) && decide (cellAt' cells k = anyP) then acc ++ [k] else if decide (k < cells.length) && takesM (cellAt' cells k) c then acc ++ [k + 1] else acc
def rawT (cells : List Str) (c : Nat) (k : Nat) : Bool := decide (0 < k) && (decide (cellAt' cells (k - 1) = digP) || decide (cellAt' cells (k - 1) = wordP)) && takesM (cellAt' cells (k - 1)) c
def rawB (cells : List Str) (c : Nat) (acc : List Nat) (k : Nat) : List Nat := if rawT cells c k then rawA cells c acc k ++ [k] else rawA cells c acc k
def rawM (cells : List Str) (c : Nat) (ps : List Nat) : List Nat := ps.foldl (rawB cells c) []
def movedM (cells : List Str) (ps : List Nat) (c : Nat) : List Nat := closedM cells (rawM cells c ps)
def startedM (cells : List Str) : List Nat := closedM cells [0]
/-! small facts -/
theorem flat_vN (ps : List Nat) : (ps.map vN).all flatV = true := by
  rw [List.all_map]
  exact List.all_eq_true.mpr fun _ _ => rfl
theorem flat_str (ps : List Str) : (ps.map V.str).all flatV = true := by
  rw [List.all_map]
  exact List.all_eq_true.mpr fun _ _ => rfl
theorem inV_vN (k : Nat) : ∀ ps : List Nat, inV (.int (k : Int)) (ps.map vN) = decide (k ∈ ps)
  | [] => rfl
  | p :: ps => by
    show (eqV (vN p) (.int (k : Int)) || inV (.int (k : Int)) (ps.map vN)) = _
    rw [inV_vN k ps, show eqV (vN p) (.int (k : Int)) = ((p : Int) == (k : Int)) from rfl]
    by_cases h : k = p
    · subst h
      simp
    · have : ¬ ((p : Int) = (k : Int)) := by omega
      simp [h, this]
theorem inV_str (k : Str) : ∀ ps : List Str, inV (.str k) (ps.map V.str) = decide (k ∈ ps)
  | [] => rfl
  | p :: ps => by
    show (eqV (.str p) (.str k) || inV (.str k) (ps.map V.str)) = _
    rw [inV_str k ps, show eqV (.str p) (.str k) = (p == k) from rfl]
    by_cases h : k = p
    · subst h
      simp
    · have : ¬ p = k := fun z => h z.symm
      simp [h, this]
theorem isOpen_eq (p : Str) : isOpen p = decide (p ∈ [digP, wordP, anyP]) := inV_str p [digP, wordP, anyP]
theorem isOpen_iff {p : Str} : isOpen p = true ↔ p = digP ∨ p = wordP ∨ p = anyP := by
  rw [isOpen_eq]
  simp
theorem chars_eq (z : Str) : chars z = (signsOf z).map V.str := by
  unfold chars signsOf
  rw [List.map_map]
  rfl
theorem cell_get {cells : List Str} {k : Nat} (h : k < cells.length) : (cells.map V.str)[k]? = some (.str (cellAt' cells k)) := by
  unfold cellAt'
  rw [List.getElem?_map, List.getElem?_eq_getElem h, List.getD_eq_getElem?_getD, List.getElem?_eq_getElem h]
  rfl
theorem cell_at {cells : List Str} {k : Nat} (h : k < cells.length) : atI (cells.map V.str) (k : Int) = some (.str (cellAt' cells k)) := by
  unfold atI ixN
  rw [if_pos (by omega), if_pos (by rw [List.length_map]; omega)]
  exact cell_get h
theorem cell_at1 {cells : List Str} {k : Nat} (h0 : 0 < k) (h : k ≤ cells.length) : atI (cells.map V.str) ((k : Int) - 1) = some (.str (cellAt' cells (k - 1))) := by
  rw [show (k : Int) - 1 = ((k - 1 : Nat) : Int) by omega]
  exact cell_at (by omega)
theorem inV_pred {k : Nat} (ps : List Nat) : inV (.int ((k : Int) - 1)) (ps.map vN) = (decide (0 < k) && decide (k - 1 ∈ ps)) := by
  by_cases h : 0 < k
  · rw [show (k : Int) - 1 = ((k - 1 : Nat) : Int) by omega, inV_vN, decide_eq_true h, Bool.true_and]
  · have e : k = 0 := by omega
    subst e
    rw [decide_eq_false (by omega), Bool.false_and]
    induction ps with
    | nil => rfl
    | cons p ps ih =>
      show (eqV (vN p) (.int ((0 : Nat) - 1 : Int)) || inV (.int (((0 : Nat) : Int) - 1)) (ps.map vN)) = _
      rw [ih, show eqV (vN p) (.int ((0 : Nat) - 1 : Int)) = ((p : Int) == ((0 : Nat) : Int) - 1) from rfl]
      have : ¬ ((p : Int) = ((0 : Nat) : Int) - 1) := by omega
      simp [this]
theorem closedN_len (cells : List Str) (ps : List Nat) : ∀ k, (closedN cells ps k).length ≤ k
  | 0 => Nat.zero_le _
  | k + 1 => by
    have := closedN_len cells ps k
    show (if closeT cells ps (closedN cells ps k) k then closedN cells ps k ++ [k] else closedN cells ps k).length ≤ k + 1
    split
    · rw [List.length_append, List.length_singleton]
      omega
    · omega
theorem rawB_len (cells : List Str) (c : Nat) (acc : List Nat) (k : Nat) : (rawB cells c acc k).length ≤ acc.length + 2 := by
  unfold rawB rawA
  split <;> split <;> simp <;> split <;> simp
theorem rawM_len (cells : List Str) (c : Nat) : ∀ (ps acc : List Nat), (ps.foldl (rawB cells c) acc).length ≤ acc.length + 2 * ps.length
  | [], acc => by simp
  | k :: ps, acc => by
    have h1 := rawM_len cells c ps (rawB cells c acc k)
    have h2 := rawB_len cells c acc k
    rw [List.foldl_cons, List.length_cons]
    omega
/-! the promises -/
def RetU (xs : List V) (H : Hp) (Q : VK) : Prop := ∀ p H2, H p = none → Ex H H2 → H2 p = some (.tup xs) → Q (.ref p) H2

def spTakes : Sp := fun vs H Q _ => ∃ (cell : Str) (c : Nat), vs = [.str cell, .str ⟨#[c]⟩] ∧ RetV (.bl (takesM cell c)) H Q
theorem sv_takes {cell : Str} {c : Nat} {G : Hp} : SpV spTakes [.str cell, .str ⟨#[c]⟩] G (.bl (takesM cell c)) := fun H1 e Q q E => ⟨_, _, rfl, q⟩
theorem ok__takes {f : Addr} {fd : FuncData} (F : Fun K "_takes" "_takes" s__takes f fd) (T : Txt K mg a_FIELDS a_OPEN_PARTS C_Both C_Either C_Form C_Gluer C_Keeper C_Rule) : FnOk P w K mg base CX0 1 f fd ["cell", "sign"] spTakes := by
  refine F.ok sc__takes (fun vs H Q E h => ?_) (fun cdv A outer s0 H vs Q E hr h => ?_)
  · obtain ⟨cell, c, rfl, _⟩ := h
    rfl
  · obtain ⟨cell, c, rfl, q⟩ := h
    refine ⟨_, (pss_cons (ps_if (pt_cmpR op_eq (pv 0) (pe_cst T.c_SOME_DIGITS (by rfl)) (nomark _))
      (pss_one (ps_ret (pe_cmpR op_in_sign (pv 1) (pe_cst T.c_DIGIT_SIGNS (by rfl)) (by rfl))))
      pss_nil)
      (pss_cons (ps_if (pt_cmpR op_eq (pv 0) (pe_cst T.c_SOME_LETTERS (by rfl)) (nomark _))
      (pss_one (ps_ret (pe_cmpR op_in_sign (pv 1) (pe_cst T.c_LETTER_SIGNS (by rfl)) (by rfl))))
      pss_nil)
      (pss_one (ps_ret (pe_cmpR op_eq (pv 0) (pv 1) (nomark _)))))), ?_⟩
    unfold takesM at q
    refine q_when (b := decide (cell = digP)) (et_test (ev_op (ev_var rfl) ev_c rv_eqS)) (fun hb H1 e1 => ?_) (fun hb H1 e1 => ?_)
    · rw [if_pos (of_decide_eq_true hb)] at q
      exact s_ret (ev_op (ev_var rfl) ev_c rv_sgn) fun H2 e2 => q H2 (e1.trans e2)
    · rw [if_neg (of_decide_eq_false hb)] at q
      refine q_when (b := decide (cell = wordP)) (et_test (ev_op (ev_var rfl) ev_c rv_eqS)) (fun hb H2 e2 => ?_) (fun hb H2 e2 => ?_)
      · rw [if_pos (of_decide_eq_true hb)] at q
        exact s_ret (ev_op (ev_var rfl) ev_c rv_sgn) fun H3 e3 => q H3 ((e1.trans e2).trans e3)
      · rw [if_neg (of_decide_eq_false hb)] at q
        exact s_ret (ev_op (ev_var rfl) (ev_var rfl) rv_eqS) fun H3 e3 => q H3 ((e1.trans e2).trans e3)
/-- positions in a list or a tuple -/
def SqA (K : PySem.W.Frag) (H : Hp) (a : Addr) (xs : List V) : Prop := SqL K H a xs ∨ SqT K H a xs
theorem ex_a {H H' : Hp} {a : Addr} {xs : List V} (e : Ex H H') (h : SqA K H a xs) : SqA K H' a xs := h.elim (fun h => .inl (ex_l e h)) (fun h => .inr (ex_t e h))
theorem rv_inA {G : Hp} {x : V} {a : Addr} {xs : List V} (h : SqA K G a xs) (hx : flatV x = true) (ha : xs.all flatV = true) : RV (rIn K false) x (.ref a) G (.bl (inV x xs)) := h.elim (fun h => rv_isL h hx ha) (fun h => rv_isT h hx ha)
def spClosed (K : PySem.W.Frag) : Sp := fun vs H Q _ => ∃ (a b : Addr) (cells : List Str) (ps : List Nat), vs = [.ref a, .ref b] ∧ SqL K H a (cells.map V.str) ∧ SqA K H b (ps.map vN) ∧ cells.length ≤ 10000 ∧ RetU ((closedM cells ps).map vN) H Q
theorem ok__closed {f : Addr} {fd : FuncData} (F : Fun K "_closed" "_closed" s__closed f fd) (T : Txt K mg a_FIELDS a_OPEN_PARTS C_Both C_Either C_Form C_Gluer C_Keeper C_Rule) : FnOk P w K mg base CX0 1 f fd ["cells", "positions"] (spClosed K) := by
  refine F.ok sc__closed (fun vs H Q E h => ?_) (fun cdv A outer s0 H vs Q E hr h => ?_)
  · obtain ⟨a, b, cells, ps, rfl, _⟩ := h
    rfl
  · obtain ⟨a, b, cells, ps, rfl, hA, hB, hl, q⟩ := h
    refine ⟨_, (pss_cons (ps_set (i := 2) sc__closed.nd rfl (Or.inl rfl) (pe_lst pa_nil))
      (pss_cons (ps_for PassesOwn.never rfl (pi_range1 (by rfl) T.n_range (pa_cons (pe_op op_add (pe_callB call_len_seq (by rfl) T.n_len PySem.boot_len (pa_cons (pv 0) pa_nil)) pe_int) pa_nil)) (pg_name (i := 3) sc__closed.nd rfl (Or.inl rfl))
      (pss_one (ps_if (PW.pt (pw_or (pt_cmpR op_in_seq (pv 3) (pv 1) (by rfl)) (pw_or1 (PW.pt (pw_and (pt_cmpR op_in_seq (pe_op op_sub (pv 3) pe_int) (pv 2) (by rfl)) (pw_and1 (pt_cmpR op_eq (pe_ix ix_list (pv 0) (pe_op op_sub (pv 3) pe_int) (fun _ _ => rfl)) (pe_cst T.c_ANY_SIGNS (by rfl)) (nomark _))))))))
      (pss_one (ps_expr (pe_bm PySem.F.plainAttrs_list PySem.F.slot_list_append PySem.F.type_list_append mt_append (pv 2) (pa_cons (pv 3) pa_nil))))
      pss_nil)))
      (pss_one (ps_ret (pe_callTy call_tuple_of (by rfl) T.n_tuple (by decide +kernel) (pa_cons (pv 2) pa_nil)))))), ?_⟩
    refine q_asgL (el_lst ea_nil (Nat.zero_le _)) fun l H1 hl0 e1 h1 => ?_
    refine q_forR1 (n := (cells.length : Int) + 1) (ea_cons (ev_is (ev_op (ev_lenL (ev_var rfl) (ex_l e1 hA)) ev_c rv_add) (by rw [List.length_map])) ea_nil) (by omega)
      (fun i σ' H' => ∃ y : Option V, σ' = [some (.ref a), some (.ref b), some (.ref l), y] ∧ Ex H H' ∧ H' l = some (.lst ((closedN cells ps i).map vN))) (fun H2 e2 => ⟨none, rfl, e1.trans e2, e2 _ _ h1⟩) ?_ ?_
    · rintro i σ' H2 hi ⟨y, rfl, e2, h2⟩
      have hi2 : i ≤ cells.length := by omega
      have hcl := closedN_len cells ps i
      refine s_when (b := closeT cells ps (closedN cells ps i) i) (et_is (et_or (et_test (ev_is (ev_op (ev_var rfl) (ev_var rfl) (rv_inA (ex_a e2 hB) rfl (flat_vN ps))) (by rw [inV_vN])))
          (fun hb => et_and (et_test (ev_is (ev_op (ev_op (ev_var rfl) ev_c rv_I0) (ev_var rfl) (rv_isL (sq_of h2) rfl (flat_vN _))) (by rw [inV_pred]))) (fun hc => et_test (ev_op (ev_op (ev_var rfl) (ev_op (ev_var rfl) ev_c rv_I0) (rv_ixL (ex_l e2 hA) (cell_at1 (by
              have := (Bool.and_eq_true _ _ ▸ hc : _ ∧ _).1
              exact of_decide_eq_true this) hi2))) ev_c rv_eqS)))) rfl) (fun hb H3 e3 => ?_) (fun hb H3 e3 => ?_)
      · refine s_app (e3 _ _ h2) (ev_var rfl) (ev_var rfl) (by rw [List.length_map]; omega) fun H4 e4 => ⟨_, rfl, Ex.mut ((e2.trans e3).trans e4) hl0, ?_⟩
        rw [upd_same]
        show some (HO.lst ((closedN cells ps i).map vN ++ [vN i])) = some (HO.lst ((if closeT cells ps (closedN cells ps i) i then closedN cells ps i ++ [i] else closedN cells ps i).map vN))
        rw [if_pos hb, List.map_append]
        rfl
      · refine ⟨_, rfl, e2.trans e3, ?_⟩
        rw [e3 _ _ h2]
        show _ = some (HO.lst ((if closeT cells ps (closedN cells ps i) i then closedN cells ps i ++ [i] else closedN cells ps i).map vN))
        rw [hb]
        rfl
    · rintro σ' H2 ⟨y, rfl, e2, h2⟩
      have en : ((cells.length : Int) + 1).toNat = cells.length + 1 := by omega
      rw [en] at h2
      have eu := eu_tupL (K := K) (σ := [some (.ref a), some (.ref b), some (.ref l), y]) (H := H2) (te := tVar 2) (ev_var rfl) (sq_of h2)
      exact eu H2 (Ex.refl _) _ fun p H3 hp e3 h3 => q p H3 (fresh_back e2 hp) (e2.trans e3) h3

def spStarted (K : PySem.W.Frag) : Sp := fun vs H Q _ => ∃ (a : Addr) (cells : List Str), vs = [.ref a] ∧ SqL K H a (cells.map V.str) ∧ cells.length ≤ 10000 ∧ RetU ((startedM cells).map vN) H Q
theorem ok_started {f : Addr} {fd : FuncData} (F : Fun K "started" "started" s_started f fd) (T : Txt K mg a_FIELDS a_OPEN_PARTS C_Both C_Either C_Form C_Gluer C_Keeper C_Rule) (D__closed : Df P w K mg base "_closed" ["cells", "positions"] 1 (spClosed K)) : FnOk P w K mg base CX0 2 f fd ["cells"] (spStarted K) := by
  refine F.ok sc_started (fun vs H Q E h => ?_) (fun cdv A outer s0 H vs Q E hr h => ?_)
  · obtain ⟨a, cells, rfl, _⟩ := h
    rfl
  · obtain ⟨a, cells, rfl, hA, hl, q⟩ := h
    refine ⟨_, (pss_one (ps_ret (pe_df D__closed (hr.mono (by decide)) (by rfl) (pa_cons (pv 0) (pa_cons (pe_lst (pa_cons pe_int pa_nil)) pa_nil))))), ?_⟩
    exact ⟨_, rfl, sz_of (by simp), fun l nl => ⟨a, l, cells, [0], rfl, ex_l (Ex.new nl) hA, .inl (sq_of upd_same), hl, fun p H2 hp e2 h2 => q p H2 (fresh_back (Ex.new nl) hp) ((Ex.new nl).trans e2) h2⟩⟩
def spMoved (K : PySem.W.Frag) : Sp := fun vs H Q _ => ∃ (a b : Addr) (cells : List Str) (ps : List Nat) (c : Nat), vs = [.ref a, .ref b, .str ⟨#[c]⟩] ∧ SqL K H a (cells.map V.str) ∧ SqT K H b (ps.map vN) ∧ cells.length ≤ 10000 ∧ ps.length ≤ 10000 ∧ (∀ k ∈ ps, k ≤ cells.length) ∧
  RetU ((movedM cells ps c).map vN) H Q
theorem lt_len {a : Nat} {b : Nat} : decide ((a : Int) < (b : Int)) = decide (a < b) := by
  by_cases h : a < b
  · rw [decide_eq_true h, decide_eq_true (by omega)]
  · rw [decide_eq_false h, decide_eq_false (by omega)]
theorem gt_zero {a : Nat} : decide ((0 : Int) < (a : Int)) = decide (0 < a) := by
  by_cases h : 0 < a
  · rw [decide_eq_true h, decide_eq_true (by omega)]
  · rw [decide_eq_false h, decide_eq_false (by omega)]

theorem ok_moved {f : Addr} {fd : FuncData} (F : Fun K "moved" "moved" s_moved f fd) (T : Txt K mg a_FIELDS a_OPEN_PARTS C_Both C_Either C_Form C_Gluer C_Keeper C_Rule) (D__takes : Df P w K mg base "_takes" ["cell", "sign"] 1 spTakes) (D__closed : Df P w K mg base "_closed" ["cells", "positions"] 1 (spClosed K)) : FnOk P w K mg base CX0 2 f fd ["cells", "positions", "sign"] (spMoved K) := by
  refine F.ok sc_moved (fun vs H Q E h => ?_) (fun cdv A outer s0 H vs Q E hr h => ?_)
  · obtain ⟨a, b, cells, ps, c, rfl, _⟩ := h
    rfl
  · obtain ⟨a, b, cells, ps, c, rfl, hA, hB, hl, hpl, hk, q⟩ := h
    refine ⟨_, (pss_cons (ps_set (i := 3) sc_moved.nd rfl (Or.inl rfl) (pe_lst pa_nil))
      (pss_cons (ps_for PassesOwn.never rfl (pi_tup (pv 1)) (pg_name (i := 4) sc_moved.nd rfl (Or.inl rfl))
      (pss_cut (ps_if (PW.pt (pw_and (pt_cmpR op_lt (pv 4) (pe_callB call_len_seq (by rfl) T.n_len PySem.boot_len (pa_cons (pv 0) pa_nil)) (nomark _)) (pw_and1 (pt_cmpR op_eq (pe_ix ix_list (pv 0) (pv 4) (fun _ _ => rfl)) (pe_cst T.c_ANY_SIGNS (by rfl)) (nomark _)))))
      (pss_one (ps_expr (pe_bm PySem.F.plainAttrs_list PySem.F.slot_list_append PySem.F.type_list_append mt_append (pv 3) (pa_cons (pv 4) pa_nil))))
      (pss_one (ps_if (PW.pt (pw_and (pt_cmpR op_lt (pv 4) (pe_callB call_len_seq (by rfl) T.n_len PySem.boot_len (pa_cons (pv 0) pa_nil)) (nomark _)) (pw_and1 (pt_val (pe_df D__takes (hr.mono (by decide)) (by rfl) (pa_cons (pe_ix ix_list (pv 0) (pv 4) (fun _ _ => rfl)) (pa_cons (pv 2) pa_nil)))))))
      (pss_one (ps_expr (pe_bm PySem.F.plainAttrs_list PySem.F.slot_list_append PySem.F.type_list_append mt_append (pv 3) (pa_cons (pe_op op_add (pv 4) pe_int) pa_nil))))
      pss_nil)))
      (pss_one (ps_if (PW.pt (pw_and (pt_cmpR op_gt (pv 4) pe_int (nomark _)) (pw_and (pt_cmpR op_in_seq (pe_ix ix_list (pv 0) (pe_op op_sub (pv 4) pe_int) (fun _ _ => rfl)) (pe_tup (pa_cons (pe_cst T.c_SOME_DIGITS (by rfl)) (pa_cons (pe_cst T.c_SOME_LETTERS (by rfl)) pa_nil))) (by rfl)) (pw_and1 (pt_val (pe_df D__takes (hr.mono (by decide)) (by rfl) (pa_cons (pe_ix ix_list (pv 0) (pe_op op_sub (pv 4) pe_int) (fun _ _ => rfl)) (pa_cons (pv 2) pa_nil))))))))
      (pss_one (ps_expr (pe_bm PySem.F.plainAttrs_list PySem.F.slot_list_append PySem.F.type_list_append mt_append (pv 3) (pa_cons (pv 4) pa_nil))))
      pss_nil))))
      (pss_one (ps_ret (pe_df D__closed (hr.mono (by decide)) (by rfl) (pa_cons (pv 0) (pa_cons (pv 3) pa_nil))))))), ?_⟩
    refine q_asgL (el_lst ea_nil (Nat.zero_le _)) fun l H1 hl0 e1 h1 => ?_
    refine q_forT (ev_var rfl) (ex_t e1 hB)
      (fun i σ' H' => ∃ y : Option V, σ' = [some (.ref a), some (.ref b), some (.str ⟨#[c]⟩), some (.ref l), y] ∧ Ex H H' ∧ H' l = some (.lst (((ps.take i).foldl (rawB cells c) []).map vN))) (fun H2 e2 => ⟨none, rfl, e1.trans e2, e2 _ _ h1⟩) (fun i σ' H' _ pv => ?_) ?_ ?_
    · obtain ⟨y, _, e2, _⟩ := pv
      exact ex_t e2 hB
    · rintro i x σ' H2 hx ⟨y, rfl, e2, h2⟩
      have hip : i < ps.length := by
        have := (List.getElem?_eq_some_iff.mp hx).1
        rw [List.length_map] at this
        exact this
      obtain ⟨k, hkk⟩ : ∃ k, ps[i]? = some k := ⟨ps[i], List.getElem?_eq_getElem hip⟩
      have ex : x = vN k := by
        rw [List.getElem?_map, hkk] at hx
        exact (Option.some.inj hx).symm
      subst ex
      have hkl : k ≤ cells.length := hk k (List.mem_of_getElem? hkk)
      have htake : (ps.take (i + 1)).foldl (rawB cells c) [] = rawB cells c ((ps.take i).foldl (rawB cells c) []) k := by
        rw [List.take_add_one, hkk, List.foldl_append]
        rfl
      have hlen := rawM_len cells c (ps.take i) []
      rw [List.length_take, List.length_nil] at hlen
      rw [htake]
      generalize (ps.take i).foldl (rawB cells c) [] = acc at h2 hlen ⊢
      have hacc : acc.length ≤ 20000 := by omega
      -- the first if: what acc is then
      have e2A := ex_l e2 hA
      refine q_cut (M := fun σ' H' => σ' = [some (.ref a), some (.ref b), some (.str ⟨#[c]⟩), some (.ref l), some (vN k)] ∧ Ex H H' ∧ H' l = some (.lst ((rawA cells c acc k).map vN))) ?_ ?_
      · have hσ : (List.set [some (V.ref a), some (.ref b), some (.str ⟨#[c]⟩), some (.ref l), y] 4 (some (vN k))) = [some (V.ref a), some (.ref b), some (.str ⟨#[c]⟩), some (.ref l), some (.int (k : Int))] := rfl
        rw [hσ]
        refine s_if (b := decide (k < cells.length) && decide (cellAt' cells k = anyP)) (et_and (et_test (ev_is (ev_op (ev_var rfl) (ev_lenL (ev_var rfl) e2A) rv_I0) (by rw [List.length_map]; exact congrArg V.bl lt_len))) fun hb => et_test (ev_op (ev_op (ev_var rfl) (ev_var rfl) (rv_ixL e2A (cell_at (of_decide_eq_true hb)))) ev_c rv_eqS))
          (fun hb H3 e3 => ?_) (fun hb H3 e3 => ?_)
        · refine s_app (e3 _ _ h2) (ev_var rfl) (ev_var rfl) (by rw [List.length_map]; omega) fun H4 e4 => ⟨rfl, Ex.mut ((e2.trans e3).trans e4) hl0, ?_⟩
          unfold rawA
          rw [upd_same, if_pos hb, List.map_append]
          rfl
        · have e3A := ex_l e3 e2A
          refine s_if (b := decide (k < cells.length) && takesM (cellAt' cells k) c) (et_and (et_test (ev_is (ev_op (ev_var rfl) (ev_lenL (ev_var rfl) e3A) rv_I0) (by rw [List.length_map]; exact congrArg V.bl lt_len))) fun hc => et_B (ev_call (ea_cons (ev_op (ev_var rfl) (ev_var rfl) (rv_ixL e3A (cell_at (of_decide_eq_true hc)))) (ea_cons (ev_var rfl) ea_nil)) sv_takes))
            (fun hc H4 e4 => ?_) (fun hc H4 e4 => ?_)
          · refine s_app (e4 _ _ (e3 _ _ h2)) (ev_var rfl) (ev_op (ev_var rfl) ev_c rv_I0) (by rw [List.length_map]; omega) fun H5 e5 => ⟨rfl, Ex.mut (((e2.trans e3).trans e4).trans e5) hl0, ?_⟩
            unfold rawA
            rw [upd_same, hb, if_neg Bool.false_ne_true, if_pos hc, List.map_append]
            rfl
          · refine ⟨rfl, (e2.trans e3).trans e4, ?_⟩
            unfold rawA
            rw [hb, if_neg Bool.false_ne_true, hc, if_neg Bool.false_ne_true]
            exact e4 _ _ (e3 _ _ h2)
      · rintro σ' H3 ⟨rfl, e3, h3⟩
        have e3A := ex_l e3 hA
        have hlA : (rawA cells c acc k).length ≤ acc.length + 1 := by
          unfold rawA
          split
          · simp
          · split <;> simp
        refine s_when (b := rawT cells c k) (et_is (et_and (et_test (ev_is (ev_op (ev_var rfl) ev_c rv_I0) (congrArg V.bl gt_zero))) fun hb => et_and (et_test (ev_is (ev_inU (ev_op (ev_var rfl) (ev_op (ev_var rfl) ev_c rv_I0) (rv_ixL e3A (cell_at1 (of_decide_eq_true hb) hkl))) (eu_tup (ea_cons ev_c (ea_cons ev_c ea_nil)) (by simp)) rfl rfl) (congrArg V.bl (inV_str _ [digP, wordP]))))
            fun hc => et_B (ev_call (ea_cons (ev_op (ev_var rfl) (ev_op (ev_var rfl) ev_c rv_I0) (rv_ixL e3A (cell_at1 (of_decide_eq_true hb) hkl))) (ea_cons (ev_var rfl) ea_nil)) sv_takes)) ?_)
          (fun hb H4 e4 => ?_) (fun hb H4 e4 => ?_)
        · unfold rawT
          rw [Bool.and_assoc]
          congr 2
          by_cases h1 : cellAt' cells (k - 1) = digP
          · simp [h1]
          · by_cases h2 : cellAt' cells (k - 1) = wordP <;> simp [h1, h2]
        · refine s_app (e4 _ _ h3) (ev_var rfl) (ev_var rfl) (by rw [List.length_map]; omega) fun H5 e5 => ⟨_, rfl, Ex.mut ((e3.trans e4).trans e5) hl0, ?_⟩
          unfold rawB
          rw [upd_same, if_pos hb, List.map_append]
          rfl
        · refine ⟨_, rfl, e3.trans e4, ?_⟩
          unfold rawB
          rw [hb, if_neg Bool.false_ne_true]
          exact e4 _ _ h3
    · rintro σ' H2 ⟨y, rfl, e2, h2⟩
      rw [List.length_map, List.take_of_length_le (Nat.le_refl _)] at h2
      refine s_retU ?_ fun p H3 hp e3 h3 => q p H3 (fresh_back e2 hp) (e2.trans e3) h3
      exact fun H3 e3 Q' q' => ⟨_, rfl, _, rfl, a, l, cells, _, rfl, ex_l (e2.trans e3) hA, .inl (sq_of (e3 _ _ h2)), hl, q'⟩
def spIsDone (K : PySem.W.Frag) : Sp := fun vs H Q _ => ∃ (a b : Addr) (cells : List Str) (ps : List Nat), vs = [.ref a, .ref b] ∧ SqL K H a (cells.map V.str) ∧ SqT K H b (ps.map vN) ∧ RetV (.bl (decide (cells.length ∈ ps))) H Q
theorem ok_is_done {f : Addr} {fd : FuncData} (F : Fun K "is_done" "is_done" s_is_done f fd) (T : Txt K mg a_FIELDS a_OPEN_PARTS C_Both C_Either C_Form C_Gluer C_Keeper C_Rule) : FnOk P w K mg base CX0 1 f fd ["cells", "positions"] (spIsDone K) := by
  refine F.ok sc_is_done (fun vs H Q E h => ?_) (fun cdv A outer s0 H vs Q E hr h => ?_)
  · obtain ⟨a, b, cells, ps, rfl, _⟩ := h
    rfl
  · obtain ⟨a, b, cells, ps, rfl, hA, hB, q⟩ := h
    refine ⟨_, (pss_one (ps_ret (pe_cmpR op_in_seq (pe_callB call_len_seq (by rfl) T.n_len PySem.boot_len (pa_cons (pv 0) pa_nil)) (pv 1) (by rfl)))), ?_⟩
    exact s_ret (ev_is (ev_op (ev_lenL (ev_var rfl) hA) (ev_var rfl) (rv_isT hB rfl (flat_vN ps))) (by rw [List.length_map]; exact congrArg V.bl (inV_vN _ ps))) q
theorem cellsM_app (ps qs : List Str) : cellsM (ps ++ qs) = cellsM ps ++ cellsM qs := by
  induction ps with
  | nil => rfl
  | cons p ps ih =>
    show cellOf1 p ++ cellsM (ps ++ qs) = (cellOf1 p ++ cellsM ps) ++ cellsM qs
    rw [ih, List.append_assoc]
theorem cellOf1_len {p : Str} (h : p.length ≤ 100) : (cellOf1 p).length ≤ 100 := by
  unfold cellOf1
  split
  · simp
  · unfold signsOf
    rw [List.length_map]
    simpa [Str.length] using h
theorem cellsM_len {ps : List Str} (h : ∀ p ∈ ps, p.length ≤ 100) : (cellsM ps).length ≤ 100 * ps.length := by
  induction ps with
  | nil => simp [cellsM]
  | cons p ps ih =>
    have h1 := cellOf1_len (h p List.mem_cons_self)
    have h2 := ih fun q hq => h q (List.mem_cons_of_mem _ hq)
    show (cellOf1 p ++ cellsM ps).length ≤ _
    rw [List.length_append, List.length_cons]
    omega
/-- what a list that is handed back is -/
def spCells (K : PySem.W.Frag) : Sp := fun vs H Q _ => ∃ (a : Addr) (ps : List Str), vs = [.ref a] ∧ SqL K H a (ps.map V.str) ∧ ps.length ≤ 100 ∧ (∀ p ∈ ps, p.length ≤ 100) ∧ RetL ((cellsM ps).map V.str) H Q
def spCellsT (K : PySem.W.Frag) : Sp := fun vs H Q _ => ∃ (a : Addr) (ps : List Str), vs = [.ref a] ∧ SqT K H a (ps.map V.str) ∧ ps.length ≤ 100 ∧ (∀ p ∈ ps, p.length ≤ 100) ∧ RetL ((cellsM ps).map V.str) H Q
theorem cells_turn {σ : L2.St} {H H2 : Hp} {l : Addr} {i : Nat} {ps : List Str} {p : Str} {y : Addr} {a : Addr} {D : Ends} (T : Txt K mg a_FIELDS a_OPEN_PARTS C_Both C_Either C_Form C_Gluer C_Keeper C_Rule) (hp : ps[i]? = some p) (hl : ∀ p ∈ ps, p.length ≤ 100) (hn : ps.length ≤ 100) (hl0 : H l = none) (e2 : Ex H H2) (h2 : H2 l = some (.lst ((cellsM (ps.take i)).map V.str)))
    (k : ∀ H', Ex H H' → H' l = some (.lst ((cellsM (ps.take (i + 1))).map V.str)) → D.nx [some (.ref a), some (.ref l), some (.str p)] H') :
    tIfS (tTest (tOp (rIn K false) (tVar 2) (tC (.ref a_OPEN_PARTS)))) (tDrop (tBM K "list" rAppend (tVar 1) (tCons (tVar 2) tNil))) (tDrop (tBM K "list" rExtend (tVar 1) (tCons (tCB rListStr (tCons (tVar 2) tNil)) tNil))) D [some (.ref a), some (.ref l), some (.str p)] H2 := by
  have hpm := List.mem_of_getElem? hp
  have hp1 := hl p hpm
  have ht : cellsM (ps.take (i + 1)) = cellsM (ps.take i) ++ cellOf1 p := by
    rw [List.take_add_one, hp, cellsM_app]
    show cellsM (ps.take i) ++ (cellOf1 p ++ []) = _
    rw [List.append_nil]
  have hlen : (cellsM (ps.take i)).length ≤ 10000 := by
    have h1 := cellsM_len (ps := ps.take i) fun q hq => hl q (List.mem_of_mem_take hq)
    have h2 : (ps.take i).length ≤ ps.length := by
      rw [List.length_take]
      omega
    omega
  rw [ht] at k
  refine s_if (b := isOpen p) (et_test (ev_op (ev_var rfl) ev_c (rv_isT T.o_OPEN_PARTS.at_ rfl rfl))) (fun hb H3 e3 => ?_) (fun hb H3 e3 => ?_)
  · have e1 : cellOf1 p = [p] := if_pos hb
    rw [e1] at k
    refine s_app (e3 _ _ h2) (ev_var rfl) (ev_var rfl) (by rw [List.length_map]; omega) fun H4 e4 => k _ (Ex.mut ((e2.trans e3).trans e4) hl0) ?_
    rw [upd_same, List.map_append]
    rfl
  · have e1 : cellOf1 p = signsOf p := by
      unfold cellOf1
      rw [hb]
      rfl
    rw [e1] at k
    have hs : (signsOf p).length = p.length := by
      unfold signsOf
      rw [List.length_map]
      simp [Str.length]
    refine s_extL (ys := (signsOf p).map V.str) (e3 _ _ h2) (ev_var rfl) (by rw [← chars_eq]; exact el_listS (ev_var rfl) (by omega)) (by rw [List.length_map, List.length_map, hs]; omega) fun q H4 hq e4 => k _ (Ex.mut ((e2.trans e3).trans e4) hl0) ?_
    rw [upd_same, List.map_append]

theorem ok_cells_of {f : Addr} {fd : FuncData} (F : Fun K "cells_of" "cells_of" s_cells_of f fd) (T : Txt K mg a_FIELDS a_OPEN_PARTS C_Both C_Either C_Form C_Gluer C_Keeper C_Rule) : FnOk P w K mg base CX0 1 f fd ["parts"] (spCells K) := by
  refine F.ok sc_cells_of (fun vs H Q E h => ?_) (fun cdv A outer s0 H vs Q E hr h => ?_)
  · obtain ⟨a, ps, rfl, _⟩ := h
    rfl
  · obtain ⟨a, ps, rfl, hA, hn, hl, q⟩ := h
    refine ⟨_, (pss_cons (ps_set (i := 1) sc_cells_of.nd rfl (Or.inl rfl) (pe_lst pa_nil))
      (pss_cons (ps_for PassesOwn.never rfl (pi_list (pv 0)) (pg_name (i := 2) sc_cells_of.nd rfl (Or.inl rfl))
      (pss_one (ps_if (pt_cmpR op_in_seq (pv 2) (pe_cst T.c_OPEN_PARTS (by rfl)) (by rfl))
      (pss_one (ps_expr (pe_bm PySem.F.plainAttrs_list PySem.F.slot_list_append PySem.F.type_list_append mt_append (pv 1) (pa_cons (pv 2) pa_nil))))
      (pss_one (ps_expr (pe_bm PySem.F.plainAttrs_list PySem.F.slot_list_extend PySem.F.type_list_extend mt_extend (pv 1) (pa_cons (pe_callTy (call_listS rfl) (by rfl) T.n_list (by decide +kernel) (pa_cons (pv 2) pa_nil)) pa_nil)))))))
      (pss_one (ps_ret (pv 1))))), ?_⟩
    refine q_asgL (el_lst ea_nil (Nat.zero_le _)) fun l H1 hl0 e1 h1 => ?_
    refine q_forLn (ev_var rfl) (ex_l e1 hA) (fun i σ' H' => ∃ y : Option V, σ' = [some (.ref a), some (.ref l), y] ∧ Ex H H' ∧ H' l = some (.lst ((cellsM (ps.take i)).map V.str))) (fun H2 e2 => ⟨none, rfl, e1.trans e2, e2 _ _ h1⟩) (fun i σ' H' _ pv => ?_) ?_ ?_
    · obtain ⟨y, _, e2, _⟩ := pv
      exact ex_l e2 hA
    · rintro i x σ' H2 hx ⟨y, rfl, e2, h2⟩
      obtain ⟨p, hp, rfl⟩ : ∃ p, ps[i]? = some p ∧ x = .str p := by
        rw [List.getElem?_map] at hx
        cases hq : ps[i]? with
        | none =>
          rw [hq] at hx
          cases hx
        | some p =>
          rw [hq] at hx
          exact ⟨p, rfl, (Option.some.inj hx).symm⟩
      exact cells_turn (σ := []) (y := a) T hp hl hn hl0 e2 h2 fun H' e' h' => ⟨_, rfl, e', h'⟩
    · rintro σ' H2 ⟨y, rfl, e2, h2⟩
      rw [List.length_map, List.take_of_length_le (Nat.le_refl _)] at h2
      exact s_ret (ev_var rfl) fun H3 e3 => q l H3 hl0 (e2.trans e3) (e3 _ _ h2)
theorem ok_cells_of__t {f : Addr} {fd : FuncData} (F : Fun K "cells_of" "cells_of" s_cells_of f fd) (T : Txt K mg a_FIELDS a_OPEN_PARTS C_Both C_Either C_Form C_Gluer C_Keeper C_Rule) : FnOk P w K mg base CX0 1 f fd ["parts"] (spCellsT K) := by
  refine F.ok sc_cells_of (fun vs H Q E h => ?_) (fun cdv A outer s0 H vs Q E hr h => ?_)
  · obtain ⟨a, ps, rfl, _⟩ := h
    rfl
  · obtain ⟨a, ps, rfl, hA, hn, hl, q⟩ := h
    refine ⟨_, (pss_cons (ps_set (i := 1) sc_cells_of.nd rfl (Or.inl rfl) (pe_lst pa_nil))
      (pss_cons (ps_for PassesOwn.never rfl (pi_tup (pv 0)) (pg_name (i := 2) sc_cells_of.nd rfl (Or.inl rfl))
      (pss_one (ps_if (pt_cmpR op_in_seq (pv 2) (pe_cst T.c_OPEN_PARTS (by rfl)) (by rfl))
      (pss_one (ps_expr (pe_bm PySem.F.plainAttrs_list PySem.F.slot_list_append PySem.F.type_list_append mt_append (pv 1) (pa_cons (pv 2) pa_nil))))
      (pss_one (ps_expr (pe_bm PySem.F.plainAttrs_list PySem.F.slot_list_extend PySem.F.type_list_extend mt_extend (pv 1) (pa_cons (pe_callTy (call_listS rfl) (by rfl) T.n_list (by decide +kernel) (pa_cons (pv 2) pa_nil)) pa_nil)))))))
      (pss_one (ps_ret (pv 1))))), ?_⟩
    refine q_asgL (el_lst ea_nil (Nat.zero_le _)) fun l H1 hl0 e1 h1 => ?_
    refine q_forT (ev_var rfl) (ex_t e1 hA) (fun i σ' H' => ∃ y : Option V, σ' = [some (.ref a), some (.ref l), y] ∧ Ex H H' ∧ H' l = some (.lst ((cellsM (ps.take i)).map V.str))) (fun H2 e2 => ⟨none, rfl, e1.trans e2, e2 _ _ h1⟩) (fun i σ' H' _ pv => ?_) ?_ ?_
    · obtain ⟨y, _, e2, _⟩ := pv
      exact ex_t e2 hA
    · rintro i x σ' H2 hx ⟨y, rfl, e2, h2⟩
      obtain ⟨p, hp, rfl⟩ : ∃ p, ps[i]? = some p ∧ x = .str p := by
        rw [List.getElem?_map] at hx
        cases hq : ps[i]? with
        | none =>
          rw [hq] at hx
          cases hx
        | some p =>
          rw [hq] at hx
          exact ⟨p, rfl, (Option.some.inj hx).symm⟩
      exact cells_turn (σ := []) (y := a) T hp hl hn hl0 e2 h2 fun H' e' h' => ⟨_, rfl, e', h'⟩
    · rintro σ' H2 ⟨y, rfl, e2, h2⟩
      rw [List.length_map, List.take_of_length_le (Nat.le_refl _)] at h2
      exact s_ret (ev_var rfl) fun H3 e3 => q l H3 hl0 (e2.trans e3) (e3 _ _ h2)

/-! ### drawn signs, texts -/
theorem evp_take {σ : L2.St} {G : Hp} {p : Addr} {s : Int × Int} {n : Int} {i : Nat} (hi : σ[i]? = some (some (.ref p))) (hk : Pk s) (h0 : 0 < n) (h1 : n < 2 ^ 60) :
    EvP (tCall spTake [] E0 (tCons (tVar i) (tCons (tC (.int n)) tNil))) σ G p s (.int (take s n).1) (take s n).2 :=
  evp_call (EvAP.of (ea_cons (ev_var hi) (ea_cons ev_c ea_nil))) (sp_take hk h0 h1)
/-- the sign of a text that a draw picks -/
def sgn (z : Str) (d : Int) : Nat := z.cps.toList.getD d.toNat 0
theorem str_len (z : Str) : z.length = z.cps.toList.length := by simp [Str.length]
theorem sgn_ix {z : Str} {d : Int} (h0 : 0 ≤ d) (h : d < (z.length : Int)) : atI z.cps.toList d = some (sgn z d) := by
  have ez := str_len z
  have h3 : d.toNat < z.cps.toList.length := by omega
  unfold atI ixN sgn
  rw [if_pos h0, if_pos (by omega)]
  show z.cps.toList[d.toNat]? = _
  rw [List.getElem?_eq_getElem h3, List.getD_eq_getElem?_getD, List.getElem?_eq_getElem h3]
  rfl
theorem sgn_mem {z : Str} {d : Int} (h0 : 0 ≤ d) (h : d < (z.length : Int)) : sgn z d ∈ z.cps.toList := by
  have ez := str_len z
  have h3 : d.toNat < z.cps.toList.length := by omega
  unfold sgn
  rw [List.getD_eq_getElem?_getD, List.getElem?_eq_getElem h3]
  exact List.getElem_mem h3
theorem len_signs : signsS.length = 68 := by decide +kernel
theorem app1_len (z : Str) (c : Nat) : (z ++ (⟨#[c]⟩ : Str)).length = z.length + 1 := by
  show (z.cps ++ #[c]).size = z.cps.size + 1
  simp
theorem app1_list (z : Str) (c : Nat) : (z ++ (⟨#[c]⟩ : Str)).cps.toList = z.cps.toList ++ [c] := by
  show (z.cps ++ #[c]).toList = _
  simp
theorem app_len (z y : Str) : (z ++ y).length = z.length + y.length := by
  show (z.cps ++ y.cps).size = z.cps.size + y.cps.size
  simp
theorem app_list (z y : Str) : (z ++ y).cps.toList = z.cps.toList ++ y.cps.toList := by
  show (z.cps ++ y.cps).toList = _
  simp
/-- all its signs are signs of lines -/
def Lny (z : Str) : Prop := ∀ c ∈ z.cps.toList, c ∈ signsS.cps.toList
theorem lny_nil : Lny ("" : Str) := by
  unfold Lny
  decide +kernel
theorem lny_app {z y : Str} (h : Lny z) (k : Lny y) : Lny (z ++ y) := fun c hc => by
  rw [app_list] at hc
  exact (List.mem_append.mp hc).elim (h c) (k c)
theorem lny_1 {c : Nat} (h : c ∈ signsS.cps.toList) : Lny ⟨#[c]⟩ := fun d hd => by
  rw [List.mem_singleton.mp hd]
  exact h
theorem lny_sgn {z : Str} {d : Int} (hz : Lny z) (h0 : 0 ≤ d) (h : d < (z.length : Int)) : Lny ⟨#[sgn z d]⟩ := lny_1 (hz _ (sgn_mem h0 h))
theorem sign_lt {c : Nat} (h : c ∈ signsS.cps.toList) : c < 128 := by
  have : ∀ c ∈ signsS.cps.toList, c < 128 := by decide +kernel
  exact this c h
theorem lny_ok {z : Str} (h : Lny z) : okV (.str z) = true := by
  show z.cps.all (fun x => decide (x < 0x110000)) = true
  rw [← Array.all_toList]
  exact List.all_eq_true.mpr fun c hc => decide_eq_true (by have := sign_lt (h c hc); omega)
/-! _law_text -/
def fewS : Str := "a1-b"
def textT (style : Int) (st : Str × (Int × Int)) : Str × (Int × Int) :=
  if style = 0 then (st.1 ++ ⟨#[sgn signsS (take st.2 68).1]⟩, (take st.2 68).2) else (st.1 ++ ⟨#[sgn fewS (take st.2 4).1]⟩, (take st.2 4).2)
def textN (style : Int) : Nat → Str × (Int × Int) → Str × (Int × Int)
  | 0, st => st
  | i + 1, st => textT style (textN style i st)
def lawText (s : Int × Int) : Str × (Int × Int) := textN (take s 3).1 (1 + (take (take s 3).2 2).1).toNat (("" : Str), (take (take s 3).2 2).2)
theorem textT_ok {style : Int} {st : Str × (Int × Int)} (h : Pk st.2) (l : Lny st.1) : Pk (textT style st).2 ∧ Lny (textT style st).1 ∧ (textT style st).1.length = st.1.length + 1 := by
  have t1 := take_lt (s := st.2) (n := 68) (by decide)
  have t2 := take_lt (s := st.2) (n := 4) (by decide)
  unfold textT
  split
  · exact ⟨take_pk h, lny_app l (lny_sgn (fun _ z => z) t1.1 (by rw [len_signs]; exact t1.2)), app1_len _ _⟩
  · exact ⟨take_pk h, lny_app l (lny_sgn (z := fewS) (by unfold Lny; decide +kernel) t2.1 (by rw [show fewS.length = 4 by decide +kernel]; exact t2.2)), app1_len _ _⟩
theorem textN_ok {style : Int} {s : Int × Int} (h : Pk s) : ∀ n, Pk (textN style n (("" : Str), s)).2 ∧ Lny (textN style n (("" : Str), s)).1 ∧ (textN style n (("" : Str), s)).1.length = n
  | 0 => ⟨h, lny_nil, by
    show ("" : Str).length = 0
    decide +kernel⟩
  | n + 1 => by
    obtain ⟨h1, h2, h3⟩ := textN_ok h n (style := style)
    obtain ⟨k1, k2, k3⟩ := textT_ok (style := style) h1 h2
    exact ⟨k1, k2, by rw [h3] at k3; exact k3⟩
theorem lawText_ok {s : Int × Int} (h : Pk s) : Pk (lawText s).2 ∧ Lny (lawText s).1 ∧ 1 ≤ (lawText s).1.length ∧ (lawText s).1.length ≤ 4 := by
  have t2 := take_lt (s := (take s 3).2) (n := 2) (by decide)
  obtain ⟨h1, h2, h3⟩ := textN_ok (style := (take s 3).1) (take_pk (n := 2) (take_pk (n := 3) h)) (1 + (take (take s 3).2 2).1).toNat
  exact ⟨h1, h2, by unfold lawText; omega, by unfold lawText; omega⟩
def spPT (f : Int × Int → Str × (Int × Int)) : Sp := fun vs H Q _ => ∃ (p : Addr) (s : Int × Int), vs = [.ref p] ∧ H p = some (pl s) ∧ Pk s ∧ RetP p (f s).2 (.str (f s).1) H Q
theorem evp_pt {f : Int × Int → Str × (Int × Int)} {σ : L2.St} {G : Hp} {p : Addr} {s : Int × Int} {i : Nat} (hi : σ[i]? = some (some (.ref p))) (hk : Pk s) :
    EvP (tCall (spPT f) [] E0 (tCons (tVar i) tNil)) σ G p s (.str (f s).1) (f s).2 :=
  evp_call (EvAP.of (ea_cons (ev_var hi) ea_nil)) fun H k Q q _ => ⟨p, s, rfl, k.at_, hk, q⟩
theorem ok__law_text {f : Addr} {fd : FuncData} (F : Fun K "_law_text" "_law_text" s__law_text f fd) (T : Txt K mg a_FIELDS a_OPEN_PARTS C_Both C_Either C_Form C_Gluer C_Keeper C_Rule) (D__law_take : Df P w K mg base "_law_take" ["pool", "many"] 1 spTake)
    (D__law_all_signs : Df P w K mg base "_law_all_signs" [] 1 (spK (.str signsS))) : FnOk P w K mg base CX0 2 f fd ["pool"] (spPT lawText) := by
  refine F.ok sc__law_text (fun vs H Q E h => ?_) (fun cdv A outer s0 H vs Q E hr h => ?_)
  · obtain ⟨p, s, rfl, _⟩ := h
    rfl
  · obtain ⟨p, s, rfl, hp, hk, q⟩ := h
    refine ⟨_, (pss_cons (ps_set (i := 1) sc__law_text.nd rfl (Or.inl rfl) pe_str)
      (pss_cons (ps_set (i := 2) sc__law_text.nd rfl (Or.inl rfl) (pe_df D__law_take (hr.mono (by decide)) (by rfl) (pa_cons (pv 0) (pa_cons pe_int pa_nil))))
      (pss_cons (ps_for PassesOwn.never rfl (pi_range1 (by rfl) T.n_range (pa_cons (pe_op op_add pe_int (pe_df D__law_take (hr.mono (by decide)) (by rfl) (pa_cons (pv 0) (pa_cons pe_int pa_nil)))) pa_nil)) (pg_name (i := 3) sc__law_text.nd rfl (Or.inl rfl))
      (pss_one (ps_if (pt_cmpR op_eq (pv 2) pe_int (nomark _))
      (pss_one (ps_set (i := 1) sc__law_text.nd rfl (Or.inl rfl) (pe_op op_add_str (pv 1) (pe_ix ix_str (pe_df0 D__law_all_signs (hr.mono (by decide)) (by rfl)) (pe_df D__law_take (hr.mono (by decide)) (by rfl) (pa_cons (pv 0) (pa_cons pe_int pa_nil))) (fun _ _ => rfl)))))
      (pss_one (ps_set (i := 1) sc__law_text.nd rfl (Or.inl rfl) (pe_op op_add_str (pv 1) (pe_ix ix_str pe_str (pe_df D__law_take (hr.mono (by decide)) (by rfl) (pa_cons (pv 0) (pa_cons pe_int pa_nil))) (fun _ _ => rfl))))))))
      (pss_one (ps_ret (pv 1)))))), ?_⟩
    have K0 := Kn.here hp
    refine q_asg ev_c fun H1 e1 => ?_
    have K1 := K0.same e1
    refine qp_asg K1 (evp_take rfl hk (by decide) (by decide)) fun H2 K2 e2 => ?_
    have hk1 : Pk (take s 3).2 := take_pk hk
    have t4 := take_lt (s := (take s 3).2) (n := 2) (by decide)
    refine qp_forR1 K2 (eap_cons (evp_op (EvP.of ev_c) (evp_take rfl hk1 (by decide) (by decide)) rv_add) eap_nil) ⟨by omega, by omega⟩
      (fun i σ' H' => ∃ y : Option V, σ' = [some (.ref p), some (.str (textN (take s 3).1 i (("" : Str), (take (take s 3).2 2).2)).1), some (.int (take s 3).1), y] ∧ Kn (hide p H) p (textN (take s 3).1 i (("" : Str), (take (take s 3).2 2).2)).2 H' ∧ i ≤ 4)
      (fun H3 K3 e3 => ⟨none, rfl, K3, by omega⟩) ?_ ?_
    · rintro i σ' H' hi ⟨y, rfl, K3, hi7⟩
      obtain ⟨hk3, hny, hlen⟩ := textN_ok (style := (take s 3).1) (take_pk (n := 2) hk1) i
      generalize hst : textN (take s 3).1 i (("" : Str), (take (take s 3).2 2).2) = st at K3 hk3 hny hlen ⊢
      have hst1 : textN (take s 3).1 (i + 1) (("" : Str), (take (take s 3).2 2).2) = textT (take s 3).1 st := by
        show textT (take s 3).1 (textN (take s 3).1 i (("" : Str), (take (take s 3).2 2).2)) = _
        rw [hst]
      rw [hst1]
      generalize (take s 3).1 = style
      refine sp_if K3 (EvTP.of (et_test (ev_op (ev_var rfl) ev_c rv_eqI))) (fun hb H4 K4 e4 => ?_) (fun hb H4 K4 e4 => ?_)
      · have e1 : textT style st = (st.1 ++ ⟨#[sgn signsS (take st.2 68).1]⟩, (take st.2 68).2) := if_pos (of_decide_eq_true hb)
        rw [e1]
        have t9 := take_lt (s := st.2) (n := 68) (by decide)
        refine sp_asg K4 (evp_op (EvP.of (ev_var rfl)) (evp_op (EvP.of (ev_call ea_nil sv_spK)) (evp_take rfl hk3 (by decide) (by decide)) (rv_ixS (by decide +kernel) (sgn_ix t9.1 (by rw [len_signs]; exact t9.2)))) (rv_cat ?_)) fun H5 K5 e5 => ⟨_, rfl, K5, by omega⟩
        show st.1.length + 1 ≤ 100000
        omega
      · have e1 : textT style st = (st.1 ++ ⟨#[sgn fewS (take st.2 4).1]⟩, (take st.2 4).2) := if_neg (of_decide_eq_false hb)
        rw [e1]
        have t9 := take_lt (s := st.2) (n := 4) (by decide)
        refine sp_asg K4 (evp_op (EvP.of (ev_var rfl)) (evp_op (EvP.of ev_c) (evp_take rfl hk3 (by decide) (by decide)) (rv_ixS (w := fewS) (by decide +kernel) (sgn_ix t9.1 (by rw [show fewS.length = 4 by decide +kernel]; exact t9.2)))) (rv_cat ?_)) fun H5 K5 e5 => ⟨_, rfl, K5, by omega⟩
        show st.1.length + 1 ≤ 100000
        omega
    · rintro σ' H' ⟨y, rfl, K3, _⟩
      exact s_ret (ev_var rfl) fun H4 e4 => q H4 (hx_trans K3.ex (hx_of e4)) (e4 p _ K3.at_)

/-! ### _law_parts -/
def openL (p : Str) : Bool := decide (p ∈ [anyP, digP, wordP])
theorem openL_eq (p : Str) : openL p = isOpen p := by
  rw [isOpen_eq]
  unfold openL
  simp only [List.mem_cons, List.not_mem_nil, or_false]
  congr 1
  apply propext
  constructor
  · rintro (h | h | h)
    · exact .inr (.inr h)
    · exact .inl h
    · exact .inr (.inl h)
  · rintro (h | h | h)
    · exact .inr (.inl h)
    · exact .inr (.inr h)
    · exact .inl h
def lastFixed (ps : List Str) : Bool := !ps.isEmpty && !isOpen (ps.getLast?.getD "")
def richT (st : List Str × (Int × Int)) : List Str × (Int × Int) :=
  if (take st.2 5).1 = 0 ∧ anyP ∉ st.1 then (st.1 ++ [anyP], (take st.2 5).2)
  else if (take st.2 5).1 = 1 then (st.1 ++ [digP], (take st.2 5).2)
  else if (take st.2 5).1 = 2 ∨ lastFixed st.1 = true then (st.1 ++ [wordP], (take st.2 5).2)
  else (st.1 ++ [(lawText (take st.2 5).2).1], (lawText (take st.2 5).2).2)
def richN : Nat → List Str × (Int × Int) → List Str × (Int × Int)
  | 0, st => st
  | i + 1, st => richT (richN i st)
def rich (s : Int × Int) : List Str × (Int × Int) := richN (1 + (take s 3).1).toNat ([], (take s 3).2)
/-- a fixed text of one to four signs -/
def fixedP (p : Str) : Prop := Lny p ∧ 1 ≤ p.length ∧ p.length ≤ 4
/-- parts that make a form -/
structure Parts (ps : List Str) : Prop where
  each : ∀ p ∈ ps, isOpen p = true ∨ fixedP p
  adj : ∀ (i : Nat) (p q : Str), ps[i]? = some p → ps[i + 1]? = some q → isOpen p = true ∨ isOpen q = true
  one : ∀ i j : Nat, ps[i]? = some anyP → ps[j]? = some anyP → i = j
theorem parts_nil : Parts [] := ⟨fun _ h => (nomatch h), fun _ _ _ h => (nomatch h), fun _ _ h => (nomatch h)⟩
theorem open_any : isOpen anyP = true := by decide +kernel
theorem open_dig : isOpen digP = true := by decide +kernel
theorem open_word : isOpen wordP = true := by decide +kernel
theorem app_get {α : Type} {xs : List α} {x y : α} {i : Nat} (h : (xs ++ [x])[i]? = some y) : xs[i]? = some y ∨ (i = xs.length ∧ x = y) := by
  by_cases hi : i < xs.length
  · rw [List.getElem?_append_left hi] at h
    exact .inl h
  · rw [List.getElem?_append_right (by omega)] at h
    by_cases e : i = xs.length
    · subst e
      rw [Nat.sub_self] at h
      exact .inr ⟨rfl, Option.some.inj h⟩
    · rw [List.getElem?_eq_none_iff.mpr (by simp; omega)] at h
      cases h
/-- one part more -/
theorem Parts.snoc {ps : List Str} {p : Str} (h : Parts ps) (he : isOpen p = true ∨ fixedP p) (ha : isOpen p = true ∨ lastFixed ps = false) (ho : p = anyP → anyP ∉ ps) : Parts (ps ++ [p]) := by
  refine ⟨fun q hq => ?_, fun i x y hx hy => ?_, fun i j hi hj => ?_⟩
  · rcases List.mem_append.mp hq with hq | hq
    · exact h.each q hq
    · rw [List.mem_singleton.mp hq]
      exact he
  · rcases app_get hy with hy' | ⟨e, rfl⟩
    · rcases app_get hx with hx' | ⟨e, rfl⟩
      · exact h.adj i x y hx' hy'
      · have := (List.getElem?_eq_some_iff.mp hy').1
        omega
    · rcases ha with ha | ha
      · exact .inr ha
      · left
        rcases app_get hx with hx' | ⟨e', _⟩
        · have hl : ps.getLast? = some x := by
            rw [List.getLast?_eq_getElem?, ← hx']
            congr 1
            omega
          unfold lastFixed at ha
          rw [hl] at ha
          have hne : ps.isEmpty = false := by
            cases ps with
            | nil => cases hx'
            | cons _ _ => rfl
          rw [hne] at ha
          simpa using ha
        · omega
  · rcases app_get hi with hi' | ⟨e, ep⟩
    · rcases app_get hj with hj' | ⟨e', ep'⟩
      · exact h.one i j hi' hj'
      · exact absurd (List.mem_of_getElem? hi') (ho ep')
    · rcases app_get hj with hj' | ⟨e', ep'⟩
      · exact absurd (List.mem_of_getElem? hj') (ho ep)
      · omega
theorem richT_ok {st : List Str × (Int × Int)} (h : Pk st.2) (hp : Parts st.1) : Pk (richT st).2 ∧ Parts (richT st).1 ∧ (richT st).1.length = st.1.length + 1 := by
  have hk : Pk (take st.2 5).2 := take_pk h
  have ht := lawText_ok hk
  unfold richT
  split
  · rename_i hc
    exact ⟨hk, hp.snoc (.inl open_any) (.inl open_any) (fun _ => hc.2), by simp⟩
  · split
    · exact ⟨hk, hp.snoc (.inl open_dig) (.inl open_dig) (fun e => absurd e (by decide +kernel)), by simp⟩
    · split
      · exact ⟨hk, hp.snoc (.inl open_word) (.inl open_word) (fun e => absurd e (by decide +kernel)), by simp⟩
      · rename_i hc
        refine ⟨ht.1, hp.snoc (.inr ⟨ht.2.1, ht.2.2⟩) (.inr ?_) (fun e => ?_), by simp⟩
        · cases hl : lastFixed st.1 with
          | false => rfl
          | true => exact absurd (.inr hl) hc
        · have h4 := ht.2.2.2
          rw [e] at h4
          exact absurd h4 (by decide +kernel)
theorem richN_ok {s : Int × Int} (h : Pk s) : ∀ n, Pk (richN n ([], s)).2 ∧ Parts (richN n ([], s)).1 ∧ (richN n ([], s)).1.length = n
  | 0 => ⟨h, parts_nil, rfl⟩
  | n + 1 => by
    obtain ⟨h1, h2, h3⟩ := richN_ok h n
    obtain ⟨k1, k2, k3⟩ := richT_ok h1 h2
    exact ⟨k1, k2, by rw [h3] at k3; exact k3⟩
theorem rich_ok {s : Int × Int} (h : Pk s) : Pk (rich s).2 ∧ Parts (rich s).1 ∧ 1 ≤ (rich s).1.length ∧ (rich s).1.length ≤ 3 := by
  have t := take_lt (s := s) (n := 3) (by decide)
  obtain ⟨h1, h2, h3⟩ := richN_ok (take_pk (n := 3) h) (1 + (take s 3).1).toNat
  exact ⟨h1, h2, by unfold rich; omega, by unfold rich; omega⟩
theorem open_len {p : Str} (h : isOpen p = true) : p.length ≤ 8 := by
  rcases isOpen_iff.mp h with rfl | rfl | rfl <;> decide +kernel
theorem open_ok {p : Str} (h : isOpen p = true) : okV (.str p) = true := by
  rcases isOpen_iff.mp h with rfl | rfl | rfl <;> decide +kernel
theorem Parts.len {ps : List Str} (h : Parts ps) : ∀ p ∈ ps, p.length ≤ 8 := fun p hp => (h.each p hp).elim open_len (fun k => by have := k.2.2; omega)
theorem Parts.okV {ps : List Str} (h : Parts ps) : ∀ v ∈ ps.map V.str, okV v = true := fun v hv => by
  obtain ⟨p, hp, rfl⟩ := List.mem_map.mp hv
  exact (h.each p hp).elim open_ok (fun k => lny_ok k.1)
/-- what hands back a new list, the pool at p then s' -/
def RetPL (p : Addr) (s' : Int × Int) (xs : List V) (H : Hp) (Q : VK) : Prop := ∀ l H', H l = none → Ex (hide p H) H' → H' p = some (pl s') → H' l = some (.lst xs) → Q (.ref l) H'
def spRich : Sp := fun vs H Q _ => ∃ (p : Addr) (s : Int × Int), vs = [.ref p] ∧ H p = some (pl s) ∧ Pk s ∧ RetPL p (rich s).2 ((rich s).1.map V.str) H Q
theorem ok__law_parts {f : Addr} {fd : FuncData} (F : Fun K "_law_parts" "_law_parts" s__law_parts f fd) (T : Txt K mg a_FIELDS a_OPEN_PARTS C_Both C_Either C_Form C_Gluer C_Keeper C_Rule) (D__law_take : Df P w K mg base "_law_take" ["pool", "many"] 1 spTake)
    (D__law_text : Df P w K mg base "_law_text" ["pool"] 2 (spPT lawText)) : FnOk P w K mg base CX0 3 f fd ["pool"] spRich := by
  refine F.ok sc__law_parts (fun vs H Q E h => ?_) (fun cdv A outer s0 H vs Q E hr h => ?_)
  · obtain ⟨p, s, rfl, _⟩ := h
    rfl
  · obtain ⟨p, s, rfl, hp, hk, q⟩ := h
    refine ⟨_, (pss_cons (ps_set (i := 1) sc__law_parts.nd rfl (Or.inl rfl) (pe_lst pa_nil))
      (pss_cons (ps_for PassesOwn.never rfl (pi_range1 (by rfl) T.n_range (pa_cons (pe_op op_add pe_int (pe_df D__law_take (hr.mono (by decide)) (by rfl) (pa_cons (pv 0) (pa_cons pe_int pa_nil)))) pa_nil)) (pg_name (i := 2) sc__law_parts.nd rfl (Or.inl rfl))
      (pss_cons (ps_set (i := 3) sc__law_parts.nd rfl (Or.inl rfl) (pe_df D__law_take (hr.mono (by decide)) (by rfl) (pa_cons (pv 0) (pa_cons pe_int pa_nil))))
      (pss_cons (ps_set (i := 4) sc__law_parts.nd rfl (Or.inl rfl) (pe_and (pe_cmpR (op_neD hr.units) (pv 1) (pe_lst pa_nil) (nomark _)) (pe_one (pe_cmpR op_notIn_seq (pe_ix ix_list (pv 1) (pe_un un_neg pe_int) (fun _ _ => rfl)) (pe_tup (pa_cons pe_str (pa_cons pe_str (pa_cons pe_str pa_nil)))) (by rfl)))))
      (pss_one (ps_if (PW.pt (pw_and (pt_cmpR op_eq (pv 3) pe_int (nomark _)) (pw_and1 (pt_cmpR op_notIn_seq pe_str (pv 1) (by rfl)))))
      (pss_one (ps_expr (pe_bm PySem.F.plainAttrs_list PySem.F.slot_list_append PySem.F.type_list_append mt_append (pv 1) (pa_cons pe_str pa_nil))))
      (pss_one (ps_if (pt_cmpR op_eq (pv 3) pe_int (nomark _))
      (pss_one (ps_expr (pe_bm PySem.F.plainAttrs_list PySem.F.slot_list_append PySem.F.type_list_append mt_append (pv 1) (pa_cons pe_str pa_nil))))
      (pss_one (ps_if (PW.pt (pw_or (pt_cmpR op_eq (pv 3) pe_int (nomark _)) (pw_or1 (pt_val (pv 4)))))
      (pss_one (ps_expr (pe_bm PySem.F.plainAttrs_list PySem.F.slot_list_append PySem.F.type_list_append mt_append (pv 1) (pa_cons pe_str pa_nil))))
      (pss_one (ps_expr (pe_bm PySem.F.plainAttrs_list PySem.F.slot_list_append PySem.F.type_list_append mt_append (pv 1) (pa_cons (pe_df D__law_text (hr.mono (by decide)) (by rfl) (pa_cons (pv 0) pa_nil)) pa_nil)))))))))))))
      (pss_one (ps_ret (pv 1))))), ?_⟩
    have K0 := Kn.here hp
    refine q_asgL (el_lst ea_nil (Nat.zero_le _)) fun l H1 hl0 e1 h1 => ?_
    have K1 := K0.same e1
    have nlp : l ≠ p := fun z => by
      rw [z, hp] at hl0
      cases hl0
    have hGl : hide p H l = none := by
      rw [hide_ne nlp]
      exact hl0
    have t4 := take_lt (s := s) (n := 3) (by decide)
    refine qp_forR1 K1 (eap_cons (evp_op (EvP.of ev_c) (evp_take rfl hk (by decide) (by decide)) rv_add) eap_nil) ⟨by omega, by omega⟩
      (fun i σ' H' => ∃ y1 y2 y3 : Option V, σ' = [some (.ref p), some (.ref l), y1, y2, y3] ∧ Kn (hide p H) p (richN i ([], (take s 3).2)).2 H' ∧ H' l = some (.lst ((richN i ([], (take s 3).2)).1.map V.str)) ∧ i ≤ 4)
      (fun H3 K3 e3 => ⟨none, none, none, rfl, K3, e3 _ _ (by rw [hide_ne nlp]; exact h1), by omega⟩) ?_ ?_
    · rintro i σ' H2 hi ⟨y1, y2, y3, rfl, K2, h2, hi4⟩
      obtain ⟨hk2, hps, hlen⟩ := richN_ok (take_pk (n := 3) hk) i
      generalize hst : richN i ([], (take s 3).2) = st at K2 hk2 hps hlen h2
      have hst1 : richN (i + 1) ([], (take s 3).2) = richT st := by
        show richT (richN i ([], (take s 3).2)) = _
        rw [hst]
      rw [hst1]
      have hk3 : Pk (take st.2 5).2 := take_pk hk2
      refine qp_asg K2 (evp_take rfl hk2 (by decide) (by decide)) fun H3 K3 e3 => ?_
      have h3 : H3 l = some (.lst (st.1.map V.str)) := e3 _ _ (by rw [hide_ne nlp]; exact h2)
      have hn3 : hide p H3 l = some (.lst (st.1.map V.str)) := by rw [hide_ne nlp]; exact h3
      have okl : ∀ v ∈ st.1.map V.str, okV v = true := hps.okV
      refine q_asg (v := .bl (lastFixed st.1)) (ev_is (ev_andV (a := !eqF (st.1.map V.str) []) (b := !isOpen (st.1.getLast?.getD "")) (ev_opL (ev_var rfl) (el_lst ea_nil (Nat.zero_le _)) fun q1 H4 hq4 e4 => rv_neL (sq_of (e4 _ _ h3)) (sq_of hq4) okl (by simp)) fun hb => ?_) ?_) fun H4 e4 => ?_
      · have hne : st.1.map V.str ≠ [] := fun z => by
          rw [z] at hb
          cases hb
        have hne2 : st.1 ≠ [] := fun z => hne (by rw [z]; rfl)
        have hlast : atI (st.1.map V.str) (-1) = some (.str (st.1.getLast?.getD "")) := by
          rw [at_last hne, List.getLast?_map]
          cases hq : st.1.getLast? with
          | none => exact absurd (List.getLast?_eq_none_iff.mp hq) hne2
          | some x => rfl
        refine ev_is (ev_niU (ev_op (ev_var rfl) (ev_neg ev_c) (rv_ixL (sq_of h3) hlast)) (eu_tup (ea_cons ev_c (ea_cons ev_c (ea_cons ev_c ea_nil))) (by simp)) rfl rfl) ?_
        rw [← openL_eq]
        exact congrArg (fun b => V.bl (!b)) (inV_str _ [anyP, digP, wordP])
      · unfold lastFixed
        rw [eqF_nil]
        cases st.1 <;> rfl
      have K4 := K3.same e4
      have h4 := e4 _ _ h3
      have big : (st.1.map V.str).length < 100000 := by
        rw [List.length_map]
        omega
      have done : ∀ (x : Str) (s' : Int × Int) (y1' y2' y3' : Option V) (H5 : Hp), richT st = (st.1 ++ [x], s') → Kn (hide p H) p s' H5 → (∃ y1 y2 y3 : Option V, ([some (.ref p), some (.ref l), y1', y2', y3'] : L2.St) = [some (.ref p), some (.ref l), y1, y2, y3] ∧ Kn (hide p H) p (richT st).2 (upd H5 l (.lst (st.1.map V.str ++ [.str x]))) ∧ (upd H5 l (.lst (st.1.map V.str ++ [.str x]))) l = some (.lst ((richT st).1.map V.str)) ∧ i + 1 ≤ 4) := by
        intro x s' z1 z2 z3 H5 he K5
        refine ⟨z1, z2, z3, rfl, ?_, ?_, by omega⟩
        · rw [he]
          exact K5.mut hGl (Ne.symm nlp)
        · rw [he, upd_same, List.map_append]
          rfl
      refine s_if (b := decide ((take st.2 5).1 = 0) && !decide (anyP ∈ st.1)) (et_and (et_test (ev_op (ev_var rfl) ev_c rv_eqI)) fun _ => et_test (ev_is (ev_op ev_c (ev_var rfl) (rv_niL (sq_of h4) rfl (flat_str _))) (congrArg (fun b => V.bl (!b)) (inV_str _ _)))) (fun hb H5 e5 => ?_) (fun hb H5 e5 => ?_)
      · obtain ⟨c1, c2⟩ := Bool.and_eq_true _ _ ▸ hb
        have c2' : anyP ∉ st.1 := by simpa using c2
        exact s_app (e5 _ _ h4) (ev_var rfl) ev_c big fun H6 e6 => done anyP _ _ _ _ H6 (if_pos ⟨of_decide_eq_true c1, c2'⟩) ((K4.same e5).same e6)
      · have n1 : ¬ ((take st.2 5).1 = 0 ∧ anyP ∉ st.1) := fun z => by
          rw [decide_eq_true z.1, decide_eq_false z.2] at hb
          cases hb
        have h5 := e5 _ _ h4
        have K5 := K4.same e5
        refine s_if (b := decide ((take st.2 5).1 = 1)) (et_test (ev_op (ev_var rfl) ev_c rv_eqI)) (fun hc H6 e6 => ?_) (fun hc H6 e6 => ?_)
        · exact s_app (e6 _ _ h5) (ev_var rfl) ev_c big fun H7 e7 => done digP _ _ _ _ H7 (by unfold richT; rw [if_neg n1, if_pos (of_decide_eq_true hc)]) ((K5.same e6).same e7)
        · have n2 := of_decide_eq_false hc
          have h6 := e6 _ _ h5
          have K6 := K5.same e6
          refine s_if (b := decide ((take st.2 5).1 = 2) || lastFixed st.1) (et_or (et_test (ev_op (ev_var rfl) ev_c rv_eqI)) fun _ => et_B (ev_var rfl)) (fun hd H7 e7 => ?_) (fun hd H7 e7 => ?_)
          · have n3 : (take st.2 5).1 = 2 ∨ lastFixed st.1 = true := by
              rcases Bool.or_eq_true _ _ ▸ hd with hd | hd
              · exact .inl (of_decide_eq_true hd)
              · exact .inr hd
            exact s_app (e7 _ _ h6) (ev_var rfl) ev_c big fun H8 e8 => done wordP _ _ _ _ H8 (by unfold richT; rw [if_neg n1, if_neg n2, if_pos n3]) ((K6.same e7).same e8)
          · have n3 : ¬ ((take st.2 5).1 = 2 ∨ lastFixed st.1 = true) := fun z => by
              rcases z with z | z
              · rw [decide_eq_true z] at hd
                cases hd
              · rw [z, Bool.or_true] at hd
                cases hd
            exact sp_app (K6.same e7) (e7 _ _ h6) nlp rfl (evp_pt rfl hk3) big fun H8 K8 e8 => done _ _ _ _ _ H8 (by unfold richT; rw [if_neg n1, if_neg n2, if_neg n3]) K8
    · rintro σ' H2 ⟨y1, y2, y3, rfl, K2, h2, _⟩
      exact s_ret (ev_var rfl) fun H4 e4 => q l H4 hl0 (hx_trans K2.ex (hx_of e4)) (e4 p _ K2.at_) (e4 _ _ h2)

/-! ### _law_takes, _law_ends, _law_fits -/
def ltakes (p : Str) (c : Nat) : Bool := if p = digP then decide (c ∈ digS.cps.toList) else decide (p = wordP) && decide (c ∈ letS.cps.toList)
def spLtakes : Sp := fun vs H Q _ => ∃ (p : Str) (c : Nat), vs = [.str p, .str ⟨#[c]⟩] ∧ RetV (.bl (ltakes p c)) H Q
theorem sv_ltakes {p : Str} {c : Nat} {G : Hp} : SpV spLtakes [.str p, .str ⟨#[c]⟩] G (.bl (ltakes p c)) := fun H1 e Q q E => ⟨_, _, rfl, q⟩
theorem while_iff {α : Type} (p : α → Bool) : ∀ (l : List α) (j : Nat), j ≤ (l.takeWhile p).length → (j < (l.takeWhile p).length ↔ ∃ x, l[j]? = some x ∧ p x = true)
  | [], j, _ => by simp
  | x :: l, 0, _ => by
    by_cases h : p x = true
    · simp [List.takeWhile_cons, h]
    · simp [List.takeWhile_cons, h]
  | x :: l, j + 1, h => by
    by_cases hx : p x = true
    · have e : (x :: l).takeWhile p = x :: l.takeWhile p := by simp [List.takeWhile_cons, hx]
      rw [e, List.length_cons] at h ⊢
      have := while_iff p l j (by omega)
      rw [show (x :: l)[j + 1]? = l[j]? from rfl]
      constructor
      · intro q
        exact this.mp (by omega)
      · intro q
        have := this.mpr q
        omega
    · have e : (x :: l).takeWhile p = [] := by simp [List.takeWhile_cons, hx]
      rw [e] at h
      simp at h
/-- how many signs from a place on a part takes -/
def run (p : Str) (z : Str) (a : Nat) : Nat := ((z.cps.toList.drop a).takeWhile (ltakes p)).length
def from1 (a n : Nat) : List Nat := (List.range n).map fun i => a + i
def endsM (p z : Str) (a : Nat) : List Nat :=
  if p = anyP then from1 a (z.length + 1 - a)
  else if p = digP ∨ p = wordP then from1 (a + 1) (run p z a)
  else if (⟨((z.cps.toList.drop a).take p.length).toArray⟩ : Str) = p then [a + p.length] else []
theorem run_le (p z : Str) (a : Nat) : run p z a ≤ z.length - a := by
  unfold run
  have h := (List.takeWhile_sublist (l := z.cps.toList.drop a) (ltakes p)).length_le
  rw [List.length_drop, ← str_len] at h
  exact h
theorem from1_mem {a n e : Nat} : e ∈ from1 a n ↔ a ≤ e ∧ e < a + n := by
  unfold from1
  rw [List.mem_map]
  constructor
  · rintro ⟨i, hi, rfl⟩
    have := List.mem_range.mp hi
    omega
  · rintro ⟨h1, h2⟩
    exact ⟨e - a, List.mem_range.mpr (by omega), by omega⟩
theorem from1_nd (a n : Nat) : (from1 a n).Nodup := by
  unfold from1
  exact List.Pairwise.map _ (fun x y h => by omega) List.nodup_range
theorem ends_nd (p z : Str) (a : Nat) : (endsM p z a).Nodup := by
  unfold endsM
  split
  · exact from1_nd _ _
  · split
    · exact from1_nd _ _
    · split <;> simp
theorem ends_le {p z : Str} {a e : Nat} (h : e ∈ endsM p z a) (ha : a ≤ z.length) : e ≤ z.length := by
  unfold endsM at h
  split at h
  · have := from1_mem.mp h
    omega
  · split at h
    · have := from1_mem.mp h
      have := run_le p z a
      omega
    · split at h
      · rename_i h3
        have hl : ((z.cps.toList.drop a).take p.length).length = p.length := by
          have := congrArg Str.length h3
          simpa [Str.length] using this
        rw [List.length_take, List.length_drop, ← str_len] at hl
        rw [List.mem_singleton.mp h]
        omega
      · cases h
theorem ends_len {p z : Str} {a : Nat} : (endsM p z a).length ≤ z.length + 1 := by
  unfold endsM
  split
  · simp [from1]
  · split
    · have := run_le p z a
      simp [from1]
      omega
    · split <;> simp
def spEnds : Sp := fun vs H Q _ => ∃ (p z : Str) (a : Nat), vs = [.str p, .str z, .int (a : Int)] ∧ z.length ≤ 1000 ∧ p.length ≤ 1000 ∧ a ≤ z.length ∧ RetL ((endsM p z a).map vN) H Q
/-- the signs that a part for digits or a word takes -/
def takS (p : Str) : Str := if p = wordP then letS else digS
theorem takS_eq {p : Str} (h : p = digP ∨ p = wordP) (c : Nat) : decide (c ∈ (takS p).cps.toList) = ltakes p c := by
  unfold takS ltakes
  by_cases h1 : p = digP
  · rw [if_neg (by rw [h1]; decide +kernel), if_pos h1]
  · have h2 : p = wordP := h.resolve_left h1
    rw [if_pos h2, if_neg h1, decide_eq_true h2, Bool.true_and]
theorem ok__law_ends {f : Addr} {fd : FuncData} (F : Fun K "_law_ends" "_law_ends" s__law_ends f fd) (T : Txt K mg a_FIELDS a_OPEN_PARTS C_Both C_Either C_Form C_Gluer C_Keeper C_Rule) : FnOk P w K mg base CX0 2 f fd ["part", "line", "at"] spEnds := by
  refine F.ok sc__law_ends (fun vs H Q E h => ?_) (fun cdv A outer s0 H vs Q E hr h => ?_)
  · obtain ⟨p, z, a, rfl, _⟩ := h
    rfl
  · obtain ⟨p, z, a, rfl, hz, hpl, ha, q⟩ := h
    refine ⟨_, (pss_cons (ps_if (pt_cmpR op_eq (pv 0) pe_str (nomark _))
      (pss_one (ps_ret (pe_listRg rfl (by rfl) T.n_list (prg_2 (by rfl) T.n_range (pv 2) (pe_op op_add (pe_callB call_len_str (by rfl) T.n_len PySem.boot_len (pa_cons (pv 1) pa_nil)) pe_int)))))
      pss_nil)
      (pss_cons (ps_set (i := 3) sc__law_ends.nd rfl (Or.inl rfl) (pe_lst pa_nil))
      (pss_cut (ps_if (pt_cmpR op_in_seq (pv 0) (pe_tup (pa_cons pe_str (pa_cons pe_str pa_nil))) (by rfl))
      (pss_cons (ps_set (i := 4) sc__law_ends.nd rfl (Or.inl rfl) pe_str)
      (pss_cons (ps_if (pt_cmpR op_eq (pv 0) pe_str (nomark _))
      (pss_one (ps_set (i := 4) sc__law_ends.nd rfl (Or.inl rfl) pe_str))
      pss_nil)
      (pss_cons (ps_set (i := 5) sc__law_ends.nd rfl (Or.inl rfl) (pv 2))
      (pss_one (ps_while PassesOwn.never (PW.pt (pw_and (pt_cmpR op_lt (pv 5) (pe_callB call_len_str (by rfl) T.n_len PySem.boot_len (pa_cons (pv 1) pa_nil)) (nomark _)) (pw_and1 (pt_cmpR op_in_sign (pe_ix ix_str (pv 1) (pv 5) (fun _ _ => rfl)) (pv 4) (by rfl)))))
      (pss_cons (ps_set (i := 5) sc__law_ends.nd rfl (Or.inl rfl) (pe_op op_add (pv 5) pe_int))
      (pss_one (ps_expr (pe_bm PySem.F.plainAttrs_list PySem.F.slot_list_append PySem.F.type_list_append mt_append (pv 3) (pa_cons (pv 5) pa_nil))))))))))
      (pss_one (ps_if (pt_cmpR op_eq (pe_slice sl_str (pv 1) (po_some (pv 2)) (po_some (pe_op op_add (pv 2) (pe_callB call_len_str (by rfl) T.n_len PySem.boot_len (pa_cons (pv 0) pa_nil))))) (pv 0) (nomark _))
      (pss_one (ps_expr (pe_bm PySem.F.plainAttrs_list PySem.F.slot_list_append PySem.F.type_list_append mt_append (pv 3) (pa_cons (pe_op op_add (pv 2) (pe_callB call_len_str (by rfl) T.n_len PySem.boot_len (pa_cons (pv 0) pa_nil))) pa_nil))))
      pss_nil)))
      (pss_one (ps_ret (pv 3)))))), ?_⟩
    unfold endsM at q
    refine q_when (b := decide (p = anyP)) (et_test (ev_op (ev_var rfl) ev_c rv_eqS)) (fun hb H1 e1 => ?_) (fun hb H1 e1 => ?_)
    · rw [if_pos (of_decide_eq_true hb)] at q
      refine s_retL (el_listRg (i := (a : Int)) (j := (z.length : Int) + 1) (ev_var rfl) (ev_op (ev_lenS (ev_var rfl) (by omega)) ev_c rv_add) (by omega) (by omega) (by omega) (by omega)) fun l H2 hl e2 h2 => q l H2 (fresh_back e1 hl) (e1.trans e2) ?_
      rw [h2]
      unfold rgV from1
      rw [List.map_map, show ((z.length : Int) + 1 - (a : Int)).toNat = z.length + 1 - a by omega]
      congr 2
    · rw [if_neg (of_decide_eq_false hb)] at q
      refine q_asgL (el_lst ea_nil (Nat.zero_le _)) fun l H2 hl0 e2 h2 => ?_
      have hl0' := fresh_back e1 hl0
      have e12 := e1.trans e2
      have hq : V.bl (inV (.str p) [V.str digP, V.str wordP]) = V.bl (decide (p = digP) || decide (p = wordP)) := by
        refine (congrArg V.bl (inV_str p [digP, wordP])).trans ?_
        congr 1
        by_cases h1 : p = digP
        · simp [h1]
        · by_cases h2 : p = wordP <;> simp [h1, h2]
      refine q_cut (M := fun σ' H' => ∃ y y2 : Option V, σ' = [some (.str p), some (.str z), some (.int (a : Int)), some (.ref l), y, y2] ∧ Ex H H' ∧ H' l = some (.lst ((if p = digP ∨ p = wordP then from1 (a + 1) (run p z a) else if (⟨((z.cps.toList.drop a).take p.length).toArray⟩ : Str) = p then [a + p.length] else []).map vN))) ?_ (fun σ' H' ⟨y, y2, hσ, e', h'⟩ => by
        subst hσ
        exact s_ret (ev_var rfl) fun H7 e7 => q l H7 hl0' (e'.trans e7) (e7 _ _ h'))
      refine s_if (et_test (ev_is (ev_inU (ev_var rfl) (eu_tup (ea_cons ev_c (ea_cons ev_c ea_nil)) (by simp)) rfl rfl) hq)) (fun hc H3 e3 => ?_) (fun hc H3 e3 => ?_)
      · have hcc : p = digP ∨ p = wordP := by
          rcases Bool.or_eq_true _ _ ▸ hc with hc | hc
          · exact .inl (of_decide_eq_true hc)
          · exact .inr (of_decide_eq_true hc)
        rw [if_pos hcc]
        refine q_asg (v := .str digS) ev_c fun Ha ea => ?_
        refine q_ifAsg (v := .str (takS p)) (b := decide (p = wordP)) (et_test (ev_op (ev_var rfl) ev_c rv_eqS)) (fun hb => by
          rw [takS, if_pos (of_decide_eq_true hb)]
          exact ev_c) (fun hb => by
          rw [takS, if_neg (of_decide_eq_false hb)]
          rfl) fun Hb eb => ?_
        have e3 := (e3.trans ea).trans eb
        refine q_asg (v := .int (a : Int)) (ev_var rfl) fun H4 e4 => ?_
        have hr := run_le p z a
        refine s_while (fun m σ' H' => ∃ e : Nat, σ' = [some (.str p), some (.str z), some (.int (a : Int)), some (.ref l), some (.str (takS p)), some (.int (e : Int))] ∧ Ex H H' ∧ a ≤ e ∧ e ≤ a + run p z a ∧ m = a + run p z a - e ∧ H' l = some (.lst ((from1 (a + 1) (e - a)).map vN))) (run p z a)
          ⟨a, rfl, (e12.trans e3).trans e4, Nat.le_refl _, by omega, by omega, by
            rw [Nat.sub_self]
            exact e4 _ _ (e3 _ _ h2)⟩ ?_
        rintro m σ' H5 ⟨e, rfl, e5, h1, h3, rfl, h5⟩
        have hw := while_iff (ltakes p) (z.cps.toList.drop a) (e - a) (by
          show e - a ≤ run p z a
          omega)
        rw [List.getElem?_drop, show a + (e - a) = e by omega] at hw
        have ix : e < z.length → z.cps.toList[e]? = some (z.cps.toList.getD e 0) ∧ atI z.cps.toList (e : Int) = some (z.cps.toList.getD e 0) := fun he => by
          have he2 : e < z.cps.toList.length := by rw [← str_len]; exact he
          have h1 : z.cps.toList[e]? = some (z.cps.toList.getD e 0) := by
            rw [List.getElem?_eq_getElem he2, List.getD_eq_getElem?_getD, List.getElem?_eq_getElem he2]
            rfl
          refine ⟨h1, ?_⟩
          unfold atI ixN
          rw [if_pos (by omega), if_pos (by omega)]
          exact h1
        refine ⟨decide (e < z.length) && ltakes p (z.cps.toList.getD e 0), et_and (et_test (ev_is (ev_op (ev_var rfl) (ev_lenS (ev_var rfl) (by omega)) rv_I0) (congrArg V.bl lt_len))) fun hd => et_is (et_test (ev_op (ev_op (ev_var rfl) (ev_var rfl) (rv_ixS (by omega) (ix (of_decide_eq_true hd)).2)) (ev_var rfl) rv_sgn)) (takS_eq hcc _), fun hd H6 e6 => ?_, fun hd H6 e6 => ?_⟩
        · obtain ⟨d1, d2⟩ := Bool.and_eq_true _ _ ▸ hd
          have d3 := of_decide_eq_true d1
          have hlt : e - a < run p z a := hw.mpr ⟨_, (ix d3).1, d2⟩
          refine ⟨fun σ2 H7 => σ2 = [some (.str p), some (.str z), some (.int (a : Int)), some (.ref l), some (.str (takS p)), some (.int ((e + 1 : Nat) : Int))] ∧ Ex H H7 ∧ H7 l = some (.lst ((from1 (a + 1) (e + 1 - a)).map vN)), fun σ2 H7 ⟨g1, g2, g3⟩ => ⟨a + run p z a - (e + 1), by omega, e + 1, g1, g2, by omega, by omega, rfl, g3⟩, ?_⟩
          refine q_asg (ev_op (ev_var rfl) ev_c rv_add) fun H7 e7 => ?_
          refine s_app (e7 _ _ (e6 _ _ h5)) (ev_var rfl) (ev_var rfl) (by simp [from1]; omega) fun H8 e8 => ⟨rfl, Ex.mut (((e5.trans e6).trans e7).trans e8) hl0', ?_⟩
          rw [upd_same, show e + 1 - a = (e - a) + 1 by omega]
          unfold from1
          rw [List.range_succ, List.map_append, List.map_append]
          congr 3
          show [V.int ((e : Int) + 1)] = [V.int ((a + 1 + (e - a) : Nat) : Int)]
          congr 2
          omega
        · have he : e = a + run p z a := by
            by_cases hlt : e - a < run p z a
            · obtain ⟨x, hx, hp⟩ := hw.mp hlt
              have he2 := (List.getElem?_eq_some_iff.mp hx).1
              rw [← str_len] at he2
              have hx2 := (ix he2).1
              rw [hx] at hx2
              rw [decide_eq_true he2, ← Option.some.inj hx2, hp] at hd
              cases hd
            · omega
          refine ⟨_, _, rfl, e5.trans e6, ?_⟩
          rw [e6 _ _ h5, he, show a + run p z a - a = run p z a by omega]
      · have hcc : ¬ (p = digP ∨ p = wordP) := fun w' => by
          rcases w' with w' | w'
          · rw [decide_eq_true w', Bool.true_or] at hc
            cases hc
          · rw [decide_eq_true w', Bool.or_true] at hc
            cases hc
        rw [if_neg hcc]
        have ec : cutS z (some (a : Int)) (some ((a : Int) + (p.length : Int))) = ⟨((z.cps.toList.drop a).take p.length).toArray⟩ := by
          rw [show (a : Int) + (p.length : Int) = ((a + p.length : Nat) : Int) by omega, cut_in, show a + p.length - a = p.length by omega]
        refine s_when (b := decide ((⟨((z.cps.toList.drop a).take p.length).toArray⟩ : Str) = p)) (et_test (ev_is (ev_op (ev_slS (ev_var rfl) (eo_some (ev_var rfl)) (eo_some (ev_op (ev_var rfl) (ev_lenS (ev_var rfl) (by omega)) rv_add)) (by omega)) (ev_var rfl) rv_eqS) (by rw [ec]))) (fun hd H4 e4 => ?_) (fun hd H4 e4 => ?_)
        · rw [if_pos (of_decide_eq_true hd)]
          refine s_app (e4 _ _ (e3 _ _ h2)) (ev_var rfl) (ev_op (ev_var rfl) (ev_lenS (ev_var rfl) (by omega)) rv_add) (by simp) fun H5 e5 => ⟨_, _, rfl, Ex.mut (((e12.trans e3).trans e4).trans e5) hl0', ?_⟩
          rw [upd_same]
          rfl
        · rw [if_neg (of_decide_eq_false hd)]
          exact ⟨_, _, rfl, (e12.trans e3).trans e4, e4 _ _ (e3 _ _ h2)⟩
/-! _law_fits -/
def moreM (p z : Str) (more : List Nat) (a : Nat) : List Nat := more ++ (endsM p z a).filter fun e => !decide (e ∈ more)
def stepM (z : Str) (places : List Nat) (p : Str) : List Nat := places.foldl (moreM p z) []
def placesM (ps : List Str) (z : Str) : List Nat := ps.foldl (stepM z) [0]
def fitsM (ps : List Str) (z : Str) : Bool := !decide (z = ("" : Str)) && decide (z.length ∈ placesM ps z)
theorem nodup_le : ∀ (n : Nat) (l : List Nat), l.Nodup → (∀ x ∈ l, x < n) → l.length ≤ n
  | 0, l, _, h => by
    cases l with
    | nil => exact Nat.le_refl _
    | cons x _ => exact absurd (h x List.mem_cons_self) (by omega)
  | n + 1, l, nd, h => by
    have h1 := nodup_le n (l.erase n) (nd.erase n) fun x hx => by
      have h2 := (List.Nodup.mem_erase_iff nd).mp hx
      have := h x h2.2
      omega
    rw [List.length_erase] at h1
    split at h1 <;> omega
/-- places: no one twice, none beyond the line -/
def Pls (z : Str) (l : List Nat) : Prop := l.Nodup ∧ ∀ x ∈ l, x ≤ z.length
theorem Pls.len {z : Str} {l : List Nat} (h : Pls z l) : l.length ≤ z.length + 1 := nodup_le _ _ h.1 fun x hx => by have := h.2 x hx; omega
theorem more_ok {p z : Str} {more : List Nat} {a : Nat} (h : Pls z more) (ha : a ≤ z.length) : Pls z (moreM p z more a) := by
  refine ⟨List.nodup_append.mpr ⟨h.1, (ends_nd p z a).filter _, fun x hx y hy e => ?_⟩, fun x hx => ?_⟩
  · have := (List.mem_filter.mp hy).2
    rw [← e] at this
    simp [hx] at this
  · rcases List.mem_append.mp hx with hx | hx
    · exact h.2 x hx
    · exact ends_le (List.mem_filter.mp hx).1 ha
theorem mores_ok {p z : Str} : ∀ (places more : List Nat), Pls z more → (∀ x ∈ places, x ≤ z.length) → Pls z (places.foldl (moreM p z) more)
  | [], _, h, _ => h
  | a :: r, more, h, k => mores_ok r _ (more_ok h (k a List.mem_cons_self)) fun x hx => k x (List.mem_cons_of_mem _ hx)
theorem pls_nil (z : Str) : Pls z [] := ⟨List.nodup_nil, fun _ h => (nomatch h)⟩
theorem step_ok {z p : Str} {places : List Nat} (h : Pls z places) : Pls z (stepM z places p) := mores_ok _ _ (pls_nil z) h.2
theorem steps_ok {z : Str} : ∀ (ps : List Str) (places : List Nat), Pls z places → Pls z (ps.foldl (stepM z) places)
  | [], _, h => h
  | p :: ps, _, h => steps_ok ps _ (step_ok h)
theorem pls_0 (z : Str) : Pls z [0] := ⟨by simp, fun x hx => by rw [List.mem_singleton.mp hx]; omega⟩
theorem mem_str {ps : List Str} {i : Nat} {x : V} (h : (ps.map V.str)[i]? = some x) : ∃ p, ps[i]? = some p ∧ x = .str p := by
  rw [List.getElem?_map] at h
  cases hq : ps[i]? with
  | none =>
    rw [hq] at h
    cases h
  | some p =>
    rw [hq] at h
    exact ⟨p, rfl, (Option.some.inj h).symm⟩
theorem mem_vN {ps : List Nat} {i : Nat} {x : V} (h : (ps.map vN)[i]? = some x) : ∃ p, ps[i]? = some p ∧ x = vN p := by
  rw [List.getElem?_map] at h
  cases hq : ps[i]? with
  | none =>
    rw [hq] at h
    cases h
  | some p =>
    rw [hq] at h
    exact ⟨p, rfl, (Option.some.inj h).symm⟩
theorem take_fold {α β : Type} {f : β → α → β} {b : β} {l : List α} {i : Nat} {x : α} (h : l[i]? = some x) : (l.take (i + 1)).foldl f b = f ((l.take i).foldl f b) x := by
  rw [List.take_add_one, h, List.foldl_append]
  rfl
def spFits (K : PySem.W.Frag) : Sp := fun vs H Q _ => ∃ (a : Addr) (ps : List Str) (z : Str), vs = [.ref a, .str z] ∧ SqL K H a (ps.map V.str) ∧ (∀ p ∈ ps, p.length ≤ 1000) ∧ z.length ≤ 1000 ∧ RetV (.bl (fitsM ps z)) H Q
theorem ok__law_fits {f : Addr} {fd : FuncData} (F : Fun K "_law_fits" "_law_fits" s__law_fits f fd) (T : Txt K mg a_FIELDS a_OPEN_PARTS C_Both C_Either C_Form C_Gluer C_Keeper C_Rule) (D__law_ends : Df P w K mg base "_law_ends" ["part", "line", "at"] 2 spEnds) : FnOk P w K mg base CX0 3 f fd ["parts", "line"] (spFits K) := by
  refine F.ok sc__law_fits (fun vs H Q E h => ?_) (fun cdv A outer s0 H vs Q E hr h => ?_)
  · obtain ⟨a, ps, z, rfl, _⟩ := h
    rfl
  · obtain ⟨a, ps, z, rfl, hA, hps, hz, q⟩ := h
    refine ⟨_, (pss_cons (ps_set (i := 2) sc__law_fits.nd rfl (Or.inl rfl) (pe_lst (pa_cons pe_int pa_nil)))
      (pss_cons (ps_for PassesOwn.never rfl (pi_list (pv 0)) (pg_name (i := 3) sc__law_fits.nd rfl (Or.inl rfl))
      (pss_cons (ps_set (i := 4) sc__law_fits.nd rfl (Or.inr rfl) (pe_lst pa_nil))
      (pss_cons (ps_for PassesOwn.never rfl (pi_list (pv 2)) (pg_name (i := 5) sc__law_fits.nd rfl (Or.inl rfl))
      (pss_one (ps_set (i := 4) sc__law_fits.nd rfl (Or.inr rfl) (pe_op op_cat (pv 4) (pe_lc (own := [("end", 6)]) (g := gName 6) rfl sc__law_fits.nd (pi_list (pe_df D__law_ends (hr.mono (by decide)) (by rfl) (pa_cons (pv 3) (pa_cons (pv 1) (pa_cons (pv 5) pa_nil))))) (blkOk_by (own := [("end", 6)]) (N := ["parts", "line", "places", "part", "more", "at", "end"]) (sc := defScope s__law_fits) (by decide +kernel)) (fun _ _ _ _ _ => pg_name (i := 6) sc__law_fits.nd rfl (Or.inl rfl)) (fun _ _ _ _ _ => pts_one (pt_cmpR (op_notIn_seqK K rfl) (pv 6) (pv 4) (by rfl))) (fun _ _ _ _ _ => (pv 6)))))))
      (pss_one (ps_set (i := 2) sc__law_fits.nd rfl (Or.inl rfl) (pv 4))))))
      (pss_one (ps_ret (pe_and (pe_cmpR op_ne (pv 1) pe_str (nomark _)) (pe_one (pe_cmpR op_in_seq (pe_callB call_len_str (by rfl) T.n_len PySem.boot_len (pa_cons (pv 1) pa_nil)) (pv 2) (by rfl)))))))), ?_⟩
    refine q_asgL (el_lst (ea_cons ev_c ea_nil) (by simp)) fun l H1 hl0 e1 h1 => ?_
    refine q_forLn (ev_var rfl) (ex_l e1 hA) (fun i σ' H' => ∃ (l : Addr) (y3 y4 y5 : Option V), σ' = [some (.ref a), some (.str z), some (.ref l), y3, y4, y5, none] ∧ Ex H H' ∧ H' l = some (.lst ((placesM (ps.take i) z).map vN))) (fun H2 e2 => ⟨l, none, none, none, rfl, e1.trans e2, e2 _ _ h1⟩) (fun i σ' H' _ pv => ?_) ?_ ?_
    · obtain ⟨_, _, _, _, _, e2, _⟩ := pv
      exact ex_l e2 hA
    · rintro i x σ' H2 hx ⟨l, y3, y4, y5, rfl, e2, h2⟩
      obtain ⟨p, hp, rfl⟩ := mem_str hx
      have hp1 := hps p (List.mem_of_getElem? hp)
      have hpl : Pls z (placesM (ps.take i) z) := steps_ok _ _ (pls_0 z)
      have ht : placesM (ps.take (i + 1)) z = stepM z (placesM (ps.take i) z) p := take_fold hp
      rw [ht]
      generalize placesM (ps.take i) z = places at h2 hpl ⊢
      refine q_asgL (el_lst ea_nil (Nat.zero_le _)) fun m H3 hm0 e3 h3 => ?_
      have h2' := e3 _ _ h2
      refine q_forLn (ev_var rfl) (sq_of h2') (fun j σ' H' => ∃ (m : Addr) (y5 : Option V), σ' = [some (.ref a), some (.str z), some (.ref l), some (.str p), some (.ref m), y5, none] ∧ Ex H3 H' ∧ H' m = some (.lst (((places.take j).foldl (moreM p z) []).map vN))) (fun H4 e4 => ⟨m, y5, rfl, e4, e4 _ _ h3⟩) (fun j σ' H' _ pv => ?_) ?_ ?_
      · obtain ⟨_, _, _, e4, _⟩ := pv
        exact sq_of (e4 _ _ h2')
      · rintro j x σ' H4 hj ⟨m, y5, rfl, e4, h4⟩
        obtain ⟨at', hat, rfl⟩ := mem_vN hj
        have hat1 : at' ≤ z.length := hpl.2 _ (List.mem_of_getElem? hat)
        have hmo : Pls z ((places.take j).foldl (moreM p z) []) := mores_ok _ _ (pls_nil z) fun x hx => hpl.2 x (List.mem_of_mem_take hx)
        rw [take_fold hat]
        generalize (places.take j).foldl (moreM p z) [] = more at h4 hmo ⊢
        have hml := hmo.len
        have hel := ends_len (p := p) (z := z) (a := at')
        refine s_asgL (xs := more.map vN ++ ((endsM p z at').filter fun e => !decide (e ∈ more)).map vN) (el_cat (ev_var rfl) h4 (el_lcNM (xs := endsM p z at') (r := vN) 0 (fun e => !decide (e ∈ more)) vN (el_call (ea_cons (ev_var rfl) (ea_cons (ev_var rfl) (ea_cons (ev_var rfl) ea_nil))) fun H5 e5 Q' q' E' => ⟨p, z, at', rfl, hz, hp1, hat1, q'⟩) (by omega) (fun _ => rfl)
          (fun x H5 e5 hx => et_test (ev_is (ev_op (ev_var rfl) (ev_var rfl) (rv_niL (sq_of (e5 _ _ h4)) rfl (flat_vN more))) (congrArg (fun b => V.bl (!b)) (inV_vN x more)))) (fun x H5 e5 hx _ => ev_var rfl)) (by
            have := List.length_filter_le (fun e => !decide (e ∈ more)) (endsM p z at')
            rw [List.length_map, List.length_map]
            omega)) fun r H5 hr0 e5 h5 => ⟨r, _, rfl, e4.trans e5, ?_⟩
        rw [h5]
        unfold moreM
        rw [List.map_append]
      · rintro σ' H4 ⟨m, y5, rfl, e4, h4⟩
        refine s_asg (v := .ref m) (ev_var rfl) fun H5 e5 => ⟨m, _, _, _, rfl, ((e2.trans e3).trans e4).trans e5, ?_⟩
        rw [List.length_map, List.take_of_length_le (Nat.le_refl _)] at h4
        exact e5 _ _ h4
    · rintro σ' H2 ⟨l, y3, y4, y5, rfl, e2, h2⟩
      rw [List.length_map, List.take_of_length_le (Nat.le_refl _)] at h2
      exact s_ret (ev_andV (ev_op (ev_var rfl) ev_c rv_neS) fun _ => ev_is (ev_op (ev_lenS (ev_var rfl) (by omega)) (ev_var rfl) (rv_isL (sq_of h2) rfl (flat_vN _))) (congrArg V.bl (inV_vN _ _))) fun H3 e3 => q H3 (e2.trans e3)

/-! ### _law_line, _law_spoiled -/
def fourS : Str := "aBzb"
def rep1 (z : Str) (d n : Int) : Str := repS ⟨#[sgn z d]⟩ (1 + n).toNat
def lineT (st : Str × (Int × Int)) (p : Str) : Str × (Int × Int) :=
  if p = digP then (st.1 ++ rep1 digS (take st.2 10).1 (take (take st.2 10).2 3).1, (take (take st.2 10).2 3).2)
  else if p = wordP then (st.1 ++ rep1 fourS (take st.2 4).1 (take (take st.2 4).2 3).1, (take (take st.2 4).2 3).2)
  else if p = anyP then (st.1 ++ repS (lawText st.2).1 (take (lawText st.2).2 3).1.toNat, (take (lawText st.2).2 3).2)
  else (st.1 ++ p, st.2)
def lawLine (s : Int × Int) (ps : List Str) : Str × (Int × Int) := ps.foldl lineT (("" : Str), s)
theorem lny_rep {z : Str} (h : Lny z) (n : Nat) : Lny (repS z n) := by
  intro c hc
  unfold repS at hc
  have hc' : c ∈ (List.replicate n z.cps.toList).flatten := hc
  obtain ⟨l, hl, hcl⟩ := List.mem_flatten.mp hc'
  rw [(List.mem_replicate.mp hl).2] at hcl
  exact h c hcl
theorem lineT_ok {st : Str × (Int × Int)} {p : Str} (h : Pk st.2) (l : Lny st.1) (hp : isOpen p = true ∨ fixedP p) : Pk (lineT st p).2 ∧ Lny (lineT st p).1 ∧ (lineT st p).1.length ≤ st.1.length + 12 := by
  have a1 := take_lt (s := st.2) (n := 10) (by decide)
  have a2 := take_lt (s := (take st.2 10).2) (n := 3) (by decide)
  have b1 := take_lt (s := st.2) (n := 4) (by decide)
  have b2 := take_lt (s := (take st.2 4).2) (n := 3) (by decide)
  have c2 := take_lt (s := (lawText st.2).2) (n := 3) (by decide)
  have tx := lawText_ok h
  unfold lineT
  split
  · refine ⟨take_pk (take_pk h), lny_app l (lny_rep (lny_sgn (z := digS) (by unfold Lny; decide +kernel) a1.1 (by rw [show digS.length = 10 by decide +kernel]; exact a1.2)) _), ?_⟩
    rw [app_len]
    unfold rep1
    rw [repS_len]
    show _ + _ * 1 ≤ _
    omega
  · split
    · refine ⟨take_pk (take_pk h), lny_app l (lny_rep (lny_sgn (z := fourS) (by unfold Lny; decide +kernel) b1.1 (by rw [show fourS.length = 4 by decide +kernel]; exact b1.2)) _), ?_⟩
      rw [app_len]
      unfold rep1
      rw [repS_len]
      show _ + _ * 1 ≤ _
      omega
    · split
      · refine ⟨take_pk tx.1, lny_app l (lny_rep tx.2.1 _), ?_⟩
        rw [app_len, repS_len]
        have h2 : (take (lawText st.2).2 3).1.toNat * (lawText st.2).1.length ≤ 3 * 4 := Nat.mul_le_mul (by omega) tx.2.2.2
        omega
      · rename_i h1 h2 h3
        have hf : fixedP p := by
          rcases hp with hp | hp
          · rcases isOpen_iff.mp hp with e | e | e
            · exact absurd e h1
            · exact absurd e h2
            · exact absurd e h3
          · exact hp
        refine ⟨h, lny_app l hf.1, ?_⟩
        rw [app_len]
        have := hf.2.2
        omega
theorem lines_ok : ∀ (ps : List Str) (st : Str × (Int × Int)), Pk st.2 → Lny st.1 → (∀ p ∈ ps, isOpen p = true ∨ fixedP p) → Pk (ps.foldl lineT st).2 ∧ Lny (ps.foldl lineT st).1 ∧ (ps.foldl lineT st).1.length ≤ st.1.length + 12 * ps.length
  | [], _, h, l, _ => ⟨h, l, by simp⟩
  | p :: ps, st, h, l, hp => by
    obtain ⟨h1, l1, n1⟩ := lineT_ok h l (hp p List.mem_cons_self)
    obtain ⟨h2, l2, n2⟩ := lines_ok ps _ h1 l1 fun q hq => hp q (List.mem_cons_of_mem _ hq)
    refine ⟨h2, l2, ?_⟩
    rw [List.foldl_cons, List.length_cons]
    omega
theorem lawLine_ok {s : Int × Int} {ps : List Str} (h : Pk s) (hp : ∀ p ∈ ps, isOpen p = true ∨ fixedP p) : Pk (lawLine s ps).2 ∧ Lny (lawLine s ps).1 ∧ (lawLine s ps).1.length ≤ 12 * ps.length := by
  obtain ⟨h1, h2, h3⟩ := lines_ok ps (("" : Str), s) h lny_nil hp
  refine ⟨h1, h2, ?_⟩
  have : (("" : Str)).length = 0 := by decide +kernel
  have h4 : (((("" : Str), s) : Str × (Int × Int))).1.length = 0 := this
  rw [h4] at h3
  unfold lawLine
  omega
def spLine (K : PySem.W.Frag) : Sp := fun vs H Q _ => ∃ (p : Addr) (s : Int × Int) (a : Addr) (ps : List Str), vs = [.ref p, .ref a] ∧ H p = some (pl s) ∧ Pk s ∧ a ≠ p ∧ SqL K H a (ps.map V.str) ∧ (∀ p ∈ ps, isOpen p = true ∨ fixedP p) ∧ ps.length ≤ 10 ∧ RetP p (lawLine s ps).2 (.str (lawLine s ps).1) H Q
theorem sq_hide {p a : Addr} {H : Hp} {xs : List V} (ne : a ≠ p) (h : SqL K H a xs) : SqL K (hide p H) a xs := by
  rcases h with (h | ⟨o, h⟩) | h
  · exact .inl (.inl (by rw [hide_ne ne]; exact h))
  · exact .inl (.inr ⟨o, by rw [hide_ne ne]; exact h⟩)
  · exact .inr h
/-! _law_spoiled -/
def lawSpoiled (s : Int × Int) (z : Str) : Str × (Int × Int) :=
  let a := take s ((z.length : Int) + 1)
  let b := take a.2 68
  let c := take b.2 5
  let x : Str := ⟨#[sgn signsS b.1]⟩
  if c.1 = 0 then ((cutS z none (some a.1) ++ x) ++ cutS z (some a.1) none, c.2)
  else if c.1 = 1 then (cutS z none (some a.1) ++ cutS z (some (a.1 + 1)) none, c.2)
  else if c.1 = 2 then ((cutS z none (some a.1) ++ x) ++ cutS z (some (a.1 + 1)) none, c.2)
  else (z, c.2)
theorem cut_len {z : Str} {lo hi : Option Int} : (cutS z lo hi).length ≤ z.length := by
  rw [str_len, str_len z]
  unfold cutS
  show ((z.cps.toList.drop _).take _).length ≤ _
  rw [List.length_take, List.length_drop]
  omega
theorem lny_cut {z : Str} {lo hi : Option Int} (h : Lny z) : Lny (cutS z lo hi) := fun c hc => by
  have hc' : c ∈ (z.cps.toList.drop (HT.sIx z.length 0 lo)).take (HT.sIx z.length z.length hi - HT.sIx z.length 0 lo) := hc
  exact h c (List.mem_of_mem_drop (List.mem_of_mem_take hc'))
theorem spoiled_ok {s : Int × Int} {z : Str} (h : Pk s) (l : Lny z) : Pk (lawSpoiled s z).2 ∧ Lny (lawSpoiled s z).1 ∧ (lawSpoiled s z).1.length ≤ 2 * z.length + 1 := by
  have b1 := take_lt (s := (take s ((z.length : Int) + 1)).2) (n := 68) (by decide)
  have hx : Lny ⟨#[sgn signsS (take (take s ((z.length : Int) + 1)).2 68).1]⟩ := lny_sgn (fun _ w' => w') b1.1 (by rw [len_signs]; exact b1.2)
  have hk : Pk (take (take (take s ((z.length : Int) + 1)).2 68).2 5).2 := take_pk (take_pk (take_pk h))
  have c1 := cut_len (z := z) (lo := none) (hi := some (take s ((z.length : Int) + 1)).1)
  have c2 := cut_len (z := z) (lo := some (take s ((z.length : Int) + 1)).1) (hi := none)
  have c3 := cut_len (z := z) (lo := some ((take s ((z.length : Int) + 1)).1 + 1)) (hi := none)
  unfold lawSpoiled
  simp only []
  split
  · exact ⟨hk, lny_app (lny_app (lny_cut l) hx) (lny_cut l), by rw [app_len, app1_len]; omega⟩
  · split
    · exact ⟨hk, lny_app (lny_cut l) (lny_cut l), by rw [app_len]; omega⟩
    · split
      · exact ⟨hk, lny_app (lny_app (lny_cut l) hx) (lny_cut l), by rw [app_len, app1_len]; omega⟩
      · exact ⟨hk, l, by show z.length ≤ _; omega⟩
def spSpoiled : Sp := fun vs H Q _ => ∃ (p : Addr) (s : Int × Int) (z : Str), vs = [.ref p, .str z] ∧ H p = some (pl s) ∧ Pk s ∧ z.length ≤ 1000 ∧ RetP p (lawSpoiled s z).2 (.str (lawSpoiled s z).1) H Q
/-! ### the mathematics: a line split among parts, and the positions of cells -/
/-- v is what the part stands for -/
def piece (p : Str) (v : List Nat) : Prop := if p = anyP then True else if p = digP ∨ p = wordP then v ≠ [] ∧ ∀ c ∈ v, ltakes p c = true else v = p.cps.toList
/-- t can be split among the first k of the parts -/
def Mk (ps : List Str) : Nat → List Nat → Prop
  | 0, t => t = []
  | k + 1, t => ∃ u v, t = u ++ v ∧ Mk ps k u ∧ piece (cellAt' ps k) v
theorem while_all {α : Type} (p : α → Bool) : ∀ (l : List α) (j : Nat), j ≤ l.length → (j ≤ (l.takeWhile p).length ↔ ∀ c ∈ l.take j, p c = true)
  | [], j, h => by
    have : j = 0 := by simpa using h
    subst this
    simp
  | x :: l, 0, _ => by simp
  | x :: l, j + 1, h => by
    have ih := while_all p l j (by simpa using h)
    by_cases hx : p x = true
    · have e : (x :: l).takeWhile p = x :: l.takeWhile p := by simp [List.takeWhile_cons, hx]
      rw [e, List.length_cons, List.take_succ_cons]
      constructor
      · intro q c hc
        rcases List.mem_cons.mp hc with rfl | hc
        · exact hx
        · exact ih.mp (by omega) c hc
      · intro q
        have := ih.mpr fun c hc => q c (List.mem_cons_of_mem _ hc)
        omega
    · have e : (x :: l).takeWhile p = [] := by simp [List.takeWhile_cons, hx]
      rw [e]
      constructor
      · intro q
        simp at q
      · intro q
        exact absurd (q x (by simp)) hx
theorem ends_iff {p z : Str} {a e : Nat} (ha : a ≤ z.length) : e ∈ endsM p z a ↔ a ≤ e ∧ e ≤ z.length ∧ piece p ((z.cps.toList.drop a).take (e - a)) := by
  have hl : (z.cps.toList.drop a).length = z.length - a := by rw [List.length_drop, ← str_len]
  unfold endsM piece
  by_cases h1 : p = anyP
  · rw [if_pos h1, if_pos h1, from1_mem]
    constructor
    · intro q
      exact ⟨q.1, by omega, trivial⟩
    · intro q
      exact ⟨q.1, by omega⟩
  · rw [if_neg h1, if_neg h1]
    by_cases h2 : p = digP ∨ p = wordP
    · rw [if_pos h2, if_pos h2, from1_mem]
      have hr := run_le p z a
      constructor
      · rintro ⟨q1, q2⟩
        refine ⟨by omega, by omega, ?_, ?_⟩
        · intro w'
          have := congrArg List.length w'
          rw [List.length_take, hl] at this
          simp only [List.length_nil] at this
          omega
        · exact (while_all (ltakes p) (z.cps.toList.drop a) (e - a) (by omega)).mp (by
            show e - a ≤ run p z a
            omega)
      · rintro ⟨q1, q2, q3, q4⟩
        have h3 := (while_all (ltakes p) (z.cps.toList.drop a) (e - a) (by omega)).mpr q4
        have h4 : e - a ≤ run p z a := h3
        have h5 : a ≠ e := fun w' => q3 (by rw [w', Nat.sub_self, List.take_zero])
        omega
    · rw [if_neg h2, if_neg h2]
      have hp : p.cps.toList.length = p.length := (str_len p).symm
      by_cases h3 : (⟨((z.cps.toList.drop a).take p.length).toArray⟩ : Str) = p
      · rw [if_pos h3, List.mem_singleton]
        have h4 : (z.cps.toList.drop a).take p.length = p.cps.toList := by
          conv => rhs; rw [← h3]
        have h5 := congrArg List.length h4
        rw [List.length_take, hl, hp] at h5
        constructor
        · rintro rfl
          refine ⟨by omega, by omega, ?_⟩
          rw [Nat.add_sub_cancel_left]
          exact h4
        · rintro ⟨q1, q2, q3⟩
          have h6 := congrArg List.length q3
          rw [List.length_take, hl, hp] at h6
          omega
      · rw [if_neg h3]
        constructor
        · intro w'
          cases w'
        · rintro ⟨q1, q2, q3⟩
          exfalso
          have h6 := congrArg List.length q3
          rw [List.length_take, hl, hp] at h6
          have h7 : e - a = p.length := by omega
          apply h3
          rw [← h7, q3]
theorem mores_mem {p z : Str} {e : Nat} : ∀ (places more : List Nat), e ∈ places.foldl (moreM p z) more ↔ e ∈ more ∨ ∃ a ∈ places, e ∈ endsM p z a
  | [], more => by simp
  | a :: r, more => by
    rw [List.foldl_cons, mores_mem r]
    unfold moreM
    rw [List.mem_append, List.mem_filter]
    constructor
    · rintro ((h | h) | ⟨b, hb, h⟩)
      · exact .inl h
      · exact .inr ⟨a, List.mem_cons_self, h.1⟩
      · exact .inr ⟨b, List.mem_cons_of_mem _ hb, h⟩
    · rintro (h | ⟨b, hb, h⟩)
      · exact .inl (.inl h)
      · rcases List.mem_cons.mp hb with rfl | hb
        · by_cases hm : e ∈ more
          · exact .inl (.inl hm)
          · exact .inl (.inr ⟨h, by simp [hm]⟩)
        · exact .inr ⟨b, hb, h⟩
theorem step_mem {p z : Str} {places : List Nat} {e : Nat} : e ∈ stepM z places p ↔ ∃ a ∈ places, e ∈ endsM p z a := by
  unfold stepM
  rw [mores_mem]
  simp
theorem cellAt_get {ps : List Str} {k : Nat} (h : k < ps.length) : ps[k]? = some (cellAt' ps k) := by
  unfold cellAt'
  rw [List.getElem?_eq_getElem h, List.getD_eq_getElem?_getD, List.getElem?_eq_getElem h]
  rfl
theorem places_iff (ps : List Str) (z : Str) : ∀ (k : Nat), k ≤ ps.length → ∀ e, e ∈ placesM (ps.take k) z ↔ e ≤ z.length ∧ Mk ps k (z.cps.toList.take e)
  | 0, _, e => by
    show e ∈ ([0] : List Nat) ↔ _
    have hl := str_len z
    rw [List.mem_singleton]
    constructor
    · rintro rfl
      exact ⟨Nat.zero_le _, rfl⟩
    · rintro ⟨h1, h2⟩
      have h3 : z.cps.toList.take e = [] := h2
      have := congrArg List.length h3
      rw [List.length_take] at this
      simp only [List.length_nil] at this
      omega
  | k + 1, hk, e => by
    have ih := places_iff ps z k (by omega)
    have hl := str_len z
    have ht : placesM (ps.take (k + 1)) z = stepM z (placesM (ps.take k) z) (cellAt' ps k) := take_fold (cellAt_get (by omega))
    rw [ht, step_mem]
    constructor
    · rintro ⟨a, ha, he⟩
      obtain ⟨h1, h2⟩ := (ih a).mp ha
      obtain ⟨h3, h4, h5⟩ := (ends_iff h1).mp he
      refine ⟨h4, z.cps.toList.take a, (z.cps.toList.drop a).take (e - a), ?_, h2, h5⟩
      rw [show e = a + (e - a) by omega, List.take_add, show a + (e - a) - a = e - a by omega]
    · rintro ⟨h1, u, v, h2, h3, h4⟩
      have hlu : u.length ≤ e := by
        have := congrArg List.length h2
        rw [List.length_take, List.length_append] at this
        omega
      have hu : z.cps.toList.take u.length = u := by
        have := congrArg (List.take u.length) h2
        rw [List.take_take, Nat.min_eq_left hlu] at this
        rw [this]
        simp
      have hv : (z.cps.toList.drop u.length).take (e - u.length) = v := by
        have := congrArg (List.drop u.length) h2
        rw [List.drop_take] at this
        rw [this]
        simp
      refine ⟨u.length, (ih _).mpr ⟨by omega, by rw [hu]; exact h3⟩, (ends_iff (by omega)).mpr ⟨hlu, h1, ?_⟩⟩
      rw [hv]
      exact h4
theorem str_nil {z : Str} : z = ("" : Str) ↔ z.cps.toList = [] := by
  constructor
  · intro h
    rw [h]
    decide +kernel
  · intro h
    cases z with
    | mk a =>
      have : a = #[] := by
        cases a with
        | mk l => cases l with
          | nil => rfl
          | cons x y => cases h
      rw [this]
      decide +kernel
theorem fits_take {ps : List Str} {z : Str} {k : Nat} (hk : k ≤ ps.length) : fitsM (ps.take k) z = true ↔ z.cps.toList ≠ [] ∧ Mk ps k z.cps.toList := by
  have hl := str_len z
  unfold fitsM
  rw [Bool.and_eq_true, decide_eq_true_eq, places_iff ps z k hk, hl, List.take_length]
  constructor
  · rintro ⟨h1, _, h2⟩
    refine ⟨fun w' => ?_, h2⟩
    rw [decide_eq_true (str_nil.mpr w')] at h1
    cases h1
  · rintro ⟨h1, h2⟩
    refine ⟨?_, Nat.le_refl _, h2⟩
    rw [decide_eq_false fun w' => h1 (str_nil.mp w')]
    rfl
theorem fits_iff {ps : List Str} {z : Str} : fitsM ps z = true ↔ z.cps.toList ≠ [] ∧ Mk ps ps.length z.cps.toList := by
  have h := fits_take (ps := ps) (z := z) (k := ps.length) (Nat.le_refl _)
  rw [List.take_length] at h
  exact h
/-! positions -/
def Cl (cells : List Str) (ps : List Nat) : Nat → Bool
  | 0 => decide (0 ∈ ps)
  | j + 1 => decide (j + 1 ∈ ps) || (Cl cells ps j && decide (cellAt' cells j = anyP))
theorem closedN_eq (cells : List Str) (ps : List Nat) : ∀ k, closedN cells ps k = (List.range k).filter (Cl cells ps)
  | 0 => rfl
  | k + 1 => by
    have ih := closedN_eq cells ps k
    show (if closeT cells ps (closedN cells ps k) k then closedN cells ps k ++ [k] else closedN cells ps k) = _
    have hc : closeT cells ps (closedN cells ps k) k = Cl cells ps k := by
      unfold closeT
      rw [ih]
      cases k with
      | zero =>
        show (decide (0 ∈ ps) || (decide (0 < 0) && _ && _)) = decide (0 ∈ ps)
        simp
      | succ j =>
        show (decide (j + 1 ∈ ps) || (decide (0 < j + 1) && decide (j ∈ (List.range (j + 1)).filter (Cl cells ps)) && decide (cellAt' cells j = anyP))) = (decide (j + 1 ∈ ps) || (Cl cells ps j && decide (cellAt' cells j = anyP)))
        congr 2
        rw [decide_eq_true (by omega : 0 < j + 1), Bool.true_and]
        by_cases h : Cl cells ps j = true
        · rw [h]
          exact decide_eq_true (List.mem_filter.mpr ⟨List.mem_range.mpr (by omega), h⟩)
        · have hf : Cl cells ps j = false := by simpa using h
          rw [hf]
          exact decide_eq_false fun w' => h (List.mem_filter.mp w').2
    rw [hc, ih, List.range_succ, List.filter_append]
    by_cases h : Cl cells ps k = true
    · rw [if_pos h]
      simp [h]
    · rw [if_neg h]
      simp [h]
theorem closed_eq (cells : List Str) (ps : List Nat) : closedM cells ps = (List.range (cells.length + 1)).filter (Cl cells ps) := closedN_eq cells ps _
/-- cells: single signs and the three others -/
def Cells (cells : List Str) : Prop := ∀ c ∈ cells, isOpen c = true ∨ ∃ x : Nat, c = ⟨#[x]⟩
theorem Cells.at {cells : List Str} (h : Cells cells) {k : Nat} (hk : k < cells.length) : isOpen (cellAt' cells k) = true ∨ ∃ x : Nat, cellAt' cells k = ⟨#[x]⟩ := h _ (List.mem_of_getElem? (cellAt_get hk))
theorem sign_not_open {x : Nat} : isOpen ⟨#[x]⟩ = false := by
  cases h : isOpen ⟨#[x]⟩ with
  | false => rfl
  | true =>
    rcases isOpen_iff.mp h with e | e | e
    · have := congrArg Str.length e
      exact absurd this (by
        rw [show digP.length = 8 by decide +kernel]
        show ¬ (1 : Nat) = 8
        decide)
    · have := congrArg Str.length e
      exact absurd this (by
        rw [show wordP.length = 6 by decide +kernel]
        show ¬ (1 : Nat) = 6
        decide)
    · have := congrArg Str.length e
      exact absurd this (by
        rw [show anyP.length = 5 by decide +kernel]
        show ¬ (1 : Nat) = 5
        decide)
theorem any_ne_dig : anyP ≠ digP := by decide +kernel
theorem any_ne_word : anyP ≠ wordP := by decide +kernel
theorem dig_ne_word : digP ≠ wordP := by decide +kernel
theorem sign_ne {x : Nat} {p : Str} (h : isOpen p = true) : (⟨#[x]⟩ : Str) ≠ p := fun e => by
  have := sign_not_open (x := x)
  rw [e, h] at this
  cases this
/-- what takes one sign -/
theorem takes_rep {p : Str} {c : Nat} (h : p = digP ∨ p = wordP) : takesM p c = ltakes p c := by
  rcases h with rfl | rfl
  · unfold takesM ltakes
    rw [if_pos rfl, if_pos rfl]
  · unfold takesM ltakes
    rw [if_neg (Ne.symm dig_ne_word), if_pos rfl, if_neg (Ne.symm dig_ne_word), decide_eq_true rfl, Bool.true_and]
theorem takes_sign {x c : Nat} : takesM ⟨#[x]⟩ c = decide (x = c) := by
  unfold takesM
  rw [if_neg (sign_ne open_dig), if_neg (sign_ne open_word)]
  by_cases h : x = c
  · subst h
    simp
  · rw [decide_eq_false h, decide_eq_false]
    intro e
    have := congrArg (fun s : Str => s.cps.toList) e
    exact h (by simpa using this)
theorem takes_any {c : Nat} : takesM anyP c = false := by
  unfold takesM
  rw [if_neg any_ne_dig, if_neg any_ne_word]
  exact decide_eq_false fun e => sign_ne open_any e.symm
/-- a piece that ends with the sign c -/
theorem piece_any {v : List Nat} : piece anyP v := by
  unfold piece
  rw [if_pos rfl]
  trivial
theorem piece_rep {p : Str} (h : p = digP ∨ p = wordP) {v : List Nat} : piece p v ↔ v ≠ [] ∧ ∀ c ∈ v, ltakes p c = true := by
  unfold piece
  rw [if_neg (by
    rcases h with rfl | rfl
    · exact Ne.symm any_ne_dig
    · exact Ne.symm any_ne_word), if_pos h]
theorem piece_sign {x : Nat} {v : List Nat} : piece ⟨#[x]⟩ v ↔ v = [x] := by
  unfold piece
  rw [if_neg (sign_ne open_any), if_neg (fun h => h.elim (sign_ne open_dig) (sign_ne open_word))]
theorem piece_nil {p : Str} (h : isOpen p = true ∨ ∃ x : Nat, p = ⟨#[x]⟩) : piece p [] ↔ p = anyP := by
  constructor
  · intro q
    rcases h with h | ⟨x, rfl⟩
    · rcases isOpen_iff.mp h with e | e | e
      · exact absurd rfl ((piece_rep (.inl e)).mp q).1
      · exact absurd rfl ((piece_rep (.inr e)).mp q).1
      · exact e
    · have := piece_sign.mp q
      cases this
  · rintro rfl
    exact piece_any
/-- where a text may stand: just behind its pieces, or within any signs -/
def At (cells : List Str) (t : List Nat) (k : Nat) : Prop := Mk cells k t ∨ (k < cells.length ∧ cellAt' cells k = anyP ∧ Mk cells (k + 1) t)
theorem mk_any {cells : List Str} {k : Nat} {t : List Nat} (h : Mk cells k t) (ha : cellAt' cells k = anyP) : Mk cells (k + 1) t := ⟨t, [], (List.append_nil t).symm, h, by rw [ha]; exact piece_any⟩
theorem mk_more {cells : List Str} {k : Nat} {t w' : List Nat} (h : Mk cells (k + 1) t) (ha : cellAt' cells k = anyP) : Mk cells (k + 1) (t ++ w') := by
  obtain ⟨u, v, rfl, hu, _⟩ := h
  exact ⟨u, v ++ w', List.append_assoc _ _ _, hu, by rw [ha]; exact piece_any⟩
theorem at_closed {cells : List Str} {k : Nat} {t : List Nat} (h : At cells t k) (ha : cellAt' cells k = anyP) : At cells t (k + 1) := by
  rcases h with h | ⟨_, _, h⟩
  · exact .inl (mk_any h ha)
  · exact .inl h
theorem mk_nil {cells : List Str} (hc : Cells cells) : ∀ k, k ≤ cells.length → (Mk cells k [] ↔ ∀ j, j < k → cellAt' cells j = anyP)
  | 0, _ => by
    constructor
    · intro _ j hj
      omega
    · intro _
      rfl
  | k + 1, hk => by
    have ih := mk_nil hc k (by omega)
    constructor
    · rintro ⟨u, v, e, hu, hv⟩
      obtain ⟨rfl, rfl⟩ := List.append_eq_nil_iff.mp e.symm
      intro j hj
      by_cases h : j = k
      · subst h
        exact (piece_nil (hc.at (by omega))).mp hv
      · exact ih.mp hu j (by omega)
    · intro h
      exact mk_any (ih.mpr fun j hj => h j (by omega)) (h k (by omega))
theorem at_nil {cells : List Str} (hc : Cells cells) {k : Nat} (hk : k ≤ cells.length) : At cells [] k ↔ ∀ j, j < k → cellAt' cells j = anyP := by
  constructor
  · rintro (h | ⟨h1, h2, h⟩)
    · exact (mk_nil hc k hk).mp h
    · intro j hj
      exact (mk_nil hc (k + 1) (by omega)).mp h j (by omega)
  · intro h
    exact .inl ((mk_nil hc k hk).mpr h)
theorem cl_start {cells : List Str} (hc : Cells cells) : ∀ k, k ≤ cells.length → (Cl cells [0] k = true ↔ At cells [] k)
  | 0, hk => by
    rw [at_nil hc hk]
    show decide (0 ∈ [0]) = true ↔ _
    simp
  | k + 1, hk => by
    have ih := cl_start hc k (by omega)
    rw [at_nil hc (by omega)] at ih
    rw [at_nil hc hk]
    show (decide (k + 1 ∈ [0]) || (Cl cells [0] k && decide (cellAt' cells k = anyP))) = true ↔ _
    rw [show decide (k + 1 ∈ [0]) = false by simp, Bool.false_or, Bool.and_eq_true, ih, decide_eq_true_eq]
    constructor
    · rintro ⟨h1, h2⟩ j hj
      by_cases h : j = k
      · subst h
        exact h2
      · exact h1 j (by omega)
    · intro h
      exact ⟨fun j hj => h j (by omega), h k (by omega)⟩
theorem rawB_mem {cells : List Str} {c : Nat} {acc : List Nat} {k j : Nat} : j ∈ rawB cells c acc k ↔ j ∈ acc ∨ (k < cells.length ∧ cellAt' cells k = anyP ∧ j = k) ∨ (k < cells.length ∧ cellAt' cells k ≠ anyP ∧ takesM (cellAt' cells k) c = true ∧ j = k + 1)
    ∨ (0 < k ∧ (cellAt' cells (k - 1) = digP ∨ cellAt' cells (k - 1) = wordP) ∧ takesM (cellAt' cells (k - 1)) c = true ∧ j = k) := by
  have hA : j ∈ rawA cells c acc k ↔ j ∈ acc ∨ (k < cells.length ∧ cellAt' cells k = anyP ∧ j = k) ∨ (k < cells.length ∧ cellAt' cells k ≠ anyP ∧ takesM (cellAt' cells k) c = true ∧ j = k + 1) := by
    unfold rawA
    by_cases h1 : k < cells.length
    · by_cases h2 : cellAt' cells k = anyP
      · rw [if_pos (by simp [h1, h2])]
        simp [h1, h2]
      · rw [if_neg (by simp [h2])]
        by_cases h3 : takesM (cellAt' cells k) c = true
        · rw [if_pos (by simp [h1, h3])]
          simp [h1, h2, h3]
        · rw [if_neg (by simp [h3])]
          simp [h2, h3]
    · rw [if_neg (by simp [h1]), if_neg (by simp [h1])]
      simp [h1]
  have hT : rawT cells c k = true ↔ 0 < k ∧ (cellAt' cells (k - 1) = digP ∨ cellAt' cells (k - 1) = wordP) ∧ takesM (cellAt' cells (k - 1)) c = true := by
    unfold rawT
    simp only [Bool.and_eq_true, Bool.or_eq_true, decide_eq_true_eq]
    exact and_assoc
  unfold rawB
  by_cases h : rawT cells c k = true
  · rw [if_pos h, List.mem_append, hA, List.mem_singleton]
    have h' := hT.mp h
    constructor
    · rintro ((h1 | h1) | h1)
      · exact .inl h1
      · rcases h1 with h1 | h1
        · exact .inr (.inl h1)
        · exact .inr (.inr (.inl h1))
      · exact .inr (.inr (.inr ⟨h'.1, h'.2.1, h'.2.2, h1⟩))
    · rintro (h1 | h1 | h1 | h1)
      · exact .inl (.inl h1)
      · exact .inl (.inr (.inl h1))
      · exact .inl (.inr (.inr h1))
      · exact .inr h1.2.2.2
  · rw [if_neg h, hA]
    constructor
    · rintro (h1 | h1 | h1)
      · exact .inl h1
      · exact .inr (.inl h1)
      · exact .inr (.inr (.inl h1))
    · rintro (h1 | h1 | h1 | h1)
      · exact .inl h1
      · exact .inr (.inl h1)
      · exact .inr (.inr h1)
      · exact absurd (hT.mpr ⟨h1.1, h1.2.1, h1.2.2.1⟩) h
theorem raw_fold {cells : List Str} {c : Nat} {j : Nat} : ∀ (ps acc : List Nat), j ∈ ps.foldl (rawB cells c) acc ↔ j ∈ acc ∨ ∃ k ∈ ps, j ∈ rawB cells c [] k
  | [], acc => by simp
  | k :: r, acc => by
    rw [List.foldl_cons, raw_fold r]
    have h1 := rawB_mem (cells := cells) (c := c) (acc := acc) (k := k) (j := j)
    have h2 := rawB_mem (cells := cells) (c := c) (acc := []) (k := k) (j := j)
    rw [h1]
    constructor
    · rintro ((h | h) | ⟨b, hb, h⟩)
      · exact .inl h
      · exact .inr ⟨k, List.mem_cons_self, h2.mpr (.inr h)⟩
      · exact .inr ⟨b, List.mem_cons_of_mem _ hb, h⟩
    · rintro (h | ⟨b, hb, h⟩)
      · exact .inl (.inl h)
      · rcases List.mem_cons.mp hb with rfl | hb
        · rcases h2.mp h with h | h
          · cases h
          · exact .inl (.inr h)
        · exact .inr ⟨b, hb, h⟩
theorem raw_mem {cells : List Str} {c : Nat} {ps : List Nat} {j : Nat} : j ∈ rawM cells c ps ↔ ∃ k ∈ ps, (k < cells.length ∧ cellAt' cells k = anyP ∧ j = k) ∨ (k < cells.length ∧ cellAt' cells k ≠ anyP ∧ takesM (cellAt' cells k) c = true ∧ j = k + 1)
    ∨ (0 < k ∧ (cellAt' cells (k - 1) = digP ∨ cellAt' cells (k - 1) = wordP) ∧ takesM (cellAt' cells (k - 1)) c = true ∧ j = k) := by
  unfold rawM
  rw [raw_fold]
  constructor
  · rintro (h | ⟨k, hk, h⟩)
    · cases h
    · rcases rawB_mem.mp h with h | h
      · cases h
      · exact ⟨k, hk, h⟩
  · rintro ⟨k, hk, h⟩
    exact .inr ⟨k, hk, rawB_mem.mpr (.inr h)⟩
/-- a cell that is not any signs and takes c: one position on -/
theorem piece_one {p : Str} {c : Nat} (h : isOpen p = true ∨ ∃ x : Nat, p = ⟨#[x]⟩) (ht : takesM p c = true) : piece p [c] := by
  rcases h with h | ⟨x, rfl⟩
  · rcases isOpen_iff.mp h with e | e | e
    · refine (piece_rep (.inl e)).mpr ⟨by simp, fun d hd => ?_⟩
      rw [List.mem_singleton.mp hd, ← takes_rep (.inl e)]
      exact ht
    · refine (piece_rep (.inr e)).mpr ⟨by simp, fun d hd => ?_⟩
      rw [List.mem_singleton.mp hd, ← takes_rep (.inr e)]
      exact ht
    · rw [e, takes_any] at ht
      cases ht
  · rw [takes_sign] at ht
    rw [of_decide_eq_true ht]
    exact piece_sign.mpr rfl
/-- one sign more moves the positions as the pieces say -/
theorem cl_step {cells : List Str} (hc : Cells cells) {t : List Nat} {c : Nat} {S : List Nat} (hS : ∀ k, k ∈ S ↔ k ≤ cells.length ∧ At cells t k) : ∀ k, k ≤ cells.length → (Cl cells (rawM cells c S) k = true ↔ At cells (t ++ [c]) k) := by
  -- what a position gives
  have sound : ∀ j, j ≤ cells.length → j ∈ rawM cells c S → At cells (t ++ [c]) j := by
    intro j hj h
    obtain ⟨k, hk, h⟩ := raw_mem.mp h
    obtain ⟨hkn, hA⟩ := (hS k).mp hk
    rcases h with ⟨h1, h2, rfl⟩ | ⟨h1, h2, h3, rfl⟩ | ⟨h1, h2, h3, rfl⟩
    · rcases hA with hA | ⟨_, _, hA⟩
      · exact .inr ⟨h1, h2, mk_more (mk_any hA h2) h2⟩
      · exact .inr ⟨h1, h2, mk_more hA h2⟩
    · rcases hA with hA | ⟨_, h4, _⟩
      · exact .inl ⟨t, [c], rfl, hA, piece_one (hc.at h1) h3⟩
      · exact absurd h4 h2
    · rcases hA with hA | ⟨h4, h5, hA⟩
      · obtain ⟨m, rfl⟩ : ∃ m, j = m + 1 := ⟨j - 1, by omega⟩
        obtain ⟨u, v, rfl, hu, hv⟩ := hA
        have e : m + 1 - 1 = m := by omega
        rw [e] at h2 h3
        have hv' := (piece_rep h2).mp hv
        refine .inl ⟨u, v ++ [c], List.append_assoc _ _ _, hu, (piece_rep h2).mpr ⟨by simp, fun d hd => ?_⟩⟩
        rcases List.mem_append.mp hd with hd | hd
        · exact hv'.2 d hd
        · rw [List.mem_singleton.mp hd, ← takes_rep h2]
          exact h3
      · exact .inr ⟨h4, h5, mk_more hA h5⟩
  -- a text that ends with c is there
  have whole : ∀ k, k ≤ cells.length → Mk cells k (t ++ [c]) → Cl cells (rawM cells c S) k = true := by
    intro k
    induction k with
    | zero =>
      intro _ h
      have : t ++ [c] = [] := h
      simp at this
    | succ m ih =>
      rintro hk ⟨u, v, e, hu, hv⟩
      show (decide (m + 1 ∈ rawM cells c S) || (Cl cells (rawM cells c S) m && decide (cellAt' cells m = anyP))) = true
      rcases List.eq_nil_or_concat v with rfl | ⟨v', d, rfl⟩
      · -- an empty piece: any signs
        have ha := (piece_nil (hc.at (by omega))).mp hv
        rw [List.append_nil] at e
        rw [ih (by omega) (e ▸ hu), decide_eq_true ha]
        simp
      · rw [List.concat_eq_append] at e hv
        rw [← List.append_assoc] at e
        obtain ⟨e1, e2⟩ := List.append_inj' e rfl
        have ed : d = c := by simpa using e2.symm
        subst ed
        rcases hc.at (show m < cells.length by omega) with ho | ⟨x, hx⟩
        · rcases isOpen_iff.mp ho with hp | hp | hp
          all_goals first
            | (have hr : cellAt' cells m = digP ∨ cellAt' cells m = wordP := by first | exact .inl hp | exact .inr hp
               have hv2 := (piece_rep hr).mp hv
               have htk : takesM (cellAt' cells m) d = true := by
                 rw [takes_rep hr]
                 exact hv2.2 d (by simp)
               have hin : m + 1 ∈ rawM cells d S := by
                 cases v' with
                 | nil =>
                   refine raw_mem.mpr ⟨m, (hS m).mpr ⟨by omega, .inl ?_⟩, .inr (.inl ⟨by omega, fun z => ?_, htk, rfl⟩)⟩
                   · rw [e1, List.append_nil]
                     exact hu
                   · rw [z] at hr
                     exact hr.elim any_ne_dig any_ne_word
                 | cons y r =>
                   refine raw_mem.mpr ⟨m + 1, (hS (m + 1)).mpr ⟨hk, .inl ⟨u, y :: r, e1, hu, (piece_rep hr).mpr ⟨by simp, fun z hz => hv2.2 z (List.mem_append_left _ hz)⟩⟩⟩, .inr (.inr ⟨by omega, hr, htk, rfl⟩)⟩
               rw [decide_eq_true hin]
               rfl)
            | (have hm : m ∈ S := (hS m).mpr ⟨by omega, .inr ⟨by omega, hp, u, v', e1, hu, by rw [hp]; exact piece_any⟩⟩
               have hin : m ∈ rawM cells d S := raw_mem.mpr ⟨m, hm, .inl ⟨by omega, hp, rfl⟩⟩
               have hcl : Cl cells (rawM cells d S) m = true := by
                 cases m with
                 | zero => exact decide_eq_true hin
                 | succ m' =>
                   show (decide (m' + 1 ∈ rawM cells d S) || _) = true
                   rw [decide_eq_true hin]
                   rfl
               rw [hcl, decide_eq_true hp]
               simp)
        · rw [hx] at hv
          have hv2 := piece_sign.mp hv
          have hv3 : v' = [] ∧ d = x := by
            cases v' with
            | nil => exact ⟨rfl, by simpa using hv2⟩
            | cons y r =>
              have := congrArg List.length hv2
              simp at this
          obtain ⟨rfl, rfl⟩ := hv3
          have hin : m + 1 ∈ rawM cells d S := raw_mem.mpr ⟨m, (hS m).mpr ⟨by omega, .inl (by rw [e1, List.append_nil]; exact hu)⟩, .inr (.inl ⟨by omega, by rw [hx]; exact sign_ne open_any, by rw [hx, takes_sign]; exact decide_eq_true rfl, rfl⟩)⟩
          rw [decide_eq_true hin]
          rfl
  intro k
  induction k with
  | zero =>
    intro hk
    show decide (0 ∈ rawM cells c S) = true ↔ _
    rw [decide_eq_true_eq]
    constructor
    · exact sound 0 hk
    · rintro (h | ⟨h1, h2, h⟩)
      · have := whole 0 hk h
        exact of_decide_eq_true this
      · obtain ⟨u, v, e, hu, hv⟩ := h
        have hu' : u = [] := hu
        subst hu'
        refine raw_mem.mpr ⟨0, (hS 0).mpr ⟨hk, ?_⟩, .inl ⟨h1, h2, rfl⟩⟩
        refine .inr ⟨h1, h2, [], t, rfl, rfl, by rw [h2]; exact piece_any⟩
  | succ m ih =>
    intro hk
    have ih := ih (by omega)
    constructor
    · intro h
      have h' : (decide (m + 1 ∈ rawM cells c S) || (Cl cells (rawM cells c S) m && decide (cellAt' cells m = anyP))) = true := h
      rcases Bool.or_eq_true _ _ ▸ h' with h' | h'
      · exact sound _ hk (of_decide_eq_true h')
      · obtain ⟨h1, h2⟩ := Bool.and_eq_true _ _ ▸ h'
        exact at_closed (ih.mp h1) (of_decide_eq_true h2)
    · rintro (h | ⟨h1, h2, h⟩)
      · exact whole _ hk h
      · obtain ⟨u, v, e, hu, hv⟩ := h
        rcases List.eq_nil_or_concat v with rfl | ⟨v', d, rfl⟩
        · rw [List.append_nil] at e
          exact whole _ hk (e ▸ hu)
        · rw [List.concat_eq_append, ← List.append_assoc] at e
          obtain ⟨e1, e2⟩ := List.append_inj' e rfl
          have hm : m + 1 ∈ S := (hS _).mpr ⟨hk, .inr ⟨h1, h2, u, v', e1, hu, by rw [h2]; exact piece_any⟩⟩
          have hin : m + 1 ∈ rawM cells c S := raw_mem.mpr ⟨m + 1, hm, .inl ⟨h1, h2, rfl⟩⟩
          show (decide (m + 1 ∈ rawM cells c S) || _) = true
          rw [decide_eq_true hin]
          rfl
/-- the positions behind a text -/
def state (cells : List Str) (t : List Nat) : List Nat := t.foldl (movedM cells) (startedM cells)
theorem state_snoc (cells : List Str) (t : List Nat) (c : Nat) : state cells (t ++ [c]) = movedM cells (state cells t) c := by
  unfold state
  rw [List.foldl_append]
  rfl
theorem state_mem {cells : List Str} (hc : Cells cells) (t : List Nat) : ∀ k, k ∈ state cells t ↔ k ≤ cells.length ∧ At cells t k := by
  have key : ∀ (n : Nat) (t : List Nat), t.length = n → ∀ k, k ∈ state cells t ↔ k ≤ cells.length ∧ At cells t k := by
    intro n
    induction n with
    | zero =>
      intro t ht k
      have : t = [] := List.length_eq_zero_iff.mp ht
      subst this
      show k ∈ closedM cells [0] ↔ _
      rw [closed_eq, List.mem_filter, List.mem_range]
      constructor
      · rintro ⟨h1, h2⟩
        exact ⟨by omega, (cl_start hc k (by omega)).mp h2⟩
      · rintro ⟨h1, h2⟩
        exact ⟨by omega, (cl_start hc k h1).mpr h2⟩
    | succ n ih =>
      intro t ht k
      rcases List.eq_nil_or_concat t with rfl | ⟨u, c, rfl⟩
      · cases ht
      · rw [List.concat_eq_append] at ht ⊢
        have hu : u.length = n := by simpa using ht
        rw [state_snoc]
        show k ∈ closedM cells (rawM cells c (state cells u)) ↔ _
        rw [closed_eq, List.mem_filter, List.mem_range]
        constructor
        · rintro ⟨h1, h2⟩
          exact ⟨by omega, (cl_step hc (ih u hu) k (by omega)).mp h2⟩
        · rintro ⟨h1, h2⟩
          exact ⟨by omega, (cl_step hc (ih u hu) k h1).mpr h2⟩
  exact key t.length t rfl
/-- a state is an ascending list of numbers up to n -/
theorem state_filter (cells : List Str) (t : List Nat) : ∃ f : Nat → Bool, state cells t = (List.range (cells.length + 1)).filter f := by
  rcases List.eq_nil_or_concat t with rfl | ⟨u, c, rfl⟩
  · exact ⟨_, closed_eq cells [0]⟩
  · rw [List.concat_eq_append, state_snoc]
    exact ⟨_, closed_eq cells _⟩
theorem filter_eq {n : Nat} {f g : Nat → Bool} (h : ∀ k, k < n → (k ∈ (List.range n).filter f ↔ g k = true)) : (List.range n).filter f = (List.range n).filter g := by
  apply List.filter_congr
  intro k hk
  have h1 := h k (List.mem_range.mp hk)
  rw [List.mem_filter] at h1
  cases hf : f k with
  | true => rw [(h1.mp ⟨hk, hf⟩)]
  | false =>
    cases hg : g k with
    | false => rfl
    | true =>
      have := (h1.mpr hg).2
      rw [hf] at this
      cases this

/-! ### slices of lists; states' lengths -/
theorem cutV_lt {xs : List V} {b : Nat} : cutV xs none (some (b : Int)) = xs.take b := by
  unfold cutV
  rw [HT.sIx_none, HT.sIx_nat, List.drop_zero, Nat.sub_zero]
  by_cases h : b ≤ xs.length
  · rw [Nat.min_eq_left h]
  · rw [Nat.min_eq_right (by omega), List.take_of_length_le (Nat.le_refl _), List.take_of_length_le (by omega)]
theorem cutV_in {xs : List V} {a b : Nat} : cutV xs (some (a : Int)) (some (b : Int)) = (xs.drop a).take (b - a) := by
  unfold cutV
  rw [HT.sIx_nat, HT.sIx_nat]
  by_cases h : a ≤ xs.length
  · rw [Nat.min_eq_left h]
    by_cases h2 : b ≤ xs.length
    · rw [Nat.min_eq_left h2]
    · rw [Nat.min_eq_right (by omega), List.take_of_length_le (by rw [List.length_drop]; exact Nat.le_refl _), List.take_of_length_le (by rw [List.length_drop]; omega)]
  · rw [Nat.min_eq_right (by omega : xs.length ≤ a), List.drop_of_length_le (Nat.le_refl _), List.drop_of_length_le (by omega)]
    simp

theorem signs_cells {ps : List Str} (h : Parts ps) : Cells (cellsM ps) ∧ ∀ c ∈ cellsM ps, c.length ≤ 1000 ∧ okV (.str c) = true := by
  have key : ∀ qs : List Str, (∀ p ∈ qs, isOpen p = true ∨ fixedP p) → ∀ c ∈ cellsM qs, (isOpen c = true ∨ ∃ x : Nat, c = ⟨#[x]⟩) ∧ c.length ≤ 1000 ∧ okV (.str c) = true := by
    intro qs
    induction qs with
    | nil =>
      intro _ c hc
      cases hc
    | cons p qs ih =>
      intro hq c hc
      rcases List.mem_append.mp (show c ∈ cellOf1 p ++ cellsM qs from hc) with hc | hc
      · unfold cellOf1 at hc
        by_cases ho : isOpen p = true
        · rw [if_pos ho, List.mem_singleton] at hc
          subst hc
          have := open_len ho
          exact ⟨.inl ho, by omega, open_ok ho⟩
        · rw [if_neg ho] at hc
          have hf : fixedP p := (hq p List.mem_cons_self).resolve_left ho
          obtain ⟨x, hx, rfl⟩ := List.mem_map.mp hc
          have := sign_lt (hf.1 x hx)
          exact ⟨.inr ⟨x, rfl⟩, by show (1 : Nat) ≤ 1000; decide, okV_str1 (by omega)⟩
      · exact ih (fun q h => hq q (List.mem_cons_of_mem _ h)) c hc
  exact ⟨fun c hc => (key ps h.each c hc).1, fun c hc => (key ps h.each c hc).2⟩
theorem state_len (cells : List Str) (t : List Nat) : (state cells t).length ≤ cells.length + 1 := by
  obtain ⟨f, hf⟩ := state_filter cells t
  rw [hf]
  have := List.length_filter_le f (List.range (cells.length + 1))
  rw [List.length_range] at this
  exact this
theorem okV_ns (ps : List Nat) : ∀ v ∈ ps.map vN, okV v = true := fun v h => by
  obtain ⟨i, _, rfl⟩ := List.mem_map.mp h
  rfl
theorem eqF_ns (xs ys : List Nat) : eqF (xs.map vN) (ys.map vN) = decide (xs = ys) := by
  have h := eqF_ints (xs.map fun k : Nat => (k : Int)) (ys.map fun k : Nat => (k : Int))
  rw [List.map_map, List.map_map] at h
  rw [show xs.map vN = xs.map (V.int ∘ fun k : Nat => (k : Int)) from rfl, show ys.map vN = ys.map (V.int ∘ fun k : Nat => (k : Int)) from rfl, h]
  congr 1
  apply propext
  constructor
  · intro e
    exact (List.map_inj_right fun a b h => by omega).mp e
  · intro e
    rw [e]
/-- a new object that stands beside the pool -/
theorem fresh_ne {p l : Addr} {H : Hp} {o : HO} (hp : H p = some o) (hl : H l = none) : l ≠ p := fun z => by
  rw [z, hp] at hl
  cases hl

/-! ### Form: made of parts that are allowed, told, asked -/
theorem tup_at {xs : List V} {k : Nat} {v : V} (h : xs[k]? = some v) : atI xs (k : Int) = some v := by
  have hk := (List.getElem?_eq_some_iff.mp h).1
  unfold atI ixN
  rw [if_pos (by omega), if_pos (by omega)]
  exact h

theorem str_get {ps : List Str} {k : Nat} {p : Str} (h : ps[k]? = some p) : (ps.map V.str)[k]? = some (.str p) := by
  rw [List.getElem?_map, h]
  rfl
/-- of parts that make a form each one is allowed where it stands -/
def spAllowed (K : PySem.W.Frag) : Sp := fun vs H Q _ => ∃ (t : Addr) (ps : List Str) (i : Nat), vs = [.ref t, .int (i : Int)] ∧ SqT K H t (ps.map V.str) ∧ Parts ps ∧ ps.length ≤ 4 ∧ i < ps.length ∧ RetV (.bl true) H Q
theorem ok__is_allowed {f : Addr} {fd : FuncData} (F : Fun K "_is_allowed" "_is_allowed" s__is_allowed f fd) (T : Txt K mg a_FIELDS a_OPEN_PARTS C_Both C_Either C_Form C_Gluer C_Keeper C_Rule) (D_is_line : Df P w K mg base "is_line" ["thing"] 1 (spIsLine K)) : FnOk P w K mg base CX0 2 f fd ["parts", "at"] (spAllowed K) := by
  refine F.ok sc__is_allowed (fun vs H Q E h => ?_) (fun cdv A outer s0 H vs Q E hr h => ?_)
  · obtain ⟨t, ps, i, rfl, _⟩ := h
    rfl
  · obtain ⟨t, ps, i, rfl, hT, hP, h4, hi, q⟩ := h
    refine ⟨_, (pss_cons (ps_set (i := 2) sc__is_allowed.nd rfl (Or.inl rfl) (pe_ix ix_tup (pv 0) (pv 1) (fun _ _ => rfl)))
      (pss_cons (ps_if (PW.pt (pw_or (pt_cmpR op_ge (pv 1) (pe_cst T.c_MOST_PARTS (by rfl)) (nomark _)) (pw_or1 (pt_not (pt_val (pe_callB call_isi (by rfl) T.n_isinstance (by decide +kernel) (pa_cons (pv 2) (pa_cons (pe_bltn (v := .ty "str") (by rfl) T.n_str (by decide +kernel) rfl) pa_nil))))))))
      (pss_one (ps_ret pe_bl))
      pss_nil)
      (pss_cons (ps_if (pt_cmpR op_eq (pv 2) (pe_cst T.c_ANY_SIGNS (by rfl)) (nomark _))
      (pss_one (ps_ret (pe_cmpR op_notIn_seq (pv 2) (pe_slice sl_tup (pv 0) po_none (po_some (pv 1))) (by rfl))))
      pss_nil)
      (pss_cons (ps_if (pt_cmpR op_in_seq (pv 2) (pe_cst T.c_OPEN_PARTS (by rfl)) (by rfl))
      (pss_one (ps_ret pe_bl))
      pss_nil)
      (pss_cons (ps_if (PW.pt (pw_and (pt_cmpR op_gt (pv 1) pe_int (nomark _)) (pw_and1 (pt_cmpR op_notIn_seq (pe_ix ix_tup (pv 0) (pe_op op_sub (pv 1) pe_int) (fun _ _ => rfl)) (pe_cst T.c_OPEN_PARTS (by rfl)) (by rfl)))))
      (pss_one (ps_ret pe_bl))
      pss_nil)
      (pss_one (ps_ret (pe_and (pe_df D_is_line (hr.mono (by decide)) (by rfl) (pa_cons (pv 2) pa_nil)) (pe_one (pe_cmpR op_le (pe_callB call_len_str (by rfl) T.n_len PySem.boot_len (pa_cons (pv 2) pa_nil)) (pe_cst T.c_MOST_SIGNS (by rfl)) (nomark _))))))))))), ?_⟩
    have hp := cellAt_get hi
    generalize cellAt' ps i = p at hp
    have hpe := hP.each p (List.mem_of_getElem? hp)
    refine q_asg (ev_op (ev_var rfl) (ev_var rfl) (rv_ixT hT (tup_at (str_get hp)))) fun H1 e1 => ?_
    refine q_when (b := false) (et_is (et_or (et_test (ev_op (ev_var rfl) ev_c rv_I0)) fun _ => et_not (et_B (ev_isi (ev_var rfl) (.base (.str p)) (b := true) (by decide +kernel)))) (by rw [decide_eq_false (by omega)]; rfl)) (fun z => by cases z) (fun _ H2 e2 => ?_)
    have hT2 := ex_t (e1.trans e2) hT
    refine q_when (b := decide (p = anyP)) (et_test (ev_op (ev_var rfl) ev_c rv_eqS)) (fun hb H3 e3 => ?_) (fun hb H3 e3 => ?_)
    · have hpa := of_decide_eq_true hb
      subst hpa
      have hno : anyP ∉ ps.take i := fun hm => by
        obtain ⟨j, hj⟩ := List.mem_iff_getElem?.mp hm
        have hji : j < i := by
          have := (List.getElem?_eq_some_iff.mp hj).1
          rw [List.length_take] at this
          omega
        rw [List.getElem?_take_of_lt hji] at hj
        have := hP.one j i hj hp
        omega
      refine s_ret (v := .bl (!inV (.str anyP) ((ps.take i).map V.str))) (fun H4 e4 Q' q' => ?_) fun H4 e4 => ?_
      · refine ⟨_, rfl, _, rfl, _, rfl, _, rfl, t, ps.map V.str, rfl, ex_t (e3.trans e4) hT2, ?_, fun r hr0 => ?_⟩
        · rintro ⟨_, he⟩
          rw [HT.sIx_nat, List.length_map] at he
          omega
        · refine ⟨r, _, rfl, .inr (st_of upd_same), rfl, ?_, ?_⟩
          · rw [cutV_lt, ← List.map_take]
            exact flat_str _
          · rw [cutV_lt, ← List.map_take]
            exact q' _ (Ex.new hr0)
      · rw [inV_str, decide_eq_false hno]
        exact q H4 (((e1.trans e2).trans e3).trans e4)
    · have e13 := (e1.trans e2).trans e3
      refine q_when (b := isOpen p) (et_test (ev_op (ev_var rfl) ev_c (rv_isT T.o_OPEN_PARTS.at_ rfl rfl))) (fun hc H4 e4 => ?_) (fun hc H4 e4 => ?_)
      · exact s_ret ev_c fun H5 e5 => q H5 ((e13.trans e4).trans e5)
      · have hf : fixedP p := hpe.resolve_left (by rw [hc]; decide)
        have hT4 := ex_t (e3.trans e4) hT2
        refine q_when (b := false) (et_is (et_and (a := decide (0 < i)) (et_test (ev_is (ev_op (ev_var rfl) ev_c rv_I0) (congrArg V.bl gt_zero))) (b := false) fun hd => ?_) (by simp)) (fun z => by cases z) (fun _ H5 e5 => ?_)
        · have hi0 := of_decide_eq_true hd
          have hq := cellAt_get (ps := ps) (k := i - 1) (by omega)
          have ho : isOpen (cellAt' ps (i - 1)) = true := by
            rcases hP.adj (i - 1) _ p hq (by rw [show i - 1 + 1 = i by omega]; exact hp) with h | h
            · exact h
            · rw [h] at hc
              cases hc
          refine et_test (ev_is (ev_op (ev_op (ev_var rfl) (ev_op (ev_var rfl) ev_c rv_I0) (rv_ixT hT4 (by
            rw [show (i : Int) - 1 = ((i - 1 : Nat) : Int) by omega]
            exact tup_at (str_get hq)))) ev_c (rv_niT T.o_OPEN_PARTS.at_ rfl rfl)) ?_)
          show V.bl (!isOpen (cellAt' ps (i - 1))) = V.bl false
          rw [ho]
          rfl
        · have hln : isLn p = true := by
            unfold isLn
            have h1 := hf.2.1
            rw [decide_eq_true (by omega), Bool.true_and]
            exact List.all_eq_true.mpr fun c hc => decide_eq_true (hf.1 c hc)
          have h4' := hf.2.2
          refine s_ret (v := .bl (true && true)) (ev_andV (ev_call (z := .bl true) (ea_cons (ev_var rfl) ea_nil) fun H6 e6 Q' q' E' => ⟨_, rfl, .inl ⟨p, rfl, by omega, by rw [hln]; exact q'⟩⟩) fun _ => ev_is (ev_op (ev_lenS (ev_var rfl) (by omega)) ev_c rv_I0) (congrArg V.bl (decide_eq_true (by show (p.length : Int) ≤ 4; omega)))) fun H6 e6 => q H6 (((e13.trans e4).trans e5).trans e6)
/-- a Form of these parts -/
theorem kPC : ¬ (("_cells" : Str) = "_parts") := by decide +kernel
def formF (t c : Addr) : List (Str × V) := putF "_cells" (.ref c) (putF "_parts" (.ref t) [])
theorem formF_parts (t c : Addr) : (formF t c).lookup ("_parts" : Str) = some (.ref t) := by
  unfold formF
  rw [lookup_putF, if_neg (fun z => kPC z.symm), lookup_putF, if_pos rfl]
theorem formF_cells (t c : Addr) : (formF t c).lookup ("_cells" : Str) = some (.ref c) := by
  unfold formF
  rw [lookup_putF, if_pos rfl]
theorem formF_no (t c : Addr) {m : Str} (h1 : ¬ m = "_cells") (h2 : ¬ m = "_parts") : (formF t c).lookup m = none := by
  unfold formF
  rw [lookup_putF, if_neg h1, lookup_putF, if_neg h2]
  all_goals rfl
def FormAt (C : Addr) (H : Hp) (a : Addr) (ps : List Str) : Prop := ∃ dx t c : Addr, H a = some (.ins C dx (formF t c)) ∧ H t = some (.tup (ps.map V.str)) ∧ H c = some (.lst ((cellsM ps).map V.str))
theorem FormAt.ex {C : Addr} {H H' : Hp} {a : Addr} {ps : List Str} (h : FormAt C H a ps) (e : Ex H H') : FormAt C H' a ps := by
  obtain ⟨dx, t, c, h1, h2, h3⟩ := h
  exact ⟨dx, t, c, e _ _ h1, e _ _ h2, e _ _ h3⟩

/-- __init__, behind the star: self and the tuple of the parts -/
def spFormI (C : Addr) : Sp := fun vs H Q _ => ∃ (a t dx : Addr) (ps : List Str), vs = [.ref a, .ref t] ∧ H a = some (.ins C dx []) ∧ H t = some (.tup (ps.map V.str)) ∧ Parts ps ∧ 1 ≤ ps.length ∧ ps.length ≤ 4 ∧
  ∀ H', Ex (hide a H) H' → FormAt C H' a ps → Q .non H'
def spForm (C : Addr) : Sp := fun vs H Q E => ∃ ws rest, vs = ws ++ rest ∧ ws.length = ["self"].length ∧ rest.length ≤ sizeLine ∧ ∀ p, H p = Option.none → spFormI C (ws ++ [V.ref p]) (upd H p (.tup rest)) Q E
theorem ok_Form___init__ {f : Addr} {fd : FuncData} (F : Fun K "__init__" "Form.__init__" s_Form___init__ f fd) (T : Txt K mg a_FIELDS a_OPEN_PARTS C_Both C_Either C_Form C_Gluer C_Keeper C_Rule) (D__is_allowed : Df P w K mg base "_is_allowed" ["parts", "at"] 2 (spAllowed K)) (D_cells_of__t : Df P w K mg base "cells_of" ["parts"] 1 (spCellsT K)) :
    FnR P w K mg base CX0 3 f (spForm C_Form) := by
  obtain ⟨oc, od, kV, doc, pm, an, cdv, ct, osl, rfl, lk, hcd⟩ := F.ex
  refine fn_star (ps := ["self"]) (pv := "parts") lk hcd sc_Form___init__ cxUp_none (bind_star1 (B := fun us => bindArgs (PySem.W.fnOf "__init__" "Form.__init__" (defArgs s_Form___init__) (defBody s_Form___init__) (defScope s_Form___init__) .none kV doc pm an cdv ct) ⟨us, []⟩) (p1 := "self") (pv := "parts") (fun a => rfl) (fun a r rs => rfl)) (fun A outer s0 H vs Q E hr h => ?_)
  obtain ⟨a, t, dx, ps, rfl, ha, ht, hP, h1, h4, q⟩ := h
  refine ⟨_, ((pss_cons (ps_if (pt_cmpR op_eq (pe_callB call_len_seq (by rfl) T.n_len PySem.boot_len (pa_cons (pv 1) pa_nil)) pe_int (nomark _))
      (pss_one ps_never)
      pss_nil)
      (pss_cons (ps_for PassesOwn.never rfl (pi_range1 (by rfl) T.n_range (pa_cons (pe_callB call_len_seq (by rfl) T.n_len PySem.boot_len (pa_cons (pv 1) pa_nil)) pa_nil)) (pg_name (i := 2) sc_Form___init__.nd rfl (Or.inl rfl))
      (pss_one (ps_if (pt_not (pt_val (pe_df D__is_allowed (hr.mono (by decide)) (by rfl) (pa_cons (pv 1) (pa_cons (pv 2) pa_nil)))))
      (pss_one ps_never)
      pss_nil)))
      (pss_cons (ps_fld (pv 0) (pv 1) rfl)
      (pss_one (ps_fld (pv 0) (pe_df D_cells_of__t (hr.mono (by decide)) (by rfl) (pa_cons (pv 1) pa_nil)) rfl)))))).nox, ?_⟩
  have nat : a ≠ t := ne_of ha ht (by intro z; cases z)
  refine q_when (b := decide (((ps.map V.str).length : Int) = 0)) (et_test (ev_op (fun H1 e1 Q' q' => ⟨_, rfl, t, ps.map V.str, rfl, .inr (st_of (e1 _ _ ht)), q' H1 (Ex.refl _)⟩) ev_c rv_eqI)) (fun hb H1 e1 => ?_) (fun hb H1 e1 => ?_)
  · have := of_decide_eq_true hb
    rw [List.length_map] at this
    omega
  have ht1 := e1 _ _ ht
  refine q_forR1 (n := ((ps.map V.str).length : Int)) (fun H2 e2 Q' q' => ⟨_, rfl, t, ps.map V.str, rfl, .inr (st_of (e2 _ _ ht1)), q' H2 (Ex.refl _)⟩) (by rw [List.length_map]; omega) (fun i σ' H' => ∃ y : Option V, σ' = [some (.ref a), some (.ref t), y] ∧ Ex H1 H') (fun H2 e2 => ⟨none, rfl, e2⟩) ?_ ?_
  · rintro i σ' H2 hi ⟨y, rfl, e2⟩
    rw [List.length_map] at hi
    refine s_when (b := false) (et_is (et_not (et_B (ev_call (z := .bl true) (ea_cons (ev_var rfl) (ea_cons (ev_var rfl) ea_nil)) fun H3 e3 Q' q' E' => ⟨t, ps, i, rfl, st_of (e3 _ _ (e2 _ _ ht1)), hP, h4, by omega, q'⟩))) rfl) (fun z => by cases z) (fun _ H3 e3 => ⟨_, rfl, e2.trans e3⟩)
  · rintro σ' H2 ⟨y, rfl, e2⟩
    have ha2 := e2 _ _ (e1 _ _ ha)
    have ht2 := e2 _ _ ht1
    refine ⟨_, rfl, _, rfl, a, C_Form, dx, [], rfl, ha2, T.k_Form, T.a_Form__parts, by decide, ?_⟩
    have ht3 : upd H2 a (.ins C_Form dx (putF "_parts" (.ref t) [])) t = some (.tup (ps.map V.str)) := by
      rw [upd_ne nat.symm]
      exact ht2
    refine ⟨_, rfl, t, ps, rfl, st_of ht3, by omega, fun p hp => by have := hP.len p hp; omega, fun c H3 hc0 e3 h3 => ?_⟩
    have ha3 : H3 a = some (.ins C_Form dx (putF "_parts" (.ref t) [])) := e3 _ _ upd_same
    have nca : c ≠ a := fun z => by
      rw [z, upd_same] at hc0
      cases hc0
    refine ⟨_, rfl, a, C_Form, dx, _, rfl, ha3, T.k_Form, T.a_Form__cells, by
      have := length_putF ("_parts" : Str) (.ref t) []
      simp only [List.length_nil] at this
      omega, q _ ?_ ⟨dx, t, c, upd_same, ?_, ?_⟩⟩
    · intro b o hb
      obtain ⟨nb, hb⟩ := hide_some hb
      rw [upd_ne nb]
      exact e3 _ _ (by rw [upd_ne nb]; exact e2 _ _ (e1 _ _ hb))
    · rw [upd_ne nat.symm]
      exact e3 _ _ ht3
    · rw [upd_ne nca]
      exact h3
/-- parts() -/
def spParts (C : Addr) : Sp := fun vs H Q _ => ∃ (a : Addr) (ps : List Str), vs = [.ref a] ∧ FormAt C H a ps ∧ ∀ t H', Ex H H' → H t = some (.tup (ps.map V.str)) → Q (.ref t) H'
theorem ok_Form_parts {f : Addr} {fd : FuncData} (F : Fun K "parts" "Form.parts" s_Form_parts f fd) (T : Txt K mg a_FIELDS a_OPEN_PARTS C_Both C_Either C_Form C_Gluer C_Keeper C_Rule) : FnOk P w K mg base CX0 1 f fd ["self"] (spParts C_Form) := by
  refine F.ok sc_Form_parts (fun vs H Q E h => ?_) (fun cdv A outer s0 H vs Q E hr h => ?_)
  · obtain ⟨a, ps, rfl, _⟩ := h
    rfl
  · obtain ⟨a, ps, rfl, ⟨dx, t, c, h1, h2, h3⟩, q⟩ := h
    refine ⟨_, (pss_one (ps_ret (pe_fld (pv 0) rfl))), ?_⟩
    exact ⟨_, rfl, a, C_Form, dx, _, _, rfl, h1, T.k_Form, T.a_Form__parts, formF_parts t c, q t H (Ex.refl _) h2⟩

/-- line in form -/
def inForm (ps : List Str) (z : Str) : Bool := isLn z && decide ((cellsM ps).length ∈ state (cellsM ps) z.cps.toList)
theorem state_nil (cells : List Str) (t : List Nat) : ∀ u, state cells t = [] → state cells (t ++ u) = []
  | [], h => by rw [List.append_nil]; exact h
  | c :: u, h => by
    have e : t ++ c :: u = (t ++ [c]) ++ u := by simp
    rw [e]
    refine state_nil cells (t ++ [c]) u ?_
    rw [state_snoc, h]
    unfold movedM
    rw [closed_eq, List.filter_eq_nil_iff]
    have hr : rawM cells c [] = [] := rfl
    rw [hr]
    intro k _
    have : ∀ k, Cl cells [] k = false := by
      intro k
      induction k with
      | zero => rfl
      | succ j ih =>
        show (decide (j + 1 ∈ ([] : List Nat)) || (Cl cells [] j && decide (cellAt' cells j = anyP))) = false
        rw [ih]
        simp
    rw [this k]
    simp
theorem tFld_ev {σ : L2.St} {H : Hp} {i : Nat} {a C dx : Addr} {fs : List (Str × V)} {f : Str} {v : V} (hi : σ[i]? = some (some (.ref a))) (ha : H a = some (.ins C dx fs)) (hc : Cls K C) (hn : NoAttr K C f) (hl : fs.lookup f = some v) : Ev (tFld K (tVar i) f) σ H v := fun H1 e Q q =>
  ⟨_, hi, a, C, dx, fs, v, rfl, e _ _ ha, hc, hn, hl, q H1 (Ex.refl _)⟩
def spIn (C : Addr) : Sp := fun vs H Q _ => ∃ (a : Addr) (ps : List Str) (z : Str), vs = [.ref a, .str z] ∧ FormAt C H a ps ∧ Parts ps ∧ ps.length ≤ 4 ∧ z.length ≤ 1000 ∧ RetV (.bl (inForm ps z)) H Q
theorem ok_Form___contains__ {f : Addr} {fd : FuncData} (F : Fun K "__contains__" "Form.__contains__" s_Form___contains__ f fd) (T : Txt K mg a_FIELDS a_OPEN_PARTS C_Both C_Either C_Form C_Gluer C_Keeper C_Rule) (D_is_line : Df P w K mg base "is_line" ["thing"] 1 (spIsLine K)) (D_started : Df P w K mg base "started" ["cells"] 2 (spStarted K))
    (D_moved : Df P w K mg base "moved" ["cells", "positions", "sign"] 2 (spMoved K)) (D_is_done : Df P w K mg base "is_done" ["cells", "positions"] 1 (spIsDone K)) : FnOk P w K mg base CX0 3 f fd ["self", "line"] (spIn C_Form) := by
  refine F.ok sc_Form___contains__ (fun vs H Q E h => ?_) (fun cdv A outer s0 H vs Q E hr h => ?_)
  · obtain ⟨a, ps, z, rfl, _⟩ := h
    rfl
  · obtain ⟨a, ps, z, rfl, ⟨dx, t, c, h1, h2, h3⟩, hP, h4, hz, q⟩ := h
    refine ⟨_, (pss_cons (ps_if (pt_not (pt_val (pe_df D_is_line (hr.mono (by decide)) (by rfl) (pa_cons (pv 1) pa_nil))))
      (pss_one (ps_ret pe_bl))
      pss_nil)
      (pss_cons (ps_set (i := 2) sc_Form___contains__.nd rfl (Or.inl rfl) (pe_df D_started (hr.mono (by decide)) (by rfl) (pa_cons (pe_fld (pv 0) rfl) pa_nil)))
      (pss_cons (ps_for PassesOwn.never rfl (pi_str (pv 1)) (pg_name (i := 3) sc_Form___contains__.nd rfl (Or.inl rfl))
      (pss_cons (ps_set (i := 2) sc_Form___contains__.nd rfl (Or.inl rfl) (pe_df D_moved (hr.mono (by decide)) (by rfl) (pa_cons (pe_fld (pv 0) rfl) (pa_cons (pv 2) (pa_cons (pv 3) pa_nil)))))
      (pss_one (ps_if (pt_cmpR op_eq (pe_callB call_len_seq (by rfl) T.n_len PySem.boot_len (pa_cons (pv 2) pa_nil)) pe_int (nomark _))
      (pss_one (ps_ret pe_bl))
      pss_nil))))
      (pss_one (ps_ret (pe_df D_is_done (hr.mono (by decide)) (by rfl) (pa_cons (pe_fld (pv 0) rfl) (pa_cons (pv 2) pa_nil)))))))), ?_⟩
    unfold inForm at q
    have hcl : (cellsM ps).length ≤ 400 := by
      have := cellsM_len (ps := ps) fun p hp => by have := hP.len p hp; omega
      omega
    have hC := (signs_cells hP).1
    refine q_when (b := !isLn z) (et_not (et_B (ev_call (ea_cons (ev_var rfl) ea_nil) fun H1 e1 Q' q' E' => ⟨_, rfl, .inl ⟨z, rfl, by omega, q'⟩⟩))) (fun hb H1 e1 => ?_) (fun hb H1 e1 => ?_)
    · have hb' : isLn z = false := by
        cases h : isLn z with
        | false => rfl
        | true =>
          rw [h] at hb
          cases hb
      rw [hb'] at q
      exact s_ret ev_c fun H2 e2 => q H2 (e1.trans e2)
    have hb' : isLn z = true := by
      cases h : isLn z with
      | true => rfl
      | false =>
        rw [h] at hb
        cases hb
    rw [hb', Bool.true_and] at q
    have cellsE : ∀ {σ : L2.St} {H'} (_ : Ex H H') (i0 : σ[0]? = some (some (.ref a))), Ev (tFld K (tVar 0) "_cells") σ H' (.ref c) := fun e i0 => tFld_ev i0 (e _ _ h1) T.k_Form T.a_Form__cells (formF_cells t c)
    refine q_asgU (xs := (state (cellsM ps) []).map vN) (fun H2 e2 Q' q' => cellsE (e1.trans e2) rfl H2 (Ex.refl _) _ fun H3 e3 => ⟨c, cellsM ps, rfl, sq_of (e3 _ _ (e2 _ _ (e1 _ _ h3))), by omega, fun p H4 hp e4 h4' => q' p H4 (fresh_back e3 hp) (e3.trans e4) h4'⟩) fun he H2 he0 e2 h2' => ?_
    have e12 := e1.trans e2
    refine q_forS (zt := z) (ev_var rfl) (fun i σ' H' => ∃ (he : Addr) (y : Option V), σ' = [some (.ref a), some (.str z), some (.ref he), y] ∧ Ex H H' ∧ H' he = some (.tup ((state (cellsM ps) (z.cps.toList.take i)).map vN))) (fun H3 e3 => ⟨he, none, rfl, e12.trans e3, e3 _ _ h2'⟩) ?_ ?_
    · rintro i x σ' H3 hx ⟨he, y, rfl, e3, h3'⟩
      have hx' : z.cps.toList[i]? = some x := by
        rw [← hx]
        simp
      have hst : state (cellsM ps) (z.cps.toList.take (i + 1)) = movedM (cellsM ps) (state (cellsM ps) (z.cps.toList.take i)) x := by
        rw [List.take_add_one, hx', ← state_snoc]
        rfl
      have hsl := state_len (cellsM ps) (z.cps.toList.take i)
      refine q_asgU (xs := (state (cellsM ps) (z.cps.toList.take (i + 1))).map vN) (eu_call (ea_cons (cellsE e3 rfl) (ea_cons (ev_var rfl) (ea_cons (ev_var rfl) ea_nil))) fun H5 e5 Q' q' E' => ⟨c, he, cellsM ps, state (cellsM ps) (z.cps.toList.take i), x, rfl, sq_of (e5 _ _ (e3 _ _ h3)), st_of (e5 _ _ h3'), by omega, by omega, fun k hk => ((state_mem hC _ k).mp hk).1, by
        rw [hst] at q'
        exact q'⟩) fun he' H4 he0' e4 h4' => ?_
      have ht4 := h4'
      generalize hS : state (cellsM ps) (z.cps.toList.take (i + 1)) = S at ht4
      refine s_when (b := decide (((S.map vN).length : Int) = 0)) (et_test (ev_op (fun H5 e5 Q' q' => ⟨_, rfl, he', S.map vN, rfl, .inr (st_of (e5 _ _ ht4)), q' H5 (Ex.refl _)⟩) ev_c rv_eqI)) (fun hc H5 e5 => ?_) (fun hc H5 e5 => ⟨he', _, rfl, (e3.trans e4).trans e5, e5 _ _ ht4⟩)
      have hS0 : S = [] := by
        have := of_decide_eq_true hc
        rw [List.length_map] at this
        exact List.length_eq_zero_iff.mp (by omega)
      rw [hS0] at hS
      have hfin : state (cellsM ps) z.cps.toList = [] := by
        have := state_nil (cellsM ps) (z.cps.toList.take (i + 1)) (z.cps.toList.drop (i + 1)) hS
        rw [List.take_append_drop] at this
        exact this
      rw [hfin] at q
      exact s_ret ev_c fun H6 e6 => q H6 (((e3.trans e4).trans e5).trans e6)
    · rintro σ' H3 ⟨he, y, rfl, e3, h3'⟩
      have e0 : z.cps.size = z.cps.toList.length := by simp
      rw [e0, List.take_length] at h3'
      exact s_ret (ev_call (ea_cons (cellsE e3 rfl) (ea_cons (ev_var rfl) ea_nil)) fun H4 e4 Q' q' E' => ⟨c, he, cellsM ps, _, rfl, sq_of (e4 _ _ (e3 _ _ h3)), st_of (e4 _ _ h3'), q'⟩) fun H4 e4 => q H4 (e3.trans e4)

/-! ### a line fits a form just where its cells take it -/
theorem at_left {xs ys : List Str} {k : Nat} (h : k < xs.length) : cellAt' (xs ++ ys) k = cellAt' xs k := by
  unfold cellAt'
  rw [List.getD_eq_getElem?_getD, List.getD_eq_getElem?_getD, List.getElem?_append_left h]
theorem at_right {xs ys : List Str} {k : Nat} : cellAt' (xs ++ ys) (xs.length + k) = cellAt' ys k := by
  unfold cellAt'
  rw [List.getD_eq_getElem?_getD, List.getD_eq_getElem?_getD, List.getElem?_append_right (Nat.le_add_right _ _), Nat.add_sub_cancel_left]
theorem mk_left {xs ys : List Str} : ∀ (k : Nat), k ≤ xs.length → ∀ t, Mk (xs ++ ys) k t ↔ Mk xs k t
  | 0, _, t => Iff.rfl
  | k + 1, h, t => by
    have ih := mk_left (xs := xs) (ys := ys) k (by omega)
    constructor
    · rintro ⟨u, v, e, hu, hv⟩
      exact ⟨u, v, e, (ih u).mp hu, by rw [at_left (by omega)] at hv; exact hv⟩
    · rintro ⟨u, v, e, hu, hv⟩
      exact ⟨u, v, e, (ih u).mpr hu, by rw [at_left (by omega)]; exact hv⟩
theorem mk_app {xs ys : List Str} : ∀ (j : Nat) (t : List Nat), Mk (xs ++ ys) (xs.length + j) t ↔ ∃ u v, t = u ++ v ∧ Mk xs xs.length u ∧ Mk ys j v
  | 0, t => by
    rw [Nat.add_zero, mk_left _ (Nat.le_refl _)]
    constructor
    · intro h
      exact ⟨t, [], (List.append_nil t).symm, h, rfl⟩
    · rintro ⟨u, v, rfl, hu, hv⟩
      have : v = [] := hv
      rw [this, List.append_nil]
      exact hu
  | j + 1, t => by
    have ih := mk_app (xs := xs) (ys := ys) j
    constructor
    · rintro ⟨u, v, rfl, hu, hv⟩
      obtain ⟨a, b, rfl, ha, hb⟩ := (ih u).mp hu
      have hv' : piece (cellAt' ys j) v := (at_right (xs := xs) (ys := ys) (k := j)) ▸ hv
      exact ⟨a, b ++ v, List.append_assoc _ _ _, ha, b, v, rfl, hb, hv'⟩
    · rintro ⟨a, w', rfl, ha, b, v, rfl, hb, hv⟩
      exact ⟨a ++ b, v, (List.append_assoc _ _ _).symm, (ih _).mpr ⟨a, b, rfl, ha, hb⟩, (at_right (xs := xs) (ys := ys) (k := j)).symm ▸ hv⟩
theorem mk_one {p : Str} {t : List Nat} : Mk [p] 1 t ↔ piece p t := by
  constructor
  · rintro ⟨u, v, rfl, hu, hv⟩
    have : u = [] := hu
    rw [this]
    exact hv
  · intro h
    exact ⟨[], t, rfl, rfl, h⟩
theorem mk_signs : ∀ (l t : List Nat), Mk (l.map fun c => (⟨#[c]⟩ : Str)) l.length t ↔ t = l
  | [], t => Iff.rfl
  | c :: l, t => by
    have e : ((c :: l).map fun c => (⟨#[c]⟩ : Str)) = [(⟨#[c]⟩ : Str)] ++ l.map fun c => (⟨#[c]⟩ : Str) := rfl
    rw [e, List.length_cons, Nat.add_comm]
    have h := mk_app (xs := [(⟨#[c]⟩ : Str)]) (ys := l.map fun c => (⟨#[c]⟩ : Str)) l.length t
    rw [show [(⟨#[c]⟩ : Str)].length = 1 from rfl] at h
    rw [h]
    constructor
    · rintro ⟨u, v, rfl, hu, hv⟩
      rw [piece_sign.mp (mk_one.mp hu), (mk_signs l v).mp hv]
      rfl
    · rintro rfl
      exact ⟨[c], l, rfl, mk_one.mpr (piece_sign.mpr rfl), (mk_signs l l).mpr rfl⟩
theorem mk_cell {p : Str} {t : List Nat} : Mk (cellOf1 p) (cellOf1 p).length t ↔ piece p t := by
  unfold cellOf1
  by_cases h : isOpen p = true
  · rw [if_pos h]
    exact mk_one
  · rw [if_neg h]
    have h2 := mk_signs p.cps.toList t
    have e : (signsOf p).length = p.cps.toList.length := by
      unfold signsOf
      rw [List.length_map]
    rw [e]
    refine h2.trans ?_
    unfold piece
    rw [if_neg (fun e => h (isOpen_iff.mpr (.inr (.inr e)))), if_neg (fun e => h (isOpen_iff.mpr (e.elim .inl fun e => .inr (.inl e))))]
theorem mk_cells : ∀ (ps : List Str) (t : List Nat), Mk (cellsM ps) (cellsM ps).length t ↔ Mk ps ps.length t
  | [], t => Iff.rfl
  | p :: ps, t => by
    have e : cellsM (p :: ps) = cellOf1 p ++ cellsM ps := rfl
    have e2 : p :: ps = [p] ++ ps := rfl
    have ih := mk_cells ps
    rw [e, List.length_append, mk_app]
    have h := mk_app (xs := [p]) (ys := ps) ps.length t
    rw [show [p].length = 1 from rfl] at h
    rw [List.length_cons, Nat.add_comm ps.length 1]
    show _ ↔ Mk ([p] ++ ps) (1 + ps.length) t
    rw [h]
    constructor
    · rintro ⟨u, v, rfl, hu, hv⟩
      exact ⟨u, v, rfl, mk_one.mpr (mk_cell.mp hu), (ih v).mp hv⟩
    · rintro ⟨u, v, rfl, hu, hv⟩
      exact ⟨u, v, rfl, mk_cell.mpr (mk_one.mp hu), (ih v).mpr hv⟩
theorem lny_isLn {z : Str} (h : Lny z) : isLn z = !decide (z = ("" : Str)) := by
  unfold isLn
  have h1 : (z.cps.toList.all fun c => decide (c ∈ signsS.cps.toList)) = true := List.all_eq_true.mpr fun c hc => decide_eq_true (h c hc)
  rw [h1, Bool.and_true]
  have hl := str_len z
  by_cases e : z.cps.toList = []
  · rw [decide_eq_true (str_nil.mpr e), decide_eq_false]
    · rfl
    · rw [hl, e]
      simp
  · rw [decide_eq_false (fun w' => e (str_nil.mp w')), decide_eq_true]
    · rfl
    · have := List.length_pos_iff.mpr e
      omega
theorem inForm_fits {ps : List Str} (hP : Parts ps) {z : Str} (hz : Lny z) : inForm ps z = fitsM ps z := by
  have hC := (signs_cells hP).1
  have key : inForm ps z = true ↔ fitsM ps z = true := by
    unfold inForm
    rw [Bool.and_eq_true, decide_eq_true_eq, state_mem hC, fits_iff, lny_isLn hz]
    constructor
    · rintro ⟨h1, _, h2⟩
      refine ⟨fun w' => ?_, ?_⟩
      · rw [decide_eq_true (str_nil.mpr w')] at h1
        cases h1
      · rcases h2 with h2 | ⟨h3, _⟩
        · exact (mk_cells ps _).mp h2
        · omega
    · rintro ⟨h1, h2⟩
      refine ⟨?_, Nat.le_refl _, .inl ((mk_cells ps _).mpr h2)⟩
      rw [decide_eq_false fun w' => h1 (str_nil.mp w')]
      rfl
  cases h : fitsM ps z with
  | true => exact key.mpr h
  | false =>
    cases h2 : inForm ps z with
    | false => rfl
    | true =>
      rw [key.mp h2] at h
      cases h
/-! a Form made of parts -/
def EvF (te : TE) (σ : L2.St) (H : Hp) (C : Addr) (ps : List Str) : Prop := ∀ H1, Ex H H1 → ∀ Q : VK, (∀ a H2, H1 a = none → Ex H1 H2 → FormAt C H2 a ps → Q (.ref a) H2) → te σ H1 Q
theorem evf_make {σ : L2.St} {H : Hp} {C : Addr} {ps : List Str} {ta : TA} {E : XK} (hP : Parts ps) (h1 : 1 ≤ ps.length) (h4 : ps.length ≤ 4) (h : EvA ta σ H (ps.map V.str)) : EvF (tMakeR C (spForm C) E ta) σ H C ps := fun H1 e Q q =>
  h H1 e _ fun H2 e2 => fun x dx hx hdx ne => by
    have hx2 : upd (upd H2 dx (.own x)) x (.ins C dx []) x = some (.ins C dx []) := upd_same
    refine ⟨[.ref x], ps.map V.str, rfl, rfl, sz_of (by rw [List.length_map]; omega), fun p hp => ?_⟩
    have npx : x ≠ p := fun z => by
      rw [← z, hx2] at hp
      cases hp
    refine ⟨x, p, dx, ps, rfl, by rw [upd_ne npx]; exact hx2, upd_same, hP, h1, h4, fun H' e' hF => ⟨rfl, q x H' (fresh_back e2 hx) (fun b o hb => ?_) hF⟩⟩
    have hb2 := e2 _ _ hb
    have nbx : b ≠ x := ne_of_none hb2 hx
    have nbd : b ≠ dx := ne_of_none hb2 hdx
    have hb3 : upd (upd H2 dx (.own x)) x (.ins C dx []) b = some o := by
      rw [upd_ne nbx, upd_ne nbd]
      exact hb2
    have nbp : b ≠ p := ne_of_none hb3 hp
    refine e' b o ?_
    rw [hide_ne nbx, upd_ne nbp]
    exact hb3
def spLawForm (K : PySem.W.Frag) (C : Addr) : Sp := fun vs H Q _ => ∃ (l : Addr) (ps : List Str), vs = [.ref l] ∧ SqL K H l (ps.map V.str) ∧ Parts ps ∧ 1 ≤ ps.length ∧ ps.length ≤ 3 ∧ ∀ a H2, H a = none → Ex H H2 → FormAt C H2 a ps → Q (.ref a) H2
theorem s_retF {te : TE} {σ : L2.St} {H : Hp} {C : Addr} {ps : List Str} {D : Ends} (h : EvF te σ H C ps) (k : ∀ a H1, H a = none → Ex H H1 → FormAt C H1 a ps → D.rt (.ref a) H1) : tRet te D σ H := h H (Ex.refl H) _ k
theorem ok__law_form {f : Addr} {fd : FuncData} (F : Fun K "_law_form" "_law_form" s__law_form f fd) (T : Txt K mg a_FIELDS a_OPEN_PARTS C_Both C_Either C_Form C_Gluer C_Keeper C_Rule) (D_Form___init__ : DfS P w K mg base "Form" C_Form 3 (spForm C_Form)) : FnOk P w K mg base CX0 5 f fd ["parts"] (spLawForm K C_Form) := by
  refine F.ok sc__law_form (fun vs H Q E h => ?_) (fun cdv A outer s0 H vs Q E hr h => ?_)
  · obtain ⟨l, ps, rfl, _⟩ := h
    rfl
  · obtain ⟨l, ps, rfl, hL, hP, h1, h4, q⟩ := h
    refine ⟨_, (pss_cons (ps_if (pt_cmpR op_eq (pe_callB call_len_seq (by rfl) T.n_len PySem.boot_len (pa_cons (pv 0) pa_nil)) pe_int (nomark _))
      (pss_one (ps_ret (pe_mkS D_Form___init__ (hr.mono (by decide)) (by rfl) (pa_cons (pe_ix ix_list (pv 0) pe_int (fun _ _ => rfl)) pa_nil))))
      pss_nil)
      (pss_cons (ps_if (pt_cmpR op_eq (pe_callB call_len_seq (by rfl) T.n_len PySem.boot_len (pa_cons (pv 0) pa_nil)) pe_int (nomark _))
      (pss_one (ps_ret (pe_mkS D_Form___init__ (hr.mono (by decide)) (by rfl) (pa_cons (pe_ix ix_list (pv 0) pe_int (fun _ _ => rfl)) (pa_cons (pe_ix ix_list (pv 0) pe_int (fun _ _ => rfl)) pa_nil)))))
      pss_nil)
      (pss_one (ps_ret (pe_mkS D_Form___init__ (hr.mono (by decide)) (by rfl) (pa_cons (pe_ix ix_list (pv 0) pe_int (fun _ _ => rfl)) (pa_cons (pe_ix ix_list (pv 0) pe_int (fun _ _ => rfl)) (pa_cons (pe_ix ix_list (pv 0) pe_int (fun _ _ => rfl)) pa_nil)))))))), ?_⟩
    have ix : ∀ {σ : L2.St} {H'} (_ : Ex H H') (i0 : σ[0]? = some (some (.ref l))) (k : Nat) (hk : k < ps.length), Ev (tOp (rIxL K) (tVar 0) (tC (.int (k : Int)))) σ H' (.str (cellAt' ps k)) := fun e i0 k hk => ev_op (ev_var i0) ev_c (rv_ixL (ex_l e hL) (cell_at hk))
    have all : ps.map V.str = (List.range ps.length).map fun k => V.str (cellAt' ps k) := by
      apply List.ext_getElem
      · simp
      · intro k hk1 hk2
        rw [List.getElem_map, List.getElem_map, List.getElem_range]
        rw [List.length_map] at hk1
        have := cellAt_get hk1
        rw [List.getElem?_eq_getElem hk1] at this
        rw [Option.some.inj this]
    have test : ∀ {σ : L2.St} {H'} (_ : Ex H H') (i0 : σ[0]? = some (some (.ref l))) (n : Int), EvT (tTest (tOp rEq (tCB (fun xs H Q => ∃ p ys, xs = [.ref p] ∧ (SqL K H p ys ∨ SqT K H p ys) ∧ Q (.int ys.length) H) (tCons (tVar 0) tNil)) (tC (.int n)))) σ H' (decide ((ps.length : Int) = n)) := fun e i0 n => by
      have := et_test (ev_op (ev_lenL (K := K) (ev_var i0) (ex_l e hL)) (ev_c (v := .int n)) rv_eqI)
      rw [List.length_map] at this
      exact this
    refine q_when (test (Ex.refl _) rfl 1) (fun hb H1 e1 => ?_) (fun hb H1 e1 => ?_)
    · have hn : ps.length = 1 := by have := of_decide_eq_true hb; omega
      refine s_retF (evf_make hP h1 (by omega) ?_) fun a H2 ha e2 hF => q a H2 (fresh_back e1 ha) (e1.trans e2) hF
      rw [all, hn]
      exact ea_cons (ix e1 rfl 0 (by omega)) ea_nil
    refine q_when (test e1 rfl 2) (fun hc H2 e2 => ?_) (fun hc H2 e2 => ?_)
    · have hn : ps.length = 2 := by have := of_decide_eq_true hc; omega
      refine s_retF (evf_make hP h1 (by omega) ?_) fun a H3 ha e3 hF => q a H3 (fresh_back (e1.trans e2) ha) ((e1.trans e2).trans e3) hF
      rw [all, hn]
      exact ea_cons (ix (e1.trans e2) rfl 0 (by omega)) (ea_cons (ix (e1.trans e2) rfl 1 (by omega)) ea_nil)
    have e12 := e1.trans e2
    have hn : ps.length = 3 := by
      have := of_decide_eq_false hb
      have := of_decide_eq_false hc
      omega
    refine s_retF (evf_make hP h1 (by omega) ?_) fun a H4 ha e4 hF => q a H4 (fresh_back e12 ha) (e12.trans e4) hF
    rw [all, hn]
    exact ea_cons (ix e12 rfl 0 (by omega)) (ea_cons (ix e12 rfl 1 (by omega)) (ea_cons (ix e12 rfl 2 (by omega)) ea_nil))

def FormR (C : Addr) (ps : List Str) (p : Addr) (H : Hp) : Prop := FormAt C H p ps ∧ Parts ps ∧ 1 ≤ ps.length ∧ ps.length ≤ 4
theorem upF {C : Addr} : Up (FormR C) := fun _ _ _ _ e h => ⟨h.1.ex e, h.2⟩
theorem cells_ne {ps : List Str} (hP : Parts ps) (h : 1 ≤ ps.length) : ∃ c cs, cellsM ps = c :: cs := by
  cases ps with
  | nil => simp at h
  | cons p ps =>
    have e : cellsM (p :: ps) = cellOf1 p ++ cellsM ps := rfl
    rw [e]
    rcases hP.each p List.mem_cons_self with o | f
    · rw [show cellOf1 p = [p] from if_pos o]
      exact ⟨_, _, rfl⟩
    · by_cases o : isOpen p = true
      · rw [show cellOf1 p = [p] from if_pos o]
        exact ⟨_, _, rfl⟩
      · rw [show cellOf1 p = signsOf p from if_neg o]
        have l := f.2.1
        rw [str_len] at l
        unfold signsOf
        cases hz : p.cps.toList with
        | nil =>
          rw [hz] at l
          simp at l
        | cons x xs => exact ⟨_, _, rfl⟩
theorem offF {C : Addr} : Off (FormR C) := fun ps p H D acc r hD refs ne => by
  obtain ⟨⟨dx, t, c, f1, f2, f3⟩, hP, h1, h4⟩ := r
  have nt : t ≠ D := fun z => by
    rw [z, hD] at f2
    cases f2
  have nc : c ≠ D := fun z => by
    rw [z, hD] at f3
    obtain ⟨x, xs, e⟩ := cells_ne hP h1
    rw [e] at f3
    have f4 : acc = V.str x :: xs.map V.str := HO.lst.inj (Option.some.inj f3)
    obtain ⟨r, hr⟩ := refs (V.str x) (by rw [f4]; exact List.mem_cons_self)
    cases hr
  exact ⟨⟨dx, t, c, by rw [hide_ne ne]; exact f1, by rw [hide_ne nt]; exact f2, by rw [hide_ne nc]; exact f3⟩, hP, h1, h4⟩

/-! ### joined patterns -/
inductive Pt
  | f (ps : List Str)
  | n (and : Bool) (l r : Pt)
def Pt.leaves : Pt → Nat
  | .f _ => 1
  | .n _ l r => l.leaves + r.leaves
def Pt.depth : Pt → Nat
  | .f _ => 0
  | .n _ l r => max l.depth r.depth + 1
def Pt.forms : Pt → List (List Str)
  | .f ps => [ps]
  | .n _ l r => l.forms ++ r.forms
def Pt.text : Pt → Str
  | .f ps => Txt.join "" ps
  | .n and l r => (("(" : Str) ++ l.text ++ (if and then " & " else " | ") ++ r.text) ++ ")"
def Pt.holds : Pt → List Bool → Bool
  | .f _, ts => ts.headD false
  | .n and l r, ts => if and then l.holds (ts.take l.leaves) && r.holds (ts.drop l.leaves) else l.holds (ts.take l.leaves) || r.holds (ts.drop l.leaves)
def Pt.in_ : Pt → Str → Bool
  | .f ps, z => inForm ps z
  | .n and l r, z => if and then l.in_ z && r.in_ z else l.in_ z || r.in_ z
def Pt.isN : Pt → Option Bool
  | .f _ => none
  | .n and _ _ => some and
theorem Pt.leaves_pos : ∀ t : Pt, 1 ≤ t.leaves
  | .f _ => Nat.le_refl _
  | .n _ l r => by
    have := l.leaves_pos
    show 1 ≤ l.leaves + r.leaves
    omega
theorem Pt.depth_lt : ∀ t : Pt, t.depth < t.leaves
  | .f _ => Nat.zero_lt_one
  | .n _ l r => by
    have h1 := l.depth_lt
    have h2 := r.depth_lt
    have h3 := l.leaves_pos
    have h4 := r.leaves_pos
    show max l.depth r.depth + 1 < l.leaves + r.leaves
    omega
theorem Pt.forms_len : ∀ t : Pt, t.forms.length = t.leaves
  | .f _ => rfl
  | .n _ l r => by
    show (l.forms ++ r.forms).length = l.leaves + r.leaves
    rw [List.length_append, l.forms_len, r.forms_len]
theorem kOO : ¬ (("_other" : Str) = "_one") := by decide +kernel
def pairF (p q : Addr) : List (Str × V) := putF "_other" (.ref q) (putF "_one" (.ref p) [])
theorem pairF_one (p q : Addr) : (pairF p q).lookup ("_one" : Str) = some (.ref p) := by
  unfold pairF
  rw [lookup_putF, if_neg (fun z => kOO z.symm), lookup_putF, if_pos rfl]
theorem pairF_other (p q : Addr) : (pairF p q).lookup ("_other" : Str) = some (.ref q) := by
  unfold pairF
  rw [lookup_putF, if_pos rfl]
theorem pairF_no (p q : Addr) {m : Str} (h1 : ¬ m = "_other") (h2 : ¬ m = "_one") : (pairF p q).lookup m = none := by
  unfold pairF
  rw [lookup_putF, if_neg h1, lookup_putF, if_neg h2]
  rfl
def clsP (CF CB CE : Addr) : Option Bool → Addr
  | none => CF
  | some true => CB
  | some false => CE
inductive PatAt (CF CB CE : Addr) (H : Hp) : Pt → Addr → Prop
  | f {ps : List Str} {a : Addr} : FormR CF ps a H → PatAt CF CB CE H (.f ps) a
  | n {and : Bool} {l r : Pt} {a dx p q : Addr} : H a = some (.ins (if and = true then CB else CE) dx (pairF p q)) → PatAt CF CB CE H l p → PatAt CF CB CE H r q → PatAt CF CB CE H (.n and l r) a
section
variable {CF CB CE : Addr}
theorem PatAt.ex {H H' : Hp} {t : Pt} {a : Addr} (h : PatAt CF CB CE H t a) (e : Ex H H') : PatAt CF CB CE H' t a := by
  induction h with
  | f h => exact .f (upF _ _ _ _ e h)
  | n h _ _ ih1 ih2 => exact .n (e _ _ h) ih1 ih2
/-- what class it is of -/
theorem PatAt.cls {H : Hp} {t : Pt} {a : Addr} (h : PatAt CF CB CE H t a) : ∃ dx fs, H a = some (.ins (clsP CF CB CE t.isN) dx fs) ∧ ∀ m : Str, ¬ m = "_cells" → ¬ m = "_parts" → ¬ m = "_one" → ¬ m = "_other" → fs.lookup m = none := by
  cases h with
  | f h =>
    obtain ⟨⟨dx, t, c, f1, _, _⟩, _⟩ := h
    exact ⟨dx, _, f1, fun m h1 h2 _ _ => formF_no t c h1 h2⟩
  | @n and l r a dx p q h _ _ =>
    refine ⟨dx, pairF p q, ?_, fun m _ _ h3 h4 => pairF_no p q h4 h3⟩
    cases and <;> exact h
end
/-- Forms told one by one -/
def RetF (CF : Addr) (pss : List (List Str)) (H : Hp) (Q : VK) : Prop := ∀ l us H2, H l = none → Ex H H2 → H2 l = some (.lst us) → Rs (FormR CF) H2 us pss → Q (.ref l) H2
/-- of a pattern of this class, no deeper than d -/
def OfP (CF CB CE : Addr) (k : Option Bool) (d : Nat) (H : Hp) (t : Pt) (a : Addr) : Prop := PatAt CF CB CE H t a ∧ t.isN = k ∧ t.depth ≤ d
def spForms (CF CB CE : Addr) (k : Option Bool) (d : Nat) : Sp := fun vs H Q _ => ∃ (a : Addr) (t : Pt), vs = [.ref a] ∧ OfP CF CB CE k d H t a ∧ t.leaves ≤ 3 ∧ RetF CF t.forms H Q
def spHolds (K : PySem.W.Frag) (CF CB CE : Addr) (k : Option Bool) (d : Nat) : Sp := fun vs H Q _ => ∃ (a b : Addr) (t : Pt) (ts : List Bool), vs = [.ref a, .ref b] ∧ OfP CF CB CE k d H t a ∧ SqL K H b (ts.map V.bl) ∧ ts.length = t.leaves ∧ t.leaves ≤ 3 ∧ RetV (.bl (t.holds ts)) H Q
def spInP (CF CB CE : Addr) (k : Option Bool) (d : Nat) : Sp := fun vs H Q _ => ∃ (a : Addr) (t : Pt) (z : Str), vs = [.ref a, .str z] ∧ OfP CF CB CE k d H t a ∧ z.length ≤ 1000 ∧ RetV (.bl (t.in_ z)) H Q
def spStrP (CF CB CE : Addr) (k : Option Bool) (d : Nat) : Sp := fun vs H Q _ => ∃ (a : Addr) (t : Pt), vs = [.ref a] ∧ OfP CF CB CE k d H t a ∧ t.leaves ≤ 3 ∧ RetV (.str t.text) H Q
theorem join_list (ps : List Str) : (Txt.join "" ps).cps.toList = ps.flatMap fun p => p.cps.toList := by
  have e0 : ("" : Str).cps = #[] := by decide +kernel
  have key : ∀ (l : List Str) (a : Array Nat), (l.foldl (fun acc p => acc ++ ("" : Str).cps ++ p.cps) a).toList = a.toList ++ l.flatMap fun p => p.cps.toList := by
    intro l
    induction l with
    | nil => intro a; simp
    | cons p l ih =>
      intro a
      rw [List.foldl_cons, ih, e0]
      simp
  cases ps with
  | nil => decide +kernel
  | cons p ps =>
    show (ps.foldl (fun acc p => acc ++ ("" : Str).cps ++ p.cps) p.cps).toList = _
    rw [key, List.flatMap_cons]
theorem join_len (ps : List Str) (h : ∀ p ∈ ps, p.length ≤ 8) : (Txt.join "" ps).length ≤ 8 * ps.length := by
  rw [str_len, join_list]
  induction ps with
  | nil => simp
  | cons p ps ih =>
    have h1 := h p List.mem_cons_self
    rw [str_len] at h1
    have ih := ih fun q hq => h q (List.mem_cons_of_mem _ hq)
    rw [List.flatMap_cons, List.length_append, List.length_cons]
    omega
theorem join_ok {ps : List Str} (h : Parts ps) : okV (.str (Txt.join "" ps)) = true := by
  have e : ∀ z : Str, okV (.str z) = z.cps.toList.all fun x => decide (x < 0x110000) := fun z => by
    show z.cps.all _ = _
    rw [← Array.all_toList]
  rw [e, join_list, List.all_eq_true]
  intro c hc
  obtain ⟨p, hp, hcp⟩ := List.mem_flatMap.mp hc
  have := h.okV (.str p) (List.mem_map_of_mem hp)
  rw [e] at this
  exact List.all_eq_true.mp this c hcp
theorem text_len5 {CF CB CE : Addr} {H : Hp} {t : Pt} {a : Addr} (h : PatAt CF CB CE H t a) : t.text.length + 5 ≤ 40 * t.leaves := by
  induction h with
  | @f ps a hF =>
    have := join_len ps fun p hp => by have := hF.2.1.len p hp; omega
    have := hF.2.2.2
    show (Txt.join "" ps).length + 5 ≤ 40 * 1
    omega
  | @n and l r a dx p q h h1 h2 ih1 ih2 =>
    have e : ∀ a b : Str, (a ++ b).length = a.length + b.length := app_len
    show ((("(" : Str) ++ l.text ++ (if and then " & " else " | ") ++ r.text) ++ ")").length + 5 ≤ 40 * (l.leaves + r.leaves)
    rw [e, e, e, e]
    have c1 : ("(" : Str).length = 1 := by decide +kernel
    have c2 : (")" : Str).length = 1 := by decide +kernel
    have c3 : (if and = true then (" & " : Str) else " | ").length = 3 := by cases and <;> decide +kernel
    rw [c1, c2]
    have c4 : (Str.ofString (if and = true then " & " else " | ")).length = 3 := by cases and <;> decide +kernel
    simp only [c3, c4]
    omega
theorem text_len {CF CB CE : Addr} {H : Hp} {t : Pt} {a : Addr} (h : PatAt CF CB CE H t a) : t.text.length ≤ 40 * t.leaves := Nat.le_trans (Nat.le_add_right _ 5) (text_len5 h)
theorem ok_Form_forms {f : Addr} {fd : FuncData} (F : Fun K "forms" "Form.forms" s_Form_forms f fd) (T : Txt K mg a_FIELDS a_OPEN_PARTS C_Both C_Either C_Form C_Gluer C_Keeper C_Rule) : FnOk P w K mg base CX0 1 f fd ["self"] (spForms C_Form C_Both C_Either none 0) := by
  refine F.ok sc_Form_forms (fun vs H Q E h => ?_) (fun cdv A outer s0 H vs Q E hr h => ?_)
  · obtain ⟨a, t, rfl, _⟩ := h
    rfl
  · obtain ⟨a, t, rfl, ⟨hP, hk, hd⟩, h3, q⟩ := h
    refine ⟨_, (pss_one (ps_ret (pe_lst (pa_cons (pv 0) pa_nil)))), ?_⟩
    cases hP with
    | f hF => exact s_retL (el_lst (ea_cons (ev_var rfl) ea_nil) (by simp)) fun l H1 hl e1 h1 => q l _ H1 hl e1 h1 (.cons (upF _ _ _ _ e1 hF) .nil)
    | n _ _ _ => cases hk

theorem ok_Form___str__ {f : Addr} {fd : FuncData} (F : Fun K "__str__" "Form.__str__" s_Form___str__ f fd) (T : Txt K mg a_FIELDS a_OPEN_PARTS C_Both C_Either C_Form C_Gluer C_Keeper C_Rule) : FnOk P w K mg base CX0 1 f fd ["self"] (spStrP C_Form C_Both C_Either none 0) := by
  refine F.ok sc_Form___str__ (fun vs H Q E h => ?_) (fun cdv A outer s0 H vs Q E hr h => ?_)
  · obtain ⟨a, t, rfl, _⟩ := h
    rfl
  · obtain ⟨a, t, rfl, ⟨hP, hk, hd⟩, h3, q⟩ := h
    refine ⟨_, (pss_one (ps_ret (pe_join pe_str (pe_fld (pv 0) rfl)))), ?_⟩
    cases hP with
    | @f ps a hF =>
      obtain ⟨⟨dx, tp, c, f1, f2, f3⟩, hPs, g1, g4⟩ := hF
      have jl := join_len ps fun p hp => by have := hPs.len p hp; omega
      have sl : (ps.map (·.length)).sum ≤ 8 * ps.length := by
        clear jl g1 g4 q f2 f3 hk hd h3
        have hl : ∀ p ∈ ps, p.length ≤ 8 := fun p hp => by have := hPs.len p hp; omega
        clear hPs
        induction ps with
        | nil => simp
        | cons p ps ih =>
          have := hl p List.mem_cons_self
          have := ih fun q hq => hl q (List.mem_cons_of_mem _ hq)
          rw [List.map_cons, List.sum_cons, List.length_cons]
          omega
      have ef : Ev (tFld K (tVar 0) "_parts") [some (.ref a)] H (.ref tp) := tFld_ev rfl f1 T.k_Form T.a_Form__parts (formF_parts tp c)
      exact ⟨⟨_, rfl⟩, ef H (Ex.refl _) _ fun H1 e1 => ⟨_, tp, ps, rfl, rfl, .inr (st_of (e1 _ _ f2)), by
        have : ("" : Str).length = 0 := by decide +kernel
        rw [this]
        omega, q H1 e1⟩⟩
    | n _ _ _ => cases hk

section
variable {CF CB CE : Addr} {σ : L2.St} {G : Hp} {te tl ta tb : TE} {t : Pt} {p : Addr} {d : Nat}
theorem Rs.app {α : Type} {R : α → Addr → Hp → Prop} {H : Hp} {vs ws : List V} {xs ys : List α} (h : Rs R H vs xs) (k : Rs R H ws ys) : Rs R H (vs ++ ws) (xs ++ ys) := by
  induction h with
  | nil => exact k
  | cons r _ ih => exact .cons r ih
theorem ers_cat {α : Type} {R : α → Addr → Hp → Prop} {xs ys : List α} (up : Up R) (h1 : EvRs ta σ G R xs) (h2 : EvRs tb σ G R ys) (hn : xs.length + ys.length ≤ 1000) : EvRs (tOp rCat ta tb) σ G R (xs ++ ys) := fun H1 e Q q =>
  h1 H1 e _ fun l vs H2 hl e2 k2 r2 => h2 H2 (e.trans e2) _ fun m ws H3 hm e3 k3 r3 => ⟨l, m, vs, ws, rfl, rfl, e3 _ _ k2, k3, sz_of (by rw [r2.len, r3.len]; omega), fun n hn => q n _ _ (fresh_back (e2.trans e3) hn) ((e2.trans e3).trans (Ex.new hn)) upd_same (Rs.app (r2.ex up (e3.trans (Ex.new hn))) (r3.ex up (Ex.new hn)))⟩
theorem ev_lenN {α : Type} {R : α → Addr → Hp → Prop} {xs : List α} (h : EvRs te σ G R xs) : Ev (tCB (fun xs H Q => ∃ p ys, xs = [.ref p] ∧ (SqL K H p ys ∨ SqT K H p ys) ∧ Q (.int ys.length) H) (tCons te tNil)) σ G (.int xs.length) := fun H1 e Q q =>
  h H1 e _ fun l vs H2 hl e2 h2 r2 => ⟨l, vs, rfl, .inl (sq_of h2), by rw [r2.len]; exact q H2 e2⟩
theorem cutV_ge {xs : List V} {a : Nat} : cutV xs (some (a : Int)) none = xs.drop a := by
  unfold cutV
  rw [HT.sIx_none, HT.sIx_nat]
  by_cases h : a ≤ xs.length
  · rw [Nat.min_eq_left h, List.take_of_length_le (by rw [List.length_drop]; exact Nat.le_refl _)]
  · rw [Nat.min_eq_right (by omega), List.drop_of_length_le (Nat.le_refl _), List.drop_of_length_le (by omega)]
    simp
/-! what a pattern of any class does, by its own class -/
theorem m_forms (h : Ev te σ G (.ref p)) (hP : PatAt CF CB CE G t p) (hd : t.depth ≤ d) (h3 : t.leaves ≤ 3) : EvRs (tMeth (clsP CF CB CE t.isN) "forms" (spForms CF CB CE t.isN d) [] E0 te tNil) σ G (FormR CF) t.forms := fun H1 e Q q => h H1 e _ fun H2 e2 => by
  obtain ⟨dx, fs, f1, f2⟩ := (hP.ex (e.trans e2)).cls
  exact ⟨p, dx, fs, rfl, f1, f2 _ (by decide +kernel) (by decide +kernel) (by decide +kernel) (by decide +kernel), p, t, rfl, ⟨hP.ex (e.trans e2), rfl, hd⟩, h3, fun l us H3 hl e3 h3' r => q l us H3 (fresh_back e2 hl) (e2.trans e3) h3' r⟩
def tAl3 (a b c : TE) : TE := tAlt a (tAlt b c)
theorem v_forms (h : Ev te σ G (.ref p)) (hP : PatAt CF CB CE G t p) (hd : t.depth ≤ d) (h3 : t.leaves ≤ 3) : EvRs (tAlt (tMeth CF "forms" (spForms CF CB CE none 0) [] E0 te tNil) (tAlt (tMeth CB "forms" (spForms CF CB CE (some true) d) [] E0 te tNil) (tMeth CE "forms" (spForms CF CB CE (some false) d) [] E0 te tNil))) σ G (FormR CF) t.forms := fun H1 e Q q => by
  cases t with
  | f ps => exact .inl (m_forms (d := 0) h hP (Nat.le_refl _) h3 H1 e Q q)
  | n and l r =>
    cases and with
    | true => exact .inr (.inl (m_forms h hP hd h3 H1 e Q q))
    | false => exact .inr (.inr (m_forms h hP hd h3 H1 e Q q))
theorem m_holds {ts : List Bool} (h : Ev te σ G (.ref p)) (hP : PatAt CF CB CE G t p) (hd : t.depth ≤ d) (h3 : t.leaves ≤ 3) (hl : EvL tl σ G (ts.map V.bl)) (hn : ts.length = t.leaves) : Ev (tMeth (clsP CF CB CE t.isN) "holds" (spHolds K CF CB CE t.isN d) [] E0 te (tCons tl tNil)) σ G (.bl (t.holds ts)) := fun H1 e Q q => h H1 e _ fun H2 e2 => by
  obtain ⟨dx, fs, f1, f2⟩ := (hP.ex (e.trans e2)).cls
  exact ⟨p, dx, fs, rfl, f1, f2 _ (by decide +kernel) (by decide +kernel) (by decide +kernel) (by decide +kernel), hl H2 (e.trans e2) _ fun l H3 hl0 e3 h3' => ⟨p, l, t, ts, rfl, ⟨hP.ex ((e.trans e2).trans e3), rfl, hd⟩, sq_of h3', hn, h3, fun H4 e4 => q H4 ((e2.trans e3).trans e4)⟩⟩
theorem v_holds {ts : List Bool} (h : Ev te σ G (.ref p)) (hP : PatAt CF CB CE G t p) (hd : t.depth ≤ d) (h3 : t.leaves ≤ 3) (hl : EvL tl σ G (ts.map V.bl)) (hn : ts.length = t.leaves) :
    Ev (tAlt (tMeth CF "holds" (spHolds K CF CB CE none 0) [] E0 te (tCons tl tNil)) (tAlt (tMeth CB "holds" (spHolds K CF CB CE (some true) d) [] E0 te (tCons tl tNil)) (tMeth CE "holds" (spHolds K CF CB CE (some false) d) [] E0 te (tCons tl tNil)))) σ G (.bl (t.holds ts)) := fun H1 e Q q => by
  cases t with
  | f ps => exact .inl (m_holds (d := 0) h hP (Nat.le_refl _) h3 hl hn H1 e Q q)
  | n and l r =>
    cases and with
    | true => exact .inr (.inl (m_holds h hP hd h3 hl hn H1 e Q q))
    | false => exact .inr (.inr (m_holds h hP hd h3 hl hn H1 e Q q))
theorem r_str {H1 : Hp} {Q : VK} (hP : PatAt CF CB CE H1 t p) (hd : t.depth ≤ d) (h3 : t.leaves ≤ 3) (q : ∀ H2, Ex H1 H2 → Q (.str t.text) H2) : rStrOwn (clsP CF CB CE t.isN) (spStrP CF CB CE t.isN d) E0 [.ref p] H1 Q := by
  obtain ⟨dx, fs, f1, _⟩ := hP.cls
  exact ⟨p, dx, fs, rfl, f1, p, t, rfl, ⟨hP, rfl, hd⟩, h3, fun H2 e2 => ⟨_, rfl, q H2 e2⟩⟩
theorem m_fmt (h : Ev te σ G (.ref p)) (hP : PatAt CF CB CE G t p) (hd : t.depth ≤ d) (h3 : t.leaves ≤ 3) : Ev (tFmtOwn (clsP CF CB CE t.isN) (spStrP CF CB CE t.isN d) E0 te) σ G (.str t.text) := fun H1 e Q q => h H1 e _ fun H2 e2 => r_str (hP.ex (e.trans e2)) hd h3 fun H3 e3 => q H3 (e2.trans e3)
theorem v_fmt (h : Ev te σ G (.ref p)) (hP : PatAt CF CB CE G t p) (hd : t.depth ≤ d) (h3 : t.leaves ≤ 3) : Ev (tAlt (tFmtOwn CF (spStrP CF CB CE none 0) E0 te) (tAlt (tFmtOwn CB (spStrP CF CB CE (some true) d) E0 te) (tFmtOwn CE (spStrP CF CB CE (some false) d) E0 te))) σ G (.str t.text) := fun H1 e Q q => by
  cases t with
  | f ps => exact .inl (m_fmt (d := 0) h hP (Nat.le_refl _) h3 H1 e Q q)
  | n and l r =>
    cases and with
    | true => exact .inr (.inl (m_fmt h hP hd h3 H1 e Q q))
    | false => exact .inr (.inr (m_fmt h hP hd h3 H1 e Q q))
theorem m_str (h : Ev te σ G (.ref p)) (hP : PatAt CF CB CE G t p) (hd : t.depth ≤ d) (h3 : t.leaves ≤ 3) : Ev (tCB (rStrOwn (clsP CF CB CE t.isN) (spStrP CF CB CE t.isN d) E0) (tCons te tNil)) σ G (.str t.text) := fun H1 e Q q => h H1 e _ fun H2 e2 => r_str (hP.ex (e.trans e2)) hd h3 fun H3 e3 => q H3 (e2.trans e3)
theorem v_str (h : Ev te σ G (.ref p)) (hP : PatAt CF CB CE G t p) (hd : t.depth ≤ d) (h3 : t.leaves ≤ 3) : Ev (tAlt (tCB (rStrOwn CF (spStrP CF CB CE none 0) E0) (tCons te tNil)) (tAlt (tCB (rStrOwn CB (spStrP CF CB CE (some true) d) E0) (tCons te tNil)) (tCB (rStrOwn CE (spStrP CF CB CE (some false) d) E0) (tCons te tNil)))) σ G (.str t.text) := fun H1 e Q q => by
  cases t with
  | f ps => exact .inl (m_str (d := 0) h hP (Nat.le_refl _) h3 H1 e Q q)
  | n and l r =>
    cases and with
    | true => exact .inr (.inl (m_str h hP hd h3 H1 e Q q))
    | false => exact .inr (.inr (m_str h hP hd h3 H1 e Q q))
theorem f_in {ps : List Str} {z : Str} (hl : Ev tl σ G (.str z)) (h : Ev te σ G (.ref p)) (hF : FormR CF ps p G) (hz : z.length ≤ 1000) : Ev (tOp (rInOwn CF (spIn CF) E0) tl te) σ G (.bl (inForm ps z)) := fun H1 e Q q => hl H1 e _ fun H2 e2 => h H2 (e.trans e2) _ fun H3 e3 => by
  have hF1 := upF _ _ _ _ ((e.trans e2).trans e3) hF
  obtain ⟨⟨dx, t, c, h1, h2, h3⟩, g1, g2, g3⟩ := id hF1
  exact ⟨p, dx, _, rfl, h1, p, ps, z, rfl, hF1.1, g1, g3, hz, fun H4 e4 => ⟨_, rfl, q H4 ((e2.trans e3).trans e4)⟩⟩
theorem n_in {z : Str} {and : Bool} {l r : Pt} (hl : Ev tl σ G (.str z)) (h : Ev te σ G (.ref p)) (hP : PatAt CF CB CE G (.n and l r) p) (hd : (Pt.n and l r).depth ≤ d) (hz : z.length ≤ 1000) : Ev (tOp (rInOwn (if and = true then CB else CE) (spInP CF CB CE (some and) d) E0) tl te) σ G (.bl ((Pt.n and l r).in_ z)) := fun H1 e Q q => hl H1 e _ fun H2 e2 => h H2 (e.trans e2) _ fun H3 e3 => by
  have hP1 := hP.ex ((e.trans e2).trans e3)
  obtain ⟨dx, fs, f1, _⟩ := hP1.cls
  refine ⟨p, dx, fs, rfl, ?_, p, _, z, rfl, ⟨hP1, rfl, hd⟩, hz, fun H4 e4 => ⟨_, rfl, q H4 ((e2.trans e3).trans e4)⟩⟩
  cases and <;> exact f1
theorem v_in {z : Str} (hl : Ev tl σ G (.str z)) (h : Ev te σ G (.ref p)) (hP : PatAt CF CB CE G t p) (hd : t.depth ≤ d) (hz : z.length ≤ 1000) : Ev (tAlt (tOp (rInOwn CF (spIn CF) E0) tl te) (tAlt (tOp (rInOwn CB (spInP CF CB CE (some true) d) E0) tl te) (tOp (rInOwn CE (spInP CF CB CE (some false) d) E0) tl te))) σ G (.bl (t.in_ z)) := fun H1 e Q q => by
  cases t with
  | f ps =>
    cases hP with
    | f hF => exact .inl (f_in hl h hF hz H1 e Q q)
  | n and l r =>
    cases and with
    | true => exact .inr (.inl (n_in hl h hP hd hz H1 e Q q))
    | false => exact .inr (.inr (n_in hl h hP hd hz H1 e Q q))
end
theorem ok_Both_forms__v1 {f : Addr} {fd : FuncData} (F : Fun K "forms" "Both.forms" s_Both_forms f fd) (T : Txt K mg a_FIELDS a_OPEN_PARTS C_Both C_Either C_Form C_Gluer C_Keeper C_Rule) (D_Form_forms : DfM P w K mg base C_Form "forms" ["self"] 1 (spForms C_Form C_Both C_Either none 0)) : FnOk P w K mg base CX0 2 f fd ["self"] (spForms C_Form C_Both C_Either (some true) 1) := by
  refine F.ok sc_Both_forms (fun vs H Q E h => ?_) (fun cdv A outer s0 H vs Q E hr h => ?_)
  · obtain ⟨a, t, rfl, _⟩ := h
    rfl
  · obtain ⟨a, t, rfl, ⟨hP, hk, hd⟩, h3, q⟩ := h
    refine ⟨_, (pss_one (ps_ret (pe_op op_cat (pe_mth0 T.k_Form D_Form_forms (hr.mono (by decide)) (pe_fld (pv 0) rfl)) (pe_mth0 T.k_Form D_Form_forms (hr.mono (by decide)) (pe_fld (pv 0) rfl))))), ?_⟩
    cases hP with
    | f _ => cases hk
    | @n and l r a dx p q' ha hl hr' =>
      cases hk
      have hc : H a = some (.ins C_Both dx (pairF p q')) := ha
      have one : ∀ {σ : L2.St} {H'} (_ : Ex H H') (_ : σ[0]? = some (some (.ref a))), Ev (tFld K (tVar 0) "_one") σ H' (.ref p) := fun e i0 => tFld_ev i0 (e _ _ hc) T.k_Both T.a_Both__one (pairF_one p q')
      have two : ∀ {σ : L2.St} {H'} (_ : Ex H H') (_ : σ[0]? = some (some (.ref a))), Ev (tFld K (tVar 0) "_other") σ H' (.ref q') := fun e i0 => tFld_ev i0 (e _ _ hc) T.k_Both T.a_Both__other (pairF_other p q')
      have hdl : l.depth ≤ 0 := by
        simp only [Pt.depth] at hd
        omega
      have hdr : r.depth ≤ 0 := by
        simp only [Pt.depth] at hd
        omega
      have hll : l.leaves ≤ 3 := by
        have := r.leaves_pos
        simp only [Pt.leaves] at h3
        omega
      have hlr : r.leaves ≤ 3 := by
        have := l.leaves_pos
        simp only [Pt.leaves] at h3
        omega
      cases l with
      | n _ _ _ =>
        simp only [Pt.depth] at hd
        omega
      | f ps1 =>
      cases r with
      | n _ _ _ =>
        simp only [Pt.depth] at hd
        omega
      | f ps2 =>
      have n1 := Pt.forms_len (.f ps1)
      have n2 := Pt.forms_len (.f ps2)
      exact ers_cat upF (m_forms (d := 0) (one (Ex.refl _) rfl) hl hdl hll) (m_forms (d := 0) (two (Ex.refl _) rfl) hr' hdr hlr) (by omega) H (Ex.refl _) _ q

theorem ok_Both___contains____v1 {f : Addr} {fd : FuncData} (F : Fun K "__contains__" "Both.__contains__" s_Both___contains__ f fd) (T : Txt K mg a_FIELDS a_OPEN_PARTS C_Both C_Either C_Form C_Gluer C_Keeper C_Rule) (D_Form___contains__ : DfC P w K mg base C_Form "__contains__" ["self", "line"] 3 (spIn C_Form)) : FnOk P w K mg base CX0 4 f fd ["self", "line"] (spInP C_Form C_Both C_Either (some true) 1) := by
  refine F.ok sc_Both___contains__ (fun vs H Q E h => ?_) (fun cdv A outer s0 H vs Q E hr h => ?_)
  · obtain ⟨a, t, z, rfl, _⟩ := h
    rfl
  · obtain ⟨a, t, z, rfl, ⟨hP, hk, hd⟩, hz, q⟩ := h
    refine ⟨_, (pss_one (ps_ret (pe_and (pe_cmpR (op_in_df D_Form___contains__ (hr.mono (by decide))) (pv 1) (pe_fld (pv 0) rfl) (by rfl)) (pe_one (pe_cmpR (op_in_df D_Form___contains__ (hr.mono (by decide))) (pv 1) (pe_fld (pv 0) rfl) (by rfl)))))), ?_⟩
    cases hP with
    | f _ => cases hk
    | @n and l r a dx p q' ha hl hr' =>
      cases hk
      have hc : H a = some (.ins C_Both dx (pairF p q')) := ha
      have one : ∀ {σ : L2.St} {H'} (_ : Ex H H') (_ : σ[0]? = some (some (.ref a))), Ev (tFld K (tVar 0) "_one") σ H' (.ref p) := fun e i0 => tFld_ev i0 (e _ _ hc) T.k_Both T.a_Both__one (pairF_one p q')
      have two : ∀ {σ : L2.St} {H'} (_ : Ex H H') (_ : σ[0]? = some (some (.ref a))), Ev (tFld K (tVar 0) "_other") σ H' (.ref q') := fun e i0 => tFld_ev i0 (e _ _ hc) T.k_Both T.a_Both__other (pairF_other p q')
      have hdl : l.depth ≤ 0 := by
        simp only [Pt.depth] at hd
        omega
      have hdr : r.depth ≤ 0 := by
        simp only [Pt.depth] at hd
        omega
      cases l with
      | n _ _ _ =>
        simp only [Pt.depth] at hd
        omega
      | f ps1 =>
      cases r with
      | n _ _ _ =>
        simp only [Pt.depth] at hd
        omega
      | f ps2 =>
      cases hl with
      | f hF1 =>
      cases hr' with
      | f hF2 =>
      exact s_ret (v := .bl (Pt.in_ (.f ps1) z && Pt.in_ (.f ps2) z)) (ev_andV (f_in (ev_var rfl) (one (Ex.refl _) rfl) hF1 hz) fun _ => (f_in (ev_var rfl) (two (Ex.refl _) rfl) hF2 hz)) fun H2 e2 => q H2 e2
theorem ok_Both___str____v1 {f : Addr} {fd : FuncData} (F : Fun K "__str__" "Both.__str__" s_Both___str__ f fd) (T : Txt K mg a_FIELDS a_OPEN_PARTS C_Both C_Either C_Form C_Gluer C_Keeper C_Rule) (D_Form___str__ : DfSt P w K mg base C_Form ["self"] 1 (spStrP C_Form C_Both C_Either none 0)) : FnOk P w K mg base CX0 3 f fd ["self"] (spStrP C_Form C_Both C_Either (some true) 1) := by
  refine F.ok sc_Both___str__ (fun vs H Q E h => ?_) (fun cdv A outer s0 H vs Q E hr h => ?_)
  · obtain ⟨a, t, rfl, _⟩ := h
    rfl
  · obtain ⟨a, t, rfl, ⟨hP, hk, hd⟩, h3, q⟩ := h
    refine ⟨_, (pss_one (ps_ret (pe_joined (.cons pe_str (.cons (pe_fmt_df D_Form___str__ (hr.mono (by decide)) (pe_fld (pv 0) rfl)) (.cons pe_str (.cons (pe_fmt_df D_Form___str__ (hr.mono (by decide)) (pe_fld (pv 0) rfl)) (.cons pe_str .nil)))))))), ?_⟩
    cases hP with
    | f _ => cases hk
    | @n and l r a dx p q' ha hl hr' =>
      cases hk
      have hc : H a = some (.ins C_Both dx (pairF p q')) := ha
      have one : ∀ {σ : L2.St} {H'} (_ : Ex H H') (_ : σ[0]? = some (some (.ref a))), Ev (tFld K (tVar 0) "_one") σ H' (.ref p) := fun e i0 => tFld_ev i0 (e _ _ hc) T.k_Both T.a_Both__one (pairF_one p q')
      have two : ∀ {σ : L2.St} {H'} (_ : Ex H H') (_ : σ[0]? = some (some (.ref a))), Ev (tFld K (tVar 0) "_other") σ H' (.ref q') := fun e i0 => tFld_ev i0 (e _ _ hc) T.k_Both T.a_Both__other (pairF_other p q')
      have hdl : l.depth ≤ 0 := by
        simp only [Pt.depth] at hd
        omega
      have hdr : r.depth ≤ 0 := by
        simp only [Pt.depth] at hd
        omega
      have hll : l.leaves ≤ 3 := by
        have := r.leaves_pos
        simp only [Pt.leaves] at h3
        omega
      have hlr : r.leaves ≤ 3 := by
        have := l.leaves_pos
        simp only [Pt.leaves] at h3
        omega
      have tl1 := text_len hl
      have tl2 := text_len hr'
      have e0 : ∀ z : Str, Str.empty ++ z = z := fun z => by
        cases z with
        | mk a => show (⟨#[] ++ a⟩ : Str) = ⟨a⟩; simp
      have a1 : ∀ a b : Str, (a ++ b).length = a.length + b.length := app_len
      have k1 : ("(" : Str).length = 1 := by decide +kernel
      have k2 : (")" : Str).length = 1 := by decide +kernel
      have k3 : (" & " : Str).length = 3 := by decide +kernel
      cases l with
      | n _ _ _ =>
        simp only [Pt.depth] at hd
        omega
      | f ps1 =>
      cases r with
      | n _ _ _ =>
        simp only [Pt.depth] at hd
        omega
      | f ps2 =>
      refine ⟨_, rfl, sz_of (by rw [e0, k1]; omega), m_fmt (d := 0) (one (Ex.refl _) rfl) hl hdl hll H (Ex.refl _) _ fun H1 e1 => ⟨_, rfl, sz_of (by rw [e0, a1, k1]; omega), _, rfl, sz_of (by rw [e0, a1, a1, k1, k3]; omega), m_fmt (d := 0) (two e1 rfl) (hr'.ex e1) hdr hlr H1 (Ex.refl _) _ fun H2 e2 => ⟨_, rfl, sz_of (by rw [e0, a1, a1, a1, k1, k3]; omega), _, rfl, sz_of (by rw [e0, a1, a1, a1, a1, k1, k2, k3]; omega), ?_⟩⟩⟩
      rw [e0]
      exact q H2 (e1.trans e2)
theorem ok_Either_forms__v1 {f : Addr} {fd : FuncData} (F : Fun K "forms" "Either.forms" s_Either_forms f fd) (T : Txt K mg a_FIELDS a_OPEN_PARTS C_Both C_Either C_Form C_Gluer C_Keeper C_Rule) (D_Form_forms : DfM P w K mg base C_Form "forms" ["self"] 1 (spForms C_Form C_Both C_Either none 0)) : FnOk P w K mg base CX0 2 f fd ["self"] (spForms C_Form C_Both C_Either (some false) 1) := by
  refine F.ok sc_Either_forms (fun vs H Q E h => ?_) (fun cdv A outer s0 H vs Q E hr h => ?_)
  · obtain ⟨a, t, rfl, _⟩ := h
    rfl
  · obtain ⟨a, t, rfl, ⟨hP, hk, hd⟩, h3, q⟩ := h
    refine ⟨_, (pss_one (ps_ret (pe_op op_cat (pe_mth0 T.k_Form D_Form_forms (hr.mono (by decide)) (pe_fld (pv 0) rfl)) (pe_mth0 T.k_Form D_Form_forms (hr.mono (by decide)) (pe_fld (pv 0) rfl))))), ?_⟩
    cases hP with
    | f _ => cases hk
    | @n and l r a dx p q' ha hl hr' =>
      cases hk
      have hc : H a = some (.ins C_Either dx (pairF p q')) := ha
      have one : ∀ {σ : L2.St} {H'} (_ : Ex H H') (_ : σ[0]? = some (some (.ref a))), Ev (tFld K (tVar 0) "_one") σ H' (.ref p) := fun e i0 => tFld_ev i0 (e _ _ hc) T.k_Either T.a_Either__one (pairF_one p q')
      have two : ∀ {σ : L2.St} {H'} (_ : Ex H H') (_ : σ[0]? = some (some (.ref a))), Ev (tFld K (tVar 0) "_other") σ H' (.ref q') := fun e i0 => tFld_ev i0 (e _ _ hc) T.k_Either T.a_Either__other (pairF_other p q')
      have hdl : l.depth ≤ 0 := by
        simp only [Pt.depth] at hd
        omega
      have hdr : r.depth ≤ 0 := by
        simp only [Pt.depth] at hd
        omega
      have hll : l.leaves ≤ 3 := by
        have := r.leaves_pos
        simp only [Pt.leaves] at h3
        omega
      have hlr : r.leaves ≤ 3 := by
        have := l.leaves_pos
        simp only [Pt.leaves] at h3
        omega
      cases l with
      | n _ _ _ =>
        simp only [Pt.depth] at hd
        omega
      | f ps1 =>
      cases r with
      | n _ _ _ =>
        simp only [Pt.depth] at hd
        omega
      | f ps2 =>
      have n1 := Pt.forms_len (.f ps1)
      have n2 := Pt.forms_len (.f ps2)
      exact ers_cat upF (m_forms (d := 0) (one (Ex.refl _) rfl) hl hdl hll) (m_forms (d := 0) (two (Ex.refl _) rfl) hr' hdr hlr) (by omega) H (Ex.refl _) _ q

theorem ok_Either___contains____v1 {f : Addr} {fd : FuncData} (F : Fun K "__contains__" "Either.__contains__" s_Either___contains__ f fd) (T : Txt K mg a_FIELDS a_OPEN_PARTS C_Both C_Either C_Form C_Gluer C_Keeper C_Rule) (D_Form___contains__ : DfC P w K mg base C_Form "__contains__" ["self", "line"] 3 (spIn C_Form)) : FnOk P w K mg base CX0 4 f fd ["self", "line"] (spInP C_Form C_Both C_Either (some false) 1) := by
  refine F.ok sc_Either___contains__ (fun vs H Q E h => ?_) (fun cdv A outer s0 H vs Q E hr h => ?_)
  · obtain ⟨a, t, z, rfl, _⟩ := h
    rfl
  · obtain ⟨a, t, z, rfl, ⟨hP, hk, hd⟩, hz, q⟩ := h
    refine ⟨_, (pss_one (ps_ret (pe_or (pe_cmpR (op_in_df D_Form___contains__ (hr.mono (by decide))) (pv 1) (pe_fld (pv 0) rfl) (by rfl)) (pe_one (pe_cmpR (op_in_df D_Form___contains__ (hr.mono (by decide))) (pv 1) (pe_fld (pv 0) rfl) (by rfl)))))), ?_⟩
    cases hP with
    | f _ => cases hk
    | @n and l r a dx p q' ha hl hr' =>
      cases hk
      have hc : H a = some (.ins C_Either dx (pairF p q')) := ha
      have one : ∀ {σ : L2.St} {H'} (_ : Ex H H') (_ : σ[0]? = some (some (.ref a))), Ev (tFld K (tVar 0) "_one") σ H' (.ref p) := fun e i0 => tFld_ev i0 (e _ _ hc) T.k_Either T.a_Either__one (pairF_one p q')
      have two : ∀ {σ : L2.St} {H'} (_ : Ex H H') (_ : σ[0]? = some (some (.ref a))), Ev (tFld K (tVar 0) "_other") σ H' (.ref q') := fun e i0 => tFld_ev i0 (e _ _ hc) T.k_Either T.a_Either__other (pairF_other p q')
      have hdl : l.depth ≤ 0 := by
        simp only [Pt.depth] at hd
        omega
      have hdr : r.depth ≤ 0 := by
        simp only [Pt.depth] at hd
        omega
      cases l with
      | n _ _ _ =>
        simp only [Pt.depth] at hd
        omega
      | f ps1 =>
      cases r with
      | n _ _ _ =>
        simp only [Pt.depth] at hd
        omega
      | f ps2 =>
      cases hl with
      | f hF1 =>
      cases hr' with
      | f hF2 =>
      exact s_ret (v := .bl (Pt.in_ (.f ps1) z || Pt.in_ (.f ps2) z)) (ev_orV (f_in (ev_var rfl) (one (Ex.refl _) rfl) hF1 hz) fun _ => (f_in (ev_var rfl) (two (Ex.refl _) rfl) hF2 hz)) fun H2 e2 => q H2 e2
theorem ok_Either___str____v1 {f : Addr} {fd : FuncData} (F : Fun K "__str__" "Either.__str__" s_Either___str__ f fd) (T : Txt K mg a_FIELDS a_OPEN_PARTS C_Both C_Either C_Form C_Gluer C_Keeper C_Rule) (D_Form___str__ : DfSt P w K mg base C_Form ["self"] 1 (spStrP C_Form C_Both C_Either none 0)) : FnOk P w K mg base CX0 3 f fd ["self"] (spStrP C_Form C_Both C_Either (some false) 1) := by
  refine F.ok sc_Either___str__ (fun vs H Q E h => ?_) (fun cdv A outer s0 H vs Q E hr h => ?_)
  · obtain ⟨a, t, rfl, _⟩ := h
    rfl
  · obtain ⟨a, t, rfl, ⟨hP, hk, hd⟩, h3, q⟩ := h
    refine ⟨_, (pss_one (ps_ret (pe_joined (.cons pe_str (.cons (pe_fmt_df D_Form___str__ (hr.mono (by decide)) (pe_fld (pv 0) rfl)) (.cons pe_str (.cons (pe_fmt_df D_Form___str__ (hr.mono (by decide)) (pe_fld (pv 0) rfl)) (.cons pe_str .nil)))))))), ?_⟩
    cases hP with
    | f _ => cases hk
    | @n and l r a dx p q' ha hl hr' =>
      cases hk
      have hc : H a = some (.ins C_Either dx (pairF p q')) := ha
      have one : ∀ {σ : L2.St} {H'} (_ : Ex H H') (_ : σ[0]? = some (some (.ref a))), Ev (tFld K (tVar 0) "_one") σ H' (.ref p) := fun e i0 => tFld_ev i0 (e _ _ hc) T.k_Either T.a_Either__one (pairF_one p q')
      have two : ∀ {σ : L2.St} {H'} (_ : Ex H H') (_ : σ[0]? = some (some (.ref a))), Ev (tFld K (tVar 0) "_other") σ H' (.ref q') := fun e i0 => tFld_ev i0 (e _ _ hc) T.k_Either T.a_Either__other (pairF_other p q')
      have hdl : l.depth ≤ 0 := by
        simp only [Pt.depth] at hd
        omega
      have hdr : r.depth ≤ 0 := by
        simp only [Pt.depth] at hd
        omega
      have hll : l.leaves ≤ 3 := by
        have := r.leaves_pos
        simp only [Pt.leaves] at h3
        omega
      have hlr : r.leaves ≤ 3 := by
        have := l.leaves_pos
        simp only [Pt.leaves] at h3
        omega
      have tl1 := text_len hl
      have tl2 := text_len hr'
      have e0 : ∀ z : Str, Str.empty ++ z = z := fun z => by
        cases z with
        | mk a => show (⟨#[] ++ a⟩ : Str) = ⟨a⟩; simp
      have a1 : ∀ a b : Str, (a ++ b).length = a.length + b.length := app_len
      have k1 : ("(" : Str).length = 1 := by decide +kernel
      have k2 : (")" : Str).length = 1 := by decide +kernel
      have k3 : (" | " : Str).length = 3 := by decide +kernel
      cases l with
      | n _ _ _ =>
        simp only [Pt.depth] at hd
        omega
      | f ps1 =>
      cases r with
      | n _ _ _ =>
        simp only [Pt.depth] at hd
        omega
      | f ps2 =>
      refine ⟨_, rfl, sz_of (by rw [e0, k1]; omega), m_fmt (d := 0) (one (Ex.refl _) rfl) hl hdl hll H (Ex.refl _) _ fun H1 e1 => ⟨_, rfl, sz_of (by rw [e0, a1, k1]; omega), _, rfl, sz_of (by rw [e0, a1, a1, k1, k3]; omega), m_fmt (d := 0) (two e1 rfl) (hr'.ex e1) hdr hlr H1 (Ex.refl _) _ fun H2 e2 => ⟨_, rfl, sz_of (by rw [e0, a1, a1, a1, k1, k3]; omega), _, rfl, sz_of (by rw [e0, a1, a1, a1, a1, k1, k2, k3]; omega), ?_⟩⟩⟩
      rw [e0]
      exact q H2 (e1.trans e2)
theorem ok_Both_forms__v2 {f : Addr} {fd : FuncData} (F : Fun K "forms" "Both.forms" s_Both_forms f fd) (T : Txt K mg a_FIELDS a_OPEN_PARTS C_Both C_Either C_Form C_Gluer C_Keeper C_Rule) (D_Form_forms : DfM P w K mg base C_Form "forms" ["self"] 1 (spForms C_Form C_Both C_Either none 0)) (D_Both_forms__v1 : DfM P w K mg base C_Both "forms" ["self"] 2 (spForms C_Form C_Both C_Either (some true) 1)) (D_Either_forms__v1 : DfM P w K mg base C_Either "forms" ["self"] 2 (spForms C_Form C_Both C_Either (some false) 1)) : FnOk P w K mg base CX0 3 f fd ["self"] (spForms C_Form C_Both C_Either (some true) 2) := by
  refine F.ok sc_Both_forms (fun vs H Q E h => ?_) (fun cdv A outer s0 H vs Q E hr h => ?_)
  · obtain ⟨a, t, rfl, _⟩ := h
    rfl
  · obtain ⟨a, t, rfl, ⟨hP, hk, hd⟩, h3, q⟩ := h
    refine ⟨_, (pss_one (ps_ret (pe_op op_cat (pe_alt (pe_mth0 T.k_Form D_Form_forms (hr.mono (by decide)) (pe_fld (pv 0) rfl))
        (pe_alt (pe_mth0 T.k_Both D_Both_forms__v1 (hr.mono (by decide)) (pe_fld (pv 0) rfl))
        (pe_mth0 T.k_Either D_Either_forms__v1 (hr.mono (by decide)) (pe_fld (pv 0) rfl)))) (pe_alt (pe_mth0 T.k_Form D_Form_forms (hr.mono (by decide)) (pe_fld (pv 0) rfl))
        (pe_alt (pe_mth0 T.k_Both D_Both_forms__v1 (hr.mono (by decide)) (pe_fld (pv 0) rfl))
        (pe_mth0 T.k_Either D_Either_forms__v1 (hr.mono (by decide)) (pe_fld (pv 0) rfl))))))), ?_⟩
    cases hP with
    | f _ => cases hk
    | @n and l r a dx p q' ha hl hr' =>
      cases hk
      have hc : H a = some (.ins C_Both dx (pairF p q')) := ha
      have one : ∀ {σ : L2.St} {H'} (_ : Ex H H') (_ : σ[0]? = some (some (.ref a))), Ev (tFld K (tVar 0) "_one") σ H' (.ref p) := fun e i0 => tFld_ev i0 (e _ _ hc) T.k_Both T.a_Both__one (pairF_one p q')
      have two : ∀ {σ : L2.St} {H'} (_ : Ex H H') (_ : σ[0]? = some (some (.ref a))), Ev (tFld K (tVar 0) "_other") σ H' (.ref q') := fun e i0 => tFld_ev i0 (e _ _ hc) T.k_Both T.a_Both__other (pairF_other p q')
      have hdl : l.depth ≤ 1 := by
        simp only [Pt.depth] at hd
        omega
      have hdr : r.depth ≤ 1 := by
        simp only [Pt.depth] at hd
        omega
      have hll : l.leaves ≤ 3 := by
        have := r.leaves_pos
        simp only [Pt.leaves] at h3
        omega
      have hlr : r.leaves ≤ 3 := by
        have := l.leaves_pos
        simp only [Pt.leaves] at h3
        omega
      have n1 := Pt.forms_len l
      have n2 := Pt.forms_len r
      exact ers_cat upF (v_forms (one (Ex.refl _) rfl) hl hdl hll) (v_forms (two (Ex.refl _) rfl) hr' hdr hlr) (by omega) H (Ex.refl _) _ q

theorem ok_Both___contains____v2 {f : Addr} {fd : FuncData} (F : Fun K "__contains__" "Both.__contains__" s_Both___contains__ f fd) (T : Txt K mg a_FIELDS a_OPEN_PARTS C_Both C_Either C_Form C_Gluer C_Keeper C_Rule) (D_Form___contains__ : DfC P w K mg base C_Form "__contains__" ["self", "line"] 3 (spIn C_Form)) (D_Both___contains____v1 : DfC P w K mg base C_Both "__contains__" ["self", "line"] 4 (spInP C_Form C_Both C_Either (some true) 1)) (D_Either___contains____v1 : DfC P w K mg base C_Either "__contains__" ["self", "line"] 4 (spInP C_Form C_Both C_Either (some false) 1)) : FnOk P w K mg base CX0 5 f fd ["self", "line"] (spInP C_Form C_Both C_Either (some true) 2) := by
  refine F.ok sc_Both___contains__ (fun vs H Q E h => ?_) (fun cdv A outer s0 H vs Q E hr h => ?_)
  · obtain ⟨a, t, z, rfl, _⟩ := h
    rfl
  · obtain ⟨a, t, z, rfl, ⟨hP, hk, hd⟩, hz, q⟩ := h
    refine ⟨_, (pss_one (ps_ret (pe_and (pe_alt (pe_cmpR (op_in_df D_Form___contains__ (hr.mono (by decide))) (pv 1) (pe_fld (pv 0) rfl) (by rfl))
        (pe_alt (pe_cmpR (op_in_df D_Both___contains____v1 (hr.mono (by decide))) (pv 1) (pe_fld (pv 0) rfl) (by rfl))
        (pe_cmpR (op_in_df D_Either___contains____v1 (hr.mono (by decide))) (pv 1) (pe_fld (pv 0) rfl) (by rfl)))) (pe_one (pe_alt (pe_cmpR (op_in_df D_Form___contains__ (hr.mono (by decide))) (pv 1) (pe_fld (pv 0) rfl) (by rfl))
        (pe_alt (pe_cmpR (op_in_df D_Both___contains____v1 (hr.mono (by decide))) (pv 1) (pe_fld (pv 0) rfl) (by rfl))
        (pe_cmpR (op_in_df D_Either___contains____v1 (hr.mono (by decide))) (pv 1) (pe_fld (pv 0) rfl) (by rfl)))))))), ?_⟩
    cases hP with
    | f _ => cases hk
    | @n and l r a dx p q' ha hl hr' =>
      cases hk
      have hc : H a = some (.ins C_Both dx (pairF p q')) := ha
      have one : ∀ {σ : L2.St} {H'} (_ : Ex H H') (_ : σ[0]? = some (some (.ref a))), Ev (tFld K (tVar 0) "_one") σ H' (.ref p) := fun e i0 => tFld_ev i0 (e _ _ hc) T.k_Both T.a_Both__one (pairF_one p q')
      have two : ∀ {σ : L2.St} {H'} (_ : Ex H H') (_ : σ[0]? = some (some (.ref a))), Ev (tFld K (tVar 0) "_other") σ H' (.ref q') := fun e i0 => tFld_ev i0 (e _ _ hc) T.k_Both T.a_Both__other (pairF_other p q')
      have hdl : l.depth ≤ 1 := by
        simp only [Pt.depth] at hd
        omega
      have hdr : r.depth ≤ 1 := by
        simp only [Pt.depth] at hd
        omega
      exact s_ret (v := .bl (Pt.in_ l z && Pt.in_ r z)) (ev_andV (v_in (ev_var rfl) (one (Ex.refl _) rfl) hl hdl hz) fun _ => (v_in (ev_var rfl) (two (Ex.refl _) rfl) hr' hdr hz)) fun H2 e2 => q H2 e2
theorem ok_Both___str____v2 {f : Addr} {fd : FuncData} (F : Fun K "__str__" "Both.__str__" s_Both___str__ f fd) (T : Txt K mg a_FIELDS a_OPEN_PARTS C_Both C_Either C_Form C_Gluer C_Keeper C_Rule) (D_Form___str__ : DfSt P w K mg base C_Form ["self"] 1 (spStrP C_Form C_Both C_Either none 0)) (D_Both___str____v1 : DfSt P w K mg base C_Both ["self"] 3 (spStrP C_Form C_Both C_Either (some true) 1)) (D_Either___str____v1 : DfSt P w K mg base C_Either ["self"] 3 (spStrP C_Form C_Both C_Either (some false) 1)) : FnOk P w K mg base CX0 5 f fd ["self"] (spStrP C_Form C_Both C_Either (some true) 2) := by
  refine F.ok sc_Both___str__ (fun vs H Q E h => ?_) (fun cdv A outer s0 H vs Q E hr h => ?_)
  · obtain ⟨a, t, rfl, _⟩ := h
    rfl
  · obtain ⟨a, t, rfl, ⟨hP, hk, hd⟩, h3, q⟩ := h
    refine ⟨_, (pss_one (ps_ret (pe_joined (.cons pe_str (.cons (pe_alt (pe_fmt_df D_Form___str__ (hr.mono (by decide)) (pe_fld (pv 0) rfl))
        (pe_alt (pe_fmt_df D_Both___str____v1 (hr.mono (by decide)) (pe_fld (pv 0) rfl))
        (pe_fmt_df D_Either___str____v1 (hr.mono (by decide)) (pe_fld (pv 0) rfl)))) (.cons pe_str (.cons (pe_alt (pe_fmt_df D_Form___str__ (hr.mono (by decide)) (pe_fld (pv 0) rfl))
        (pe_alt (pe_fmt_df D_Both___str____v1 (hr.mono (by decide)) (pe_fld (pv 0) rfl))
        (pe_fmt_df D_Either___str____v1 (hr.mono (by decide)) (pe_fld (pv 0) rfl)))) (.cons pe_str .nil)))))))), ?_⟩
    cases hP with
    | f _ => cases hk
    | @n and l r a dx p q' ha hl hr' =>
      cases hk
      have hc : H a = some (.ins C_Both dx (pairF p q')) := ha
      have one : ∀ {σ : L2.St} {H'} (_ : Ex H H') (_ : σ[0]? = some (some (.ref a))), Ev (tFld K (tVar 0) "_one") σ H' (.ref p) := fun e i0 => tFld_ev i0 (e _ _ hc) T.k_Both T.a_Both__one (pairF_one p q')
      have two : ∀ {σ : L2.St} {H'} (_ : Ex H H') (_ : σ[0]? = some (some (.ref a))), Ev (tFld K (tVar 0) "_other") σ H' (.ref q') := fun e i0 => tFld_ev i0 (e _ _ hc) T.k_Both T.a_Both__other (pairF_other p q')
      have hdl : l.depth ≤ 1 := by
        simp only [Pt.depth] at hd
        omega
      have hdr : r.depth ≤ 1 := by
        simp only [Pt.depth] at hd
        omega
      have hll : l.leaves ≤ 3 := by
        have := r.leaves_pos
        simp only [Pt.leaves] at h3
        omega
      have hlr : r.leaves ≤ 3 := by
        have := l.leaves_pos
        simp only [Pt.leaves] at h3
        omega
      have tl1 := text_len hl
      have tl2 := text_len hr'
      have e0 : ∀ z : Str, Str.empty ++ z = z := fun z => by
        cases z with
        | mk a => show (⟨#[] ++ a⟩ : Str) = ⟨a⟩; simp
      have a1 : ∀ a b : Str, (a ++ b).length = a.length + b.length := app_len
      have k1 : ("(" : Str).length = 1 := by decide +kernel
      have k2 : (")" : Str).length = 1 := by decide +kernel
      have k3 : (" & " : Str).length = 3 := by decide +kernel
      refine ⟨_, rfl, sz_of (by rw [e0, k1]; omega), v_fmt (one (Ex.refl _) rfl) hl hdl hll H (Ex.refl _) _ fun H1 e1 => ⟨_, rfl, sz_of (by rw [e0, a1, k1]; omega), _, rfl, sz_of (by rw [e0, a1, a1, k1, k3]; omega), v_fmt (two e1 rfl) (hr'.ex e1) hdr hlr H1 (Ex.refl _) _ fun H2 e2 => ⟨_, rfl, sz_of (by rw [e0, a1, a1, a1, k1, k3]; omega), _, rfl, sz_of (by rw [e0, a1, a1, a1, a1, k1, k2, k3]; omega), ?_⟩⟩⟩
      rw [e0]
      exact q H2 (e1.trans e2)
theorem ok_Either_forms__v2 {f : Addr} {fd : FuncData} (F : Fun K "forms" "Either.forms" s_Either_forms f fd) (T : Txt K mg a_FIELDS a_OPEN_PARTS C_Both C_Either C_Form C_Gluer C_Keeper C_Rule) (D_Form_forms : DfM P w K mg base C_Form "forms" ["self"] 1 (spForms C_Form C_Both C_Either none 0)) (D_Both_forms__v1 : DfM P w K mg base C_Both "forms" ["self"] 2 (spForms C_Form C_Both C_Either (some true) 1)) (D_Either_forms__v1 : DfM P w K mg base C_Either "forms" ["self"] 2 (spForms C_Form C_Both C_Either (some false) 1)) : FnOk P w K mg base CX0 3 f fd ["self"] (spForms C_Form C_Both C_Either (some false) 2) := by
  refine F.ok sc_Either_forms (fun vs H Q E h => ?_) (fun cdv A outer s0 H vs Q E hr h => ?_)
  · obtain ⟨a, t, rfl, _⟩ := h
    rfl
  · obtain ⟨a, t, rfl, ⟨hP, hk, hd⟩, h3, q⟩ := h
    refine ⟨_, (pss_one (ps_ret (pe_op op_cat (pe_alt (pe_mth0 T.k_Form D_Form_forms (hr.mono (by decide)) (pe_fld (pv 0) rfl))
        (pe_alt (pe_mth0 T.k_Both D_Both_forms__v1 (hr.mono (by decide)) (pe_fld (pv 0) rfl))
        (pe_mth0 T.k_Either D_Either_forms__v1 (hr.mono (by decide)) (pe_fld (pv 0) rfl)))) (pe_alt (pe_mth0 T.k_Form D_Form_forms (hr.mono (by decide)) (pe_fld (pv 0) rfl))
        (pe_alt (pe_mth0 T.k_Both D_Both_forms__v1 (hr.mono (by decide)) (pe_fld (pv 0) rfl))
        (pe_mth0 T.k_Either D_Either_forms__v1 (hr.mono (by decide)) (pe_fld (pv 0) rfl))))))), ?_⟩
    cases hP with
    | f _ => cases hk
    | @n and l r a dx p q' ha hl hr' =>
      cases hk
      have hc : H a = some (.ins C_Either dx (pairF p q')) := ha
      have one : ∀ {σ : L2.St} {H'} (_ : Ex H H') (_ : σ[0]? = some (some (.ref a))), Ev (tFld K (tVar 0) "_one") σ H' (.ref p) := fun e i0 => tFld_ev i0 (e _ _ hc) T.k_Either T.a_Either__one (pairF_one p q')
      have two : ∀ {σ : L2.St} {H'} (_ : Ex H H') (_ : σ[0]? = some (some (.ref a))), Ev (tFld K (tVar 0) "_other") σ H' (.ref q') := fun e i0 => tFld_ev i0 (e _ _ hc) T.k_Either T.a_Either__other (pairF_other p q')
      have hdl : l.depth ≤ 1 := by
        simp only [Pt.depth] at hd
        omega
      have hdr : r.depth ≤ 1 := by
        simp only [Pt.depth] at hd
        omega
      have hll : l.leaves ≤ 3 := by
        have := r.leaves_pos
        simp only [Pt.leaves] at h3
        omega
      have hlr : r.leaves ≤ 3 := by
        have := l.leaves_pos
        simp only [Pt.leaves] at h3
        omega
      have n1 := Pt.forms_len l
      have n2 := Pt.forms_len r
      exact ers_cat upF (v_forms (one (Ex.refl _) rfl) hl hdl hll) (v_forms (two (Ex.refl _) rfl) hr' hdr hlr) (by omega) H (Ex.refl _) _ q

theorem ok_Either___contains____v2 {f : Addr} {fd : FuncData} (F : Fun K "__contains__" "Either.__contains__" s_Either___contains__ f fd) (T : Txt K mg a_FIELDS a_OPEN_PARTS C_Both C_Either C_Form C_Gluer C_Keeper C_Rule) (D_Form___contains__ : DfC P w K mg base C_Form "__contains__" ["self", "line"] 3 (spIn C_Form)) (D_Both___contains____v1 : DfC P w K mg base C_Both "__contains__" ["self", "line"] 4 (spInP C_Form C_Both C_Either (some true) 1)) (D_Either___contains____v1 : DfC P w K mg base C_Either "__contains__" ["self", "line"] 4 (spInP C_Form C_Both C_Either (some false) 1)) : FnOk P w K mg base CX0 5 f fd ["self", "line"] (spInP C_Form C_Both C_Either (some false) 2) := by
  refine F.ok sc_Either___contains__ (fun vs H Q E h => ?_) (fun cdv A outer s0 H vs Q E hr h => ?_)
  · obtain ⟨a, t, z, rfl, _⟩ := h
    rfl
  · obtain ⟨a, t, z, rfl, ⟨hP, hk, hd⟩, hz, q⟩ := h
    refine ⟨_, (pss_one (ps_ret (pe_or (pe_alt (pe_cmpR (op_in_df D_Form___contains__ (hr.mono (by decide))) (pv 1) (pe_fld (pv 0) rfl) (by rfl))
        (pe_alt (pe_cmpR (op_in_df D_Both___contains____v1 (hr.mono (by decide))) (pv 1) (pe_fld (pv 0) rfl) (by rfl))
        (pe_cmpR (op_in_df D_Either___contains____v1 (hr.mono (by decide))) (pv 1) (pe_fld (pv 0) rfl) (by rfl)))) (pe_one (pe_alt (pe_cmpR (op_in_df D_Form___contains__ (hr.mono (by decide))) (pv 1) (pe_fld (pv 0) rfl) (by rfl))
        (pe_alt (pe_cmpR (op_in_df D_Both___contains____v1 (hr.mono (by decide))) (pv 1) (pe_fld (pv 0) rfl) (by rfl))
        (pe_cmpR (op_in_df D_Either___contains____v1 (hr.mono (by decide))) (pv 1) (pe_fld (pv 0) rfl) (by rfl)))))))), ?_⟩
    cases hP with
    | f _ => cases hk
    | @n and l r a dx p q' ha hl hr' =>
      cases hk
      have hc : H a = some (.ins C_Either dx (pairF p q')) := ha
      have one : ∀ {σ : L2.St} {H'} (_ : Ex H H') (_ : σ[0]? = some (some (.ref a))), Ev (tFld K (tVar 0) "_one") σ H' (.ref p) := fun e i0 => tFld_ev i0 (e _ _ hc) T.k_Either T.a_Either__one (pairF_one p q')
      have two : ∀ {σ : L2.St} {H'} (_ : Ex H H') (_ : σ[0]? = some (some (.ref a))), Ev (tFld K (tVar 0) "_other") σ H' (.ref q') := fun e i0 => tFld_ev i0 (e _ _ hc) T.k_Either T.a_Either__other (pairF_other p q')
      have hdl : l.depth ≤ 1 := by
        simp only [Pt.depth] at hd
        omega
      have hdr : r.depth ≤ 1 := by
        simp only [Pt.depth] at hd
        omega
      exact s_ret (v := .bl (Pt.in_ l z || Pt.in_ r z)) (ev_orV (v_in (ev_var rfl) (one (Ex.refl _) rfl) hl hdl hz) fun _ => (v_in (ev_var rfl) (two (Ex.refl _) rfl) hr' hdr hz)) fun H2 e2 => q H2 e2
theorem ok_Either___str____v2 {f : Addr} {fd : FuncData} (F : Fun K "__str__" "Either.__str__" s_Either___str__ f fd) (T : Txt K mg a_FIELDS a_OPEN_PARTS C_Both C_Either C_Form C_Gluer C_Keeper C_Rule) (D_Form___str__ : DfSt P w K mg base C_Form ["self"] 1 (spStrP C_Form C_Both C_Either none 0)) (D_Both___str____v1 : DfSt P w K mg base C_Both ["self"] 3 (spStrP C_Form C_Both C_Either (some true) 1)) (D_Either___str____v1 : DfSt P w K mg base C_Either ["self"] 3 (spStrP C_Form C_Both C_Either (some false) 1)) : FnOk P w K mg base CX0 5 f fd ["self"] (spStrP C_Form C_Both C_Either (some false) 2) := by
  refine F.ok sc_Either___str__ (fun vs H Q E h => ?_) (fun cdv A outer s0 H vs Q E hr h => ?_)
  · obtain ⟨a, t, rfl, _⟩ := h
    rfl
  · obtain ⟨a, t, rfl, ⟨hP, hk, hd⟩, h3, q⟩ := h
    refine ⟨_, (pss_one (ps_ret (pe_joined (.cons pe_str (.cons (pe_alt (pe_fmt_df D_Form___str__ (hr.mono (by decide)) (pe_fld (pv 0) rfl))
        (pe_alt (pe_fmt_df D_Both___str____v1 (hr.mono (by decide)) (pe_fld (pv 0) rfl))
        (pe_fmt_df D_Either___str____v1 (hr.mono (by decide)) (pe_fld (pv 0) rfl)))) (.cons pe_str (.cons (pe_alt (pe_fmt_df D_Form___str__ (hr.mono (by decide)) (pe_fld (pv 0) rfl))
        (pe_alt (pe_fmt_df D_Both___str____v1 (hr.mono (by decide)) (pe_fld (pv 0) rfl))
        (pe_fmt_df D_Either___str____v1 (hr.mono (by decide)) (pe_fld (pv 0) rfl)))) (.cons pe_str .nil)))))))), ?_⟩
    cases hP with
    | f _ => cases hk
    | @n and l r a dx p q' ha hl hr' =>
      cases hk
      have hc : H a = some (.ins C_Either dx (pairF p q')) := ha
      have one : ∀ {σ : L2.St} {H'} (_ : Ex H H') (_ : σ[0]? = some (some (.ref a))), Ev (tFld K (tVar 0) "_one") σ H' (.ref p) := fun e i0 => tFld_ev i0 (e _ _ hc) T.k_Either T.a_Either__one (pairF_one p q')
      have two : ∀ {σ : L2.St} {H'} (_ : Ex H H') (_ : σ[0]? = some (some (.ref a))), Ev (tFld K (tVar 0) "_other") σ H' (.ref q') := fun e i0 => tFld_ev i0 (e _ _ hc) T.k_Either T.a_Either__other (pairF_other p q')
      have hdl : l.depth ≤ 1 := by
        simp only [Pt.depth] at hd
        omega
      have hdr : r.depth ≤ 1 := by
        simp only [Pt.depth] at hd
        omega
      have hll : l.leaves ≤ 3 := by
        have := r.leaves_pos
        simp only [Pt.leaves] at h3
        omega
      have hlr : r.leaves ≤ 3 := by
        have := l.leaves_pos
        simp only [Pt.leaves] at h3
        omega
      have tl1 := text_len hl
      have tl2 := text_len hr'
      have e0 : ∀ z : Str, Str.empty ++ z = z := fun z => by
        cases z with
        | mk a => show (⟨#[] ++ a⟩ : Str) = ⟨a⟩; simp
      have a1 : ∀ a b : Str, (a ++ b).length = a.length + b.length := app_len
      have k1 : ("(" : Str).length = 1 := by decide +kernel
      have k2 : (")" : Str).length = 1 := by decide +kernel
      have k3 : (" | " : Str).length = 3 := by decide +kernel
      refine ⟨_, rfl, sz_of (by rw [e0, k1]; omega), v_fmt (one (Ex.refl _) rfl) hl hdl hll H (Ex.refl _) _ fun H1 e1 => ⟨_, rfl, sz_of (by rw [e0, a1, k1]; omega), _, rfl, sz_of (by rw [e0, a1, a1, k1, k3]; omega), v_fmt (two e1 rfl) (hr'.ex e1) hdr hlr H1 (Ex.refl _) _ fun H2 e2 => ⟨_, rfl, sz_of (by rw [e0, a1, a1, a1, k1, k3]; omega), _, rfl, sz_of (by rw [e0, a1, a1, a1, a1, k1, k2, k3]; omega), ?_⟩⟩⟩
      rw [e0]
      exact q H2 (e1.trans e2)

/-! ### lists of patterns: what they hold -/
def PatR (CF CB CE : Addr) (d : Nat) (t : Pt) (p : Addr) (H : Hp) : Prop := PatAt CF CB CE H t p ∧ t.depth ≤ d ∧ t.leaves ≤ 3
theorem upP {CF CB CE : Addr} {d : Nat} : Up (PatR CF CB CE d) := fun _ _ _ _ e h => ⟨h.1.ex e, h.2⟩
def GoodP (ps : List Str) : Prop := Parts ps ∧ 1 ≤ ps.length ∧ ps.length ≤ 4

/-! ### patterns joined by & and |, none refused -/
def Two (CF CB CE : Addr) (H : Hp) (l r : Pt) (p q : Addr) : Prop := PatAt CF CB CE H l p ∧ PatAt CF CB CE H r q ∧ l.depth ≤ 2 ∧ r.depth ≤ 2 ∧ l.leaves ≤ 3 ∧ r.leaves ≤ 3
theorem Two.ex {CF CB CE : Addr} {H H' : Hp} {l r : Pt} {p q : Addr} (h : Two CF CB CE H l r p q) (e : Ex H H') : Two CF CB CE H' l r p q := ⟨h.1.ex e, h.2.1.ex e, h.2.2⟩
def spRoom0 (CF CB CE : Addr) : Sp := fun vs H Q _ => ∃ (p q : Addr) (l r : Pt), vs = [.ref p, .ref q] ∧ Two CF CB CE H l r p q ∧ l.leaves + r.leaves ≤ 3 ∧ RetV .non H Q
def spPair0 (C CF CB CE : Addr) : Sp := fun vs H Q _ => ∃ (a dx p q : Addr) (l r : Pt), vs = [.ref a, .ref p, .ref q] ∧ H a = some (.ins C dx []) ∧ Two CF CB CE H l r p q ∧ l.leaves + r.leaves ≤ 3 ∧ ∀ H', Ex (hide a H) H' → H' a = some (.ins C dx (pairF p q)) → Q .non H'
def spJoin0 (and : Bool) (CF CB CE : Addr) : Sp := fun vs H Q _ => ∃ (p q : Addr) (l r : Pt), vs = [.ref p, .ref q] ∧ Two CF CB CE H l r p q ∧ l.leaves + r.leaves ≤ 3 ∧ ∀ x H', Ex H H' → PatAt CF CB CE H' (.n and l r) x → Q (.ref x) H'
theorem ok__check_room {f : Addr} {fd : FuncData} (F : Fun K "_check_room" "_check_room" s__check_room f fd) (T : Txt K mg a_FIELDS a_OPEN_PARTS C_Both C_Either C_Form C_Gluer C_Keeper C_Rule) (D_Form_forms : DfM P w K mg base C_Form "forms" ["self"] 1 (spForms C_Form C_Both C_Either none 0)) (D_Both_forms__v2 : DfM P w K mg base C_Both "forms" ["self"] 3 (spForms C_Form C_Both C_Either (some true) 2)) (D_Either_forms__v2 : DfM P w K mg base C_Either "forms" ["self"] 3 (spForms C_Form C_Both C_Either (some false) 2)) : FnOk P w K mg base CX0 4 f fd ["one", "other"] (spRoom0 C_Form C_Both C_Either) := by
  refine F.ok sc__check_room (fun vs H Q E h => ?_) (fun cdv A outer s0 H vs Q E hr h => ?_)
  · obtain ⟨p, q, l, r, rfl, _⟩ := h
    rfl
  · obtain ⟨p, q, l, r, rfl, ⟨hl, hq, d1, d2, n1, n2⟩, hn, qok⟩ := h
    refine ⟨_, (pss_one (ps_if (pt_cmpR op_gt (pe_op op_add (pe_callB call_len_seq (by rfl) T.n_len PySem.boot_len (pa_cons (pe_alt (pe_mth0 T.k_Form D_Form_forms (hr.mono (by decide)) (pv 0))
        (pe_alt (pe_mth0 T.k_Both D_Both_forms__v2 (hr.mono (by decide)) (pv 0))
        (pe_mth0 T.k_Either D_Either_forms__v2 (hr.mono (by decide)) (pv 0)))) pa_nil)) (pe_callB call_len_seq (by rfl) T.n_len PySem.boot_len (pa_cons (pe_alt (pe_mth0 T.k_Form D_Form_forms (hr.mono (by decide)) (pv 1))
        (pe_alt (pe_mth0 T.k_Both D_Both_forms__v2 (hr.mono (by decide)) (pv 1))
        (pe_mth0 T.k_Either D_Either_forms__v2 (hr.mono (by decide)) (pv 1)))) pa_nil))) (pe_cst T.c_MOST_FORMS (by rfl)) (nomark _))
      (pss_one ps_never)
      pss_nil)), ?_⟩
    have L1 := Pt.forms_len l
    have L2 := Pt.forms_len r
    refine s_when (b := decide ((3 : Int) < (l.forms.length : Int) + (r.forms.length : Int))) (et_test (ev_op (ev_op (ev_lenN (v_forms (ev_var rfl) hl d1 n1)) (ev_lenN (v_forms (ev_var rfl) hq d2 n2)) rv_add) ev_c rv_I0)) (fun hb H1 e1 => ?_) (fun hb H1 e1 => ?_)
    · have := of_decide_eq_true hb
      omega
    · exact qok H1 e1
theorem ok_Both___init__ {f : Addr} {fd : FuncData} (F : Fun K "__init__" "Both.__init__" s_Both___init__ f fd) (T : Txt K mg a_FIELDS a_OPEN_PARTS C_Both C_Either C_Form C_Gluer C_Keeper C_Rule) (D__check_room : Df P w K mg base "_check_room" ["one", "other"] 4 (spRoom0 C_Form C_Both C_Either)) : FnOk P w K mg base CX0 5 f fd ["self", "one", "other"] (spPair0 C_Both C_Form C_Both C_Either) := by
  refine F.ok sc_Both___init__ (fun vs H Q E h => ?_) (fun cdv A outer s0 H vs Q E hr h => ?_)
  · obtain ⟨a, dx, p, q, l, r, rfl, _⟩ := h
    rfl
  · obtain ⟨a, dx, p, q, l, r, rfl, ha, h2, hn, qok⟩ := h
    refine ⟨_, (pss_cons (ps_expr (pe_df D__check_room (hr.mono (by decide)) (by rfl) (pa_cons (pv 1) (pa_cons (pv 2) pa_nil))))
      (pss_cons (ps_fld (pv 0) (pv 1) rfl)
      (pss_one (ps_fld (pv 0) (pv 2) rfl)))), ?_⟩
    refine ⟨_, rfl, _, rfl, p, q, l, r, rfl, h2, hn, fun H1 e1 => ?_⟩
    exact ⟨_, rfl, _, rfl, a, C_Both, dx, [], rfl, e1 _ _ ha, T.k_Both, T.a_Both__one, by decide, _, rfl, _, rfl, a, C_Both, dx, _, rfl, upd_same, T.k_Both, T.a_Both__other, by
      have := length_putF ("_one" : Str) (.ref p) []
      simp only [List.length_nil] at this
      omega, qok _ (fun b o hb => by
        obtain ⟨nb, hb⟩ := hide_some hb
        rw [upd_ne nb, upd_ne nb]
        exact e1 _ _ hb) upd_same⟩
theorem ok_Either___init__ {f : Addr} {fd : FuncData} (F : Fun K "__init__" "Either.__init__" s_Either___init__ f fd) (T : Txt K mg a_FIELDS a_OPEN_PARTS C_Both C_Either C_Form C_Gluer C_Keeper C_Rule) (D__check_room : Df P w K mg base "_check_room" ["one", "other"] 4 (spRoom0 C_Form C_Both C_Either)) : FnOk P w K mg base CX0 5 f fd ["self", "one", "other"] (spPair0 C_Either C_Form C_Both C_Either) := by
  refine F.ok sc_Either___init__ (fun vs H Q E h => ?_) (fun cdv A outer s0 H vs Q E hr h => ?_)
  · obtain ⟨a, dx, p, q, l, r, rfl, _⟩ := h
    rfl
  · obtain ⟨a, dx, p, q, l, r, rfl, ha, h2, hn, qok⟩ := h
    refine ⟨_, (pss_cons (ps_expr (pe_df D__check_room (hr.mono (by decide)) (by rfl) (pa_cons (pv 1) (pa_cons (pv 2) pa_nil))))
      (pss_cons (ps_fld (pv 0) (pv 1) rfl)
      (pss_one (ps_fld (pv 0) (pv 2) rfl)))), ?_⟩
    refine ⟨_, rfl, _, rfl, p, q, l, r, rfl, h2, hn, fun H1 e1 => ?_⟩
    exact ⟨_, rfl, _, rfl, a, C_Either, dx, [], rfl, e1 _ _ ha, T.k_Either, T.a_Either__one, by decide, _, rfl, _, rfl, a, C_Either, dx, _, rfl, upd_same, T.k_Either, T.a_Either__other, by
      have := length_putF ("_one" : Str) (.ref p) []
      simp only [List.length_nil] at this
      omega, qok _ (fun b o hb => by
        obtain ⟨nb, hb⟩ := hide_some hb
        rw [upd_ne nb, upd_ne nb]
        exact e1 _ _ hb) upd_same⟩
theorem ok_Form___and__ {f : Addr} {fd : FuncData} (F : Fun K "__and__" "Form.__and__" s_Form___and__ f fd) (T : Txt K mg a_FIELDS a_OPEN_PARTS C_Both C_Either C_Form C_Gluer C_Keeper C_Rule) (D_Both___init__ : DfI P w K mg base "Both" C_Both ["self", "one", "other"] 5 (spPair0 C_Both C_Form C_Both C_Either)) : FnOk P w K mg base CX0 7 f fd ["self", "other"] (spJoin0 true C_Form C_Both C_Either) := by
  refine F.ok sc_Form___and__ (fun vs H Q E h => ?_) (fun cdv A outer s0 H vs Q E hr h => ?_)
  · obtain ⟨p, q, l, r, rfl, _⟩ := h
    rfl
  · obtain ⟨p, q, l, r, rfl, h2, hn, qok⟩ := h
    refine ⟨_, (pss_one (ps_ret (pe_mk D_Both___init__ (hr.mono (by decide)) (by rfl) (pa_cons (pv 0) (pa_cons (pv 1) pa_nil))))), ?_⟩
    refine ⟨_, rfl, _, rfl, fun x dx hx hdx hne => ?_⟩
    have hx1 : upd H dx (.own x) x = none := by
      rw [upd_ne (Ne.symm hne)]
      exact hx
    have e2 : Ex H (upd (upd H dx (.own x)) x (.ins C_Both dx [])) := (Ex.new hdx).trans (Ex.new hx1)
    refine ⟨x, dx, p, q, l, r, rfl, upd_same, h2.ex e2, hn, fun H1 e1 h1 => ⟨rfl, ?_⟩⟩
    have e3 : Ex H H1 := fun b o hb => e1 b o (by
      rw [hide_ne (ne_of_none hb hx)]
      exact e2 b o hb)
    exact qok x H1 e3 (.n (and := true) h1 (h2.1.ex e3) (h2.2.1.ex e3))
theorem ok_Form___or__ {f : Addr} {fd : FuncData} (F : Fun K "__or__" "Form.__or__" s_Form___or__ f fd) (T : Txt K mg a_FIELDS a_OPEN_PARTS C_Both C_Either C_Form C_Gluer C_Keeper C_Rule) (D_Either___init__ : DfI P w K mg base "Either" C_Either ["self", "one", "other"] 5 (spPair0 C_Either C_Form C_Both C_Either)) : FnOk P w K mg base CX0 7 f fd ["self", "other"] (spJoin0 false C_Form C_Both C_Either) := by
  refine F.ok sc_Form___or__ (fun vs H Q E h => ?_) (fun cdv A outer s0 H vs Q E hr h => ?_)
  · obtain ⟨p, q, l, r, rfl, _⟩ := h
    rfl
  · obtain ⟨p, q, l, r, rfl, h2, hn, qok⟩ := h
    refine ⟨_, (pss_one (ps_ret (pe_mk D_Either___init__ (hr.mono (by decide)) (by rfl) (pa_cons (pv 0) (pa_cons (pv 1) pa_nil))))), ?_⟩
    refine ⟨_, rfl, _, rfl, fun x dx hx hdx hne => ?_⟩
    have hx1 : upd H dx (.own x) x = none := by
      rw [upd_ne (Ne.symm hne)]
      exact hx
    have e2 : Ex H (upd (upd H dx (.own x)) x (.ins C_Either dx [])) := (Ex.new hdx).trans (Ex.new hx1)
    refine ⟨x, dx, p, q, l, r, rfl, upd_same, h2.ex e2, hn, fun H1 e1 h1 => ⟨rfl, ?_⟩⟩
    have e3 : Ex H H1 := fun b o hb => e1 b o (by
      rw [hide_ne (ne_of_none hb hx)]
      exact e2 b o hb)
    exact qok x H1 e3 (.n (and := false) h1 (h2.1.ex e3) (h2.2.1.ex e3))
theorem ok_Both___and__ {f : Addr} {fd : FuncData} (F : Fun K "__and__" "Both.__and__" s_Both___and__ f fd) (T : Txt K mg a_FIELDS a_OPEN_PARTS C_Both C_Either C_Form C_Gluer C_Keeper C_Rule) (D_Both___init__ : DfI P w K mg base "Both" C_Both ["self", "one", "other"] 5 (spPair0 C_Both C_Form C_Both C_Either)) : FnOk P w K mg base CX0 7 f fd ["self", "other"] (spJoin0 true C_Form C_Both C_Either) := by
  refine F.ok sc_Both___and__ (fun vs H Q E h => ?_) (fun cdv A outer s0 H vs Q E hr h => ?_)
  · obtain ⟨p, q, l, r, rfl, _⟩ := h
    rfl
  · obtain ⟨p, q, l, r, rfl, h2, hn, qok⟩ := h
    refine ⟨_, (pss_one (ps_ret (pe_mk D_Both___init__ (hr.mono (by decide)) (by rfl) (pa_cons (pv 0) (pa_cons (pv 1) pa_nil))))), ?_⟩
    refine ⟨_, rfl, _, rfl, fun x dx hx hdx hne => ?_⟩
    have hx1 : upd H dx (.own x) x = none := by
      rw [upd_ne (Ne.symm hne)]
      exact hx
    have e2 : Ex H (upd (upd H dx (.own x)) x (.ins C_Both dx [])) := (Ex.new hdx).trans (Ex.new hx1)
    refine ⟨x, dx, p, q, l, r, rfl, upd_same, h2.ex e2, hn, fun H1 e1 h1 => ⟨rfl, ?_⟩⟩
    have e3 : Ex H H1 := fun b o hb => e1 b o (by
      rw [hide_ne (ne_of_none hb hx)]
      exact e2 b o hb)
    exact qok x H1 e3 (.n (and := true) h1 (h2.1.ex e3) (h2.2.1.ex e3))
theorem ok_Both___or__ {f : Addr} {fd : FuncData} (F : Fun K "__or__" "Both.__or__" s_Both___or__ f fd) (T : Txt K mg a_FIELDS a_OPEN_PARTS C_Both C_Either C_Form C_Gluer C_Keeper C_Rule) (D_Either___init__ : DfI P w K mg base "Either" C_Either ["self", "one", "other"] 5 (spPair0 C_Either C_Form C_Both C_Either)) : FnOk P w K mg base CX0 7 f fd ["self", "other"] (spJoin0 false C_Form C_Both C_Either) := by
  refine F.ok sc_Both___or__ (fun vs H Q E h => ?_) (fun cdv A outer s0 H vs Q E hr h => ?_)
  · obtain ⟨p, q, l, r, rfl, _⟩ := h
    rfl
  · obtain ⟨p, q, l, r, rfl, h2, hn, qok⟩ := h
    refine ⟨_, (pss_one (ps_ret (pe_mk D_Either___init__ (hr.mono (by decide)) (by rfl) (pa_cons (pv 0) (pa_cons (pv 1) pa_nil))))), ?_⟩
    refine ⟨_, rfl, _, rfl, fun x dx hx hdx hne => ?_⟩
    have hx1 : upd H dx (.own x) x = none := by
      rw [upd_ne (Ne.symm hne)]
      exact hx
    have e2 : Ex H (upd (upd H dx (.own x)) x (.ins C_Either dx [])) := (Ex.new hdx).trans (Ex.new hx1)
    refine ⟨x, dx, p, q, l, r, rfl, upd_same, h2.ex e2, hn, fun H1 e1 h1 => ⟨rfl, ?_⟩⟩
    have e3 : Ex H H1 := fun b o hb => e1 b o (by
      rw [hide_ne (ne_of_none hb hx)]
      exact e2 b o hb)
    exact qok x H1 e3 (.n (and := false) h1 (h2.1.ex e3) (h2.2.1.ex e3))

/-! ### _law_tree, _law_built -/
abbrev Tr := Str × List Str × List Str
def TrR (t : Tr) (p : Addr) (H : Hp) : Prop := ∃ a b : Addr, H p = some (.lst [.str t.1, .ref a, .ref b]) ∧ H a = some (.lst (t.2.1.map V.str)) ∧ H b = some (.lst (t.2.2.map V.str))
theorem upTr : Up TrR := fun _ _ _ _ e ⟨a, b, h1, h2, h3⟩ => ⟨a, b, e _ _ h1, e _ _ h2, e _ _ h3⟩
def lawTree (s : Int × Int) : Tr × (Int × Int) :=
  if (take s 8).1 = 0 then (("|", (rich (take s 8).2).1, (rich (rich (take s 8).2).2).1), (rich (rich (take s 8).2).2).2)
  else if (take s 8).1 = 1 then (("&", [(lawText (take s 8).2).1, anyP], [anyP, (lawText (lawText (take s 8).2).2).1]), (lawText (lawText (take s 8).2).2).2)
  else if (take s 8).1 = 2 then (("&", (rich (take s 8).2).1, [anyP]), (rich (take s 8).2).2)
  else (("=", (rich (take s 8).2).1, []), (rich (take s 8).2).2)
/-- parts of a form, one to three, fixed texts of two signs at most -/
def F3 (ps : List Str) : Prop := Parts ps ∧ 1 ≤ ps.length ∧ ps.length ≤ 3 ∧ ∀ p ∈ ps, isOpen p = true ∨ p.length ≤ 2
inductive GoodT : Tr → Prop
  | alt {a b : List Str} : F3 a → F3 b → GoodT ("|", a, b)
  | both {x y : Str} : F3 [x, anyP] → F3 [anyP, y] → fixedP x → fixedP y → GoodT ("&", [x, anyP], [anyP, y])
  | any {a : List Str} : F3 a → F3 [anyP] → GoodT ("&", a, [anyP])
  | one {a : List Str} : F3 a → GoodT ("=", a, [])
theorem lawText_two {s : Int × Int} (h : Pk s) : (lawText s).1.length ≤ 2 := by
  have t2 := take_lt (s := (take s 3).2) (n := 2) (by decide)
  obtain ⟨h1, h2, h3⟩ := textN_ok (style := (take s 3).1) (take_pk (n := 2) (take_pk (n := 3) h)) (1 + (take (take s 3).2 2).1).toNat
  unfold lawText
  omega
theorem richT_two {st : List Str × (Int × Int)} (h : Pk st.2) (hp : ∀ p ∈ st.1, isOpen p = true ∨ p.length ≤ 2) : ∀ p ∈ (richT st).1, isOpen p = true ∨ p.length ≤ 2 := by
  have sn : ∀ x : Str, (isOpen x = true ∨ x.length ≤ 2) → ∀ p ∈ st.1 ++ [x], isOpen p = true ∨ p.length ≤ 2 := fun x hx p hpm => by
    rcases List.mem_append.mp hpm with z | z
    · exact hp p z
    · rw [List.mem_singleton.mp z]
      exact hx
  unfold richT
  split
  · exact sn _ (.inl open_any)
  · split
    · exact sn _ (.inl open_dig)
    · split
      · exact sn _ (.inl open_word)
      · exact sn _ (.inr (lawText_two (take_pk h)))
theorem richN_two {s : Int × Int} (h : Pk s) : ∀ n, ∀ p ∈ (richN n ([], s)).1, isOpen p = true ∨ p.length ≤ 2
  | 0 => fun p hp => by cases hp
  | n + 1 => richT_two (richN_ok h n).1 (richN_two h n)
theorem rich_f3 {s : Int × Int} (h : Pk s) : F3 (rich s).1 := by
  obtain ⟨_, h2, h3, h4⟩ := rich_ok h
  exact ⟨h2, h3, h4, richN_two (take_pk h) _⟩
theorem f3_any : F3 [anyP] := by
  refine ⟨⟨fun p hp => .inl (by rw [List.mem_singleton.mp hp]; exact open_any), fun i p q h1 h2 => ?_, fun i j h1 h2 => ?_⟩, by decide, by decide, fun p hp => .inl (by rw [List.mem_singleton.mp hp]; exact open_any)⟩
  · have : i + 1 < 1 := (List.getElem?_eq_some_iff.mp h2).1
    omega
  · have a3 : i < 1 := (List.getElem?_eq_some_iff.mp h1).1
    have a4 : j < 1 := (List.getElem?_eq_some_iff.mp h2).1
    omega
theorem fixed_open {x : Str} (h : fixedP x) : isOpen x = false ∨ True := .inr trivial
theorem fixed_ne {x : Str} (h : fixedP x) : x ≠ anyP := fun e => by
  have := h.2.2
  rw [e] at this
  exact absurd this (by decide +kernel)
theorem f3_xa {x : Str} (h : fixedP x) (h2 : x.length ≤ 2) : F3 [x, anyP] := by
  refine ⟨⟨fun p hp => ?_, fun i p q hi hj => ?_, fun i j hi hj => ?_⟩, by simp, by simp, fun p hp => ?_⟩
  · rcases List.mem_cons.mp hp with z | z
    · rw [z]
      exact .inr h
    · rw [List.mem_singleton.mp z]
      exact .inl open_any
  · match i, hi, hj with
    | 0, _, hj =>
      cases hj
      exact .inr open_any
    | i + 1, _, hj =>
      have : i + 1 + 1 < 2 := (List.getElem?_eq_some_iff.mp hj).1
      omega
  · have a1 : i < 2 := (List.getElem?_eq_some_iff.mp hi).1
    have a2 : j < 2 := (List.getElem?_eq_some_iff.mp hj).1
    match i, hi with
    | 0, hi =>
      cases hi
      exact absurd rfl (fixed_ne h)
    | 1, _ =>
      match j, hj with
      | 0, hj =>
        cases hj
        exact absurd rfl (fixed_ne h)
      | 1, _ => rfl
  · rcases List.mem_cons.mp hp with z | z
    · rw [z]
      exact .inr h2
    · rw [List.mem_singleton.mp z]
      exact .inl open_any
theorem f3_ax {x : Str} (h : fixedP x) (h2 : x.length ≤ 2) : F3 [anyP, x] := by
  refine ⟨⟨fun p hp => ?_, fun i p q hi hj => ?_, fun i j hi hj => ?_⟩, by simp, by simp, fun p hp => ?_⟩
  · rcases List.mem_cons.mp hp with z | z
    · rw [z]
      exact .inl open_any
    · rw [List.mem_singleton.mp z]
      exact .inr h
  · match i, hi, hj with
    | 0, hi, _ =>
      cases hi
      exact .inl open_any
    | i + 1, _, hj =>
      have : i + 1 + 1 < 2 := (List.getElem?_eq_some_iff.mp hj).1
      omega
  · have a1 : i < 2 := (List.getElem?_eq_some_iff.mp hi).1
    have a2 : j < 2 := (List.getElem?_eq_some_iff.mp hj).1
    match i, hi with
    | 1, hi =>
      cases hi
      exact absurd rfl (fixed_ne h)
    | 0, _ =>
      match j, hj with
      | 1, hj =>
        cases hj
        exact absurd rfl (fixed_ne h)
      | 0, _ => rfl
  · rcases List.mem_cons.mp hp with z | z
    · rw [z]
      exact .inl open_any
    · rw [List.mem_singleton.mp z]
      exact .inr h2
theorem lawTree_ok {s : Int × Int} (h : Pk s) : Pk (lawTree s).2 ∧ GoodT (lawTree s).1 := by
  have h8 : Pk (take s 8).2 := take_pk h
  unfold lawTree
  split
  · exact ⟨(rich_ok (rich_ok h8).1).1, .alt (rich_f3 h8) (rich_f3 (rich_ok h8).1)⟩
  · split
    · obtain ⟨k1, k2, k3⟩ := lawText_ok h8
      obtain ⟨m1, m2, m3⟩ := lawText_ok k1
      exact ⟨m1, .both (f3_xa ⟨k2, k3⟩ (lawText_two h8)) (f3_ax ⟨m2, m3⟩ (lawText_two k1)) ⟨k2, k3⟩ ⟨m2, m3⟩⟩
    · split
      · exact ⟨(rich_ok h8).1, .any (rich_f3 h8) f3_any⟩
      · exact ⟨(rich_ok h8).1, .one (rich_f3 h8)⟩
theorem back_p {p l : Addr} {H H1 : Hp} {o : HO} (e : Ex (hide p H) H1) (hp : H1 p = some o) (h : H1 l = none) : H l = none := by
  cases hl : H l with
  | none => rfl
  | some u =>
    have ne : l ≠ p := fun z => by
      rw [z, hp] at h
      cases h
    have := e l u (by rw [hide_ne ne]; exact hl)
    rw [h] at this
    cases this
def spTree : Sp := fun vs H Q _ => ∃ (p : Addr) (s : Int × Int), vs = [.ref p] ∧ H p = some (pl s) ∧ Pk s ∧ ∀ l H', H l = none → Ex (hide p H) H' → H' p = some (pl (lawTree s).2) → New TrR (lawTree s).1 l H H' → Q (.ref l) H'
theorem ok__law_tree {f : Addr} {fd : FuncData} (F : Fun K "_law_tree" "_law_tree" s__law_tree f fd) (T : Txt K mg a_FIELDS a_OPEN_PARTS C_Both C_Either C_Form C_Gluer C_Keeper C_Rule) (D__law_take : Df P w K mg base "_law_take" ["pool", "many"] 1 spTake)
    (D__law_text : Df P w K mg base "_law_text" ["pool"] 2 (spPT lawText)) (D__law_parts : Df P w K mg base "_law_parts" ["pool"] 3 spRich) : FnOk P w K mg base CX0 4 f fd ["pool"] spTree := by
  refine F.ok sc__law_tree (fun vs H Q E h => ?_) (fun cdv A outer s0 H vs Q E hr h => ?_)
  · obtain ⟨p, s, rfl, _⟩ := h
    rfl
  · obtain ⟨p, s, rfl, hp, hk, q⟩ := h
    refine ⟨_, (pss_cons (ps_set (i := 1) sc__law_tree.nd rfl (Or.inl rfl) (pe_df D__law_take (hr.mono (by decide)) (by rfl) (pa_cons (pv 0) (pa_cons pe_int pa_nil))))
      (pss_cons (ps_if (pt_cmpR op_eq (pv 1) pe_int (nomark _))
      (pss_one (ps_ret (pe_lst (pa_cons pe_str (pa_cons (pe_df D__law_parts (hr.mono (by decide)) (by rfl) (pa_cons (pv 0) pa_nil)) (pa_cons (pe_df D__law_parts (hr.mono (by decide)) (by rfl) (pa_cons (pv 0) pa_nil)) pa_nil))))))
      pss_nil)
      (pss_cons (ps_if (pt_cmpR op_eq (pv 1) pe_int (nomark _))
      (pss_one (ps_ret (pe_lst (pa_cons pe_str (pa_cons (pe_lst (pa_cons (pe_df D__law_text (hr.mono (by decide)) (by rfl) (pa_cons (pv 0) pa_nil)) (pa_cons pe_str pa_nil))) (pa_cons (pe_lst (pa_cons pe_str (pa_cons (pe_df D__law_text (hr.mono (by decide)) (by rfl) (pa_cons (pv 0) pa_nil)) pa_nil))) pa_nil))))))
      pss_nil)
      (pss_cons (ps_if (pt_cmpR op_eq (pv 1) pe_int (nomark _))
      (pss_one (ps_ret (pe_lst (pa_cons pe_str (pa_cons (pe_df D__law_parts (hr.mono (by decide)) (by rfl) (pa_cons (pv 0) pa_nil)) (pa_cons (pe_lst (pa_cons pe_str pa_nil)) pa_nil))))))
      pss_nil)
      (pss_one (ps_ret (pe_lst (pa_cons pe_str (pa_cons (pe_df D__law_parts (hr.mono (by decide)) (by rfl) (pa_cons (pv 0) pa_nil)) (pa_cons (pe_lst pa_nil) pa_nil)))))))))), ?_⟩
    have K0 := Kn.here hp
    have hk8 : Pk (take s 8).2 := take_pk hk
    refine qp_asg K0 (evp_take rfl hk (by decide) (by decide)) fun H1 K1 e1 => ?_
    have hp1 := K1.at_
    have fin : ∀ (t : Tr) (s' : Int × Int) (a b l : Addr) (H2 H3 : Hp), lawTree s = (t, s') → H a = none → H b = none → Ex (hide p H) H2 → H2 p = some (pl s') → H2 a = some (.lst (t.2.1.map V.str)) → H2 b = some (.lst (t.2.2.map V.str)) → H2 l = none → H3 = upd H2 l (.lst [.str t.1, .ref a, .ref b]) → Q (.ref l) H3 := by
      rintro t s' a b l H2 H3 he ha hb e2 hp2 ha2 hb2 hl rfl
      have hl0 := back_p e2 hp2 hl
      have ex := Ex.new (o := .lst [.str t.1, .ref a, .ref b]) hl
      refine q l _ hl0 (e2.trans ex) (by rw [he]; exact ex _ _ hp2) ?_
      rw [he]
      exact fun G hG => ⟨a, b, hG _ _ hl0 upd_same, hG _ _ ha (ex _ _ ha2), hG _ _ hb (ex _ _ hb2)⟩
    refine q_when (b := decide ((take s 8).1 = 0)) (et_test (ev_op (ev_var rfl) ev_c rv_eqI)) (fun hb H2 e2 => ?_) (fun hb H2 e2 => ?_)
    · have c0 := of_decide_eq_true hb
      refine ⟨_, rfl, p, _, rfl, e2 _ _ hp1, hk8, fun l1 H3 hl1 e3 g3 h3 => ⟨_, rfl, p, _, rfl, g3, (rich_ok hk8).1, fun l2 H4 hl2 e4 g4 h4 => ⟨sz_of (by simp), fun l hl => ?_⟩⟩⟩
      have e12 := e1.trans e2
      have e13 := hx_trans e12 e3
      have n1 : l1 ≠ p := fun z => by
        rw [z, e2 _ _ hp1] at hl1
        cases hl1
      refine fin (("|" : Str), (rich (take s 8).2).1, (rich (rich (take s 8).2).2).1) _ l1 l2 l H4 _ ?_ (back_p e12 (e2 _ _ hp1) hl1) (back_p e13 g3 hl2) (hx_trans e13 e4) g4 (e4 _ _ (by rw [hide_ne n1]; exact h3)) h4 hl rfl
      unfold lawTree
      rw [if_pos c0]
    have c0 := of_decide_eq_false hb
    have hp2 := e2 _ _ hp1
    have e12 := e1.trans e2
    refine q_when (b := decide ((take s 8).1 = 1)) (et_test (ev_op (ev_var rfl) ev_c rv_eqI)) (fun hb2 H3 e3 => ?_) (fun hb2 H3 e3 => ?_)
    · have c1 := of_decide_eq_true hb2
      obtain ⟨k1, k2, k3⟩ := lawText_ok hk8
      refine ⟨_, rfl, p, _, rfl, e3 _ _ hp2, hk8, fun H4 e4 g4 => ⟨sz_of (by simp), fun l1 hl1 => ⟨_, rfl, p, _, rfl, (Ex.new hl1) _ _ g4, k1, fun H5 e5 g5 => ⟨sz_of (by simp), fun l2 hl2 => ⟨sz_of (by simp), fun l hl => ?_⟩⟩⟩⟩⟩
      have e13 := e12.trans e3
      have e14 := hx_trans e13 e4
      have e14' := e14.trans (Ex.new (o := .lst [.str (lawText (take s 8).2).1, .str anyP]) hl1)
      have e15 := hx_trans e14' e5
      have n1 : l1 ≠ p := fun z => by
        rw [z, g4] at hl1
        cases hl1
      have x2 := Ex.new (o := .lst [.str anyP, .str (lawText (lawText (take s 8).2).2).1]) hl2
      refine fin (("&" : Str), [(lawText (take s 8).2).1, anyP], [anyP, (lawText (lawText (take s 8).2).2).1]) _ l1 l2 l _ _ ?_ (back_p e14 g4 hl1) (back_p e15 g5 hl2) (e15.trans x2) (x2 _ _ g5) (x2 _ _ (e5 _ _ (by rw [hide_ne n1]; exact upd_same))) upd_same hl rfl
      unfold lawTree
      rw [if_neg c0, if_pos c1]
    have c1 := of_decide_eq_false hb2
    have hp3 := e3 _ _ hp2
    have e13 := e12.trans e3
    refine q_when (b := decide ((take s 8).1 = 2)) (et_test (ev_op (ev_var rfl) ev_c rv_eqI)) (fun hb3 H4 e4 => ?_) (fun hb3 H4 e4 => ?_)
    · have c2 := of_decide_eq_true hb3
      refine ⟨_, rfl, p, _, rfl, e4 _ _ hp3, hk8, fun l1 H5 hl1 e5 g5 h5 => ⟨sz_of (by simp), fun l2 hl2 => ⟨sz_of (by simp), fun l hl => ?_⟩⟩⟩
      have e14 := e13.trans e4
      have e15 := hx_trans e14 e5
      have x2 := Ex.new (o := .lst [.str anyP]) hl2
      refine fin (("&" : Str), (rich (take s 8).2).1, [anyP]) _ l1 l2 l _ _ ?_ (back_p e14 (e4 _ _ hp3) hl1) (back_p e15 g5 hl2) (e15.trans x2) (x2 _ _ g5) (x2 _ _ h5) upd_same hl rfl
      unfold lawTree
      rw [if_neg c0, if_neg c1, if_pos c2]
    · have c2 := of_decide_eq_false hb3
      refine ⟨_, rfl, p, _, rfl, e4 _ _ hp3, hk8, fun l1 H5 hl1 e5 g5 h5 => ⟨sz_of (by simp), fun l2 hl2 => ⟨sz_of (by simp), fun l hl => ?_⟩⟩⟩
      have e14 := e13.trans e4
      have e15 := hx_trans e14 e5
      have x2 := Ex.new (o := .lst []) hl2
      refine fin (("=" : Str), (rich (take s 8).2).1, []) _ l1 l2 l _ _ ?_ (back_p e14 (e4 _ _ hp3) hl1) (back_p e15 g5 hl2) (e15.trans x2) (x2 _ _ g5) (x2 _ _ h5) upd_same hl rfl
      unfold lawTree
      rw [if_neg c0, if_neg c1, if_neg c2]
/-- the pattern that a tree tells -/
def ptOf (t : Tr) : Pt := if t.1 = "=" then .f t.2.1 else if t.1 = "&" then .n true (.f t.2.1) (.f t.2.2) else .n false (.f t.2.1) (.f t.2.2)
theorem F3.good {ps : List Str} (h : F3 ps) : GoodP ps := ⟨h.1, h.2.1, by have := h.2.2.1; omega⟩

/-! ### _law_built -/
theorem evf_form {σ : L2.St} {H : Hp} {C l : Addr} {te : TE} {ps : List Str} (h : Ev te σ H (.ref l)) (hL : H l = some (.lst (ps.map V.str))) (g : F3 ps) : EvF (tCall (spLawForm K C) [] E0 (tCons te tNil)) σ H C ps := fun H1 e Q q =>
  h H1 e _ fun H2 e2 => ⟨l, ps, rfl, sq_of (e2 _ _ (e _ _ hL)), g.1, g.2.1, g.2.2.1, fun a H3 ha e3 hF => q a H3 (fresh_back e2 ha) (e2.trans e3) hF⟩
def spBuilt (K : PySem.W.Frag) (CF CB CE : Addr) : Sp := fun vs H Q _ => ∃ (a : Addr) (t : Tr), vs = [.ref a] ∧ TrR t a H ∧ GoodT t ∧ ∀ p H2, Ex H H2 → PatR CF CB CE 2 (ptOf t) p H2 → Q (.ref p) H2
theorem tag_or : ¬ (("|" : Str) = "=") := by decide +kernel
theorem tag_or2 : ¬ (("|" : Str) = "&") := by decide +kernel
theorem tag_and : ¬ (("&" : Str) = "=") := by decide +kernel
theorem GoodT.cases {t : Tr} (h : GoodT t) : (t.1 = "=" ∧ F3 t.2.1) ∨ (t.1 = "&" ∧ F3 t.2.1 ∧ F3 t.2.2) ∨ (t.1 = "|" ∧ F3 t.2.1 ∧ F3 t.2.2) := by
  cases h with
  | alt h1 h2 => exact .inr (.inr ⟨rfl, h1, h2⟩)
  | both h1 h2 _ _ => exact .inr (.inl ⟨rfl, h1, h2⟩)
  | any h1 h2 => exact .inr (.inl ⟨rfl, h1, h2⟩)
  | one h1 => exact .inl ⟨rfl, h1⟩
theorem ok__law_built {f : Addr} {fd : FuncData} (F : Fun K "_law_built" "_law_built" s__law_built f fd) (T : Txt K mg a_FIELDS a_OPEN_PARTS C_Both C_Either C_Form C_Gluer C_Keeper C_Rule) (D__law_form : Df P w K mg base "_law_form" ["parts"] 5 (spLawForm K C_Form))
    (D_Form___and__ : DfO P w K mg base "and" C_Form ["self", "other"] 7 (spJoin0 true C_Form C_Both C_Either)) (D_Form___or__ : DfO P w K mg base "or" C_Form ["self", "other"] 7 (spJoin0 false C_Form C_Both C_Either)) : FnOk P w K mg base CX0 8 f fd ["tree"] (spBuilt K C_Form C_Both C_Either) := by
  refine F.ok sc__law_built (fun vs H Q E h => ?_) (fun cdv A outer s0 H vs Q E hr h => ?_)
  · obtain ⟨a, t, rfl, _⟩ := h
    rfl
  · obtain ⟨a, t, rfl, ⟨l1, l2, h0, h1, h2⟩, g, q⟩ := h
    refine ⟨_, (pss_cons (ps_if (pt_cmpR op_eq (pe_ix ix_list (pv 0) pe_int (fun _ _ => rfl)) pe_str (nomark _))
      (pss_one (ps_ret (pe_df D__law_form (hr.mono (by decide)) (by rfl) (pa_cons (pe_ix ix_list (pv 0) pe_int (fun _ _ => rfl)) pa_nil))))
      pss_nil)
      (pss_cons (ps_if (pt_cmpR op_eq (pe_ix ix_list (pv 0) pe_int (fun _ _ => rfl)) pe_str (nomark _))
      (pss_one (ps_ret (pe_op (op_dfO D_Form___and__ D_Form___and__ (.inl rfl) (hr.mono (by decide)) takes0) (pe_df D__law_form (hr.mono (by decide)) (by rfl) (pa_cons (pe_ix ix_list (pv 0) pe_int (fun _ _ => rfl)) pa_nil)) (pe_df D__law_form (hr.mono (by decide)) (by rfl) (pa_cons (pe_ix ix_list (pv 0) pe_int (fun _ _ => rfl)) pa_nil)))))
      pss_nil)
      (pss_one (ps_ret (pe_op (op_dfO D_Form___or__ D_Form___or__ (.inl rfl) (hr.mono (by decide)) takes0) (pe_df D__law_form (hr.mono (by decide)) (by rfl) (pa_cons (pe_ix ix_list (pv 0) pe_int (fun _ _ => rfl)) pa_nil)) (pe_df D__law_form (hr.mono (by decide)) (by rfl) (pa_cons (pe_ix ix_list (pv 0) pe_int (fun _ _ => rfl)) pa_nil))))))), ?_⟩
    have tag : ∀ {H1 : Hp} (_ : Ex H H1) (z : Str), EvT (tTest (tOp rEq (tOp (rIxL K) (tVar 0) (tC (.int 0))) (tC (.str z)))) [some (.ref a)] H1 (decide (t.1 = z)) := fun e z => et_test (ev_op (ev_op (ev_var rfl) ev_c (rv_ixL (sq_of (e _ _ h0)) rfl)) ev_c rv_eqS)
    have side1 : ∀ {H1 : Hp} (_ : Ex H H1) {C : Addr} (_ : F3 t.2.1), EvF (tCall (spLawForm K C) [] E0 (tCons (tOp (rIxL K) (tVar 0) (tC (.int 1))) tNil)) [some (.ref a)] H1 C t.2.1 := fun e C f3 => evf_form (ev_op (ev_var rfl) ev_c (rv_ixL (sq_of (e _ _ h0)) rfl)) (e _ _ h1) f3
    have side2 : ∀ {H1 : Hp} (_ : Ex H H1) {C : Addr} (_ : F3 t.2.2), EvF (tCall (spLawForm K C) [] E0 (tCons (tOp (rIxL K) (tVar 0) (tC (.int 2))) tNil)) [some (.ref a)] H1 C t.2.2 := fun e C f3 => evf_form (ev_op (ev_var rfl) ev_c (rv_ixL (sq_of (e _ _ h0)) rfl)) (e _ _ h2) f3
    have join : ∀ (and : Bool) {p r : Addr} {H3 : Hp}, F3 t.2.1 → F3 t.2.2 → FormAt C_Form H3 p t.2.1 → FormAt C_Form H3 r t.2.2 → ptOf t = .n and (.f t.2.1) (.f t.2.2) → Ex H H3 → rBinOwn C_Form C_Form (spJoin0 and C_Form C_Both C_Either) E0 (.ref p) (.ref r) H3 Q := fun and p r H3 f1 f2 hp hr' he ex => by
      obtain ⟨dx, t1, c1, g1, _⟩ := id hp
      obtain ⟨dy, t2, c2, g2, _⟩ := id hr'
      refine ⟨p, r, dx, dy, _, _, rfl, rfl, g1, g2, p, r, .f t.2.1, .f t.2.2, rfl, ⟨.f ⟨hp, f1.good⟩, .f ⟨hr', f2.good⟩, Nat.zero_le _, Nat.zero_le _, by show 1 ≤ 3; decide, by show 1 ≤ 3; decide⟩, by show 1 + 1 ≤ 3; decide, fun x H4 e4 hP => ⟨x, rfl, q x H4 (ex.trans e4) ?_⟩⟩
      rw [he]
      exact ⟨hP, by show max 0 0 + 1 ≤ 2; decide, by show 1 + 1 ≤ 3; decide⟩
    rcases g.cases with ⟨e, f1⟩ | ⟨e, f1, f2⟩ | ⟨e, f1, f2⟩
    · have pt : ptOf t = .f t.2.1 := if_pos e
      refine q_when (b := true) (et_is (tag (Ex.refl _) "=") (decide_eq_true e)) (fun _ H1 e1 => ?_) (fun z => by cases z)
      refine s_retF (side1 e1 f1) fun p H2 hp e2 hF => q p H2 (e1.trans e2) ?_
      rw [pt]
      exact ⟨.f ⟨hF, f1.good⟩, Nat.zero_le _, by show 1 ≤ 3; decide⟩
    · have n1 : ¬ t.1 = "=" := by rw [e]; exact tag_and
      have pt : ptOf t = .n true (.f t.2.1) (.f t.2.2) := by
        unfold ptOf
        rw [if_neg n1, if_pos e]
      refine q_when (b := false) (et_is (tag (Ex.refl _) "=") (decide_eq_false n1)) (fun z => by cases z) (fun _ H1 e1 => ?_)
      refine q_when (b := true) (et_is (tag e1 "&") (decide_eq_true e)) (fun _ H2 e2 => ?_) (fun z => by cases z)
      have e12 := e1.trans e2
      exact side1 e12 f1 H2 (Ex.refl _) _ fun p H3 hp e3 hF => side2 (e12.trans e3) f2 H3 (Ex.refl _) _ fun r H4 hr4 e4 hF2 => join true f1 f2 (hF.ex e4) hF2 pt ((e12.trans e3).trans e4)
    · have n1 : ¬ t.1 = "=" := by rw [e]; exact tag_or
      have n2 : ¬ t.1 = "&" := by rw [e]; exact tag_or2
      have pt : ptOf t = .n false (.f t.2.1) (.f t.2.2) := by
        unfold ptOf
        rw [if_neg n1, if_neg n2]
      refine q_when (b := false) (et_is (tag (Ex.refl _) "=") (decide_eq_false n1)) (fun z => by cases z) (fun _ H1 e1 => ?_)
      refine q_when (b := false) (et_is (tag e1 "&") (decide_eq_false n2)) (fun z => by cases z) (fun _ H2 e2 => ?_)
      have e12 := e1.trans e2
      exact side1 e12 f1 H2 (Ex.refl _) _ fun p H3 hp e3 hF => side2 (e12.trans e3) f2 H3 (Ex.refl _) _ fun r H4 hr4 e4 hF2 => join false f1 f2 (hF.ex e4) hF2 pt ((e12.trans e3).trans e4)

theorem pt_one {t : Tr} (e : t.1 = "=") : ptOf t = .f t.2.1 := if_pos e
theorem pt_and {t : Tr} (e : t.1 = "&") : ptOf t = .n true (.f t.2.1) (.f t.2.2) := by
  unfold ptOf
  rw [if_neg (by rw [e]; exact tag_and), if_pos e]
theorem pt_or {t : Tr} (e : t.1 = "|") : ptOf t = .n false (.f t.2.1) (.f t.2.2) := by
  unfold ptOf
  rw [if_neg (by rw [e]; exact tag_or), if_neg (by rw [e]; exact tag_or2)]

/-! ### _law_bears -/
def spBears : Sp := fun vs H Q _ => ∃ (a : Addr) (t : Tr) (z : Str), vs = [.ref a, .str z] ∧ TrR t a H ∧ GoodT t ∧ Lny z ∧ z.length ≤ 1000 ∧ RetV (.bl ((ptOf t).in_ z)) H Q
theorem ok__law_bears {f : Addr} {fd : FuncData} (F : Fun K "_law_bears" "_law_bears" s__law_bears f fd) (T : Txt K mg a_FIELDS a_OPEN_PARTS C_Both C_Either C_Form C_Gluer C_Keeper C_Rule) (D__law_fits : Df P w K mg base "_law_fits" ["parts", "line"] 3 (spFits K)) : FnOk P w K mg base CX0 4 f fd ["tree", "line"] spBears := by
  refine F.ok sc__law_bears (fun vs H Q E h => ?_) (fun cdv A outer s0 H vs Q E hr h => ?_)
  · obtain ⟨a, t, z, rfl, _⟩ := h
    rfl
  · obtain ⟨a, t, z, rfl, ⟨l1, l2, h0, h1, h2⟩, g, hz, hn, q⟩ := h
    refine ⟨_, (pss_cons (ps_if (pt_cmpR op_eq (pe_ix ix_list (pv 0) pe_int (fun _ _ => rfl)) pe_str (nomark _))
      (pss_one (ps_ret (pe_df D__law_fits (hr.mono (by decide)) (by rfl) (pa_cons (pe_ix ix_list (pv 0) pe_int (fun _ _ => rfl)) (pa_cons (pv 1) pa_nil)))))
      pss_nil)
      (pss_cons (ps_if (pt_cmpR op_eq (pe_ix ix_list (pv 0) pe_int (fun _ _ => rfl)) pe_str (nomark _))
      (pss_one (ps_ret (pe_and (pe_df D__law_fits (hr.mono (by decide)) (by rfl) (pa_cons (pe_ix ix_list (pv 0) pe_int (fun _ _ => rfl)) (pa_cons (pv 1) pa_nil))) (pe_one (pe_df D__law_fits (hr.mono (by decide)) (by rfl) (pa_cons (pe_ix ix_list (pv 0) pe_int (fun _ _ => rfl)) (pa_cons (pv 1) pa_nil)))))))
      pss_nil)
      (pss_one (ps_ret (pe_or (pe_df D__law_fits (hr.mono (by decide)) (by rfl) (pa_cons (pe_ix ix_list (pv 0) pe_int (fun _ _ => rfl)) (pa_cons (pv 1) pa_nil))) (pe_one (pe_df D__law_fits (hr.mono (by decide)) (by rfl) (pa_cons (pe_ix ix_list (pv 0) pe_int (fun _ _ => rfl)) (pa_cons (pv 1) pa_nil))))))))), ?_⟩
    have tag : ∀ {H1 : Hp} (_ : Ex H H1) (u : Str), EvT (tTest (tOp rEq (tOp (rIxL K) (tVar 0) (tC (.int 0))) (tC (.str u)))) [some (.ref a), some (.str z)] H1 (decide (t.1 = u)) := fun e u => et_test (ev_op (ev_op (ev_var rfl) ev_c (rv_ixL (sq_of (e _ _ h0)) rfl)) ev_c rv_eqS)
    have fit : ∀ {H1 : Hp} {l : Addr} {ps : List Str} (k : Nat), Ex H H1 → ([V.str t.1, V.ref l1, V.ref l2] : List V)[k]? = some (.ref l) → H l = some (.lst (ps.map V.str)) → F3 ps → Ev (tCall (spFits K) [] E0 (tCons (tOp (rIxL K) (tVar 0) (tC (.int (k : Int)))) (tCons (tVar 1) tNil))) [some (.ref a), some (.str z)] H1 (.bl (inForm ps z)) := fun {H1 l ps} k e hk hl f3 => by
      rw [inForm_fits f3.1 hz]
      exact ev_call (ea_cons (ev_op (ev_var rfl) ev_c (rv_ixL (sq_of (e _ _ h0)) (atI_nat hk))) (ea_cons (ev_var rfl) ea_nil)) fun H2 e2 Q' q' E' => ⟨l, ps, z, rfl, sq_of (e2 _ _ (e _ _ hl)), fun p hp => by have := f3.1.len p hp; omega, hn, q'⟩
    rcases g.cases with ⟨e, f1⟩ | ⟨e, f1, f2⟩ | ⟨e, f1, f2⟩
    · rw [pt_one e] at q
      refine q_when (b := true) (et_is (tag (Ex.refl _) "=") (decide_eq_true e)) (fun _ H1 e1 => ?_) (fun z => by cases z)
      exact s_ret (fit 1 e1 rfl h1 f1) fun H2 e2 => q H2 (e1.trans e2)
    · rw [pt_and e] at q
      have n1 : ¬ t.1 = "=" := by rw [e]; exact tag_and
      refine q_when (b := false) (et_is (tag (Ex.refl _) "=") (decide_eq_false n1)) (fun z => by cases z) (fun _ H1 e1 => ?_)
      refine q_when (b := true) (et_is (tag e1 "&") (decide_eq_true e)) (fun _ H2 e2 => ?_) (fun z => by cases z)
      exact s_ret (ev_andV (fit 1 (e1.trans e2) rfl h1 f1) fun _ => fit 2 (e1.trans e2) rfl h2 f2) fun H3 e3 => q H3 ((e1.trans e2).trans e3)
    · rw [pt_or e] at q
      have n1 : ¬ t.1 = "=" := by rw [e]; exact tag_or
      have n2 : ¬ t.1 = "&" := by rw [e]; exact tag_or2
      refine q_when (b := false) (et_is (tag (Ex.refl _) "=") (decide_eq_false n1)) (fun z => by cases z) (fun _ H1 e1 => ?_)
      refine q_when (b := false) (et_is (tag e1 "&") (decide_eq_false n2)) (fun z => by cases z) (fun _ H2 e2 => ?_)
      exact s_ret (ev_orV (fit 1 (e1.trans e2) rfl h1 f1) fun _ => fit 2 (e1.trans e2) rfl h2 f2) fun H3 e3 => q H3 ((e1.trans e2).trans e3)

/-! ### _law_line of the grammar laws, _law_written, _law_bears -/
/-- a text of signs, not too long -/
def Zs (z : Str) : Prop := Lny z ∧ z.length ≤ 100
def RetZ (p : Addr) (H : Hp) (Q : VK) : Prop := ∀ (z : Str) (s' : Int × Int), Zs z → Pk s' → RetP p s' (.str z) H Q
def spLine2 (K : PySem.W.Frag) : Sp := fun vs H Q _ => ∃ (p : Addr) (s : Int × Int) (a : Addr) (ps : List Str), vs = [.ref p, .ref a] ∧ H p = some (pl s) ∧ Pk s ∧ hide p H a = some (.lst (ps.map V.str)) ∧ (∀ p ∈ ps, isOpen p = true ∨ fixedP p) ∧ ps.length ≤ 4 ∧ RetZ p H Q
theorem ok__law_line {f : Addr} {fd : FuncData} (F : Fun K "_law_line" "_law_line" s__law_line f fd) (T : Txt K mg a_FIELDS a_OPEN_PARTS C_Both C_Either C_Form C_Gluer C_Keeper C_Rule) (D__law_take : Df P w K mg base "_law_take" ["pool", "many"] 1 spTake)
    (D__law_text : Df P w K mg base "_law_text" ["pool"] 2 (spPT lawText)) : FnOk P w K mg base CX0 3 f fd ["pool", "parts"] (spLine2 K) := by
  refine F.ok sc__law_line (fun vs H Q E h => ?_) (fun cdv A outer s0 H vs Q E hr h => ?_)
  · obtain ⟨p, s, a, ps, rfl, _⟩ := h
    rfl
  · obtain ⟨p, s, a, ps, rfl, hp, hk, hA, hps, hn, q⟩ := h
    refine ⟨_, (pss_cons (ps_set (i := 2) sc__law_line.nd rfl (Or.inl rfl) pe_str)
      (pss_cons (ps_for PassesOwn.never rfl (pi_list (pv 1)) (pg_name (i := 3) sc__law_line.nd rfl (Or.inl rfl))
      (pss_one (ps_if (pt_cmpR op_eq (pv 3) pe_str (nomark _))
      (pss_one (ps_set (i := 2) sc__law_line.nd rfl (Or.inl rfl) (pe_op op_add_str (pv 2) (pe_op op_mulS (pe_ix ix_str pe_str (pe_df D__law_take (hr.mono (by decide)) (by rfl) (pa_cons (pv 0) (pa_cons pe_int pa_nil))) (fun _ _ => rfl)) (pe_op op_add pe_int (pe_df D__law_take (hr.mono (by decide)) (by rfl) (pa_cons (pv 0) (pa_cons pe_int pa_nil))))))))
      (pss_one (ps_if (pt_cmpR op_eq (pv 3) pe_str (nomark _))
      (pss_one (ps_set (i := 2) sc__law_line.nd rfl (Or.inl rfl) (pe_op op_add_str (pv 2) (pe_op op_mulS (pe_ix ix_str pe_str (pe_df D__law_take (hr.mono (by decide)) (by rfl) (pa_cons (pv 0) (pa_cons pe_int pa_nil))) (fun _ _ => rfl)) (pe_op op_add pe_int (pe_df D__law_take (hr.mono (by decide)) (by rfl) (pa_cons (pv 0) (pa_cons pe_int pa_nil))))))))
      (pss_one (ps_if (pt_cmpR op_eq (pv 3) pe_str (nomark _))
      (pss_one (ps_set (i := 2) sc__law_line.nd rfl (Or.inl rfl) (pe_op op_add_str (pv 2) (pe_op op_mulS (pe_df D__law_text (hr.mono (by decide)) (by rfl) (pa_cons (pv 0) pa_nil)) (pe_df D__law_take (hr.mono (by decide)) (by rfl) (pa_cons (pv 0) (pa_cons pe_int pa_nil)))))))
      (pss_one (ps_set (i := 2) sc__law_line.nd rfl (Or.inl rfl) (pe_op op_add_str (pv 2) (pv 3)))))))))))
      (pss_cons (ps_if (pt_cmpR op_eq (pv 2) pe_str (nomark _))
      (pss_one (ps_ret (pe_df D__law_text (hr.mono (by decide)) (by rfl) (pa_cons (pv 0) pa_nil))))
      pss_nil)
      (pss_one (ps_ret (pv 2)))))), ?_⟩
    have K0 := Kn.here hp
    refine q_asg ev_c fun H1 e1 => ?_
    refine q_forLn (ev_var rfl) (sq_of (e1 _ _ (hide_le _ _ hA))) (fun i σ' H' => ∃ (z : Str) (s' : Int × Int) (y : Option V), σ' = [some (.ref p), some (.ref a), some (.str z), y] ∧ Kn (hide p H) p s' H' ∧ Pk s' ∧ Lny z ∧ z.length ≤ 12 * i) (fun H2 e2 => ⟨_, s, none, rfl, (K0.same e1).same e2, hk, lny_nil, by decide +kernel⟩) (fun i σ' H' _ pv => ?_) ?_ ?_
    · obtain ⟨_, _, _, _, K2, _⟩ := pv
      exact sq_of (K2.ex _ _ hA)
    · rintro i x σ' H2 hx ⟨z, s2, y, rfl, K2, hk2, hl2, hn2⟩
      obtain ⟨pt, hpt, rfl⟩ := mem_str hx
      have hpm := hps pt (List.mem_of_getElem? hpt)
      have hi := (List.getElem?_eq_some_iff.mp hpt).1
      have a1 := take_lt (s := s2) (n := 10) (by decide)
      have a2 := take_lt (s := (take s2 10).2) (n := 2) (by decide)
      have b1 := take_lt (s := s2) (n := 4) (by decide)
      have b2 := take_lt (s := (take s2 4).2) (n := 2) (by decide)
      have c2 := take_lt (s := (lawText s2).2) (n := 3) (by decide)
      have tx := lawText_ok hk2
      have add : ∀ {u : Str}, Lny u → u.length ≤ 12 → Lny (z ++ u) ∧ (z ++ u).length ≤ 12 * (i + 1) := fun h1 h2 => ⟨lny_app hl2 h1, by rw [app_len]; omega⟩
      refine s_if (b := decide (pt = digP)) (et_test (ev_op (ev_var rfl) ev_c rv_eqS)) (fun hb H3 e3 => ?_) (fun hb H3 e3 => ?_)
      · have rl : (rep1 digS (take s2 10).1 (take (take s2 10).2 2).1).length ≤ 12 := by
          unfold rep1
          rw [repS_len]
          show _ * 1 ≤ _
          omega
        obtain ⟨g1, g2⟩ := add (u := rep1 digS (take s2 10).1 (take (take s2 10).2 2).1) (lny_rep (lny_sgn (z := digS) (by unfold Lny; decide +kernel) a1.1 (by rw [show digS.length = 10 by decide +kernel]; exact a1.2)) _) rl
        refine sp_asg (K2.same e3) (evp_op (EvP.of (ev_var rfl)) (evp_op (evp_op (EvP.of ev_c) (evp_take rfl hk2 (by decide) (by decide)) (rv_ixS (w := digS) (by decide +kernel) (sgn_ix a1.1 (by rw [show digS.length = 10 by decide +kernel]; exact a1.2)))) (evp_op (EvP.of ev_c) (evp_take rfl (take_pk hk2) (by decide) (by decide)) rv_add) (rv_rep (by omega) (by omega) (by show (1 : Nat) ≤ 1000; decide))) (rv_cat ?_)) fun H5 K5 e5 => ⟨_, _, _, rfl, K5, take_pk (take_pk hk2), g1, g2⟩
        show z.length + (rep1 digS (take s2 10).1 (take (take s2 10).2 2).1).length ≤ _
        omega
      · refine s_if (b := decide (pt = wordP)) (et_test (ev_op (ev_var rfl) ev_c rv_eqS)) (fun hc H4 e4 => ?_) (fun hc H4 e4 => ?_)
        · have rl : (rep1 fourS (take s2 4).1 (take (take s2 4).2 2).1).length ≤ 12 := by
            unfold rep1
            rw [repS_len]
            show _ * 1 ≤ _
            omega
          obtain ⟨g1, g2⟩ := add (u := rep1 fourS (take s2 4).1 (take (take s2 4).2 2).1) (lny_rep (lny_sgn (z := fourS) (by unfold Lny; decide +kernel) b1.1 (by rw [show fourS.length = 4 by decide +kernel]; exact b1.2)) _) rl
          refine sp_asg ((K2.same e3).same e4) (evp_op (EvP.of (ev_var rfl)) (evp_op (evp_op (EvP.of ev_c) (evp_take rfl hk2 (by decide) (by decide)) (rv_ixS (w := fourS) (by decide +kernel) (sgn_ix b1.1 (by rw [show fourS.length = 4 by decide +kernel]; exact b1.2)))) (evp_op (EvP.of ev_c) (evp_take rfl (take_pk hk2) (by decide) (by decide)) rv_add) (rv_rep (by omega) (by omega) (by show (1 : Nat) ≤ 1000; decide))) (rv_cat ?_)) fun H5 K5 e5 => ⟨_, _, _, rfl, K5, take_pk (take_pk hk2), g1, g2⟩
          show z.length + (rep1 fourS (take s2 4).1 (take (take s2 4).2 2).1).length ≤ _
          omega
        · refine s_if (b := decide (pt = anyP)) (et_test (ev_op (ev_var rfl) ev_c rv_eqS)) (fun hd H5 e5 => ?_) (fun hd H5 e5 => ?_)
          · have rl : (repS (lawText s2).1 (take (lawText s2).2 3).1.toNat).length ≤ 12 := by
              rw [repS_len]
              have h2 : (take (lawText s2).2 3).1.toNat * (lawText s2).1.length ≤ 3 * 4 := Nat.mul_le_mul (by omega) tx.2.2.2
              omega
            obtain ⟨g1, g2⟩ := add (u := repS (lawText s2).1 (take (lawText s2).2 3).1.toNat) (lny_rep tx.2.1 _) rl
            exact sp_asg (((K2.same e3).same e4).same e5) (evp_op (EvP.of (ev_var rfl)) (evp_op (evp_pt rfl hk2) (evp_take rfl tx.1 (by decide) (by decide)) (rv_rep (by omega) (by omega) (by omega))) (rv_cat (by omega))) fun H6 K6 e6 => ⟨_, _, _, rfl, K6, take_pk tx.1, g1, g2⟩
          · have hpl : pt.length ≤ 8 := hpm.elim open_len (fun k => by have := k.2.2; omega)
            have n1 := of_decide_eq_false hb
            have n2 := of_decide_eq_false hc
            have n3 := of_decide_eq_false hd
            have fx : fixedP pt := hpm.elim (fun o => by
              rcases isOpen_iff.mp o with h | h | h
              · exact absurd h (by first | exact n3 | exact n1 | exact n2)
              · exact absurd h (by first | exact n3 | exact n1 | exact n2)
              · exact absurd h (by first | exact n3 | exact n1 | exact n2)) id
            obtain ⟨g1, g2⟩ := add fx.1 (by omega)
            exact sp_asg (((K2.same e3).same e4).same e5) (EvP.of (ev_op (ev_var rfl) (ev_var rfl) (rv_cat (by omega)))) fun H6 K6 e6 => ⟨_, _, _, rfl, K6, hk2, g1, g2⟩
    · rintro σ' H2 ⟨z, s2, y, rfl, K2, hk2, hl2, hn2⟩
      rw [List.length_map] at hn2
      by_cases hz : z = ("" : Str)
      · refine q_when (b := true) (et_is (et_test (ev_op (ev_var rfl) ev_c rv_eqS)) (decide_eq_true hz)) (fun _ H3 e3 => ?_) (fun z => by cases z)
        have tx := lawText_ok hk2
        have K3 := K2.same e3
        exact sp_ret K3 (evp_pt rfl hk2) fun H4 K4 e4 => q _ _ ⟨tx.2.1, by omega⟩ tx.1 H4 (hx_trans K3.ex e4) K4.at_
      · refine q_when (b := false) (et_is (et_test (ev_op (ev_var rfl) ev_c rv_eqS)) (decide_eq_false hz)) (fun z => by cases z) (fun _ H3 e3 => ?_)
        have K3 := K2.same e3
        exact s_ret (ev_var rfl) fun H4 e4 => q _ _ ⟨hl2, by omega⟩ hk2 H4 (hx_trans K3.ex (hx_of e4)) (e4 p _ K3.at_)
def spWritten (K : PySem.W.Frag) : Sp := fun vs H Q _ => ∃ (p : Addr) (s : Int × Int) (a : Addr) (t : Tr), vs = [.ref p, .ref a] ∧ H p = some (pl s) ∧ Pk s ∧ TrR t a (hide p H) ∧ GoodT t ∧ RetZ p H Q
theorem ok__law_written {f : Addr} {fd : FuncData} (F : Fun K "_law_written" "_law_written" s__law_written f fd) (T : Txt K mg a_FIELDS a_OPEN_PARTS C_Both C_Either C_Form C_Gluer C_Keeper C_Rule) (D__law_take : Df P w K mg base "_law_take" ["pool", "many"] 1 spTake) (D__law_text : Df P w K mg base "_law_text" ["pool"] 2 (spPT lawText))
    (D__law_line : Df P w K mg base "_law_line" ["pool", "parts"] 3 (spLine2 K)) : FnOk P w K mg base CX0 4 f fd ["pool", "tree"] (spWritten K) := by
  refine F.ok sc__law_written (fun vs H Q E h => ?_) (fun cdv A outer s0 H vs Q E hr h => ?_)
  · obtain ⟨p, s, a, t, rfl, _⟩ := h
    rfl
  · obtain ⟨p, s, a, t, rfl, hp, hk, ⟨l1, l2, h0, h1, h2⟩, g, q⟩ := h
    refine ⟨_, (pss_cons (ps_if (PW.pt (pw_and (pt_cmpR op_eq (pe_ix ix_list (pv 1) pe_int (fun _ _ => rfl)) pe_str (nomark _)) (pw_and1 (pt_cmpR op_eq (pe_df D__law_take (hr.mono (by decide)) (by rfl) (pa_cons (pv 0) (pa_cons pe_int pa_nil))) pe_int (nomark _)))))
      (pss_one (ps_ret (pe_df D__law_line (hr.mono (by decide)) (by rfl) (pa_cons (pv 0) (pa_cons (pe_ix ix_list (pv 1) pe_int (fun _ _ => rfl)) pa_nil)))))
      pss_nil)
      (pss_cons (ps_if (PW.pt (pw_and (pt_cmpR op_eq (pe_ix ix_list (pv 1) pe_int (fun _ _ => rfl)) pe_str (nomark _)) (pw_and1 (pt_cmpR op_eq (pe_callB call_len (by rfl) T.n_len PySem.boot_len (pa_cons (pe_ix ix_list (pv 1) pe_int (fun _ _ => rfl)) pa_nil)) pe_int (nomark _)))))
      (pss_one (ps_ret (pe_op op_add_str (pe_op op_add_str (pe_ix ix_list (pe_ix ix_list (pv 1) pe_int (fun _ _ => rfl)) pe_int (fun _ _ => rfl)) (pe_op op_mulS (pe_df D__law_text (hr.mono (by decide)) (by rfl) (pa_cons (pv 0) pa_nil)) (pe_df D__law_take (hr.mono (by decide)) (by rfl) (pa_cons (pv 0) (pa_cons pe_int pa_nil))))) (pe_ix ix_list (pe_ix ix_list (pv 1) pe_int (fun _ _ => rfl)) pe_int (fun _ _ => rfl)))))
      pss_nil)
      (pss_one (ps_ret (pe_df D__law_line (hr.mono (by decide)) (by rfl) (pa_cons (pv 0) (pa_cons (pe_ix ix_list (pv 1) pe_int (fun _ _ => rfl)) pa_nil))))))), ?_⟩
    obtain ⟨G, hG⟩ : ∃ G, G = hide p H := ⟨_, rfl⟩
    rw [← hG] at h0 h1 h2
    have K0 : Kn G p s H := hG ▸ Kn.here hp
    have tag : ∀ {H1 : Hp} (_ : Ex G H1) (z : Str), EvT (tTest (tOp rEq (tOp (rIxL K) (tVar 0 |> fun _ => tVar 1) (tC (.int 0))) (tC (.str z)))) [some (.ref p), some (.ref a)] H1 (decide (t.1 = z)) := fun e z => et_test (ev_op (ev_op (ev_var rfl) ev_c (rv_ixL (sq_of (e _ _ h0)) rfl)) ev_c rv_eqS)
    have fin : ∀ {l : Addr} {ps : List Str} {k : Nat} {s1 : Int × Int} {H1 : Hp}, Kn G p s1 H1 → Ex (hide p H) H1 → Pk s1 → G l = some (.lst (ps.map V.str)) → F3 ps → ([V.str t.1, V.ref l1, V.ref l2] : List V)[k]? = some (.ref l) → tRet (tCall (spLine2 K) [] E0 (tCons (tVar 0) (tCons (tOp (rIxL K) (tVar 1) (tC (.int (k : Int)))) tNil))) { nx := fun x H' => Q V.non H', rt := Q } [some (.ref p), some (.ref a)] H1 := fun {l ps k s1 H1} K1 ex hk1 hl f3 hix => by
      refine ⟨_, rfl, (ev_op (ev_var (v := .ref a) rfl) ev_c (rv_ixL (sq_of (K1.ex _ _ h0)) (atI_nat hix))) H1 (Ex.refl _) _ fun H2 e2 => ⟨p, s1, l, ps, rfl, e2 _ _ K1.at_, hk1, ?_, f3.1.each, by have := f3.2.2.1; omega, fun z s' hz hk2 H3 e3 g3 => q z s' hz hk2 H3 (hx_trans (ex.trans e2) e3) g3⟩⟩
      have ne : l ≠ p := fun z => by
        rw [z, K0.fr] at hl
        cases hl
      rw [hide_ne ne]
      exact e2 _ _ (K1.ex _ _ hl)
    have ex0 : Ex (hide p H) H := hide_le
    rcases g.cases with ⟨e, f1⟩ | ⟨e, f1, f2⟩ | ⟨e, f1, f2⟩
    · have n1 : ¬ t.1 = "|" := by rw [e]; decide +kernel
      have n2 : ¬ t.1 = "&" := by rw [e]; decide +kernel
      refine qp_when (b := false) (s1 := s) K0 (evtp_is (evtp_and (b := true) (s2 := s) (EvTP.of (et_is (tag (Ex.refl _) "|") (decide_eq_false n1))) (fun z => by cases z) (fun _ => rfl)) rfl) (fun z => by cases z) (fun _ H1 K1 e1 => ?_)
      refine q_when (b := false) (et_is (et_and (b := true) (et_is (tag K1.ex "&") (decide_eq_false n2)) (fun z => by cases z)) rfl) (fun z => by cases z) (fun _ H2 e2 => ?_)
      exact fin (k := 1) (K1.same e2) (e1.trans e2) hk h1 f1 rfl
    · have n1 : ¬ t.1 = "|" := by rw [e]; decide +kernel
      refine qp_when (b := false) (s1 := s) K0 (evtp_is (evtp_and (b := true) (s2 := s) (EvTP.of (et_is (tag (Ex.refl _) "|") (decide_eq_false n1))) (fun z => by cases z) (fun _ => rfl)) rfl) (fun z => by cases z) (fun _ H1 K1 e1 => ?_)
      by_cases l2n : t.2.2.length = 2
      · refine q_when (b := true) (et_is (et_and (b := true) (et_is (tag K1.ex "&") (decide_eq_true e)) (fun _ => et_is (et_test (ev_op (ev_lenA (ev_op (ev_var rfl) ev_c (rv_ixL (sq_of (K1.ex _ _ h0)) rfl)) (sq_of (K1.ex _ _ h2))) ev_c (rv_eq rfl))) (decide_eq_true (by rw [List.length_map, l2n]; rfl)))) rfl) (fun _ H2 e2 => ?_) (fun z => by cases z)
        cases g with
        | alt _ _ => exact absurd rfl n1
        | one _ => exact absurd e (by show ¬ (("=" : Str) = "&"); decide +kernel)
        | any _ _ => exact absurd l2n (by show ¬ (1 = 2); decide)
        | @both x y _ _ fx fy =>
          have K2 := K1.same e2
          have tx := lawText_ok hk
          have c2 := take_lt (s := (lawText s).2) (n := 2) (by decide)
          have rl : (repS (lawText s).1 (take (lawText s).2 2).1.toNat).length ≤ 12 := by
            rw [repS_len]
            have h2 : (take (lawText s).2 2).1.toNat * (lawText s).1.length ≤ 3 * 4 := Nat.mul_le_mul (by omega) tx.2.2.2
            omega
          have lx := fx.2.2
          have ly := fy.2.2
          refine sp_ret K2 (evp_op (evp_op (EvP.of (ev_op (ev_op (ev_var rfl) ev_c (rv_ixL (sq_of h0) rfl)) ev_c (rv_ixL (v := .str x) (sq_of h1) rfl))) (evp_op (evp_pt rfl hk) (evp_take rfl tx.1 (by decide) (by decide)) (rv_rep (by omega) (by omega) (by omega))) (rv_cat (by omega))) (EvP.of (ev_op (ev_op (ev_var rfl) ev_c (rv_ixL (sq_of h0) rfl)) ev_c (rv_ixL (v := .str y) (sq_of h2) rfl))) (rv_cat (by rw [app_len]; omega))) fun H3 K3 e3 => q _ _ ⟨lny_app (lny_app fx.1 (lny_rep tx.2.1 _)) fy.1, by rw [app_len, app_len]; omega⟩ (take_pk tx.1) H3 (hx_trans (e1.trans e2) e3) K3.at_
      · refine q_when (b := false) (et_is (et_and (et_is (tag K1.ex "&") (decide_eq_true e)) (fun _ => et_is (et_test (ev_op (ev_lenA (ev_op (ev_var rfl) ev_c (rv_ixL (sq_of (K1.ex _ _ h0)) rfl)) (sq_of (K1.ex _ _ h2))) ev_c (rv_eq rfl))) (decide_eq_false fun z => l2n (by
          have z2 := V.int.inj z
          rw [List.length_map] at z2
          omega)))) rfl) (fun z => by cases z) (fun _ H2 e2 => ?_)
        exact fin (k := 1) (K1.same e2) (e1.trans e2) hk h1 f1 rfl
    · have n2 : ¬ t.1 = "&" := by rw [e]; decide +kernel
      have hk2 : Pk (take s 2).2 := take_pk hk
      refine qp_when (s1 := (take s 2).2) K0 (evtp_and (EvTP.of (et_is (tag (Ex.refl _) "|") (decide_eq_true e))) (fun _ => evtp_test (evp_op (evp_take rfl hk (by decide) (by decide)) (EvP.of ev_c) rv_eqI)) (fun z => by cases z)) (fun hb H1 K1 e1 => ?_) (fun hb H1 K1 e1 => ?_)
      · exact fin (k := 2) K1 e1 hk2 h2 f2 rfl
      · refine q_when (b := false) (et_is (et_and (b := true) (et_is (tag K1.ex "&") (decide_eq_false n2)) (fun z => by cases z)) rfl) (fun z => by cases z) (fun _ H2 e2 => ?_)
        exact fin (k := 1) (K1.same e2) (e1.trans e2) hk2 h1 f1 rfl

/-! ### an object whose fields are set one by one -/
structure At0 (G : Hp) (a : Addr) (o : HO) (H : Hp) : Prop where
  ex : Ex G H
  at_ : H a = some o
  fr : G a = none
theorem At0.set {G H H1 : Hp} {a : Addr} {o o' : HO} (A : At0 G a o H) (e : Ex H H1) : At0 G a o' (upd H1 a o') := ⟨Ex.mut (A.ex.trans e) A.fr, upd_same, A.fr⟩
theorem At0.same {G H H1 : Hp} {a : Addr} {o : HO} (A : At0 G a o H) (e : Ex H H1) : At0 G a o H1 := ⟨A.ex.trans e, e _ _ A.at_, A.fr⟩
theorem At0.add {G H : Hp} {a l : Addr} {o u : HO} (A : At0 G a o H) (h : H l = some u) (n : a ≠ l) (hG : G l = none) : At0 (upd G l u) a o H := ⟨fun b x hb => by
    by_cases e : b = l
    · rw [e, upd_same] at hb
      rw [e, h]
      exact hb
    · rw [upd_ne e] at hb
      exact A.ex _ _ hb, A.at_, by rw [upd_ne n]; exact A.fr⟩
section
variable {σ : L2.St} {G H : Hp} {D : Ends} {tz : TS} {te : TE} {f : Str} {a C dx : Addr} {fs : List (Str × V)} {i : Nat} {v : V} {xs : List V}
theorem s_fldA (A : At0 G a (.ins C dx fs) H) (hi : σ[i]? = some (some (.ref a))) (h : Ev te σ H v) (kC : Cls K C) (nA : NoAttr K C f) (hl : fs.length < 1000) (k : ∀ H', At0 G a (.ins C dx (putF f v fs)) H' → D.nx σ H') : sFld K (tVar i) te f D σ H :=
  h H (Ex.refl _) _ fun H1 e1 => ⟨_, hi, a, C, dx, fs, rfl, e1 _ _ A.at_, kC, nA, hl, k _ (A.set e1)⟩
theorem q_fldA (A : At0 G a (.ins C dx fs) H) (hi : σ[i]? = some (some (.ref a))) (h : Ev te σ H v) (kC : Cls K C) (nA : NoAttr K C f) (hl : fs.length < 1000) (k : ∀ H', At0 G a (.ins C dx (putF f v fs)) H' → tz D σ H') : tSeq (sFld K (tVar i) te f) tz D σ H :=
  s_fldA (D := { D with nx := tz D }) A hi h kC nA hl k
/-- a new list -/
theorem q_fldN (A : At0 G a (.ins C dx fs) H) (hi : σ[i]? = some (some (.ref a))) (h : EvL te σ H xs) (kC : Cls K C) (nA : NoAttr K C f) (hl : fs.length < 1000) (k : ∀ l G' H', G l = none → Ex G G' → G' l = some (.lst xs) → At0 G' a (.ins C dx (putF f (.ref l) fs)) H' → tz D σ H') : tSeq (sFld K (tVar i) te f) tz D σ H :=
  h H (Ex.refl _) _ fun l H1 hl0 e1 h1 => ⟨_, hi, a, C, dx, fs, rfl, e1 _ _ A.at_, kC, nA, hl, by
    have n := ne_of_none A.at_ hl0
    have hG := fresh_back A.ex hl0
    exact k l (upd G l (.lst xs)) _ hG (Ex.new hG) upd_same ((A.set (o' := .ins C dx (putF f (.ref l) fs)) e1).add (by rw [upd_ne (Ne.symm n)]; exact h1) n hG)⟩
end
/-! ### rules -/
def oV : Option Int → V
  | none => .non
  | some i => .int i
structure Rul where
  bs : List Pt
  es : List Pt
  most : Option Int
  alone : Bool
  tags : Option Int
  quiet : Bool
def okMost (m : Option Int) : Prop := ∀ i, m = some i → 1 ≤ i ∧ i ≤ 20
def okTags (m : Option Int) : Prop := ∀ i, m = some i → 0 ≤ i ∧ i ≤ 9
structure GoodR (R : Rul) : Prop where
  few : R.bs.length + R.es.length ≤ 6
  most : okMost R.most
  tags : okTags R.tags
def ruleF (b e : Addr) (m : Option Int) (al : Bool) (t : Option Int) (q : Bool) : List (Str × V) := putF "_quiet" (.bl q) (putF "_tags" (oV t) (putF "_alone" (.bl al) (putF "_most" (oV m) (putF "_ends" (.ref e) (putF "_begins" (.ref b) [])))))
section
variable {b e : Addr} {m t : Option Int} {al q : Bool}
theorem ruleF_b : (ruleF b e m al t q).lookup ("_begins" : Str) = some (.ref b) := by
  unfold ruleF
  (repeat (first | rw [lookup_putF, if_neg (by decide +kernel)] | rw [lookup_putF, if_pos rfl]))
theorem ruleF_e : (ruleF b e m al t q).lookup ("_ends" : Str) = some (.ref e) := by
  unfold ruleF
  (repeat (first | rw [lookup_putF, if_neg (by decide +kernel)] | rw [lookup_putF, if_pos rfl]))
theorem ruleF_m : (ruleF b e m al t q).lookup ("_most" : Str) = some (oV m) := by
  unfold ruleF
  (repeat (first | rw [lookup_putF, if_neg (by decide +kernel)] | rw [lookup_putF, if_pos rfl]))
theorem ruleF_a : (ruleF b e m al t q).lookup ("_alone" : Str) = some (.bl al) := by
  unfold ruleF
  (repeat (first | rw [lookup_putF, if_neg (by decide +kernel)] | rw [lookup_putF, if_pos rfl]))
theorem ruleF_t : (ruleF b e m al t q).lookup ("_tags" : Str) = some (oV t) := by
  unfold ruleF
  (repeat (first | rw [lookup_putF, if_neg (by decide +kernel)] | rw [lookup_putF, if_pos rfl]))
theorem ruleF_q : (ruleF b e m al t q).lookup ("_quiet" : Str) = some (.bl q) := by
  unfold ruleF
  (repeat (first | rw [lookup_putF, if_neg (by decide +kernel)] | rw [lookup_putF, if_pos rfl]))
end
/-- the Rule at r -/
def RuleAt (CR CF CB CE : Addr) (H : Hp) (r : Addr) (R : Rul) : Prop := ∃ (dx b e : Addr) (us ws : List V), H r = some (.ins CR dx (ruleF b e R.most R.alone R.tags R.quiet)) ∧ H b = some (.lst us) ∧ Rs (PatR CF CB CE 2) H us R.bs ∧ H e = some (.lst ws) ∧ Rs (PatR CF CB CE 2) H ws R.es
theorem RuleAt.ex {CR CF CB CE : Addr} {H H' : Hp} {r : Addr} {R : Rul} (h : RuleAt CR CF CB CE H r R) (x : Ex H H') : RuleAt CR CF CB CE H' r R := by
  obtain ⟨dx, b, e, us, ws, h1, h2, h3, h4, h5⟩ := h
  exact ⟨dx, b, e, us, ws, x _ _ h1, x _ _ h2, h3.ex upP x, x _ _ h4, h5.ex upP x⟩
theorem ev_chainR {σ : L2.St} {H : Hp} {ta tb tc : TE} {x y z : V} {r r' : R2} {a b : Bool} (ha : Ev ta σ H x) (hb : Ev tb σ H y) (hc : Ev tc σ H z) (h1 : RV r x y H (.bl a)) (h2 : RV r' y z H (.bl b)) : Ev (tChain r r' ta tb tc) σ H (.bl (a && b)) := fun H1 e Q q =>
  ha H1 e _ fun H2 e2 => hb H2 (e.trans e2) _ fun H3 e3 => h1 H3 ((e.trans e2).trans e3) _ fun H4 e4 => ⟨a, rfl, by
    have e14 := (e2.trans e3).trans e4
    cases a with
    | true => exact hc H4 (e.trans e14) _ fun H5 e5 => h2 H5 ((e.trans e14).trans e5) Q fun H6 e6 => q H6 ((e14.trans e5).trans e6)
    | false => exact q H4 e14⟩
/-- x is None -/
theorem rv_isN {H : Hp} {x : V} : RV (fun x y H Q => y = .non ∧ Q (.bl (decide (x = .non))) H) x .non H (.bl (decide (x = .non))) := fun H1 _ _ q => ⟨rfl, q H1 (Ex.refl H1)⟩
theorem rv_notN {H : Hp} {x : V} : RV (fun x y H Q => y = .non ∧ Q (.bl (!decide (x = .non))) H) x .non H (.bl (!decide (x = .non))) := fun H1 _ _ q => ⟨rfl, q H1 (Ex.refl H1)⟩
theorem oV_non {m : Option Int} : decide (oV m = V.non) = m.isNone := by
  cases m with
  | none => rfl
  | some i => exact decide_eq_false fun z => nomatch z
/-- isinstance of a number -/
def spIsNum : Sp := fun vs H Q _ => ∃ i lo hi : Int, vs = [.int i, .int lo, .int hi] ∧ RetV (.bl (decide (lo ≤ i) && decide (i ≤ hi))) H Q
theorem ok__is_number {f : Addr} {fd : FuncData} (F : Fun K "_is_number" "_is_number" s__is_number f fd) (T : Txt K mg a_FIELDS a_OPEN_PARTS C_Both C_Either C_Form C_Gluer C_Keeper C_Rule) : FnOk P w K mg base CX0 1 f fd ["value", "low", "high"] spIsNum := by
  refine F.ok sc__is_number (fun vs H Q E h => ?_) (fun cdv A outer s0 H vs Q E hr h => ?_)
  · obtain ⟨i, lo, hi, rfl, _⟩ := h
    rfl
  · obtain ⟨i, lo, hi, rfl, q⟩ := h
    refine ⟨_, (pss_one (ps_ret (pe_and (pe_callB call_isi (by rfl) T.n_isinstance (by decide +kernel) (pa_cons (pv 0) (pa_cons (pe_bltn (v := .ty "int") (by rfl) T.n_int (by decide +kernel) rfl) pa_nil))) (pe_and (pe_not (pe_callB call_isi (by rfl) T.n_isinstance (by decide +kernel) (pa_cons (pv 0) (pa_cons (pe_bltn (v := .ty "bool") (by rfl) T.n_bool (by decide +kernel) rfl) pa_nil)))) (pe_one (pe_chain op_le op_le (pv 1) (pv 0) (pv 2))))))), ?_⟩
    refine s_ret (v := .bl (decide (lo ≤ i) && decide (i ≤ hi))) ?_ q
    refine ev_is (ev_andV (a := true) (ev_isi (ev_var rfl) (.base (.int i)) (by decide +kernel)) fun _ => ev_andV (a := true) (ev_is (ev_notV (ev_isi (b := false) (ev_var rfl) (.base (.int i)) (by decide +kernel))) rfl) fun _ => ev_chainR (ev_var rfl) (ev_var rfl) (ev_var rfl) rv_I0 rv_I0) ?_
    rfl
/-- a setting that may be: nothing is raised -/
def OkSet (x : Str) (v : V) : Prop := (x = "most" ∧ ∃ m, v = oV m ∧ okMost m) ∨ (x = "tags" ∧ ∃ m, v = oV m ∧ okTags m) ∨ (¬ x = "most" ∧ ¬ x = "tags" ∧ ∃ b, v = .bl b)
def spCheck : Sp := fun vs H Q _ => ∃ (x : Str) (v : V), vs = [.str x, v] ∧ OkSet x v ∧ RetV .non H Q
theorem ok__check {f : Addr} {fd : FuncData} (F : Fun K "_check" "_check" s__check f fd) (T : Txt K mg a_FIELDS a_OPEN_PARTS C_Both C_Either C_Form C_Gluer C_Keeper C_Rule) (D__is_number : Df P w K mg base "_is_number" ["value", "low", "high"] 1 spIsNum) : FnOk P w K mg base CX0 2 f fd ["field", "value"] spCheck := by
  refine F.ok sc__check (fun vs H Q E h => ?_) (fun cdv A outer s0 H vs Q E hr h => ?_)
  · obtain ⟨x, v, rfl, _⟩ := h
    rfl
  · obtain ⟨x, v, rfl, hok, q⟩ := h
    refine ⟨_, (pss_cut (ps_if (pt_cmpR op_eq (pv 0) pe_str (nomark _))
      (pss_one (ps_set (i := 2) sc__check.nd rfl (Or.inl rfl) (pe_or (pe_cmpR op_isN (pv 1) pe_non (nomark _)) (pe_one (pe_df D__is_number (hr.mono (by decide)) (by rfl) (pa_cons (pv 1) (pa_cons pe_int (pa_cons (pe_cst T.c_MOST_LINES (by rfl)) pa_nil))))))))
      (pss_one (ps_if (pt_cmpR op_eq (pv 0) pe_str (nomark _))
      (pss_one (ps_set (i := 2) sc__check.nd rfl (Or.inl rfl) (pe_or (pe_cmpR op_isN (pv 1) pe_non (nomark _)) (pe_one (pe_df D__is_number (hr.mono (by decide)) (by rfl) (pa_cons (pv 1) (pa_cons pe_int (pa_cons (pe_cst T.c_MOST_TAGS (by rfl)) pa_nil))))))))
      (pss_one (ps_set (i := 2) sc__check.nd rfl (Or.inl rfl) (pe_or (pe_cmpR op_isBl (pv 1) pe_bl (nomark _)) (pe_one (pe_cmpR op_isBl (pv 1) pe_bl (nomark _)))))))))
      (pss_one (ps_if (pt_not (pt_val (pv 2)))
      (pss_one ps_never)
      pss_nil))), ?_⟩
    have num : ∀ {H1 : Hp} {m : Option Int} {lo hi : Int} {tc : TE} {o : Option V}, (∀ i, m = some i → lo ≤ i ∧ i ≤ hi) → Ev tc [some (.str x), some (oV m), o] H1 (.int hi) → Ev (tOrV (tOp (fun x y H Q => y = .non ∧ Q (.bl (decide (x = .non))) H) (tVar 1) (tC .non)) (tCall spIsNum [] E0 (tCons (tVar 1) (tCons (tC (.int lo)) (tCons tc tNil))))) [some (.str x), some (oV m), o] H1 (.bl true) := fun {H1 m lo hi tc o} hm hc => by
      cases m with
      | none => exact ev_is (ev_orV (a := true) (b := true) (ev_op (ev_var rfl) ev_c rv_isN) fun z => by cases z) rfl
      | some i =>
        obtain ⟨k1, k2⟩ := hm i rfl
        refine ev_orV (a := false) (b := true) (ev_op (ev_var rfl) ev_c rv_isN) fun _ => ev_is (ev_call (z := .bl (decide (lo ≤ i) && decide (i ≤ hi))) (ea_cons (ev_var (v := .int i) rfl) (ea_cons ev_c (ea_cons hc ea_nil))) fun H2 e2 Q' q' E' => ⟨i, lo, hi, rfl, q'⟩) ?_
        rw [decide_eq_true k1, decide_eq_true k2]
        rfl
    refine q_cut (M := fun σ' H' => σ' = [some (.str x), some v, some (.bl true)] ∧ Ex H H') ?_ ?_
    · rcases hok with ⟨rfl, m, rfl, hm⟩ | ⟨rfl, m, rfl, hm⟩ | ⟨n1, n2, b, rfl⟩
      · refine s_if (b := true) (et_is (et_test (ev_op (ev_var rfl) ev_c rv_eqS)) (decide_eq_true rfl)) (fun _ H1 e1 => ?_) (fun z => by cases z)
        exact s_asg (num hm (by first | exact ev_c | exact T.c_MOST_LINES)) fun H2 e2 => ⟨rfl, e1.trans e2⟩
      · refine s_if (b := false) (et_is (et_test (ev_op (ev_var rfl) ev_c rv_eqS)) (by decide +kernel)) (fun z => by cases z) (fun _ H1 e1 => ?_)
        refine s_if (b := true) (et_is (et_test (ev_op (ev_var rfl) ev_c rv_eqS)) (decide_eq_true rfl)) (fun _ H2 e2 => ?_) (fun z => by cases z)
        exact s_asg (num hm ev_c) fun H3 e3 => ⟨rfl, (e1.trans e2).trans e3⟩
      · refine s_if (b := false) (et_is (et_test (ev_op (ev_var rfl) ev_c rv_eqS)) (decide_eq_false n1)) (fun z => by cases z) (fun _ H1 e1 => ?_)
        refine s_if (b := false) (et_is (et_test (ev_op (ev_var rfl) ev_c rv_eqS)) (decide_eq_false n2)) (fun z => by cases z) (fun _ H2 e2 => ?_)
        refine s_asg (v := .bl true) (ev_is (ev_orV (a := decide (b = true)) (b := decide (b = false)) (ev_op (ev_var rfl) ev_c rv_isB) fun _ => ev_op (ev_var rfl) ev_c rv_isB) ?_) fun H3 e3 => ⟨rfl, (e1.trans e2).trans e3⟩
        cases b <;> rfl
    · rintro σ' H2 ⟨rfl, e2⟩
      exact s_when (b := false) (et_is (et_not (et_B (ev_var (v := .bl true) rfl))) rfl) (fun z => by cases z) (fun _ H3 e3 => q H3 (e2.trans e3))
/-! ### a Rule made -/
def spRuleI (CR CF CB CE : Addr) (K : PySem.W.Frag) : Sp := fun vs H Q _ => ∃ (a b e dx : Addr) (us ws : List V) (R : Rul), vs = [.ref a, .ref b, .ref e, oV R.most, .bl R.alone, oV R.tags, .bl R.quiet] ∧ H a = some (.ins CR dx []) ∧ SqL K (hide a H) b us ∧ Rs (PatR CF CB CE 2) (hide a H) us R.bs ∧ SqL K (hide a H) e ws ∧ Rs (PatR CF CB CE 2) (hide a H) ws R.es ∧ GoodR R ∧
  ∀ H', Ex (hide a H) H' → (∀ G : Hp, Rs (PatR CF CB CE 2) G us R.bs → Rs (PatR CF CB CE 2) G ws R.es → (∀ x o, hide a H x = none → H' x = some o → G x = some o) → RuleAt CR CF CB CE G a R) → Q .non H'
theorem ok_Rule___init__ {f : Addr} {fd : FuncData} (F : Fun K "__init__" "Rule.__init__" s_Rule___init__ f fd) (T : Txt K mg a_FIELDS a_OPEN_PARTS C_Both C_Either C_Form C_Gluer C_Keeper C_Rule) (D__check : Df P w K mg base "_check" ["field", "value"] 2 spCheck) :
    FnOk P w K mg base CX0 3 f fd ["self", "begins", "ends", "most", "alone", "tags", "quiet"] (spRuleI C_Rule C_Form C_Both C_Either K) := by
  refine F.ok sc_Rule___init__ (fun vs H Q E h => ?_) (fun cdv A outer s0 H vs Q E hr h => ?_)
  · obtain ⟨a, b, e, dx, us, ws, R, rfl, _⟩ := h
    rfl
  · obtain ⟨a, b, e, dx, us, ws, R, rfl, ha, hb, hbs, he, hes, hR, q⟩ := h
    refine ⟨_, (pss_cons (ps_if (pt_cmpR op_gt (pe_op op_add (pe_callB call_len_seq (by rfl) T.n_len PySem.boot_len (pa_cons (pv 1) pa_nil)) (pe_callB call_len_seq (by rfl) T.n_len PySem.boot_len (pa_cons (pv 2) pa_nil))) (pe_cst T.c_MOST_MARKS (by rfl)) (nomark _))
      (pss_one ps_never)
      pss_nil)
      (pss_cons (ps_expr (pe_df D__check (hr.mono (by decide)) (by rfl) (pa_cons pe_str (pa_cons (pv 3) pa_nil))))
      (pss_cons (ps_expr (pe_df D__check (hr.mono (by decide)) (by rfl) (pa_cons pe_str (pa_cons (pv 4) pa_nil))))
      (pss_cons (ps_expr (pe_df D__check (hr.mono (by decide)) (by rfl) (pa_cons pe_str (pa_cons (pv 5) pa_nil))))
      (pss_cons (ps_expr (pe_df D__check (hr.mono (by decide)) (by rfl) (pa_cons pe_str (pa_cons (pv 6) pa_nil))))
      (pss_cons (ps_fld (pv 0) (pe_callTy call_list_of (by rfl) T.n_list (by decide +kernel) (pa_cons (pv 1) pa_nil)) rfl)
      (pss_cons (ps_fld (pv 0) (pe_callTy call_list_of (by rfl) T.n_list (by decide +kernel) (pa_cons (pv 2) pa_nil)) rfl)
      (pss_cons (ps_fld (pv 0) (pv 3) rfl)
      (pss_cons (ps_fld (pv 0) (pv 4) rfl)
      (pss_cons (ps_fld (pv 0) (pv 5) rfl)
      (pss_one (ps_fld (pv 0) (pv 6) rfl)))))))))))), ?_⟩
    generalize hG : hide a H = G at *
    have A0 : At0 G a (.ins C_Rule dx []) H := ⟨hG ▸ hide_le, ha, hG ▸ hide_at⟩
    have lb := hbs.len
    have le := hes.len
    have few := hR.few
    refine q_when (b := false) (et_is (et_test (ev_op (ev_op (ev_lenL (ev_var rfl) (ex_l A0.ex hb)) (ev_lenL (ev_var rfl) (ex_l A0.ex he)) rv_add) ev_c rv_I0)) (decide_eq_false (by omega))) (fun z => by cases z) (fun _ H1 e1 => ?_)
    have chk : ∀ {H1 : Hp} {x : Str} {v : V} {i : Nat} {tz : TS} {D : Ends} {σ : L2.St}, σ[i]? = some (some v) → OkSet x v → (∀ H2, Ex H1 H2 → tz D σ H2) → tSeq (tDrop (tCall spCheck [] E0 (tCons (tC (.str x)) (tCons (tVar i) tNil)))) tz D σ H1 := fun {H1 x v i tz D σ} hi hs k =>
      q_drop (ev_call (ea_cons ev_c (ea_cons (ev_var hi) ea_nil)) fun H2 e2 Q' q' E' => ⟨x, v, rfl, hs, q'⟩) k
    refine chk rfl (.inl ⟨rfl, _, rfl, hR.most⟩) fun H2 e2 => ?_
    refine chk rfl (.inr (.inr ⟨by decide +kernel, by decide +kernel, _, rfl⟩)) fun H3 e3 => ?_
    refine chk rfl (.inr (.inl ⟨rfl, _, rfl, hR.tags⟩)) fun H4 e4 => ?_
    refine chk rfl (.inr (.inr ⟨by decide +kernel, by decide +kernel, _, rfl⟩)) fun H5 e5 => ?_
    have A1 := A0.same ((((e1.trans e2).trans e3).trans e4).trans e5)
    refine q_fldN A1 rfl (el_listL (ev_var rfl) (ex_l A1.ex hb)) T.k_Rule T.a_Rule__begins (by decide) fun bl G1 K1 nb g1 hbl A2 => ?_
    have lg := fun (f : Str) (v : V) (fs : List (Str × V)) => length_putF f v fs
    have z1 := lg "_begins" (.ref bl) []
    simp only [List.length_nil] at z1
    refine q_fldN A2 rfl (el_listL (ev_var rfl) (ex_l (g1.trans A2.ex) he)) T.k_Rule T.a_Rule__ends (by omega) fun el G2 K2 ne g2 hel A3 => ?_
    have z2 := lg "_ends" (.ref el) (putF "_begins" (.ref bl) [])
    refine q_fldA A3 rfl (ev_var rfl) T.k_Rule T.a_Rule__most (by omega) fun K3 A4 => ?_
    have z3 := lg "_most" (oV R.most) (putF "_ends" (.ref el) (putF "_begins" (.ref bl) []))
    refine q_fldA A4 rfl (ev_var rfl) T.k_Rule T.a_Rule__alone (by omega) fun K4 A5 => ?_
    have z4 := lg "_alone" (.bl R.alone) (putF "_most" (oV R.most) (putF "_ends" (.ref el) (putF "_begins" (.ref bl) [])))
    refine q_fldA A5 rfl (ev_var rfl) T.k_Rule T.a_Rule__tags (by omega) fun K5 A6 => ?_
    have z5 := lg "_tags" (oV R.tags) (putF "_alone" (.bl R.alone) (putF "_most" (oV R.most) (putF "_ends" (.ref el) (putF "_begins" (.ref bl) []))))
    refine s_fldA A6 rfl (ev_var rfl) T.k_Rule T.a_Rule__quiet (by omega) fun K6 A7 => ?_
    exact q K6 ((g1.trans g2).trans A7.ex) fun G' p1 p2 hn => ⟨dx, bl, el, us, ws, hn _ _ (hG ▸ hide_at) A7.at_, hn _ _ nb (A7.ex _ _ (g2 _ _ hbl)), p1, hn _ _ (fresh_back g1 ne) (A7.ex _ _ hel), p2⟩

/-! ### the lines in a pattern -/
section
variable {CF CB CE : Addr} {σ : L2.St} {G : Hp} {te tl : TE} {t : Pt} {d : Nat}
def EvPtR (CF CB CE : Addr) (d : Nat) (te : TE) (σ : L2.St) (G : Hp) (t : Pt) : Prop := ∀ H1, Ex G H1 → ∀ Q : VK, (∀ b H2, Ex H1 H2 → PatR CF CB CE d t b H2 → Q (.ref b) H2) → te σ H1 Q
theorem v_inN {z : Str} (hl : Ev tl σ G (.str z)) (h : EvPtR CF CB CE d te σ G t) (hz : z.length ≤ 1000) : Ev (tAlt (tOp (rInOwn CF (spIn CF) E0) tl te) (tAlt (tOp (rInOwn CB (spInP CF CB CE (some true) d) E0) tl te) (tOp (rInOwn CE (spInP CF CB CE (some false) d) E0) tl te))) σ G (.bl (t.in_ z)) := fun H1 e Q q => by
  cases t with
  | f ps =>
    refine .inl (hl H1 e _ fun H2 e2 => h H2 (e.trans e2) _ fun b H3 e3 hP => ?_)
    obtain ⟨hP, hd, _⟩ := hP
    cases hP with
    | f hF =>
      obtain ⟨⟨dx, t, c, h1, h2, h3⟩, g1, g2, g3⟩ := id hF
      exact ⟨b, dx, _, rfl, h1, b, ps, z, rfl, hF.1, g1, g3, hz, fun H4 e4 => ⟨_, rfl, q H4 ((e2.trans e3).trans e4)⟩⟩
  | n and l r =>
    have key : ∀ (b : Addr) (H2 H3 : Hp), Ex H1 H2 → Ex H2 H3 → PatR CF CB CE d (.n and l r) b H3 → rInOwn (if and = true then CB else CE) (spInP CF CB CE (some and) d) E0 (.str z) (.ref b) H3 Q := fun b H2 H3 e2 e3 ⟨hP, hd, _⟩ => by
      obtain ⟨dx, fs, f1, _⟩ := hP.cls
      refine ⟨b, dx, fs, rfl, ?_, b, _, z, rfl, ⟨hP, rfl, hd⟩, hz, fun H4 e4 => ⟨_, rfl, q H4 ((e2.trans e3).trans e4)⟩⟩
      cases and <;> exact f1
    cases and with
    | true => exact .inr (.inl (hl H1 e _ fun H2 e2 => h H2 (e.trans e2) _ fun b H3 e3 hP => key b H2 H3 e2 e3 hP))
    | false => exact .inr (.inr (hl H1 e _ fun H2 e2 => h H2 (e.trans e2) _ fun b H3 e3 hP => key b H2 H3 e2 e3 hP))
end

/-! ### what a Rule tells -/
theorem ev_prop {σ : L2.St} {H : Hp} {te : TE} {C a dx : Addr} {fs : List (Str × V)} {f : Str} {v : V} {E : XK} (h : Ev te σ H (.ref a)) (ha : H a = some (.ins C dx fs)) (hl : fs.lookup f = some v) : Ev (tProp C (getSp C f) [] E te) σ H v := fun H1 e Q q =>
  h H1 e _ fun H2 e2 => ⟨a, dx, fs, rfl, e2 _ _ (e _ _ ha), a, dx, fs, v, rfl, e2 _ _ (e _ _ ha), hl, q H2 e2⟩
theorem ev_fld {σ : L2.St} {H : Hp} {te : TE} {C a dx : Addr} {fs : List (Str × V)} {f : Str} {v : V} (h : Ev te σ H (.ref a)) (ha : H a = some (.ins C dx fs)) (hc : Cls K C) (hn : NoAttr K C f) (hl : fs.lookup f = some v) : Ev (tFld K te f) σ H v := fun H1 e Q q =>
  h H1 e _ fun H2 e2 => ⟨a, C, dx, fs, v, rfl, e2 _ _ (e _ _ ha), hc, hn, hl, q H2 e2⟩
theorem ok_Rule_most {f : Addr} {fd : FuncData} (F : Fun K "most" "Rule.most" s_Rule_most f fd) (T : Txt K mg a_FIELDS a_OPEN_PARTS C_Both C_Either C_Form C_Gluer C_Keeper C_Rule) : FnOk P w K mg base CX0 1 f fd ["self"] (getSp C_Rule "_most") := by
  refine F.ok sc_Rule_most (fun vs H Q E h => ?_) (fun cdv A outer s0 H vs Q E hr h => ?_)
  · obtain ⟨a, dx, fs, v, rfl, _⟩ := h
    rfl
  · obtain ⟨a, dx, fs, v, rfl, ha, hl, q⟩ := h
    refine ⟨_, (pss_one (ps_ret (pe_fld (pv 0) rfl))), ?_⟩
    exact ⟨_, rfl, a, C_Rule, dx, fs, v, rfl, ha, T.k_Rule, T.a_Rule__most, hl, q⟩
theorem ok_Rule_alone {f : Addr} {fd : FuncData} (F : Fun K "alone" "Rule.alone" s_Rule_alone f fd) (T : Txt K mg a_FIELDS a_OPEN_PARTS C_Both C_Either C_Form C_Gluer C_Keeper C_Rule) : FnOk P w K mg base CX0 1 f fd ["self"] (getSp C_Rule "_alone") := by
  refine F.ok sc_Rule_alone (fun vs H Q E h => ?_) (fun cdv A outer s0 H vs Q E hr h => ?_)
  · obtain ⟨a, dx, fs, v, rfl, _⟩ := h
    rfl
  · obtain ⟨a, dx, fs, v, rfl, ha, hl, q⟩ := h
    refine ⟨_, (pss_one (ps_ret (pe_fld (pv 0) rfl))), ?_⟩
    exact ⟨_, rfl, a, C_Rule, dx, fs, v, rfl, ha, T.k_Rule, T.a_Rule__alone, hl, q⟩
theorem ok_Rule_tags {f : Addr} {fd : FuncData} (F : Fun K "tags" "Rule.tags" s_Rule_tags f fd) (T : Txt K mg a_FIELDS a_OPEN_PARTS C_Both C_Either C_Form C_Gluer C_Keeper C_Rule) : FnOk P w K mg base CX0 1 f fd ["self"] (getSp C_Rule "_tags") := by
  refine F.ok sc_Rule_tags (fun vs H Q E h => ?_) (fun cdv A outer s0 H vs Q E hr h => ?_)
  · obtain ⟨a, dx, fs, v, rfl, _⟩ := h
    rfl
  · obtain ⟨a, dx, fs, v, rfl, ha, hl, q⟩ := h
    refine ⟨_, (pss_one (ps_ret (pe_fld (pv 0) rfl))), ?_⟩
    exact ⟨_, rfl, a, C_Rule, dx, fs, v, rfl, ha, T.k_Rule, T.a_Rule__tags, hl, q⟩
theorem ok_Rule_quiet {f : Addr} {fd : FuncData} (F : Fun K "quiet" "Rule.quiet" s_Rule_quiet f fd) (T : Txt K mg a_FIELDS a_OPEN_PARTS C_Both C_Either C_Form C_Gluer C_Keeper C_Rule) : FnOk P w K mg base CX0 1 f fd ["self"] (getSp C_Rule "_quiet") := by
  refine F.ok sc_Rule_quiet (fun vs H Q E h => ?_) (fun cdv A outer s0 H vs Q E hr h => ?_)
  · obtain ⟨a, dx, fs, v, rfl, _⟩ := h
    rfl
  · obtain ⟨a, dx, fs, v, rfl, ha, hl, q⟩ := h
    refine ⟨_, (pss_one (ps_ret (pe_fld (pv 0) rfl))), ?_⟩
    exact ⟨_, rfl, a, C_Rule, dx, fs, v, rfl, ha, T.k_Rule, T.a_Rule__quiet, hl, q⟩
/-- a Rule told: it and its lists as they are now, its marks as they are frozen -/
def RuleIn (CR CF CB CE : Addr) (G H : Hp) (r : Addr) (R : Rul) : Prop := ∃ (dx b e : Addr) (us ws : List V), H r = some (.ins CR dx (ruleF b e R.most R.alone R.tags R.quiet)) ∧ H b = some (.lst us) ∧ Rs (PatR CF CB CE 2) G us R.bs ∧ H e = some (.lst ws) ∧ Rs (PatR CF CB CE 2) G ws R.es
theorem RuleIn.same {CR CF CB CE : Addr} {G H H' : Hp} {r : Addr} {R : Rul} (h : RuleIn CR CF CB CE G H r R) (x : Ex H H') : RuleIn CR CF CB CE G H' r R := by
  obtain ⟨dx, b, e, us, ws, h1, h2, h3, h4, h5⟩ := h
  exact ⟨dx, b, e, us, ws, x _ _ h1, x _ _ h2, h3, x _ _ h4, h5⟩
theorem RuleIn.up {CR CF CB CE : Addr} {G G' H : Hp} {r : Addr} {R : Rul} (h : RuleIn CR CF CB CE G H r R) (x : Ex G G') : RuleIn CR CF CB CE G' H r R := by
  obtain ⟨dx, b, e, us, ws, h1, h2, h3, h4, h5⟩ := h
  exact ⟨dx, b, e, us, ws, h1, h2, h3.ex upP x, h4, h5.ex upP x⟩
/-- a new list of the marks -/
def spMarks (CR CF CB CE : Addr) (g : Rul → List Pt) : Sp := fun vs H Q _ => ∃ (a : Addr) (R : Rul) (G : Hp), vs = [.ref a] ∧ Ex G H ∧ RuleIn CR CF CB CE G H a R ∧ ∀ l us H2, H l = none → Ex H H2 → H2 l = some (.lst us) → Rs (PatR CF CB CE 2) G us (g R) → Q (.ref l) H2
theorem ok_Rule_begins {f : Addr} {fd : FuncData} (F : Fun K "begins" "Rule.begins" s_Rule_begins f fd) (T : Txt K mg a_FIELDS a_OPEN_PARTS C_Both C_Either C_Form C_Gluer C_Keeper C_Rule) : FnOk P w K mg base CX0 1 f fd ["self"] (spMarks C_Rule C_Form C_Both C_Either Rul.bs) := by
  refine F.ok sc_Rule_begins (fun vs H Q E h => ?_) (fun cdv A outer s0 H vs Q E hr h => ?_)
  · obtain ⟨a, R, G, rfl, _⟩ := h
    rfl
  · obtain ⟨a, R, G, rfl, eG, ⟨dx, b, e, us, ws, h1, h2, h3, h4, h5⟩, q⟩ := h
    refine ⟨_, (pss_one (ps_ret (pe_callTy call_list_of (by rfl) T.n_list (by decide +kernel) (pa_cons (pe_fld (pv 0) rfl) pa_nil)))), ?_⟩
    exact s_retL (el_listL (tFld_ev rfl h1 T.k_Rule T.a_Rule__begins ruleF_b) (sq_of h2)) fun l H2 hl e2 hL => q l us H2 hl e2 hL h3
theorem ok_Rule_ends {f : Addr} {fd : FuncData} (F : Fun K "ends" "Rule.ends" s_Rule_ends f fd) (T : Txt K mg a_FIELDS a_OPEN_PARTS C_Both C_Either C_Form C_Gluer C_Keeper C_Rule) : FnOk P w K mg base CX0 1 f fd ["self"] (spMarks C_Rule C_Form C_Both C_Either Rul.es) := by
  refine F.ok sc_Rule_ends (fun vs H Q E h => ?_) (fun cdv A outer s0 H vs Q E hr h => ?_)
  · obtain ⟨a, R, G, rfl, _⟩ := h
    rfl
  · obtain ⟨a, R, G, rfl, eG, ⟨dx, b, e, us, ws, h1, h2, h3, h4, h5⟩, q⟩ := h
    refine ⟨_, (pss_one (ps_ret (pe_callTy call_list_of (by rfl) T.n_list (by decide +kernel) (pa_cons (pe_fld (pv 0) rfl) pa_nil)))), ?_⟩
    exact s_retL (el_listL (tFld_ev rfl h1 T.k_Rule T.a_Rule__ends ruleF_e) (sq_of h4)) fun l H2 hl e2 hL => q l ws H2 hl e2 hL h5
/-- whether a line bears one of the marks -/
def onM (ts : List Pt) (z : Str) : Bool := (ts.map fun t => t.in_ z).any id
def spOn (CR CF CB CE : Addr) (g : Rul → List Pt) : Sp := fun vs H Q _ => ∃ (a : Addr) (R : Rul) (z : Str), vs = [.ref a, .str z] ∧ RuleAt CR CF CB CE H a R ∧ z.length ≤ 1000 ∧ (g R).length ≤ 1000 ∧ RetV (.bl (onM (g R) z)) H Q
theorem el_marks {σ : L2.St} {H : Hp} {CF CB CE : Addr} {tl te : TE} {a : Addr} {us : List V} {ts : List Pt} {z : Str} {j : Nat} {ws : List Nat} (h : Ev tl σ H (.ref a)) (hx : H a = some (.lst us)) (r : Rs (PatR CF CB CE 2) H us ts) (hn : ts.length ≤ 1000) (hz : z.length ≤ 1000) (hw : ∀ x, wipe ((wipe σ ws).set j (some x)) ws = wipe σ ws)
    (he : ∀ x H1, Ev te ((wipe σ ws).set j (some x)) H1 (.str z)) (hj : ∀ x, ((wipe σ ws).set j (some x))[j]? = some (some x)) :
    EvL (tLc (iList K tl) (gName j) tYes (tAlt (tOp (rInOwn CF (spIn CF) E0) te (tVar j)) (tAlt (tOp (rInOwn CB (spInP CF CB CE (some true) 2) E0) te (tVar j)) (tOp (rInOwn CE (spInP CF CB CE (some false) 2) E0) te (tVar j)))) ws) σ H ((ts.map fun t => t.in_ z).map V.bl) := by
  have l1 := r.len
  refine elv_lc (K := K) h (sq_of hx) (by omega) (by rw [List.length_map, List.length_map]; omega) hw fun i u y H2 e2 hu hy => ?_
  obtain ⟨p, t, rfl, ht, hp⟩ := r.get hu
  rw [List.getElem?_map, List.getElem?_map, ht] at hy
  cases hy
  exact v_inN (he _ H2) (fun H3 e3 Q q => ⟨_, hj _, q p H3 (Ex.refl _) (upP _ _ _ _ (e2.trans e3) hp)⟩) hz
theorem ok_Rule_begins_on {f : Addr} {fd : FuncData} (F : Fun K "begins_on" "Rule.begins_on" s_Rule_begins_on f fd) (T : Txt K mg a_FIELDS a_OPEN_PARTS C_Both C_Either C_Form C_Gluer C_Keeper C_Rule) (D_Form___contains__ : DfC P w K mg base C_Form "__contains__" ["self", "line"] 3 (spIn C_Form)) (D_Both___contains____v2 : DfC P w K mg base C_Both "__contains__" ["self", "line"] 5 (spInP C_Form C_Both C_Either (some true) 2))
    (D_Either___contains____v2 : DfC P w K mg base C_Either "__contains__" ["self", "line"] 5 (spInP C_Form C_Both C_Either (some false) 2)) : FnOk P w K mg base CX0 6 f fd ["self", "line"] (spOn C_Rule C_Form C_Both C_Either Rul.bs) := by
  refine F.ok sc_Rule_begins_on (fun vs H Q E h => ?_) (fun cdv A outer s0 H vs Q E hr h => ?_)
  · obtain ⟨a, R, z, rfl, _⟩ := h
    rfl
  · obtain ⟨a, R, z, rfl, ⟨dx, b, e, us, ws, h1, h2, h3, h4, h5⟩, hz, hn, q⟩ := h
    refine ⟨_, (pss_one (ps_ret (pe_callB (cr_any rfl) (by rfl) T.n_any (by decide +kernel) (pa_cons (pe_lc (own := [("mark", 2)]) (g := gName 2) rfl sc_Rule_begins_on.nd (pi_list (pe_fld (pv 0) rfl)) (blkOk_by (own := [("mark", 2)]) (N := ["self", "line", "mark"]) (sc := defScope s_Rule_begins_on) (by decide +kernel)) (fun _ _ _ _ _ => pg_name (i := 2) sc_Rule_begins_on.nd rfl (Or.inl rfl)) (fun _ _ _ _ _ => pts_nil) (fun _ _ _ _ _ => (pe_alt (pe_cmpR (op_in_df D_Form___contains__ (hr.mono (by decide))) (pv 1) (pv 2) (by rfl))
        (pe_alt (pe_cmpR (op_in_df D_Both___contains____v2 (hr.mono (by decide))) (pv 1) (pv 2) (by rfl))
        (pe_cmpR (op_in_df D_Either___contains____v2 (hr.mono (by decide))) (pv 1) (pv 2) (by rfl)))))) pa_nil)))), ?_⟩
    exact s_ret (ev_any (el_marks (tFld_ev rfl h1 T.k_Rule T.a_Rule__begins ruleF_b) h2 h3 hn hz (fun _ => rfl) (fun _ _ => ev_var rfl) (fun _ => rfl))) q
theorem ok_Rule_ends_on {f : Addr} {fd : FuncData} (F : Fun K "ends_on" "Rule.ends_on" s_Rule_ends_on f fd) (T : Txt K mg a_FIELDS a_OPEN_PARTS C_Both C_Either C_Form C_Gluer C_Keeper C_Rule) (D_Form___contains__ : DfC P w K mg base C_Form "__contains__" ["self", "line"] 3 (spIn C_Form)) (D_Both___contains____v2 : DfC P w K mg base C_Both "__contains__" ["self", "line"] 5 (spInP C_Form C_Both C_Either (some true) 2))
    (D_Either___contains____v2 : DfC P w K mg base C_Either "__contains__" ["self", "line"] 5 (spInP C_Form C_Both C_Either (some false) 2)) : FnOk P w K mg base CX0 6 f fd ["self", "line"] (spOn C_Rule C_Form C_Both C_Either Rul.es) := by
  refine F.ok sc_Rule_ends_on (fun vs H Q E h => ?_) (fun cdv A outer s0 H vs Q E hr h => ?_)
  · obtain ⟨a, R, z, rfl, _⟩ := h
    rfl
  · obtain ⟨a, R, z, rfl, ⟨dx, b, e, us, ws, h1, h2, h3, h4, h5⟩, hz, hn, q⟩ := h
    refine ⟨_, (pss_one (ps_ret (pe_callB (cr_any rfl) (by rfl) T.n_any (by decide +kernel) (pa_cons (pe_lc (own := [("mark", 2)]) (g := gName 2) rfl sc_Rule_ends_on.nd (pi_list (pe_fld (pv 0) rfl)) (blkOk_by (own := [("mark", 2)]) (N := ["self", "line", "mark"]) (sc := defScope s_Rule_ends_on) (by decide +kernel)) (fun _ _ _ _ _ => pg_name (i := 2) sc_Rule_ends_on.nd rfl (Or.inl rfl)) (fun _ _ _ _ _ => pts_nil) (fun _ _ _ _ _ => (pe_alt (pe_cmpR (op_in_df D_Form___contains__ (hr.mono (by decide))) (pv 1) (pv 2) (by rfl))
        (pe_alt (pe_cmpR (op_in_df D_Both___contains____v2 (hr.mono (by decide))) (pv 1) (pv 2) (by rfl))
        (pe_cmpR (op_in_df D_Either___contains____v2 (hr.mono (by decide))) (pv 1) (pv 2) (by rfl)))))) pa_nil)))), ?_⟩
    exact s_ret (ev_any (el_marks (tFld_ev rfl h1 T.k_Rule T.a_Rule__ends ruleF_e) h4 h5 hn hz (fun _ => rfl) (fun _ _ => ev_var rfl) (fun _ => rfl))) q

/-! ### open records: tags, places of lists, things -/
abbrev Hot := Option Key × Addr × List V
abbrev Row := Option Key × List V
def rowOf (t : Hot) : Row := (t.1, t.2.2)
def kvsH (ts : List Hot) : List (Option Key × V) := ts.map fun t => (t.1, V.ref t.2.1)
theorem snoc_ind {α : Type} {P : List α → Prop} (h0 : P []) (hs : ∀ l a, P l → P (l ++ [a])) : ∀ l, P l := fun l => by
  rw [← List.reverse_reverse l]
  induction l.reverse with
  | nil => exact h0
  | cons a l ih =>
    rw [List.reverse_cons]
    exact hs _ a ih
section
variable {β γ : Type}
/-- those of the tags given out, one tag behind another; what stays -/
def shutG (ks : List (Option Key)) (ts : List (Option Key × β)) : List (Option Key × β) × List (Option Key × β) :=
  ks.foldl (fun s k => (s.1 ++ s.2.filter (fun t => decide (t.1 = k)), s.2.filter fun t => decide (t.1 ≠ k))) ([], ts)
theorem shutG_snoc (ks : List (Option Key)) (k : Option Key) (ts : List (Option Key × β)) : shutG (ks ++ [k]) ts = ((shutG ks ts).1 ++ (shutG ks ts).2.filter (fun t => decide (t.1 = k)), (shutG ks ts).2.filter fun t => decide (t.1 ≠ k)) := by
  unfold shutG
  rw [List.foldl_append]
  rfl
theorem shutG_nil (ts : List (Option Key × β)) : shutG [] ts = ([], ts) := rfl
theorem shutG_one (k : Option Key) (ts : List (Option Key × β)) : shutG [k] ts = (ts.filter (fun t => decide (t.1 = k)), ts.filter fun t => decide (t.1 ≠ k)) := rfl
theorem shutG_perm (ts : List (Option Key × β)) : ∀ ks : List (Option Key), ((shutG ks ts).1 ++ (shutG ks ts).2).Perm ts := by
  refine snoc_ind (List.Perm.refl _) fun ks k ih => ?_
  · rw [shutG_snoc]
    refine List.Perm.trans ?_ ih
    rw [List.append_assoc]
    refine List.Perm.append_left _ ?_
    have := List.filter_append_perm (fun t : Option Key × β => decide (t.1 = k)) (shutG ks ts).2
    refine List.Perm.trans (List.Perm.of_eq ?_) this
    congr 1
    exact List.filter_congr fun x _ => by simp
theorem shutG_sub (ks : List (Option Key)) (ts : List (Option Key × β)) : (shutG ks ts).2.Sublist ts := by
  revert ks
  refine snoc_ind (List.Sublist.refl _) fun ks k ih => ?_
  · rw [shutG_snoc]
    exact List.filter_sublist.trans ih
theorem shutG_map (f : β → γ) (ts : List (Option Key × β)) : ∀ ks : List (Option Key), shutG ks (ts.map fun t => (t.1, f t.2)) = ((shutG ks ts).1.map fun t => (t.1, f t.2), (shutG ks ts).2.map fun t => (t.1, f t.2)) := by
  refine snoc_ind rfl fun ks k ih => ?_
  · rw [shutG_snoc, shutG_snoc, ih]
    simp only [List.map_append, List.filter_map]
    rfl
end
/-- one tag of several that differ -/
theorem find_one {β : Type} {ts : List (Option Key × β)} (nk : (ts.map (·.1)).Nodup) (k : Option Key) : (ts.filter (fun t => decide (t.1 = k)) = [] ∧ ts.filter (fun t => decide (t.1 ≠ k)) = ts ∧ ∀ t ∈ ts, t.1 ≠ k) ∨ ∃ t, t ∈ ts ∧ t.1 = k ∧ ts.filter (fun t => decide (t.1 = k)) = [t] := by
  induction ts with
  | nil => exact .inl ⟨rfl, rfl, fun t h => by cases h⟩
  | cons x ts ih =>
    rw [List.map_cons, List.nodup_cons] at nk
    by_cases e : x.1 = k
    · refine .inr ⟨x, List.mem_cons_self, e, ?_⟩
      rw [List.filter_cons_of_pos (by simpa using e)]
      have : ts.filter (fun t => decide (t.1 = k)) = [] := List.filter_eq_nil_iff.mpr fun t ht => by
        simp only [decide_eq_true_eq]
        intro z
        exact nk.1 (List.mem_map.mpr ⟨t, ht, z.trans e.symm⟩)
      rw [this]
    · rcases ih nk.2 with ⟨h1, h2, h3⟩ | ⟨t, h1, h2, h3⟩
      · refine .inl ⟨?_, ?_, fun t ht => ?_⟩
        · rw [List.filter_cons_of_neg (by simpa using e), h1]
        · rw [List.filter_cons_of_pos (by simpa using e), h2]
        · rcases List.mem_cons.mp ht with z | z
          · rw [z]
            exact e
          · exact h3 t z
      · exact .inr ⟨t, List.mem_cons_of_mem _ h1, h2, by rw [List.filter_cons_of_neg (by simpa using e), h3]⟩
theorem shutG_all {β : Type} : ∀ {ts : List (Option Key × β)}, (ts.map (·.1)).Nodup → ∀ n, n ≤ ts.length → shutG ((ts.map (·.1)).take n) ts = (ts.take n, ts.drop n) := by
  intro ts nk n
  induction n with
  | zero => intro _; rfl
  | succ n ih =>
    intro hn
    have hlt : n < ts.length := hn
    have e1 : (ts.map (·.1)).take (n + 1) = (ts.map (·.1)).take n ++ [ts[n].1] := by
      rw [List.take_add_one, List.getElem?_map, List.getElem?_eq_getElem hlt]
      rfl
    have e2 : ts.drop n = ts[n] :: ts.drop (n + 1) := List.drop_eq_getElem_cons hlt
    have e3 : ts.take (n + 1) = ts.take n ++ [ts[n]] := by
      rw [List.take_add_one, List.getElem?_eq_getElem hlt]
      rfl
    have nd : ((ts.drop n).map (·.1)).Nodup := by
      rw [List.map_drop]
      exact nk.sublist (List.drop_sublist _ _)
    rw [e2, List.map_cons, List.nodup_cons] at nd
    have h0 : (ts.drop (n + 1)).filter (fun t => decide (t.1 = ts[n].1)) = [] := List.filter_eq_nil_iff.mpr fun t ht => by
      simp only [decide_eq_true_eq]
      intro z
      exact nd.1 (List.mem_map.mpr ⟨t, ht, z⟩)
    have h1 : (ts.drop (n + 1)).filter (fun t => decide (t.1 ≠ ts[n].1)) = ts.drop (n + 1) := List.filter_eq_self.mpr fun t ht => by
      simp only [decide_eq_true_eq]
      intro z
      exact nd.1 (List.mem_map.mpr ⟨t, ht, z⟩)
    rw [e1, shutG_snoc, ih (by omega), e3, e2]
    rw [List.filter_cons_of_pos (by simp), List.filter_cons_of_neg (by simp), h0, h1]
/-! ### the table of open records -/
theorem kvs_val {ts : List Hot} (k : Option Key) : valV (kvsH ts) k = (ts.filter fun t => decide (t.1 = k)).head?.map fun t => V.ref t.2.1 := by
  unfold valV kvsH
  rw [List.find?_map, Option.map_map, List.head?_filter]
  rfl
theorem kvs_drop {ts : List Hot} (k : Option Key) : dropK (kvsH ts) k = kvsH (ts.filter fun t => decide (t.1 ≠ k)) := by
  unfold dropK kvsH
  rw [List.filter_map]
  rfl
/-- a step: what is frozen stays frozen, what is not stays so, all but M stays as it was -/
structure Stp (M : List Addr) (G H G' H' : Hp) : Prop where
  ex : Ex G G'
  le : Ex G' H'
  nw : ∀ a, G a = none → H a ≠ none → G' a = none
  fr : ∀ a o, H a = some o → a ∉ M → H' a = some o
  th : ∀ a, H a ≠ none → H' a ≠ none
section
variable {M N : List Addr} {G H G1 H1 G2 H2 : Hp}
theorem ex_ne {H H' : Hp} (e : Ex H H') {a : Addr} (h : H a ≠ none) : H' a ≠ none := by
  cases q : H a with
  | none => exact absurd q h
  | some o =>
    rw [e _ _ q]
    exact fun z => by cases z
theorem Stp.refl (g : Ex G H) (e : Ex H H1) : Stp M G H G H1 := ⟨Ex.refl _, g.trans e, fun _ h _ => h, fun a o h _ => e a o h, fun _ h => ex_ne e h⟩
theorem Stp.trans (S : Stp M G H G1 H1) (S2 : Stp N G1 H1 G2 H2) (hN : ∀ a ∈ N, a ∈ M ∨ H a = none) : Stp M G H G2 H2 :=
  ⟨S.ex.trans S2.ex, S2.le, fun a h0 h1 => S2.nw a (S.nw a h0 h1) (S.th a h1), fun a o h hm => S2.fr a o (S.fr a o h hm) (fun z => by
    rcases hN a z with k | k
    · exact hm k
    · rw [h] at k
      cases k), fun a h => S2.th a (S.th a h)⟩
theorem Stp.step (S : Stp M G H G1 H1) (e : Ex H1 H2) : Stp M G H G1 H2 := ⟨S.ex, S.le.trans e, S.nw, fun a o h hm => e a o (S.fr a o h hm), fun a h => ex_ne e (S.th a h)⟩
theorem Stp.mut (S : Stp M G H G1 H1) {x : Addr} (o : HO) (hx : G1 x = none) (hm : x ∈ M ∨ H x = none) : Stp M G H G1 (upd H1 x o) :=
  ⟨S.ex, Ex.mut S.le hx, S.nw, fun a u h ha => by
    have ne : a ≠ x := fun z => by
      rcases hm with k | k
      · exact ha (z ▸ k)
      · rw [← z, h] at k
        cases k
    rw [upd_ne ne]
    exact S.fr a u h ha, fun a h => by
    by_cases z : a = x
    · rw [z, upd_same]
      exact fun y => by cases y
    · rw [upd_ne z]
      exact S.th a h⟩
/-- a new object that is frozen from now on -/
theorem Stp.add (S : Stp M G H G1 H1) {x : Addr} (o : HO) (h1 : H1 x = some o) (hx : G1 x = none) (hn : H x = none) : Stp M G H (upd G1 x o) H1 := by
  refine ⟨S.ex.trans (Ex.new hx), fun a u hu => ?_, fun a h0 ha => ?_, S.fr, S.th⟩
  · by_cases z : a = x
    · rw [z, upd_same] at hu
      rw [z, h1]
      exact hu
    · rw [upd_ne z] at hu
      exact S.le a u hu
  · rw [upd_ne (fun z => ha (by rw [z]; exact hn))]
    exact S.nw a h0 ha
theorem Stp.free (S : Stp M G H G1 H1) {x : Addr} (h : H1 x = none) : H x = none := by
  cases q : H x with
  | none => rfl
  | some o => exact absurd h (S.th x (by rw [q]; exact fun z => by cases z))
end
def keepF (r d : Addr) : List (Str × V) := putF "_kept" (.ref d) (putF "_rule" (.ref r) [])
theorem keepF_r {r d : Addr} : (keepF r d).lookup ("_rule" : Str) = some (.ref r) := by
  unfold keepF
  (repeat (first | rw [lookup_putF, if_neg (by decide +kernel)] | rw [lookup_putF, if_pos rfl]))
theorem keepF_k {r d : Addr} : (keepF r d).lookup ("_kept" : Str) = some (.ref d) := by
  unfold keepF
  (repeat (first | rw [lookup_putF, if_neg (by decide +kernel)] | rw [lookup_putF, if_pos rfl]))
/-- the Keeper at k, its rule, its dict at d -/
def KpAt (CK CR CF CB CE : Addr) (G : Hp) (k : Addr) (R : Rul) (d : Addr) : Prop := ∃ dx r, G k = some (.ins CK dx (keepF r d)) ∧ RuleAt CR CF CB CE G r R
theorem KpAt.ex {CK CR CF CB CE : Addr} {G G' : Hp} {k d : Addr} {R : Rul} (h : KpAt CK CR CF CB CE G k R d) (e : Ex G G') : KpAt CK CR CF CB CE G' k R d := by
  obtain ⟨dx, r, h1, h2⟩ := h
  exact ⟨dx, r, e _ _ h1, h2.ex e⟩
/-- what it keeps -/
structure KpS (P : Program) (w : World) (G H : Hp) (d : Addr) (ts : List Hot) : Prop where
  fr : G d = none
  at_ : H d = some (dN P w d (kvsH ts))
  nk : (ts.map (·.1)).Nodup
  na : (ts.map (·.2.1)).Nodup
  hot : ∀ t ∈ ts, G t.2.1 = none ∧ H t.2.1 = some (.lst t.2.2)
theorem KpS.ne {G H : Hp} {d : Addr} {ts : List Hot} (k : KpS P w G H d ts) {t : Hot} (ht : t ∈ ts) : t.2.1 ≠ d := ne_of (k.hot t ht).2 k.at_ (fun z => nomatch z)
theorem hot_stays {M : List Addr} {G H G1 H1 : Hp} {t : Hot} (S : Stp M G H G1 H1) (h : G t.2.1 = none ∧ H t.2.1 = some (.lst t.2.2)) (n : t.2.1 ∉ M) : G1 t.2.1 = none ∧ H1 t.2.1 = some (.lst t.2.2) := ⟨S.nw _ h.1 (by rw [h.2]; exact fun z => by cases z), S.fr _ _ h.2 n⟩
theorem KpS.step {M : List Addr} {G H G1 H1 : Hp} {d : Addr} {ts : List Hot} (k : KpS P w G H d ts) (S : Stp M G H G1 H1) (nd : d ∉ M) (nt : ∀ t ∈ ts, t.2.1 ∉ M) : KpS P w G1 H1 d ts :=
  ⟨S.nw _ k.fr (by rw [k.at_]; exact fun z => by cases z), S.fr _ _ k.at_ nd, k.nk, k.na, fun t ht => hot_stays S (k.hot t ht) (nt t ht)⟩
theorem KpS.same {G H H1 : Hp} {d : Addr} {ts : List Hot} (k : KpS P w G H d ts) (e : Ex H H1) : KpS P w G H1 d ts := ⟨k.fr, e _ _ k.at_, k.nk, k.na, fun t ht => ⟨(k.hot t ht).1, e _ _ (k.hot t ht).2⟩⟩
/-- a told record: a tuple, its list elsewhere -/
def TupH (t : Hot) (p : Addr) (H : Hp) : Prop := H p = some (.tup [kN t.1, .ref t.2.1])
theorem upTH : Up TupH := fun _ _ _ _ e h => e _ _ h

/-! ### the Keeper's methods -/
section
variable {σ : L2.St} {H : Hp} {ty td : TE} {a : Addr} {kvs : List (Option Key × V)} {k : Option Key}
theorem rdN_ex {H' : Hp} (h : RdN P w H a kvs) (e : Ex H H') : RdN P w H' a kvs := by
  rcases h with h | ⟨o, h⟩
  · exact .inl (e _ _ h)
  · exact .inr ⟨o, e _ _ h⟩
theorem ev_nin (hy : Ev ty σ H (kN k)) (hd : Ev td σ H (.ref a)) (h : RdN P w H a kvs) : Ev (tNIn P w ty td) σ H (.bl (valV kvs k).isSome) := fun H1 e Q q =>
  hy H1 e _ fun H2 e2 => hd H2 (e.trans e2) _ fun H3 e3 => ⟨a, kvs, k, rfl, rfl, rdN_ex h ((e.trans e2).trans e3), q H3 (e2.trans e3)⟩
theorem ev_nnin (hy : Ev ty σ H (kN k)) (hd : Ev td σ H (.ref a)) (h : RdN P w H a kvs) : Ev (tNNotIn P w ty td) σ H (.bl (!(valV kvs k).isSome)) := fun H1 e Q q =>
  hy H1 e _ fun H2 e2 => hd H2 (e.trans e2) _ fun H3 e3 => ⟨a, kvs, k, rfl, rfl, rdN_ex h ((e.trans e2).trans e3), q H3 (e2.trans e3)⟩
end
def spShut (P : Program) (w : World) (CK CR CF CB CE : Addr) : Sp := fun vs H Q _ => ∃ (k l d : Addr) (R : Rul) (G : Hp) (ts : List Hot) (ks : List (Option Key)), vs = [.ref k, .ref l] ∧ Ex G H ∧ KpAt CK CR CF CB CE G k R d ∧ KpS P w G H d ts ∧ H l = some (.lst (ks.map kN)) ∧ ks.length ≤ 1000 ∧ ts.length ≤ 1000 ∧
  ∀ G' H' gv us, Stp [d] G H G' H' → KpS P w G' H' d (shutG ks ts).2 → H gv = none → G' gv = none → H' gv = some (.lst us) → Rs TupH G' us (shutG ks ts).1 → Q (.ref gv) H'
theorem ok_Keeper__shut {f : Addr} {fd : FuncData} (F : Fun K "_shut" "Keeper._shut" s_Keeper__shut f fd) (T : Txt K mg a_FIELDS a_OPEN_PARTS C_Both C_Either C_Form C_Gluer C_Keeper C_Rule) : FnOk P w K mg base CX0 1 f fd ["self", "tags"] (spShut P w C_Keeper C_Rule C_Form C_Both C_Either) := by
  refine F.ok sc_Keeper__shut (fun vs H Q E h => ?_) (fun cdv A outer s0 H vs Q E hr h => ?_)
  · obtain ⟨k, l, d, R, G, ts, ks, rfl, _⟩ := h
    rfl
  · obtain ⟨k, l, d, R, G, ts, ks, rfl, hG, hK, hS, hL, hn, ht, q⟩ := h
    refine ⟨_, (pss_cons (ps_set (i := 2) sc_Keeper__shut.nd rfl (Or.inl rfl) (pe_lst pa_nil))
      (pss_cons (ps_for PassesOwn.never rfl (pi_list (pv 1)) (pg_name (i := 3) sc_Keeper__shut.nd rfl (Or.inl rfl))
      (pss_one (ps_if (pt_cmp (pc_nin P w rfl rfl (pv 3) (pe_fld (pv 0) rfl)))
      (pss_one (ps_expr (pe_bm PySem.F.plainAttrs_list PySem.F.slot_list_append PySem.F.type_list_append mt_append (pv 2) (pa_cons (pe_tup (pa_cons (pv 3) (pa_cons (pe_npop1 P w rfl rfl (pe_fld (pv 0) rfl) (pv 3) ⟨rfl, rfl, rfl, rfl⟩) pa_nil))) pa_nil))))
      pss_nil)))
      (pss_one (ps_ret (pv 2))))), ?_⟩
    refine q_asgL (el_lst ea_nil (Nat.zero_le _)) fun gl H1 hgl e1 h1 => ?_
    have S1 : Stp [d] G H G H1 := Stp.refl hG e1
    have g0 : G gl = none := fresh_back hG hgl
    obtain ⟨dx, r, hk, hR⟩ := hK
    refine q_forLn (ev_var rfl) (sq_of (e1 _ _ hL)) (fun i σ' H' => ∃ (G' : Hp) (us : List V) (y : Option V), σ' = [some (.ref k), some (.ref l), some (.ref gl), y] ∧ Stp [d] G H G' H' ∧ KpS P w G' H' d (shutG (ks.take i) ts).2 ∧ G' gl = none ∧ H' gl = some (.lst us) ∧ Rs TupH G' us (shutG (ks.take i) ts).1 ∧ H' l = some (.lst (ks.map kN)))
      (fun H2 e2 => ⟨G, [], none, rfl, S1.step e2, (hS.same e1).same e2, g0, e2 _ _ h1, .nil, e2 _ _ (e1 _ _ hL)⟩) (fun i σ' H' _ pv => ?_) ?_ ?_
    · obtain ⟨_, _, _, _, _, _, _, _, _, h⟩ := pv
      exact sq_of h
    · rintro i x σ' H2 hx ⟨G2, us, y, rfl, S2, K2, gg, hg, hus, hl⟩
      rw [List.getElem?_map] at hx
      obtain ⟨kk, hkk, rfl⟩ : ∃ kk, ks[i]? = some kk ∧ x = kN kk := by
        cases hc : ks[i]? with
        | none =>
          rw [hc] at hx
          cases hx
        | some kk =>
          rw [hc] at hx
          exact ⟨kk, rfl, (Option.some.inj hx).symm⟩
      have etk : ks.take (i + 1) = ks.take i ++ [kk] := by
        rw [List.take_add_one, hkk]
        rfl
      have esh := shutG_snoc (ks.take i) kk ts
      rw [← etk] at esh
      have hk2 := S2.ex _ _ hk
      have kept : ∀ {H3 : Hp}, Ex H2 H3 → Ev (tFld K (tVar 0) "_kept") [some (.ref k), some (.ref l), some (.ref gl), some (kN kk)] H3 (.ref d) := fun e3 => tFld_ev rfl (e3 _ _ (S2.le _ _ hk2)) T.k_Keeper T.a_Keeper__kept keepF_k
      have ev := kvs_val (ts := (shutG (ks.take i) ts).2) kk
      rcases find_one K2.nk kk with ⟨f1, f2, f3⟩ | ⟨t, f1, f2, f3⟩
      · rw [f1] at ev
        refine s_when (b := false) (et_is (et_B (ev_nin (P := P) (w := w) (ev_var rfl) (kept (Ex.refl _)) (.inl K2.at_))) (by rw [ev]; rfl)) (fun z => by cases z) (fun _ H3 e3 => ?_)
        rw [f1, f2, List.append_nil] at esh
        refine ⟨G2, us, some (kN kk), rfl, S2.step e3, ?_, gg, e3 _ _ hg, ?_, e3 _ _ hl⟩
        · rw [esh]
          exact K2.same e3
        · rw [esh]
          exact hus
      · rw [f3] at ev
        refine s_when (b := true) (et_is (et_B (ev_nin (P := P) (w := w) (ev_var rfl) (kept (Ex.refl _)) (.inl K2.at_))) (by rw [ev]; rfl)) (fun _ H3 e3 => ?_) (fun z => by cases z)
        have K3 := K2.same e3
        have hk3 := e3 _ _ (S2.le _ _ hk2)
        have ngd : gl ≠ d := ne_of hg K2.at_ (fun z => nomatch z)
        have nld : l ≠ d := ne_of hl K2.at_ (fun z => nomatch z)
        refine ⟨_, rfl, Or.inl ⟨rfl, us, sq_of (e3 _ _ hg)⟩, _, rfl, _, rfl, k, C_Keeper, dx, _, _, rfl, hk3, T.k_Keeper, T.a_Keeper__kept, keepF_k, d, rfl, ⟨_, .inl K3.at_⟩, _, rfl, _, kk, .ref t.2.1, K3.at_, rfl, by rw [ev]; rfl, sz_of (by simp), fun p hp => ⟨gl, us, .ref p, rfl, rfl, ?_, ?_, ?_⟩⟩
        · have ngp : gl ≠ p := fun z => by
            rw [← z, upd_ne ngd, e3 _ _ hg] at hp
            cases hp
          rw [upd_ne ngp, upd_ne ngd]
          exact e3 _ _ hg
        · have l1 := hus.len
          have l2 := (shutG_perm ts (ks.take i)).length_eq
          rw [List.length_append] at l2
          exact sz_lt (by omega)
        · have S3 := (S2.step e3).mut (dN P w d (dropK (kvsH (shutG (ks.take i) ts).2) kk)) K2.fr (.inl List.mem_cons_self)
          have gp : G2 p = none := fresh_back S3.le hp
          have hnp : H p = none := S3.free hp
          have S4 := (S3.step (Ex.new (o := .tup [kN kk, .ref t.2.1]) hp)).add _ upd_same gp hnp
          have ngp : gl ≠ p := fun z => by
            rw [← z, upd_ne ngd, e3 _ _ hg] at hp
            cases hp
          have ndp : d ≠ p := fun z => by
            rw [← z, upd_same] at hp
            cases hp
          have nlp : l ≠ p := fun z => by
            rw [← z, upd_ne nld, e3 _ _ hl] at hp
            cases hp
          have nlg : l ≠ gl := fun z => by
            rw [z, hgl] at hL
            cases hL
          have S5 := S4.mut (.lst (us ++ [.ref p])) (x := gl) (by rw [upd_ne ngp]; exact gg) (.inr hgl)
          refine ⟨_, _, some (kN kk), rfl, S5, ⟨?_, ?_, ?_, ?_, ?_⟩, by rw [upd_ne ngp]; exact gg, upd_same, ?_, ?_⟩
          · rw [upd_ne ndp]
            exact K2.fr
          · rw [upd_ne (Ne.symm ngd), upd_ne ndp, upd_same, esh, kvs_drop]
          · rw [esh]
            exact K2.nk.sublist (List.filter_sublist.map _)
          · rw [esh]
            exact K2.na.sublist (List.filter_sublist.map _)
          · intro t2 ht2
            rw [esh] at ht2
            have m2 := (List.mem_filter.mp ht2).1
            have h2 := K3.hot t2 m2
            have nd2 : t2.2.1 ≠ d := K3.ne m2
            have np2 : t2.2.1 ≠ p := fun z => by
              rw [← z, upd_ne nd2, h2.2] at hp
              cases hp
            have ng2 : t2.2.1 ≠ gl := fun z => by
              have := (hS.hot t2 ((shutG_sub _ ts).subset m2)).2
              rw [z, hgl] at this
              cases this
            refine ⟨?_, ?_⟩
            · rw [upd_ne np2]
              exact h2.1
            · rw [upd_ne ng2, upd_ne np2, upd_ne nd2]
              exact h2.2
          · rw [esh, f3]
            refine (hus.ex upTH (Ex.new gp)).snoc ?_
            show upd G2 p _ p = some (.tup [kN t.1, .ref t.2.1])
            rw [upd_same, f2]
          · rw [upd_ne nlg, upd_ne nlp, upd_ne nld]
            exact e3 _ _ hl
    · rintro σ' H2 ⟨G2, us, y, rfl, S2, K2, gg, hg, hus, hl⟩
      rw [List.length_map, List.take_length] at *
      exact s_ret (ev_var rfl) fun H3 e3 => q G2 H3 gl us (S2.step e3) (K2.same e3) hgl gg (e3 _ _ hg) hus
theorem el_slK {σ : L2.St} {G : Hp} {te : TE} {xs : List V} {b : Nat} (h : EvL te σ G xs) : EvL (tSl (rSlL K) te tNoPart (tPart (tC (.int (b : Int))))) σ G (xs.take b) := fun H1 e Q q =>
  h H1 e _ fun a H2 ha e2 h2 => ⟨_, rfl, a, xs, rfl, sq_of h2, fun p hp => by
    have c : cutV xs none (some (b : Int)) = xs.take b := cutV_lt
    refine q p _ (fresh_back e2 hp) (e2.trans (Ex.new hp)) ?_
    rw [c]
    exact upd_same⟩
theorem el_listN {σ : L2.St} {H : Hp} {te : TE} {d : Addr} {kvs : List (Option Key × V)} (h : Ev te σ H (.ref d)) (hd : RdN P w H d kvs) : EvL (tCB (rListN P w) (tCons te tNil)) σ H (kvs.map fun kv => kN kv.1) := fun H1 e Q q =>
  h H1 e _ fun H2 e2 => ⟨d, kvs, rfl, rdN_ex hd (e.trans e2), fun l hl => q l _ (fresh_back e2 hl) (e2.trans (Ex.new hl)) upd_same⟩
theorem ev_lenD {σ : L2.St} {H : Hp} {te : TE} {d : Addr} {kvs : List (Option Key × V)} (h : Ev te σ H (.ref d)) (hd : RdN P w H d kvs) : Ev (tCB (fun xs H Q => ∃ a kvs, xs = [V.ref a] ∧ RdN P w H a kvs ∧ Q (.int kvs.length) H) (tCons te tNil)) σ H (.int (kvs.length : Int)) := fun H1 e Q q =>
  h H1 e _ fun H2 e2 => ⟨d, kvs, rfl, rdN_ex hd (e.trans e2), q H2 e2⟩
theorem kvs_keys {ts : List Hot} : ((kvsH ts).map fun kv => kN kv.1) = (ts.map (·.1)).map kN := by
  unfold kvsH
  rw [List.map_map, List.map_map]
  rfl
theorem kvs_len {ts : List Hot} : (kvsH ts).length = ts.length := List.length_map _
/-- as many open records as the rule lets stand -/
def manyM (R : Rul) (n : Nat) : Bool := match R.tags with
  | none => false
  | some m => decide (0 < m) && decide (m ≤ (n : Int))
theorem manyM_none {R : Rul} {n : Nat} (h : R.tags = none) : manyM R n = false := by
  unfold manyM
  rw [h]
theorem manyM_some {R : Rul} {n : Nat} {m : Int} (h : R.tags = some m) : manyM R n = (decide (0 < m) && decide (m ≤ (n : Int))) := by
  unfold manyM
  rw [h]
def spMany (P : Program) (w : World) (CK CR CF CB CE : Addr) : Sp := fun vs H Q _ => ∃ (k d : Addr) (R : Rul) (G : Hp) (ts : List Hot), vs = [.ref k] ∧ Ex G H ∧ KpAt CK CR CF CB CE G k R d ∧ KpS P w G H d ts ∧ GoodR R ∧ RetL ((if manyM R ts.length = true then (ts.map (·.1)).take 1 else []).map kN) H Q
theorem ok_Keeper__too_many {f : Addr} {fd : FuncData} (F : Fun K "_too_many" "Keeper._too_many" s_Keeper__too_many f fd) (T : Txt K mg a_FIELDS a_OPEN_PARTS C_Both C_Either C_Form C_Gluer C_Keeper C_Rule) (D_Rule_tags : DfP P w K mg base C_Rule "tags" 1 (getSp C_Rule "_tags")) : FnOk P w K mg base CX0 3 f fd ["self"] (spMany P w C_Keeper C_Rule C_Form C_Both C_Either) := by
  refine F.ok sc_Keeper__too_many (fun vs H Q E h => ?_) (fun cdv A outer s0 H vs Q E hr h => ?_)
  · obtain ⟨k, d, R, G, ts, rfl, _⟩ := h
    rfl
  · obtain ⟨k, d, R, G, ts, rfl, hG, ⟨dx, r, hk, ⟨dr, b, e, us, ws, h1, h2⟩⟩, hS, hR, q⟩ := h
    refine ⟨_, (pss_cons (ps_if (PW.pt (pw_or (pt_cmpR op_isN (pe_propD T.k_Rule D_Rule_tags (hr.mono (by decide)) (pe_fld (pv 0) rfl)) pe_non (nomark _)) (pw_or (pt_cmpR op_eq (pe_propD T.k_Rule D_Rule_tags (hr.mono (by decide)) (pe_fld (pv 0) rfl)) pe_int (nomark _)) (pw_or1 (pt_cmpR op_lt (pe_callB (call_len_dN P w rfl rfl) (by rfl) T.n_len PySem.boot_len (pa_cons (pe_fld (pv 0) rfl) pa_nil)) (pe_propD T.k_Rule D_Rule_tags (hr.mono (by decide)) (pe_fld (pv 0) rfl)) (nomark _))))))
      (pss_one (ps_ret (pe_lst pa_nil)))
      pss_nil)
      (pss_one (ps_ret (pe_slice sl_list (pe_callTy (call_list_dN P w rfl rfl rfl) (by rfl) T.n_list (by decide +kernel) (pa_cons (pe_fld (pv 0) rfl) pa_nil)) po_none (po_some pe_int))))), ?_⟩
    have rule : ∀ {H1 : Hp}, Ex G H1 → Ev (tFld K (tVar 0) "_rule") [some (.ref k)] H1 (.ref r) := fun e1 => tFld_ev rfl (e1 _ _ hk) T.k_Keeper T.a_Keeper__rule keepF_r
    have kept : ∀ {H1 : Hp}, Ex G H1 → Ev (tFld K (tVar 0) "_kept") [some (.ref k)] H1 (.ref d) := fun e1 => tFld_ev rfl (e1 _ _ hk) T.k_Keeper T.a_Keeper__kept keepF_k
    have tags : ∀ {H1 : Hp}, Ex G H1 → Ev (tProp C_Rule (getSp C_Rule "_tags") [] E0 (tFld K (tVar 0) "_rule")) [some (.ref k)] H1 (oV R.tags) := fun e1 => ev_prop (rule e1) (e1 _ _ h1) ruleF_t
    have hb : EvT (tOr (tTest (tOp (fun x y H Q => y = .non ∧ Q (.bl (decide (x = .non))) H) (tProp C_Rule (getSp C_Rule "_tags") [] E0 (tFld K (tVar 0) "_rule")) (tC .non))) (tOr (tTest (tOp rEq (tProp C_Rule (getSp C_Rule "_tags") [] E0 (tFld K (tVar 0) "_rule")) (tC (.int 0)))) (tTest (tOp (rI0 fun i j => .bl (decide (i < j))) (tCB (fun xs H Q => ∃ a kvs, xs = [V.ref a] ∧ RdN P w H a kvs ∧ Q (.int kvs.length) H) (tCons (tFld K (tVar 0) "_kept") tNil)) (tProp C_Rule (getSp C_Rule "_tags") [] E0 (tFld K (tVar 0) "_rule")))))) [some (.ref k)] H (!manyM R ts.length) := by
      cases ht : R.tags with
      | none =>
        refine et_is (et_or (a := true) (b := true) (et_test (ev_is (ev_op (tags hG) ev_c rv_isN) (by rw [oV_non, ht]; rfl))) fun z => by cases z) ?_
        rw [manyM_none ht]
        rfl
      | some m =>
        have tg : ∀ {H1 : Hp}, Ex G H1 → Ev (tProp C_Rule (getSp C_Rule "_tags") [] E0 (tFld K (tVar 0) "_rule")) [some (.ref k)] H1 (.int m) := fun e1 => ev_is (tags e1) (by rw [ht]; rfl)
        refine et_is (et_or (a := false) (et_test (ev_is (ev_op (tags hG) ev_c rv_isN) (by rw [oV_non, ht]; rfl))) fun _ => et_or (et_test (ev_op (tg hG) ev_c rv_eqI)) fun _ => et_test (ev_op (ev_lenD (kept hG) (.inl hS.at_)) (tg hG) rv_I0)) ?_
        rw [kvs_len, manyM_some ht]
        have := (hR.tags m ht).1
        by_cases c : m = 0
        · rw [decide_eq_true c, decide_eq_false (by omega : ¬ 0 < m)]
          rfl
        · rw [decide_eq_false c, decide_eq_true (by omega : 0 < m)]
          by_cases c2 : m ≤ (ts.length : Int)
          · rw [decide_eq_true c2, decide_eq_false (by omega)]
            rfl
          · rw [decide_eq_false c2, decide_eq_true (by omega)]
            rfl
    refine q_when hb (fun hm H1 e1 => ?_) (fun hm H1 e1 => ?_)
    · have hm' : manyM R ts.length = false := by simpa using hm
      rw [hm'] at q
      exact s_retL (el_lst ea_nil (Nat.zero_le _)) fun l H2 hl e2 h2 => q l H2 (fresh_back e1 hl) (e1.trans e2) h2
    · have hm' : manyM R ts.length = true := by simpa using hm
      rw [hm', if_pos rfl, List.map_take, ← kvs_keys] at q
      exact s_retL (el_slK (b := 1) (el_listN (kept (hG.trans e1)) (.inl ((hS.same e1).at_)))) fun l H2 hl e2 h2 => q l H2 (fresh_back e1 hl) (e1.trans e2) h2
def spShutAll (P : Program) (w : World) (CK CR CF CB CE : Addr) : Sp := fun vs H Q _ => ∃ (k d : Addr) (R : Rul) (G : Hp) (ts : List Hot), vs = [.ref k] ∧ Ex G H ∧ KpAt CK CR CF CB CE G k R d ∧ KpS P w G H d ts ∧ ts.length ≤ 1000 ∧
  ∀ G' H' gv us, Stp [d] G H G' H' → KpS P w G' H' d [] → H gv = none → G' gv = none → H' gv = some (.lst us) → Rs TupH G' us ts → Q (.ref gv) H'
/-! ### open records told: all new -/
/-- us are told records, new all of them, and so are their lists -/
structure NewH (H H' : Hp) (us : List V) (hs : List Hot) : Prop where
  rs : Rs TupH H' us hs
  na : (hs.map (·.2.1)).Nodup
  new : ∀ t ∈ hs, H t.2.1 = none ∧ H' t.2.1 = some (.lst t.2.2)
theorem tYes_if {σ : L2.St} {H : Hp} {p : Hp → Prop} {q : Hp → Prop} (h : p H) : tYes σ H fun b H3 => if b = true then p H3 else q H3 := by
  show if (true : Bool) = true then p H else q H
  rw [if_pos rfl]
  exact h
def spWait (P : Program) (w : World) (CK CR CF CB CE : Addr) : Sp := fun vs H Q _ => ∃ (k d : Addr) (R : Rul) (G : Hp) (ts : List Hot), vs = [.ref k] ∧ Ex G H ∧ KpAt CK CR CF CB CE G k R d ∧ KpS P w G H d ts ∧ ts.length ≤ 1000 ∧
  ∀ l H' us hs, H l = none → Ex H H' → H' l = some (.lst us) → NewH H H' us hs → hs.map rowOf = ts.map rowOf → l ∉ hs.map (·.2.1) → Q (.ref l) H'
theorem ok_Keeper_waiting {f : Addr} {fd : FuncData} (F : Fun K "waiting" "Keeper.waiting" s_Keeper_waiting f fd) (T : Txt K mg a_FIELDS a_OPEN_PARTS C_Both C_Either C_Form C_Gluer C_Keeper C_Rule) : FnOk P w K mg base CX0 1 f fd ["self"] (spWait P w C_Keeper C_Rule C_Form C_Both C_Either) := by
  refine F.ok sc_Keeper_waiting (fun vs H Q E h => ?_) (fun cdv A outer s0 H vs Q E hr h => ?_)
  · obtain ⟨k, d, R, G, ts, rfl, _⟩ := h
    rfl
  · obtain ⟨k, d, R, G, ts, rfl, hG, ⟨dx, r, hk, hR⟩, hS, hn, q⟩ := h
    refine ⟨_, (pss_one (ps_ret (pe_lock (pe_lc (own := [("tag", 1), ("things", 2)]) (g := gTup K 2 (gCons (gName 1) (gCons (gName 2) gNil))) rfl sc_Keeper_waiting.nd (pi_itemsN P w rfl rfl (pe_fld (pv 0) rfl)) (blkOk_by (own := [("tag", 1), ("things", 2)]) (N := ["self", "tag", "things"]) (sc := defScope s_Keeper_waiting) (by decide +kernel)) (fun _ _ _ _ _ => pg_tup rfl (pgs_cons (pg_name (i := 1) sc_Keeper_waiting.nd rfl (Or.inl rfl)) (pgs_cons (pg_name (i := 2) sc_Keeper_waiting.nd rfl (Or.inl rfl)) pgs_nil))) (fun _ _ _ _ _ => pts_nil) (fun _ _ _ _ _ => (pe_tup (pa_cons (pv 1) (pa_cons (pe_callTy (call_list_ofK K rfl) (by rfl) T.n_list (by decide +kernel) (pa_cons (pv 2) pa_nil)) pa_nil)))))))), ?_⟩
    have nkd : k ≠ d := fun z => by
      rw [z, hS.fr] at hk
      cases hk
    have hkH := hG _ _ hk
    refine ⟨d, dN P w d (kvsH ts), hS.at_, True.intro, fun od => ?_⟩
    obtain ⟨H1, hH1⟩ : ∃ H1, H1 = upd H d (.frz od (dN P w d (kvsH ts))) := ⟨_, rfl⟩
    rw [← hH1]
    have d1 : H1 d = some (.frz od (dN P w d (kvsH ts))) := by rw [hH1, upd_same]
    have k1 : H1 k = some (.ins C_Keeper dx (keepF r d)) := by rw [hH1, upd_ne nkd, hkH]
    have t1 : ∀ t ∈ ts, H1 t.2.1 = some (.lst t.2.2) := fun t ht => by rw [hH1, upd_ne (hS.ne ht), (hS.hot t ht).2]
    have back : ∀ {x : Addr}, H1 x = none → H x = none := fun {x} hx => by
      by_cases z : x = d
      · rw [z, d1] at hx
        cases hx
      · rw [hH1, upd_ne z] at hx
        exact hx
    have kept : Ev (tFld K (tVar 0) "_kept") [some (.ref k), none, none] H1 (.ref d) := tFld_ev rfl k1 T.k_Keeper T.a_Keeper__kept keepF_k
    show iItemsN P w (tFld K (tVar 0) "_kept") [some (.ref k), none, none] H1 _
    refine kept H1 (Ex.refl _) _ fun H2 e2 => ⟨d, od, _, rfl, e2 _ _ d1, fun D hD => ?_⟩
    refine lc_it (walk_itemsN (P := P) (w := w) (d := d) (o := od) (kvs := kvsH ts)) (fun i H3 => ∃ us hs, H3 D = some (.lst us) ∧ Ex H2 (hide D H3) ∧ hs.map rowOf = (ts.take i).map rowOf ∧ NewH H1 (hide D H3) us hs)
      ⟨[], [], upd_same, ?_, rfl, .nil, .nil, fun t h => by cases h⟩ ?_ ?_ ?_
    · rw [hide_upd, hide_none hD]
      exact Ex.refl _
    · rintro i H3 _ ⟨us, hs, _, e3, _⟩
      exact hide_le _ _ (e3 _ _ (e2 _ _ d1))
    · rintro i x H3 H4 hi ⟨us, hs, hv, e3, er, N⟩ ⟨Tp, x1, x2, rfl, hT, rfl, hx1, hx2⟩
      rw [kvs_len] at hi
      have hti : ts[i]? = some ts[i] := List.getElem?_eq_getElem hi
      have hki : (kvsH ts)[i]? = some (ts[i].1, V.ref ts[i].2.1) := by
        unfold kvsH
        rw [List.getElem?_map, hti]
        rfl
      dsimp only at hx1 hx2
      rw [hki] at hx1 hx2
      cases hx1
      cases hx2
      have nDT : D ≠ Tp := ne_of_none hv hT
      refine ⟨Tp, [_, _], rfl, st_of upd_same, rfl, _, [_], rfl, _, [], rfl, rfl, rfl, ?_⟩
      refine tYes_if ?_
      have hmem : ts[i] ∈ ts := List.getElem_mem hi
      have hl3 : H3 ts[i].2.1 = some (.lst ts[i].2.2) := hide_le _ _ (e3 _ _ (e2 _ _ (t1 _ hmem)))
      have nlT : ts[i].2.1 ≠ Tp := ne_of_none hl3 hT
      refine ⟨_, rfl, _, rfl, ts[i].2.1, ts[i].2.2, rfl, .inl (sq_of (by rw [upd_ne nlT]; exact hl3)), fun l hl => ⟨sz_of (by simp), fun p hp => ?_⟩⟩
      have nlT2 : l ≠ Tp := fun z => by
        rw [z, upd_same] at hl
        cases hl
      rw [upd_ne nlT2] at hl
      have nDl : D ≠ l := ne_of_none hv hl
      have npl : p ≠ l := fun z => by
        rw [z, upd_same] at hp
        cases hp
      rw [upd_ne npl] at hp
      have npT : p ≠ Tp := fun z => by
        rw [z, upd_same] at hp
        cases hp
      rw [upd_ne npT] at hp
      have nDp : D ≠ p := ne_of_none hv hp
      have lu := N.rs.len
      have lh := congrArg List.length er
      rw [List.length_map, List.length_map, List.length_take] at lh
      refine ⟨us, by rw [upd_ne nDp, upd_ne nDl, upd_ne nDT]; exact hv, sz_lt (by omega), us ++ [.ref p], hs ++ [(ts[i].1, l, ts[i].2.2)], upd_same, ?_, ?_, ?_⟩
      · rw [hide_upd]
        refine e3.trans (ex_hide ?_)
        exact ((Ex.new hT).trans (Ex.new (by rw [upd_ne nlT2]; exact hl))).trans (Ex.new (by rw [upd_ne npl, upd_ne npT]; exact hp))
      · rw [List.map_append, er, List.take_add_one, hti, List.map_append]
        rfl
      · rw [hide_upd]
        have e4 : Ex (hide D H3) (hide D (upd (upd (upd H3 Tp (.tup [kN ts[i].1, .ref ts[i].2.1])) l (.lst ts[i].2.2)) p (.tup [kN ts[i].1, .ref l]))) := ex_hide (((Ex.new hT).trans (Ex.new (by rw [upd_ne nlT2]; exact hl))).trans (Ex.new (by rw [upd_ne npl, upd_ne npT]; exact hp)))
        have hlD : hide D H3 l = none := by rw [hide_ne (Ne.symm nDl)]; exact hl
        refine ⟨(N.rs.ex upTH e4).snoc ?_, ?_, fun t ht => ?_⟩
        · show hide D _ p = some (.tup [kN ts[i].1, .ref l])
          rw [hide_ne (Ne.symm nDp), upd_same]
        · rw [List.map_append]
          refine List.nodup_append.mpr ⟨N.na, by simp, fun a ha b hb => ?_⟩
          rw [List.map_cons, List.map_nil, List.mem_singleton] at hb
          obtain ⟨t, ht, rfl⟩ := List.mem_map.mp ha
          have := (N.new t ht).2
          intro z
          rw [z, hb, hlD] at this
          cases this
        · rcases List.mem_append.mp ht with z | z
          · exact ⟨(N.new t z).1, e4 _ _ (N.new t z).2⟩
          · rw [List.mem_singleton.mp z]
            refine ⟨?_, ?_⟩
            · have := e2.trans (e3.trans hide_le)
              exact fresh_back this hl
            · show hide D _ l = _
              rw [hide_ne (Ne.symm nDl), upd_ne (Ne.symm npl), upd_same]
    · rintro H3 ⟨us, hs, hv, e3, er, N⟩
      rw [kvs_len, List.take_length] at er
      have e13 : Ex H1 H3 := (e2.trans e3).trans hide_le
      refine ⟨e13 _ _ d1, ?_⟩
      have nDd : D ≠ d := Ne.symm (ne_of_none (e2 _ _ d1) hD)
      have eH : Ex H (upd H3 d (dN P w d (kvsH ts))) := fun a o ha => by
        by_cases z : a = d
        · rw [z, upd_same, ← hS.at_, ← z, ha]
        · rw [upd_ne z]
          exact e13 a o (by rw [hH1, upd_ne z]; exact ha)
      refine q D _ us hs (back (fresh_back e2 hD)) eH (by rw [upd_ne nDd]; exact hv) ⟨N.rs.imp fun x p _ hp => ?_, N.na, fun t ht => ?_⟩ er fun hm => ?_
      · have hp2 : H3 p = some (.tup [kN x.1, .ref x.2.1]) := hide_le _ _ hp
        have : p ≠ d := fun z => by
          rw [z, e13 _ _ d1] at hp2
          cases hp2
        show upd H3 d _ p = _
        rw [upd_ne this]
        exact hp2
      · have h1 := N.new t ht
        have h2 := hide_le _ _ h1.2
        have : t.2.1 ≠ d := fun z => by
          rw [z, d1] at h1
          cases h1.1
        exact ⟨back h1.1, by rw [upd_ne this]; exact h2⟩
      · obtain ⟨t, ht, e⟩ := List.mem_map.mp hm
        have := (N.new t ht).2
        rw [e, hide_at] at this
        cases this

/-! ### one line taken -/
/-- which row is full -/
def fullM (R : Rul) (z : Str) (n : Nat) : Bool := onM R.es z || decide (V.int (n : Int) = oV R.most)
def endM (R : Rul) (z : Str) (tag : Option Key) (xs : List V) (g rest : List Row) : List Row × List Row := if fullM R z xs.length = true then (g ++ [(tag, xs)], rest) else (g, rest ++ [(tag, xs)])
def tagM (R : Rul) (tag : Option Key) : Option Key := if R.tags.isNone = true then none else tag
def restM (R : Rul) (z : Str) (tag : Option Key) (x : V) (b : Bool) (s1 : List Row × List Row) : List Row × List Row :=
  match s1.2.filter (fun r => decide (r.1 = tag)) with
  | own :: _ => endM R z tag (own.2 ++ [x]) s1.1 (s1.2.filter fun r => decide (r.1 ≠ tag))
  | [] => if (!b && !R.alone) = true then s1
    else if manyM R s1.2.length = true then endM R z tag [x] (s1.1 ++ s1.2.take 1) (s1.2.drop 1) else endM R z tag [x] s1.1 s1.2
theorem restM_own {R : Rul} {z : Str} {tag : Option Key} {x : V} {b : Bool} {s1 : List Row × List Row} {own : Row} {l : List Row} (h : s1.2.filter (fun r => decide (r.1 = tag)) = own :: l) : restM R z tag x b s1 = endM R z tag (own.2 ++ [x]) s1.1 (s1.2.filter fun r => decide (r.1 ≠ tag)) := by
  unfold restM
  rw [h]
theorem restM_no {R : Rul} {z : Str} {tag : Option Key} {x : V} {b : Bool} {s1 : List Row × List Row} (h : s1.2.filter (fun r => decide (r.1 = tag)) = []) : restM R z tag x b s1 = if (!b && !R.alone) = true then s1
    else if manyM R s1.2.length = true then endM R z tag [x] (s1.1 ++ s1.2.take 1) (s1.2.drop 1) else endM R z tag [x] s1.1 s1.2 := by
  unfold restM
  rw [h]
/-- given out, kept: the order of the document -/
def fedM (R : Rul) (z : Str) (tag0 : Option Key) (x : V) (st : List Row) : List Row × List Row := restM R z (tagM R tag0) x (onM R.bs z) (if onM R.bs z = true then shutG [tagM R tag0] st else ([], st))
/-- within a take: what is given out so far (at gl), what is kept -/
structure TkI (P : Program) (w : World) (G H : Hp) (d : Addr) (ts0 : List Hot) (Gi Hi : Hp) (gl : Addr) (us : List V) (gs ts : List Hot) : Prop where
  S : Stp (d :: ts0.map (·.2.1)) G H Gi Hi
  K : KpS P w Gi Hi d ts
  g0 : H gl = none
  gg : Gi gl = none
  hg : Hi gl = some (.lst us)
  rs : Rs TupH Gi us gs
  na : ((ts ++ gs).map (·.2.1)).Nodup
  ho : ∀ t ∈ gs, Gi t.2.1 = none ∧ Hi t.2.1 = some (.lst t.2.2)
  old : ∀ t ∈ ts ++ gs, t.2.1 ∈ ts0.map (·.2.1) ∨ H t.2.1 = none
  ng : gl ∉ (ts ++ gs).map (·.2.1)
section
variable {G H Gi Hi G2 H2 : Hp} {d gl gv : Addr} {ts0 ts gs : List Hot} {us us2 : List V} {ks : List (Option Key)}
theorem TkI.same {H2 : Hp} (I : TkI P w G H d ts0 Gi Hi gl us gs ts) (e : Ex Hi H2) : TkI P w G H d ts0 Gi H2 gl us gs ts :=
  ⟨I.S.step e, I.K.same e, I.g0, I.gg, e _ _ I.hg, I.rs, I.na, fun t ht => ⟨(I.ho t ht).1, e _ _ (I.ho t ht).2⟩, I.old, I.ng⟩
theorem TkI.gd (I : TkI P w G H d ts0 Gi Hi gl us gs ts) : gl ≠ d := ne_of I.hg I.K.at_ (fun z => nomatch z)
theorem TkI.hd (I : TkI P w G H d ts0 Gi Hi gl us gs ts) {t : Hot} (ht : t ∈ gs) : t.2.1 ≠ d := ne_of (I.ho t ht).2 I.K.at_ (fun z => nomatch z)
theorem mem_adr {ts : List Hot} {t : Hot} (h : t ∈ ts) : t.2.1 ∈ ts.map (·.2.1) := List.mem_map.mpr ⟨t, h, rfl⟩
/-- some are shut, and what was shut is given out too -/
theorem TkI.ext (I : TkI P w G H d ts0 Gi Hi gl us gs ts) (S2 : Stp [d] Gi Hi G2 H2) (K2 : KpS P w G2 H2 d (shutG ks ts).2) (r2 : Rs TupH G2 us2 (shutG ks ts).1) : TkI P w G H d ts0 G2 (upd H2 gl (.lst (us ++ us2))) gl (us ++ us2) (gs ++ (shutG ks ts).1) (shutG ks ts).2 := by
  have hp := shutG_perm ts ks
  have s1 : ∀ t ∈ (shutG ks ts).1, t ∈ ts := fun t ht => hp.subset (List.mem_append_left _ ht)
  have s2 : ∀ t ∈ (shutG ks ts).2, t ∈ ts := fun t ht => hp.subset (List.mem_append_right _ ht)
  have gd := I.gd
  have hg2 := S2.fr _ _ I.hg (by simpa using gd)
  have gg2 := S2.nw _ I.gg (by rw [I.hg]; exact fun z => by cases z)
  have perm : ((shutG ks ts).2 ++ (gs ++ (shutG ks ts).1)).Perm (ts ++ gs) := by
    refine (List.perm_append_comm.trans ?_)
    rw [List.append_assoc]
    exact ((List.Perm.append_left gs hp)).trans List.perm_append_comm
  have ng2 : gl ∉ ((shutG ks ts).2 ++ (gs ++ (shutG ks ts).1)).map (·.2.1) := fun z => I.ng ((perm.map _).subset z)
  have nt : ∀ t ∈ (shutG ks ts).2 ++ (gs ++ (shutG ks ts).1), t.2.1 ≠ gl := fun t ht z => ng2 (z ▸ mem_adr ht)
  have hd2 : gl ≠ d := gd
  refine ⟨((I.S.trans S2 fun a ha => .inl (by rw [List.mem_singleton.mp ha]; exact List.mem_cons_self)).mut _ gg2 (.inr I.g0)), ⟨K2.fr, ?_, K2.nk, K2.na, fun t ht => ⟨(K2.hot t ht).1, ?_⟩⟩, I.g0, gg2, upd_same, ?_, (perm.map _).nodup_iff.mpr I.na, fun t ht => ?_, fun t ht => I.old t (perm.subset ht), ng2⟩
  · rw [upd_ne (Ne.symm hd2)]
    exact K2.at_
  · rw [upd_ne (nt t (List.mem_append_left _ ht))]
    exact (K2.hot t ht).2
  · exact (I.rs.ex upTH S2.ex).app' r2
  · have h0 : G2 t.2.1 = none ∧ H2 t.2.1 = some (.lst t.2.2) := by
      rcases List.mem_append.mp ht with z | z
      · exact hot_stays S2 (I.ho t z) (by simpa using I.hd z)
      · exact hot_stays S2 (I.K.hot t (s1 t z)) (by simpa using I.K.ne (s1 t z))
    refine ⟨h0.1, ?_⟩
    rw [upd_ne (nt t (List.mem_append_right _ ht))]
    exact h0.2
/-- a list that is none of the kept ones, its place among the kept ones that were, or new -/
structure FreeL (G H : Hp) (ts0 : List Hot) (Gi Hi : Hp) (gl : Addr) (gs ts : List Hot) (l : Addr) (xs : List V) : Prop where
  fr : Gi l = none
  at_ : Hi l = some (.lst xs)
  ng : l ≠ gl
  nt : l ∉ (ts ++ gs).map (·.2.1)
  old : l ∈ ts0.map (·.2.1) ∨ H l = none
/-- it is written, and kept under the tag -/
theorem TkI.put (I : TkI P w G H d ts0 Gi Hi gl us gs ts) {l : Addr} {xs ys : List V} {k : Option Key} (L : FreeL G H ts0 Gi Hi gl gs ts l xs) (hk : ∀ t ∈ ts, t.1 ≠ k) :
    TkI P w G H d ts0 Gi (upd (upd Hi l (.lst ys)) d (dN P w d (putK (kvsH ts) k (.ref l)))) gl us gs (ts ++ [(k, l, ys)]) := by
  have nld : l ≠ d := ne_of L.at_ I.K.at_ (fun z => nomatch z)
  have gd := I.gd
  have hv : valV (kvsH ts) k = none := by
    rw [kvs_val, List.filter_eq_nil_iff.mpr fun t ht => by simpa using hk t ht]
    rfl
  have keep : ∀ t ∈ ts ++ gs, t.2.1 ≠ l := fun t ht z => L.nt (z ▸ mem_adr ht)
  have hS := (I.S.mut (.lst ys) L.fr (L.old.imp (fun z => List.mem_cons_of_mem _ z) id)).mut (dN P w d (putK (kvsH ts) k (.ref l))) I.K.fr (.inl List.mem_cons_self)
  have perm : ((ts ++ [(k, l, ys)]) ++ gs).Perm ((k, l, ys) :: (ts ++ gs)) := by
    rw [List.append_assoc]
    exact List.perm_middle
  have na2 : (((ts ++ [(k, l, ys)]) ++ gs).map (·.2.1)).Nodup := by
    refine (perm.map _).nodup_iff.mpr ?_
    rw [List.map_cons, List.nodup_cons]
    exact ⟨L.nt, I.na⟩
  have tsna : ((ts ++ [(k, l, ys)]).map (·.2.1)).Nodup := by
    rw [List.map_append] at na2
    exact (List.nodup_append.mp na2).1
  refine ⟨hS, ⟨I.K.fr, ?_, ?_, tsna, fun t ht => ?_⟩, I.g0, I.gg, ?_, I.rs, na2, fun t ht => ?_, fun t ht => ?_, fun z => ?_⟩
  · rw [upd_same, putK_new _ hv]
    unfold kvsH
    rw [List.map_append]
    rfl
  · rw [List.map_append]
    refine List.nodup_append.mpr ⟨I.K.nk, by simp, fun a ha b hb => ?_⟩
    obtain ⟨t, ht, rfl⟩ := List.mem_map.mp ha
    rw [List.map_cons, List.map_nil, List.mem_singleton] at hb
    rw [hb]
    exact hk t ht
  · rcases List.mem_append.mp ht with z | z
    · refine ⟨(I.K.hot t z).1, ?_⟩
      rw [upd_ne (I.K.ne z), upd_ne (keep t (List.mem_append_left _ z))]
      exact (I.K.hot t z).2
    · rw [List.mem_singleton.mp z]
      refine ⟨L.fr, ?_⟩
      show upd (upd Hi l (.lst ys)) d _ l = _
      rw [upd_ne nld, upd_same]
  · rw [upd_ne gd, upd_ne (Ne.symm L.ng)]
    exact I.hg
  · refine ⟨(I.ho t ht).1, ?_⟩
    rw [upd_ne (I.hd ht), upd_ne (keep t (List.mem_append_right _ ht))]
    exact (I.ho t ht).2
  · rcases List.mem_cons.mp (perm.subset ht) with z | z
    · rw [z]
      exact L.old
    · exact I.old t z
  · have := (perm.map (·.2.1)).subset z
    rw [List.map_cons] at this
    rcases List.mem_cons.mp this with q | q
    · exact L.ng q.symm
    · exact I.ng q
theorem inj_map {α β : Type} {f : α → β} : ∀ {l : List α}, (l.map f).Nodup → ∀ {x y : α}, x ∈ l → y ∈ l → f x = f y → x = y
  | [], _, _, _, hx, _, _ => by cases hx
  | a :: l, nd, x, y, hx, hy, e => by
    rw [List.map_cons, List.nodup_cons] at nd
    rcases List.mem_cons.mp hx with p | p
    · rcases List.mem_cons.mp hy with q | q
      · rw [p, q]
      · exact absurd (List.mem_map.mpr ⟨y, q, by rw [← e, p]⟩) nd.1
    · rcases List.mem_cons.mp hy with q | q
      · exact absurd (List.mem_map.mpr ⟨x, p, by rw [e, q]⟩) nd.1
      · exact inj_map nd.2 p q e
/-- one is taken out -/
theorem TkI.pop (I : TkI P w G H d ts0 Gi Hi gl us gs ts) {t : Hot} (ht : t ∈ ts) : TkI P w G H d ts0 Gi (upd Hi d (dN P w d (dropK (kvsH ts) t.1))) gl us gs (ts.filter fun u => decide (u.1 ≠ t.1)) ∧
    FreeL G H ts0 Gi (upd Hi d (dN P w d (dropK (kvsH ts) t.1))) gl gs (ts.filter fun u => decide (u.1 ≠ t.1)) t.2.1 t.2.2 := by
  have sub : ((ts.filter fun u => decide (u.1 ≠ t.1)) ++ gs).Sublist (ts ++ gs) := List.filter_sublist.append (List.Sublist.refl _)
  have gd := I.gd
  have m1 : ∀ u ∈ ts.filter (fun u => decide (u.1 ≠ t.1)), u ∈ ts := fun u hu => (List.mem_filter.mp hu).1
  refine ⟨⟨I.S.mut _ I.K.fr (.inl List.mem_cons_self), ⟨I.K.fr, ?_, I.K.nk.sublist (List.filter_sublist.map _), I.K.na.sublist (List.filter_sublist.map _), fun u hu => ⟨(I.K.hot u (m1 u hu)).1, ?_⟩⟩, I.g0, I.gg, ?_, I.rs, I.na.sublist (sub.map _), fun u hu => ⟨(I.ho u hu).1, ?_⟩, fun u hu => I.old u (sub.subset hu), fun z => I.ng ((sub.map _).subset z)⟩, ⟨(I.K.hot t ht).1, ?_, ?_, ?_, I.old t (List.mem_append_left _ ht)⟩⟩
  · rw [upd_same, kvs_drop]
  · rw [upd_ne (I.K.ne (m1 u hu))]
    exact (I.K.hot u (m1 u hu)).2
  · rw [upd_ne gd]
    exact I.hg
  · rw [upd_ne (I.hd hu)]
    exact (I.ho u hu).2
  · rw [upd_ne (I.K.ne ht)]
    exact (I.K.hot t ht).2
  · intro z
    exact I.ng (z ▸ mem_adr (List.mem_append_left _ ht))
  · intro z
    obtain ⟨u, hu, e⟩ := List.mem_map.mp z
    have nd := I.na
    rcases List.mem_append.mp hu with q | q
    · have hu1 := (List.mem_filter.mp q)
      have : u = t := inj_map I.K.na hu1.1 ht e
      rw [this] at hu1
      simp at hu1
    · rw [List.map_append] at nd
      exact (List.nodup_append.mp nd).2.2 t.2.1 (mem_adr ht) u.2.1 (mem_adr q) e.symm
end

/-! ### bounds of what is given out and kept -/
theorem filter_two {β : Type} (k : Option Key) (ts : List (Option Key × β)) : (ts.filter fun t => decide (t.1 = k)).length + (ts.filter fun t => decide (t.1 ≠ k)).length = ts.length := by
  have h := (shutG_perm ts [k]).length_eq
  rw [shutG_one, List.length_append] at h
  exact h
theorem endM_or (R : Rul) (z : Str) (tag : Option Key) (xs : List V) (g rest : List Row) : endM R z tag xs g rest = (g ++ [(tag, xs)], rest) ∨ endM R z tag xs g rest = (g, rest ++ [(tag, xs)]) := by
  unfold endM
  split
  · exact .inl rfl
  · exact .inr rfl
theorem endM_bd {R : Rul} {z : Str} {tag : Option Key} {xs : List V} {g rest : List Row} {B N : Nat} (hN : g.length + rest.length ≤ N) (hx : xs.length ≤ B) (h : ∀ r ∈ g ++ rest, r.2.length ≤ B) :
    (endM R z tag xs g rest).1.length + (endM R z tag xs g rest).2.length ≤ N + 1 ∧ ∀ r ∈ (endM R z tag xs g rest).1 ++ (endM R z tag xs g rest).2, r.2.length ≤ B := by
  rcases endM_or R z tag xs g rest with e | e
  · rw [e]
    refine ⟨by simp; omega, fun r hr => ?_⟩
    rw [List.append_assoc] at hr
    rcases List.mem_append.mp hr with q | q
    · exact h r (List.mem_append_left _ q)
    · rcases List.mem_append.mp q with q | q
      · rw [List.mem_singleton.mp q]
        exact hx
      · exact h r (List.mem_append_right _ q)
  · rw [e]
    refine ⟨by simp; omega, fun r hr => ?_⟩
    rcases List.mem_append.mp hr with q | q
    · exact h r (List.mem_append_left _ q)
    · rcases List.mem_append.mp q with q | q
      · exact h r (List.mem_append_right _ q)
      · rw [List.mem_singleton.mp q]
        exact hx
theorem restM_bd {R : Rul} {z : Str} {tag : Option Key} {x : V} {b : Bool} {s1 : List Row × List Row} {B : Nat} (h : ∀ r ∈ s1.1 ++ s1.2, r.2.length ≤ B) :
    (restM R z tag x b s1).1.length + (restM R z tag x b s1).2.length ≤ s1.1.length + s1.2.length + 1 ∧ ∀ r ∈ (restM R z tag x b s1).1 ++ (restM R z tag x b s1).2, r.2.length ≤ B + 1 := by
  have f2 : (s1.2.filter fun r => decide (r.1 = tag)).length + (s1.2.filter fun r => decide (r.1 ≠ tag)).length = s1.2.length := filter_two tag s1.2
  cases hf : s1.2.filter (fun r => decide (r.1 = tag)) with
  | cons own l =>
    rw [restM_own hf]
    have ho : own ∈ s1.2 := (List.mem_filter.mp (by rw [hf]; exact List.mem_cons_self : own ∈ s1.2.filter fun r => decide (r.1 = tag))).1
    have := h own (List.mem_append_right _ ho)
    rw [hf] at f2
    simp only [List.length_cons] at f2
    obtain ⟨k1, k2⟩ := endM_bd (R := R) (z := z) (tag := tag) (xs := own.2 ++ [x]) (g := s1.1) (rest := s1.2.filter fun r => decide (r.1 ≠ tag)) (B := B + 1) (N := s1.1.length + s1.2.length) (by omega) (by rw [List.length_append]; simp; omega) (fun r hr => by
      rcases List.mem_append.mp hr with q | q
      · have := h r (List.mem_append_left _ q)
        omega
      · have := h r (List.mem_append_right _ (List.mem_filter.mp q).1)
        omega)
    exact ⟨k1, k2⟩
  | nil =>
    rw [restM_no hf]
    split
    · exact ⟨by omega, fun r hr => by have := h r hr; omega⟩
    · split
      · obtain ⟨k1, k2⟩ := endM_bd (R := R) (z := z) (tag := tag) (xs := [x]) (g := s1.1 ++ s1.2.take 1) (rest := s1.2.drop 1) (B := B + 1) (N := s1.1.length + s1.2.length) (by simp; omega) (by simp) (fun r hr => by
          rw [List.append_assoc, List.take_append_drop] at hr
          have := h r hr
          omega)
        exact ⟨k1, k2⟩
      · exact endM_bd (Nat.le_refl _) (by simp) fun r hr => by
          have := h r hr
          omega
theorem s1_perm (R : Rul) (z : Str) (tg : Option Key) (st : List Row) : ((if onM R.bs z = true then shutG [tg] st else ([], st)).1 ++ (if onM R.bs z = true then shutG [tg] st else ([], st)).2).Perm st := by
  split
  · exact shutG_perm st [tg]
  · exact List.Perm.refl _
theorem fedM_bd {R : Rul} {z : Str} {tag : Option Key} {x : V} {st : List Row} {B : Nat} (h : ∀ r ∈ st, r.2.length ≤ B) :
    (fedM R z tag x st).1.length + (fedM R z tag x st).2.length ≤ st.length + 1 ∧ ∀ r ∈ (fedM R z tag x st).1 ++ (fedM R z tag x st).2, r.2.length ≤ B + 1 := by
  have p := s1_perm R z (tagM R tag) st
  obtain ⟨k1, k2⟩ := restM_bd (R := R) (z := z) (tag := tagM R tag) (x := x) (b := onM R.bs z) (s1 := if onM R.bs z = true then shutG [tagM R tag] st else ([], st)) (B := B) fun r hr => h r (p.subset hr)
  have l := p.length_eq
  rw [List.length_append] at l
  exact ⟨by unfold fedM; omega, k2⟩
/-- never more than the rule allows -/
theorem endM_two {R : Rul} {z : Str} {tag : Option Key} {xs : List V} {g rest : List Row} : (endM R z tag xs g rest).2.length ≤ rest.length + 1 := by
  rcases endM_or R z tag xs g rest with e | e
  · rw [e]
    exact Nat.le_succ _
  · rw [e]
    simp
theorem fedM_max {R : Rul} {z : Str} {tag : Option Key} {x : V} {st : List Row} {m : Int} (hm : R.tags = some m) (h0 : 0 < m) (h : (st.length : Int) ≤ m) : ((fedM R z tag x st).2.length : Int) ≤ m := by
  unfold fedM
  have p := s1_perm R z (tagM R tag) st
  obtain ⟨s1, hs⟩ : ∃ s1 : List Row × List Row, s1 = if onM R.bs z = true then shutG [tagM R tag] st else ([], st) := ⟨_, rfl⟩
  rw [← hs]
  rw [← hs] at p
  have l := p.length_eq
  rw [List.length_append] at l
  have f2 : (s1.2.filter fun r => decide (r.1 = tagM R tag)).length + (s1.2.filter fun r => decide (r.1 ≠ tagM R tag)).length = s1.2.length := filter_two (tagM R tag) s1.2
  cases hf : s1.2.filter (fun r => decide (r.1 = tagM R tag)) with
  | cons own l2 =>
    rw [restM_own hf]
    rw [hf] at f2
    simp only [List.length_cons] at f2
    have := endM_two (R := R) (z := z) (tag := tagM R tag) (xs := own.2 ++ [x]) (g := s1.1) (rest := s1.2.filter fun r => decide (r.1 ≠ tagM R tag))
    omega
  | nil =>
    rw [restM_no hf]
    split
    · omega
    · rw [manyM_some hm, decide_eq_true h0, Bool.true_and]
      split
      · have := endM_two (R := R) (z := z) (tag := tagM R tag) (xs := [x]) (g := s1.1 ++ s1.2.take 1) (rest := s1.2.drop 1)
        rw [List.length_drop] at this
        omega
      · rename_i hc
        have := endM_two (R := R) (z := z) (tag := tagM R tag) (xs := [x]) (g := s1.1) (rest := s1.2)
        simp only [decide_eq_true_eq] at hc
        omega

section
variable {G H Gi Hi H2 : Hp} {d gl : Addr} {ts0 ts : List Hot}
/-- a new list, nothing in it yet -/
theorem TkI.start (S : Stp (d :: ts0.map (·.2.1)) G H Gi Hi) (k : KpS P w Gi Hi d ts) (old : ∀ t ∈ ts, t.2.1 ∈ ts0.map (·.2.1) ∨ H t.2.1 = none) (hgl : Hi gl = none) (e : Ex Hi H2) (h2 : H2 gl = some (.lst [])) : TkI P w G H d ts0 Gi H2 gl [] [] ts :=
  ⟨S.step e, k.same e, S.free hgl, fresh_back S.le hgl, h2, .nil, by rw [List.append_nil]; exact k.na, (fun t ht => by cases ht), (fun t ht => old t (by rwa [List.append_nil] at ht)), fun z => by
    rw [List.append_nil] at z
    obtain ⟨t, ht, e1⟩ := List.mem_map.mp z
    have := (k.hot t ht).2
    rw [e1, hgl] at this
    cases this⟩
end
theorem ev_mth {σ : L2.St} {H : Hp} {ta : TE} {t : TA} {C a dx : Addr} {fs : List (Str × V)} {m : Str} {sp : Sp} {dvs vs : List V} {E : XK} {z : V} (h : Ev ta σ H (.ref a)) (ha : H a = some (.ins C dx fs)) (hm : fs.lookup m = none) (hv : EvA t σ H vs) (hs : SpV sp (.ref a :: (vs ++ dvs)) H z) : Ev (tMeth C m sp dvs E ta t) σ H z := fun H1 e Q q =>
  h H1 e _ fun H2 e2 => ⟨a, dx, fs, rfl, (e2 _ _ (e _ _ ha)), hm, hv H2 (e.trans e2) _ fun H3 e3 => hs H3 ((e.trans e2).trans e3) Q (fun H4 e4 => q H4 ((e2.trans e3).trans e4)) E⟩
theorem keepF_no {r d : Addr} {m : Str} (h1 : ¬ m = "_kept") (h2 : ¬ m = "_rule") : (keepF r d).lookup m = none := by
  unfold keepF
  rw [lookup_putF, if_neg h1, lookup_putF, if_neg h2]
  rfl
theorem ruleF_no {b e : Addr} {m t : Option Int} {al q : Bool} {x : Str} (h1 : ¬ x = "_quiet") (h2 : ¬ x = "_tags") (h3 : ¬ x = "_alone") (h4 : ¬ x = "_most") (h5 : ¬ x = "_ends") (h6 : ¬ x = "_begins") : (ruleF b e m al t q).lookup x = none := by
  unfold ruleF
  rw [lookup_putF, if_neg h1, lookup_putF, if_neg h2, lookup_putF, if_neg h3, lookup_putF, if_neg h4, lookup_putF, if_neg h5, lookup_putF, if_neg h6]
  rfl
def spKTake (P : Program) (w : World) (CK CR CF CB CE : Addr) : Sp := fun vs H Q _ => ∃ (k d : Addr) (R : Rul) (G : Hp) (ts : List Hot) (z : Str) (tag : Option Key) (x : V), vs = [.ref k, .str z, kN tag, x] ∧ Ex G H ∧ KpAt CK CR CF CB CE G k R d ∧ KpS P w G H d ts ∧ GoodR R ∧ z.length ≤ 1000 ∧ ts.length ≤ 900 ∧ (∀ t ∈ ts, t.2.2.length ≤ 900) ∧
  ∀ G' H' gv us gs ts', TkI P w G H d ts G' H' gv us gs ts' → (gs.map rowOf, ts'.map rowOf) = fedM R z tag x (ts.map rowOf) → Q (.ref gv) H'
theorem ok_Keeper_take {f : Addr} {fd : FuncData} (F : Fun K "take" "Keeper.take" s_Keeper_take f fd) (T : Txt K mg a_FIELDS a_OPEN_PARTS C_Both C_Either C_Form C_Gluer C_Keeper C_Rule) (D_Rule_tags : DfP P w K mg base C_Rule "tags" 1 (getSp C_Rule "_tags")) (D_Rule_alone : DfP P w K mg base C_Rule "alone" 1 (getSp C_Rule "_alone")) (D_Rule_most : DfP P w K mg base C_Rule "most" 1 (getSp C_Rule "_most"))
    (D_Rule_begins_on : DfM P w K mg base C_Rule "begins_on" ["self", "line"] 6 (spOn C_Rule C_Form C_Both C_Either Rul.bs)) (D_Rule_ends_on : DfM P w K mg base C_Rule "ends_on" ["self", "line"] 6 (spOn C_Rule C_Form C_Both C_Either Rul.es))
    (D_Keeper__shut : DfM P w K mg base C_Keeper "_shut" ["self", "tags"] 1 (spShut P w C_Keeper C_Rule C_Form C_Both C_Either)) (D_Keeper__too_many : DfM P w K mg base C_Keeper "_too_many" ["self"] 3 (spMany P w C_Keeper C_Rule C_Form C_Both C_Either)) :
    FnOk P w K mg base CX0 7 f fd ["self", "line", "tag", "thing"] (spKTake P w C_Keeper C_Rule C_Form C_Both C_Either) := by
  refine F.ok sc_Keeper_take (fun vs H Q E h => ?_) (fun cdv A outer s0 H vs Q E hr h => ?_)
  · obtain ⟨k, d, R, G, ts, z, tag, x, rfl, _⟩ := h
    rfl
  · obtain ⟨k, d, R, G, ts0, z, tag, x, rfl, hG, hKp, hS, hR, hz, hn, hx, q⟩ := h
    refine ⟨_, (pss_cons (ps_if (pt_cmpR op_isN (pe_propD T.k_Rule D_Rule_tags (hr.mono (by decide)) (pe_fld (pv 0) rfl)) pe_non (nomark _))
      (pss_one (ps_set (i := 2) sc_Keeper_take.nd rfl (Or.inl rfl) pe_non))
      pss_nil)
      (pss_cons (ps_set (i := 4) sc_Keeper_take.nd rfl (Or.inl rfl) (pe_mth T.k_Rule D_Rule_begins_on (hr.mono (by decide)) (pe_fld (pv 0) rfl) (pa_cons (pv 1) pa_nil)))
      (pss_cons (ps_set (i := 5) sc_Keeper_take.nd rfl (Or.inl rfl) (pe_ifExp (pt_val (pv 4)) (pe_mth T.k_Keeper D_Keeper__shut (hr.mono (by decide)) (pv 0) (pa_cons (pe_lst (pa_cons (pv 2) pa_nil)) pa_nil)) (pe_lst pa_nil)))
      (pss_cons (ps_if (pt_cmp (pc_nnotin P w rfl rfl (pv 2) (pe_fld (pv 0) rfl)))
      (pss_cons (ps_if (PW.pt (pw_and (pt_not (pt_val (pv 4))) (pw_and1 (pt_not (pt_val (pe_propD T.k_Rule D_Rule_alone (hr.mono (by decide)) (pe_fld (pv 0) rfl)))))))
      (pss_one (ps_ret (pe_lst pa_nil)))
      pss_nil)
      (pss_one (ps_expr (pe_bm PySem.F.plainAttrs_list PySem.F.slot_list_extend PySem.F.type_list_extend mt_extend (pv 5) (pa_cons (pe_mth T.k_Keeper D_Keeper__shut (hr.mono (by decide)) (pv 0) (pa_cons (pe_mth0 T.k_Keeper D_Keeper__too_many (hr.mono (by decide)) (pv 0)) pa_nil)) pa_nil)))))
      pss_nil)
      (pss_cons (ps_set (i := 6) sc_Keeper_take.nd rfl (Or.inl rfl) (pe_npop2 P w rfl rfl (pe_fld (pv 0) rfl) (pv 2) (pe_lst pa_nil) ⟨rfl, rfl, rfl, rfl⟩))
      (pss_cons (ps_expr (pe_bm PySem.F.plainAttrs_list PySem.F.slot_list_append PySem.F.type_list_append mt_append (pv 6) (pa_cons (pv 3) pa_nil)))
      (pss_cons (ps_nput P w rfl rfl (pe_fld (pv 0) rfl) (pv 2) (pv 6) rfl)
      (pss_cons (ps_if (PW.pt (pw_or (pt_val (pe_mth T.k_Rule D_Rule_ends_on (hr.mono (by decide)) (pe_fld (pv 0) rfl) (pa_cons (pv 1) pa_nil))) (pw_or1 (pt_cmpR op_eq (pe_callB call_len_seq (by rfl) T.n_len PySem.boot_len (pa_cons (pv 6) pa_nil)) (pe_propD T.k_Rule D_Rule_most (hr.mono (by decide)) (pe_fld (pv 0) rfl)) (nomark _)))))
      (pss_one (ps_expr (pe_bm PySem.F.plainAttrs_list PySem.F.slot_list_extend PySem.F.type_list_extend mt_extend (pv 5) (pa_cons (pe_mth T.k_Keeper D_Keeper__shut (hr.mono (by decide)) (pv 0) (pa_cons (pe_lst (pa_cons (pv 2) pa_nil)) pa_nil)) pa_nil))))
      pss_nil)
      (pss_one (ps_ret (pv 5))))))))))), ?_⟩
    obtain ⟨dx, r, hk, hRA⟩ := id hKp
    obtain ⟨dr, lb, le, ub, ue, hr1, hr2, hr3, hr4, hr5⟩ := id hRA
    have few := hR.few
    obtain ⟨W, hW⟩ : ∃ W, W = fedM R z tag x (ts0.map rowOf) := ⟨_, rfl⟩
    obtain ⟨tg, htg⟩ : ∃ tg, tg = tagM R tag := ⟨_, rfl⟩
    rw [← hW] at q
    have rule : ∀ {σ : L2.St} {H1 : Hp}, σ[0]? = some (some (.ref k)) → Ex G H1 → Ev (tFld K (tVar 0) "_rule") σ H1 (.ref r) := fun h0 e1 => tFld_ev h0 (e1 _ _ hk) T.k_Keeper T.a_Keeper__rule keepF_r
    have kept : ∀ {σ : L2.St} {H1 : Hp}, σ[0]? = some (some (.ref k)) → Ex G H1 → Ev (tFld K (tVar 0) "_kept") σ H1 (.ref d) := fun h0 e1 => tFld_ev h0 (e1 _ _ hk) T.k_Keeper T.a_Keeper__kept keepF_k
    have gi : ∀ {Gi Hi : Hp} {gl : Addr} {us : List V} {gs ts : List Hot}, TkI P w G H d ts0 Gi Hi gl us gs ts → Ex G Hi := fun I => I.S.ex.trans I.S.le
    -- what is shut is given out too
    have ext : ∀ {σ : L2.St} {D : Ends} {Gi Hi : Hp} {gl : Addr} {us : List V} {gs ts : List Hot} {te : TE} {ks : List (Option Key)}, TkI P w G H d ts0 Gi Hi gl us gs ts → σ[0]? = some (some (.ref k)) → σ[5]? = some (some (.ref gl)) → EvL te σ Hi (ks.map kN) → ks.length ≤ 1000 → gs.length + ts.length ≤ 950 →
        (∀ G2 H2 us2, TkI P w G H d ts0 G2 H2 gl us2 (gs ++ (shutG ks ts).1) (shutG ks ts).2 → D.nx σ H2) → tDrop (tBM K "list" rExtend (tVar 5) (tCons (tMeth C_Keeper "_shut" (spShut P w C_Keeper C_Rule C_Form C_Both C_Either) [] E0 (tVar 0) (tCons te tNil)) tNil)) D σ Hi := fun {σ D Gi Hi gl us gs ts te ks} I h0 h5 hE hks hl nx =>
      ⟨_, h5, Or.inl ⟨rfl, us, sq_of I.hg⟩, _, h0, k, dx, _, rfl, gi I _ _ hk, keepF_no (by decide +kernel) (by decide +kernel), hE Hi (Ex.refl _) _ fun l H1 hl1 e1 h1 => ⟨k, l, d, R, Gi, ts, ks, rfl, I.S.le.trans e1, hKp.ex I.S.ex, I.K.same e1, h1, hks, by omega, fun G2 H2 gv us2 S2 K2 hgv ggv hg2 r2 =>
        ⟨gl, gv, us, us2, rfl, rfl, S2.fr _ _ (e1 _ _ I.hg) (by simpa using I.gd), hg2, (by
          have l1 := I.rs.len
          have l2 := r2.len
          have l3 := (shutG_perm ts ks).length_eq
          rw [List.length_append] at l3
          rw [sizeLine_eq]
          omega), nx _ _ _ ((I.same e1).ext S2 K2 r2)⟩⟩⟩
    -- the end: a full row is given out
    have fin : ∀ {Gi Hi : Hp} {gl l : Addr} {us : List V} {gs ts : List Hot} {ys : List V} {bg : Bool}, TkI P w G H d ts0 Gi Hi gl us gs (ts ++ [(tg, l, ys)]) → (∀ t ∈ ts, t.1 ≠ tg) → gs.length + ts.length ≤ 940 → ys.length ≤ 1000 → endM R z tg ys (gs.map rowOf) (ts.map rowOf) = W →
        tSeq (tIfS (tOr (tB (tMeth C_Rule "ends_on" (spOn C_Rule C_Form C_Both C_Either Rul.es) [] E0 (tFld K (tVar 0) "_rule") (tCons (tVar 1) tNil))) (tTest (tOp rEq (tCB (fun xs H Q => ∃ p ys, xs = [.ref p] ∧ (SqL K H p ys ∨ SqT K H p ys) ∧ Q (.int ys.length) H) (tCons (tVar 6) tNil)) (tProp C_Rule (getSp C_Rule "_most") [] E0 (tFld K (tVar 0) "_rule")))))
          (tDrop (tBM K "list" rExtend (tVar 5) (tCons (tMeth C_Keeper "_shut" (spShut P w C_Keeper C_Rule C_Form C_Both C_Either) [] E0 (tVar 0) (tCons (tLst (tCons (tVar 2) tNil)) tNil)) tNil))) tNext) (tRet (tVar 5)) { nx := fun _ H' => Q .non H', rt := Q } [some (.ref k), some (.str z), some (kN tg), some x, some (.bl bg), some (.ref gl), some (.ref l)] Hi := fun {Gi Hi gl l us gs ts ys bg} I hnk hl hys hw => by
      have eG := gi I
      have hlst := (I.K.hot (tg, l, ys) (List.mem_append_right _ List.mem_cons_self)).2
      have cond : EvT (tOr (tB (tMeth C_Rule "ends_on" (spOn C_Rule C_Form C_Both C_Either Rul.es) [] E0 (tFld K (tVar 0) "_rule") (tCons (tVar 1) tNil))) (tTest (tOp rEq (tCB (fun xs H Q => ∃ p ys, xs = [.ref p] ∧ (SqL K H p ys ∨ SqT K H p ys) ∧ Q (.int ys.length) H) (tCons (tVar 6) tNil)) (tProp C_Rule (getSp C_Rule "_most") [] E0 (tFld K (tVar 0) "_rule"))))) [some (.ref k), some (.str z), some (kN tg), some x, some (.bl bg), some (.ref gl), some (.ref l)] Hi (fullM R z ys.length) :=
        et_or (et_B (ev_mth (rule rfl eG) (eG _ _ hr1) (ruleF_no (by decide +kernel) (by decide +kernel) (by decide +kernel) (by decide +kernel) (by decide +kernel) (by decide +kernel)) (ea_cons (ev_var rfl) ea_nil) fun H2 e2 Q' q' E' => ⟨r, R, z, rfl, hRA.ex (eG.trans e2), hz, by omega, q'⟩)) fun _ =>
          et_test (ev_op (ev_lenL (ev_var rfl) (sq_of hlst)) (ev_prop (rule rfl eG) (eG _ _ hr1) ruleF_m) (rv_eq (by cases R.most <;> rfl)))
      have f1 : (ts ++ [(tg, l, ys)]).filter (fun t => decide (t.1 = tg)) = [(tg, l, ys)] := by
        rw [List.filter_append, List.filter_eq_nil_iff.mpr fun t ht => by simpa using hnk t ht]
        simp
      have f2 : (ts ++ [(tg, l, ys)]).filter (fun t => decide (t.1 ≠ tg)) = ts := by
        rw [List.filter_append, List.filter_eq_self.mpr fun t ht => by simpa using hnk t ht]
        simp
      unfold endM at hw
      refine q_when cond (fun hc H1 e1 => ?_) (fun hc H1 e1 => ?_)
      · rw [if_pos hc] at hw
        refine ext (ks := [tg]) (I.same e1) rfl rfl (el_lst (ea_cons (ev_var rfl) ea_nil) (by simp)) (by simp) (by rw [List.length_append]; simp; omega) fun G2 H2 us2 I2 => ?_
        rw [shutG_one, f1, f2] at I2
        refine ⟨_, rfl, q G2 H2 gl us2 _ _ I2 ?_⟩
        rw [← hw, List.map_append]
        rfl
      · rw [if_neg (by simpa using hc)] at hw
        refine ⟨_, rfl, q Gi H1 gl us _ _ (I.same e1) ?_⟩
        rw [← hw, List.map_append]
        rfl
    -- the row's list: that of before, or a new one
    have wr : ∀ {Gi Hi : Hp} {gl l : Addr} {us : List V} {gs ts : List Hot} {xs : List V} {bg : Bool} {tail : TS}, TkI P w G H d ts0 Gi Hi gl us gs ts → FreeL G H ts0 Gi Hi gl gs ts l xs → (∀ t ∈ ts, t.1 ≠ tg) → xs.length ≤ 950 → ts.length ≤ 940 →
        (∀ H2, TkI P w G H d ts0 Gi H2 gl us gs (ts ++ [(tg, l, xs ++ [x])]) → tail { nx := fun _ H' => Q .non H', rt := Q } [some (.ref k), some (.str z), some (kN tg), some x, some (.bl bg), some (.ref gl), some (.ref l)] H2) →
        tSeq (tDrop (tBM K "list" rAppend (tVar 6) (tCons (tVar 3) tNil))) (tSeq (sNPut P w (tFld K (tVar 0) "_kept") (tVar 2) (tVar 6)) tail) { nx := fun _ H' => Q .non H', rt := Q } [some (.ref k), some (.str z), some (kN tg), some x, some (.bl bg), some (.ref gl), some (.ref l)] Hi := fun {Gi Hi gl l us gs ts xs bg tail} I L hnk hxs hl nx => by
      have nld : l ≠ d := ne_of L.at_ I.K.at_ (fun z => nomatch z)
      have nkl : k ≠ l := fun z => by
        have h1 := gi I _ _ hk
        rw [z, L.at_] at h1
        cases h1
      refine ⟨_, rfl, Or.inl ⟨rfl, xs, sq_of L.at_⟩, _, rfl, l, xs, x, rfl, rfl, L.at_, sz_lt (by omega), ?_⟩
      refine ⟨_, rfl, _, rfl, k, C_Keeper, dx, _, _, rfl, by rw [upd_ne nkl]; exact gi I _ _ hk, T.k_Keeper, T.a_Keeper__kept, keepF_k, _, rfl, d, kvsH ts, tg, rfl, rfl, by rw [upd_ne (Ne.symm nld)]; exact I.K.at_, sz_lt (by rw [kvs_len]; omega), ?_⟩
      exact nx _ (I.put L hnk)
    have pop : ∀ {Gi Hi : Hp} {gl : Addr} {us : List V} {gs ts : List Hot} {bg : Bool} {tail : TS}, TkI P w G H d ts0 Gi Hi gl us gs ts → gs.length + ts.length ≤ 930 → (∀ t ∈ ts, t.2.2.length ≤ 900) →
        (∀ (l : Addr) (Gi H2 : Hp) (ts2 : List Hot) (ys : List V), TkI P w G H d ts0 Gi H2 gl us gs (ts2 ++ [(tg, l, ys)]) → (∀ t ∈ ts2, t.1 ≠ tg) → ts2.length ≤ ts.length → ys.length ≤ 1000 → ((∃ t, t ∈ ts ∧ ts.filter (fun t => decide (t.1 = tg)) = [t] ∧ ts2 = ts.filter (fun t => decide (t.1 ≠ tg)) ∧ ys = t.2.2 ++ [x]) ∨ (ts.filter (fun t => decide (t.1 = tg)) = [] ∧ ts2 = ts ∧ ys = [x])) →
          tail { nx := fun _ H' => Q .non H', rt := Q } [some (.ref k), some (.str z), some (kN tg), some x, some (.bl bg), some (.ref gl), some (.ref l)] H2) →
        tSeq (tAsg (tNPop2 P w (tFld K (tVar 0) "_kept") (tVar 2) (tLst tNil)) (gName 6)) (tSeq (tDrop (tBM K "list" rAppend (tVar 6) (tCons (tVar 3) tNil))) (tSeq (sNPut P w (tFld K (tVar 0) "_kept") (tVar 2) (tVar 6)) tail)) { nx := fun _ H' => Q .non H', rt := Q } [some (.ref k), some (.str z), some (kN tg), some x, some (.bl bg), some (.ref gl), none] Hi := fun {Gi Hi gl us gs ts bg tail} I hl hx2 nx => by
      have ev := kvs_val (ts := ts) tg
      have eG := gi I
      refine ⟨_, rfl, k, C_Keeper, dx, _, _, rfl, eG _ _ hk, T.k_Keeper, T.a_Keeper__kept, keepF_k, d, rfl, ⟨_, .inl I.K.at_⟩, _, rfl, sz_of (by simp), fun l hl0 => ?_⟩
      have e1 : Ex Hi (upd Hi l (.lst [])) := Ex.new hl0
      have nld : d ≠ l := ne_of_none I.K.at_ hl0
      have I1 := I.same e1
      refine ⟨kvsH ts, tg, I1.K.at_, rfl, fun v hv => ?_, fun hv => ?_⟩
      · rcases find_one I.K.nk tg with ⟨f1, f2, f3⟩ | ⟨t, f1, f2, f3⟩
        · rw [f1] at ev
          rw [ev] at hv
          cases hv
        · rw [f3] at ev
          rw [ev] at hv
          cases hv
          obtain ⟨I2, L2⟩ := I1.pop f1
          rw [f2] at I2 L2
          refine wr I2 L2 (fun u hu => ?_) (by have := hx2 t f1; omega) (by have := List.length_filter_le (fun u : Hot => decide (u.1 ≠ tg)) ts; omega) fun H2 I3 => nx _ _ _ _ _ I3 (fun u hu => ?_) (List.length_filter_le _ _) (by have := hx2 t f1; rw [List.length_append]; simp; omega) (.inl ⟨t, f1, f3, rfl, rfl⟩)
          · simpa using (List.mem_filter.mp hu).2
          · simpa using (List.mem_filter.mp hu).2
      · rcases find_one I.K.nk tg with ⟨f1, f2, f3⟩ | ⟨t, f1, f2, f3⟩
        · have L2 : FreeL G H ts0 Gi (upd Hi l (.lst [])) gl gs ts l [] := ⟨fresh_back I.S.le hl0, upd_same, Ne.symm (ne_of_none I.hg hl0), (fun z => by
            obtain ⟨t, ht, e⟩ := List.mem_map.mp z
            rcases List.mem_append.mp ht with m | m
            · have := (I.K.hot t m).2
              rw [e, hl0] at this
              cases this
            · have := (I.ho t m).2
              rw [e, hl0] at this
              cases this), .inr (I.S.free hl0)⟩
          exact wr I1 L2 f3 (by simp) (by omega) fun H2 I3 => nx _ _ _ _ _ I3 f3 (Nat.le_refl _) (by simp) (.inr ⟨f1, rfl, rfl⟩)
        · rw [f3] at ev
          rw [ev] at hv
          cases hv
    obtain ⟨bg, hbg⟩ : ∃ bg, bg = onM R.bs z := ⟨_, rfl⟩
    have hW2 := hW
    unfold fedM at hW2
    rw [← htg, ← hbg] at hW2
    -- behind what a beginning line gives out
    have rest : ∀ {Gi Hi : Hp} {gl : Addr} {us : List V} {gs ts : List Hot}, TkI P w G H d ts0 Gi Hi gl us gs ts → gs.length + ts.length ≤ 900 → (∀ t ∈ ts, t ∈ ts0) → (bg = false → gs = []) → (gs.map rowOf, ts.map rowOf) = (if bg = true then shutG [tg] (ts0.map rowOf) else ([], ts0.map rowOf)) →
        tSeq (tIfS (tB (tNNotIn P w (tVar 2) (tFld K (tVar 0) "_kept")))
          (tSeq (tIfS (tAnd (tNot (tB (tVar 4))) (tNot (tB (tProp C_Rule (getSp C_Rule "_alone") [] E0 (tFld K (tVar 0) "_rule"))))) (tRet (tLst tNil)) tNext)
            (tDrop (tBM K "list" rExtend (tVar 5) (tCons (tMeth C_Keeper "_shut" (spShut P w C_Keeper C_Rule C_Form C_Both C_Either) [] E0 (tVar 0) (tCons (tMeth C_Keeper "_too_many" (spMany P w C_Keeper C_Rule C_Form C_Both C_Either) [] E0 (tVar 0) tNil) tNil)) tNil)))) tNext)
          (tSeq (tAsg (tNPop2 P w (tFld K (tVar 0) "_kept") (tVar 2) (tLst tNil)) (gName 6)) (tSeq (tDrop (tBM K "list" rAppend (tVar 6) (tCons (tVar 3) tNil))) (tSeq (sNPut P w (tFld K (tVar 0) "_kept") (tVar 2) (tVar 6))
            (tSeq (tIfS (tOr (tB (tMeth C_Rule "ends_on" (spOn C_Rule C_Form C_Both C_Either Rul.es) [] E0 (tFld K (tVar 0) "_rule") (tCons (tVar 1) tNil))) (tTest (tOp rEq (tCB (fun xs H Q => ∃ p ys, xs = [.ref p] ∧ (SqL K H p ys ∨ SqT K H p ys) ∧ Q (.int ys.length) H) (tCons (tVar 6) tNil)) (tProp C_Rule (getSp C_Rule "_most") [] E0 (tFld K (tVar 0) "_rule")))))
          (tDrop (tBM K "list" rExtend (tVar 5) (tCons (tMeth C_Keeper "_shut" (spShut P w C_Keeper C_Rule C_Form C_Both C_Either) [] E0 (tVar 0) (tCons (tLst (tCons (tVar 2) tNil)) tNil)) tNil))) tNext) (tRet (tVar 5)))))) { nx := fun _ H' => Q .non H', rt := Q } [some (.ref k), some (.str z), some (kN tg), some x, some (.bl bg), some (.ref gl), none] Hi := fun {Gi Hi gl us gs ts} I hl hsub hgs hrow => by
      have eG := gi I
      have ev := kvs_val (ts := ts) tg
      rw [← hrow] at hW2
      have rows : ∀ (p : Option Key → Bool) (l : List Hot), (l.map rowOf).filter (fun r => p r.1) = (l.filter fun t => p t.1).map rowOf := fun p l => by
        rw [List.filter_map]
        rfl
      have r1 := rows (fun o => decide (o = tg)) ts
      have r2 := rows (fun o => decide (o ≠ tg)) ts
      rcases find_one I.K.nk tg with ⟨f1, f2, f3⟩ | ⟨t, f1, f2, f3⟩
      · rw [f1] at ev r1
        rw [restM_no r1] at hW2
        refine q_when (b := true) (et_is (et_B (ev_nnin (P := P) (w := w) (ev_var rfl) (kept rfl eG) (.inl I.K.at_))) (by rw [ev]; rfl)) (fun _ H1 e1 => ?_) (fun z => by cases z)
        have I1 := I.same e1
        refine q_when (b := !bg && !R.alone) (et_and (et_not (et_B (ev_var rfl))) fun _ => et_not (et_B (ev_prop (rule rfl (eG.trans e1)) ((eG.trans e1) _ _ hr1) ruleF_a))) (fun hc H2 e2 => ?_) (fun hc H2 e2 => ?_)
        · rw [if_pos hc] at hW2
          have hb0 : bg = false := by
            cases bg with
            | true => cases hc
            | false => rfl
          have hg0 := hgs hb0
          refine s_retL (el_lst ea_nil (Nat.zero_le _)) fun l H3 hl3 e3 h3 => ?_
          refine q Gi H3 l [] [] ts (TkI.start (I1.same e2).S (I1.same e2).K (fun t ht => I.old t (List.mem_append_left _ ht)) hl3 e3 h3) ?_
          rw [hW2, hg0]
        · have I2 := I1.same e2
          have eG2 := (eG.trans e1).trans e2
          rw [if_neg (by rw [hc]; decide)] at hW2
          have many : EvL (tMeth C_Keeper "_too_many" (spMany P w C_Keeper C_Rule C_Form C_Both C_Either) [] E0 (tVar 0) tNil) [some (.ref k), some (.str z), some (kN tg), some x, some (.bl bg), some (.ref gl), none] H2 ((if manyM R ts.length = true then (ts.map (·.1)).take 1 else []).map kN) := fun H3 e3 Q' q' =>
            ⟨_, rfl, k, dx, _, rfl, e3 _ _ (eG2 _ _ hk), keepF_no (by decide +kernel) (by decide +kernel), k, d, R, Gi, ts, rfl, I2.S.le.trans e3, hKp.ex I2.S.ex, I2.K.same e3, hR, fun p H4 hp e4 h4 => q' p H4 hp e4 h4⟩
          refine ext I2 rfl rfl many (by split <;> simp <;> omega) (by omega) fun G3 H3 us3 I3 => ?_
          have sh : shutG (if manyM R ts.length = true then (ts.map (·.1)).take 1 else []) ts = (if manyM R ts.length = true then (ts.take 1, ts.drop 1) else ([], ts)) := by
            by_cases hm : manyM R ts.length = true
            · rw [if_pos hm, if_pos hm]
              refine shutG_all I.K.nk 1 ?_
              cases ht : R.tags with
              | none =>
                rw [manyM_none ht] at hm
                cases hm
              | some m =>
                rw [manyM_some ht, Bool.and_eq_true, decide_eq_true_eq, decide_eq_true_eq] at hm
                omega
            · rw [if_neg hm, if_neg hm]
              rfl
          rw [sh] at I3
          have l3 : (gs ++ (if manyM R ts.length = true then (ts.take 1, ts.drop 1) else ([], ts)).1).length + (if manyM R ts.length = true then (ts.take 1, ts.drop 1) else ([], ts)).2.length = gs.length + ts.length := by
            split
            · simp
              omega
            · simp
          have sub3 : ∀ t ∈ (if manyM R ts.length = true then (ts.take 1, ts.drop 1) else ([], ts)).2, t ∈ ts := fun t ht => by
            split at ht
            · exact List.mem_of_mem_drop ht
            · exact ht
          refine pop I3 (by omega) (fun t ht => hx t (hsub t (sub3 t ht))) fun l G4 H4 ts2 ys I4 hnk hl4 hys hor => ?_
          refine fin I4 hnk (by omega) hys ?_
          rcases hor with ⟨t, m1, m2, _⟩ | ⟨_, e4, e5⟩
          · have : t ∈ [t] := List.mem_cons_self
            rw [← m2] at this
            exact absurd (by simpa using (List.mem_filter.mp this).2) (f3 t (sub3 t m1))
          · rw [e4, e5, hW2, List.length_map]
            split <;> simp [List.map_take, List.map_drop]
      · rw [f3] at ev r1
        rw [List.map_cons] at r1
        rw [restM_own r1, r2] at hW2
        refine q_when (b := false) (et_is (et_B (ev_nnin (P := P) (w := w) (ev_var rfl) (kept rfl eG) (.inl I.K.at_))) (by rw [ev]; rfl)) (fun z => by cases z) (fun _ H1 e1 => ?_)
        refine pop (I.same e1) (by omega) (fun t ht => hx t (hsub t ht)) fun l G4 H4 ts2 ys I4 hnk hl4 hys hor => ?_
        refine fin I4 hnk (by omega) hys ?_
        rcases hor with ⟨u, m1, m2, m3, m4⟩ | ⟨m2, _⟩
        · rw [f3] at m2
          cases m2
          rw [m3, m4, hW2]
          rfl
        · rw [f3] at m2
          cases m2
    -- from the beginning
    refine q_ifAsg (v := kN tg) (b := R.tags.isNone) (et_is (et_test (ev_op (ev_prop (rule rfl hG) (hG _ _ hr1) ruleF_t) ev_c rv_isN)) oV_non) (fun hb => ev_is ev_c ?_) (fun hb => ?_) fun H1 e1 => ?_
    · rw [htg]
      unfold tagM
      rw [if_pos hb]
      rfl
    · have : tg = tag := by
        rw [htg]
        unfold tagM
        rw [if_neg (by rw [hb]; decide)]
      rw [this]
      rfl
    have g1 := hG.trans e1
    refine q_asg (v := .bl bg) (ev_mth (rule rfl g1) (g1 _ _ hr1) (ruleF_no (by decide +kernel) (by decide +kernel) (by decide +kernel) (by decide +kernel) (by decide +kernel) (by decide +kernel)) (ea_cons (ev_var rfl) ea_nil) fun H2 e2 Q' q' E' => ⟨r, R, z, rfl, hRA.ex (g1.trans e2), hz, by omega, by rw [← hbg]; exact q'⟩) fun H2 e2 => ?_
    have e12 := e1.trans e2
    have g2 := hG.trans e12
    have S2 : Stp (d :: ts0.map (·.2.1)) G H G H2 := Stp.refl hG e12
    have K2 := hS.same e12
    show tIf (tB (tVar 4)) _ _ _ H2 _
    refine ⟨_, rfl, bg, rfl, ?_⟩
    cases hb : bg with
    | false =>
      rw [if_neg (by decide)]
      refine ⟨sz_of (by simp), fun l hl => ?_⟩
      rw [← hb]
      refine rest (TkI.start (ts := ts0) S2 K2 (fun t ht => .inl (mem_adr ht)) hl (Ex.new hl) upd_same) (by simp; omega) (fun t ht => ht) (fun _ => rfl) ?_
      rw [hb, if_neg (by decide)]
      rfl
    | true =>
      rw [if_pos rfl]
      refine ⟨_, rfl, k, dx, _, rfl, g2 _ _ hk, keepF_no (by decide +kernel) (by decide +kernel), _, rfl, sz_of (by simp), fun l hl => ?_⟩
      have e3 : Ex H2 (upd H2 l (.lst [kN tg])) := Ex.new hl
      refine ⟨k, l, d, R, G, ts0, [tg], rfl, g2.trans e3, hKp, K2.same e3, upd_same, by simp, by omega, fun G4 H4 gv us4 S4 K4 hgv ggv hg4 r4 => ?_⟩
      have hp := shutG_perm ts0 [tg]
      have S5 : Stp (d :: ts0.map (·.2.1)) G H G4 H4 := (S2.step e3).trans S4 fun a ha => .inl (by rw [List.mem_singleton.mp ha]; exact List.mem_cons_self)
      have perm : ((shutG [tg] ts0).2 ++ (shutG [tg] ts0).1).Perm ts0 := List.perm_append_comm.trans hp
      rw [← hb]
      refine rest (gs := (shutG [tg] ts0).1) (ts := (shutG [tg] ts0).2) ⟨S5, K4, (S2.step e3).free hgv, ggv, hg4, r4, (perm.map _).nodup_iff.mpr hS.na, fun t ht => ?_, fun t ht => .inl (mem_adr (perm.subset ht)), fun z => ?_⟩ ?_ (fun t ht => hp.subset (List.mem_append_right _ ht)) (fun z => by rw [hb] at z; cases z) ?_
      · have m := hp.subset (List.mem_append_left _ ht)
        exact hot_stays S4 ((K2.same e3).hot t m) (by simpa using (K2.same e3).ne m)
      · obtain ⟨t, ht, e⟩ := List.mem_map.mp z
        have := ((K2.same e3).hot t (perm.subset ht)).2
        rw [e, hgv] at this
        cases this
      · have := hp.length_eq
        rw [List.length_append] at this
        omega
      · rw [hb, if_pos rfl]
        have := shutG_map (fun p : Addr × List V => p.2) ts0 [tg]
        exact this.symm

/-! ### a Keeper made -/
def spKeepI (P : Program) (w : World) (CK CR CF CB CE : Addr) : Sp := fun vs H Q _ => ∃ (a r dx : Addr) (R : Rul) (G : Hp), vs = [.ref a, .ref r] ∧ H a = some (.ins CK dx []) ∧ Ex G H ∧ G a = none ∧ RuleIn CR CF CB CE G H r R ∧ GoodR R ∧
  ∀ H' d, H d = none → Ex (hide a H) H' → H' d = some (dN P w d []) → H' a ≠ none → (∀ G' : Hp, Ex G G' → (∀ y o, (y = a ∨ H y = none) → y ≠ d → H' y = some o → G' y = some o) → KpAt CK CR CF CB CE G' a R d) → Q .non H'
theorem ok_Keeper___init__ {f : Addr} {fd : FuncData} (F : Fun K "__init__" "Keeper.__init__" s_Keeper___init__ f fd) (T : Txt K mg a_FIELDS a_OPEN_PARTS C_Both C_Either C_Form C_Gluer C_Keeper C_Rule) (D_Rule_begins : DfM P w K mg base C_Rule "begins" ["self"] 1 (spMarks C_Rule C_Form C_Both C_Either Rul.bs)) (D_Rule_ends : DfM P w K mg base C_Rule "ends" ["self"] 1 (spMarks C_Rule C_Form C_Both C_Either Rul.es))
    (D_Rule_most : DfP P w K mg base C_Rule "most" 1 (getSp C_Rule "_most")) (D_Rule_alone : DfP P w K mg base C_Rule "alone" 1 (getSp C_Rule "_alone")) (D_Rule_tags : DfP P w K mg base C_Rule "tags" 1 (getSp C_Rule "_tags")) (D_Rule_quiet : DfP P w K mg base C_Rule "quiet" 1 (getSp C_Rule "_quiet"))
    (D_Rule___init__ : DfIK P w K mg base "Rule" C_Rule ["self", "begins", "ends", "most", "alone", "tags", "quiet"] 2 ["most", "alone", "tags", "quiet"] 3 (spRuleI C_Rule C_Form C_Both C_Either K)) :
    FnOk P w K mg base CX0 5 f fd ["self", "rule"] (spKeepI P w C_Keeper C_Rule C_Form C_Both C_Either) := by
  refine F.ok sc_Keeper___init__ (fun vs H Q E h => ?_) (fun cdv A outer s0 H vs Q E hr h => ?_)
  · obtain ⟨a, r, dx, R, G, rfl, _⟩ := h
    rfl
  · obtain ⟨a, r, dx, R, G, rfl, ha, hGH, hGa, hRA, hR, q⟩ := h
    refine ⟨_, (pss_cons (ps_fld (pv 0) (pe_mkK D_Rule___init__ (hr.mono (by decide)) (by rfl) (pa_cons (pe_mth0 T.k_Rule D_Rule_begins (hr.mono (by decide)) (pv 1)) (pa_cons (pe_mth0 T.k_Rule D_Rule_ends (hr.mono (by decide)) (pv 1)) pa_nil)) (pk_cons (pe_propD T.k_Rule D_Rule_most (hr.mono (by decide)) (pv 1)) (pk_cons (pe_propD T.k_Rule D_Rule_alone (hr.mono (by decide)) (pv 1)) (pk_cons (pe_propD T.k_Rule D_Rule_tags (hr.mono (by decide)) (pv 1)) (pk_cons (pe_propD T.k_Rule D_Rule_quiet (hr.mono (by decide)) (pv 1)) pk_nil))))) rfl)
      (pss_one (ps_fld (pv 0) (pe_nnew P w rfl rfl) rfl))), ?_⟩
    have A0 : At0 G a (.ins C_Keeper dx []) H := ⟨hGH, ha, hGa⟩
    obtain ⟨dr, lb, le, ub, ue, r1, r2, r3, r4, r5⟩ := id hRA
    have rn : ∀ {x : Str}, ¬ x = "_quiet" → ¬ x = "_tags" → ¬ x = "_alone" → ¬ x = "_most" → ¬ x = "_ends" → ¬ x = "_begins" → (ruleF lb le R.most R.alone R.tags R.quiet).lookup x = none := fun h1 h2 h3 h4 h5 h6 => ruleF_no h1 h2 h3 h4 h5 h6
    refine ⟨_, rfl, r, dr, _, rfl, r1, rn (by decide +kernel) (by decide +kernel) (by decide +kernel) (by decide +kernel) (by decide +kernel) (by decide +kernel), r, R, G, rfl, A0.ex, hRA, fun l1 us1 H1 hl1 e1 h1 q1 => ?_⟩
    refine ⟨_, rfl, r, dr, _, rfl, e1 _ _ r1, rn (by decide +kernel) (by decide +kernel) (by decide +kernel) (by decide +kernel) (by decide +kernel) (by decide +kernel), r, R, G, rfl, A0.ex.trans e1, hRA.same e1, fun l2 us2 H2 hl2 e2 h2 q2 => ?_⟩
    have e12 := e1.trans e2
    have g2 := A0.ex.trans e12
    have hr2 := e12 _ _ r1
    refine ⟨_, rfl, r, dr, _, rfl, hr2, r, dr, _, _, rfl, hr2, ruleF_m, _, rfl, r, dr, _, rfl, hr2, r, dr, _, _, rfl, hr2, ruleF_a, _, rfl, r, dr, _, rfl, hr2, r, dr, _, _, rfl, hr2, ruleF_t, _, rfl, r, dr, _, rfl, hr2, r, dr, _, _, rfl, hr2, ruleF_q, rfl, rfl, fun x dx2 hx hdx nxd => ?_⟩
    obtain ⟨H3, hH3⟩ : ∃ H3, H3 = upd (upd H2 dx2 (.own x)) x (.ins C_Rule dx2 []) := ⟨_, rfl⟩
    rw [← hH3]
    have e3 : Ex H2 (hide x H3) := fun b o hb => by
      rw [hide_ne (ne_of_none hb hx), hH3, upd_ne (ne_of_none hb hx), upd_ne (ne_of_none hb hdx)]
      exact hb
    have a2 := e12 _ _ A0.at_
    refine ⟨x, l1, l2, dx2, us1, us2, R, rfl, by rw [hH3, upd_same], sq_of (e3 _ _ (e2 _ _ h1)), (q1.ex upP g2).ex upP e3, sq_of (e3 _ _ h2), (q2.ex upP g2).ex upP e3, hR, fun H4 e4 hRu => ⟨rfl, ?_⟩⟩
    have e24 : Ex H2 H4 := e3.trans e4
    refine ⟨_, rfl, a, C_Keeper, dx, [], rfl, e24 _ _ a2, T.k_Keeper, T.a_Keeper__rule, by decide, ?_⟩
    have z1 := length_putF ("_rule" : Str) (.ref x) []
    simp only [List.length_nil] at z1
    intro d hd
    refine ⟨_, rfl, a, C_Keeper, dx, putF "_rule" (.ref x) [], rfl, ?_, T.k_Keeper, T.a_Keeper__kept, by omega, ?_⟩
    · rw [upd_ne (fun z => by rw [← z, upd_same] at hd; cases hd), upd_same]
    have nad : a ≠ d := fun z => by
      rw [← z, upd_same] at hd
      cases hd
    have hd4 : H4 d = none := by rwa [upd_ne (Ne.symm nad)] at hd
    have fin : Ex (hide a H) (upd (upd (upd H4 a (.ins C_Keeper dx (putF "_rule" (.ref x) []))) d (dN P w d [])) a (.ins C_Keeper dx (putF "_kept" (.ref d) (putF "_rule" (.ref x) [])))) := fun b o hb => by
      obtain ⟨na, hb⟩ := hide_some hb
      have hb4 := e24 _ _ (e12 _ _ hb)
      have nd : b ≠ d := ne_of_none hb4 hd4
      rw [upd_ne na, upd_ne nd, upd_ne na]
      exact hb4
    refine q _ d (fresh_back (e12.trans e24) hd4) fin ?_ ?_ fun G' eG hn => ⟨dx, x, ?_, hRu _ (q1.ex upP eG) (q2.ex upP eG) fun y o hy ho => ?_⟩
    · rw [upd_ne (Ne.symm nad), upd_same]
    · rw [upd_same]
      exact fun z => by cases z
    · refine hn a _ (.inl rfl) nad ?_
      rw [upd_same]
      rfl
    · have na : y ≠ a := fun z => by
        have := e3 _ _ a2
        rw [← z, hy] at this
        cases this
      have nd : y ≠ d := fun z => by
        rw [z, hd4] at ho
        cases ho
      refine hn y o (.inr (fresh_back (e12.trans e3) hy)) nd ?_
      rw [upd_ne na, upd_ne nd, upd_ne na]
      exact ho

/-! ### the Gluer -/
/-- what is frozen, and all that is new but D -/
def addN (G H H' : Hp) (D : List Addr) : Hp := fun y => match G y with
  | some o => some o
  | none => match H y with
    | some _ => none
    | none => if y ∈ D then none else H' y
section
variable {G H H' : Hp} {D M : List Addr}
theorem addN_old {y : Addr} {o : HO} (h : G y = some o) : addN G H H' D y = some o := by
  unfold addN
  rw [h]
theorem addN_hot {y : Addr} (h : G y = none) (h2 : H y ≠ none) : addN G H H' D y = none := by
  unfold addN
  rw [h]
  cases q : H y with
  | none => exact absurd q h2
  | some o => rfl
theorem addN_new {y : Addr} (h : H y = none) (e : Ex G H) (hD : y ∉ D) : addN G H H' D y = H' y := by
  unfold addN
  rw [fresh_back e h, h]
  show (if y ∈ D then none else H' y) = _
  rw [if_neg hD]
theorem addN_not {y : Addr} (h : G y = none) (hD : y ∈ D) : addN G H H' D y = none := by
  unfold addN
  rw [h]
  cases q : H y with
  | none =>
    show (if y ∈ D then none else H' y) = _
    rw [if_pos hD]
  | some o => rfl
theorem addN_stp (e : Ex G H) (fr : ∀ a o, H a = some o → a ∉ M → H' a = some o) (hM : ∀ a ∈ M, G a = none) (th : ∀ a, H a ≠ none → H' a ≠ none) : Stp M G H (addN G H H' D) H' := by
  refine ⟨fun y o h => addN_old h, fun y o h => ?_, fun y h h2 => addN_hot h h2, fr, th⟩
  cases q : G y with
  | some u =>
    rw [addN_old q] at h
    cases h
    exact fr y _ (e _ _ q) fun z => by
      rw [hM y z] at q
      cases q
  | none =>
    cases q2 : H y with
    | some u =>
      rw [addN_hot q (by rw [q2]; exact fun z => by cases z)] at h
      cases h
    | none =>
      by_cases hD : y ∈ D
      · rw [addN_not q hD] at h
        cases h
      · rw [addN_new q2 e hD] at h
        exact h
end
theorem Stp.weak {M N : List Addr} {G H G1 H1 : Hp} (S : Stp M G H G1 H1) (h : ∀ a ∈ M, a ∈ N) : Stp N G H G1 H1 := ⟨S.ex, S.le, S.nw, fun a o ha hn => S.fr a o ha fun z => hn (h a z), S.th⟩
def gluF (k : Addr) (n : Int) : List (Str × V) := putF "_many" (.int n) (putF "_keeper" (.ref k) [])
theorem gluF_k {k : Addr} {n : Int} : (gluF k n).lookup ("_keeper" : Str) = some (.ref k) := by
  unfold gluF
  (repeat (first | rw [lookup_putF, if_neg (by decide +kernel)] | rw [lookup_putF, if_pos rfl]))
theorem gluF_n {k : Addr} {n : Int} : (gluF k n).lookup ("_many" : Str) = some (.int n) := by
  unfold gluF
  (repeat (first | rw [lookup_putF, if_neg (by decide +kernel)] | rw [lookup_putF, if_pos rfl]))
theorem gluF_no {k : Addr} {n : Int} {m : Str} (h1 : ¬ m = "_many") (h2 : ¬ m = "_keeper") : (gluF k n).lookup m = none := by
  unfold gluF
  rw [lookup_putF, if_neg h1, lookup_putF, if_neg h2]
  rfl
theorem gluF_put {k : Addr} {n m : Int} : putF "_many" (.int m) (gluF k n) = gluF k m := by
  unfold gluF
  have h : ¬ (("_keeper" : Str) = "_many") := by decide +kernel
  have e : ∀ j : Int, putF "_many" (.int j) (putF "_keeper" (.ref k) []) = ([(("_keeper" : Str), V.ref k), (("_many" : Str), V.int j)] : List (Str × V)) := fun j => by
    show (if ("_keeper" : Str) = "_many" then _ else _) = _
    rw [if_neg h]
    rfl
  rw [e, e]
  show (if ("_keeper" : Str) = "_many" then _ else (("_keeper" : Str), V.ref k) :: (if ("_many" : Str) = "_many" then _ else _)) = _
  rw [if_neg h, if_pos rfl]
structure GlS (P : Program) (w : World) (CG CK CR CF CB CE : Addr) (G H : Hp) (g k d : Addr) (R : Rul) (n : Int) (ts : List Hot) : Prop where
  fr : G g = none
  at_ : ∃ gx, H g = some (.ins CG gx (gluF k n))
  kp : KpAt CK CR CF CB CE G k R d
  ks : KpS P w G H d ts
section
variable {CG CK CR CF CB CE g k d : Addr} {R : Rul} {n : Int} {ts : List Hot} {G H G1 H1 : Hp} {M : List Addr}
theorem GlS.same (S : GlS P w CG CK CR CF CB CE G H g k d R n ts) (e : Ex H H1) : GlS P w CG CK CR CF CB CE G H1 g k d R n ts := ⟨S.fr, let ⟨gx, h⟩ := S.at_; ⟨gx, e _ _ h⟩, S.kp, S.ks.same e⟩
theorem GlS.step (S : GlS P w CG CK CR CF CB CE G H g k d R n ts) (T : Stp M G H G1 H1) (ng : g ∉ M) (nd : d ∉ M) (nt : ∀ t ∈ ts, t.2.1 ∉ M) : GlS P w CG CK CR CF CB CE G1 H1 g k d R n ts := by
  obtain ⟨gx, h⟩ := S.at_
  exact ⟨T.nw _ S.fr (by rw [h]; exact fun z => by cases z), ⟨gx, T.fr _ _ h ng⟩, S.kp.ex T.ex, S.ks.step T nd nt⟩
theorem GlS.gd (S : GlS P w CG CK CR CF CB CE G H g k d R n ts) : g ≠ d := by
  obtain ⟨gx, h⟩ := S.at_
  exact ne_of h S.ks.at_ (fun z => nomatch z)
theorem GlS.gt (S : GlS P w CG CK CR CF CB CE G H g k d R n ts) {t : Hot} (ht : t ∈ ts) : g ≠ t.2.1 := by
  obtain ⟨gx, h⟩ := S.at_
  exact ne_of h (S.ks.hot t ht).2 (fun z => nomatch z)
end
/-- what a call of the Gluer tells: gs given out (the list at gv), ts' kept -/
structure GOut (P : Program) (w : World) (CG CK CR CF CB CE : Addr) (G H : Hp) (g k d : Addr) (R : Rul) (n : Int) (ts : List Hot) (G' H' : Hp) (gv : Addr) (us : List V) (gs ts' : List Hot) : Prop where
  S : Stp (g :: d :: ts.map (·.2.1)) G H G' H'
  Gl : GlS P w CG CK CR CF CB CE G' H' g k d R (n + gs.length) ts'
  g0 : H gv = none
  gg : G' gv = none
  hg : H' gv = some (.lst us)
  rs : Rs TupH G' us gs
  na : ((ts' ++ gs).map (·.2.1)).Nodup
  ho : ∀ t ∈ gs, G' t.2.1 = none ∧ H' t.2.1 = some (.lst t.2.2)
  old : ∀ t ∈ ts' ++ gs, t.2.1 ∈ ts.map (·.2.1) ∨ H t.2.1 = none
  ng : gv ∉ (ts' ++ gs).map (·.2.1)
def spCount (CG : Addr) : Sp := fun vs H Q _ => ∃ (g k l gx : Addr) (n : Int) (us : List V), vs = [.ref g, .ref l] ∧ H g = some (.ins CG gx (gluF k n)) ∧ H l = some (.lst us) ∧ us.length ≤ 5000 ∧ ∀ H', Ex H H' → Q (.ref l) (upd H' g (.ins CG gx (gluF k (n + us.length))))
theorem ok_Gluer__counted {f : Addr} {fd : FuncData} (F : Fun K "_counted" "Gluer._counted" s_Gluer__counted f fd) (T : Txt K mg a_FIELDS a_OPEN_PARTS C_Both C_Either C_Form C_Gluer C_Keeper C_Rule) : FnOk P w K mg base CX0 1 f fd ["self", "given"] (spCount C_Gluer) := by
  refine F.ok sc_Gluer__counted (fun vs H Q E h => ?_) (fun cdv A outer s0 H vs Q E hr h => ?_)
  · obtain ⟨g, k, l, gx, n, us, rfl, _⟩ := h
    rfl
  · obtain ⟨g, k, l, gx, n, us, rfl, hg, hl, hn, q⟩ := h
    refine ⟨_, (pss_cons (ps_fld (pv 0) (pe_op op_add (pe_fld (pv 0) rfl) (pe_callB call_len_seq (by rfl) T.n_len PySem.boot_len (pa_cons (pv 1) pa_nil))) rfl)
      (pss_one (ps_ret (pv 1)))), ?_⟩
    refine (ev_op (tFld_ev (i := 0) rfl hg T.k_Gluer T.a_Gluer__many gluF_n) (ev_lenL (ev_var rfl) (sq_of hl)) rv_add) H (Ex.refl _) _ fun H1 e1 => ?_
    have z1 := length_putF ("_keeper" : Str) (.ref k) []
    have z2 := length_putF ("_many" : Str) (.int n) (putF "_keeper" (.ref k) [])
    simp only [List.length_nil] at z1
    refine ⟨_, rfl, g, C_Gluer, gx, gluF k n, rfl, e1 _ _ hg, T.k_Gluer, T.a_Gluer__many, (by unfold gluF; omega), ?_⟩
    rw [gluF_put]
    exact ⟨_, rfl, q H1 e1⟩
theorem ok_Gluer_many {f : Addr} {fd : FuncData} (F : Fun K "many" "Gluer.many" s_Gluer_many f fd) (T : Txt K mg a_FIELDS a_OPEN_PARTS C_Both C_Either C_Form C_Gluer C_Keeper C_Rule) : FnOk P w K mg base CX0 1 f fd ["self"] (getSp C_Gluer "_many") := by
  refine F.ok sc_Gluer_many (fun vs H Q E h => ?_) (fun cdv A outer s0 H vs Q E hr h => ?_)
  · obtain ⟨a, dx, fs, v, rfl, _⟩ := h
    rfl
  · obtain ⟨a, dx, fs, v, rfl, ha, hl, q⟩ := h
    refine ⟨_, (pss_one (ps_ret (pe_fld (pv 0) rfl))), ?_⟩
    exact ⟨_, rfl, a, C_Gluer, dx, fs, v, rfl, ha, T.k_Gluer, T.a_Gluer__many, hl, q⟩
def spGlI (P : Program) (w : World) (CG CK CR CF CB CE : Addr) : Sp := fun vs H Q _ => ∃ (a r dx : Addr) (R : Rul) (G : Hp), vs = [.ref a, .ref r] ∧ H a = some (.ins CG dx []) ∧ Ex G H ∧ G a = none ∧ RuleIn CR CF CB CE G H r R ∧ GoodR R ∧
  ∀ G' H' k d, Stp [a] G H G' H' → H d = none → H k = none → GlS P w CG CK CR CF CB CE G' H' a k d R 0 [] → Q .non H'
theorem ok_Gluer___init__ {f : Addr} {fd : FuncData} (F : Fun K "__init__" "Gluer.__init__" s_Gluer___init__ f fd) (T : Txt K mg a_FIELDS a_OPEN_PARTS C_Both C_Either C_Form C_Gluer C_Keeper C_Rule) (D_Keeper___init__ : DfI P w K mg base "Keeper" C_Keeper ["self", "rule"] 5 (spKeepI P w C_Keeper C_Rule C_Form C_Both C_Either)) : FnOk P w K mg base CX0 7 f fd ["self", "rule"] (spGlI P w C_Gluer C_Keeper C_Rule C_Form C_Both C_Either) := by
  refine F.ok sc_Gluer___init__ (fun vs H Q E h => ?_) (fun cdv A outer s0 H vs Q E hr h => ?_)
  · obtain ⟨a, r, dx, R, G, rfl, _⟩ := h
    rfl
  · obtain ⟨a, r, dx, R, G, rfl, ha, hG, hGa, hRA, hR, q⟩ := h
    refine ⟨_, (pss_cons (ps_fld (pv 0) (pe_mk D_Keeper___init__ (hr.mono (by decide)) (by rfl) (pa_cons (pv 1) pa_nil)) rfl)
      (pss_one (ps_fld (pv 0) pe_int rfl))), ?_⟩
    refine ⟨_, rfl, fun x dx2 hx hdx nxd => ?_⟩
    obtain ⟨H3, hH3⟩ : ∃ H3, H3 = upd (upd H dx2 (.own x)) x (.ins C_Keeper dx2 []) := ⟨_, rfl⟩
    rw [← hH3]
    have e3 : Ex H (hide x H3) := fun b o hb => by
      rw [hide_ne (ne_of_none hb hx), hH3, upd_ne (ne_of_none hb hx), upd_ne (ne_of_none hb hdx)]
      exact hb
    refine ⟨x, r, dx2, R, G, rfl, by rw [hH3, upd_same], hG.trans (e3.trans hide_le), fresh_back hG hx, hRA.same (e3.trans hide_le), hR, fun H4 d hd e4 hd4 hx4 hK => ⟨rfl, ?_⟩⟩
    have e04 : Ex H H4 := e3.trans e4
    have hdH : H d = none := fresh_back (e3.trans hide_le) hd
    refine ⟨_, rfl, a, C_Gluer, dx, [], rfl, e04 _ _ ha, T.k_Gluer, T.a_Gluer__keeper, by decide, ?_⟩
    have z1 := length_putF ("_keeper" : Str) (.ref x) []
    simp only [List.length_nil] at z1
    refine ⟨_, rfl, a, C_Gluer, dx, putF "_keeper" (.ref x) [], rfl, by rw [upd_same], T.k_Gluer, T.a_Gluer__many, by omega, ?_⟩
    obtain ⟨H6, hH6⟩ : ∃ H6, H6 = upd (upd H4 a (.ins C_Gluer dx (putF "_keeper" (.ref x) []))) a (.ins C_Gluer dx (putF "_many" (.int 0) (putF "_keeper" (.ref x) []))) := ⟨_, rfl⟩
    rw [← hH6]
    have off : ∀ {b : Addr}, b ≠ a → H6 b = H4 b := fun {b} hb => by rw [hH6, upd_ne hb, upd_ne hb]
    have nad : d ≠ a := fun z => by
      rw [z, ha] at hdH
      cases hdH
    have S : Stp [a] G H (addN G H H6 [d]) H6 := addN_stp hG (fun b o hb hn => by
      rw [off (by simpa using hn)]
      exact e04 _ _ hb) (fun b hb => by rw [List.mem_singleton.mp hb]; exact hGa) (fun b hb => by
      by_cases z : b = a
      · rw [z, hH6, upd_same]
        exact fun y => by cases y
      · rw [off z]
        exact ex_ne e04 hb)
    have gd : G d = none := fresh_back hG hdH
    refine q _ H6 x d S hdH hx ⟨S.nw _ hGa (by rw [ha]; exact fun z => by cases z), ⟨dx, by rw [hH6, upd_same]; rfl⟩, hK _ S.ex fun y o hy hyd ho => ?_, ⟨addN_not gd List.mem_cons_self, by rw [off nad]; exact hd4, by simp, by simp, fun t ht => by cases ht⟩⟩
    have hyH : H y = none := by
      rcases hy with z | z
      · rw [z]
        exact hx
      · exact fresh_back (e3.trans hide_le) z
    rw [addN_new hyH hG (by simpa using hyd), off (fun z => by rw [z, ha] at hyH; cases hyH)]
    exact ho
/-- what the Keeper gives out is counted -/
theorem gout_of {CG CK CR CF CB CE g k d gx : Addr} {R : Rul} {n : Int} {ts gs ts' : List Hot} {G H G' H' H2 : Hp} {gv : Addr} {us : List V} (L : GlS P w CG CK CR CF CB CE G H g k d R n ts) (S : Stp (d :: ts.map (·.2.1)) G H G' H') (ks : KpS P w G' H' d ts') (g0 : H gv = none) (gg : G' gv = none) (hg : H' gv = some (.lst us))
    (rs : Rs TupH G' us gs) (na : ((ts' ++ gs).map (·.2.1)).Nodup) (ho : ∀ t ∈ gs, G' t.2.1 = none ∧ H' t.2.1 = some (.lst t.2.2)) (old : ∀ t ∈ ts' ++ gs, t.2.1 ∈ ts.map (·.2.1) ∨ H t.2.1 = none) (ng : gv ∉ (ts' ++ gs).map (·.2.1)) (hgx : H g = some (.ins CG gx (gluF k n))) (e : Ex H' H2) :
    GOut P w CG CK CR CF CB CE G H g k d R n ts G' (upd H2 g (.ins CG gx (gluF k (n + us.length)))) gv us gs ts' := by
  have gd := L.gd
  have hn : g ∉ d :: ts.map (·.2.1) := fun z => by
    rcases List.mem_cons.mp z with q | q
    · exact gd q
    · obtain ⟨t, ht, e1⟩ := List.mem_map.mp q
      exact L.gt ht e1.symm
  have hg1 := S.fr _ _ hgx hn
  have gg1 := S.nw _ L.fr (by rw [hgx]; exact fun z => by cases z)
  have off : ∀ t ∈ ts' ++ gs, t.2.1 ≠ g := fun t ht z => by
    rcases List.mem_append.mp ht with q | q
    · have := (ks.hot t q).2
      rw [z, hg1] at this
      cases this
    · have := (ho t q).2
      rw [z, hg1] at this
      cases this
  have ngv : gv ≠ g := fun z => by
    rw [z, hg1] at hg
    cases hg
  refine ⟨((S.weak fun a ha => List.mem_cons_of_mem _ ha).step e).mut _ gg1 (.inl List.mem_cons_self), ⟨gg1, ⟨gx, ?_⟩, L.kp.ex S.ex, ⟨ks.fr, ?_, ks.nk, ks.na, fun t ht => ⟨(ks.hot t ht).1, ?_⟩⟩⟩, g0, gg, ?_, rs, na, fun t ht => ⟨(ho t ht).1, ?_⟩, old, ng⟩
  · rw [upd_same, rs.len]
  · rw [upd_ne (Ne.symm gd)]
    exact e _ _ ks.at_
  · rw [upd_ne (off t (List.mem_append_left _ ht))]
    exact e _ _ (ks.hot t ht).2
  · rw [upd_ne ngv]
    exact e _ _ hg
  · rw [upd_ne (off t (List.mem_append_right _ ht))]
    exact e _ _ (ho t ht).2
def spGCall (P : Program) (w : World) (CG CK CR CF CB CE : Addr) : Sp := fun vs H Q _ => ∃ (g k d : Addr) (R : Rul) (G : Hp) (n : Int) (ts : List Hot) (z : Str) (tag : Option Key), vs = [.ref g, .str z, kN tag] ∧ Ex G H ∧ GlS P w CG CK CR CF CB CE G H g k d R n ts ∧ GoodR R ∧ z.length ≤ 1000 ∧ ts.length ≤ 900 ∧ (∀ t ∈ ts, t.2.2.length ≤ 900) ∧
  ∀ G' H' gv us gs ts', GOut P w CG CK CR CF CB CE G H g k d R n ts G' H' gv us gs ts' → (gs.map rowOf, ts'.map rowOf) = fedM R z tag (.str z) (ts.map rowOf) → Q (.ref gv) H'

/-! ### the Gluer called -/
theorem ok_Gluer___call__ {f : Addr} {fd : FuncData} (F : FunP K "__call__" "Gluer.__call__" s_Gluer___call__ [.non] f fd) (T : Txt K mg a_FIELDS a_OPEN_PARTS C_Both C_Either C_Form C_Gluer C_Keeper C_Rule) (D_Gluer__counted : DfM P w K mg base C_Gluer "_counted" ["self", "given"] 1 (spCount C_Gluer)) (D_Keeper_take : DfM P w K mg base C_Keeper "take" ["self", "line", "tag", "thing"] 7 (spKTake P w C_Keeper C_Rule C_Form C_Both C_Either)) :
    FnOk P w K mg base CX0 8 f fd ["self", "line", "tag"] (spGCall P w C_Gluer C_Keeper C_Rule C_Form C_Both C_Either) := by
  refine F.ok sc_Gluer___call__ (fun vs H Q E h => ?_) (fun cdv A outer s0 H vs Q E hr h => ?_)
  · obtain ⟨g, k, d, R, G, n, ts, z, tag, rfl, _⟩ := h
    rfl
  · obtain ⟨g, k, d, R, G, n, ts, z, tag, rfl, hG, L, hR, hz, hn, hx, q⟩ := h
    refine ⟨_, (pss_one (ps_ret (pe_mth T.k_Gluer D_Gluer__counted (hr.mono (by decide)) (pv 0) (pa_cons (pe_mth T.k_Keeper D_Keeper_take (hr.mono (by decide)) (pe_fld (pv 0) rfl) (pa_cons (pv 1) (pa_cons (pv 2) (pa_cons (pv 1) pa_nil)))) pa_nil)))), ?_⟩
    obtain ⟨gx, hg⟩ := L.at_
    obtain ⟨dx, r, hk, hRA⟩ := id L.kp
    refine ⟨_, rfl, g, gx, _, rfl, hg, gluF_no (by decide +kernel) (by decide +kernel), ?_⟩
    refine ⟨_, rfl, g, C_Gluer, gx, _, _, rfl, hg, T.k_Gluer, T.a_Gluer__keeper, gluF_k, k, dx, _, rfl, hG _ _ hk, keepF_no (by decide +kernel) (by decide +kernel), _, rfl, _, rfl, _, rfl, k, d, R, G, ts, z, tag, .str z, rfl, hG, L.kp, L.ks, hR, hz, hn, hx, fun G' H' gv us gs ts' I hrow => ?_⟩
    have hn2 : g ∉ d :: ts.map (·.2.1) := fun y => by
      rcases List.mem_cons.mp y with q | q
      · exact L.gd q
      · obtain ⟨t, ht, e1⟩ := List.mem_map.mp q
        exact L.gt ht e1.symm
    have lus : us.length ≤ 5000 := by
      have l1 := I.rs.len
      have l2 := (fedM_bd (R := R) (z := z) (tag := tag) (x := .str z) (st := ts.map rowOf) (B := 900) fun r hr => by
        obtain ⟨t, ht, rfl⟩ := List.mem_map.mp hr
        exact hx t ht).1
      rw [← hrow, List.length_map, List.length_map, List.length_map] at l2
      omega
    exact ⟨g, k, gv, gx, n, us, rfl, I.S.fr _ _ hg hn2, I.hg, lus, fun H2 e2 => q _ _ _ us gs ts' (gout_of L I.S I.K I.g0 I.gg I.hg I.rs I.na I.ho I.old I.ng hg e2) hrow⟩
def spGShut (P : Program) (w : World) (CG CK CR CF CB CE : Addr) : Sp := fun vs H Q _ => ∃ (g k d : Addr) (R : Rul) (G : Hp) (n : Int) (ts : List Hot), vs = [.ref g] ∧ Ex G H ∧ GlS P w CG CK CR CF CB CE G H g k d R n ts ∧ ts.length ≤ 900 ∧
  ∀ G' H' gv us, GOut P w CG CK CR CF CB CE G H g k d R n ts G' H' gv us ts [] → Q (.ref gv) H'
def spGWait (P : Program) (w : World) (CG CK CR CF CB CE : Addr) : Sp := fun vs H Q _ => ∃ (g k d : Addr) (R : Rul) (G : Hp) (n : Int) (ts : List Hot), vs = [.ref g] ∧ Ex G H ∧ GlS P w CG CK CR CF CB CE G H g k d R n ts ∧ ts.length ≤ 1000 ∧
  ∀ l H' us hs, H l = none → Ex H H' → H' l = some (.lst us) → NewH H H' us hs → hs.map rowOf = ts.map rowOf → l ∉ hs.map (·.2.1) → Q (.ref l) H'
theorem ok_Gluer_waiting {f : Addr} {fd : FuncData} (F : Fun K "waiting" "Gluer.waiting" s_Gluer_waiting f fd) (T : Txt K mg a_FIELDS a_OPEN_PARTS C_Both C_Either C_Form C_Gluer C_Keeper C_Rule) (D_Keeper_waiting : DfM P w K mg base C_Keeper "waiting" ["self"] 1 (spWait P w C_Keeper C_Rule C_Form C_Both C_Either)) :
    FnOk P w K mg base CX0 2 f fd ["self"] (spGWait P w C_Gluer C_Keeper C_Rule C_Form C_Both C_Either) := by
  refine F.ok sc_Gluer_waiting (fun vs H Q E h => ?_) (fun cdv A outer s0 H vs Q E hr h => ?_)
  · obtain ⟨g, k, d, R, G, n, ts, rfl, _⟩ := h
    rfl
  · obtain ⟨g, k, d, R, G, n, ts, rfl, hG, L, hn, q⟩ := h
    refine ⟨_, (pss_one (ps_ret (pe_mth0 T.k_Keeper D_Keeper_waiting (hr.mono (by decide)) (pe_fld (pv 0) rfl)))), ?_⟩
    obtain ⟨gx, hg⟩ := L.at_
    obtain ⟨dx, r, hk, hRA⟩ := id L.kp
    exact ⟨_, rfl, g, C_Gluer, gx, _, _, rfl, hg, T.k_Gluer, T.a_Gluer__keeper, gluF_k, k, dx, _, rfl, hG _ _ hk, keepF_no (by decide +kernel) (by decide +kernel), k, d, R, G, ts, rfl, hG, L.kp, L.ks, hn, q⟩

/-! ### a rule drawn -/
structure LRul where
  bs : List Tr
  es : List Tr
  cap : Option Int
  alone : Bool
  lim : Option Int
  quiet : Bool
structure GoodL (D : LRul) : Prop where
  nb : D.bs.length ≤ 4
  ne : D.es.length ≤ 2
  gb : ∀ t ∈ D.bs, GoodT t
  ge : ∀ t ∈ D.es, GoodT t
  cap : okMost D.cap
  lim : okTags D.lim
/-- the rule that it tells -/
def LRul.rul (D : LRul) : Rul := ⟨D.bs.map ptOf, D.es.map ptOf, D.cap, D.alone, D.lim, D.quiet⟩
theorem GoodL.good {D : LRul} (h : GoodL D) : GoodR D.rul := ⟨by
  show (D.bs.map ptOf).length + (D.es.map ptOf).length ≤ 6
  rw [List.length_map, List.length_map]
  have := h.nb
  have := h.ne
  omega, h.cap, h.lim⟩
/-- its trees -/
def RlIn (G : Hp) (lb le : Addr) (D : LRul) : Prop := ∃ us ws : List V, G lb = some (.lst us) ∧ Rs TrR G us D.bs ∧ G le = some (.lst ws) ∧ Rs TrR G ws D.es
theorem RlIn.ex {G H : Hp} {lb le : Addr} {D : LRul} (h : RlIn G lb le D) (e : Ex G H) : RlIn H lb le D := by
  obtain ⟨us, ws, h1, h2, h3, h4⟩ := h
  exact ⟨us, ws, e _ _ h1, h2.ex upTr e, e _ _ h3, h4.ex upTr e⟩
def rlL (lb le : Addr) (D : LRul) : List V := [.ref lb, .ref le, oV D.cap, .bl D.alone, oV D.lim, .bl D.quiet]
/-- the list at a -/
def RlR (H : Hp) (a : Addr) (D : LRul) : Prop := ∃ lb le, H a = some (.lst (rlL lb le D)) ∧ RlIn H lb le D
theorem RlR.ex {G H : Hp} {a : Addr} {D : LRul} (h : RlR G a D) (e : Ex G H) : RlR H a D := by
  obtain ⟨lb, le, h1, h2⟩ := h
  exact ⟨lb, le, e _ _ h1, h2.ex e⟩
theorem evp_ixLst {σ : L2.St} {G : Hp} {p : Addr} {s s1 s2 : Int × Int} {ta : TA} {te : TE} {vs : List V} {i : Int} {v : V} (h : EvAP ta σ G p s vs s1) (hi : EvP te σ G p s1 (.int i) s2) (hv : atI vs i = some v) (hl : vs.length ≤ 100000) : EvP (tOp (rIxL K) (tLst ta) te) σ G p s v s2 := fun H k Q q =>
  h H k _ fun H1 e1 h1 => ⟨sz_of hl, fun l hl0 => by
    have k1 := (k.next e1 h1).same (Ex.new (o := .lst vs) hl0)
    refine hi _ k1 _ fun H2 e2 h2 => ⟨l, vs, i, v, rfl, rfl, sq_of (e2 _ _ ?_), hv, q H2 (hx_trans (e1.trans (Ex.new hl0)) e2) h2⟩
    have : l ≠ p := fun z => by
      rw [z, h1] at hl0
      cases hl0
    rw [hide_ne this, upd_same]⟩
theorem sp_retLstR {G H : Hp} {p : Addr} {s s1 : Int × Int} {σ : L2.St} {ta : TA} {D : Ends} {vs : List V} (k : Kn G p s H) (h : EvAP ta σ G p s vs s1) (hl : vs.length ≤ 100000) (nx : ∀ l H', H l = none → Ex (hide p H) H' → H' p = some (pl s1) → H' l = some (.lst vs) → D.rt (.ref l) H') : tRet (tLst ta) D σ H :=
  h H k _ fun H1 e1 h1 => ⟨sz_of hl, fun l hl0 => nx l _ (back_p e1 h1 hl0) (e1.trans (Ex.new hl0)) (Ex.new hl0 _ _ h1) upd_same⟩
theorem take3 {s : Int × Int} : (take s 3).1 = 0 ∨ (take s 3).1 = 1 ∨ (take s 3).1 = 2 := by
  have := take_lt (s := s) (n := 3) (by decide)
  omega
def spLRule : Sp := fun vs H Q _ => ∃ (p : Addr) (s : Int × Int), vs = [.ref p] ∧ H p = some (pl s) ∧ Pk s ∧
  ∀ a lb le H' s' D, H a = none → Ex (hide p H) H' → H' p = some (pl s') → Pk s' → GoodL D → D.bs.length ≤ 3 → H' a = some (.lst (rlL lb le D)) → RlIn (hide p (hide a H')) lb le D → Q (.ref a) H'
theorem ok__law_rule {f : Addr} {fd : FuncData} (F : Fun K "_law_rule" "_law_rule" s__law_rule f fd) (T : Txt K mg a_FIELDS a_OPEN_PARTS C_Both C_Either C_Form C_Gluer C_Keeper C_Rule) (D__law_take : Df P w K mg base "_law_take" ["pool", "many"] 1 spTake) (D__law_tree : Df P w K mg base "_law_tree" ["pool"] 4 spTree) : FnOk P w K mg base CX0 5 f fd ["pool"] spLRule := by
  refine F.ok sc__law_rule (fun vs H Q E h => ?_) (fun cdv A outer s0 H vs Q E hr h => ?_)
  · obtain ⟨p, s, rfl, _⟩ := h
    rfl
  · obtain ⟨p, s, rfl, hp, hk, q⟩ := h
    refine ⟨_, (pss_cons (ps_setLc (i := 1) (own := [("k", 5)]) (g := gName 5) rfl sc__law_rule.nd rfl rfl (sw_true rfl rfl rfl (by decide +kernel)) (pi_range1 (by rfl) T.n_range (pa_cons (pe_df D__law_take (hr.mono (by decide)) (by rfl) (pa_cons (pv 0) (pa_cons pe_int pa_nil))) pa_nil)) (blkOk_by (own := [("k", 5)]) (N := ["pool", "begins", "ends", "cap", "limit", "k"]) (sc := defScope s__law_rule) (by decide +kernel)) (fun _ _ _ _ _ => pg_name (i := 5) sc__law_rule.nd rfl (Or.inl rfl)) (fun _ _ _ _ _ => pts_nil) (fun _ _ _ _ _ => (pe_df (k := 4) D__law_tree (hr.mono (j := 4) (by decide)) (by rfl) (pa_cons (pv 0) pa_nil))))
      (pss_cons (ps_setLc (i := 2) (own := [("k", 5)]) (g := gName 5) rfl sc__law_rule.nd rfl rfl (sw_true rfl rfl rfl (by decide +kernel)) (pi_range1 (by rfl) T.n_range (pa_cons (pe_df D__law_take (hr.mono (by decide)) (by rfl) (pa_cons (pv 0) (pa_cons pe_int pa_nil))) pa_nil)) (blkOk_by (own := [("k", 5)]) (N := ["pool", "begins", "ends", "cap", "limit", "k"]) (sc := defScope s__law_rule) (by decide +kernel)) (fun _ _ _ _ _ => pg_name (i := 5) sc__law_rule.nd rfl (Or.inl rfl)) (fun _ _ _ _ _ => pts_nil) (fun _ _ _ _ _ => (pe_df (k := 4) D__law_tree (hr.mono (j := 4) (by decide)) (by rfl) (pa_cons (pv 0) pa_nil))))
      (pss_cons (ps_set (i := 3) sc__law_rule.nd rfl (Or.inl rfl) (pe_ix ix_list (pe_lst (pa_cons pe_non (pa_cons (pe_op op_add pe_int (pe_df D__law_take (hr.mono (by decide)) (by rfl) (pa_cons (pv 0) (pa_cons pe_int pa_nil)))) (pa_cons (pe_op op_add pe_int (pe_df D__law_take (hr.mono (by decide)) (by rfl) (pa_cons (pv 0) (pa_cons pe_int pa_nil)))) pa_nil)))) (pe_df D__law_take (hr.mono (by decide)) (by rfl) (pa_cons (pv 0) (pa_cons pe_int pa_nil))) (fun _ _ => rfl)))
      (pss_cons (ps_set (i := 4) sc__law_rule.nd rfl (Or.inl rfl) (pe_ix ix_list (pe_lst (pa_cons pe_non (pa_cons (pe_df D__law_take (hr.mono (by decide)) (by rfl) (pa_cons (pv 0) (pa_cons pe_int pa_nil))) (pa_cons (pe_df D__law_take (hr.mono (by decide)) (by rfl) (pa_cons (pv 0) (pa_cons pe_int pa_nil))) pa_nil)))) (pe_df D__law_take (hr.mono (by decide)) (by rfl) (pa_cons (pv 0) (pa_cons pe_int pa_nil))) (fun _ _ => rfl)))
      (pss_one (ps_ret (pe_lst (pa_cons (pv 1) (pa_cons (pv 2) (pa_cons (pv 3) (pa_cons (pe_cmpR op_gt (pe_df D__law_take (hr.mono (by decide)) (by rfl) (pa_cons (pv 0) (pa_cons pe_int pa_nil))) pe_int (nomark _)) (pa_cons (pv 4) (pa_cons (pe_cmpR op_eq (pe_df D__law_take (hr.mono (by decide)) (by rfl) (pa_cons (pv 0) (pa_cons pe_int pa_nil))) pe_int (nomark _)) pa_nil))))))))))))), ?_⟩
    have K0 := Kn.here hp
    have tl := take_lt (s := s) (n := 4) (by decide)
    refine qp_asgDrawN upTr (f := lawTree) (fun s h => (lawTree_ok h).1) K0 (eap_cons (evp_take rfl hk (by decide) (by decide)) eap_nil) (take_pk hk) ⟨by omega, by omega⟩ wipe1 (fun i H2 s2 hs hp2 ex Q' q' => ⟨_, rfl, p, s2, rfl, hp2, hs, q'⟩) fun lb us H2 nlb _ e2 hp2 h2 r2 => ?_
    have hk2 : Pk (drawN lawTree (take s 4).1.toNat (take s 4).2).2 := drawN_pk (fun s h => (lawTree_ok h).1) (take_pk hk) _
    have gb : ∀ t ∈ (drawN lawTree (take s 4).1.toNat (take s 4).2).1, GoodT t := drawN_all (fun s h => lawTree_ok h) (take_pk hk) _
    have nb := drawN_len lawTree (take s 4).2 (take s 4).1.toNat
    generalize drawN lawTree (take s 4).1.toNat (take s 4).2 = W2 at hp2 r2 hk2 gb nb
    obtain ⟨bs, s2⟩ := W2
    have gb : ∀ t ∈ bs, GoodT t := gb
    have hk2 : Pk s2 := hk2
    have hp2 : H2 p = some (pl s2) := hp2
    have r2 : Rs TrR (hide p (hide lb H2)) us bs := r2
    have nb : bs.length = (take s 4).1.toNat := nb
    have K2 := Kn.here hp2
    have tl2 := take_lt (s := s2) (n := 3) (by decide)
    refine qp_asgDrawN upTr (f := lawTree) (fun s h => (lawTree_ok h).1) K2 (eap_cons (evp_take rfl hk2 (by decide) (by decide)) eap_nil) (take_pk hk2) ⟨by omega, by omega⟩ wipe1 (fun i H2 s2 hs hp2 ex Q' q' => ⟨_, rfl, p, s2, rfl, hp2, hs, q'⟩) fun le ws H3 nle _ e3 hp3 h3 r3 => ?_
    have hk3 : Pk (drawN lawTree (take s2 3).1.toNat (take s2 3).2).2 := drawN_pk (fun s h => (lawTree_ok h).1) (take_pk hk2) _
    have ge : ∀ t ∈ (drawN lawTree (take s2 3).1.toNat (take s2 3).2).1, GoodT t := drawN_all (fun s h => lawTree_ok h) (take_pk hk2) _
    have ne := drawN_len lawTree (take s2 3).2 (take s2 3).1.toNat
    generalize drawN lawTree (take s2 3).1.toNat (take s2 3).2 = W3 at hp3 r3 hk3 ge ne
    obtain ⟨es, s3⟩ := W3
    have ge : ∀ t ∈ es, GoodT t := ge
    have hk3 : Pk s3 := hk3
    have hp3 : H3 p = some (pl s3) := hp3
    have r3 : Rs TrR (hide p (hide le H3)) ws es := r3
    have ne : es.length = (take s2 3).1.toNat := ne
    -- the trees in what is not the pool
    have t2 : Rs TrR (hide p H2) us bs := r2.ex upTr (ex_hide hide_le)
    have b2 : hide p H2 lb = some (.lst us) := by rw [hide_ne nlb]; exact h2
    have t3 : Rs TrR (hide p H3) ws es := r3.ex upTr (ex_hide hide_le)
    have b3 : hide p H3 le = some (.lst ws) := by rw [hide_ne nle]; exact h3
    have x23 : Ex (hide p H2) (hide p H3) := hx_hide e3
    have I3 : RlIn (hide p H3) lb le ⟨bs, es, none, true, none, true⟩ := ⟨us, ws, x23 _ _ b2, t2.ex upTr x23, b3, t3⟩
    have K3 : Kn (hide p H3) p s3 H3 := Kn.here hp3
    have c4 := take_lt (s := s3) (n := 4) (by decide)
    have hk4 : Pk (take s3 4).2 := take_pk hk3
    have c20 := take_lt (s := (take s3 4).2) (n := 20) (by decide)
    have hk5 : Pk (take (take s3 4).2 20).2 := take_pk hk4
    have hk6 : Pk (take (take (take s3 4).2 20).2 3).2 := take_pk hk5
    obtain ⟨cap, hcap, hc⟩ : ∃ cap : Option Int, atI [V.non, .int (1 + (take s3 4).1), .int (1 + (take (take s3 4).2 20).1)] (take (take (take s3 4).2 20).2 3).1 = some (oV cap) ∧ okMost cap := by
      rcases take3 (s := (take (take s3 4).2 20).2) with z | z | z
      · exact ⟨none, by rw [z]; rfl, fun i h => by cases h⟩
      · exact ⟨some (1 + (take s3 4).1), by rw [z]; rfl, fun i h => by cases h; omega⟩
      · exact ⟨some (1 + (take (take s3 4).2 20).1), by rw [z]; rfl, fun i h => by cases h; omega⟩
    refine qp_asg K3 (evp_ixLst (K := K) (eap_cons (EvP.of ev_c) (eap_cons (evp_op (EvP.of ev_c) (evp_take rfl hk3 (by decide) (by decide)) rv_add) (eap_cons (evp_op (EvP.of ev_c) (evp_take rfl hk4 (by decide) (by decide)) rv_add) eap_nil))) (evp_take rfl hk5 (by decide) (by decide)) hcap (by simp)) fun H4 K4 e4 => ?_
    generalize (take (take (take s3 4).2 20).2 3).2 = s4 at K4 hk6
    have d3 := take_lt (s := s4) (n := 3) (by decide)
    have hk7 : Pk (take s4 3).2 := take_pk hk6
    have d10 := take_lt (s := (take s4 3).2) (n := 10) (by decide)
    have hk8 : Pk (take (take s4 3).2 10).2 := take_pk hk7
    have hk9 : Pk (take (take (take s4 3).2 10).2 3).2 := take_pk hk8
    obtain ⟨lim, hlim, hl⟩ : ∃ lim : Option Int, atI [V.non, .int (take s4 3).1, .int (take (take s4 3).2 10).1] (take (take (take s4 3).2 10).2 3).1 = some (oV lim) ∧ okTags lim := by
      rcases take3 (s := (take (take s4 3).2 10).2) with z | z | z
      · exact ⟨none, by rw [z]; rfl, fun i h => by cases h⟩
      · exact ⟨some (take s4 3).1, by rw [z]; rfl, fun i h => by cases h; omega⟩
      · exact ⟨some (take (take s4 3).2 10).1, by rw [z]; rfl, fun i h => by cases h; omega⟩
    refine qp_asg K4 (evp_ixLst (K := K) (eap_cons (EvP.of ev_c) (eap_cons (evp_take rfl hk6 (by decide) (by decide)) (eap_cons (evp_take rfl hk7 (by decide) (by decide)) eap_nil))) (evp_take rfl hk8 (by decide) (by decide)) hlim (by simp)) fun H5 K5 e5 => ?_
    generalize (take (take (take s4 3).2 10).2 3).2 = s5 at K5 hk9
    refine sp_retLstR (vs := [.ref lb, .ref le, oV cap, .bl (decide (0 < (take s5 3).1)), oV lim, .bl (decide ((take (take s5 3).2 2).1 = 1))]) K5 (eap_cons (EvP.of (ev_var rfl)) (eap_cons (EvP.of (ev_var rfl)) (eap_cons (EvP.of (ev_var rfl)) (eap_cons (evp_op (evp_take rfl hk9 (by decide) (by decide)) (EvP.of ev_c) rv_I0) (eap_cons (EvP.of (ev_var rfl)) (eap_cons (evp_op (evp_take rfl (take_pk hk9) (by decide) (by decide)) (EvP.of ev_c) rv_eqI) eap_nil)))))) (by simp) fun l H6 hl0 e6 hp6 h6 => ?_
    have e25 : Ex (hide p H2) H5 := hx_trans (hx_trans e3 e4) e5
    have e35 : Ex (hide p H3) (hide p H5) := hx_hide (hx_trans e4 e5)
    have e56 : Ex (hide p H5) (hide p (hide l H6)) := fun b o hb => by
      obtain ⟨n1, hb⟩ := hide_some hb
      rw [hide_ne n1, hide_ne (ne_of_none hb hl0)]
      exact e6 _ _ (by rw [hide_ne n1]; exact hb)
    exact q l lb le H6 _ ⟨bs, es, cap, _, lim, _⟩ (back_p (hx_trans e2 e25) K5.at_ hl0) (hx_trans (hx_trans e2 e25) e6) hp6 (take_pk (take_pk hk9)) ⟨by show bs.length ≤ 4; omega, by show es.length ≤ 2; omega, gb, ge, hc, hl⟩ (by show bs.length ≤ 3; omega) h6 (I3.ex (e35.trans e56))

/-! ### a comprehension over a list, of objects new or not -/
/-- a pattern stands without what is no part of patterns -/
theorem pat_hide {CF CB CE : Addr} {t : Pt} {a D : Addr} {G : Hp} (n1 : ∀ C dx fs, G D ≠ some (.ins C dx fs)) (n2 : ∀ xs, G D ≠ some (.tup xs)) (n3 : ∀ s xs, G D ≠ some (.lst (.str s :: xs))) (h : PatAt CF CB CE G t a) : PatAt CF CB CE (hide D G) t a := by
  have fz : ∀ {x : Addr} {o : HO}, G x = some o → G D ≠ some o → hide D G x = some o := fun hx hn => by
    rw [hide_ne (fun z => hn (by rw [← z]; exact hx))]
    exact hx
  induction h with
  | f h =>
    obtain ⟨⟨dx, t, c, h1, h2, h3⟩, g⟩ := h
    obtain ⟨x, xs, hc⟩ := cells_ne g.1 g.2.1
    refine .f ⟨⟨dx, t, c, fz h1 (n1 _ _ _), fz h2 (n2 _), fz h3 ?_⟩, g⟩
    rw [hc]
    exact n3 _ _
  | @n and l r a dx p q h _ _ ih1 ih2 => exact .n (fz h (n1 _ _ _)) ih1 ih2
theorem offPt {CF CB CE : Addr} {d : Nat} (t : Pt) (p : Addr) (H : Hp) (D : Addr) (acc : List V) (h : PatR CF CB CE d t p H) (hD : H D = some (.lst acc)) (refs : ∀ v ∈ acc, ∃ r : Addr, v = .ref r) : PatR CF CB CE d t p (hide D H) := by
  refine ⟨pat_hide (fun _ _ _ z => ?_) (fun _ z => ?_) (fun c xs z => ?_) h.1, h.2⟩
  · rw [hD] at z
    cases z
  · rw [hD] at z
    cases z
  · rw [hD] at z
    obtain ⟨r, hr⟩ := refs (.str c) (by rw [HO.lst.inj (Option.some.inj z)]; exact List.mem_cons_self)
    cases hr
theorem ers_lstO {α : Type} {R : α → Addr → Hp → Prop} {xs : List α} {σ : L2.St} {H : Hp} {te tl : TE} {a : Addr} {us : List V} {j : Nat} {ws : List Nat} (up : Up R) (off : ∀ x p H D acc, R x p H → H D = some (.lst acc) → (∀ v ∈ acc, ∃ r : Addr, v = .ref r) → R x p (hide D H)) (h : Ev tl σ H (.ref a)) (hx : SqL K H a us) (hn : us.length ≤ 40000) (hl : xs.length = us.length)
    (hw : ∀ x, wipe ((wipe σ ws).set j (some x)) ws = wipe σ ws)
    (he : ∀ (i : Nat) (u : V) (y : α) (H1 : Hp), Ex H H1 → us[i]? = some u → xs[i]? = some y → ∀ Q : VK, (∀ p H2, Ex H1 H2 → R y p H2 → Q (.ref p) H2) → te ((wipe σ ws).set j (some u)) H1 Q) : EvRs (tLc (iList K tl) (gName j) tYes te ws) σ H R xs := fun H0 e Q q => h H0 e _ fun H1 e1 => ⟨a, rfl, ⟨us, ex_l (e.trans e1) hx⟩, fun D hD => by
  refine lc_it (walk_list (K := K) (a := a) (xs := us)) (fun i H => ∃ vs, H D = some (.lst vs) ∧ Ex H1 (hide D H) ∧ Rs R (hide D H) vs (xs.take i)) ⟨[], upd_same, ?_, ?_⟩ (fun i H2 _ ⟨vs, hv, e2, r⟩ => ex_l ((e.trans e1).trans (e2.trans hide_le)) hx) ?_ ?_
  · rw [hide_upd, hide_none hD]
    exact Ex.refl _
  · exact .nil
  · rintro i x H2 H3 hi ⟨vs, hv, e2, r⟩ yy
    obtain ⟨rfl, hu⟩ := yy
    obtain ⟨z, hz⟩ : ∃ z, xs[i]? = some z := ⟨xs[i]'(by have := (List.getElem?_eq_some_iff.mp hu).1; omega), List.getElem?_eq_getElem _⟩
    refine ⟨hw _, he i x z _ ((e.trans e1).trans (e2.trans hide_le)) hu hz _ fun p H4 e4 rp => ?_⟩
    have hv4 := e4 _ _ hv
    have el : vs.length = (xs.take i).length := r.len
    rw [List.length_take] at el
    refine ⟨vs, hv4, sz_lt (by omega), vs ++ [.ref p], upd_same, ?_, ?_⟩
    · rw [hide_upd]
      exact e2.trans (ex_hide e4)
    · rw [hide_upd, List.take_add_one, hz]
      exact (r.ex up (ex_hide e4)).snoc (off z p H4 D vs rp hv4 r.refs)
  · rintro H2 ⟨vs, hv, e2, r⟩
    rw [← hl, List.take_length] at r
    exact q D vs H2 (fresh_back e1 hD) (e1.trans (e2.trans hide_le)) hv (r.ex up hide_le)⟩

/-! ### its marks, its lines -/
mutual
theorem dp_ex {K : PySem.W.Frag} {H H' : Hp} (e : Ex H H') : ∀ (d : PyData) (v : V), Dp K H v d → Dp K H' v d
  | .none, _, h => by
    cases h
    exact .non
  | .bool b, _, h => by
    cases h
    exact .bl b
  | .int i, _, h => by
    cases h
    exact .int i
  | .str x, _, h => by
    cases h
    exact .str x
  | .list ds, _, h => by
    cases h with
    | lst hs ha => exact .lst (ex_l e hs) (dpAll_ex e ds _ ha)
  | .tuple ds, _, h => by
    cases h with
    | tup hs ha => exact .tup (ex_t e hs) (dpAll_ex e ds _ ha)
  | .dict _, _, h => by cases h
theorem dpAll_ex {K : PySem.W.Frag} {H H' : Hp} (e : Ex H H') : ∀ (ds : List PyData) (vs : List V), DpAll K H vs ds → DpAll K H' vs ds
  | [], _, h => by
    cases h
    exact .nil
  | d :: ds, _, h => by
    cases h with
    | cons h1 h2 => exact .cons (dp_ex e d _ h1) (dpAll_ex e ds _ h2)
end
theorem ev_opN {σ : L2.St} {H : Hp} {ta tb : TE} {xs ys : List V} {r : R2} {z : V} (ha : EvL ta σ H xs) (hb : EvL tb σ H ys) (hr : ∀ a b H2, Ex H H2 → H2 a = some (.lst xs) → H2 b = some (.lst ys) → RV r (.ref a) (.ref b) H2 z) : Ev (tOp r ta tb) σ H z := fun H1 e Q q =>
  ha H1 e _ fun a H2 ha2 e2 h2 => hb H2 (e.trans e2) _ fun b H3 hb3 e3 h3 => hr a b H3 ((e.trans e2).trans e3) (e3 _ _ h2) h3 H3 (Ex.refl _) Q fun H4 e4 => q H4 ((e2.trans e3).trans e4)
theorem eqv_nil (ds : List PyData) : PyData.eqv (.list ds) (.list []) = ds.isEmpty := by
  cases ds with
  | nil => simp [PyData.eqv, PyData.eqvAll]
  | cons d ds => simp [PyData.eqv, PyData.eqvAll]
theorem dp_emp {K : PySem.W.Frag} {H : Hp} {xs : List V} {ds : List PyData} (h : DpAll K H xs ds) : ds.isEmpty = xs.isEmpty := by
  cases h <;> rfl
theorem shaped_nil : SeqAt.shaped (.list []) = true := shaped_ll (n := 0) (fun d h => by cases h) (by decide)
theorem rv_neNil {H : Hp} {a b : Addr} {xs : List V} {ds : List PyData} (ha : SqL K H a xs) (hd : DpAll K H xs ds) (hs : SeqAt.shaped (.list ds) = true) (hb : SqL K H b []) : RV (rNeD K) (.ref a) (.ref b) H (.bl (!xs.isEmpty)) := fun H1 e Q q =>
  ⟨.list ds, .list [], .lst (ex_l e ha) (dpAll_ex e _ _ hd), .lst (ex_l e hb) .nil, hs, shaped_nil, by rw [eqv_nil, dp_emp hd]; exact q H1 (Ex.refl _)⟩
theorem rv_eqNil {H : Hp} {a b : Addr} {xs : List V} {ds : List PyData} (ha : SqL K H a xs) (hd : DpAll K H xs ds) (hs : SeqAt.shaped (.list ds) = true) (hb : SqL K H b []) : RV (rEqD K) (.ref a) (.ref b) H (.bl xs.isEmpty) := fun H1 e Q q =>
  ⟨.list ds, .list [], .lst (ex_l e ha) (dpAll_ex e _ _ hd), .lst (ex_l e hb) .nil, hs, shaped_nil, by rw [eqv_nil, dp_emp hd]; exact q H1 (Ex.refl _)⟩
/-- a tree as data -/
def trD (t : Tr) : PyData := .list [.str t.1, .list ((t.2.1.map V.str).map toD), .list ((t.2.2.map V.str).map toD)]
theorem dp_tr {K : PySem.W.Frag} {H : Hp} {t : Tr} {p : Addr} (h : TrR t p H) (g : GoodT t) : Dp K H (.ref p) (trD t) := by
  obtain ⟨l1, l2, h0, h1, h2⟩ := h
  have ok : (∀ v ∈ t.2.1.map V.str, okV v = true) ∧ ∀ v ∈ t.2.2.map V.str, okV v = true := by
    cases g with
    | alt a b => exact ⟨a.1.okV, b.1.okV⟩
    | both a b _ _ => exact ⟨a.1.okV, b.1.okV⟩
    | any a b => exact ⟨a.1.okV, b.1.okV⟩
    | one a => exact ⟨a.1.okV, fun v hv => by cases hv⟩
  exact .lst (sq_of h0) (.cons (.str _) (.cons (.lst (sq_of h1) (dpAll_toD ok.1)) (.cons (.lst (sq_of h2) (dpAll_toD ok.2)) .nil)))
theorem lay_tr {t : Tr} (g : GoodT t) : (trD t).canLay0 = true ∧ (trD t).depth ≤ 2 := by
  have ok : okV (.str t.1) = true ∧ (∀ v ∈ t.2.1.map V.str, okV v = true) ∧ ∀ v ∈ t.2.2.map V.str, okV v = true := by
    cases g with
    | alt a b => exact ⟨show okV (.str ("|" : Str)) = true by decide +kernel, a.1.okV, b.1.okV⟩
    | both a b _ _ => exact ⟨show okV (.str ("&" : Str)) = true by decide +kernel, a.1.okV, b.1.okV⟩
    | any a b => exact ⟨show okV (.str ("&" : Str)) = true by decide +kernel, a.1.okV, b.1.okV⟩
    | one a => exact ⟨show okV (.str ("=" : Str)) = true by decide +kernel, a.1.okV, fun v hv => by cases hv⟩
  have a := lay_lst ok.2.1
  have b := lay_lst ok.2.2
  have c := lay_toD ok.1
  have l := layAll_of (n := 1) (ds := [.str t.1, .list ((t.2.1.map V.str).map toD), .list ((t.2.2.map V.str).map toD)]) fun d hd => by
    rcases List.mem_cons.mp hd with z | hd
    · rw [z]
      exact ⟨c.1, by rw [show (PyData.str t.1).depth = 0 from c.2]; decide⟩
    · rcases List.mem_cons.mp hd with z | hd
      · rw [z]
        exact a
      · rw [List.mem_singleton.mp hd]
        exact b
  unfold trD
  simp only [PyData.canLay0, PyData.depth]
  exact ⟨l.1, by omega⟩
/-- a list of objects, the places beside -/
theorem Rs.pairs {α : Type} {R : α → Addr → Hp → Prop} {H : Hp} {vs : List V} {xs : List α} (h : Rs R H vs xs) : ∃ ps : List (Addr × α), vs = ps.map (fun p => V.ref p.1) ∧ xs = ps.map (·.2) ∧ ∀ p ∈ ps, R p.2 p.1 H := by
  induction h with
  | nil => exact ⟨[], rfl, rfl, fun p hp => by cases hp⟩
  | @cons x p xs vs h _ ih =>
    obtain ⟨ps, e1, e2, e3⟩ := ih
    exact ⟨(p, x) :: ps, by rw [List.map_cons, e1], by rw [List.map_cons, e2], fun q hq => by
      rcases List.mem_cons.mp hq with z | z
      · rw [z]
        exact h
      · exact e3 q z⟩
def spLMarks (CF CB CE : Addr) (K : PySem.W.Frag) : Sp := fun vs H Q _ => ∃ (a : Addr) (us : List V) (ts : List Tr), vs = [.ref a] ∧ H a = some (.lst us) ∧ Rs TrR H us ts ∧ (∀ t ∈ ts, GoodT t) ∧ ts.length ≤ 100 ∧ ∀ l vs H2, H l = none → Ex H H2 → H2 l = some (.lst vs) → Rs (PatR CF CB CE 2) H2 vs (ts.map ptOf) → Q (.ref l) H2
theorem ok__law_marks {f : Addr} {fd : FuncData} (F : Fun K "_law_marks" "_law_marks" s__law_marks f fd) (T : Txt K mg a_FIELDS a_OPEN_PARTS C_Both C_Either C_Form C_Gluer C_Keeper C_Rule) (D__law_built : Df P w K mg base "_law_built" ["tree"] 8 (spBuilt K C_Form C_Both C_Either)) : FnOk P w K mg base CX0 9 f fd ["trees"] (spLMarks C_Form C_Both C_Either K) := by
  refine F.ok sc__law_marks (fun vs H Q E h => ?_) (fun cdv A outer s0 H vs Q E hr h => ?_)
  · obtain ⟨a, us, ts, rfl, _⟩ := h
    rfl
  · obtain ⟨a, us, ts, rfl, ha, hR, hg, hn, q⟩ := h
    refine ⟨_, (pss_one (ps_ret (pe_lc (own := [("tree", 1)]) (g := gName 1) rfl sc__law_marks.nd (pi_list (pv 0)) (blkOk_by (own := [("tree", 1)]) (N := ["trees", "tree"]) (sc := defScope s__law_marks) (by decide +kernel)) (fun _ _ _ _ _ => pg_name (i := 1) sc__law_marks.nd rfl (Or.inl rfl)) (fun _ _ _ _ _ => pts_nil) (fun _ _ _ _ _ => (pe_df (k := 8) D__law_built (hr.mono (j := 8) (by decide)) (by rfl) (pa_cons (pv 1) pa_nil)))))), ?_⟩
    have l1 := hR.len
    refine (ers_lstO (K := K) (R := PatR C_Form C_Both C_Either 2) (xs := ts.map ptOf) upP offPt (ev_var rfl) (sq_of ha) (by omega) (by rw [List.length_map]; omega) wipe1 fun i u y H1 e1 hu hy Q' q' => ?_) H (Ex.refl _) _ fun l vs H2 hl e2 h2 r2 => q l vs H2 hl e2 h2 r2
    obtain ⟨p, t, rfl, ht, hp⟩ := hR.get hu
    rw [List.getElem?_map, ht] at hy
    cases hy
    exact ⟨_, rfl, p, t, rfl, upTr _ _ _ _ e1 hp, hg t (List.mem_of_getElem? ht), fun x H2 e2 hP => q' x H2 e2 hP⟩
def spLRuled (CR CF CB CE : Addr) (K : PySem.W.Frag) : Sp := fun vs H Q _ => ∃ (a : Addr) (D : LRul), vs = [.ref a] ∧ RlR H a D ∧ GoodL D ∧ ∀ r H2, H r = none → Ex H H2 → RuleAt CR CF CB CE H2 r D.rul → Q (.ref r) H2
theorem ok__law_ruled {f : Addr} {fd : FuncData} (F : Fun K "_law_ruled" "_law_ruled" s__law_ruled f fd) (T : Txt K mg a_FIELDS a_OPEN_PARTS C_Both C_Either C_Form C_Gluer C_Keeper C_Rule) (D__law_marks : Df P w K mg base "_law_marks" ["trees"] 9 (spLMarks C_Form C_Both C_Either K))
    (D_Rule___init__ : DfIK P w K mg base "Rule" C_Rule ["self", "begins", "ends", "most", "alone", "tags", "quiet"] 2 ["most", "alone", "tags", "quiet"] 3 (spRuleI C_Rule C_Form C_Both C_Either K)) : FnOk P w K mg base CX0 10 f fd ["rule"] (spLRuled C_Rule C_Form C_Both C_Either K) := by
  refine F.ok sc__law_ruled (fun vs H Q E h => ?_) (fun cdv A outer s0 H vs Q E hr h => ?_)
  · obtain ⟨a, D, rfl, _⟩ := h
    rfl
  · obtain ⟨a, D, rfl, ⟨lb, le, ha, us, ws, h1, h2, h3, h4⟩, g, q⟩ := h
    refine ⟨_, (pss_cons (ps_set (i := 1) sc__law_ruled.nd rfl (Or.inl rfl) (pe_df D__law_marks (hr.mono (by decide)) (by rfl) (pa_cons (pe_ix ix_list (pv 0) pe_int (fun _ _ => rfl)) pa_nil)))
      (pss_one (ps_ret (pe_mkK D_Rule___init__ (hr.mono (by decide)) (by rfl) (pa_cons (pv 1) (pa_cons (pe_df D__law_marks (hr.mono (by decide)) (by rfl) (pa_cons (pe_ix ix_list (pv 0) pe_int (fun _ _ => rfl)) pa_nil)) pa_nil)) (pk_cons (pe_ix ix_list (pv 0) pe_int (fun _ _ => rfl)) (pk_cons (pe_ix ix_list (pv 0) pe_int (fun _ _ => rfl)) (pk_cons (pe_ix ix_list (pv 0) pe_int (fun _ _ => rfl)) (pk_cons (pe_ix ix_list (pv 0) pe_int (fun _ _ => rfl)) pk_nil)))))))), ?_⟩
    have nb := g.nb
    have ne := g.ne
    refine ⟨_, rfl, a, rlL lb le D, 0, .ref lb, rfl, rfl, sq_of ha, rfl, lb, us, D.bs, rfl, h1, h2, g.gb, by omega, fun l1 v1 H1 hl1 e1 g1 r1 => ?_⟩
    refine ⟨_, rfl, _, rfl, a, rlL lb le D, 1, .ref le, rfl, rfl, sq_of (e1 _ _ ha), rfl, le, ws, D.es, rfl, e1 _ _ h3, h4.ex upTr e1, g.ge, by omega, fun l2 v2 H2 hl2 e2 g2 r2 => ?_⟩
    have ha2 := e2 _ _ (e1 _ _ ha)
    refine ⟨_, rfl, a, rlL lb le D, 2, oV D.cap, rfl, rfl, sq_of ha2, rfl, _, rfl, a, rlL lb le D, 3, .bl D.alone, rfl, rfl, sq_of ha2, rfl, _, rfl, a, rlL lb le D, 4, oV D.lim, rfl, rfl, sq_of ha2, rfl, _, rfl, a, rlL lb le D, 5, .bl D.quiet, rfl, rfl, sq_of ha2, rfl, rfl, rfl, fun x dx hx hdx nxd => ?_⟩
    obtain ⟨H3, hH3⟩ : ∃ H3, H3 = upd (upd H2 dx (.own x)) x (.ins C_Rule dx []) := ⟨_, rfl⟩
    rw [← hH3]
    have e3 : Ex H2 (hide x H3) := fun b o hb => by
      rw [hide_ne (ne_of_none hb hx), hH3, upd_ne (ne_of_none hb hx), upd_ne (ne_of_none hb hdx)]
      exact hb
    refine ⟨x, l1, l2, dx, v1, v2, D.rul, rfl, by rw [hH3, upd_same], sq_of (e3 _ _ (e2 _ _ g1)), (r1.ex upP e2).ex upP e3, sq_of (e3 _ _ g2), r2.ex upP e3, g.good, fun H4 e4 hN => ⟨rfl, ?_⟩⟩
    exact q x H4 (fresh_back (e1.trans e2) hx) ((e1.trans e2).trans (e3.trans e4)) (hN H4 ((r1.ex upP e2).ex upP (e3.trans e4)) (r2.ex upP (e3.trans e4)) fun _ _ _ h => h)
/-- whether a line bears one of the marks -/
theorem onM_any (ts : List Tr) (z : Str) : onM (ts.map ptOf) z = ts.any fun t => (ptOf t).in_ z := by
  unfold onM
  rw [List.map_map, List.any_map]
  rfl
def spMarked : Sp := fun vs H Q _ => ∃ (a : Addr) (us : List V) (ts : List Tr) (z : Str), vs = [.ref a, .str z] ∧ H a = some (.lst us) ∧ Rs TrR H us ts ∧ (∀ t ∈ ts, GoodT t) ∧ ts.length ≤ 100 ∧ Zs z ∧ RetV (.bl (onM (ts.map ptOf) z)) H Q
theorem ok__law_marked {f : Addr} {fd : FuncData} (F : Fun K "_law_marked" "_law_marked" s__law_marked f fd) (T : Txt K mg a_FIELDS a_OPEN_PARTS C_Both C_Either C_Form C_Gluer C_Keeper C_Rule) (D__law_bears : Df P w K mg base "_law_bears" ["tree", "line"] 4 spBears) : FnOk P w K mg base CX0 5 f fd ["trees", "line"] spMarked := by
  refine F.ok sc__law_marked (fun vs H Q E h => ?_) (fun cdv A outer s0 H vs Q E hr h => ?_)
  · obtain ⟨a, us, ts, z, rfl, _⟩ := h
    rfl
  · obtain ⟨a, us, ts, z, rfl, ha, hR, hg, hn, hz, q⟩ := h
    refine ⟨_, (pss_one (ps_ret (pe_cmpR (op_neD hr.units) (pe_lc (own := [("tree", 2)]) (g := gName 2) rfl sc__law_marked.nd (pi_list (pv 0)) (blkOk_by (own := [("tree", 2)]) (N := ["trees", "line", "tree"]) (sc := defScope s__law_marked) (by decide +kernel)) (fun _ _ _ _ _ => pg_name (i := 2) sc__law_marked.nd rfl (Or.inl rfl)) (fun _ _ _ _ _ => pts_one (pt_val (pe_df (k := 4) D__law_bears (hr.mono (j := 4) (by decide)) (by rfl) (pa_cons (pv 2) (pa_cons (pv 1) pa_nil))))) (fun _ _ _ _ _ => (pv 2))) (pe_lst pa_nil) (nomark _)))), ?_⟩
    obtain ⟨ps, rfl, rfl, hp⟩ := Rs.pairs hR
    rw [List.length_map] at hn
    refine s_ret (v := .bl (onM ((ps.map fun x : Addr × Tr => x.2).map ptOf) z)) ?_ q
    have hF : EvL (tLc (iList K (tVar 0)) (gName 2) (tB (tCall spBears [] E0 (tCons (tVar 2) (tCons (tVar 1) tNil)))) (tVar 2) [2]) [some (.ref a), some (.str z), none] H ((ps.filter fun p => (ptOf p.2).in_ z).map fun p => V.ref p.1) :=
      el_lcM (K := K) (r := fun p : Addr × Tr => V.ref p.1) (0, ("", [], [])) (fun p => (ptOf p.2).in_ z) (fun p => V.ref p.1) (ev_var rfl) (sq_of ha) (by omega) wipe1 (fun p H1 e1 hm => et_B (ev_call (ea_cons (ev_var rfl) (ea_cons (ev_var rfl) ea_nil)) fun H2 e2 Q' q' E' => ⟨p.1, p.2, z, rfl, upTr _ _ _ _ (e1.trans e2) (hp p hm), hg _ (List.mem_map.mpr ⟨p, hm, rfl⟩), hz.1, by have := hz.2; omega, q'⟩)) (fun p H1 e1 hm _ => ev_var rfl)
    refine ev_is (ev_opN hF (el_lst ea_nil (Nat.zero_le _)) fun x y H2 e2 hx hy => rv_neNil (ds := (ps.filter fun p => (ptOf p.2).in_ z).map fun p => trD p.2) (sq_of hx) ?_ ?_ (sq_of hy)) ?_
    · have : ∀ l : List (Addr × Tr), (∀ p ∈ l, p ∈ ps) → DpAll K H2 (l.map fun p => V.ref p.1) (l.map fun p => trD p.2) := by
        intro l
        induction l with
        | nil => intro _; exact .nil
        | cons p l ih =>
          intro hl
          have hm := hl p List.mem_cons_self
          exact .cons (dp_tr (upTr _ _ _ _ e2 (hp p hm)) (hg _ (List.mem_map.mpr ⟨p, hm, rfl⟩))) (ih fun r hr => hl r (List.mem_cons_of_mem _ hr))
      exact this _ fun p hp2 => (List.mem_filter.mp hp2).1
    · refine shaped_ll (n := 2) (fun d hd => ?_) (by decide)
      obtain ⟨p, hp2, rfl⟩ := List.mem_map.mp hd
      exact lay_tr (hg _ (List.mem_map.mpr ⟨p, (List.mem_filter.mp hp2).1, rfl⟩))
    · rw [onM_any, List.any_map]
      congr 1
      have : ∀ l : List (Addr × Tr), (!((l.filter fun p => (ptOf p.2).in_ z).map fun p => V.ref p.1).isEmpty) = l.any ((fun t => (ptOf t).in_ z) ∘ fun x => x.2) := by
        intro l
        induction l with
        | nil => rfl
        | cons p l ih =>
          rw [List.any_cons, List.filter_cons]
          cases c : (ptOf p.2).in_ z with
          | true =>
            rw [if_pos rfl]
            show true = ((ptOf p.2).in_ z || _)
            rw [c]
            rfl
          | false =>
            rw [if_neg (by decide), ih]
            show _ = ((ptOf p.2).in_ z || _)
            rw [c]
            rfl
      exact this ps
def spLRow (K : PySem.W.Frag) : Sp := fun vs H Q _ => ∃ (p : Addr) (s : Int × Int) (a : Addr) (D : LRul), vs = [.ref p, .ref a] ∧ H p = some (pl s) ∧ Pk s ∧ RlR (hide p H) a D ∧ GoodL D ∧ RetZ p H Q
theorem ok__law_row {f : Addr} {fd : FuncData} (F : Fun K "_law_row" "_law_row" s__law_row f fd) (T : Txt K mg a_FIELDS a_OPEN_PARTS C_Both C_Either C_Form C_Gluer C_Keeper C_Rule) (D__law_take : Df P w K mg base "_law_take" ["pool", "many"] 1 spTake) (D__law_parts : Df P w K mg base "_law_parts" ["pool"] 3 spRich)
    (D__law_line : Df P w K mg base "_law_line" ["pool", "parts"] 3 (spLine2 K)) (D__law_written : Df P w K mg base "_law_written" ["pool", "tree"] 4 (spWritten K)) : FnOk P w K mg base CX0 5 f fd ["pool", "rule"] (spLRow K) := by
  refine F.ok sc__law_row (fun vs H Q E h => ?_) (fun cdv A outer s0 H vs Q E hr h => ?_)
  · obtain ⟨p, s, a, D, rfl, _⟩ := h
    rfl
  · obtain ⟨p, s, a, D, rfl, hp, hk, ⟨lb, le, ha, us, ws, h1, h2, h3, h4⟩, g, q⟩ := h
    refine ⟨_, (pss_cons (ps_set (i := 2) sc__law_row.nd rfl (Or.inl rfl) (pe_op op_cat (pe_ix ix_list (pv 1) pe_int (fun _ _ => rfl)) (pe_ix ix_list (pv 1) pe_int (fun _ _ => rfl))))
      (pss_cons (ps_set (i := 3) sc__law_row.nd rfl (Or.inl rfl) (pe_df D__law_take (hr.mono (by decide)) (by rfl) (pa_cons (pv 0) (pa_cons (pe_op op_add (pe_callB call_len_seq (by rfl) T.n_len PySem.boot_len (pa_cons (pv 2) pa_nil)) pe_int) pa_nil))))
      (pss_cons (ps_if (pt_cmpR op_lt (pv 3) (pe_callB call_len_seq (by rfl) T.n_len PySem.boot_len (pa_cons (pv 2) pa_nil)) (nomark _))
      (pss_one (ps_ret (pe_df D__law_written (hr.mono (by decide)) (by rfl) (pa_cons (pv 0) (pa_cons (pe_ix ix_list (pv 2) (pv 3) (fun _ _ => rfl)) pa_nil)))))
      pss_nil)
      (pss_one (ps_ret (pe_df D__law_line (hr.mono (by decide)) (by rfl) (pa_cons (pv 0) (pa_cons (pe_df D__law_parts (hr.mono (by decide)) (by rfl) (pa_cons (pv 0) pa_nil)) pa_nil)))))))), ?_⟩
    have K0 := Kn.here hp
    have nb := g.nb
    have ne := g.ne
    have lu := h2.len
    have lw := h4.len
    have app := h2.app' h4
    generalize hG : hide p H = G at *
    have ix : ∀ {σ : L2.St} {H1 : Hp} {x : Addr} (k : Nat), Ex G H1 → σ[1]? = some (some (.ref a)) → (rlL lb le D)[k]? = some (.ref x) → Ev (tOp (rIxL K) (tVar 1) (tC (.int (k : Int)))) σ H1 (.ref x) := fun {σ H1 x} k e1 h0 hk => ev_op (ev_var h0) ev_c (rv_ixL (sq_of (e1 _ _ ha)) (atI_nat hk))
    refine (ix 0 K0.ex rfl rfl) H (Ex.refl _) _ fun H1 e1 => (ix 1 (K0.ex.trans e1) rfl rfl) H1 (Ex.refl _) _ fun H2 e2 => ⟨lb, le, us, ws, rfl, rfl, (K0.ex.trans (e1.trans e2)) _ _ h1, (K0.ex.trans (e1.trans e2)) _ _ h3, sz_of (by omega), fun lt hlt => ?_⟩
    have e12 := e1.trans e2
    have K3 := (K0.same e12).same (Ex.new (o := .lst (us ++ ws)) hlt)
    have ltn : lt ≠ p := fun z => by
      rw [z, e12 _ _ K0.at_] at hlt
      cases hlt
    have eG : Ex G (upd H2 lt (.lst (us ++ ws))) := K3.ex
    have glt : G lt = none := fresh_back (K0.ex.trans e12) hlt
    have x0 : Ex (hide p H) (upd H2 lt (.lst (us ++ ws))) := hG ▸ eG
    have htl : (upd H2 lt (.lst (us ++ ws))) lt = some (.lst (us ++ ws)) := upd_same
    have K3' : Kn (upd G lt (.lst (us ++ ws))) p s (upd H2 lt (.lst (us ++ ws))) := K3.more (fun b o hb => by
      by_cases z : b = lt
      · rw [z, upd_same] at hb
        rw [z, htl]
        exact hb
      · rw [upd_ne z] at hb
        exact K3.ex _ _ hb) (by rw [upd_ne (Ne.symm ltn)]; exact K0.fr)
    have gx : Ex G (upd G lt (.lst (us ++ ws))) := Ex.new glt
    have glt2 : (upd G lt (.lst (us ++ ws))) lt = some (.lst (us ++ ws)) := upd_same
    have app2 := app.ex upTr gx
    generalize upd H2 lt (.lst (us ++ ws)) = H3 at K3 K3' x0 eG htl
    generalize upd G lt (.lst (us ++ ws)) = G2 at K3' gx glt2 app2
    have len : ∀ {H4 : Hp} {σ : L2.St}, Ex G2 H4 → σ[2]? = some (some (.ref lt)) → Ev (tCB (fun xs H Q => ∃ p ys, xs = [.ref p] ∧ (SqL K H p ys ∨ SqT K H p ys) ∧ Q (.int ys.length) H) (tCons (tVar 2) tNil)) σ H4 (.int ((us ++ ws).length : Int)) := fun e4 h2 => ev_lenL (ev_var h2) (sq_of (e4 _ _ glt2))
    have lall : (us ++ ws).length ≤ 6 := by rw [List.length_append]; omega
    have tk := take_lt (s := s) (n := ((us ++ ws).length : Int) + 2) (by omega)
    have hk2 : Pk (take s (((us ++ ws).length : Int) + 2)).2 := take_pk hk
    refine qp_asg K3' (evp_call (eap_cons (EvP.of (ev_var rfl)) (eap_cons (EvP.of (ev_op (len (Ex.refl _) rfl) ev_c rv_add)) eap_nil)) (sp_take hk (by omega) (by omega))) fun H4 K4 e4 => ?_
    have x4 : Ex (hide p H) H4 := hx_trans x0 e4
    refine q_when (et_test (ev_op (ev_var rfl) (len K4.ex rfl) rv_I0)) (fun hb H5 e5 => ?_) (fun hb H5 e5 => ?_)
    · have hb := of_decide_eq_true hb
      obtain ⟨n, hn⟩ : ∃ n : Nat, (take s (((us ++ ws).length : Int) + 2)).1 = (n : Int) := ⟨_, (Int.toNat_of_nonneg tk.1).symm⟩
      have hlt2 : n < (us ++ ws).length := by omega
      obtain ⟨tp, t, htp, ht, hT⟩ := app2.get (List.getElem?_eq_getElem hlt2)
      have K5 := K4.same e5
      refine ⟨_, rfl, _, rfl, _, rfl, lt, us ++ ws, (n : Int), .ref tp, rfl, by rw [hn], sq_of (K5.ex _ _ glt2), atI_nat (by rw [List.getElem?_eq_getElem hlt2, htp]), p, _, tp, t, rfl, K5.at_, hk2, ?_, ?_, fun z s' hz hk' H6 e6 g6 => q z s' hz hk' H6 (hx_trans (x4.trans e5) e6) g6⟩
      · exact upTr _ _ _ _ (fun b o hb => by rw [hide_ne (ne_of_none hb K5.fr)]; exact K5.ex _ _ hb) hT
      · rcases List.mem_append.mp (List.mem_of_getElem? ht) with m | m
        · exact g.gb _ m
        · exact g.ge _ m
    · have K5 := K4.same e5
      refine ⟨_, rfl, ?_⟩
      refine ⟨_, rfl, p, _, rfl, K5.at_, hk2, fun l H6 hl e6 g6 h6 => ?_⟩
      have rk := rich_ok hk2
      have nlp : l ≠ p := fun z => by
        rw [z, K5.at_] at hl
        cases hl
      exact ⟨p, _, l, _, rfl, g6, rk.1, by rw [hide_ne nlp]; exact h6, rk.2.1.each, by have := rk.2.2.2; omega, fun z s' hz hk' H7 e7 g7 => q z s' hz hk' H7 (hx_trans (hx_trans (x4.trans e5) e6) e7) g7⟩

/-! ### the law's own rows -/
def RowR (r : Row) (p : Addr) (H : Hp) : Prop := ∃ l, H p = some (.tup [kN r.1, .ref l]) ∧ H l = some (.lst r.2)
theorem upRow : Up RowR := fun _ _ _ _ e ⟨l, h1, h2⟩ => ⟨l, e _ _ h1, e _ _ h2⟩
def okRow (r : Row) : Prop := okV (kN r.1) = true ∧ ∀ v ∈ r.2, okV v = true
def rowD (r : Row) : PyData := .tuple [toD (kN r.1), .list (r.2.map toD)]
theorem dp_row {K : PySem.W.Frag} {H : Hp} {r : Row} {p : Addr} (h : RowR r p H) (g : okRow r) : Dp K H (.ref p) (rowD r) := by
  obtain ⟨l, h1, h2⟩ := h
  exact .tup (st_of h1) (.cons (dp_toD g.1) (.cons (.lst (sq_of h2) (dpAll_toD g.2)) .nil))
theorem dp_rows {K : PySem.W.Frag} {H : Hp} {us : List V} {rs : List Row} (h : Rs RowR H us rs) (g : ∀ r ∈ rs, okRow r) : DpAll K H us (rs.map rowD) := h.dp fun r p hr hp => dp_row hp (g r hr)
theorem lay_row {r : Row} (g : okRow r) : (rowD r).canLay0 = true ∧ (rowD r).depth ≤ 2 := by
  have a := lay_toD g.1
  have b := lay_lst g.2
  have l := layAll_of (n := 1) (ds := [toD (kN r.1), .list (r.2.map toD)]) fun d hd => by
    rcases List.mem_cons.mp hd with z | hd
    · rw [z]
      exact ⟨a.1, by omega⟩
    · rw [List.mem_singleton.mp hd]
      exact b
  unfold rowD
  simp only [PyData.canLay0, PyData.depth]
  exact ⟨l.1, by omega⟩
theorem shaped_rows {rs : List Row} (g : ∀ r ∈ rs, okRow r) : SeqAt.shaped (.list (rs.map rowD)) = true := shaped_ll (n := 2) (fun d hd => by
  obtain ⟨r, hr, rfl⟩ := List.mem_map.mp hd
  exact lay_row (g r hr)) (by decide)
theorem eqv_self {v : V} (h : okV v = true) : PyData.eqv (toD v) (toD v) = true := by
  cases v <;> first | (simp [toD, PyData.eqv]; done) | cases h
theorem eqv_key {a b : Option Key} (ha : okV (kN a) = true) : PyData.eqv (toD (kN a)) (toD (kN b)) = decide (a = b) := by
  have inj : ∀ x y : Key, decide ((some x : Option Key) = some y) = decide (x = y) := fun x y => by
    by_cases h : x = y
    · rw [h, decide_eq_true rfl, decide_eq_true rfl]
    · rw [decide_eq_false h, decide_eq_false fun z => h (Option.some.inj z)]
  cases a with
  | none =>
    cases b with
    | none => simp [kN, toD, PyData.eqv]
    | some b => cases b <;> simp [kN, kV, toD, PyData.eqv]
  | some a =>
    cases b with
    | none => cases a <;> simp [kN, kV, toD, PyData.eqv]
    | some b =>
      rw [inj]
      cases a with
      | inl i => cases b with
        | inl j =>
          simp only [kN, kV, toD, PyData.eqv]
          by_cases h : i = j
          · subst h
            simp
          · simp [h]
        | inr y => simp [kN, kV, toD, PyData.eqv]
      | inr x => cases b with
        | inl j => simp [kN, kV, toD, PyData.eqv]
        | inr y =>
          simp only [kN, kV, toD, PyData.eqv]
          by_cases h : x = y
          · subst h
            simp
          · simp [h]
theorem eqv_row {r t : Row} (hr : okRow r) : PyData.eqv (rowD r) (rowD t) = (decide (r.1 = t.1) && eqF r.2 t.2) := by
  unfold rowD
  simp only [PyData.eqv, PyData.eqvAll, eqv_key hr.1, eqvAll_toD, Bool.and_true]
theorem rows_same {r : Row} (hr : okRow r) : PyData.eqv (rowD r) (rowD r) = true := by
  rw [eqv_row hr, decide_eq_true rfl, Bool.true_and]
  exact eqF_same _ fun v hv => eqv_self (hr.2 v hv)
/-- two told lists of rows -/
theorem eqvAll_rows : ∀ {rs : List Row}, (∀ r ∈ rs, okRow r) → PyData.eqvAll (rs.map rowD) (rs.map rowD) = true
  | [], _ => by simp [PyData.eqvAll]
  | r :: rs, h => by
    simp only [List.map_cons, PyData.eqvAll, rows_same (h r List.mem_cons_self), eqvAll_rows fun x hx => h x (List.mem_cons_of_mem _ hx), Bool.and_self]
theorem rv_neRows {H : Hp} {a b : Addr} {us ws : List V} {rs : List Row} (ha : SqL K H a us) (hu : Rs RowR H us rs) (hb : SqL K H b ws) (hw : Rs RowR H ws rs) (g : ∀ r ∈ rs, okRow r) : RV (rNeD K) (.ref a) (.ref b) H (.bl false) := fun H1 e Q q =>
  ⟨.list (rs.map rowD), .list (rs.map rowD), .lst (ex_l e ha) (dp_rows (hu.ex upRow e) g), .lst (ex_l e hb) (dp_rows (hw.ex upRow e) g), shaped_rows g, shaped_rows g, by
    rw [show PyData.eqv (.list (rs.map rowD)) (.list (rs.map rowD)) = true by simp only [PyData.eqv, eqvAll_rows g]]
    exact q H1 (Ex.refl H1)⟩
theorem rv_eqRows {H : Hp} {a b : Addr} {us ws : List V} {rs : List Row} (ha : SqL K H a us) (hu : Rs RowR H us rs) (hb : SqL K H b ws) (hw : Rs RowR H ws rs) (g : ∀ r ∈ rs, okRow r) : RV (rEqD K) (.ref a) (.ref b) H (.bl true) := fun H1 e Q q =>
  ⟨.list (rs.map rowD), .list (rs.map rowD), .lst (ex_l e ha) (dp_rows (hu.ex upRow e) g), .lst (ex_l e hb) (dp_rows (hw.ex upRow e) g), shaped_rows g, shaped_rows g, by
    rw [show PyData.eqv (.list (rs.map rowD)) (.list (rs.map rowD)) = true by simp only [PyData.eqv, eqvAll_rows g]]
    exact q H1 (Ex.refl H1)⟩
/-- where a row of a tag stands, one of several that differ -/
theorem row_place {st : List Row} (nk : (st.map (·.1)).Nodup) (g : ∀ r ∈ st, okRow r) {t : Row} (ht : t ∈ st) : ∃ j, st[j]? = some t ∧ PySem.SeqAt.dataPlace (st.map rowD) (rowD t) = some j ∧ st.filter (fun r => decide (r.1 ≠ t.1)) = st.eraseIdx j := by
  induction st with
  | nil => cases ht
  | cons r st ih =>
    rw [List.map_cons, List.nodup_cons] at nk
    unfold PySem.SeqAt.dataPlace
    rw [List.map_cons, List.findIdx?_cons]
    by_cases e : r.1 = t.1
    · have hrt : r = t := by
        rcases List.mem_cons.mp ht with z | z
        · exact z.symm
        · exact absurd (List.mem_map.mpr ⟨t, z, e.symm⟩) nk.1
      refine ⟨0, by rw [hrt]; rfl, by rw [hrt, rows_same (hrt ▸ g r List.mem_cons_self), if_pos rfl], ?_⟩
      rw [List.filter_cons_of_neg (by simpa using e), List.eraseIdx_cons_zero]
      refine List.filter_eq_self.mpr fun x hx => ?_
      simp only [decide_eq_true_eq]
      intro z
      exact nk.1 (List.mem_map.mpr ⟨x, hx, z.trans e.symm⟩)
    · have hts : t ∈ st := by
        rcases List.mem_cons.mp ht with z | z
        · exact absurd (by rw [z]) e
        · exact z
      obtain ⟨j, h1, h2, h3⟩ := ih nk.2 (fun x hx => g x (List.mem_cons_of_mem _ hx)) hts
      unfold PySem.SeqAt.dataPlace at h2
      refine ⟨j + 1, h1, ?_, ?_⟩
      · rw [eqv_row (g r List.mem_cons_self), decide_eq_false e, Bool.false_and, if_neg (by decide), h2]
        rfl
      · rw [List.filter_cons_of_pos (by simpa using e), h3]
        rfl
theorem Rs.erase {α : Type} {R : α → Addr → Hp → Prop} {H : Hp} {vs : List V} {xs : List α} (h : Rs R H vs xs) : ∀ j, Rs R H (vs.eraseIdx j) (xs.eraseIdx j) := by
  induction h with
  | nil => intro j; exact .nil
  | cons hp r ih =>
    intro j
    cases j with
    | zero => exact r
    | succ j => exact .cons hp (ih j)
theorem Rs.drop {α : Type} {R : α → Addr → Hp → Prop} {H : Hp} {vs : List V} {xs : List α} (h : Rs R H vs xs) : ∀ n, Rs R H (vs.drop n) (xs.drop n) := by
  induction h with
  | nil => intro n; rw [List.drop_nil, List.drop_nil]; exact .nil
  | cons hp r ih =>
    intro n
    cases n with
    | zero => exact .cons hp r
    | succ n => exact ih n

/-! ### _law_fed -/
theorem ev_opA {σ : L2.St} {H : Hp} {ta tb : TE} {a : Addr} {ys : List V} {r : R2} {z : V} (ha : Ev ta σ H (.ref a)) (hb : EvL tb σ H ys) (hr : ∀ b H2, Ex H H2 → H2 b = some (.lst ys) → RV r (.ref a) (.ref b) H2 z) : Ev (tOp r ta tb) σ H z := fun H1 e Q q =>
  ha H1 e _ fun H2 e2 => hb H2 (e.trans e2) _ fun b H3 hb3 e3 h3 => hr b H3 ((e.trans e2).trans e3) h3 H3 (Ex.refl _) Q fun H4 e4 => q H4 ((e2.trans e3).trans e4)
theorem seq_ix0 {n : Nat} (h : 0 < n) : seqIndex? 0 n = some 0 := by
  unfold seqIndex?
  simp
  omega
structure FedI (G H : Hp) (hl : Addr) (Gi Hi : Hp) (gl : Addr) (us hs : List V) (g rest : List Row) : Prop where
  S : Stp [hl] G H Gi Hi
  g0 : H gl = none
  gg : Gi gl = none
  hg : Hi gl = some (.lst us)
  rg : Rs RowR Gi us g
  gh : Gi hl = none
  hh : Hi hl = some (.lst hs)
  rh : Rs RowR Gi hs rest
  nl : gl ≠ hl
section
variable {G H Gi Hi H2 : Hp} {hl gl p l : Addr} {us hs : List V} {g rest : List Row} {r : Row}
theorem FedI.same (I : FedI G H hl Gi Hi gl us hs g rest) (e : Ex Hi H2) : FedI G H hl Gi H2 gl us hs g rest := ⟨I.S.step e, I.g0, I.gg, e _ _ I.hg, I.rg, I.gh, e _ _ I.hh, I.rh, I.nl⟩
theorem FedI.give (I : FedI G H hl Gi Hi gl us hs g rest) (h : RowR r p Gi) : FedI G H hl Gi (upd Hi gl (.lst (us ++ [.ref p]))) gl (us ++ [.ref p]) hs (g ++ [r]) rest :=
  ⟨I.S.mut _ I.gg (.inr I.g0), I.g0, I.gg, upd_same, I.rg.snoc h, I.gh, by rw [upd_ne (Ne.symm I.nl)]; exact I.hh, I.rh, I.nl⟩
theorem FedI.keep (I : FedI G H hl Gi Hi gl us hs g rest) (h : RowR r p Gi) : FedI G H hl Gi (upd Hi hl (.lst (hs ++ [.ref p]))) gl us (hs ++ [.ref p]) g (rest ++ [r]) :=
  ⟨I.S.mut _ I.gh (.inl List.mem_cons_self), I.g0, I.gg, by rw [upd_ne I.nl]; exact I.hg, I.rg, I.gh, upd_same, I.rh.snoc h, I.nl⟩
theorem FedI.cut (I : FedI G H hl Gi Hi gl us hs g rest) (j : Nat) : FedI G H hl Gi (upd Hi hl (.lst (hs.eraseIdx j))) gl us (hs.eraseIdx j) g (rest.eraseIdx j) :=
  ⟨I.S.mut _ I.gh (.inl List.mem_cons_self), I.g0, I.gg, by rw [upd_ne I.nl]; exact I.hg, I.rg, I.gh, upd_same, Rs.erase I.rh j, I.nl⟩
theorem FedI.new (I : FedI G H hl Gi Hi gl us hs g rest) {k : Option Key} {xs : List V} (h1 : Hi l = some (.lst xs)) (hG : Gi l = none) (hn : H l = none) (ngl : l ≠ gl) (nhl : l ≠ hl) (hp : Hi p = none) :
    FedI G H hl (upd (upd Gi l (.lst xs)) p (.tup [kN k, .ref l])) (upd Hi p (.tup [kN k, .ref l])) gl us hs g rest ∧ RowR (k, xs) p (upd (upd Gi l (.lst xs)) p (.tup [kN k, .ref l])) := by
  have npl : l ≠ p := ne_of_none h1 hp
  have ngp : gl ≠ p := ne_of_none I.hg hp
  have nhp : hl ≠ p := ne_of_none I.hh hp
  have S1 := I.S.add _ h1 hG hn
  have e1 : Ex Hi (upd Hi p (.tup [kN k, .ref l])) := Ex.new hp
  have g1 : upd Gi l (.lst xs) p = none := by
    rw [upd_ne (Ne.symm npl)]
    exact fresh_back I.S.le hp
  have S2 := (S1.step e1).add (.tup [kN k, .ref l]) upd_same g1 (I.S.free hp)
  have x : Ex Gi (upd (upd Gi l (.lst xs)) p (.tup [kN k, .ref l])) := (Ex.new hG).trans (Ex.new g1)
  exact ⟨⟨S2, I.g0, by rw [upd_ne ngp, upd_ne (Ne.symm ngl)]; exact I.gg, e1 _ _ I.hg, I.rg.ex upRow x, by rw [upd_ne nhp, upd_ne (Ne.symm nhl)]; exact I.gh, e1 _ _ I.hh, I.rh.ex upRow x, I.nl⟩, l, upd_same, by rw [upd_ne npl, upd_same]⟩
end
def spFed (K : PySem.W.Frag) : Sp := fun vs H Q _ => ∃ (a hl : Addr) (D : LRul) (G : Hp) (hs : List V) (st : List Row) (z : Str) (tag : Option Key) (x : V), vs = [.ref a, .ref hl, .str z, kN tag, x] ∧ Ex G H ∧ RlR G a D ∧ GoodL D ∧ Zs z ∧ G hl = none ∧ H hl = some (.lst hs) ∧ Rs RowR G hs st ∧ (st.map (·.1)).Nodup ∧ (∀ r ∈ st, okRow r) ∧ okV (kN tag) = true ∧ okV x = true ∧ st.length ≤ 900 ∧ (∀ r ∈ st, r.2.length ≤ 900) ∧
  ∀ G' H' gl us hs', FedI G H hl G' H' gl us hs' (fedM D.rul z tag x st).1 (fedM D.rul z tag x st).2 → Q (.ref gl) H'
theorem ok__law_fed {f : Addr} {fd : FuncData} (F : Fun K "_law_fed" "_law_fed" s__law_fed f fd) (T : Txt K mg a_FIELDS a_OPEN_PARTS C_Both C_Either C_Form C_Gluer C_Keeper C_Rule) (D__law_marked : Df P w K mg base "_law_marked" ["trees", "line"] 5 spMarked) : FnOk P w K mg base CX0 6 f fd ["rule", "held", "line", "some_tag", "thing"] (spFed K) := by
  refine F.ok sc__law_fed (fun vs H Q E h => ?_) (fun cdv A outer s0 H vs Q E hr h => ?_)
  · obtain ⟨a, hl, D, G, hs, st, z, tag, x, rfl, _⟩ := h
    rfl
  · obtain ⟨a, hl, D, G, hs, st, z, tag, x, rfl, hG, hRl, gD, hz, gh, hh, hR, nk, ok, otag, ox, hn, hB, q⟩ := h
    refine ⟨_, (pss_cons (ps_if (pt_cmpR op_isN (pe_ix ix_list (pv 0) pe_int (fun _ _ => rfl)) pe_non (nomark _))
      (pss_one (ps_set (i := 3) sc__law_fed.nd rfl (Or.inr rfl) pe_non))
      pss_nil)
      (pss_cons (ps_set (i := 5) sc__law_fed.nd rfl (Or.inl rfl) (pe_df D__law_marked (hr.mono (by decide)) (by rfl) (pa_cons (pe_ix ix_list (pv 0) pe_int (fun _ _ => rfl)) (pa_cons (pv 2) pa_nil))))
      (pss_cons (ps_set (i := 6) sc__law_fed.nd rfl (Or.inl rfl) (pe_lst pa_nil))
      (pss_cons (ps_setLc (i := 7) (own := [("row", 8)]) (g := gName 8) rfl sc__law_fed.nd rfl rfl (sw_true rfl rfl rfl (by decide +kernel)) (pi_list (pv 1)) (blkOk_by (own := [("row", 8)]) (N := ["rule", "held", "line", "some_tag", "thing", "begins", "given", "own", "row"]) (sc := defScope s__law_fed) (by decide +kernel)) (fun _ _ _ _ _ => pg_name (i := 8) sc__law_fed.nd rfl (Or.inl rfl)) (fun _ _ _ _ _ => pts_one (pt_cmpR op_eq (pe_ix (ix_tupK K rfl) (pv 8) pe_int (fun _ _ => rfl)) (pv 3) (nomark _))) (fun _ _ _ _ _ => (pv 8)))
      (pss_cut (ps_if (PW.pt (pw_and (pt_cmpR (op_neD hr.units) (pv 7) (pe_lst pa_nil) (nomark _)) (pw_and1 (pt_val (pv 5)))))
      (pss_cons (ps_expr (pe_bm PySem.F.plainAttrs_list PySem.F.slot_list_append PySem.F.type_list_append mt_append (pv 6) (pa_cons (pe_ix ix_list (pv 7) pe_int (fun _ _ => rfl)) pa_nil)))
      (pss_cons (ps_expr (pe_bm PySem.F.plainAttrs_list PySem.F.slot_list_remove PySem.F.type_list_remove (mt_remD hr.units) (pv 1) (pa_cons (pe_ix ix_list (pv 7) pe_int (fun _ _ => rfl)) pa_nil)))
      (pss_one (ps_set (i := 7) sc__law_fed.nd rfl (Or.inl rfl) (pe_lst pa_nil)))))
      pss_nil)
      (pss_cut (ps_if (pt_cmpR (op_eqD hr.units) (pv 7) (pe_lst pa_nil) (nomark _))
      (pss_cons (ps_if (PW.pt (pw_and (pt_not (pt_val (pv 5))) (pw_and1 (pt_not (pt_val (pe_ix ix_list (pv 0) pe_int (fun _ _ => rfl)))))))
      (pss_one (ps_ret (pv 6)))
      pss_nil)
      (pss_cons (ps_if (PW.pt (pw_and (pt_cmpR op_notN (pe_ix ix_list (pv 0) pe_int (fun _ _ => rfl)) pe_non (nomark _)) (pw_and1 (pt_chain op_lt op_le pe_int (pe_ix ix_list (pv 0) pe_int (fun _ _ => rfl)) (pe_callB call_len_seq (by rfl) T.n_len PySem.boot_len (pa_cons (pv 1) pa_nil))))))
      (pss_one (ps_expr (pe_bm PySem.F.plainAttrs_list PySem.F.slot_list_append PySem.F.type_list_append mt_append (pv 6) (pa_cons (pe_bm PySem.F.plainAttrs_list PySem.F.slot_list_pop PySem.F.type_list_pop mt_popAt (pv 1) (pa_cons pe_int pa_nil)) pa_nil))))
      pss_nil)
      (pss_one (ps_set (i := 8) sc__law_fed.nd rfl (Or.inl rfl) (pe_tup (pa_cons (pv 3) (pa_cons (pe_lst (pa_cons (pv 4) pa_nil)) pa_nil)))))))
      (pss_cons (ps_expr (pe_bm PySem.F.plainAttrs_list PySem.F.slot_list_remove PySem.F.type_list_remove (mt_remD hr.units) (pv 1) (pa_cons (pe_ix ix_list (pv 7) pe_int (fun _ _ => rfl)) pa_nil)))
      (pss_one (ps_set (i := 8) sc__law_fed.nd rfl (Or.inl rfl) (pe_tup (pa_cons (pv 3) (pa_cons (pe_op op_cat (pe_ix ix_tup (pe_ix ix_list (pv 7) pe_int (fun _ _ => rfl)) pe_int (fun _ _ => rfl)) (pe_lst (pa_cons (pv 4) pa_nil))) pa_nil)))))))
      (pss_cut (ps_if (PW.pt (pw_or (pt_val (pe_df D__law_marked (hr.mono (by decide)) (by rfl) (pa_cons (pe_ix ix_list (pv 0) pe_int (fun _ _ => rfl)) (pa_cons (pv 2) pa_nil)))) (pw_or1 (pt_cmpR op_eq (pe_callB call_len_seq (by rfl) T.n_len PySem.boot_len (pa_cons (pe_ix ix_tup (pv 8) pe_int (fun _ _ => rfl)) pa_nil)) (pe_ix ix_list (pv 0) pe_int (fun _ _ => rfl)) (nomark _)))))
      (pss_one (ps_expr (pe_bm PySem.F.plainAttrs_list PySem.F.slot_list_append PySem.F.type_list_append mt_append (pv 6) (pa_cons (pv 8) pa_nil))))
      (pss_one (ps_expr (pe_bm PySem.F.plainAttrs_list PySem.F.slot_list_append PySem.F.type_list_append mt_append (pv 1) (pa_cons (pv 8) pa_nil)))))
      (pss_one (ps_ret (pv 6)))))))))), ?_⟩
    obtain ⟨lb, le, ha, ub, ue, hb1, hb2, he1, he2⟩ := id hRl
    have nb := gD.nb
    have ne := gD.ne
    obtain ⟨W, hW⟩ : ∃ W, W = fedM D.rul z tag x st := ⟨_, rfl⟩
    obtain ⟨tg, htg⟩ : ∃ tg, tg = tagM D.rul tag := ⟨_, rfl⟩
    obtain ⟨bg, hbg⟩ : ∃ bg, bg = onM D.rul.bs z := ⟨_, rfl⟩
    obtain ⟨s1, hs1⟩ : ∃ s1 : List Row × List Row, s1 = if bg = true then shutG [tg] st else ([], st) := ⟨_, rfl⟩
    rw [← hW] at q
    have hW2 : W = restM D.rul z tg x bg s1 := by
      rw [hs1, hW, htg, hbg]
      rfl
    have otg : okV (kN tg) = true := by
      rw [htg]
      unfold tagM
      split
      · rfl
      · exact otag
    have rl : ∀ {σ : L2.St} {H1 : Hp} {v : V} (k : Nat), Ex G H1 → σ[0]? = some (some (.ref a)) → (rlL lb le D)[k]? = some v → Ev (tOp (rIxL K) (tVar 0) (tC (.int (k : Int)))) σ H1 v := fun {σ H1 v} k e1 h0 hk => ev_op (ev_var h0) ev_c (rv_ixL (sq_of (e1 _ _ ha)) (atI_nat hk))
    have mk : ∀ {σ : L2.St} {H1 : Hp} {l : Addr} {us : List V} {ts : List Tr} (k : Nat), Ex G H1 → σ[0]? = some (some (.ref a)) → σ[2]? = some (some (.str z)) → (rlL lb le D)[k]? = some (.ref l) → G l = some (.lst us) → Rs TrR G us ts → (∀ t ∈ ts, GoodT t) → ts.length ≤ 100 → Ev (tCall spMarked [] E0 (tCons (tOp (rIxL K) (tVar 0) (tC (.int (k : Int)))) (tCons (tVar 2) tNil))) σ H1 (.bl (onM (ts.map ptOf) z)) := fun {σ H1 l us ts} k e1 h0 h2 hk hl2 hR2 hg2 hn2 =>
      ev_call (ea_cons (rl k e1 h0 hk) (ea_cons (ev_var h2) ea_nil)) fun H2 e2 Q' q' E' => ⟨l, us, ts, z, rfl, (e1.trans e2) _ _ hl2, hR2.ex upTr (e1.trans e2), hg2, hn2, hz, q'⟩
    -- the tag
    refine q_ifAsg (v := kN tg) (b := D.lim.isNone) (et_is (et_test (ev_op (rl 4 hG rfl rfl) ev_c rv_isN)) oV_non) (fun hb => ev_is ev_c ?_) (fun hb => ?_) fun H1 e1 => ?_
    · rw [htg]
      unfold tagM
      rw [show D.rul.tags = D.lim from rfl, if_pos hb]
      rfl
    · have : tg = tag := by
        rw [htg]
        unfold tagM
        rw [show D.rul.tags = D.lim from rfl, if_neg (by rw [hb]; decide)]
      rw [this]
      rfl
    refine q_asg (v := .bl bg) (ev_is (mk 0 (hG.trans e1) rfl rfl rfl hb1 hb2 gD.gb (by omega)) (by rw [hbg]; rfl)) fun H2 e2 => ?_
    refine q_asgL (el_lst ea_nil (Nat.zero_le _)) fun gl H3 hgl e3 h3 => ?_
    have e13 := (e1.trans e2).trans e3
    have g0 : H gl = none := fresh_back (e1.trans e2) hgl
    have I3 : FedI G H hl G H3 gl [] hs [] st := ⟨Stp.refl hG e13, g0, fresh_back hG g0, h3, .nil, gh, e13 _ _ hh, hR, fun y => by
      rw [y, hh] at g0
      cases g0⟩
    obtain ⟨ps, ehs, est, hps⟩ := Rs.pairs hR
    have hown : EvL (tLc (iList K (tVar 1)) (gName 8) (tTest (tOp rEq (tOp (rIxT K) (tVar 8) (tC (.int 0))) (tVar 3))) (tVar 8) [8]) [some (.ref a), some (.ref hl), some (.str z), some (kN tg), some x, some (.bl bg), some (.ref gl), none, none] H3 ((ps.filter fun p => decide (p.2.1 = tg)).map fun p => V.ref p.1) :=
      el_lcM (K := K) (r := fun p : Addr × Row => V.ref p.1) (0, (none, [])) (fun p => decide (p.2.1 = tg)) (fun p => V.ref p.1) (ev_var rfl) (sq_of (by rw [← ehs]; exact I3.hh)) (by rw [est, List.length_map] at hn; omega) wipe1 (fun p H4 e4 hm => by
        obtain ⟨l, k1, k2⟩ := hps p hm
        refine et_is (et_test (ev_op (ev_op (ev_var rfl) ev_c (rv_ixT (v := kN p.2.1) (st_of ((I3.S.le.trans e4) _ _ k1)) rfl)) (ev_var rfl) (rv_eq ?_))) ?_
        · have h1 := (ok p.2 (by rw [est]; exact List.mem_map.mpr ⟨p, hm, rfl⟩)).1
          cases hA : p.2.1 with
          | none => cases tg with
            | none => rfl
            | some kk => cases kk <;> rfl
          | some kk => cases tg with
            | none => cases kk <;> rfl
            | some k2 => cases kk <;> cases k2 <;> rfl
        · by_cases c : p.2.1 = tg
          · rw [decide_eq_true c, c, decide_eq_true rfl]
          · rw [decide_eq_false c, decide_eq_false fun y => c (kN_inj y)]) (fun p H4 e4 hm _ => ev_var rfl)
    refine q_asgL hown fun ol H4 hol e4 h4 => ?_
    have I4 := I3.same e4
    have gol : G ol = none := fresh_back I3.S.le hol
    have os_rs : Rs RowR G ((ps.filter fun p => decide (p.2.1 = tg)).map fun p => V.ref p.1) (st.filter fun r => decide (r.1 = tg)) := by
      have : ∀ l : List (Addr × Row), (∀ p ∈ l, RowR p.2 p.1 G) → Rs RowR G ((l.filter fun p => decide (p.2.1 = tg)).map fun p => V.ref p.1) ((l.map (·.2)).filter fun r => decide (r.1 = tg)) := by
        intro l
        induction l with
        | nil => intro _; exact .nil
        | cons p l ih =>
          intro hl2
          have ih2 := ih fun r hr => hl2 r (List.mem_cons_of_mem _ hr)
          rw [List.map_cons, List.filter_cons, List.filter_cons]
          by_cases c : p.2.1 = tg
          · rw [if_pos (by simpa using c), if_pos (by simpa using c)]
            exact .cons (hl2 p List.mem_cons_self) ih2
          · rw [if_neg (by simpa using c), if_neg (by simpa using c)]
            exact ih2
      rw [est]
      exact this ps hps
    generalize (ps.filter fun p => decide (p.2.1 = tg)).map (fun p => V.ref p.1) = os at h4 os_rs
    have no_ol_hl : hl ≠ ol := ne_of_none I3.hh hol
    have no_ol_gl : gl ≠ ol := ne_of_none I3.hg hol
    have okf : ∀ {l : List Row}, (∀ r ∈ l, r ∈ st) → ∀ r ∈ l, okRow r := fun h r hr => ok r (h r hr)
    -- the removal of a row
    have rem : ∀ {σ : L2.St} {Dn : Ends} {Gi Hi : Hp} {us hsi : List V} {g rest : List Row} {ol2 : Addr} {os2 : List V} {p : Addr} {t : Row}, FedI G H hl Gi Hi gl us hsi g rest → (∀ r ∈ rest, okRow r) → (rest.map (·.1)).Nodup → t ∈ rest → RowR t p Gi → σ[1]? = some (some (.ref hl)) → σ[7]? = some (some (.ref ol2)) → Hi ol2 = some (.lst (.ref p :: os2)) →
        (∀ j, rest.filter (fun r => decide (r.1 ≠ t.1)) = rest.eraseIdx j → FedI G H hl Gi (upd Hi hl (.lst (hsi.eraseIdx j))) gl us (hsi.eraseIdx j) g (rest.eraseIdx j) → Dn.nx σ (upd Hi hl (.lst (hsi.eraseIdx j)))) →
        tDrop (tBM K "list" (rRemD K) (tVar 1) (tCons (tOp (rIxL K) (tVar 7) (tC (.int 0))) tNil)) Dn σ Hi := fun {σ Dn Gi Hi us hsi g rest ol2 os2 p t} I okr nkr ht hpt h1 h7 hol2 nx => by
      obtain ⟨j, j1, j2, j3⟩ := row_place nkr okr ht
      have okt := okr t ht
      have ds := dp_rows (K := K) (I.rh.ex upRow I.S.le) okr
      have d1 := dp_row (K := K) (upRow _ _ _ _ I.S.le hpt) okt
      have l1 := lay_row okt
      refine ⟨_, h1, Or.inl ⟨rfl, hsi, sq_of I.hh⟩, _, h7, ol2, _, 0, .ref p, rfl, rfl, sq_of hol2, atI_nat (show (V.ref p :: os2)[0]? = some (V.ref p) from rfl), hl, hsi, rest.map rowD, .ref p, rowD t, j, rfl, rfl, I.hh, ds, d1, PyData.plainAll_of_canLay0 _ ?_, PyData.plain_of_canLay0 _ l1.1, by omega, j2, nx j j3 (I.cut j)⟩
      exact (layAll_of (n := 2) fun d hd => by
        obtain ⟨r, hr, rfl⟩ := List.mem_map.mp hd
        exact lay_row (okr r hr)).1
    refine q_cut (M := fun σ' H' => ∃ (Gi : Hp) (us hs1 os1 : List V) (ol1 : Addr), σ' = [some (.ref a), some (.ref hl), some (.str z), some (kN tg), some x, some (.bl bg), some (.ref gl), some (.ref ol1), none] ∧ FedI G H hl Gi H' gl us hs1 s1.1 s1.2 ∧ H' ol1 = some (.lst os1) ∧ Rs RowR Gi os1 (s1.2.filter fun r => decide (r.1 = tg)) ∧ hl ≠ ol1 ∧ gl ≠ ol1) ?_ ?_
    · refine s_when (b := !os.isEmpty && bg) (et_and (et_test (ev_is (ev_opA (ev_var rfl) (el_lst ea_nil (Nat.zero_le _)) fun y H5 e5 hy => rv_neNil (ds := (st.filter fun r => decide (r.1 = tg)).map rowD) (sq_of (e5 _ _ h4)) (dp_rows (os_rs.ex upRow ((I4.S.le).trans e5)) (okf fun r hr => (List.mem_filter.mp hr).1)) (shaped_rows (okf fun r hr => (List.mem_filter.mp hr).1)) (sq_of hy)) rfl)) fun _ => et_B (ev_var rfl)) (fun hc H5 e5 => ?_) (fun hc H5 e5 => ?_)
      · have I5 := I4.same e5
        rw [Bool.and_eq_true] at hc
        obtain ⟨hc1, hc2⟩ := hc
        rcases find_one nk tg with ⟨f1, f2, f3⟩ | ⟨t, f1, f2, f3⟩
        · rw [f1] at os_rs
          cases os_rs
          cases hc1
        · rw [f3] at os_rs
          have okt := ok t f1
          cases os_rs with
          | cons hpt hr0 =>
            rename_i p os2
            cases hr0
            have e12 : s1 = ([t], st.filter fun r => decide (r.1 ≠ tg)) := by
              rw [hs1, if_pos hc2, shutG_one, f3]
            have h5 := e5 _ _ h4
            refine ⟨_, rfl, Or.inl ⟨rfl, [], sq_of I5.hg⟩, _, rfl, ol, _, 0, .ref p, rfl, rfl, sq_of h5, atI_nat (show [V.ref p][0]? = some (V.ref p) from rfl), gl, [], .ref p, rfl, rfl, I5.hg, by decide +kernel, ?_⟩
            have I6 := I5.give hpt
            have h6 : upd H5 gl (.lst ([] ++ [.ref p])) ol = some (.lst [.ref p]) := by rw [upd_ne (Ne.symm no_ol_gl)]; exact h5
            generalize upd H5 gl (.lst ([] ++ [.ref p])) = H6 at I6 h6
            refine rem I6 ok nk f1 hpt rfl rfl h6 fun j ej I7 => ?_
            refine ⟨sz_of (by simp), fun l hl0 => ⟨G, [] ++ [.ref p], hs.eraseIdx j, [], l, rfl, ?_, upd_same, ?_, ne_of_none I7.hh hl0, ne_of_none I7.hg hl0⟩⟩
            · have I8 := I7.same (Ex.new (o := .lst []) hl0)
              rw [e12]
              rw [f2] at ej
              rw [ej]
              exact I8
            · rw [e12]
              have : ((st.filter fun r => decide (r.1 ≠ tg)).filter fun r => decide (r.1 = tg)) = [] := by
                refine List.filter_eq_nil_iff.mpr fun r hr => ?_
                simpa using (List.mem_filter.mp hr).2
              show Rs RowR G [] ((st.filter fun r => decide (r.1 ≠ tg)).filter fun r => decide (r.1 = tg))
              rw [this]
              exact .nil
      · have I5 := I4.same e5
        have es : s1 = ([], st) := by
          rw [hs1]
          cases hb2 : bg with
          | false => rw [if_neg (by decide)]
          | true =>
            rw [if_pos rfl, shutG_one]
            rw [hb2, Bool.and_true] at hc
            have hos : os = [] := by
              cases os with
              | nil => rfl
              | cons _ _ => cases hc
            rcases find_one nk tg with ⟨f1, f2, f3⟩ | ⟨t, f1, f2, f3⟩
            · rw [f1, f2]
            · rw [f3, hos] at os_rs
              cases os_rs
        exact ⟨G, [], hs, os, ol, rfl, by rw [es]; exact I5, e5 _ _ h4, by rw [es]; exact os_rs, no_ol_hl, no_ol_gl⟩
    · rintro σ5 H5 ⟨G5, us5, hs5, os5, ol5, rfl, I5, h5, os_rs5, n1, n2⟩
      have sp := s1_perm D.rul z tg st
      rw [← hbg, ← hs1] at sp
      have s2m : ∀ r ∈ s1.2, r ∈ st := fun r hr => sp.subset (List.mem_append_right _ hr)
      have ok2 := okf s2m
      have nk2 : (s1.2.map (·.1)).Nodup := by
        have := (sp.map (·.1)).nodup_iff.mpr nk
        rw [List.map_append] at this
        exact (List.nodup_append.mp this).2.1
      have l2 := sp.length_eq
      rw [List.length_append] at l2
      have lus5 := I5.rg.len
      have lhs5 := I5.rh.len
      have g5 : Ex G H5 := I5.S.ex.trans I5.S.le
      -- the row is full, or not
      have fin : ∀ {Gi Hi : Hp} {us hsi : List V} {g rest : List Row} {p : Addr} {xs : List V} {y : Option V}, FedI G H hl Gi Hi gl us hsi g rest → RowR (tg, xs) p Gi → us.length ≤ 1900 → hsi.length ≤ 1900 → endM D.rul z tg xs g rest = W →
          tCut (tIfS (tOr (tB (tCall spMarked [] E0 (tCons (tOp (rIxL K) (tVar 0) (tC (.int 1))) (tCons (tVar 2) tNil)))) (tTest (tOp rEq (tCB (fun xs H Q => ∃ p ys, xs = [.ref p] ∧ (SqL K H p ys ∨ SqT K H p ys) ∧ Q (.int ys.length) H) (tCons (tOp (rIxT K) (tVar 8) (tC (.int 1))) tNil)) (tOp (rIxL K) (tVar 0) (tC (.int 2))))))
            (tDrop (tBM K "list" rAppend (tVar 6) (tCons (tVar 8) tNil))) (tDrop (tBM K "list" rAppend (tVar 1) (tCons (tVar 8) tNil)))) (tRet (tVar 6)) { nx := fun _ H' => Q .non H', rt := Q } [some (.ref a), some (.ref hl), some (.str z), some (kN tg), some x, some (.bl bg), some (.ref gl), y, some (.ref p)] Hi := fun {Gi Hi us hsi g rest p xs y} I hp hu hh2 hw => by
        have eG : Ex G Hi := I.S.ex.trans I.S.le
        obtain ⟨lx, hp1, hp2⟩ := id hp
        unfold endM at hw
        refine q_cut (M := fun σ' H' => ∃ (us' hs' : List V), σ' = [some (.ref a), some (.ref hl), some (.str z), some (kN tg), some x, some (.bl bg), some (.ref gl), y, some (.ref p)] ∧ FedI G H hl Gi H' gl us' hs' W.1 W.2) ?_ ?_
        · refine s_if (b := fullM D.rul z xs.length) (et_or (et_B (ev_is (mk 1 eG rfl rfl rfl he1 he2 gD.ge (by omega)) rfl)) fun _ => et_test (ev_op (ev_lenL (ev_op (ev_var rfl) ev_c (rv_ixT (v := .ref lx) (st_of (I.S.le _ _ hp1)) rfl)) (sq_of (I.S.le _ _ hp2))) (rl 2 eG rfl rfl) (rv_eq (by cases D.cap <;> rfl)))) (fun hc H1 e1 => ?_) (fun hc H1 e1 => ?_)
          · rw [if_pos hc] at hw
            have I1 := I.same e1
            refine ⟨_, rfl, Or.inl ⟨rfl, us, sq_of I1.hg⟩, _, rfl, gl, us, .ref p, rfl, rfl, I1.hg, sz_lt (by omega), us ++ [.ref p], hsi, rfl, ?_⟩
            rw [← hw]
            exact I1.give hp
          · rw [if_neg (by rw [hc]; decide)] at hw
            have I1 := I.same e1
            refine ⟨_, rfl, Or.inl ⟨rfl, hsi, sq_of I1.hh⟩, _, rfl, hl, hsi, .ref p, rfl, rfl, I1.hh, sz_lt (by omega), us, hsi ++ [.ref p], rfl, ?_⟩
            rw [← hw]
            exact I1.keep hp
        · rintro σ6 H6 ⟨us6, hs6, rfl, I6⟩
          exact ⟨_, rfl, q Gi H6 gl us6 hs6 I6⟩
      have rx : W = restM D.rul z tg x bg s1 := hW2
      refine q_cut (M := fun σ' H' => ∃ (Gi : Hp) (us hsi : List V) (g rest : List Row) (p : Addr) (xs : List V), σ' = [some (.ref a), some (.ref hl), some (.str z), some (kN tg), some x, some (.bl bg), some (.ref gl), some (.ref ol5), some (.ref p)] ∧ FedI G H hl Gi H' gl us hsi g rest ∧ RowR (tg, xs) p Gi ∧ us.length ≤ 1900 ∧ hsi.length ≤ 1900 ∧ endM D.rul z tg xs g rest = W) ?_ ?_
      · have ds5 := dp_rows (K := K) (os_rs5.ex upRow I5.S.le) (okf fun r hr => s2m r (List.mem_filter.mp hr).1)
        refine s_if (b := os5.isEmpty) (et_test (ev_is (ev_opA (ev_var rfl) (el_lst ea_nil (Nat.zero_le _)) fun y H6 e6 hy => rv_eqNil (ds := (s1.2.filter fun r : Row => decide (r.1 = tg)).map rowD) (sq_of (e6 _ _ h5)) (dpAll_ex e6 _ _ ds5) (shaped_rows (okf fun r hr => s2m r (List.mem_filter.mp hr).1)) (sq_of hy)) rfl)) (fun hc H6 e6 => ?_) (fun hc H6 e6 => ?_)
        · have I6 := I5.same e6
          have f1 : s1.2.filter (fun r => decide (r.1 = tg)) = [] := by
            have := os_rs5.len
            cases os5 with
            | nil =>
              cases hf : s1.2.filter (fun r => decide (r.1 = tg)) with
              | nil => rfl
              | cons r l =>
                rw [hf] at this
                cases this
            | cons _ _ => cases hc
          rw [restM_no f1] at rx
          refine q_when (b := !bg && !D.alone) (et_and (et_not (et_B (ev_var rfl))) fun _ => et_not (et_B (rl 3 (g5.trans e6) rfl rfl))) (fun hc2 H7 e7 => ?_) (fun hc2 H7 e7 => ?_)
          · have hc3 : (!bg && !D.rul.alone) = true := hc2
            rw [if_pos hc3] at rx
            refine ⟨_, rfl, q G5 H7 gl us5 hs5 ?_⟩
            rw [rx]
            exact I6.same e7
          · have hc3 : ¬ (!bg && !D.rul.alone) = true := by
              intro y
              have : (!bg && !D.alone) = true := y
              rw [this] at hc2
              cases hc2
            rw [if_neg hc3] at rx
            have I7 := I6.same e7
            have g7 := (g5.trans e6).trans e7
            -- a new row of its own
            have own : ∀ {Hi : Hp} {us hsi : List V} {g rest : List Row}, FedI G H hl G5 Hi gl us hsi g rest → us.length ≤ 1900 → hsi.length ≤ 1900 → endM D.rul z tg [x] g rest = W → tAsg (tTup (tCons (tVar 3) (tCons (tLst (tCons (tVar 4) tNil)) tNil))) (gName 8) { nx := fun σ' H' => ∃ (Gi : Hp) (us hsi : List V) (g rest : List Row) (p : Addr) (xs : List V), σ' = [some (.ref a), some (.ref hl), some (.str z), some (kN tg), some x, some (.bl bg), some (.ref gl), some (.ref ol5), some (.ref p)] ∧ FedI G H hl Gi H' gl us hsi g rest ∧ RowR (tg, xs) p Gi ∧ us.length ≤ 1900 ∧ hsi.length ≤ 1900 ∧ endM D.rul z tg xs g rest = W, rt := Q } [some (.ref a), some (.ref hl), some (.str z), some (kN tg), some x, some (.bl bg), some (.ref gl), some (.ref ol5), none] Hi := fun {Hi us hsi g rest} I hu hh2 hw => by
              refine ⟨_, rfl, _, rfl, sz_of (by simp), fun l hl0 => ⟨sz_of (by simp), fun p hp => ?_⟩⟩
              obtain ⟨I8, r8⟩ := (I.same (Ex.new (o := .lst [x]) hl0)).new (k := tg) upd_same (fresh_back I.S.le hl0) (I.S.free hl0) (Ne.symm (ne_of_none I.hg hl0)) (Ne.symm (ne_of_none I.hh hl0)) hp
              exact ⟨_, us, hsi, g, rest, p, [x], rfl, I8, r8, hu, hh2, hw⟩
            refine q_when (b := manyM D.rul s1.2.length) ?_ (fun hm H8 e8 => ?_) (fun hm H8 e8 => ?_)
            · cases hlim : D.lim with
              | none =>
                refine et_is (et_and (a := false) (b := true) (et_test (ev_is (ev_op (rl 4 g7 rfl rfl) ev_c rv_notN) (by rw [hlim]; rfl))) fun y => by cases y) ?_
                exact (manyM_none (R := D.rul) hlim).symm
              | some m =>
                have r4 : Ev (tOp (rIxL K) (tVar 0) (tC (.int 4))) [some (.ref a), some (.ref hl), some (.str z), some (kN tg), some x, some (.bl bg), some (.ref gl), some (.ref ol5), none] H7 (.int m) := ev_is (rl 4 g7 rfl rfl) (by rw [hlim]; rfl)
                refine et_is (et_and (a := true) (et_test (ev_is (ev_op r4 ev_c rv_notN) (congrArg V.bl (by rw [decide_eq_false (fun y => nomatch y)]; rfl)))) fun _ => et_test (ev_chainR ev_c r4 (ev_lenL (ev_var rfl) (sq_of I7.hh)) rv_I0 rv_I0)) ?_
                rw [manyM_some (R := D.rul) hlim, Bool.true_and, ← lhs5]
            · have I8 := I7.same e8
              rw [hm, if_pos rfl] at rx
              have hne : 0 < s1.2.length := by
                cases hlim : D.lim with
                | none =>
                  rw [manyM_none (R := D.rul) hlim] at hm
                  cases hm
                | some m =>
                  rw [manyM_some (R := D.rul) hlim, Bool.and_eq_true, decide_eq_true_eq, decide_eq_true_eq] at hm
                  omega
              obtain ⟨r0, rest0, hs2⟩ : ∃ r0 rest0, s1.2 = r0 :: rest0 := by
                cases hq : s1.2 with
                | nil =>
                  rw [hq] at hne
                  cases hne
                | cons r0 rest0 => exact ⟨r0, rest0, rfl⟩
              obtain ⟨p0, v0, hp0⟩ := I8.rh.at (i := 0) (x := r0) (by rw [hs2]; rfl)
              refine ⟨_, rfl, Or.inl ⟨rfl, us5, sq_of I8.hg⟩, _, rfl, Or.inl ⟨rfl, hs5, sq_of I8.hh⟩, hl, hs5, 0, 0, .ref p0, rfl, rfl, I8.hh, by decide, by decide, ?_, v0, gl, us5, .ref p0, rfl, rfl, ?_, sz_lt (by omega), ?_⟩
              · exact seq_ix0 (by omega)
              · rw [upd_ne I8.nl]
                exact I8.hg
              · have I9 := (I8.cut 0).give hp0
                refine own I9 (by simp; omega) (by have := List.length_eraseIdx_le hs5 0; omega) ?_
                rw [rx, hs2]
                rfl
            · rw [hm, if_neg (by decide)] at rx
              exact own (I7.same e8) (by omega) (by omega) rx.symm
        · have I6 := I5.same e6
          rcases find_one nk2 tg with ⟨f1, f2, f3⟩ | ⟨t, f1, f2, f3⟩
          · rw [f1] at os_rs5
            cases os_rs5
            cases hc
          · rw [f3] at os_rs5
            cases os_rs5 with
            | cons hpt hr0 =>
              rename_i p os2
              cases hr0
              rw [restM_own f3] at rx
              have okt := ok2 t f1
              have Bt := hB t (s2m t f1)
              refine rem I6 ok2 nk2 f1 hpt rfl rfl (e6 _ _ h5) fun j ej I7 => ?_
              rw [f2] at ej
              obtain ⟨lt, hpt1, hpt2⟩ := id hpt
              have hol7 : upd H6 hl (.lst (hs5.eraseIdx j)) ol5 = some (.lst [.ref p]) := by
                rw [upd_ne (Ne.symm n1)]
                exact e6 _ _ h5
              generalize upd H6 hl (.lst (hs5.eraseIdx j)) = H7 at I7 hol7
              refine ⟨_, rfl, _, rfl, ol5, _, 0, .ref p, rfl, rfl, sq_of hol7, atI_nat (show [V.ref p][0]? = some (V.ref p) from rfl), p, _, 1, .ref lt, rfl, rfl, st_of (I7.S.le _ _ hpt1), rfl, _, rfl, sz_of (by simp), fun l hl0 => ?_⟩
              have nlt : lt ≠ l := ne_of_none (I7.S.le _ _ hpt2) hl0
              refine ⟨lt, l, t.2, [x], rfl, rfl, by rw [upd_ne nlt]; exact I7.S.le _ _ hpt2, upd_same, sz_of (by simp; omega), fun l2 hl2 => ⟨sz_of (by simp), fun p2 hp2 => ?_⟩⟩
              have hl2' : H7 l2 = none := by
                by_cases y : l2 = l
                · rw [y, upd_same] at hl2
                  cases hl2
                · rwa [upd_ne y] at hl2
              have I8 := (I7.same (Ex.new (o := .lst [x]) hl0)).same (Ex.new (o := .lst (t.2 ++ [x])) hl2)
              obtain ⟨I9, r9⟩ := I8.new (k := tg) upd_same (fresh_back I7.S.le hl2') (I7.S.free hl2') (Ne.symm (ne_of_none I7.hg hl2')) (Ne.symm (ne_of_none I7.hh hl2')) hp2
              have le5 := List.length_eraseIdx_le hs5 j
              refine ⟨_, us5, _, s1.1, _, p2, t.2 ++ [x], rfl, I9, r9, by omega, by omega, ?_⟩
              rw [rx, ← ej]
      · rintro σ6 H6 ⟨Gi, us6, hs6, g6, rest6, p6, xs6, rfl, I6, r6, hu6, hh6, hw6⟩
        exact fin I6 r6 hu6 hh6 hw6

/-! ### change(most=1, alone=False) -/
def kvC : List (Key × V) := [(.inr "most", .int 1), (.inr "alone", .bl false)]
def spChange (CR : Addr) : Sp := fun vs H Q _ => ∃ (r d dx b e : Addr) (m t : Option Int) (al q : Bool), vs = [.ref r, .ref d] ∧ H r = some (.ins CR dx (ruleF b e m al t q)) ∧ H d = some (.dK kvC) ∧ ∀ H', Ex (hide r H) H' → H' r ≠ none → Q .non H'
def ksC : List Str := ["most", "alone"]
def spChangeW (CR : Addr) : List Str → List V → Sp := fun ks zs vs H Q E => ks = ksC ∧ spW (spChange CR) ks zs vs H Q E
def fieldsS : List Str := ["most", "alone", "tags", "quiet"]
theorem ok_Rule_change {f : Addr} {fd : FuncData} (F : Fun K "change" "Rule.change" s_Rule_change f fd) (T : Txt K mg a_FIELDS a_OPEN_PARTS C_Both C_Either C_Form C_Gluer C_Keeper C_Rule) (D__check : Df P w K mg base "_check" ["field", "value"] 2 spCheck) :
    FnW P w K mg base CX0 4 f (spChangeW C_Rule) := by
  obtain ⟨oc, od, kw, doc, pm, an, cdv, ct, osl, rfl, lk, hcd⟩ := F.ex
  refine fn_more (p1 := "self") (pd := "settings") lk hcd sc_Rule_change cxUp_none (fun ks => ks = ksC) (fun u ks ws hC hl => ?_) (fun A outer s0 H vs Q E hr h => ?_)
  · subst hC
    match ws, hl with
    | [_, _], _ => rfl
  obtain ⟨r, d, dx, b, e, m, t, al, qu, rfl, hrr, hd, q⟩ := h
  refine ⟨_, ((pss_cons (ps_lock (ps_for PassesOwn.never rfl (pi_keys (pv 1)) (pg_name (i := 2) sc_Rule_change.nd rfl (Or.inl rfl))
      (pss_one (ps_if (pt_cmpR op_notIn_seq (pv 2) (pe_cst T.c_FIELDS (by rfl)) (by rfl))
      (pss_one ps_never)
      pss_nil))))
      (pss_cons (ps_for PassesOwn.never rfl (pi_tup (pe_cst T.c_FIELDS (by rfl))) (pg_name (i := 3) sc_Rule_change.nd rfl (Or.inl rfl))
      (pss_one (ps_if (pt_cmp (pc_din (hu_of hr) (pv 3) (pv 1)))
      (pss_one (ps_expr (pe_df D__check (hr.mono (by decide)) (by rfl) (pa_cons (pv 3) (pa_cons (pe_dget (hu_of hr) (pv 1) (pv 3) (fun _ _ => rfl)) pa_nil)))))
      pss_nil)))
      (pss_cons (ps_fld (pv 0) (pe_dget2 (hu_of hr) (pv 1) pe_str (pe_fld (pv 0) rfl) ⟨rfl, rfl, rfl, rfl⟩) rfl)
      (pss_cons (ps_fld (pv 0) (pe_dget2 (hu_of hr) (pv 1) pe_str (pe_fld (pv 0) rfl) ⟨rfl, rfl, rfl, rfl⟩) rfl)
      (pss_cons (ps_fld (pv 0) (pe_dget2 (hu_of hr) (pv 1) pe_str (pe_fld (pv 0) rfl) ⟨rfl, rfl, rfl, rfl⟩) rfl)
      (pss_one (ps_fld (pv 0) (pe_dget2 (hu_of hr) (pv 1) pe_str (pe_fld (pv 0) rfl) ⟨rfl, rfl, rfl, rfl⟩) rfl)))))))).nox, ?_⟩
  have nrd : r ≠ d := fun z => by
    rw [z, hd] at hrr
    cases hrr
  have lg := fun (f : Str) (v : V) (fs : List (Str × V)) => length_putF f v fs
  have lr : (ruleF b e m al t qu).length ≤ 6 := by
    unfold ruleF
    have z1 := lg "_begins" (.ref b) []
    have z2 := lg "_ends" (.ref e) (putF "_begins" (.ref b) [])
    have z3 := lg "_most" (oV m) (putF "_ends" (.ref e) (putF "_begins" (.ref b) []))
    have z4 := lg "_alone" (.bl al) (putF "_most" (oV m) (putF "_ends" (.ref e) (putF "_begins" (.ref b) [])))
    have z5 := lg "_tags" (oV t) (putF "_alone" (.bl al) (putF "_most" (oV m) (putF "_ends" (.ref e) (putF "_begins" (.ref b) []))))
    have z6 := lg "_quiet" (.bl qu) (putF "_tags" (oV t) (putF "_alone" (.bl al) (putF "_most" (oV m) (putF "_ends" (.ref e) (putF "_begins" (.ref b) [])))))
    simp only [List.length_nil] at z1
    omega
  -- the names
  refine ⟨d, _, hd, trivial, fun od2 => ?_⟩
  refine ⟨_, rfl, d, od2, rfl, .inl ⟨kvC, upd_same, ?_⟩⟩
  refine for_it walk_keys (fun i σ' H' => (∃ y, σ' = [some (.ref r), some (.ref d), y, none]) ∧ Ex (upd H d (.frz od2 (.dK kvC))) H') ⟨⟨none, rfl⟩, Ex.refl _⟩ (fun i σ' H' _ h => h.2 _ _ upd_same) (fun i x σ' H' H'' hi h y => ?_) (fun σ' H2 h => ?_)
  · obtain ⟨⟨y1, rfl⟩, e1⟩ := h
    obtain ⟨rfl, k, v, hk, rfl⟩ := y
    have hn : ∃ z : Str, kV k = .str z ∧ inV (.str z) (fieldsS.map V.str) = true := by
      match i, hk with
      | 0, hk => cases hk; exact ⟨_, rfl, by decide +kernel⟩
      | 1, hk => cases hk; exact ⟨_, rfl, by decide +kernel⟩
    obtain ⟨z, hz, hin⟩ := hn
    exact s_when (b := false) (et_is (et_test (ev_op (ev_var rfl) (by first | exact ev_c | exact T.c_FIELDS) (rv_niT T.o_FIELDS.at_ (by rw [hz]; rfl) rfl))) (by rw [hz]; exact congrArg (!·) hin)) (fun z => by cases z) (fun _ H2 e2 => ⟨⟨_, rfl⟩, e1.trans e2⟩)
  obtain ⟨⟨y2, rfl⟩, e1⟩ := h
  refine ⟨e1 _ _ upd_same, ?_⟩
  have e2 : Ex H (upd H2 d (.dK kvC)) := fun x o hx => by
    by_cases z : x = d
    · rw [z, upd_same, ← hd, ← z, hx]
    · rw [upd_ne z]
      exact e1 _ _ (by rw [upd_ne z]; exact hx)
  generalize upd H2 d (.dK kvC) = H3 at e2
  clear e1 H2
  -- the settings looked at
  have get : ∀ {σ : L2.St} {H1 : Hp} {tx : TE} {x : Str} {z : V}, Ex H H1 → σ[1]? = some (some (.ref d)) → Ev tx σ H1 z → Ev (tDGet2 (tVar 1) (tC (.str x)) tx) σ H1 ((valV kvC (.inr x)).getD z) := fun {σ H1 tx x z} e1 h1 hx H4 e4 Q q =>
    ⟨_, h1, d, rfl, .inl ⟨_, .inl (e4 _ _ (e1 _ _ hd))⟩, hx H4 e4 _ fun H5 e5 => ⟨_, DGet.k (k := .inr x) (e5 _ _ (e4 _ _ (e1 _ _ hd))), q H5 e5⟩⟩
  have chk : ∀ {H1 : Hp} {σ : L2.St} {x : Str} {D : Ends}, Ex H H1 → σ[1]? = some (some (.ref d)) → σ[3]? = some (some (.str x)) → (∀ v, valV kvC (.inr x) = some v → OkSet x v) → (∀ H2, Ex H H2 → D.nx σ H2) →
      tIfS (tB (tDIn (tVar 3) (tVar 1))) (tDrop (tCall spCheck [] E0 (tCons (tVar 3) (tCons (tDGet (tVar 1) (tVar 3)) tNil)))) tNext D σ H1 := fun {H1 σ x D} e1 h1 h3 hs k => by
    refine s_if (b := (valV kvC (.inr x)).isSome) (et_B fun H4 e4 Q q => ⟨_, h3, _, h1, d, _, rfl, DGet.k (k := .inr x) (e4 _ _ (e1 _ _ hd)), q H4 (Ex.refl _)⟩) (fun hb H4 e4 => ?_) (fun hb H4 e4 => k H4 (e1.trans e4))
    cases hv : valV kvC (.inr x) with
    | none =>
      rw [hv] at hb
      cases hb
    | some v =>
      refine s_drop (ev_call (z := .non) (ea_cons (ev_var h3) (ea_cons (fun H5 e5 Q q => ⟨_, h1, _, h3, d, v, rfl, ?_, q H5 (Ex.refl _)⟩) ea_nil)) fun H6 e6 Q q E => ⟨x, v, rfl, hs v hv, q⟩) fun H6 e6 => k H6 ((e1.trans e4).trans e6)
      rw [← hv]
      exact DGet.k (k := .inr x) (e5 _ _ (e4 _ _ (e1 _ _ hd)))
  refine q_forT (by first | exact ev_c | exact T.c_FIELDS) T.o_FIELDS.at_ (fun _ σ' H' => (∃ y3, σ' = [some (.ref r), some (.ref d), y2, y3]) ∧ Ex H H') (fun H4 e4 => ⟨⟨none, rfl⟩, e2.trans e4⟩) (fun _ _ _ _ _ => T.o_FIELDS.at_) (fun i x σ' H4 hx h => ?_) (fun σ' H4 h => ?_)
  · obtain ⟨⟨y3, rfl⟩, e4⟩ := h
    obtain ⟨z, rfl, hz⟩ : ∃ z : Str, x = .str z ∧ z ∈ fieldsS := by
      obtain ⟨z, hz, e⟩ := List.mem_map.mp (List.mem_of_getElem? (show (fieldsS.map V.str)[i]? = some x from hx))
      exact ⟨z, e.symm, hz⟩
    refine chk (σ := [some (.ref r), some (.ref d), y2, some (.str z)]) (x := z) e4 rfl rfl (fun v hv => ?_) fun H5 e5 => ⟨⟨_, rfl⟩, e5⟩
    rcases List.mem_cons.mp hz with rfl | hz
    · obtain rfl : v = oV (some 1) := Option.some.inj hv.symm
      exact .inl ⟨rfl, _, rfl, fun i hi => by cases hi; decide⟩
    · rcases List.mem_cons.mp hz with rfl | hz
      · obtain rfl : v = .bl false := Option.some.inj hv.symm
        exact .inr (.inr ⟨by decide +kernel, by decide +kernel, _, rfl⟩)
      · rcases List.mem_cons.mp hz with rfl | hz
        · cases hv
        · rw [List.mem_singleton.mp hz] at hv
          cases hv
  obtain ⟨⟨y3, rfl⟩, e4⟩ := h
  have A0 : At0 (hide r H) r (.ins C_Rule dx (ruleF b e m al t qu)) H4 := ⟨hide_le.trans e4, e4 _ _ hrr, hide_at⟩
  have hH : ∀ {H5 : Hp}, Ex (hide r H) H5 → Ex (hide r H) H5 ∧ H5 d = some (.dK kvC) := fun e5 => ⟨e5, e5 _ _ (by rw [hide_ne (Ne.symm nrd)]; exact hd)⟩
  have get2 : ∀ {σ : L2.St} {H1 : Hp} {f x : Str} {z : V} {fs : List (Str × V)}, At0 (hide r H) r (.ins C_Rule dx fs) H1 → σ[0]? = some (some (.ref r)) → σ[1]? = some (some (.ref d)) → NoAttr K C_Rule f → fs.lookup f = some z → Ev (tDGet2 (tVar 1) (tC (.str x)) (tFld K (tVar 0) f)) σ H1 ((valV kvC (.inr x)).getD z) := fun {σ H1 f x z fs} A h0 h1 na hl H5 e5 Q q =>
    ⟨_, h1, d, rfl, .inl ⟨_, .inl (e5 _ _ (hH A.ex).2)⟩, (tFld_ev h0 A.at_ T.k_Rule na hl) H5 e5 _ fun H6 e6 => ⟨_, DGet.k (k := .inr x) (e6 _ _ (e5 _ _ (hH A.ex).2)), q H6 e6⟩⟩
  refine q_fldA A0 rfl (get2 A0 rfl rfl T.a_Rule__most ruleF_m) T.k_Rule T.a_Rule__most (by omega) fun H5 A1 => ?_
  have z1 := lg "_most" ((valV kvC (.inr "most")).getD (oV m)) (ruleF b e m al t qu)
  generalize hf1 : putF "_most" ((valV kvC (.inr "most")).getD (oV m)) (ruleF b e m al t qu) = f1 at A1 z1
  refine q_fldA A1 rfl (get2 A1 rfl rfl T.a_Rule__alone (by rw [← hf1, lookup_putF, if_neg (by decide +kernel)]; exact ruleF_a)) T.k_Rule T.a_Rule__alone (by omega) fun H6 A2 => ?_
  have z2 := lg "_alone" ((valV kvC (.inr "alone")).getD (.bl al)) f1
  generalize hf2 : putF "_alone" ((valV kvC (.inr "alone")).getD (.bl al)) f1 = f2 at A2 z2
  refine q_fldA A2 rfl (get2 A2 rfl rfl T.a_Rule__tags (by rw [← hf2, lookup_putF, if_neg (by decide +kernel), ← hf1, lookup_putF, if_neg (by decide +kernel)]; exact ruleF_t)) T.k_Rule T.a_Rule__tags (by omega) fun H7 A3 => ?_
  have z3 := lg "_tags" ((valV kvC (.inr "tags")).getD (oV t)) f2
  generalize hf3 : putF "_tags" ((valV kvC (.inr "tags")).getD (oV t)) f2 = f3 at A3 z3
  refine s_fldA A3 rfl (get2 A3 rfl rfl T.a_Rule__quiet (by rw [← hf3, lookup_putF, if_neg (by decide +kernel), ← hf2, lookup_putF, if_neg (by decide +kernel), ← hf1, lookup_putF, if_neg (by decide +kernel)]; exact ruleF_q)) T.k_Rule T.a_Rule__quiet (by omega) fun H8 A4 => ?_
  exact q H8 A4.ex (by rw [A4.at_]; exact fun z => by cases z)

/-! ### rows told -/
theorem rows_tup {G H : Hp} {us : List V} {gs : List Hot} (r : Rs TupH G us gs) (e : Ex G H) (h : ∀ t ∈ gs, H t.2.1 = some (.lst t.2.2)) : Rs RowR H us (gs.map rowOf) := by
  induction r with
  | nil => exact .nil
  | @cons t p gs us hp _ ih =>
    rw [List.map_cons]
    exact .cons ⟨t.2.1, e _ _ hp, h t List.mem_cons_self⟩ (ih fun u hu => h u (List.mem_cons_of_mem _ hu))
theorem NewH.rows {H H' : Hp} {us : List V} {hs : List Hot} (n : NewH H H' us hs) : Rs RowR H' us (hs.map rowOf) := rows_tup n.rs (Ex.refl _) fun t ht => (n.new t ht).2
/-- waiting() beside rows -/
theorem ev_wait {σ : L2.St} {CG CK CR CF CB CE g k d : Addr} {R : Rul} {G H : Hp} {n : Int} {ts : List Hot} {te tb : TE} {r : R2} {z : V} (hg : Ev te σ H (.ref g)) (eG : Ex G H) (L : GlS P w CG CK CR CF CB CE G H g k d R n ts) (hn : ts.length ≤ 1000)
    (hr : ∀ l H1 us, Ex H H1 → H1 l = some (.lst us) → Rs RowR H1 us (ts.map rowOf) → ∀ Q : VK, (∀ H2, Ex H1 H2 → Q z H2) → tb σ H1 fun y H2 => r (.ref l) y H2 Q) : Ev (tOp r (tMeth CG "waiting" (spGWait P w CG CK CR CF CB CE) [] E0 te tNil) tb) σ H z := fun H1 e Q q =>
  hg H1 e _ fun H2 e2 => by
    have L2 := (L.same e).same e2
    obtain ⟨gx, h2⟩ := L2.at_
    exact ⟨g, gx, _, rfl, h2, gluF_no (by decide +kernel) (by decide +kernel), g, k, d, R, G, n, ts, rfl, (eG.trans e).trans e2, L2, hn, fun l H3 us hs hl e3 h3 N er _ => hr l H3 us ((e.trans e2).trans e3) h3 (by rw [← er]; exact N.rows) Q fun H4 e4 => q H4 ((e2.trans e3).trans e4)⟩
/-- len(waiting()) -/
theorem ev_lenW {σ : L2.St} {CG CK CR CF CB CE g k d : Addr} {R : Rul} {G H : Hp} {n : Int} {ts : List Hot} {te : TE} (hg : Ev te σ H (.ref g)) (eG : Ex G H) (L : GlS P w CG CK CR CF CB CE G H g k d R n ts) (hn : ts.length ≤ 1000) :
    Ev (tCB (fun xs H Q => ∃ p ys, xs = [.ref p] ∧ (SqL K H p ys ∨ SqT K H p ys) ∧ Q (.int ys.length) H) (tCons (tMeth CG "waiting" (spGWait P w CG CK CR CF CB CE) [] E0 te tNil) tNil)) σ H (.int (ts.length : Int)) := fun H1 e Q q =>
  hg H1 e _ fun H2 e2 => by
    have L2 := (L.same e).same e2
    obtain ⟨gx, h2⟩ := L2.at_
    refine ⟨g, gx, _, rfl, h2, gluF_no (by decide +kernel) (by decide +kernel), g, k, d, R, G, n, ts, rfl, (eG.trans e).trans e2, L2, hn, fun l H3 us hs hl e3 h3 N er _ => ⟨l, us, rfl, .inl (sq_of h3), ?_⟩⟩
    have l1 := N.rs.len
    have l2 := congrArg List.length er
    rw [List.length_map, List.length_map] at l2
    rw [l1, l2]
    exact q H3 (e2.trans e3)
def RowT (r : Int × Str) (p : Addr) (H : Hp) : Prop := H p = some (.tup [.int r.1, .str r.2])
theorem upRT : Up RowT := fun _ _ _ _ e h => e _ _ h
/-- the tags and things of the law are data -/
theorem okRow_fed {R : Rul} {z : Str} {tag : Option Key} {x : V} {st : List Row} (h : ∀ r ∈ st, okRow r) (ht : okV (kN tag) = true) (hx : okV x = true) : ∀ r ∈ (fedM R z tag x st).1 ++ (fedM R z tag x st).2, okRow r := by
  have otg : okV (kN (tagM R tag)) = true := by
    unfold tagM
    split
    · rfl
    · exact ht
  have p := s1_perm R z (tagM R tag) st
  unfold fedM
  obtain ⟨s1, hs⟩ : ∃ s1 : List Row × List Row, s1 = if onM R.bs z = true then shutG [tagM R tag] st else ([], st) := ⟨_, rfl⟩
  rw [← hs]
  rw [← hs] at p
  have h1 : ∀ r ∈ s1.1 ++ s1.2, okRow r := fun r hr => h r (p.subset hr)
  have en : ∀ {xs : List V} {g rest : List Row}, (∀ v ∈ xs, okV v = true) → (∀ r ∈ g ++ rest, okRow r) → ∀ r ∈ (endM R z (tagM R tag) xs g rest).1 ++ (endM R z (tagM R tag) xs g rest).2, okRow r := fun {xs g rest} hxs hgr r hr => by
    have row : okRow (tagM R tag, xs) := ⟨otg, hxs⟩
    rcases endM_or R z (tagM R tag) xs g rest with e | e
    · rw [e] at hr
      rcases List.mem_append.mp hr with q | q
      · rcases List.mem_append.mp q with q | q
        · exact hgr r (List.mem_append_left _ q)
        · rw [List.mem_singleton.mp q]
          exact row
      · exact hgr r (List.mem_append_right _ q)
    · rw [e] at hr
      rcases List.mem_append.mp hr with q | q
      · exact hgr r (List.mem_append_left _ q)
      · rcases List.mem_append.mp q with q | q
        · exact hgr r (List.mem_append_right _ q)
        · rw [List.mem_singleton.mp q]
          exact row
  cases hf : s1.2.filter (fun r => decide (r.1 = tagM R tag)) with
  | cons own l =>
    rw [restM_own hf]
    have ho : own ∈ s1.2 := (List.mem_filter.mp (by rw [hf]; exact List.mem_cons_self : own ∈ s1.2.filter fun r => decide (r.1 = tagM R tag))).1
    refine en (fun v hv => ?_) fun r hr => ?_
    · rcases List.mem_append.mp hv with q | q
      · exact (h1 own (List.mem_append_right _ ho)).2 v q
      · rw [List.mem_singleton.mp q]
        exact hx
    · rcases List.mem_append.mp hr with q | q
      · exact h1 r (List.mem_append_left _ q)
      · exact h1 r (List.mem_append_right _ (List.mem_filter.mp q).1)
  | nil =>
    rw [restM_no hf]
    have ox : ∀ v ∈ [x], okV v = true := fun v hv => by
      rw [List.mem_singleton.mp hv]
      exact hx
    split
    · exact h1
    · split
      · exact en ox fun r hr => h1 r (by rwa [List.append_assoc, List.take_append_drop] at hr)
      · exact en ox h1
/-- the gluer beside the law's own rows -/
structure Duo (P : Program) (w : World) (CG CK CR CF CB CE : Addr) (G0 G H : Hp) (g k d hl : Addr) (R : Rul) (n : Int) (ts : List Hot) (hs : List V) (st : List Row) : Prop where
  g0 : Ex G0 G
  gh : Ex G H
  L : GlS P w CG CK CR CF CB CE G H g k d R n ts
  fr : G hl = none
  at_ : H hl = some (.lst hs)
  rs : Rs RowR G hs st
  nt : hl ∉ ts.map (·.2.1)
section
variable {CG CK CR CF CB CE g k d hl gl gv : Addr} {R : Rul} {n : Int} {ts gs ts' : List Hot} {hs hs' us : List V} {st g1 rest : List Row} {G0 G H G1 H1 G2 H2 : Hp}
theorem Duo.same (T : Duo P w CG CK CR CF CB CE G0 G H g k d hl R n ts hs st) (e : Ex H H1) : Duo P w CG CK CR CF CB CE G0 G H1 g k d hl R n ts hs st := ⟨T.g0, T.gh.trans e, T.L.same e, T.fr, e _ _ T.at_, T.rs, T.nt⟩
theorem Duo.ng (T : Duo P w CG CK CR CF CB CE G0 G H g k d hl R n ts hs st) : g ≠ hl ∧ d ≠ hl := by
  obtain ⟨gx, h⟩ := T.L.at_
  exact ⟨ne_of h T.at_ (fun z => nomatch z), ne_of T.L.ks.at_ T.at_ (fun z => nomatch z)⟩
theorem Duo.fed (T : Duo P w CG CK CR CF CB CE G0 G H g k d hl R n ts hs st) (I : FedI G H hl G1 H1 gl us hs' g1 rest) : Duo P w CG CK CR CF CB CE G0 G1 H1 g k d hl R n ts hs' rest ∧ gl ∉ g :: d :: ts.map (·.2.1) := by
  obtain ⟨n1, n2⟩ := T.ng
  refine ⟨⟨T.g0.trans I.S.ex, I.S.le, T.L.step I.S (by simpa using n1) (by simpa using n2) fun t ht => ?_, I.gh, I.hh, I.rh, T.nt⟩, fun z => ?_⟩
  · intro z
    rw [List.mem_singleton] at z
    exact T.nt (z ▸ mem_adr ht)
  · rcases List.mem_cons.mp z with q | z
    · obtain ⟨gx, h⟩ := T.L.at_
      rw [← q, I.g0] at h
      cases h
    · rcases List.mem_cons.mp z with q | z
      · have := T.L.ks.at_
        rw [← q, I.g0] at this
        cases this
      · obtain ⟨t, ht, e⟩ := List.mem_map.mp z
        have := (T.L.ks.hot t ht).2
        rw [e, I.g0] at this
        cases this
theorem Duo.call (T : Duo P w CG CK CR CF CB CE G0 G H g k d hl R n ts hs st) (O : GOut P w CG CK CR CF CB CE G H g k d R n ts G2 H2 gv us gs ts') : Duo P w CG CK CR CF CB CE G0 G2 H2 g k d hl R (n + gs.length) ts' hs st := by
  obtain ⟨n1, n2⟩ := T.ng
  have hm : hl ∉ g :: d :: ts.map (·.2.1) := fun z => by
    rcases List.mem_cons.mp z with q | z
    · exact n1 q.symm
    · rcases List.mem_cons.mp z with q | z
      · exact n2 q.symm
      · exact T.nt z
  refine ⟨T.g0.trans O.S.ex, O.S.le, O.Gl, O.S.nw _ T.fr (by rw [T.at_]; exact fun z => by cases z), O.S.fr _ _ T.at_ hm, T.rs.ex upRow O.S.ex, fun z => ?_⟩
  obtain ⟨t, ht, e⟩ := List.mem_map.mp z
  rcases O.old t (List.mem_append_left _ ht) with q | q
  · rw [e] at q
    exact T.nt q
  · rw [e, T.at_] at q
    cases q
theorem GOut.rows (O : GOut P w CG CK CR CF CB CE G H g k d R n ts G2 H2 gv us gs ts') : Rs RowR H2 us (gs.map rowOf) := rows_tup O.rs O.S.le fun t ht => (O.ho t ht).2
end

/-! ### lists joined, pairs walked -/
theorem el_cat2 {σ : L2.St} {H : Hp} {ta tb : TE} {a b : Addr} {xs ys : List V} (ha : Ev ta σ H (.ref a)) (hx : H a = some (.lst xs)) (hb : Ev tb σ H (.ref b)) (hy : H b = some (.lst ys)) (hz : xs.length + ys.length ≤ 100000) : EvL (tOp rCat ta tb) σ H (xs ++ ys) := fun H1 e Q q =>
  ha H1 e _ fun H2 e2 => hb H2 (e.trans e2) _ fun H3 e3 => ⟨a, b, xs, ys, rfl, rfl, e3 _ _ (e2 _ _ (e _ _ hx)), e3 _ _ (e2 _ _ (e _ _ hy)), sz_of hz, fun l hl => q l _ (fresh_back (e2.trans e3) hl) ((e2.trans e3).trans (Ex.new hl)) upd_same⟩
theorem elv_pairsN {σ : L2.St} {H : Hp} {te tl : TE} {us xs : List V} {j k : Nat} {ws : List Nat} (h : EvL tl σ H us) (hn : us.length ≤ 40000) (hl : xs.length = us.length)
    (hw : ∀ x y, wipe (((wipe σ ws).set j (some x)).set k (some y)) ws = wipe σ ws)
    (he : ∀ (i : Nat) (u y : V), us[i]? = some u → xs[i]? = some y → ∃ (p : Addr) (x1 x2 : V), u = .ref p ∧ H p = some (.tup [x1, x2]) ∧ ∀ H1, Ex H H1 → Ev te (((wipe σ ws).set j (some x1)).set k (some x2)) H1 y) : EvL (tLc (iList K tl) (gTup K 2 (gCons (gName j) (gCons (gName k) gNil))) tYes te ws) σ H xs := fun H0 e Q q => h H0 e _ fun a H1 ha e1 hx => ⟨a, rfl, ⟨us, sq_of hx⟩,
  lcVs (H0 := H1) (walk_list (K := K) (a := a) (xs := us)) (by omega) hl (fun H2 e2 => sq_of (e2 _ _ hx)) (fun i y x H2 H3 hyi e2 yy kk hk => by
    obtain ⟨rfl, hu⟩ := yy
    obtain ⟨p, x1, x2, rfl, hp, hv⟩ := he i x y hu hyi
    have e3 := (e.trans e1).trans e2
    refine ⟨p, [x1, x2], rfl, st_of (e3 _ _ hp), rfl, x1, [x2], rfl, x2, [], rfl, rfl, ?_⟩
    exact hk _ _ (Ex.refl _) (hw _ _) (hv _ e3)) fun l H2 hl0 e2 h2 => q l H2 (fresh_back e1 hl0) (e1.trans e2) h2⟩
theorem tor_no {σ : L2.St} {H : Hp} {t u : TT} {Q : Bool → Hp → Prop} (h : EvT t σ H false) (k : ∀ H1, Ex H H1 → u σ H1 Q) : tOr t u σ H Q := h H (Ex.refl _) _ fun H1 e => by
  show u σ H1 Q
  exact k H1 e

/-! ### rows new from H0 on -/
def RowN (H0 : Hp) (r : Row) (p : Addr) (H : Hp) : Prop := ∃ l, H0 p = none ∧ H0 l = none ∧ H p = some (.tup [kN r.1, .ref l]) ∧ H l = some (.lst r.2)
theorem upRN {H0 : Hp} : Up (RowN H0) := fun _ _ _ _ e ⟨l, h1, h2, h3, h4⟩ => ⟨l, h1, h2, e _ _ h3, e _ _ h4⟩
theorem rows_of_new {H0 H : Hp} {vs : List V} {rs : List Row} (h : Rs (RowN H0) H vs rs) : Rs RowR H vs rs := h.imp fun _ _ _ ⟨l, _, _, h3, h4⟩ => ⟨l, h3, h4⟩
theorem rows_frz {G H0 H : Hp} {vs : List V} {rs : List Row} (e : Ex G H0) (h : Rs (RowN H0) H vs rs) : Rs RowR (addN G H0 H []) vs rs := by
  induction h with
  | nil => exact .nil
  | cons hp _ ih =>
    obtain ⟨l, h1, h2, h3, h4⟩ := hp
    exact .cons ⟨l, by rw [addN_new h1 e (by simp)]; exact h3, by rw [addN_new h2 e (by simp)]; exact h4⟩ ih
/-- all that is new stands frozen -/
theorem Stp.frz {G H H1 : Hp} (eG : Ex G H) (e : Ex H H1) : Stp [] G H (addN G H H1 []) H1 := addN_stp eG (fun a o h _ => e a o h) (fun a h => by cases h) fun a h => ex_ne e h
/-- [(tag, list(some)) for tag, some in rows] -/
theorem lc_due {σ : L2.St} {H : Hp} {gl : Addr} {us : List V} {rs : List Row} {j k : Nat} {ws : List Nat} {Q : VK} (hg : H gl = some (.lst us)) (r : Rs RowR H us rs) (hn : rs.length ≤ 1000) (hb : ∀ r ∈ rs, r.2.length ≤ 1000)
    (hw : ∀ x y, wipe (((wipe σ ws).set j (some x)).set k (some y)) ws = wipe σ ws) (h1 : ∀ x y : V, (((wipe σ ws).set j (some x)).set k (some y))[j]? = some (some x)) (h2 : ∀ x y : V, (((wipe σ ws).set j (some x)).set k (some y))[k]? = some (some y))
    (q : ∀ D H' vs, H D = none → Ex H H' → H' D = some (.lst vs) → Rs (RowN H) H' vs rs → Q (.ref D) H') :
    tLc (iList K (fun _ H Q => Q (.ref gl) H)) (gTup K 2 (gCons (gName j) (gCons (gName k) gNil))) tYes (tTup (tCons (tVar j) (tCons (tCB (fun xs H Q => ∃ p ys, xs = [.ref p] ∧ (SqL K H p ys ∨ SqT K H p ys) ∧ ∀ l, H l = none → Q (.ref l) (upd H l (.lst ys))) (tCons (tVar k) tNil)) tNil))) ws σ H Q := by
  refine ⟨gl, rfl, ⟨us, sq_of hg⟩, fun D hD => ?_⟩
  have lu := r.len
  refine lc_it (walk_list (K := K) (a := gl) (xs := us)) (fun i H3 => ∃ vs, H3 D = some (.lst vs) ∧ Ex H (hide D H3) ∧ Rs (RowN H) (hide D H3) vs (rs.take i)) ⟨[], upd_same, ?_, .nil⟩ (fun i H2 _ ⟨vs, hv, e2, _⟩ => sq_of (hide_le _ _ (e2 _ _ hg))) ?_ ?_
  · rw [hide_upd, hide_none hD]
    exact Ex.refl _
  · rintro i x H2 H3 hi ⟨vs, hv, e2, R⟩ yy
    obtain ⟨rfl, hu⟩ := yy
    obtain ⟨p, row, rfl, hrow, l0, hp, hl0⟩ := r.get hu
    have hp2 := hide_le _ _ (e2 _ _ hp)
    have hl2 := hide_le _ _ (e2 _ _ hl0)
    refine ⟨p, [_, _], rfl, st_of hp2, rfl, _, [_], rfl, _, [], rfl, rfl, hw _ _, ?_⟩
    refine tYes_if ?_
    refine ⟨_, h1 _ _, _, h2 _ _, l0, row.2, rfl, .inl (sq_of hl2), fun l hl => ⟨sz_of (by simp), fun t ht => ?_⟩⟩
    have nDl : D ≠ l := ne_of_none hv hl
    have ntl : t ≠ l := fun z => by
      rw [z, upd_same] at ht
      cases ht
    rw [upd_ne ntl] at ht
    have nDt : D ≠ t := ne_of_none hv ht
    have el : vs.length = (rs.take i).length := R.len
    rw [List.length_take] at el
    have fh : ∀ {b : Addr}, H3 b = none → H b = none := fun {b} hb => fresh_back (e2.trans hide_le) hb
    have eN : Ex (hide D H3) (hide D (upd (upd (upd H3 l (.lst row.2)) t (.tup [kN row.1, .ref l])) D (.lst (vs ++ [.ref t])))) := fun b o hb => by
      obtain ⟨nb, hb⟩ := hide_some hb
      rw [hide_ne nb, upd_ne nb, upd_ne (ne_of_none hb ht), upd_ne (ne_of_none hb hl)]
      exact hb
    refine ⟨vs, by rw [upd_ne nDt, upd_ne nDl]; exact hv, sz_lt (by omega), vs ++ [.ref t], upd_same, e2.trans eN, ?_⟩
    rw [List.take_add_one, hrow]
    refine (R.ex upRN eN).snoc ⟨l, fh ht, fh hl, ?_, ?_⟩
    · rw [hide_ne (Ne.symm nDt), upd_ne (Ne.symm nDt), upd_same]
    · rw [hide_ne (Ne.symm nDl), upd_ne (Ne.symm nDl), upd_ne (Ne.symm ntl), upd_same]
  · rintro H2 ⟨vs, hv, e2, R⟩
    rw [lu, List.take_length] at R
    exact q D H2 vs hD (e2.trans hide_le) hv (R.ex upRN hide_le)
/-- each list of the told rows grows by a text -/
theorem q_spoil {σ : L2.St} {H : Hp} {D : Ends} {tz : TS} {i j k : Nat} {l : Addr} {us : List V} {hs : List Hot} (h : H l = some (.lst us)) (rs : Rs TupH H us hs) (hot : ∀ t ∈ hs, ∃ zs, H t.2.1 = some (.lst zs) ∧ zs.length ≤ 2000) (nl : l ∉ hs.map (·.2.1)) (hn : hs.length ≤ 2000)
    (h0 : ∃ y z, σ = (σ.set j y).set k z) (hi : ∀ y z, ((σ.set j y).set k z)[i]? = some (some (.ref l))) (hc : ∀ y z x1 x2, (((σ.set j y).set k z).set j x1).set k x2 = (σ.set j x1).set k x2) (hk : ∀ y z, ((σ.set j y).set k (some z))[k]? = some (some z))
    (kk : ∀ σ' H', (∃ y z, σ' = (σ.set j y).set k z) → (∀ b o, H b = some o → b ∉ hs.map (·.2.1) → H' b = some o) → (∀ b, H b ≠ none → H' b ≠ none) → tz D σ' H') :
    tSeq (tFor (iList K (tVar i)) (gTup K 2 (gCons (gName j) (gCons (gName k) gNil))) (tDrop (tBM K "list" rAppend (tVar k) (tCons (tC (.str "x")) tNil)))) tz D σ H := by
  have lu := rs.len
  have hi0 : σ[i]? = some (some (.ref l)) := by
    obtain ⟨y, z, e⟩ := h0
    rw [e]
    exact hi y z
  refine q_forL (ev_var hi0) (sq_of h) (fun n σ' H' => (∃ y z, σ' = (σ.set j y).set k z) ∧ (∀ b o, H b = some o → b ∉ hs.map (·.2.1) → H' b = some o) ∧ (∀ b, H b ≠ none → H' b ≠ none) ∧ ∀ t ∈ hs, ∃ zs, H' t.2.1 = some (.lst zs) ∧ zs.length ≤ 2000 + n)
    (fun H1 e1 => ⟨h0, fun b o hb _ => e1 _ _ hb, fun b hb => ex_ne e1 hb, fun t ht => let ⟨zs, hz, lz⟩ := hot t ht; ⟨zs, e1 _ _ hz, by omega⟩⟩) (fun n σ' H' _ pv => sq_of (pv.2.1 _ _ h nl)) (fun n x σ' H' hx pv => ?_) fun σ' H' pv => kk σ' H' pv.1 pv.2.1 pv.2.2.1
  obtain ⟨⟨y, z, rfl⟩, fr, th, hz⟩ := pv
  obtain ⟨p, t, rfl, ht, hp⟩ := rs.get hx
  have hT : H p = some (.tup [kN t.1, .ref t.2.1]) := hp
  have hmem := List.mem_of_getElem? ht
  have hn2 : n < hs.length := (List.getElem?_eq_some_iff.mp ht).1
  have npa : p ∉ hs.map (·.2.1) := fun q => by
    obtain ⟨u, hu, e⟩ := List.mem_map.mp q
    obtain ⟨zs, h1, _⟩ := hot u hu
    rw [e, hT] at h1
    cases h1
  refine ⟨p, [_, _], rfl, st_of (fr _ _ hT npa), rfl, _, [_], rfl, _, [], rfl, rfl, ?_⟩
  obtain ⟨zs, h1, lz⟩ := hz t hmem
  have em : t.2.1 ∈ hs.map (·.2.1) := List.mem_map_of_mem hmem
  refine s_app (l := t.2.1) h1 (ev_var (by rw [hc]; exact hk _ _)) ev_c (by omega) fun H2 e2 => ⟨⟨_, _, hc _ _ _ _⟩, fun b o hb nb => ?_, fun b hb => ?_, fun u hu => ?_⟩
  · rw [upd_ne (fun q => nb (by rw [q]; exact em))]
    exact e2 _ _ (fr b o hb nb)
  · by_cases q : b = t.2.1
    · rw [q, upd_same]
      exact fun q => by cases q
    · rw [upd_ne q]
      exact ex_ne e2 (th b hb)
  · by_cases q : u.2.1 = t.2.1
    · rw [q, upd_same]
      exact ⟨_, rfl, by rw [List.length_append, List.length_singleton]; omega⟩
    · rw [upd_ne q]
      obtain ⟨ws, h2, l2⟩ := hz u hu
      exact ⟨ws, e2 _ _ h2, by omega⟩
/-! ### _law_told -/
def spTold (P : Program) (w : World) (CG CK CR CF CB CE : Addr) : Sp := fun vs H Q _ => ∃ (g k d hl : Addr) (R : Rul) (G0 G : Hp) (n : Int) (ts : List Hot) (hs : List V), vs = [.ref g, .ref hl, .int n] ∧ Duo P w CG CK CR CF CB CE G0 G H g k d hl R n ts hs (ts.map rowOf) ∧ (∀ r ∈ ts.map rowOf, okRow r) ∧ ts.length ≤ 900 ∧ (∀ t ∈ ts, t.2.2.length ≤ 900) ∧ ∀ H', Ex H H' → Q (.bl true) H'
theorem ok__law_told {f : Addr} {fd : FuncData} (F : Fun K "_law_told" "_law_told" s__law_told f fd) (T : Txt K mg a_FIELDS a_OPEN_PARTS C_Both C_Either C_Form C_Gluer C_Keeper C_Rule) (D_Gluer_waiting : DfM P w K mg base C_Gluer "waiting" ["self"] 2 (spGWait P w C_Gluer C_Keeper C_Rule C_Form C_Both C_Either)) (D_Gluer_many : DfP P w K mg base C_Gluer "many" 1 (getSp C_Gluer "_many")) :
    FnOk P w K mg base CX0 3 f fd ["gluer", "held", "given"] (spTold P w C_Gluer C_Keeper C_Rule C_Form C_Both C_Either) := by
  refine F.ok sc__law_told (fun vs H Q E h => ?_) (fun cdv A outer s0 H vs Q E hr h => ?_)
  · obtain ⟨g, k, d, hl, R, G0, G, n, ts, hs, rfl, _⟩ := h
    rfl
  · obtain ⟨g, k, d, hl, R, G0, G, n, ts, hs, rfl, T0, ok, hn, hB, q⟩ := h
    refine ⟨_, (pss_cons (ps_set (i := 3) sc__law_told.nd rfl (Or.inl rfl) (pe_mth0 T.k_Gluer D_Gluer_waiting (hr.mono (by decide)) (pv 0)))
      (pss_cons (ps_if (PW.pt (pw_or (pt_not (pt_val (pe_callB call_isi (by rfl) T.n_isinstance (by decide +kernel) (pa_cons (pv 3) (pa_cons (pe_bltn (v := .ty "list") (by rfl) T.n_list (by decide +kernel) rfl) pa_nil))))) (pw_or (pt_cmpR (op_neD hr.units) (pv 3) (pv 1) (nomark _)) (pw_or (pt_cmpR op_ne (pe_propD T.k_Gluer D_Gluer_many (hr.mono (by decide)) (pv 0)) (pv 2) (nomark _)) (pw_or1 (pt_val (pe_callB call_isi (by rfl) T.n_isinstance (by decide +kernel) (pa_cons (pe_propD T.k_Gluer D_Gluer_many (hr.mono (by decide)) (pv 0)) (pa_cons (pe_bltn (v := .ty "bool") (by rfl) T.n_bool (by decide +kernel) rfl) pa_nil)))))))))
      (pss_one (ps_ret pe_bl))
      pss_nil)
      (pss_cons (ps_for PassesOwn.never rfl (pi_list (pv 3)) (pg_tup rfl (pgs_cons (pg_name (i := 4) sc__law_told.nd rfl (Or.inl rfl)) (pgs_cons (pg_name (i := 5) sc__law_told.nd rfl (Or.inl rfl)) pgs_nil)))
      (pss_one (ps_expr (pe_bm PySem.F.plainAttrs_list PySem.F.slot_list_append PySem.F.type_list_append mt_append (pv 5) (pa_cons pe_str pa_nil)))))
      (pss_cons (ps_expr (pe_bm PySem.F.plainAttrs_list PySem.F.slot_list_append PySem.F.type_list_append mt_append (pv 3) (pa_cons (pe_tup (pa_cons pe_non (pa_cons (pe_lst (pa_cons pe_str pa_nil)) pa_nil))) pa_nil)))
      (pss_one (ps_ret (pe_cmpR (op_eqD hr.units) (pe_mth0 T.k_Gluer D_Gluer_waiting (hr.mono (by decide)) (pv 0)) (pv 1) (nomark _)))))))), ?_⟩
    obtain ⟨gx, hg⟩ := T0.L.at_
    refine ⟨_, rfl, g, gx, _, rfl, hg, gluF_no (by decide +kernel) (by decide +kernel), g, k, d, R, G, n, ts, rfl, T0.gh, T0.L, by omega, fun l H1 us ns hl0 e1 h1 N er nl => ?_⟩
    have T1 := T0.same e1
    obtain ⟨gx1, hg1⟩ := T1.L.at_
    have rows1 : Rs RowR H1 us (ts.map rowOf) := by
      rw [← er]
      exact N.rows
    refine q_when (b := false) (et_is (et_or (a := false) (et_is (et_not (et_B (ev_isi (b := true) (ev_var rfl) (.base (.lst h1)) (by decide +kernel)))) rfl) fun _ => et_or (a := false) (et_test (ev_op (ev_var rfl) (ev_var rfl) (rv_neRows (sq_of h1) rows1 (sq_of T1.at_) (T1.rs.ex upRow T1.gh) ok))) fun _ => et_or (a := false) (et_is (et_test (ev_op (ev_prop (ev_var rfl) hg1 gluF_n) (ev_var rfl) rv_neI)) (by simp)) fun _ => et_B (ev_isi (b := false) (ev_prop (ev_var rfl) hg1 gluF_n) (.base (.int n)) (by decide +kernel))) (by simp)) (fun y => by cases y) (fun _ H2 e2 => ?_)
    have ln : ns.length = ts.length := by
      have := congrArg List.length er
      simpa using this
    refine q_spoil (e2 _ _ h1) (N.rs.ex upTH e2) (fun t ht => ⟨_, e2 _ _ (N.new t ht).2, ?_⟩) nl (by omega) ⟨none, none, rfl⟩ (fun _ _ => rfl) (fun _ _ _ _ => rfl) (fun _ _ => rfl) fun σ' H3 hσ fr th => ?_
    · have hm : rowOf t ∈ ts.map rowOf := by
        rw [← er]
        exact List.mem_map_of_mem ht
      obtain ⟨u, hu, eu⟩ := List.mem_map.mp hm
      have := hB u hu
      have e3 : t.2.2 = u.2.2 := (congrArg Prod.snd eu).symm
      rw [e3]
      omega
    obtain ⟨y, z, rfl⟩ := hσ
    have e3 : Ex H H3 := fun b o hb => fr b o (e2 _ _ (e1 _ _ hb)) fun m => by
      obtain ⟨t, ht, e⟩ := List.mem_map.mp m
      have := (N.new t ht).1
      rw [e, hb] at this
      cases this
    have hl3 : H3 l = some (.lst us) := fr _ _ (e2 _ _ h1) nl
    have l4 : ∀ v ∈ [V.str "x"], True := fun _ _ => trivial
    refine ⟨_, rfl, .inl ⟨rfl, us, sq_of hl3⟩, sz_of (by simp), fun l2 hl2 => ⟨sz_of (by simp), fun p hp => ?_⟩⟩
    have nl2 : l ≠ l2 := ne_of_none hl3 hl2
    have np2 : p ≠ l2 := fun z => by
      rw [z, upd_same] at hp
      cases hp
    rw [upd_ne np2] at hp
    have np : l ≠ p := ne_of_none hl3 hp
    refine ⟨l, us, _, rfl, rfl, by rw [upd_ne np, upd_ne nl2]; exact hl3, sz_lt (by have := N.rs.len; omega), ?_⟩
    have e5 : Ex H (upd (upd (upd H3 l2 (.lst [.str "x"])) p (.tup [.non, .ref l2])) l (.lst (us ++ [.ref p]))) := fun b o hb => by
      rw [upd_ne (ne_of_none hb hl0), upd_ne (ne_of_none (e3 _ _ hb) hp), upd_ne (ne_of_none (e3 _ _ hb) hl2)]
      exact e3 _ _ hb
    generalize upd (upd (upd H3 l2 (.lst [.str "x"])) p (.tup [.non, .ref l2])) l (.lst (us ++ [.ref p])) = H5 at e5
    have T5 := T0.same e5
    exact s_ret (v := .bl true) (ev_wait (ev_var rfl) T5.gh T5.L (by omega) fun l H6 us6 e6 h6 r6 Q' q' => ⟨_, rfl, (rv_eqRows (rs := ts.map rowOf) (sq_of h6) r6 (sq_of (e6 _ _ T5.at_)) (T5.rs.ex upRow (T5.gh.trans e6)) ok) H6 (Ex.refl _) Q' fun H7 e7 => q' H7 e7⟩) fun H6 e6 => q H6 (e5.trans e6)

/-! ### a rule whose marks stand without it -/
theorem pat_hideB {CF CB CE : Addr} {t : Pt} {a D : Addr} {G : Hp} (n1 : ∀ C dx fs, G D = some (.ins C dx fs) → fs.lookup ("_begins" : Str) ≠ none) (n2 : ∀ xs, G D ≠ some (.tup xs)) (n3 : ∀ s xs, G D ≠ some (.lst (.str s :: xs))) (h : PatAt CF CB CE G t a) : PatAt CF CB CE (hide D G) t a := by
  have fz : ∀ {x : Addr} {o : HO}, G x = some o → G D ≠ some o → hide D G x = some o := fun hx hn => by
    rw [hide_ne (fun z => hn (by rw [← z]; exact hx))]
    exact hx
  induction h with
  | f h =>
    obtain ⟨⟨dx, t, c, h1, h2, h3⟩, g⟩ := h
    obtain ⟨x, xs, hc⟩ := cells_ne g.1 g.2.1
    refine .f ⟨⟨dx, t, c, fz h1 (fun z => n1 _ _ _ z ?_), fz h2 (n2 _), fz h3 ?_⟩, g⟩
    · unfold formF
      rw [lookup_putF, if_neg (by decide +kernel), lookup_putF, if_neg (by decide +kernel)]
      rfl
    · rw [hc]
      exact n3 _ _
  | @n and l r a dx p q h _ _ ih1 ih2 =>
    refine .n (fz h (fun z => n1 _ _ _ z ?_)) ih1 ih2
    unfold pairF
    rw [lookup_putF, if_neg (by decide +kernel), lookup_putF, if_neg (by decide +kernel)]
    rfl
theorem RuleAt.hid {CR CF CB CE : Addr} {H : Hp} {r : Addr} {R : Rul} (h : RuleAt CR CF CB CE H r R) : RuleIn CR CF CB CE (hide r H) H r R := by
  obtain ⟨dx, b, e, us, ws, h1, h2, h3, h4, h5⟩ := h
  have off : ∀ t p, PatR CF CB CE 2 t p H → PatR CF CB CE 2 t p (hide r H) := fun t p ⟨hp, g⟩ => ⟨pat_hideB (fun C dx2 fs z => by
    rw [h1] at z
    cases z
    rw [ruleF_b]
    exact fun z => by cases z) (fun _ z => by rw [h1] at z; cases z) (fun _ _ z => by rw [h1] at z; cases z) hp, g⟩
  exact ⟨dx, b, e, us, ws, h1, h2, h3.imp fun t p _ hp => off t p hp, h4, h5.imp fun t p _ hp => off t p hp⟩
/-! ### two gluers beside the law's rows -/
theorem Duo.stepM {CG CK CR CF CB CE g k d hl : Addr} {R : Rul} {n : Int} {ts : List Hot} {hs : List V} {st : List Row} {G0 G H G1 H1 : Hp} {M : List Addr} (T : Duo P w CG CK CR CF CB CE G0 G H g k d hl R n ts hs st) (S : Stp M G H G1 H1) (ng : g ∉ M) (nd : d ∉ M) (nh : hl ∉ M) (nt : ∀ t ∈ ts, t.2.1 ∉ M) : Duo P w CG CK CR CF CB CE G0 G1 H1 g k d hl R n ts hs st :=
  ⟨T.g0.trans S.ex, S.le, T.L.step S ng nd nt, S.nw _ T.fr (by rw [T.at_]; exact fun z => by cases z), S.fr _ _ T.at_ nh, T.rs.ex upRow S.ex, T.nt⟩
structure Twin (P : Program) (w : World) (CG CK CR CF CB CE : Addr) (G0 G H : Hp) (g k d hl : Addr) (R : Rul) (n : Int) (ts : List Hot) (hs : List V) (st : List Row) (g2 k2 d2 : Addr) (n2 : Int) (ts2 : List Hot) : Prop where
  T : Duo P w CG CK CR CF CB CE G0 G H g k d hl R n ts hs st
  L2 : GlS P w CG CK CR CF CB CE G H g2 k2 d2 R n2 ts2
  ng : g ≠ g2
  nd : d ≠ d2
  na : ∀ t ∈ ts, ∀ u ∈ ts2, t.2.1 ≠ u.2.1
  nh : ∀ u ∈ ts2, u.2.1 ≠ hl
section
variable {CG CK CR CF CB CE g k d hl gl gv g2 k2 d2 tl : Addr} {R : Rul} {n n2 : Int} {ts gs ts' ts2 ts2' gs2 : List Hot} {hs hs' us us2 : List V} {st g1 rest : List Row} {G0 G H G1 H1 G2 H2 : Hp} {M : List Addr}
theorem gl_ins (L : GlS P w CG CK CR CF CB CE G H g k d R n ts) {a : Addr} {o : HO} (h : H a = some o) (no : ∀ C dx fs, o ≠ .ins C dx fs) : g ≠ a := by
  obtain ⟨gx, h2⟩ := L.at_
  intro z
  rw [z, h] at h2
  exact no _ _ _ (Option.some.inj h2)
theorem gl_dct (L : GlS P w CG CK CR CF CB CE G H g k d R n ts) {a : Addr} {xs : List V} (h : H a = some (.lst xs)) : d ≠ a := ne_of L.ks.at_ h (fun z => nomatch z)
theorem Twin.same (W : Twin P w CG CK CR CF CB CE G0 G H g k d hl R n ts hs st g2 k2 d2 n2 ts2) (e : Ex H H1) : Twin P w CG CK CR CF CB CE G0 G H1 g k d hl R n ts hs st g2 k2 d2 n2 ts2 := ⟨W.T.same e, W.L2.same e, W.ng, W.nd, W.na, W.nh⟩
theorem Twin.stepM (W : Twin P w CG CK CR CF CB CE G0 G H g k d hl R n ts hs st g2 k2 d2 n2 ts2) (S : Stp M G H G1 H1) (h : ∀ b ∈ M, b ≠ g ∧ b ≠ d ∧ b ≠ hl ∧ b ≠ g2 ∧ b ≠ d2 ∧ (∀ t ∈ ts, b ≠ t.2.1) ∧ ∀ t ∈ ts2, b ≠ t.2.1) : Twin P w CG CK CR CF CB CE G0 G1 H1 g k d hl R n ts hs st g2 k2 d2 n2 ts2 :=
  ⟨W.T.stepM S (fun z => (h _ z).1 rfl) (fun z => (h _ z).2.1 rfl) (fun z => (h _ z).2.2.1 rfl) (fun t ht z => (h _ z).2.2.2.2.2.1 t ht rfl), W.L2.step S (fun z => (h _ z).2.2.2.1 rfl) (fun z => (h _ z).2.2.2.2.1 rfl) (fun t ht z => (h _ z).2.2.2.2.2.2 t ht rfl), W.ng, W.nd, W.na, W.nh⟩
theorem Twin.fed (W : Twin P w CG CK CR CF CB CE G0 G H g k d hl R n ts hs st g2 k2 d2 n2 ts2) (I : FedI G H hl G1 H1 gl us hs' g1 rest) : Twin P w CG CK CR CF CB CE G0 G1 H1 g k d hl R n ts hs' rest g2 k2 d2 n2 ts2 :=
  ⟨(W.T.fed I).1, W.L2.step I.S (by simpa using gl_ins W.L2 W.T.at_ (fun _ _ _ z => nomatch z)) (by simpa using gl_dct W.L2 W.T.at_) (fun u hu => by simpa using W.nh u hu), W.ng, W.nd, W.na, W.nh⟩
theorem Twin.call (W : Twin P w CG CK CR CF CB CE G0 G H g k d hl R n ts hs st g2 k2 d2 n2 ts2) (O : GOut P w CG CK CR CF CB CE G H g k d R n ts G2 H2 gv us gs ts') : Twin P w CG CK CR CF CB CE G0 G2 H2 g k d hl R (n + gs.length) ts' hs st g2 k2 d2 n2 ts2 := by
  have isD : ∀ {a : Addr}, a = d → H a = some (dN P w d (kvsH ts)) := fun e => by rw [e]; exact W.T.L.ks.at_
  refine ⟨W.T.call O, W.L2.step O.S (fun z => ?_) (fun z => ?_) (fun u hu z => ?_), W.ng, W.nd, fun t ht u hu e => ?_, W.nh⟩
  · rcases List.mem_cons.mp z with q | z
    · exact W.ng q.symm
    · rcases List.mem_cons.mp z with q | z
      · exact gl_ins W.L2 W.T.L.ks.at_ (fun _ _ _ z => nomatch z) q
      · obtain ⟨t, ht, e⟩ := List.mem_map.mp z
        exact gl_ins W.L2 (W.T.L.ks.hot t ht).2 (fun _ _ _ z => nomatch z) e.symm
  · rcases List.mem_cons.mp z with q | z
    · exact gl_ins W.T.L W.L2.ks.at_ (fun _ _ _ z => nomatch z) q.symm
    · rcases List.mem_cons.mp z with q | z
      · exact W.nd q.symm
      · obtain ⟨t, ht, e⟩ := List.mem_map.mp z
        exact gl_dct W.L2 (W.T.L.ks.hot t ht).2 e.symm
  · have hu2 := (W.L2.ks.hot u hu).2
    rcases List.mem_cons.mp z with q | z
    · exact gl_ins W.T.L hu2 (fun _ _ _ z => nomatch z) q.symm
    · rcases List.mem_cons.mp z with q | z
      · exact gl_dct W.T.L hu2 q.symm
      · obtain ⟨t, ht, e⟩ := List.mem_map.mp z
        exact W.na t ht u hu e
  · rcases O.old t (List.mem_append_left _ ht) with q | q
    · obtain ⟨t0, ht0, e0⟩ := List.mem_map.mp q
      exact W.na t0 ht0 u hu (e0.trans e)
    · rw [e, (W.L2.ks.hot u hu).2] at q
      cases q
theorem Twin.call2 (W : Twin P w CG CK CR CF CB CE G0 G H g k d hl R n ts hs st g2 k2 d2 n2 ts2) (O : GOut P w CG CK CR CF CB CE G H g2 k2 d2 R n2 ts2 G2 H2 gv us gs ts2') : Twin P w CG CK CR CF CB CE G0 G2 H2 g k d hl R n ts hs st g2 k2 d2 (n2 + gs.length) ts2' := by
  have nm : ∀ {a : Addr}, a ≠ g2 → a ≠ d2 → (∀ u ∈ ts2, a ≠ u.2.1) → a ∉ g2 :: d2 :: ts2.map (·.2.1) := fun h1 h2 h3 z => by
    rcases List.mem_cons.mp z with q | z
    · exact h1 q
    · rcases List.mem_cons.mp z with q | z
      · exact h2 q
      · obtain ⟨t, ht, e⟩ := List.mem_map.mp z
        exact h3 t ht e.symm
  refine ⟨W.T.stepM O.S (nm W.ng (gl_ins W.T.L W.L2.ks.at_ (fun _ _ _ z => nomatch z)) fun u hu => gl_ins W.T.L (W.L2.ks.hot u hu).2 (fun _ _ _ z => nomatch z))
    (nm (Ne.symm (gl_ins W.L2 W.T.L.ks.at_ (fun _ _ _ z => nomatch z))) W.nd fun u hu => gl_dct W.T.L (W.L2.ks.hot u hu).2)
    (nm (Ne.symm (gl_ins W.L2 W.T.at_ (fun _ _ _ z => nomatch z))) (Ne.symm (gl_dct W.L2 W.T.at_)) fun u hu => Ne.symm (W.nh u hu))
    (fun t ht => nm (Ne.symm (gl_ins W.L2 (W.T.L.ks.hot t ht).2 (fun _ _ _ z => nomatch z))) (Ne.symm (gl_dct W.L2 (W.T.L.ks.hot t ht).2)) fun u hu => W.na t ht u hu), O.Gl, W.ng, W.nd, fun t ht u hu e => ?_, fun u hu e => ?_⟩
  · rcases O.old u (List.mem_append_left _ hu) with q | q
    · obtain ⟨u0, hu0, e0⟩ := List.mem_map.mp q
      exact W.na t ht u0 hu0 (e.trans e0.symm)
    · rw [← e, (W.T.L.ks.hot t ht).2] at q
      cases q
  · rcases O.old u (List.mem_append_left _ hu) with q | q
    · obtain ⟨u0, hu0, e0⟩ := List.mem_map.mp q
      exact W.nh u0 hu0 (e0.trans e)
    · rw [e, W.T.at_] at q
      cases q
/-- what was told, its rows' lists apart from all that is kept -/
structure TellI (G H : Hp) (tl : Addr) (us : List V) (gs ts ts2 : List Hot) (hl : Addr) : Prop where
  at_ : H tl = some (.lst us)
  rs : Rs TupH G us gs
  ho : ∀ t ∈ gs, G t.2.1 = none ∧ H t.2.1 = some (.lst t.2.2)
  n1 : ∀ t ∈ gs, ∀ u ∈ ts, t.2.1 ≠ u.2.1
  n2 : ∀ t ∈ gs, ∀ u ∈ ts2, t.2.1 ≠ u.2.1
  nt : tl ∉ gs.map (·.2.1)
  nt2 : ∀ u ∈ ts2, tl ≠ u.2.1
  nh : ∀ t ∈ gs, t.2.1 ≠ hl
theorem TellI.same (I : TellI G H tl us gs ts ts2 hl) (e : Ex H H1) : TellI G H1 tl us gs ts ts2 hl := ⟨e _ _ I.at_, I.rs, fun t ht => ⟨(I.ho t ht).1, e _ _ (I.ho t ht).2⟩, I.n1, I.n2, I.nt, I.nt2, I.nh⟩
theorem TellI.told {tn : Addr} (I : TellI G H tl us gs ts ts2 hl) (W : GlS P w CG CK CR CF CB CE G H g2 k2 d2 R n2 ts2) (hn : H tn = none) (e : Ex H H1) (h1 : H1 tn = some (.lst us)) : TellI G H1 tn us gs ts ts2 hl :=
  ⟨h1, I.rs, fun t ht => ⟨(I.ho t ht).1, e _ _ (I.ho t ht).2⟩, I.n1, I.n2, (fun z => by
    obtain ⟨t, ht, q⟩ := List.mem_map.mp z
    have := (I.ho t ht).2
    rw [q, hn] at this
    cases this), (fun u hu q => by
    have := (W.ks.hot u hu).2
    rw [← q, hn] at this
    cases this), I.nh⟩
theorem Twin.tell (W : Twin P w CG CK CR CF CB CE G0 G H g k d hl R n ts hs st g2 k2 d2 n2 ts2) (O : GOut P w CG CK CR CF CB CE G H g k d R n ts G2 H2 gv us gs ts') : TellI G2 H2 gv us gs ts' ts2 hl := by
  have nodup := O.na
  rw [List.map_append, List.nodup_append] at nodup
  refine ⟨O.hg, O.rs, O.ho, fun t ht u hu e => nodup.2.2 _ (List.mem_map_of_mem hu) _ (List.mem_map_of_mem ht) e.symm, fun t ht u hu e => ?_, fun z => O.ng (by rw [List.map_append]; exact List.mem_append_right _ z), fun u hu e => ?_, fun t ht e => ?_⟩
  · rcases O.old t (List.mem_append_right _ ht) with q | q
    · obtain ⟨t0, ht0, e0⟩ := List.mem_map.mp q
      exact W.na t0 ht0 u hu (e0.trans e)
    · rw [e, (W.L2.ks.hot u hu).2] at q
      cases q
  · have := (W.L2.ks.hot u hu).2
    rw [← e, O.g0] at this
    cases this
  · rcases O.old t (List.mem_append_right _ ht) with q | q
    · rw [e] at q
      exact W.T.nt q
    · rw [e, W.T.at_] at q
      cases q
theorem TellI.call2 (I : TellI G H tl us gs ts ts2 hl) (W : GlS P w CG CK CR CF CB CE G H g2 k2 d2 R n2 ts2) (O : GOut P w CG CK CR CF CB CE G H g2 k2 d2 R n2 ts2 G2 H2 gv us2 gs2 ts2') : TellI G2 H2 tl us gs ts ts2' hl := by
  have nm : ∀ {a : Addr} {xs : List V}, H a = some (.lst xs) → (∀ u ∈ ts2, a ≠ u.2.1) → a ∉ g2 :: d2 :: ts2.map (·.2.1) := fun h h3 z => by
    rcases List.mem_cons.mp z with q | z
    · exact gl_ins W h (fun _ _ _ z => nomatch z) q.symm
    · rcases List.mem_cons.mp z with q | z
      · exact gl_dct W h q.symm
      · obtain ⟨t, ht, e⟩ := List.mem_map.mp z
        exact h3 t ht e.symm
  have new : ∀ {a : Addr} {xs : List V}, H a = some (.lst xs) → (∀ u ∈ ts2, a ≠ u.2.1) → ∀ u ∈ ts2', a ≠ u.2.1 := fun h h3 u hu e => by
    rcases O.old u (List.mem_append_left _ hu) with q | q
    · obtain ⟨u0, hu0, e0⟩ := List.mem_map.mp q
      exact h3 u0 hu0 (e.trans e0.symm)
    · rw [← e, h] at q
      cases q
  exact ⟨O.S.fr _ _ I.at_ (nm I.at_ I.nt2), I.rs.ex upTH O.S.ex, fun t ht => hot_stays O.S (I.ho t ht) (nm (I.ho t ht).2 (I.n2 t ht)), I.n1, fun t ht => new (I.ho t ht).2 (I.n2 t ht), I.nt, new I.at_ I.nt2, I.nh⟩
theorem TellI.rows (I : TellI G H tl us gs ts ts2 hl) (e : Ex G H) : Rs RowR H us (gs.map rowOf) := rows_tup I.rs e fun t ht => (I.ho t ht).2
theorem Twin.spoil (W : Twin P w CG CK CR CF CB CE G0 G H g k d hl R n ts hs st g2 k2 d2 n2 ts2) (I : TellI G H tl us gs ts ts2 hl) (fr : ∀ b o, H b = some o → b ∉ gs.map (·.2.1) → H1 b = some o) (th : ∀ b, H b ≠ none → H1 b ≠ none) : Twin P w CG CK CR CF CB CE G0 G H1 g k d hl R n ts hs st g2 k2 d2 n2 ts2 := by
  refine W.stepM (M := gs.map (·.2.1)) ⟨Ex.refl _, fun b o hb => fr b o (W.T.gh _ _ hb) fun z => ?_, fun _ h _ => h, fr, th⟩ fun b hb => ?_
  · obtain ⟨t, ht, e⟩ := List.mem_map.mp z
    rw [← e, (I.ho t ht).1] at hb
    cases hb
  · obtain ⟨t, ht, rfl⟩ := List.mem_map.mp hb
    have h := (I.ho t ht).2
    exact ⟨Ne.symm (gl_ins W.T.L h (fun _ _ _ z => nomatch z)), Ne.symm (gl_dct W.T.L h), I.nh t ht, Ne.symm (gl_ins W.L2 h (fun _ _ _ z => nomatch z)), Ne.symm (gl_dct W.L2 h), I.n1 t ht, I.n2 t ht⟩
end

theorem q_whenM {σ : L2.St} {H : Hp} {D : Ends} {tt : TT} {tu tz : TS} {b : Bool} {M : L2.St → Hp → Prop} (h : EvT tt σ H b) (h1 : b = true → ∀ H1, Ex H H1 → ∀ N : L2.St → Hp → Prop, (∀ σ' H', M σ' H' → N σ' H') → tu { D with nx := N } σ H1) (h2 : b = false → ∀ H1, Ex H H1 → M σ H1) (k : ∀ σ' H', M σ' H' → tz D σ' H') : tSeq (tIfS tt tu tNext) tz D σ H :=
  q_when h (fun hb H1 e => h1 hb H1 e _ k) (fun hb H1 e => k _ _ (h2 hb H1 e))
theorem ksC_nd : ksC.Nodup := by decide +kernel
theorem ksC_le : ksC.length ≤ 100 := by decide
theorem el_catN {σ : L2.St} {H : Hp} {ta : TE} {a : Addr} {xs : List V} (ha : Ev ta σ H (.ref a)) (hx : H a = some (.lst xs)) (hz : xs.length ≤ 100000) : EvL (tOp rCat ta (tLst tNil)) σ H xs := fun H1 e Q q => ha H1 e _ fun H2 e2 => ⟨sz_of (by simp), fun b hb => by
  have h2 := e2 _ _ (e _ _ hx)
  have nab : a ≠ b := ne_of_none h2 hb
  refine ⟨a, b, xs, [], rfl, rfl, by rw [upd_ne nab]; exact h2, upd_same, sz_of (by simpa using hz), fun l hl => ?_⟩
  have e3 : Ex H2 (upd H2 b (.lst [])) := Ex.new hb
  rw [List.append_nil]
  exact q l _ (fresh_back (e2.trans e3) hl) ((e2.trans e3).trans (Ex.new hl)) upd_same⟩
theorem q_due {σ : L2.St} {H : Hp} {D : Ends} {tz : TS} {i j k : Nat} {ws : List Nat} {sp : Sp} {ta : TA} {vs : List V} (ha : EvA ta σ H vs)
    (hw : ∀ x y, wipe (((wipe σ ws).set j (some x)).set k (some y)) ws = wipe σ ws) (h1 : ∀ x y : V, (((wipe σ ws).set j (some x)).set k (some y))[j]? = some (some x)) (h2 : ∀ x y : V, (((wipe σ ws).set j (some x)).set k (some y))[k]? = some (some y))
    (h : ∀ H1, Ex H H1 → ∀ Q : VK, (∀ gl us rs H2, H2 gl = some (.lst us) → Rs RowR H2 us rs → rs.length ≤ 1000 → (∀ r ∈ rs, r.2.length ≤ 1000) → (∀ Dl H' ds, H2 Dl = none → Ex H2 H' → H' Dl = some (.lst ds) → Rs (RowN H2) H' ds rs → tz D (σ.set i (some (.ref Dl))) H') → Q (.ref gl) H2) → sp (vs ++ []) H1 Q E0) :
    tSeq (tAsg (tLc (iList K (tCall sp [] E0 ta)) (gTup K 2 (gCons (gName j) (gCons (gName k) gNil))) tYes (tTup (tCons (tVar j) (tCons (tCB (fun xs H Q => ∃ p ys, xs = [.ref p] ∧ (SqL K H p ys ∨ SqT K H p ys) ∧ ∀ l, H l = none → Q (.ref l) (upd H l (.lst ys))) (tCons (tVar k) tNil)) tNil))) ws) (gName i)) tz D σ H :=
  ha H (Ex.refl _) _ fun H1 e1 => h H1 e1 _ fun gl us rs H2 hg r hn hb q => lc_due (σ := σ) (Q := fun v H' => tz D (σ.set i (some v)) H') hg r hn hb hw h1 h2 q
/-! ### _law_right -/
def spRight28 (K : PySem.W.Frag) : Sp := fun vs H Q _ => ∃ (a rl : Addr) (D : LRul) (zs : List Str), vs = [.ref a, .ref rl] ∧ RlR H a D ∧ GoodL D ∧ H rl = some (.lst (zs.map V.str)) ∧ (∀ z ∈ zs, Zs z) ∧ zs.length ≤ 62 ∧ ∀ H', Ex H H' → Q (.bl true) H'
theorem ok__law_right {f : Addr} {fd : FuncData} (F : Fun K "_law_right" "_law_right" s__law_right f fd) (T : Txt K mg a_FIELDS a_OPEN_PARTS C_Both C_Either C_Form C_Gluer C_Keeper C_Rule) (D__law_ruled : Df P w K mg base "_law_ruled" ["rule"] 10 (spLRuled C_Rule C_Form C_Both C_Either K)) (D__law_fed : Df P w K mg base "_law_fed" ["rule", "held", "line", "some_tag", "thing"] 6 (spFed K))
    (D_Gluer___init__ : DfI P w K mg base "Gluer" C_Gluer ["self", "rule"] 7 (spGlI P w C_Gluer C_Keeper C_Rule C_Form C_Both C_Either)) (D_Gluer___call__ : DfCl P w K mg base C_Gluer ["self", "line", "tag"] [.non] 8 (spGCall P w C_Gluer C_Keeper C_Rule C_Form C_Both C_Either))
    (D_Rule_change : DfW P w K mg base C_Rule "change" 4 (spChangeW C_Rule)) (D__law_told : Df P w K mg base "_law_told" ["gluer", "held", "given"] 3 (spTold P w C_Gluer C_Keeper C_Rule C_Form C_Both C_Either)) :
    FnOk P w K mg base CX0 12 f fd ["rule", "lines"] (spRight28 K) := by
  refine F.ok sc__law_right (fun vs H Q E h => ?_) (fun cdv A outer s0 H vs Q E hr h => ?_)
  · obtain ⟨a, rl, D, zs, rfl, _⟩ := h
    rfl
  · obtain ⟨a, rl, D, zs, rfl, hRl, gD, hrl, hzs, hn, q⟩ := h
    refine ⟨_, (pss_cons (ps_set (i := 2) sc__law_right.nd rfl (Or.inl rfl) (pe_df D__law_ruled (hr.mono (by decide)) (by rfl) (pa_cons (pv 0) pa_nil)))
      (pss_cons (ps_set (i := 3) sc__law_right.nd rfl (Or.inl rfl) (pe_mk D_Gluer___init__ (hr.mono (by decide)) (by rfl) (pa_cons (pv 2) pa_nil)))
      (pss_cons (ps_set (i := 4) sc__law_right.nd rfl (Or.inl rfl) (pe_mk D_Gluer___init__ (hr.mono (by decide)) (by rfl) (pa_cons (pv 2) pa_nil)))
      (pss_cons (ps_expr (pe_methW (pv 2) T.k_Rule D_Rule_change (hr.mono (by decide)) pass0 (pk_cons pe_int (pk_cons pe_bl pk_nil))))
      (pss_cons (ps_set (i := 5) sc__law_right.nd rfl (Or.inl rfl) (pe_lst pa_nil))
      (pss_cons (ps_set (i := 6) sc__law_right.nd rfl (Or.inl rfl) pe_int)
      (pss_cons (ps_for PassesOwn.never rfl (pi_range1 (by rfl) T.n_range (pa_cons (pe_callB call_len_seq (by rfl) T.n_len PySem.boot_len (pa_cons (pv 1) pa_nil)) pa_nil)) (pg_name (i := 7) sc__law_right.nd rfl (Or.inl rfl))
      (pss_cons (ps_set (i := 8) sc__law_right.nd rfl (Or.inl rfl) (pe_ix ix_list (pv 1) (pv 7) (fun _ _ => rfl)))
      (pss_cons (ps_setLc (i := 9) (own := [("some_tag", 11), ("some", 12)]) (g := gTup K 2 (gCons (gName 11) (gCons (gName 12) gNil))) rfl sc__law_right.nd rfl rfl (sw_true rfl rfl rfl (by decide +kernel)) (pi_list (pe_df D__law_fed (hr.mono (by decide)) (by rfl) (pa_cons (pv 0) (pa_cons (pv 5) (pa_cons (pv 8) (pa_cons pe_non (pa_cons (pv 8) pa_nil))))))) (blkOk_by (own := [("some_tag", 11), ("some", 12)]) (N := ["rule", "lines", "kept", "gluer", "other", "held", "given", "turn", "line", "due", "told", "some_tag", "some"]) (sc := defScope s__law_right) (by decide +kernel)) (fun _ _ _ _ _ => pg_tup rfl (pgs_cons (pg_name (i := 11) sc__law_right.nd rfl (Or.inl rfl)) (pgs_cons (pg_name (i := 12) sc__law_right.nd rfl (Or.inl rfl)) pgs_nil))) (fun _ _ _ _ _ => pts_nil) (fun _ _ _ _ _ => (pe_tup (pa_cons (pv 11) (pa_cons (pe_callTy (call_list_ofK K rfl) (by rfl) T.n_list (by decide +kernel) (pa_cons (pv 12) pa_nil)) pa_nil)))))
      (pss_cons (ps_set (i := 10) sc__law_right.nd rfl (Or.inl rfl) (pe_clD D_Gluer___call__ (hr.mono (by decide)) (pv 3) (pa_cons (pv 8) pa_nil)))
      (pss_cons (ps_if (pt_cmpR op_eq (pe_op op_mod (pv 7) pe_int) pe_int (nomark _))
      (pss_cons (ps_set (i := 10) sc__law_right.nd rfl (Or.inl rfl) (pe_op op_cat (pv 10) (pe_lst pa_nil)))
      (pss_one (ps_expr (pe_cl D_Gluer___call__ (hr.mono (by decide)) (pv 4) (pa_cons (pv 8) (pa_cons (pv 7) pa_nil))))))
      pss_nil)
      (pss_cons (ps_if (PW.pt (pw_or (pt_not (pt_val (pe_callB call_isi (by rfl) T.n_isinstance (by decide +kernel) (pa_cons (pv 10) (pa_cons (pe_bltn (v := .ty "list") (by rfl) T.n_list (by decide +kernel) rfl) pa_nil))))) (pw_or1 (pt_cmpR (op_neD hr.units) (pv 10) (pv 9) (nomark _)))))
      (pss_one (ps_ret pe_bl))
      pss_nil)
      (pss_cons (ps_for PassesOwn.never rfl (pi_list (pv 10)) (pg_tup rfl (pgs_cons (pg_name (i := 11) sc__law_right.nd rfl (Or.inl rfl)) (pgs_cons (pg_name (i := 12) sc__law_right.nd rfl (Or.inl rfl)) pgs_nil)))
      (pss_one (ps_expr (pe_bm PySem.F.plainAttrs_list PySem.F.slot_list_append PySem.F.type_list_append mt_append (pv 12) (pa_cons pe_str pa_nil)))))
      (pss_cons (ps_set (i := 6) sc__law_right.nd rfl (Or.inl rfl) (pe_op op_add (pv 6) (pe_callB call_len_seq (by rfl) T.n_len PySem.boot_len (pa_cons (pv 9) pa_nil))))
      (pss_one (ps_if (pt_not (pt_val (pe_df D__law_told (hr.mono (by decide)) (by rfl) (pa_cons (pv 3) (pa_cons (pv 5) (pa_cons (pv 6) pa_nil))))))
      (pss_one (ps_ret pe_bl))
      pss_nil))))))))))
      (pss_one (ps_ret pe_bl))))))))), ?_⟩
    have gR := gD.good
    -- the rule
    refine ⟨_, rfl, a, D, rfl, hRl, gD, fun r H1 hr0 e1 hRA => ?_⟩
    have hIn := hRA.hid
    have e01 : Ex H (hide r H1) := fun b o hb => by
      rw [hide_ne (ne_of_none hb hr0)]
      exact e1 _ _ hb
    have g1r : hide r H1 r = none := hide_at
    have g1 : Ex (hide r H1) H1 := hide_le
    obtain ⟨drx, rb, re, rus, rws, hr1, _, _, _, _⟩ := id hRA
    generalize hide r H1 = G1 at hIn e01 g1r g1
    -- a gluer of it
    refine ⟨_, rfl, fun x dx hx hdx nxd => ?_⟩
    obtain ⟨H2, hH2⟩ : ∃ H2, H2 = upd (upd H1 dx (.own x)) x (.ins C_Gluer dx []) := ⟨_, rfl⟩
    rw [← hH2]
    have e2 : Ex H1 (hide x H2) := fun b o hb => by
      rw [hide_ne (ne_of_none hb hx), hH2, upd_ne (ne_of_none hb hx), upd_ne (ne_of_none hb hdx)]
      exact hb
    refine ⟨x, r, dx, D.rul, G1, rfl, by rw [hH2, upd_same], g1.trans (e2.trans hide_le), fresh_back g1 hx, hIn.same (e2.trans hide_le), gR, fun G3 H3 k d S3 hd0 hk0 L3 => ⟨rfl, ?_⟩⟩
    have e13 : Ex H1 H3 := fun b o hb => S3.fr b o (hide_le _ _ (e2 _ _ hb)) (by simpa using ne_of_none hb hx)
    have g3r : G3 r = none := S3.nw r g1r (by rw [hide_le _ _ (e2 _ _ hr1)]; exact fun z => by cases z)
    -- another
    refine ⟨_, rfl, fun x2 dx2 hx2 hdx2 nxd2 => ?_⟩
    obtain ⟨H4, hH4⟩ : ∃ H4, H4 = upd (upd H3 dx2 (.own x2)) x2 (.ins C_Gluer dx2 []) := ⟨_, rfl⟩
    rw [← hH4]
    have e4 : Ex H3 (hide x2 H4) := fun b o hb => by
      rw [hide_ne (ne_of_none hb hx2), hH4, upd_ne (ne_of_none hb hx2), upd_ne (ne_of_none hb hdx2)]
      exact hb
    have L4 := L3.same (e4.trans hide_le)
    obtain ⟨gx3, hx3⟩ := L3.at_
    have nx : x ≠ x2 := ne_of_none hx3 hx2
    have ndx : d ≠ x2 := ne_of_none L3.ks.at_ hx2
    refine ⟨x2, r, dx2, D.rul, G3, rfl, by rw [hH4, upd_same], S3.le.trans (e4.trans hide_le), fresh_back S3.le hx2, (hIn.up S3.ex).same (e13.trans (e4.trans hide_le)), gR, fun G5 H5 k2 d2 S5 hd20 hk20 L5 => ⟨rfl, ?_⟩⟩
    have L45 := L4.step S5 (by simpa using nx) (by simpa using ndx) (fun t ht => by cases ht)
    have nd2 : d ≠ d2 := fun z => by
      have := hide_le _ _ (e4 _ _ L3.ks.at_)
      rw [z, hd20] at this
      cases this
    have h5r : H5 r = some (.ins C_Rule drx (ruleF rb re D.rul.most D.rul.alone D.rul.tags D.rul.quiet)) := S5.fr _ _ (hide_le _ _ (e4 _ _ (e13 _ _ hr1))) (by simpa using ne_of_none (e13 _ _ hr1) hx2)
    have g5r : G5 r = none := S5.nw r g3r (by rw [hide_le _ _ (e4 _ _ (e13 _ _ hr1))]; exact fun z => by cases z)
    have g05 : Ex H G5 := e01.trans (S3.ex.trans S5.ex)
    -- the rule changed
    refine ⟨_, rfl, r, drx, _, rfl, h5r, ruleF_no (by decide +kernel) (by decide +kernel) (by decide +kernel) (by decide +kernel) (by decide +kernel) (by decide +kernel), rfl, ksC_nd, rfl, ksC_le, rfl, fun dd hdd => ⟨r, dd, drx, rb, re, _, _, _, _, rfl, by rw [upd_ne (ne_of_none h5r hdd)]; exact h5r, upd_same, fun H6 e6 hr6 => ?_⟩⟩
    have e56 : ∀ b o, H5 b = some o → b ≠ r → H6 b = some o := fun b o hb nb => e6 _ _ (by rw [hide_ne nb, upd_ne (ne_of_none hb hdd)]; exact hb)
    have S6 : Stp [r] G5 H5 G5 H6 := ⟨Ex.refl _, fun b o hb => e56 b o (S5.le _ _ hb) (fun z => by rw [z, g5r] at hb; cases hb), fun _ h _ => h, fun b o hb nb => e56 b o hb (by simpa using nb), fun b hb => by
      by_cases z : b = r
      · rw [z]
        exact hr6
      · cases q : H5 b with
        | none => exact absurd q hb
        | some o =>
          rw [e56 b o q z]
          exact fun y => by cases y⟩
    have r2 : H2 r = some (.ins C_Rule drx (ruleF rb re D.rul.most D.rul.alone D.rul.tags D.rul.quiet)) := hide_le _ _ (e2 _ _ hr1)
    have r4 : H4 r = some (.ins C_Rule drx (ruleF rb re D.rul.most D.rul.alone D.rul.tags D.rul.quiet)) := hide_le _ _ (e4 _ _ (e13 _ _ hr1))
    have La := L45.step S6 (by simpa using Ne.symm (ne_of_none hr1 hx)) (by simpa using Ne.symm (ne_of_none r2 hd0)) (fun t ht => by cases ht)
    have Lb := L5.step S6 (by simpa using Ne.symm (ne_of_none (e13 _ _ hr1) hx2)) (by simpa using Ne.symm (ne_of_none r4 hd20)) (fun t ht => by cases ht)
    have g56 := S6.le
    clear S6 L45 L5 L4 L3 S5 S3 hIn
    refine q_asgL (el_lst ea_nil (Nat.zero_le _)) fun hl H7 hhl e7 h7 => ?_
    refine q_asg ev_c fun H8 e8 => ?_
    have W8 : Twin P w C_Gluer C_Keeper C_Rule C_Form C_Both C_Either H G5 H8 x k d hl D.rul 0 [] [] [] x2 k2 d2 0 [] := ⟨⟨g05, g56.trans (e7.trans e8), (La.same e7).same e8, fresh_back g56 hhl, e8 _ _ h7, .nil, by simp⟩, (Lb.same e7).same e8, nx, nd2, by simp, by simp⟩
    clear La Lb
    have lz : (zs.map V.str).length ≤ 62 := by rw [List.length_map]; exact hn
    refine q_forR1 (n := ((zs.map V.str).length : Int)) (ea_cons (ev_lenL (ev_var rfl) (sq_of (W8.T.gh _ _ (W8.T.g0 _ _ hrl)))) ea_nil) (by omega)
      (fun i σ' H' => ∃ (y7 y8 y9 y10 y11 y12 : Option V) (G : Hp) (n n2 : Int) (ts ts2 : List Hot) (hs : List V), σ' = [some (.ref a), some (.ref rl), some (.ref r), some (.ref x), some (.ref x2), some (.ref hl), some (.int n), y7, y8, y9, y10, y11, y12] ∧ Twin P w C_Gluer C_Keeper C_Rule C_Form C_Both C_Either H G H' x k d hl D.rul n ts hs (ts.map rowOf) x2 k2 d2 n2 ts2 ∧ ts.length ≤ i ∧ (∀ t ∈ ts, t.2.2.length ≤ i) ∧ (∀ r ∈ ts.map rowOf, okRow r) ∧ ts2.length ≤ i ∧ ∀ t ∈ ts2, t.2.2.length ≤ i)
      (fun H9 e9 => ⟨_, _, _, _, _, _, G5, 0, 0, [], [], [], rfl, W8.same e9, Nat.zero_le _, (fun t h => by cases h), (fun r h => by cases h), Nat.zero_le _, fun t h => by cases h⟩) ?_ ?_
    · rintro i σ' H6 hi ⟨y7, y8, y9, y10, y11, y12, G6, n, n2, ts, ts2, hs, rfl, W6, hl6, hB6, hok6, hl62, hB62⟩
      have hi : i < 62 := by omega
      have hiz : i < zs.length := by
        rw [List.length_map] at *
        omega
      obtain ⟨z, hzi⟩ : ∃ z, zs[i]? = some z := ⟨zs[i], List.getElem?_eq_getElem hiz⟩
      have hz : Zs z := hzs z (List.mem_of_getElem? hzi)
      have hzl := hz.2
      have nk : ((ts.map rowOf).map (·.1)).Nodup := by
        rw [List.map_map]
        exact W6.T.L.ks.nk
      have hBr : ∀ r ∈ ts.map rowOf, r.2.length ≤ i := fun r hr => by
        obtain ⟨t, ht, rfl⟩ := List.mem_map.mp hr
        exact hB6 t ht
      obtain ⟨Wd, hWd⟩ : ∃ Wd, Wd = fedM D.rul z none (.str z) (ts.map rowOf) := ⟨_, rfl⟩
      have okW := okRow_fed (R := D.rul) (z := z) (tag := none) (x := .str z) hok6 rfl (lny_ok hz.1)
      have bdW := fedM_bd (R := D.rul) (z := z) (tag := none) (x := .str z) hBr
      rw [← hWd] at okW bdW
      rw [List.length_map] at bdW
      have hzv : (zs.map V.str)[i]? = some (.str z) := by rw [List.getElem?_map, hzi]; rfl
      refine q_asg (ev_op (ev_var rfl) (ev_var rfl) (rv_ixL (sq_of (W6.T.gh _ _ (W6.T.g0 _ _ hrl))) (atI_nat hzv))) fun Ha ea => ?_
      have Wa := W6.same ea
      refine q_due (ea_cons (ev_var rfl) (ea_cons (ev_var rfl) (ea_cons (ev_var rfl) (ea_cons ev_c (ea_cons (ev_var rfl) ea_nil))))) (fun _ _ => rfl) (fun _ _ => rfl) (fun _ _ => rfl) fun Hb eb Q' q' => ?_
      have Wb := Wa.same eb
      refine ⟨a, hl, D, G6, hs, ts.map rowOf, z, none, .str z, rfl, Wb.T.gh, hRl.ex Wb.T.g0, gD, hz, Wb.T.fr, Wb.T.at_, Wb.T.rs, nk, hok6, rfl, lny_ok hz.1, by rw [List.length_map]; omega, fun r hr => by have := hBr r hr; omega, fun G7 H7 gl us7 hs7 I7 => ?_⟩
      rw [← hWd] at I7
      refine q' gl us7 Wd.1 H7 I7.hg (I7.rg.ex upRow I7.S.le) (by omega) (fun r hr => by have := bdW.2 r (List.mem_append_left _ hr); omega) fun Dl H8 ds hDl e8 h8 rN => ?_
      have W7 := (Wb.fed I7).stepM (Stp.frz I7.S.le e8) (fun b hb => by cases hb)
      have gdl : addN G7 H7 H8 [] Dl = some (.lst ds) := by rw [addN_new hDl I7.S.le (by simp)]; exact h8
      have rdue := rows_frz I7.S.le rN
      generalize addN G7 H7 H8 [] = G8 at W7 gdl rdue
      obtain ⟨gx8, hg8⟩ := W7.T.L.at_
      refine ⟨_, rfl, x, rfl, _, rfl, .inr ⟨gx8, _, hg8⟩, x, k, d, D.rul, G8, n, ts, z, none, rfl, W7.T.gh, W7.T.L, gR, by omega, by omega, fun t ht => by have := hB6 t ht; omega, fun G9 H9 gv us9 gs ts' O9 hrow9 => ?_⟩
      have W9 := W7.call O9
      have I9 := W7.tell O9
      rw [← hWd] at hrow9
      have w1 : gs.map rowOf = Wd.1 := congrArg Prod.fst hrow9
      have w2 : ts'.map rowOf = Wd.2 := congrArg Prod.snd hrow9
      have e89 := O9.S.ex
      have lgs : gs.length = Wd.1.length := by rw [← w1, List.length_map]
      have lts : ts'.length = Wd.2.length := by rw [← w2, List.length_map]
      have lus := I9.rs.len
      clear O9 I7 rN
      refine q_whenM (M := fun σ' H' => ∃ (tl : Addr) (G : Hp) (n2 : Int) (ts2 : List Hot), σ' = [some (.ref a), some (.ref rl), some (.ref r), some (.ref x), some (.ref x2), some (.ref hl), some (.int n), some (.int (i : Int)), some (.str z), some (.ref Dl), some (.ref tl), y11, y12] ∧ Ex G9 G ∧ Twin P w C_Gluer C_Keeper C_Rule C_Form C_Both C_Either H G H' x k d hl D.rul (n + gs.length) ts' hs7 Wd.2 x2 k2 d2 n2 ts2 ∧ TellI G H' tl us9 gs ts' ts2 hl ∧ ts2.length ≤ i + 1 ∧ ∀ t ∈ ts2, t.2.2.length ≤ i + 1)
        (b := decide ((i : Int) % 3 = 1)) (et_test (ev_op (ev_op (ev_var rfl) ev_c (rv_mod (by decide))) ev_c rv_eqI)) (fun _ H10 e10 N hN => ?_) (fun _ H10 e10 => ⟨gv, G9, n2, ts2, rfl, Ex.refl _, W9.same e10, I9.same e10, by omega, fun t ht => by have := hB62 t ht; omega⟩) ?_
      · refine q_asgL (el_catN (ev_var rfl) (e10 _ _ I9.at_) (by omega)) fun tn H11 htn e11 h11 => ?_
        have I11 := (I9.same e10).told (W9.same e10).L2 htn e11 h11
        have W11 := (W9.same e10).same e11
        obtain ⟨gx11, hg11⟩ := W11.L2.at_
        refine ⟨_, rfl, x2, rfl, _, rfl, _, rfl, .inr ⟨gx11, _, hg11⟩, x2, k2, d2, D.rul, G9, n2, ts2, z, some (.inl (i : Int)), rfl, W11.T.gh, W11.L2, gR, by omega, by omega, fun t ht => by have := hB62 t ht; omega, fun G12 H12 gv2 us12 gs2 ts2' O12 hrow12 => hN _ _ ⟨tn, G12, _, ts2', rfl, O12.S.ex, W11.call2 O12, I11.call2 W11.L2 O12, ?_, fun t ht => ?_⟩⟩
        · have b2 := fedM_bd (R := D.rul) (z := z) (tag := some (.inl (i : Int))) (x := .str z) (st := ts2.map rowOf) (B := i) fun r hr => by
            obtain ⟨t, ht, rfl⟩ := List.mem_map.mp hr
            exact hB62 t ht
          rw [← hrow12] at b2
          have := b2.1
          simp only [List.length_map] at this
          omega
        · have b2 := fedM_bd (R := D.rul) (z := z) (tag := some (.inl (i : Int))) (x := .str z) (st := ts2.map rowOf) (B := i) fun r hr => by
            obtain ⟨t, ht, rfl⟩ := List.mem_map.mp hr
            exact hB62 t ht
          rw [← hrow12] at b2
          exact b2.2 (rowOf t) (List.mem_append_right _ (List.mem_map_of_mem ht))
      · rintro σ' H13 ⟨tl, G13, n23, ts23, rfl, e913, W13, I13, hl13, hB13⟩
        have rtold : Rs RowR H13 us9 Wd.1 := by rw [← w1]; exact I13.rows W13.T.gh
        have gdue := (e89.trans e913) _ _ gdl
        have rdue2 := rdue.ex upRow ((e89.trans e913).trans W13.T.gh)
        have ok1 : ∀ r ∈ Wd.1, okRow r := fun r hr => okW r (List.mem_append_left _ hr)
        have ok2 : ∀ r ∈ ts'.map rowOf, okRow r := fun r hr => okW r (List.mem_append_right _ (by rw [← w2]; exact hr))
        have lds := rdue.len
        refine q_when (b := false) (et_is (et_or (a := false) (et_is (et_not (et_B (ev_isi (b := true) (ev_var rfl) (.base (.lst I13.at_)) (by decide +kernel)))) rfl) fun _ => et_test (ev_op (ev_var rfl) (ev_var rfl) (rv_neRows (sq_of I13.at_) rtold (sq_of (W13.T.gh _ _ gdue)) rdue2 ok1))) (by simp)) (fun y => by cases y) (fun _ H14 e14 => ?_)
        have W14 := W13.same e14
        have I14 := I13.same e14
        refine q_spoil I14.at_ (I14.rs.ex upTH W14.T.gh) (fun t ht => ⟨_, (I14.ho t ht).2, ?_⟩) I14.nt (by omega) ⟨y11, y12, rfl⟩ (fun _ _ => rfl) (fun _ _ _ _ => rfl) (fun _ _ => rfl) fun σ' H15 hσ fr th => ?_
        · have hm : rowOf t ∈ Wd.1 := by
            rw [← w1]
            exact List.mem_map_of_mem ht
          have := bdW.2 _ (List.mem_append_left _ hm)
          have e3 : (rowOf t).2 = t.2.2 := rfl
          rw [e3] at this
          omega
        obtain ⟨ya, yb, rfl⟩ := hσ
        have W15 := W14.spoil I14 fr th
        have ld : (n + (ds.length : Int)) = n + (gs.length : Int) := by omega
        refine q_asg (ev_is (ev_op (ev_var rfl) (ev_lenL (ev_var rfl) (sq_of (W15.T.gh _ _ gdue))) rv_add) (congrArg V.int ld)) fun H16 e16 => ?_
        have W16 := W15.same e16
        rw [← w2] at W16
        have bt : ∀ t ∈ ts', t.2.2.length ≤ i + 1 := fun t ht => bdW.2 (rowOf t) (List.mem_append_right _ (by rw [← w2]; exact List.mem_map_of_mem ht))
        exact s_when (b := false) (et_is (et_not (et_B (ev_call (z := .bl true) (ea_cons (ev_var rfl) (ea_cons (ev_var rfl) (ea_cons (ev_var rfl) ea_nil))) fun H17 e17 Q' q' E' => ⟨x, k, d, hl, D.rul, H, G13, _, ts', hs7, rfl, W16.T.same e17, ok2, by omega, (fun t ht => by have := bt t ht; omega), fun H18 e18 => q' H18 e18⟩))) rfl) (fun y => by cases y) (fun _ H17 e17 => ⟨_, _, _, _, _, _, G13, n + gs.length, n23, ts', ts23, hs7, rfl, W16.same e17, by omega, bt, ok2, hl13, hB13⟩)
    · rintro σ' H6 ⟨y7, y8, y9, y10, y11, y12, G6, n, n2, ts, ts2, hs, rfl, W6, _⟩
      exact s_ret ev_c fun H7 e7 => q H7 ((W6.T.g0.trans W6.T.gh).trans e7)

/-! ### _law_second -/
theorem ite_no {p q : Prop} (h : q) : if (false : Bool) = true then p else q := h
theorem fedM_plain {R : Rul} {z : Str} {tag : Option Key} {x : V} {st : List Row} (h : R.tags = none) : fedM R z tag x st = fedM R z none x st := by
  have e : tagM R tag = tagM R none := by
    unfold tagM
    rw [h]
    rfl
  unfold fedM
  rw [e]
def spSecond28 (K : PySem.W.Frag) : Sp := fun vs H Q _ => ∃ (a rl : Addr) (D : LRul) (zs : List Str), vs = [.ref a, .ref rl] ∧ RlR H a D ∧ GoodL D ∧ D.lim = none ∧ H rl = some (.lst (zs.map V.str)) ∧ (∀ z ∈ zs, Zs z) ∧ zs.length ≤ 62 ∧ RetV (.bl true) H Q
theorem ok__law_second {f : Addr} {fd : FuncData} (F : Fun K "_law_second" "_law_second" s__law_second f fd) (T : Txt K mg a_FIELDS a_OPEN_PARTS C_Both C_Either C_Form C_Gluer C_Keeper C_Rule) (D__law_ruled : Df P w K mg base "_law_ruled" ["rule"] 10 (spLRuled C_Rule C_Form C_Both C_Either K)) (D__law_fed : Df P w K mg base "_law_fed" ["rule", "held", "line", "some_tag", "thing"] 6 (spFed K))
    (D_Gluer___init__ : DfI P w K mg base "Gluer" C_Gluer ["self", "rule"] 7 (spGlI P w C_Gluer C_Keeper C_Rule C_Form C_Both C_Either)) (D_Gluer___call__K : DfClK P w K mg base C_Gluer ["self", "line", "tag"] 2 ["tag"] 8 (spGCall P w C_Gluer C_Keeper C_Rule C_Form C_Both C_Either))
    (D_Gluer_waiting : DfM P w K mg base C_Gluer "waiting" ["self"] 2 (spGWait P w C_Gluer C_Keeper C_Rule C_Form C_Both C_Either)) :
    FnOk P w K mg base CX0 12 f fd ["rule", "lines"] (spSecond28 K) := by
  refine F.ok sc__law_second (fun vs H Q E h => ?_) (fun cdv A outer s0 H vs Q E hr h => ?_)
  · obtain ⟨a, rl, D, zs, rfl, _⟩ := h
    rfl
  · obtain ⟨a, rl, D, zs, rfl, hRl, gD, hlim, hrl, hzs, hn, q⟩ := h
    refine ⟨_, (pss_cons (ps_set (i := 2) sc__law_second.nd rfl (Or.inl rfl) (pe_mk D_Gluer___init__ (hr.mono (by decide)) (by rfl) (pa_cons (pe_df D__law_ruled (hr.mono (by decide)) (by rfl) (pa_cons (pv 0) pa_nil)) pa_nil)))
      (pss_cons (ps_set (i := 3) sc__law_second.nd rfl (Or.inl rfl) (pe_lst pa_nil))
      (pss_cons (ps_for PassesOwn.never rfl (pi_range1 (by rfl) T.n_range (pa_cons (pe_callB call_len_seq (by rfl) T.n_len PySem.boot_len (pa_cons (pv 1) pa_nil)) pa_nil)) (pg_name (i := 4) sc__law_second.nd rfl (Or.inl rfl))
      (pss_cons (ps_set (i := 5) sc__law_second.nd rfl (Or.inl rfl) (pe_df D__law_fed (hr.mono (by decide)) (by rfl) (pa_cons (pv 0) (pa_cons (pv 3) (pa_cons (pe_ix ix_list (pv 1) (pv 4) (fun _ _ => rfl)) (pa_cons pe_non (pa_cons (pe_ix ix_list (pv 1) (pv 4) (fun _ _ => rfl)) pa_nil)))))))
      (pss_one (ps_if (pt_cmpR (op_neD hr.units) (pe_clK D_Gluer___call__K (hr.mono (by decide)) (pv 2) (pa_cons (pe_ix ix_list (pv 1) (pv 4) (fun _ _ => rfl)) pa_nil) (pk_cons (pe_op op_mod (pv 4) pe_int) pk_nil)) (pv 5) (nomark _))
      (pss_one (ps_ret pe_bl))
      pss_nil))))
      (pss_one (ps_ret (pe_cmpR (op_eqD hr.units) (pe_mth0 T.k_Gluer D_Gluer_waiting (hr.mono (by decide)) (pv 2)) (pv 3) (nomark _))))))), ?_⟩
    have gR := gD.good
    refine ⟨_, rfl, a, D, rfl, hRl, gD, fun r H1 hr0 e1 hRA x dx hx hdx nxd => ?_⟩
    obtain ⟨H2, hH2⟩ : ∃ H2, H2 = upd (upd H1 dx (.own x)) x (.ins C_Gluer dx []) := ⟨_, rfl⟩
    rw [← hH2]
    have e2 : Ex H1 (hide x H2) := fun b o hb => by
      rw [hide_ne (ne_of_none hb hx), hH2, upd_ne (ne_of_none hb hx), upd_ne (ne_of_none hb hdx)]
      exact hb
    have hIn : RuleIn C_Rule C_Form C_Both C_Either H1 H1 r D.rul := hRA
    refine ⟨x, r, dx, D.rul, H1, rfl, by rw [hH2, upd_same], e2.trans hide_le, hx, hIn.same (e2.trans hide_le), gR, fun G3 H3 k d S3 hd0 hk0 L3 => ⟨rfl, ?_⟩⟩
    have g03 : Ex H G3 := e1.trans S3.ex
    refine q_asgL (el_lst ea_nil (Nat.zero_le _)) fun hl H5 hhl e5 h5 => ?_
    have T5 : Duo P w C_Gluer C_Keeper C_Rule C_Form C_Both C_Either H G3 H5 x k d hl D.rul 0 [] [] [] := ⟨g03, S3.le.trans e5, L3.same e5, fresh_back S3.le hhl, h5, .nil, by simp⟩
    have lz : (zs.map V.str).length ≤ 62 := by rw [List.length_map]; exact hn
    refine q_forR1 (n := ((zs.map V.str).length : Int)) (ea_cons (ev_lenL (ev_var rfl) (sq_of (T5.gh _ _ (T5.g0 _ _ hrl)))) ea_nil) (by omega)
      (fun i σ' H' => ∃ (y4 y5 : Option V) (G : Hp) (n : Int) (ts : List Hot) (hs : List V), σ' = [some (.ref a), some (.ref rl), some (.ref x), some (.ref hl), y4, y5] ∧ Duo P w C_Gluer C_Keeper C_Rule C_Form C_Both C_Either H G H' x k d hl D.rul n ts hs (ts.map rowOf) ∧ ts.length ≤ i ∧ (∀ t ∈ ts, t.2.2.length ≤ i) ∧ (∀ r ∈ ts.map rowOf, okRow r))
      (fun H6 e6 => ⟨none, none, G3, 0, [], [], rfl, T5.same e6, Nat.zero_le _, (fun t h => by cases h), fun r h => by cases h⟩) ?_ ?_
    · rintro i σ' H6 hi ⟨y4, y5, G6, n, ts, hs, rfl, T6, hl6, hB6, hok6⟩
      have hi : i < 62 := by omega
      have hiz : i < zs.length := by
        rw [List.length_map] at *
        omega
      obtain ⟨z, hzi⟩ : ∃ z, zs[i]? = some z := ⟨zs[i], List.getElem?_eq_getElem hiz⟩
      have hz : Zs z := hzs z (List.mem_of_getElem? hzi)
      have hzl := hz.2
      have nk : ((ts.map rowOf).map (·.1)).Nodup := by
        rw [List.map_map]
        exact T6.L.ks.nk
      have hBr : ∀ r ∈ ts.map rowOf, r.2.length ≤ i := fun r hr => by
        obtain ⟨t, ht, rfl⟩ := List.mem_map.mp hr
        exact hB6 t ht
      obtain ⟨Wd, hWd⟩ : ∃ Wd, Wd = fedM D.rul z none (.str z) (ts.map rowOf) := ⟨_, rfl⟩
      have okW := okRow_fed (R := D.rul) (z := z) (tag := none) (x := .str z) hok6 rfl (lny_ok hz.1)
      have bdW := fedM_bd (R := D.rul) (z := z) (tag := none) (x := .str z) hBr
      rw [← hWd] at okW bdW
      rw [List.length_map] at bdW
      have hzv : (zs.map V.str)[i]? = some (.str z) := by rw [List.getElem?_map, hzi]; rfl
      have ix : ∀ {σ : L2.St} {H1 : Hp}, Ex H H1 → σ[1]? = some (some (.ref rl)) → σ[4]? = some (some (.int (i : Int))) → Ev (tOp (rIxL K) (tVar 1) (tVar 4)) σ H1 (.str z) := fun e1 h1 h4 => ev_op (ev_var h1) (ev_var h4) (rv_ixL (sq_of (e1 _ _ hrl)) (atI_nat hzv))
      have e06 := T6.g0.trans T6.gh
      have Ta := T6
      have rl6 := sq_of (K := K) (e06 _ _ hrl)
      refine ⟨_, rfl, _, rfl, _, rfl, _, rfl, rl, _, (i : Int), _, rfl, rfl, rl6, atI_nat hzv, _, rfl, _, rfl, rl, _, (i : Int), _, rfl, rfl, rl6, atI_nat hzv, a, hl, D, G6, hs, ts.map rowOf, z, none, .str z, rfl, Ta.gh, hRl.ex Ta.g0, gD, hz, Ta.fr, Ta.at_, Ta.rs, nk, hok6, rfl, lny_ok hz.1, by rw [List.length_map]; omega, fun r hr => by have := hBr r hr; omega, fun G7 H7 gl us7 hs7 I7 => ?_⟩
      rw [← hWd] at I7
      obtain ⟨T7, ngl⟩ := Ta.fed I7
      obtain ⟨gx7, hg7⟩ := T7.L.at_
      have rl7 := sq_of (K := K) (T7.gh _ _ (T7.g0 _ _ hrl))
      refine ⟨_, rfl, x, rfl, _, rfl, _, rfl, rl, _, (i : Int), _, rfl, rfl, rl7, atI_nat hzv, _, rfl, (i : Int), 3, rfl, rfl, (show (0 : Int) < 3 from by decide), rfl, rfl, .inr ⟨gx7, _, hg7⟩, x, k, d, D.rul, G7, n, ts, z, some (.inl ((i : Int) % 3)), rfl, T7.gh, T7.L, gR, by omega, by omega, fun t ht => by have := hB6 t ht; omega, fun G8 H8 gv us8 gs ts' O8 hrow8 => ?_⟩
      have T8 := T7.call O8
      rw [fedM_plain (show D.rul.tags = none from hlim), ← hWd] at hrow8
      have w1 : gs.map rowOf = Wd.1 := congrArg Prod.fst hrow8
      have w2 : ts'.map rowOf = Wd.2 := congrArg Prod.snd hrow8
      have hdue := O8.S.fr _ _ I7.hg ngl
      have rdue : Rs RowR H8 us7 Wd.1 := I7.rg.ex upRow (O8.S.ex.trans O8.S.le)
      have rtold : Rs RowR H8 us8 Wd.1 := by rw [← w1]; exact O8.rows
      have ok1 : ∀ r ∈ Wd.1, okRow r := fun r hr => okW r (List.mem_append_left _ hr)
      have lts : ts'.length = Wd.2.length := by rw [← w2, List.length_map]
      refine ⟨_, rfl, (rv_neRows (sq_of O8.hg) rtold (sq_of hdue) rdue ok1) H8 (Ex.refl _) _ fun H9 e9 => ?_⟩
      refine ⟨false, rfl, ite_no ?_⟩
      have T9 := T8.same e9
      rw [← w2] at T9
      exact ⟨_, _, G8, n + gs.length, ts', hs7, rfl, T9, by omega, fun t ht => bdW.2 (rowOf t) (List.mem_append_right _ (by rw [← w2]; exact List.mem_map_of_mem ht)), fun r hr => okW r (List.mem_append_right _ (by rw [← w2]; exact hr))⟩
    · rintro σ' H6 ⟨y4, y5, G6, n, ts, hs, rfl, T6, hl6, hB6, hok6⟩
      have lts : ts.length ≤ 62 := by omega
      refine s_ret (v := .bl true) (ev_wait (ev_var rfl) T6.gh T6.L (by omega) fun l H1 us1 e1 h1 r1 Q' q' => ⟨_, rfl, ?_⟩) fun H7 e7 => q H7 ((T6.g0.trans T6.gh).trans e7)
      exact (rv_eqRows (rs := ts.map rowOf) (sq_of h1) r1 (sq_of (e1 _ _ T6.at_)) (T6.rs.ex upRow (T6.gh.trans e1)) hok6) H1 (Ex.refl _) Q' fun H2 e2 => q' H2 e2

/-! ### lines drawn, each from a new pool -/
theorem q_asgLines {σ : L2.St} {H : Hp} {D : Ends} {tz : TS} {te : TE} {ta : TA} {m : Int} {i j : Nat} {us : List Nat} (h : EvA ta σ H [.int m]) (hn : 0 ≤ m ∧ m ≤ 40000) (hw : ∀ x, wipe ((wipe σ us).set j (some x)) us = wipe σ us)
    (he : ∀ (i : Nat) (H1 : Hp), (i : Int) < m → Ex H H1 → ∀ Q : VK, (∀ z H2, Zs z → Ex H1 H2 → Q (.str z) H2) → te ((wipe σ us).set j (some (.int (i : Int)))) H1 Q)
    (k : ∀ (l : Addr) (zs : List Str) H', H l = none → Ex H H' → H' l = some (.lst (zs.map V.str)) → (∀ z ∈ zs, Zs z) → (zs.length : Int) = m → tz D (σ.set i (some (.ref l))) H') : tSeq (tAsg (tLc (iRng1 ta) (gName j) tYes te us) (gName i)) tz D σ H :=
  h H (Ex.refl _) _ fun H1 e1 => ⟨m, rfl, by omega, by omega, fun L hL => by
    refine lc_it (walk_range (lo := 0) (n := m.toNat)) (fun i H => ∃ zs : List Str, H L = some (.lst (zs.map V.str)) ∧ Ex H1 (hide L H) ∧ zs.length = i ∧ ∀ z ∈ zs, Zs z) ⟨[], upd_same, ?_, rfl, fun z h => by cases h⟩ (fun _ _ _ _ => trivial) ?_ ?_
    · rw [hide_upd, hide_none hL]
      exact Ex.refl _
    · rintro i x H2 H3 hi ⟨zs, hv, e2, hl, hz⟩ ⟨rfl, rfl⟩
      have ez : (0 : Int) + (i : Int) = (i : Int) := Int.zero_add _
      refine ⟨hw _, tYes_if ?_⟩
      show te ((wipe σ us).set j (some (.int ((0 : Int) + (i : Int))))) H3 _
      rw [ez]
      refine he i H3 (by omega) (e1.trans (e2.trans hide_le)) _ fun z H4 z4 e4 => ⟨_, e4 _ _ hv, sz_lt (by rw [List.length_map]; omega), zs ++ [z], by rw [upd_same, List.map_append]; rfl, ?_, by simp [hl], fun y hy => ?_⟩
      · rw [hide_upd]
        exact e2.trans (ex_hide e4)
      · rcases List.mem_append.mp hy with q | q
        · exact hz y q
        · rw [List.mem_singleton.mp q]
          exact z4
    · rintro H2 ⟨zs, hv, e2, hl, hz⟩
      exact k L zs H2 (fresh_back e1 hL) (e1.trans (e2.trans hide_le)) hv hz (by omega)⟩
/-! ### the law -/
def spLaw (K : PySem.W.Frag) : Sp := fun vs H Q _ => ∃ (a : Addr) (ns : List Int), vs = [.ref a] ∧ SqL K H a (ns.map V.int) ∧ ns.length ≤ 63 ∧ ∀ H', Q (.bl true) H'
theorem ev_lenM {a : Addr} {ns : List Int} {σ : L2.St} {H : Hp} (h0 : σ[0]? = some (some (.ref a))) (hS : SqL K H a (ns.map V.int)) :
    Ev (tCB (fun xs H Q => ∃ i j, xs = [.int i, .int j] ∧ Q (.int (if j > i then j else i)) H) (tCons (tC (.int 3)) (tCons (tCB (fun xs H Q => ∃ i j, xs = [.int i, .int j] ∧ Q (.int (if j < i then j else i)) H) (tCons (tC (.int 62)) (tCons (tOp (rI0 fun i j => .int (i - j)) (tCB (fun xs H Q => ∃ p ys, xs = [.ref p] ∧ (SqL K H p ys ∨ SqT K H p ys) ∧ Q (.int ys.length) H) (tCons (tVar 0) tNil)) (tC (.int 1))) tNil))) tNil)))
      σ H (.int (if (if ((ns.map V.int).length : Int) - 1 < 62 then ((ns.map V.int).length : Int) - 1 else 62) > 3 then (if ((ns.map V.int).length : Int) - 1 < 62 then ((ns.map V.int).length : Int) - 1 else 62) else 3)) :=
  ev_max ev_c (ev_min2 ev_c (ev_op (ev_lenL (ev_var h0) hS) ev_c rv_I0))
theorem ok_law {f : Addr} {fd : FuncData} (F : Fun K "law" "law" s_law f fd) (T : Txt K mg a_FIELDS a_OPEN_PARTS C_Both C_Either C_Form C_Gluer C_Keeper C_Rule) (D__law_pool : Df P w K mg base "_law_pool" ["script", "k"] 1 (spPool K)) (D__law_rule : Df P w K mg base "_law_rule" ["pool"] 5 spLRule) (D__law_row : Df P w K mg base "_law_row" ["pool", "rule"] 5 (spLRow K))
    (D__law_right : Df P w K mg base "_law_right" ["rule", "lines"] 12 (spRight28 K)) (D__law_second : Df P w K mg base "_law_second" ["rule", "lines"] 12 (spSecond28 K)) : FnOk P w K mg base CX0 13 f fd ["script"] (spLaw K) := by
  refine F.ok sc_law (fun vs H Q E h => ?_) (fun cdv A outer s0 H vs Q E hr h => ?_)
  · obtain ⟨a, ns, rfl, _⟩ := h
    rfl
  · obtain ⟨a, ns, rfl, hS, hl, q⟩ := h
    refine ⟨_, (pss_cons (ps_set (i := 1) sc_law.nd rfl (Or.inr rfl) (pe_df D__law_rule (hr.mono (by decide)) (by rfl) (pa_cons (pe_df D__law_pool (hr.mono (by decide)) (by rfl) (pa_cons (pv 0) (pa_cons pe_int pa_nil))) pa_nil)))
      (pss_cons (ps_asg pe_non (pg_sub (pv 1) pe_int set_list))
      (pss_cons (ps_setLc (i := 2) (own := [("k", 3)]) (g := gName 3) rfl sc_law.nd rfl rfl (sw_true rfl rfl rfl (by decide +kernel)) (pi_range1 (by rfl) T.n_range (pa_cons (pe_callB (call_max2 rfl) (by rfl) T.n_max (by decide +kernel) (pa_cons pe_int (pa_cons (pe_callB (call_min2 rfl) (by rfl) T.n_min (by decide +kernel) (pa_cons pe_int (pa_cons (pe_op op_sub (pe_callB call_len_seq (by rfl) T.n_len PySem.boot_len (pa_cons (pv 0) pa_nil)) pe_int) pa_nil))) pa_nil))) pa_nil)) (blkOk_by (own := [("k", 3)]) (N := ["script", "rule", "lines", "k"]) (sc := defScope s_law) (by decide +kernel)) (fun _ _ _ _ _ => pg_name (i := 3) sc_law.nd rfl (Or.inl rfl)) (fun _ _ _ _ _ => pts_nil) (fun _ _ _ _ _ => (pe_df (k := 5) D__law_row (hr.mono (j := 5) (by decide)) (by rfl) (pa_cons (pe_df (k := 1) D__law_pool (hr.mono (j := 1) (by decide)) (by rfl) (pa_cons (pv 0) (pa_cons (pe_op op_add (pv 3) pe_int) pa_nil))) (pa_cons (pv 1) pa_nil)))))
      (pss_one (ps_ret (pe_and (pe_df D__law_right (hr.mono (by decide)) (by rfl) (pa_cons (pv 1) (pa_cons (pv 2) pa_nil))) (pe_one (pe_df D__law_second (hr.mono (by decide)) (by rfl) (pa_cons (pv 1) (pa_cons (pv 2) pa_nil)))))))))), ?_⟩
    refine ⟨_, rfl, a, ns, 0, rfl, hS, hl, by decide, by decide, fun p H1 hp0 e1 h1 => ?_⟩
    refine ⟨p, pool0 ns 0, rfl, h1, pool0_pk ns 0, fun b lb le H2 s2 D0 hb0 e2 hp2 hk2 gD0 _ hb I2 => ?_⟩
    have eH2 : Ex H H2 := fun x o hx => e2 _ _ (by rw [hide_ne (ne_of_none hx hp0)]; exact e1 _ _ hx)
    refine ⟨_, rfl, b, _, 4, 4, rfl, rfl, hb, rfl, ?_⟩
    obtain ⟨D, hD⟩ : ∃ D : LRul, D = { D0 with lim := none } := ⟨_, rfl⟩
    have gD : GoodL D := by
      rw [hD]
      exact ⟨gD0.nb, gD0.ne, gD0.gb, gD0.ge, gD0.cap, fun i h => by cases h⟩
    have hlim : D.lim = none := by rw [hD]
    obtain ⟨H3, hH3⟩ : ∃ H3, H3 = upd H2 b (.lst (rlL lb le D)) := ⟨_, rfl⟩
    have hb1 : H b = none := by
      cases z : H b with
      | none => rfl
      | some o =>
        have := e1 _ _ z
        rw [hb0] at this
        cases this
    have eH3 : Ex H H3 := fun x o hx => by
      rw [hH3, upd_ne (ne_of_none hx hb1)]
      exact eH2 _ _ hx
    have RL : RlR H3 b D := ⟨lb, le, by rw [hH3, upd_same], by
      rw [hD]
      refine RlIn.ex (D := D0) I2 fun x o hx => ?_
      obtain ⟨_, hx⟩ := hide_some hx
      obtain ⟨nb, hx⟩ := hide_some hx
      rw [hH3, upd_ne nb]
      exact hx⟩
    have goal : ∀ {t : TS} {Dd : Ends} {σ : L2.St}, t Dd σ H3 → t Dd σ (upd H2 b (.lst (rlL lb le D))) := fun h => by rw [← hH3]; exact h
    rw [hD] at goal
    refine goal ?_
    clear goal hH3 I2 hb e2 h1 e1 hb0 hp2 hk2 eH2
    refine q_asgLines (ea_cons (ev_lenM rfl (ex_l eH3 hS)) ea_nil) (by rw [List.length_map]; split <;> split <;> omega) (fun _ => rfl) (fun i H7 hi e7 Q' q' => ?_) fun rl zs H7 hrl e7 h7 z7 l7 => ?_
    · have hi2 : (i : Int) < 62 := by
        rw [List.length_map] at hi
        split at hi <;> split at hi <;> omega
      refine ⟨_, rfl, _, rfl, (i : Int), 1, rfl, rfl, a, ns, (i : Int) + 1, rfl, ex_l (eH3.trans e7) hS, hl, by omega, by omega, fun p2 H8 hp2 e8 h8 => ?_⟩
      refine ⟨_, rfl, p2, _, b, D, rfl, h8, pool0_pk ns ((i : Int) + 1), RL.ex fun x o hx => ?_, gD, fun z s' hz hk' H11 e11 g11 => q' z H11 hz fun x o hx => ?_⟩
      · have hx7 := e7 _ _ hx
        rw [hide_ne (ne_of_none hx7 hp2)]
        exact e8 _ _ hx7
      · exact e11 _ _ (by rw [hide_ne (ne_of_none hx hp2)]; exact e8 _ _ hx)
    · have l62 : zs.length ≤ 62 := by
        rw [List.length_map] at l7
        split at l7 <;> split at l7 <;> omega
      refine (ev_andV (a := true) (b := true) (ev_call (ea_cons (ev_var rfl) (ea_cons (ev_var rfl) ea_nil)) fun H8 e8 Q' q' E' => ⟨b, rl, D, zs, rfl, (RL.ex e7).ex e8, gD, e8 _ _ h7, z7, l62, q'⟩) fun _ => ev_call (ea_cons (ev_var rfl) (ea_cons (ev_var rfl) ea_nil)) fun H8 e8 Q' q' E' => ⟨b, rl, D, zs, rfl, (RL.ex e7).ex e8, gD, hlim, e8 _ _ h7, z7, l62, q'⟩) H7 (Ex.refl _) _ fun H8 e8 => q H8

end
theorem all_mk {l : PySem.W.OpenLaw} {w : World} {K : PySem.W.Frag} {h : Heap} {mg : Str → Option Value} {fa : Addr} (X : K.In h) (G : h.Ns mainGlobals mg) (hfa : mg "law" = some (.ref fa))
    {C_Both : Addr}
    {C_Either : Addr}
    {C_Form : Addr}
    {C_Gluer : Addr}
    {C_Keeper : Addr}
    {C_Rule : Addr}
    {f0 : Addr} {od0 an0 : Option Addr} {sl0 : Array (Option Value)} {oc0 kV0 dc0 pm0 cd0 ct0 : Value}
    {f1 : Addr} {od1 an1 : Option Addr} {sl1 : Array (Option Value)} {oc1 kV1 dc1 pm1 cd1 ct1 : Value}
    {f2 : Addr} {od2 an2 : Option Addr} {sl2 : Array (Option Value)} {oc2 kV2 dc2 pm2 cd2 ct2 : Value}
    {f3 : Addr} {od3 an3 : Option Addr} {sl3 : Array (Option Value)} {oc3 kV3 dc3 pm3 cd3 ct3 : Value}
    {f4 : Addr} {od4 an4 : Option Addr} {sl4 : Array (Option Value)} {oc4 kV4 dc4 pm4 cd4 ct4 : Value}
    {f5 : Addr} {od5 an5 : Option Addr} {sl5 : Array (Option Value)} {oc5 kV5 dc5 pm5 cd5 ct5 : Value}
    {f6 : Addr} {od6 an6 : Option Addr} {sl6 : Array (Option Value)} {oc6 kV6 dc6 pm6 cd6 ct6 : Value}
    {f7 : Addr} {od7 an7 : Option Addr} {sl7 : Array (Option Value)} {oc7 kV7 dc7 pm7 cd7 ct7 : Value}
    {f8 : Addr} {od8 an8 : Option Addr} {sl8 : Array (Option Value)} {oc8 kV8 dc8 pm8 cd8 ct8 : Value}
    {f9 : Addr} {od9 an9 : Option Addr} {sl9 : Array (Option Value)} {oc9 kV9 dc9 pm9 cd9 ct9 : Value}
    {f10 : Addr} {od10 an10 : Option Addr} {sl10 : Array (Option Value)} {oc10 kV10 dc10 pm10 cd10 ct10 : Value}
    {f11 : Addr} {od11 an11 : Option Addr} {sl11 : Array (Option Value)} {oc11 kV11 dc11 pm11 cd11 ct11 : Value}
    {f12 : Addr} {od12 an12 : Option Addr} {sl12 : Array (Option Value)} {oc12 kV12 dc12 pm12 cd12 ct12 : Value}
    {f13 : Addr} {od13 an13 : Option Addr} {sl13 : Array (Option Value)} {oc13 kV13 dc13 pm13 cd13 ct13 : Value}
    {f14 : Addr} {od14 an14 : Option Addr} {sl14 : Array (Option Value)} {oc14 kV14 dc14 pm14 cd14 ct14 : Value}
    {f15 : Addr} {od15 an15 : Option Addr} {sl15 : Array (Option Value)} {oc15 kV15 dc15 pm15 cd15 ct15 : Value}
    {f16 : Addr} {od16 an16 : Option Addr} {sl16 : Array (Option Value)} {oc16 kV16 dc16 pm16 cd16 ct16 : Value}
    {f17 : Addr} {od17 an17 : Option Addr} {sl17 : Array (Option Value)} {oc17 kV17 dc17 pm17 cd17 ct17 : Value}
    {f18 : Addr} {od18 an18 : Option Addr} {sl18 : Array (Option Value)} {oc18 kV18 dc18 pm18 cd18 ct18 : Value}
    {f19 : Addr} {od19 an19 : Option Addr} {sl19 : Array (Option Value)} {oc19 kV19 dc19 pm19 cd19 ct19 : Value}
    {f20 : Addr} {od20 an20 : Option Addr} {sl20 : Array (Option Value)} {oc20 kV20 dc20 pm20 cd20 ct20 : Value}
    {f21 : Addr} {od21 an21 : Option Addr} {sl21 : Array (Option Value)} {oc21 kV21 dc21 pm21 cd21 ct21 : Value}
    {f22 : Addr} {od22 an22 : Option Addr} {sl22 : Array (Option Value)} {oc22 kV22 dc22 pm22 cd22 ct22 : Value}
    {f23 : Addr} {od23 an23 : Option Addr} {sl23 : Array (Option Value)} {oc23 kV23 dc23 pm23 cd23 ct23 : Value}
    {f24 : Addr} {od24 an24 : Option Addr} {sl24 : Array (Option Value)} {oc24 kV24 dc24 pm24 cd24 ct24 : Value}
    {f25 : Addr} {od25 an25 : Option Addr} {sl25 : Array (Option Value)} {oc25 kV25 dc25 pm25 cd25 ct25 : Value}
    {f26 : Addr} {od26 an26 : Option Addr} {sl26 : Array (Option Value)} {oc26 kV26 dc26 pm26 cd26 ct26 : Value}
    {f27 : Addr} {od27 an27 : Option Addr} {sl27 : Array (Option Value)} {oc27 kV27 dc27 pm27 cd27 ct27 : Value}
    {f28 : Addr} {od28 an28 : Option Addr} {sl28 : Array (Option Value)} {oc28 kV28 dc28 pm28 cd28 ct28 : Value}
    {f29 : Addr} {od29 an29 : Option Addr} {sl29 : Array (Option Value)} {oc29 kV29 dc29 pm29 cd29 ct29 : Value}
    {f30 : Addr} {od30 an30 : Option Addr} {sl30 : Array (Option Value)} {oc30 kV30 dc30 pm30 cd30 ct30 : Value}
    {f31 : Addr} {od31 an31 : Option Addr} {sl31 : Array (Option Value)} {oc31 kV31 dc31 pm31 cd31 ct31 : Value}
    {f32 : Addr} {od32 an32 : Option Addr} {sl32 : Array (Option Value)} {oc32 kV32 dc32 pm32 cd32 ct32 : Value}
    {f33 : Addr} {od33 an33 : Option Addr} {sl33 : Array (Option Value)} {oc33 kV33 dc33 pm33 cd33 ct33 : Value}
    {f34 : Addr} {od34 an34 : Option Addr} {sl34 : Array (Option Value)} {oc34 kV34 dc34 pm34 cd34 ct34 : Value}
    {f35 : Addr} {od35 an35 : Option Addr} {sl35 : Array (Option Value)} {oc35 kV35 dc35 pm35 cd35 ct35 : Value}
    {f36 : Addr} {od36 an36 : Option Addr} {sl36 : Array (Option Value)} {oc36 kV36 dc36 pm36 cd36 ct36 : Value}
    {f37 : Addr} {od37 an37 : Option Addr} {sl37 : Array (Option Value)} {oc37 kV37 dc37 pm37 cd37 ct37 : Value}
    {f38 : Addr} {od38 an38 : Option Addr} {sl38 : Array (Option Value)} {oc38 kV38 dc38 pm38 cd38 ct38 : Value}
    {f39 : Addr} {od39 an39 : Option Addr} {sl39 : Array (Option Value)} {oc39 kV39 dc39 pm39 cd39 ct39 : Value}
    {f40 : Addr} {od40 an40 : Option Addr} {sl40 : Array (Option Value)} {oc40 kV40 dc40 pm40 cd40 ct40 : Value}
    {f41 : Addr} {od41 an41 : Option Addr} {sl41 : Array (Option Value)} {oc41 kV41 dc41 pm41 cd41 ct41 : Value}
    {f42 : Addr} {od42 an42 : Option Addr} {sl42 : Array (Option Value)} {oc42 kV42 dc42 pm42 cd42 ct42 : Value}
    {p42 : Addr} {rs42 : List Value}
    {f43 : Addr} {od43 an43 : Option Addr} {sl43 : Array (Option Value)} {oc43 kV43 dc43 pm43 cd43 ct43 : Value}
    {p43 : Addr} {rs43 : List Value}
    {f44 : Addr} {od44 an44 : Option Addr} {sl44 : Array (Option Value)} {oc44 kV44 dc44 pm44 cd44 ct44 : Value}
    {p44 : Addr} {rs44 : List Value}
    {f45 : Addr} {od45 an45 : Option Addr} {sl45 : Array (Option Value)} {oc45 kV45 dc45 pm45 cd45 ct45 : Value}
    {p45 : Addr} {rs45 : List Value}
    {f46 : Addr} {od46 an46 : Option Addr} {sl46 : Array (Option Value)} {oc46 kV46 dc46 pm46 cd46 ct46 : Value}
    {f47 : Addr} {od47 an47 : Option Addr} {sl47 : Array (Option Value)} {oc47 kV47 dc47 pm47 cd47 ct47 : Value}
    {f48 : Addr} {od48 an48 : Option Addr} {sl48 : Array (Option Value)} {oc48 kV48 dc48 pm48 cd48 ct48 : Value}
    {f49 : Addr} {od49 an49 : Option Addr} {sl49 : Array (Option Value)} {oc49 kV49 dc49 pm49 cd49 ct49 : Value}
    {f50 : Addr} {od50 an50 : Option Addr} {sl50 : Array (Option Value)} {oc50 kV50 dc50 pm50 cd50 ct50 : Value}
    {f51 : Addr} {od51 an51 : Option Addr} {sl51 : Array (Option Value)} {oc51 kV51 dc51 pm51 cd51 ct51 : Value}
    {f52 : Addr} {od52 an52 : Option Addr} {sl52 : Array (Option Value)} {oc52 kV52 dc52 pm52 cd52 ct52 : Value}
    {f53 : Addr} {od53 an53 : Option Addr} {sl53 : Array (Option Value)} {oc53 kV53 dc53 pm53 cd53 ct53 : Value}
    {f54 : Addr} {od54 an54 : Option Addr} {sl54 : Array (Option Value)} {oc54 kV54 dc54 pm54 cd54 ct54 : Value}
    {f55 : Addr} {od55 an55 : Option Addr} {sl55 : Array (Option Value)} {oc55 kV55 dc55 pm55 cd55 ct55 : Value}
    {f56 : Addr} {od56 an56 : Option Addr} {sl56 : Array (Option Value)} {oc56 kV56 dc56 pm56 cd56 ct56 : Value}
    {p56 : Addr} {rs56 : List Value}
    {f57 : Addr} {od57 an57 : Option Addr} {sl57 : Array (Option Value)} {oc57 kV57 dc57 pm57 cd57 ct57 : Value}
    {f58 : Addr} {od58 an58 : Option Addr} {sl58 : Array (Option Value)} {oc58 kV58 dc58 pm58 cd58 ct58 : Value}
    {dT58 : Addr} {dd58 : Option Addr} {dn58 : Nat} {dl58 : Array (Option Value)}
    {f59 : Addr} {od59 an59 : Option Addr} {sl59 : Array (Option Value)} {oc59 kV59 dc59 pm59 cd59 ct59 : Value}
    {f60 : Addr} {od60 an60 : Option Addr} {sl60 : Array (Option Value)} {oc60 kV60 dc60 pm60 cd60 ct60 : Value}
    {f61 : Addr} {od61 an61 : Option Addr} {sl61 : Array (Option Value)} {oc61 kV61 dc61 pm61 cd61 ct61 : Value}
    {f62 : Addr} {od62 an62 : Option Addr} {sl62 : Array (Option Value)} {oc62 kV62 dc62 pm62 cd62 ct62 : Value}
    {f63 : Addr} {od63 an63 : Option Addr} {sl63 : Array (Option Value)} {oc63 kV63 dc63 pm63 cd63 ct63 : Value}
    {f64 : Addr} {od64 an64 : Option Addr} {sl64 : Array (Option Value)} {oc64 kV64 dc64 pm64 cd64 ct64 : Value}
    {f65 : Addr} {od65 an65 : Option Addr} {sl65 : Array (Option Value)} {oc65 kV65 dc65 pm65 cd65 ct65 : Value}
    {f66 : Addr} {od66 an66 : Option Addr} {sl66 : Array (Option Value)} {oc66 kV66 dc66 pm66 cd66 ct66 : Value}
    {f67 : Addr} {od67 an67 : Option Addr} {sl67 : Array (Option Value)} {oc67 kV67 dc67 pm67 cd67 ct67 : Value}
    {f68 : Addr} {od68 an68 : Option Addr} {sl68 : Array (Option Value)} {oc68 kV68 dc68 pm68 cd68 ct68 : Value}
    {f69 : Addr} {od69 an69 : Option Addr} {sl69 : Array (Option Value)} {oc69 kV69 dc69 pm69 cd69 ct69 : Value}
    {f70 : Addr} {od70 an70 : Option Addr} {sl70 : Array (Option Value)} {oc70 kV70 dc70 pm70 cd70 ct70 : Value}
    {t_ANY_SIGNS : Tok}
    {t_DIGIT_SIGNS : Tok}
    {a_FIELDS : Addr} {td_FIELDS : Option Addr} {tn_FIELDS : Nat} {tl_FIELDS : Array (Option Value)} {t_FIELDS_0 t_FIELDS_1 t_FIELDS_2 t_FIELDS_3 : Tok}
    {t_LETTER_SIGNS : Tok}
    {t_MOST_FORMS : Tok}
    {t_MOST_LINES : Tok}
    {t_MOST_MARKS : Tok}
    {t_MOST_PARTS : Tok}
    {t_MOST_SIGNS : Tok}
    {t_MOST_TAGS : Tok}
    {a_OPEN_PARTS : Addr} {td_OPEN_PARTS : Option Addr} {tn_OPEN_PARTS : Nat} {tl_OPEN_PARTS : Array (Option Value)} {t_OPEN_PARTS_0 t_OPEN_PARTS_1 t_OPEN_PARTS_2 : Tok}
    {t_SIGNS : Tok}
    {t_SOME_DIGITS : Tok}
    {t_SOME_LETTERS : Tok}
    (a0 : PySem.W.nsIn K mainGlobals "_law_take" = some (some (.ref f0)))
    (l0 : K.lookup f0 = some ⟨oc0, od0, .func (PySem.W.fnOf "_law_take" "_law_take" (defArgs s__law_take) (defBody s__law_take) (defScope s__law_take) .none kV0 dc0 pm0 an0 cd0 ct0), sl0⟩)
    (c0 : PySem.W.codeIn K cd0 "_law_take" = true)
    (k0 : PySem.W.keepIn K (.ref f0) = true)
    (a1 : PySem.W.nsIn K mainGlobals "_law_pool" = some (some (.ref f1)))
    (l1 : K.lookup f1 = some ⟨oc1, od1, .func (PySem.W.fnOf "_law_pool" "_law_pool" (defArgs s__law_pool) (defBody s__law_pool) (defScope s__law_pool) .none kV1 dc1 pm1 an1 cd1 ct1), sl1⟩)
    (c1 : PySem.W.codeIn K cd1 "_law_pool" = true)
    (k1 : PySem.W.keepIn K (.ref f1) = true)
    (a2 : PySem.W.nsIn K mainGlobals "_law_all_signs" = some (some (.ref f2)))
    (l2 : K.lookup f2 = some ⟨oc2, od2, .func (PySem.W.fnOf "_law_all_signs" "_law_all_signs" (defArgs s__law_all_signs) (defBody s__law_all_signs) (defScope s__law_all_signs) .none kV2 dc2 pm2 an2 cd2 ct2), sl2⟩)
    (c2 : PySem.W.codeIn K cd2 "_law_all_signs" = true)
    (k2 : PySem.W.keepIn K (.ref f2) = true)
    (a3 : PySem.W.nsIn K mainGlobals "is_line" = some (some (.ref f3)))
    (l3 : K.lookup f3 = some ⟨oc3, od3, .func (PySem.W.fnOf "is_line" "is_line" (defArgs s_is_line) (defBody s_is_line) (defScope s_is_line) .none kV3 dc3 pm3 an3 cd3 ct3), sl3⟩)
    (c3 : PySem.W.codeIn K cd3 "is_line" = true)
    (k3 : PySem.W.keepIn K (.ref f3) = true)
    (a4 : PySem.W.nsIn K mainGlobals "_takes" = some (some (.ref f4)))
    (l4 : K.lookup f4 = some ⟨oc4, od4, .func (PySem.W.fnOf "_takes" "_takes" (defArgs s__takes) (defBody s__takes) (defScope s__takes) .none kV4 dc4 pm4 an4 cd4 ct4), sl4⟩)
    (c4 : PySem.W.codeIn K cd4 "_takes" = true)
    (k4 : PySem.W.keepIn K (.ref f4) = true)
    (a5 : PySem.W.nsIn K mainGlobals "_closed" = some (some (.ref f5)))
    (l5 : K.lookup f5 = some ⟨oc5, od5, .func (PySem.W.fnOf "_closed" "_closed" (defArgs s__closed) (defBody s__closed) (defScope s__closed) .none kV5 dc5 pm5 an5 cd5 ct5), sl5⟩)
    (c5 : PySem.W.codeIn K cd5 "_closed" = true)
    (k5 : PySem.W.keepIn K (.ref f5) = true)
    (a6 : PySem.W.nsIn K mainGlobals "started" = some (some (.ref f6)))
    (l6 : K.lookup f6 = some ⟨oc6, od6, .func (PySem.W.fnOf "started" "started" (defArgs s_started) (defBody s_started) (defScope s_started) .none kV6 dc6 pm6 an6 cd6 ct6), sl6⟩)
    (c6 : PySem.W.codeIn K cd6 "started" = true)
    (k6 : PySem.W.keepIn K (.ref f6) = true)
    (a7 : PySem.W.nsIn K mainGlobals "moved" = some (some (.ref f7)))
    (l7 : K.lookup f7 = some ⟨oc7, od7, .func (PySem.W.fnOf "moved" "moved" (defArgs s_moved) (defBody s_moved) (defScope s_moved) .none kV7 dc7 pm7 an7 cd7 ct7), sl7⟩)
    (c7 : PySem.W.codeIn K cd7 "moved" = true)
    (k7 : PySem.W.keepIn K (.ref f7) = true)
    (a8 : PySem.W.nsIn K mainGlobals "is_done" = some (some (.ref f8)))
    (l8 : K.lookup f8 = some ⟨oc8, od8, .func (PySem.W.fnOf "is_done" "is_done" (defArgs s_is_done) (defBody s_is_done) (defScope s_is_done) .none kV8 dc8 pm8 an8 cd8 ct8), sl8⟩)
    (c8 : PySem.W.codeIn K cd8 "is_done" = true)
    (k8 : PySem.W.keepIn K (.ref f8) = true)
    (a9 : PySem.W.nsIn K mainGlobals "cells_of" = some (some (.ref f9)))
    (l9 : K.lookup f9 = some ⟨oc9, od9, .func (PySem.W.fnOf "cells_of" "cells_of" (defArgs s_cells_of) (defBody s_cells_of) (defScope s_cells_of) .none kV9 dc9 pm9 an9 cd9 ct9), sl9⟩)
    (c9 : PySem.W.codeIn K cd9 "cells_of" = true)
    (k9 : PySem.W.keepIn K (.ref f9) = true)
    (a10 : PySem.W.nsIn K mainGlobals "_law_text" = some (some (.ref f10)))
    (l10 : K.lookup f10 = some ⟨oc10, od10, .func (PySem.W.fnOf "_law_text" "_law_text" (defArgs s__law_text) (defBody s__law_text) (defScope s__law_text) .none kV10 dc10 pm10 an10 cd10 ct10), sl10⟩)
    (c10 : PySem.W.codeIn K cd10 "_law_text" = true)
    (k10 : PySem.W.keepIn K (.ref f10) = true)
    (a11 : PySem.W.nsIn K mainGlobals "_law_parts" = some (some (.ref f11)))
    (l11 : K.lookup f11 = some ⟨oc11, od11, .func (PySem.W.fnOf "_law_parts" "_law_parts" (defArgs s__law_parts) (defBody s__law_parts) (defScope s__law_parts) .none kV11 dc11 pm11 an11 cd11 ct11), sl11⟩)
    (c11 : PySem.W.codeIn K cd11 "_law_parts" = true)
    (k11 : PySem.W.keepIn K (.ref f11) = true)
    (a12 : PySem.W.nsIn K mainGlobals "_law_ends" = some (some (.ref f12)))
    (l12 : K.lookup f12 = some ⟨oc12, od12, .func (PySem.W.fnOf "_law_ends" "_law_ends" (defArgs s__law_ends) (defBody s__law_ends) (defScope s__law_ends) .none kV12 dc12 pm12 an12 cd12 ct12), sl12⟩)
    (c12 : PySem.W.codeIn K cd12 "_law_ends" = true)
    (k12 : PySem.W.keepIn K (.ref f12) = true)
    (a13 : PySem.W.nsIn K mainGlobals "_law_fits" = some (some (.ref f13)))
    (l13 : K.lookup f13 = some ⟨oc13, od13, .func (PySem.W.fnOf "_law_fits" "_law_fits" (defArgs s__law_fits) (defBody s__law_fits) (defScope s__law_fits) .none kV13 dc13 pm13 an13 cd13 ct13), sl13⟩)
    (c13 : PySem.W.codeIn K cd13 "_law_fits" = true)
    (k13 : PySem.W.keepIn K (.ref f13) = true)
    (a14 : PySem.W.nsIn K mainGlobals "_is_allowed" = some (some (.ref f14)))
    (l14 : K.lookup f14 = some ⟨oc14, od14, .func (PySem.W.fnOf "_is_allowed" "_is_allowed" (defArgs s__is_allowed) (defBody s__is_allowed) (defScope s__is_allowed) .none kV14 dc14 pm14 an14 cd14 ct14), sl14⟩)
    (c14 : PySem.W.codeIn K cd14 "_is_allowed" = true)
    (k14 : PySem.W.keepIn K (.ref f14) = true)
    (a15 : PySem.W.findIn K (.ref C_Form) "__init__" = some (some (.ref f15)))
    (l15 : K.lookup f15 = some ⟨oc15, od15, .func (PySem.W.fnOf "__init__" "Form.__init__" (defArgs s_Form___init__) (defBody s_Form___init__) (defScope s_Form___init__) .none kV15 dc15 pm15 an15 cd15 ct15), sl15⟩)
    (c15 : PySem.W.codeIn K cd15 "Form.__init__" = true)
    (k15 : PySem.W.keepIn K (.ref f15) = true)
    (i15 : PySem.W.isFn K (.ref f15) = true)
    (j15 : PySem.W.typeIn K (.ref f15) = some (.type "function"))
    (a16 : PySem.W.findIn K (.ref C_Form) "parts" = some (some (.ref f16)))
    (l16 : K.lookup f16 = some ⟨oc16, od16, .func (PySem.W.fnOf "parts" "Form.parts" (defArgs s_Form_parts) (defBody s_Form_parts) (defScope s_Form_parts) .none kV16 dc16 pm16 an16 cd16 ct16), sl16⟩)
    (c16 : PySem.W.codeIn K cd16 "Form.parts" = true)
    (k16 : PySem.W.keepIn K (.ref f16) = true)
    (i16 : PySem.W.isFn K (.ref f16) = true)
    (j16 : PySem.W.typeIn K (.ref f16) = some (.type "function"))
    (a17 : PySem.W.findIn K (.ref C_Form) "__contains__" = some (some (.ref f17)))
    (l17 : K.lookup f17 = some ⟨oc17, od17, .func (PySem.W.fnOf "__contains__" "Form.__contains__" (defArgs s_Form___contains__) (defBody s_Form___contains__) (defScope s_Form___contains__) .none kV17 dc17 pm17 an17 cd17 ct17), sl17⟩)
    (c17 : PySem.W.codeIn K cd17 "Form.__contains__" = true)
    (k17 : PySem.W.keepIn K (.ref f17) = true)
    (i17 : PySem.W.isFn K (.ref f17) = true)
    (j17 : PySem.W.typeIn K (.ref f17) = some (.type "function"))
    (a18 : PySem.W.nsIn K mainGlobals "_law_form" = some (some (.ref f18)))
    (l18 : K.lookup f18 = some ⟨oc18, od18, .func (PySem.W.fnOf "_law_form" "_law_form" (defArgs s__law_form) (defBody s__law_form) (defScope s__law_form) .none kV18 dc18 pm18 an18 cd18 ct18), sl18⟩)
    (c18 : PySem.W.codeIn K cd18 "_law_form" = true)
    (k18 : PySem.W.keepIn K (.ref f18) = true)
    (a19 : PySem.W.findIn K (.ref C_Form) "forms" = some (some (.ref f19)))
    (l19 : K.lookup f19 = some ⟨oc19, od19, .func (PySem.W.fnOf "forms" "Form.forms" (defArgs s_Form_forms) (defBody s_Form_forms) (defScope s_Form_forms) .none kV19 dc19 pm19 an19 cd19 ct19), sl19⟩)
    (c19 : PySem.W.codeIn K cd19 "Form.forms" = true)
    (k19 : PySem.W.keepIn K (.ref f19) = true)
    (i19 : PySem.W.isFn K (.ref f19) = true)
    (j19 : PySem.W.typeIn K (.ref f19) = some (.type "function"))
    (a20 : PySem.W.findIn K (.ref C_Form) "__str__" = some (some (.ref f20)))
    (l20 : K.lookup f20 = some ⟨oc20, od20, .func (PySem.W.fnOf "__str__" "Form.__str__" (defArgs s_Form___str__) (defBody s_Form___str__) (defScope s_Form___str__) .none kV20 dc20 pm20 an20 cd20 ct20), sl20⟩)
    (c20 : PySem.W.codeIn K cd20 "Form.__str__" = true)
    (k20 : PySem.W.keepIn K (.ref f20) = true)
    (i20 : PySem.W.isFn K (.ref f20) = true)
    (j20 : PySem.W.typeIn K (.ref f20) = some (.type "function"))
    (fm_Form : PySem.W.findIn K (.ref C_Form) "__format__" = some (some (.builtin "object.__format__"))) (ob_Form : PySem.W.mroIn K C_Form (.type "object") = some true)
    (a21 : PySem.W.findIn K (.ref C_Both) "forms" = some (some (.ref f21)))
    (l21 : K.lookup f21 = some ⟨oc21, od21, .func (PySem.W.fnOf "forms" "Both.forms" (defArgs s_Both_forms) (defBody s_Both_forms) (defScope s_Both_forms) .none kV21 dc21 pm21 an21 cd21 ct21), sl21⟩)
    (c21 : PySem.W.codeIn K cd21 "Both.forms" = true)
    (k21 : PySem.W.keepIn K (.ref f21) = true)
    (i21 : PySem.W.isFn K (.ref f21) = true)
    (j21 : PySem.W.typeIn K (.ref f21) = some (.type "function"))
    (a22 : PySem.W.findIn K (.ref C_Both) "__contains__" = some (some (.ref f22)))
    (l22 : K.lookup f22 = some ⟨oc22, od22, .func (PySem.W.fnOf "__contains__" "Both.__contains__" (defArgs s_Both___contains__) (defBody s_Both___contains__) (defScope s_Both___contains__) .none kV22 dc22 pm22 an22 cd22 ct22), sl22⟩)
    (c22 : PySem.W.codeIn K cd22 "Both.__contains__" = true)
    (k22 : PySem.W.keepIn K (.ref f22) = true)
    (i22 : PySem.W.isFn K (.ref f22) = true)
    (j22 : PySem.W.typeIn K (.ref f22) = some (.type "function"))
    (a23 : PySem.W.findIn K (.ref C_Both) "__str__" = some (some (.ref f23)))
    (l23 : K.lookup f23 = some ⟨oc23, od23, .func (PySem.W.fnOf "__str__" "Both.__str__" (defArgs s_Both___str__) (defBody s_Both___str__) (defScope s_Both___str__) .none kV23 dc23 pm23 an23 cd23 ct23), sl23⟩)
    (c23 : PySem.W.codeIn K cd23 "Both.__str__" = true)
    (k23 : PySem.W.keepIn K (.ref f23) = true)
    (i23 : PySem.W.isFn K (.ref f23) = true)
    (j23 : PySem.W.typeIn K (.ref f23) = some (.type "function"))
    (fm_Both : PySem.W.findIn K (.ref C_Both) "__format__" = some (some (.builtin "object.__format__"))) (ob_Both : PySem.W.mroIn K C_Both (.type "object") = some true)
    (a24 : PySem.W.findIn K (.ref C_Either) "forms" = some (some (.ref f24)))
    (l24 : K.lookup f24 = some ⟨oc24, od24, .func (PySem.W.fnOf "forms" "Either.forms" (defArgs s_Either_forms) (defBody s_Either_forms) (defScope s_Either_forms) .none kV24 dc24 pm24 an24 cd24 ct24), sl24⟩)
    (c24 : PySem.W.codeIn K cd24 "Either.forms" = true)
    (k24 : PySem.W.keepIn K (.ref f24) = true)
    (i24 : PySem.W.isFn K (.ref f24) = true)
    (j24 : PySem.W.typeIn K (.ref f24) = some (.type "function"))
    (a25 : PySem.W.findIn K (.ref C_Either) "__contains__" = some (some (.ref f25)))
    (l25 : K.lookup f25 = some ⟨oc25, od25, .func (PySem.W.fnOf "__contains__" "Either.__contains__" (defArgs s_Either___contains__) (defBody s_Either___contains__) (defScope s_Either___contains__) .none kV25 dc25 pm25 an25 cd25 ct25), sl25⟩)
    (c25 : PySem.W.codeIn K cd25 "Either.__contains__" = true)
    (k25 : PySem.W.keepIn K (.ref f25) = true)
    (i25 : PySem.W.isFn K (.ref f25) = true)
    (j25 : PySem.W.typeIn K (.ref f25) = some (.type "function"))
    (a26 : PySem.W.findIn K (.ref C_Either) "__str__" = some (some (.ref f26)))
    (l26 : K.lookup f26 = some ⟨oc26, od26, .func (PySem.W.fnOf "__str__" "Either.__str__" (defArgs s_Either___str__) (defBody s_Either___str__) (defScope s_Either___str__) .none kV26 dc26 pm26 an26 cd26 ct26), sl26⟩)
    (c26 : PySem.W.codeIn K cd26 "Either.__str__" = true)
    (k26 : PySem.W.keepIn K (.ref f26) = true)
    (i26 : PySem.W.isFn K (.ref f26) = true)
    (j26 : PySem.W.typeIn K (.ref f26) = some (.type "function"))
    (fm_Either : PySem.W.findIn K (.ref C_Either) "__format__" = some (some (.builtin "object.__format__"))) (ob_Either : PySem.W.mroIn K C_Either (.type "object") = some true)
    (a27 : PySem.W.nsIn K mainGlobals "_check_room" = some (some (.ref f27)))
    (l27 : K.lookup f27 = some ⟨oc27, od27, .func (PySem.W.fnOf "_check_room" "_check_room" (defArgs s__check_room) (defBody s__check_room) (defScope s__check_room) .none kV27 dc27 pm27 an27 cd27 ct27), sl27⟩)
    (c27 : PySem.W.codeIn K cd27 "_check_room" = true)
    (k27 : PySem.W.keepIn K (.ref f27) = true)
    (a28 : PySem.W.findIn K (.ref C_Both) "__init__" = some (some (.ref f28)))
    (l28 : K.lookup f28 = some ⟨oc28, od28, .func (PySem.W.fnOf "__init__" "Both.__init__" (defArgs s_Both___init__) (defBody s_Both___init__) (defScope s_Both___init__) .none kV28 dc28 pm28 an28 cd28 ct28), sl28⟩)
    (c28 : PySem.W.codeIn K cd28 "Both.__init__" = true)
    (k28 : PySem.W.keepIn K (.ref f28) = true)
    (i28 : PySem.W.isFn K (.ref f28) = true)
    (j28 : PySem.W.typeIn K (.ref f28) = some (.type "function"))
    (a29 : PySem.W.findIn K (.ref C_Either) "__init__" = some (some (.ref f29)))
    (l29 : K.lookup f29 = some ⟨oc29, od29, .func (PySem.W.fnOf "__init__" "Either.__init__" (defArgs s_Either___init__) (defBody s_Either___init__) (defScope s_Either___init__) .none kV29 dc29 pm29 an29 cd29 ct29), sl29⟩)
    (c29 : PySem.W.codeIn K cd29 "Either.__init__" = true)
    (k29 : PySem.W.keepIn K (.ref f29) = true)
    (i29 : PySem.W.isFn K (.ref f29) = true)
    (j29 : PySem.W.typeIn K (.ref f29) = some (.type "function"))
    (a30 : PySem.W.findIn K (.ref C_Form) "__and__" = some (some (.ref f30)))
    (l30 : K.lookup f30 = some ⟨oc30, od30, .func (PySem.W.fnOf "__and__" "Form.__and__" (defArgs s_Form___and__) (defBody s_Form___and__) (defScope s_Form___and__) .none kV30 dc30 pm30 an30 cd30 ct30), sl30⟩)
    (c30 : PySem.W.codeIn K cd30 "Form.__and__" = true)
    (k30 : PySem.W.keepIn K (.ref f30) = true)
    (i30 : PySem.W.isFn K (.ref f30) = true)
    (j30 : PySem.W.typeIn K (.ref f30) = some (.type "function"))
    (fs_Form : PySem.W.selfFirst K C_Form = true)
    (rv30 : PySem.W.findIn K (.ref C_Form) "__rand__" = some none)
    (a31 : PySem.W.findIn K (.ref C_Form) "__or__" = some (some (.ref f31)))
    (l31 : K.lookup f31 = some ⟨oc31, od31, .func (PySem.W.fnOf "__or__" "Form.__or__" (defArgs s_Form___or__) (defBody s_Form___or__) (defScope s_Form___or__) .none kV31 dc31 pm31 an31 cd31 ct31), sl31⟩)
    (c31 : PySem.W.codeIn K cd31 "Form.__or__" = true)
    (k31 : PySem.W.keepIn K (.ref f31) = true)
    (i31 : PySem.W.isFn K (.ref f31) = true)
    (j31 : PySem.W.typeIn K (.ref f31) = some (.type "function"))
    (rv31 : PySem.W.findIn K (.ref C_Form) "__ror__" = some none)
    (a32 : PySem.W.findIn K (.ref C_Both) "__and__" = some (some (.ref f32)))
    (l32 : K.lookup f32 = some ⟨oc32, od32, .func (PySem.W.fnOf "__and__" "Both.__and__" (defArgs s_Both___and__) (defBody s_Both___and__) (defScope s_Both___and__) .none kV32 dc32 pm32 an32 cd32 ct32), sl32⟩)
    (c32 : PySem.W.codeIn K cd32 "Both.__and__" = true)
    (k32 : PySem.W.keepIn K (.ref f32) = true)
    (i32 : PySem.W.isFn K (.ref f32) = true)
    (j32 : PySem.W.typeIn K (.ref f32) = some (.type "function"))
    (fs_Both : PySem.W.selfFirst K C_Both = true)
    (rv32 : PySem.W.findIn K (.ref C_Both) "__rand__" = some none)
    (a33 : PySem.W.findIn K (.ref C_Both) "__or__" = some (some (.ref f33)))
    (l33 : K.lookup f33 = some ⟨oc33, od33, .func (PySem.W.fnOf "__or__" "Both.__or__" (defArgs s_Both___or__) (defBody s_Both___or__) (defScope s_Both___or__) .none kV33 dc33 pm33 an33 cd33 ct33), sl33⟩)
    (c33 : PySem.W.codeIn K cd33 "Both.__or__" = true)
    (k33 : PySem.W.keepIn K (.ref f33) = true)
    (i33 : PySem.W.isFn K (.ref f33) = true)
    (j33 : PySem.W.typeIn K (.ref f33) = some (.type "function"))
    (rv33 : PySem.W.findIn K (.ref C_Both) "__ror__" = some none)
    (a34 : PySem.W.nsIn K mainGlobals "_law_tree" = some (some (.ref f34)))
    (l34 : K.lookup f34 = some ⟨oc34, od34, .func (PySem.W.fnOf "_law_tree" "_law_tree" (defArgs s__law_tree) (defBody s__law_tree) (defScope s__law_tree) .none kV34 dc34 pm34 an34 cd34 ct34), sl34⟩)
    (c34 : PySem.W.codeIn K cd34 "_law_tree" = true)
    (k34 : PySem.W.keepIn K (.ref f34) = true)
    (a35 : PySem.W.nsIn K mainGlobals "_law_built" = some (some (.ref f35)))
    (l35 : K.lookup f35 = some ⟨oc35, od35, .func (PySem.W.fnOf "_law_built" "_law_built" (defArgs s__law_built) (defBody s__law_built) (defScope s__law_built) .none kV35 dc35 pm35 an35 cd35 ct35), sl35⟩)
    (c35 : PySem.W.codeIn K cd35 "_law_built" = true)
    (k35 : PySem.W.keepIn K (.ref f35) = true)
    (a36 : PySem.W.nsIn K mainGlobals "_law_bears" = some (some (.ref f36)))
    (l36 : K.lookup f36 = some ⟨oc36, od36, .func (PySem.W.fnOf "_law_bears" "_law_bears" (defArgs s__law_bears) (defBody s__law_bears) (defScope s__law_bears) .none kV36 dc36 pm36 an36 cd36 ct36), sl36⟩)
    (c36 : PySem.W.codeIn K cd36 "_law_bears" = true)
    (k36 : PySem.W.keepIn K (.ref f36) = true)
    (a37 : PySem.W.nsIn K mainGlobals "_law_line" = some (some (.ref f37)))
    (l37 : K.lookup f37 = some ⟨oc37, od37, .func (PySem.W.fnOf "_law_line" "_law_line" (defArgs s__law_line) (defBody s__law_line) (defScope s__law_line) .none kV37 dc37 pm37 an37 cd37 ct37), sl37⟩)
    (c37 : PySem.W.codeIn K cd37 "_law_line" = true)
    (k37 : PySem.W.keepIn K (.ref f37) = true)
    (a38 : PySem.W.nsIn K mainGlobals "_law_written" = some (some (.ref f38)))
    (l38 : K.lookup f38 = some ⟨oc38, od38, .func (PySem.W.fnOf "_law_written" "_law_written" (defArgs s__law_written) (defBody s__law_written) (defScope s__law_written) .none kV38 dc38 pm38 an38 cd38 ct38), sl38⟩)
    (c38 : PySem.W.codeIn K cd38 "_law_written" = true)
    (k38 : PySem.W.keepIn K (.ref f38) = true)
    (a39 : PySem.W.nsIn K mainGlobals "_is_number" = some (some (.ref f39)))
    (l39 : K.lookup f39 = some ⟨oc39, od39, .func (PySem.W.fnOf "_is_number" "_is_number" (defArgs s__is_number) (defBody s__is_number) (defScope s__is_number) .none kV39 dc39 pm39 an39 cd39 ct39), sl39⟩)
    (c39 : PySem.W.codeIn K cd39 "_is_number" = true)
    (k39 : PySem.W.keepIn K (.ref f39) = true)
    (a40 : PySem.W.nsIn K mainGlobals "_check" = some (some (.ref f40)))
    (l40 : K.lookup f40 = some ⟨oc40, od40, .func (PySem.W.fnOf "_check" "_check" (defArgs s__check) (defBody s__check) (defScope s__check) .none kV40 dc40 pm40 an40 cd40 ct40), sl40⟩)
    (c40 : PySem.W.codeIn K cd40 "_check" = true)
    (k40 : PySem.W.keepIn K (.ref f40) = true)
    (a41 : PySem.W.findIn K (.ref C_Rule) "__init__" = some (some (.ref f41)))
    (l41 : K.lookup f41 = some ⟨oc41, od41, .func (PySem.W.fnOf "__init__" "Rule.__init__" (defArgs s_Rule___init__) (defBody s_Rule___init__) (defScope s_Rule___init__) .none kV41 dc41 pm41 an41 cd41 ct41), sl41⟩)
    (c41 : PySem.W.codeIn K cd41 "Rule.__init__" = true)
    (k41 : PySem.W.keepIn K (.ref f41) = true)
    (i41 : PySem.W.isFn K (.ref f41) = true)
    (j41 : PySem.W.typeIn K (.ref f41) = some (.type "function"))
    (a42 : PySem.W.findIn K (.ref C_Rule) "most" = some (some (.ref p42))) (g42 : PySem.W.specialIn K (.ref p42) "__get__" = some (some (.builtin "property.__get__"))) (t42 : PySem.W.takesIn K (.ref p42) = some true) (r42 : PySem.W.recIn K p42 "property" = some (.ref f42 :: rs42))
    (l42 : K.lookup f42 = some ⟨oc42, od42, .func (PySem.W.fnOf "most" "Rule.most" (defArgs s_Rule_most) (defBody s_Rule_most) (defScope s_Rule_most) .none kV42 dc42 pm42 an42 cd42 ct42), sl42⟩)
    (c42 : PySem.W.codeIn K cd42 "Rule.most" = true)
    (k42 : PySem.W.keepIn K (.ref f42) = true)
    (a43 : PySem.W.findIn K (.ref C_Rule) "alone" = some (some (.ref p43))) (g43 : PySem.W.specialIn K (.ref p43) "__get__" = some (some (.builtin "property.__get__"))) (t43 : PySem.W.takesIn K (.ref p43) = some true) (r43 : PySem.W.recIn K p43 "property" = some (.ref f43 :: rs43))
    (l43 : K.lookup f43 = some ⟨oc43, od43, .func (PySem.W.fnOf "alone" "Rule.alone" (defArgs s_Rule_alone) (defBody s_Rule_alone) (defScope s_Rule_alone) .none kV43 dc43 pm43 an43 cd43 ct43), sl43⟩)
    (c43 : PySem.W.codeIn K cd43 "Rule.alone" = true)
    (k43 : PySem.W.keepIn K (.ref f43) = true)
    (a44 : PySem.W.findIn K (.ref C_Rule) "tags" = some (some (.ref p44))) (g44 : PySem.W.specialIn K (.ref p44) "__get__" = some (some (.builtin "property.__get__"))) (t44 : PySem.W.takesIn K (.ref p44) = some true) (r44 : PySem.W.recIn K p44 "property" = some (.ref f44 :: rs44))
    (l44 : K.lookup f44 = some ⟨oc44, od44, .func (PySem.W.fnOf "tags" "Rule.tags" (defArgs s_Rule_tags) (defBody s_Rule_tags) (defScope s_Rule_tags) .none kV44 dc44 pm44 an44 cd44 ct44), sl44⟩)
    (c44 : PySem.W.codeIn K cd44 "Rule.tags" = true)
    (k44 : PySem.W.keepIn K (.ref f44) = true)
    (a45 : PySem.W.findIn K (.ref C_Rule) "quiet" = some (some (.ref p45))) (g45 : PySem.W.specialIn K (.ref p45) "__get__" = some (some (.builtin "property.__get__"))) (t45 : PySem.W.takesIn K (.ref p45) = some true) (r45 : PySem.W.recIn K p45 "property" = some (.ref f45 :: rs45))
    (l45 : K.lookup f45 = some ⟨oc45, od45, .func (PySem.W.fnOf "quiet" "Rule.quiet" (defArgs s_Rule_quiet) (defBody s_Rule_quiet) (defScope s_Rule_quiet) .none kV45 dc45 pm45 an45 cd45 ct45), sl45⟩)
    (c45 : PySem.W.codeIn K cd45 "Rule.quiet" = true)
    (k45 : PySem.W.keepIn K (.ref f45) = true)
    (a46 : PySem.W.findIn K (.ref C_Rule) "begins" = some (some (.ref f46)))
    (l46 : K.lookup f46 = some ⟨oc46, od46, .func (PySem.W.fnOf "begins" "Rule.begins" (defArgs s_Rule_begins) (defBody s_Rule_begins) (defScope s_Rule_begins) .none kV46 dc46 pm46 an46 cd46 ct46), sl46⟩)
    (c46 : PySem.W.codeIn K cd46 "Rule.begins" = true)
    (k46 : PySem.W.keepIn K (.ref f46) = true)
    (i46 : PySem.W.isFn K (.ref f46) = true)
    (j46 : PySem.W.typeIn K (.ref f46) = some (.type "function"))
    (a47 : PySem.W.findIn K (.ref C_Rule) "ends" = some (some (.ref f47)))
    (l47 : K.lookup f47 = some ⟨oc47, od47, .func (PySem.W.fnOf "ends" "Rule.ends" (defArgs s_Rule_ends) (defBody s_Rule_ends) (defScope s_Rule_ends) .none kV47 dc47 pm47 an47 cd47 ct47), sl47⟩)
    (c47 : PySem.W.codeIn K cd47 "Rule.ends" = true)
    (k47 : PySem.W.keepIn K (.ref f47) = true)
    (i47 : PySem.W.isFn K (.ref f47) = true)
    (j47 : PySem.W.typeIn K (.ref f47) = some (.type "function"))
    (a48 : PySem.W.findIn K (.ref C_Rule) "begins_on" = some (some (.ref f48)))
    (l48 : K.lookup f48 = some ⟨oc48, od48, .func (PySem.W.fnOf "begins_on" "Rule.begins_on" (defArgs s_Rule_begins_on) (defBody s_Rule_begins_on) (defScope s_Rule_begins_on) .none kV48 dc48 pm48 an48 cd48 ct48), sl48⟩)
    (c48 : PySem.W.codeIn K cd48 "Rule.begins_on" = true)
    (k48 : PySem.W.keepIn K (.ref f48) = true)
    (i48 : PySem.W.isFn K (.ref f48) = true)
    (j48 : PySem.W.typeIn K (.ref f48) = some (.type "function"))
    (a49 : PySem.W.findIn K (.ref C_Rule) "ends_on" = some (some (.ref f49)))
    (l49 : K.lookup f49 = some ⟨oc49, od49, .func (PySem.W.fnOf "ends_on" "Rule.ends_on" (defArgs s_Rule_ends_on) (defBody s_Rule_ends_on) (defScope s_Rule_ends_on) .none kV49 dc49 pm49 an49 cd49 ct49), sl49⟩)
    (c49 : PySem.W.codeIn K cd49 "Rule.ends_on" = true)
    (k49 : PySem.W.keepIn K (.ref f49) = true)
    (i49 : PySem.W.isFn K (.ref f49) = true)
    (j49 : PySem.W.typeIn K (.ref f49) = some (.type "function"))
    (a50 : PySem.W.findIn K (.ref C_Keeper) "_shut" = some (some (.ref f50)))
    (l50 : K.lookup f50 = some ⟨oc50, od50, .func (PySem.W.fnOf "_shut" "Keeper._shut" (defArgs s_Keeper__shut) (defBody s_Keeper__shut) (defScope s_Keeper__shut) .none kV50 dc50 pm50 an50 cd50 ct50), sl50⟩)
    (c50 : PySem.W.codeIn K cd50 "Keeper._shut" = true)
    (k50 : PySem.W.keepIn K (.ref f50) = true)
    (i50 : PySem.W.isFn K (.ref f50) = true)
    (j50 : PySem.W.typeIn K (.ref f50) = some (.type "function"))
    (a51 : PySem.W.findIn K (.ref C_Keeper) "_too_many" = some (some (.ref f51)))
    (l51 : K.lookup f51 = some ⟨oc51, od51, .func (PySem.W.fnOf "_too_many" "Keeper._too_many" (defArgs s_Keeper__too_many) (defBody s_Keeper__too_many) (defScope s_Keeper__too_many) .none kV51 dc51 pm51 an51 cd51 ct51), sl51⟩)
    (c51 : PySem.W.codeIn K cd51 "Keeper._too_many" = true)
    (k51 : PySem.W.keepIn K (.ref f51) = true)
    (i51 : PySem.W.isFn K (.ref f51) = true)
    (j51 : PySem.W.typeIn K (.ref f51) = some (.type "function"))
    (a52 : PySem.W.findIn K (.ref C_Keeper) "waiting" = some (some (.ref f52)))
    (l52 : K.lookup f52 = some ⟨oc52, od52, .func (PySem.W.fnOf "waiting" "Keeper.waiting" (defArgs s_Keeper_waiting) (defBody s_Keeper_waiting) (defScope s_Keeper_waiting) .none kV52 dc52 pm52 an52 cd52 ct52), sl52⟩)
    (c52 : PySem.W.codeIn K cd52 "Keeper.waiting" = true)
    (k52 : PySem.W.keepIn K (.ref f52) = true)
    (i52 : PySem.W.isFn K (.ref f52) = true)
    (j52 : PySem.W.typeIn K (.ref f52) = some (.type "function"))
    (a53 : PySem.W.findIn K (.ref C_Keeper) "take" = some (some (.ref f53)))
    (l53 : K.lookup f53 = some ⟨oc53, od53, .func (PySem.W.fnOf "take" "Keeper.take" (defArgs s_Keeper_take) (defBody s_Keeper_take) (defScope s_Keeper_take) .none kV53 dc53 pm53 an53 cd53 ct53), sl53⟩)
    (c53 : PySem.W.codeIn K cd53 "Keeper.take" = true)
    (k53 : PySem.W.keepIn K (.ref f53) = true)
    (i53 : PySem.W.isFn K (.ref f53) = true)
    (j53 : PySem.W.typeIn K (.ref f53) = some (.type "function"))
    (a54 : PySem.W.findIn K (.ref C_Keeper) "__init__" = some (some (.ref f54)))
    (l54 : K.lookup f54 = some ⟨oc54, od54, .func (PySem.W.fnOf "__init__" "Keeper.__init__" (defArgs s_Keeper___init__) (defBody s_Keeper___init__) (defScope s_Keeper___init__) .none kV54 dc54 pm54 an54 cd54 ct54), sl54⟩)
    (c54 : PySem.W.codeIn K cd54 "Keeper.__init__" = true)
    (k54 : PySem.W.keepIn K (.ref f54) = true)
    (i54 : PySem.W.isFn K (.ref f54) = true)
    (j54 : PySem.W.typeIn K (.ref f54) = some (.type "function"))
    (a55 : PySem.W.findIn K (.ref C_Gluer) "_counted" = some (some (.ref f55)))
    (l55 : K.lookup f55 = some ⟨oc55, od55, .func (PySem.W.fnOf "_counted" "Gluer._counted" (defArgs s_Gluer__counted) (defBody s_Gluer__counted) (defScope s_Gluer__counted) .none kV55 dc55 pm55 an55 cd55 ct55), sl55⟩)
    (c55 : PySem.W.codeIn K cd55 "Gluer._counted" = true)
    (k55 : PySem.W.keepIn K (.ref f55) = true)
    (i55 : PySem.W.isFn K (.ref f55) = true)
    (j55 : PySem.W.typeIn K (.ref f55) = some (.type "function"))
    (a56 : PySem.W.findIn K (.ref C_Gluer) "many" = some (some (.ref p56))) (g56 : PySem.W.specialIn K (.ref p56) "__get__" = some (some (.builtin "property.__get__"))) (t56 : PySem.W.takesIn K (.ref p56) = some true) (r56 : PySem.W.recIn K p56 "property" = some (.ref f56 :: rs56))
    (l56 : K.lookup f56 = some ⟨oc56, od56, .func (PySem.W.fnOf "many" "Gluer.many" (defArgs s_Gluer_many) (defBody s_Gluer_many) (defScope s_Gluer_many) .none kV56 dc56 pm56 an56 cd56 ct56), sl56⟩)
    (c56 : PySem.W.codeIn K cd56 "Gluer.many" = true)
    (k56 : PySem.W.keepIn K (.ref f56) = true)
    (a57 : PySem.W.findIn K (.ref C_Gluer) "__init__" = some (some (.ref f57)))
    (l57 : K.lookup f57 = some ⟨oc57, od57, .func (PySem.W.fnOf "__init__" "Gluer.__init__" (defArgs s_Gluer___init__) (defBody s_Gluer___init__) (defScope s_Gluer___init__) .none kV57 dc57 pm57 an57 cd57 ct57), sl57⟩)
    (c57 : PySem.W.codeIn K cd57 "Gluer.__init__" = true)
    (k57 : PySem.W.keepIn K (.ref f57) = true)
    (i57 : PySem.W.isFn K (.ref f57) = true)
    (j57 : PySem.W.typeIn K (.ref f57) = some (.type "function"))
    (a58 : PySem.W.findIn K (.ref C_Gluer) "__call__" = some (some (.ref f58)))
    (l58 : K.lookup f58 = some ⟨oc58, od58, .func (PySem.W.fnOf "__call__" "Gluer.__call__" (defArgs s_Gluer___call__) (defBody s_Gluer___call__) (defScope s_Gluer___call__) (.ref dT58) kV58 dc58 pm58 an58 cd58 ct58), sl58⟩)
    (c58 : PySem.W.codeIn K cd58 "Gluer.__call__" = true)
    (k58 : PySem.W.keepIn K (.ref f58) = true)
    (y58 : K.lookup dT58 = some ⟨.type "tuple", dd58, .seq #[.none] dn58, dl58⟩)
    (i58 : PySem.W.isFn K (.ref f58) = true)
    (j58 : PySem.W.typeIn K (.ref f58) = some (.type "function"))
    (a59 : PySem.W.findIn K (.ref C_Gluer) "waiting" = some (some (.ref f59)))
    (l59 : K.lookup f59 = some ⟨oc59, od59, .func (PySem.W.fnOf "waiting" "Gluer.waiting" (defArgs s_Gluer_waiting) (defBody s_Gluer_waiting) (defScope s_Gluer_waiting) .none kV59 dc59 pm59 an59 cd59 ct59), sl59⟩)
    (c59 : PySem.W.codeIn K cd59 "Gluer.waiting" = true)
    (k59 : PySem.W.keepIn K (.ref f59) = true)
    (i59 : PySem.W.isFn K (.ref f59) = true)
    (j59 : PySem.W.typeIn K (.ref f59) = some (.type "function"))
    (a60 : PySem.W.nsIn K mainGlobals "_law_rule" = some (some (.ref f60)))
    (l60 : K.lookup f60 = some ⟨oc60, od60, .func (PySem.W.fnOf "_law_rule" "_law_rule" (defArgs s__law_rule) (defBody s__law_rule) (defScope s__law_rule) .none kV60 dc60 pm60 an60 cd60 ct60), sl60⟩)
    (c60 : PySem.W.codeIn K cd60 "_law_rule" = true)
    (k60 : PySem.W.keepIn K (.ref f60) = true)
    (a61 : PySem.W.nsIn K mainGlobals "_law_marks" = some (some (.ref f61)))
    (l61 : K.lookup f61 = some ⟨oc61, od61, .func (PySem.W.fnOf "_law_marks" "_law_marks" (defArgs s__law_marks) (defBody s__law_marks) (defScope s__law_marks) .none kV61 dc61 pm61 an61 cd61 ct61), sl61⟩)
    (c61 : PySem.W.codeIn K cd61 "_law_marks" = true)
    (k61 : PySem.W.keepIn K (.ref f61) = true)
    (a62 : PySem.W.nsIn K mainGlobals "_law_ruled" = some (some (.ref f62)))
    (l62 : K.lookup f62 = some ⟨oc62, od62, .func (PySem.W.fnOf "_law_ruled" "_law_ruled" (defArgs s__law_ruled) (defBody s__law_ruled) (defScope s__law_ruled) .none kV62 dc62 pm62 an62 cd62 ct62), sl62⟩)
    (c62 : PySem.W.codeIn K cd62 "_law_ruled" = true)
    (k62 : PySem.W.keepIn K (.ref f62) = true)
    (a63 : PySem.W.nsIn K mainGlobals "_law_marked" = some (some (.ref f63)))
    (l63 : K.lookup f63 = some ⟨oc63, od63, .func (PySem.W.fnOf "_law_marked" "_law_marked" (defArgs s__law_marked) (defBody s__law_marked) (defScope s__law_marked) .none kV63 dc63 pm63 an63 cd63 ct63), sl63⟩)
    (c63 : PySem.W.codeIn K cd63 "_law_marked" = true)
    (k63 : PySem.W.keepIn K (.ref f63) = true)
    (a64 : PySem.W.nsIn K mainGlobals "_law_row" = some (some (.ref f64)))
    (l64 : K.lookup f64 = some ⟨oc64, od64, .func (PySem.W.fnOf "_law_row" "_law_row" (defArgs s__law_row) (defBody s__law_row) (defScope s__law_row) .none kV64 dc64 pm64 an64 cd64 ct64), sl64⟩)
    (c64 : PySem.W.codeIn K cd64 "_law_row" = true)
    (k64 : PySem.W.keepIn K (.ref f64) = true)
    (a65 : PySem.W.nsIn K mainGlobals "_law_fed" = some (some (.ref f65)))
    (l65 : K.lookup f65 = some ⟨oc65, od65, .func (PySem.W.fnOf "_law_fed" "_law_fed" (defArgs s__law_fed) (defBody s__law_fed) (defScope s__law_fed) .none kV65 dc65 pm65 an65 cd65 ct65), sl65⟩)
    (c65 : PySem.W.codeIn K cd65 "_law_fed" = true)
    (k65 : PySem.W.keepIn K (.ref f65) = true)
    (a66 : PySem.W.findIn K (.ref C_Rule) "change" = some (some (.ref f66)))
    (l66 : K.lookup f66 = some ⟨oc66, od66, .func (PySem.W.fnOf "change" "Rule.change" (defArgs s_Rule_change) (defBody s_Rule_change) (defScope s_Rule_change) .none kV66 dc66 pm66 an66 cd66 ct66), sl66⟩)
    (c66 : PySem.W.codeIn K cd66 "Rule.change" = true)
    (k66 : PySem.W.keepIn K (.ref f66) = true)
    (i66 : PySem.W.isFn K (.ref f66) = true)
    (j66 : PySem.W.typeIn K (.ref f66) = some (.type "function"))
    (a67 : PySem.W.nsIn K mainGlobals "_law_told" = some (some (.ref f67)))
    (l67 : K.lookup f67 = some ⟨oc67, od67, .func (PySem.W.fnOf "_law_told" "_law_told" (defArgs s__law_told) (defBody s__law_told) (defScope s__law_told) .none kV67 dc67 pm67 an67 cd67 ct67), sl67⟩)
    (c67 : PySem.W.codeIn K cd67 "_law_told" = true)
    (k67 : PySem.W.keepIn K (.ref f67) = true)
    (a68 : PySem.W.nsIn K mainGlobals "_law_right" = some (some (.ref f68)))
    (l68 : K.lookup f68 = some ⟨oc68, od68, .func (PySem.W.fnOf "_law_right" "_law_right" (defArgs s__law_right) (defBody s__law_right) (defScope s__law_right) .none kV68 dc68 pm68 an68 cd68 ct68), sl68⟩)
    (c68 : PySem.W.codeIn K cd68 "_law_right" = true)
    (k68 : PySem.W.keepIn K (.ref f68) = true)
    (a69 : PySem.W.nsIn K mainGlobals "_law_second" = some (some (.ref f69)))
    (l69 : K.lookup f69 = some ⟨oc69, od69, .func (PySem.W.fnOf "_law_second" "_law_second" (defArgs s__law_second) (defBody s__law_second) (defScope s__law_second) .none kV69 dc69 pm69 an69 cd69 ct69), sl69⟩)
    (c69 : PySem.W.codeIn K cd69 "_law_second" = true)
    (k69 : PySem.W.keepIn K (.ref f69) = true)
    (a70 : PySem.W.nsIn K mainGlobals "law" = some (some (.ref f70)))
    (l70 : K.lookup f70 = some ⟨oc70, od70, .func (PySem.W.fnOf "law" "law" (defArgs s_law) (defBody s_law) (defScope s_law) .none kV70 dc70 pm70 an70 cd70 ct70), sl70⟩)
    (c70 : PySem.W.codeIn K cd70 "law" = true)
    (k70 : PySem.W.keepIn K (.ref f70) = true)
    (z_ANY_SIGNS : PySem.W.nsIn K mainGlobals "ANY_SIGNS" = some (some (.str ((Str.ofString "<any>")) t_ANY_SIGNS)))
    (z_DIGIT_SIGNS : PySem.W.nsIn K mainGlobals "DIGIT_SIGNS" = some (some (.str ((Str.ofString "0123456789")) t_DIGIT_SIGNS)))
    (z_FIELDS : PySem.W.nsIn K mainGlobals "FIELDS" = some (some (.ref a_FIELDS)))
    (y_FIELDS : K.lookup a_FIELDS = some ⟨.type "tuple", td_FIELDS, .seq #[.str (Str.ofString "most") t_FIELDS_0, .str (Str.ofString "alone") t_FIELDS_1, .str (Str.ofString "tags") t_FIELDS_2, .str (Str.ofString "quiet") t_FIELDS_3] tn_FIELDS, tl_FIELDS⟩)
    (z_LETTER_SIGNS : PySem.W.nsIn K mainGlobals "LETTER_SIGNS" = some (some (.str ((Str.ofString "ABCDEFGHIJKLMNOPQRSTUVWXYZabcdefghijklmnopqrstuvwxyz")) t_LETTER_SIGNS)))
    (z_MOST_FORMS : PySem.W.nsIn K mainGlobals "MOST_FORMS" = some (some (.int (3) t_MOST_FORMS)))
    (z_MOST_LINES : PySem.W.nsIn K mainGlobals "MOST_LINES" = some (some (.int (20) t_MOST_LINES)))
    (z_MOST_MARKS : PySem.W.nsIn K mainGlobals "MOST_MARKS" = some (some (.int (6) t_MOST_MARKS)))
    (z_MOST_PARTS : PySem.W.nsIn K mainGlobals "MOST_PARTS" = some (some (.int (4) t_MOST_PARTS)))
    (z_MOST_SIGNS : PySem.W.nsIn K mainGlobals "MOST_SIGNS" = some (some (.int (4) t_MOST_SIGNS)))
    (z_MOST_TAGS : PySem.W.nsIn K mainGlobals "MOST_TAGS" = some (some (.int (9) t_MOST_TAGS)))
    (z_OPEN_PARTS : PySem.W.nsIn K mainGlobals "OPEN_PARTS" = some (some (.ref a_OPEN_PARTS)))
    (y_OPEN_PARTS : K.lookup a_OPEN_PARTS = some ⟨.type "tuple", td_OPEN_PARTS, .seq #[.str (Str.ofString "<digits>") t_OPEN_PARTS_0, .str (Str.ofString "<word>") t_OPEN_PARTS_1, .str (Str.ofString "<any>") t_OPEN_PARTS_2] tn_OPEN_PARTS, tl_OPEN_PARTS⟩)
    (z_SIGNS : PySem.W.nsIn K mainGlobals "SIGNS" = some (some (.str ((Str.ofString " #-.0123456789:>ABCDEFGHIJKLMNOPQRSTUVWXYZabcdefghijklmnopqrstuvwxyz")) t_SIGNS)))
    (z_SOME_DIGITS : PySem.W.nsIn K mainGlobals "SOME_DIGITS" = some (some (.str ((Str.ofString "<digits>")) t_SOME_DIGITS)))
    (z_SOME_LETTERS : PySem.W.nsIn K mainGlobals "SOME_LETTERS" = some (some (.str ((Str.ofString "<word>")) t_SOME_LETTERS)))
    (z_all : PySem.W.nsIn K mainGlobals "all" = some none)
    (z_any : PySem.W.nsIn K mainGlobals "any" = some none)
    (z_bool : PySem.W.nsIn K mainGlobals "bool" = some none)
    (z_int : PySem.W.nsIn K mainGlobals "int" = some none)
    (z_isinstance : PySem.W.nsIn K mainGlobals "isinstance" = some none)
    (z_len : PySem.W.nsIn K mainGlobals "len" = some none)
    (z_list : PySem.W.nsIn K mainGlobals "list" = some none)
    (z_max : PySem.W.nsIn K mainGlobals "max" = some none)
    (z_min : PySem.W.nsIn K mainGlobals "min" = some none)
    (z_range : PySem.W.nsIn K mainGlobals "range" = some none)
    (z_str : PySem.W.nsIn K mainGlobals "str" = some none)
    (z_tuple : PySem.W.nsIn K mainGlobals "tuple" = some none)
    (aC_Both : PySem.W.nsIn K mainGlobals "Both" = some (some (.ref C_Both)))
    (aC_Either : PySem.W.nsIn K mainGlobals "Either" = some (some (.ref C_Either)))
    (aC_Form : PySem.W.nsIn K mainGlobals "Form" = some (some (.ref C_Form)))
    (aC_Gluer : PySem.W.nsIn K mainGlobals "Gluer" = some (some (.ref C_Gluer)))
    (aC_Keeper : PySem.W.nsIn K mainGlobals "Keeper" = some (some (.ref C_Keeper)))
    (aC_Rule : PySem.W.nsIn K mainGlobals "Rule" = some (some (.ref C_Rule)))
    (pg_Both : PySem.W.plainGet K C_Both Str.empty = true) (hd_Both : PySem.W.hasDictIn K C_Both = true) (po_Both : PySem.W.plainOver K C_Both = true) (sa_Both : PySem.W.findIn K (.ref C_Both) "__setattr__" = some (some (.builtin "object.__setattr__"))) (mk_Both : PySem.W.makesIn K C_Both = true) (kc_Both : PySem.W.keepIn K (.ref C_Both) = true)
    (n_Both__one : PySem.W.findIn K (.ref C_Both) "_one" = some none)
    (n_Both__other : PySem.W.findIn K (.ref C_Both) "_other" = some none)
    (pg_Either : PySem.W.plainGet K C_Either Str.empty = true) (hd_Either : PySem.W.hasDictIn K C_Either = true) (po_Either : PySem.W.plainOver K C_Either = true) (sa_Either : PySem.W.findIn K (.ref C_Either) "__setattr__" = some (some (.builtin "object.__setattr__"))) (mk_Either : PySem.W.makesIn K C_Either = true) (kc_Either : PySem.W.keepIn K (.ref C_Either) = true)
    (n_Either__one : PySem.W.findIn K (.ref C_Either) "_one" = some none)
    (n_Either__other : PySem.W.findIn K (.ref C_Either) "_other" = some none)
    (pg_Form : PySem.W.plainGet K C_Form Str.empty = true) (hd_Form : PySem.W.hasDictIn K C_Form = true) (po_Form : PySem.W.plainOver K C_Form = true) (sa_Form : PySem.W.findIn K (.ref C_Form) "__setattr__" = some (some (.builtin "object.__setattr__"))) (mk_Form : PySem.W.makesIn K C_Form = true) (kc_Form : PySem.W.keepIn K (.ref C_Form) = true)
    (n_Form__cells : PySem.W.findIn K (.ref C_Form) "_cells" = some none)
    (n_Form__parts : PySem.W.findIn K (.ref C_Form) "_parts" = some none)
    (pg_Gluer : PySem.W.plainGet K C_Gluer Str.empty = true) (hd_Gluer : PySem.W.hasDictIn K C_Gluer = true) (po_Gluer : PySem.W.plainOver K C_Gluer = true) (sa_Gluer : PySem.W.findIn K (.ref C_Gluer) "__setattr__" = some (some (.builtin "object.__setattr__"))) (mk_Gluer : PySem.W.makesIn K C_Gluer = true) (kc_Gluer : PySem.W.keepIn K (.ref C_Gluer) = true)
    (n_Gluer__keeper : PySem.W.findIn K (.ref C_Gluer) "_keeper" = some none)
    (n_Gluer__many : PySem.W.findIn K (.ref C_Gluer) "_many" = some none)
    (pg_Keeper : PySem.W.plainGet K C_Keeper Str.empty = true) (hd_Keeper : PySem.W.hasDictIn K C_Keeper = true) (po_Keeper : PySem.W.plainOver K C_Keeper = true) (sa_Keeper : PySem.W.findIn K (.ref C_Keeper) "__setattr__" = some (some (.builtin "object.__setattr__"))) (mk_Keeper : PySem.W.makesIn K C_Keeper = true) (kc_Keeper : PySem.W.keepIn K (.ref C_Keeper) = true)
    (n_Keeper__kept : PySem.W.findIn K (.ref C_Keeper) "_kept" = some none)
    (n_Keeper__rule : PySem.W.findIn K (.ref C_Keeper) "_rule" = some none)
    (pg_Rule : PySem.W.plainGet K C_Rule Str.empty = true) (hd_Rule : PySem.W.hasDictIn K C_Rule = true) (po_Rule : PySem.W.plainOver K C_Rule = true) (sa_Rule : PySem.W.findIn K (.ref C_Rule) "__setattr__" = some (some (.builtin "object.__setattr__"))) (mk_Rule : PySem.W.makesIn K C_Rule = true) (kc_Rule : PySem.W.keepIn K (.ref C_Rule) = true)
    (n_Rule__alone : PySem.W.findIn K (.ref C_Rule) "_alone" = some none)
    (n_Rule__begins : PySem.W.findIn K (.ref C_Rule) "_begins" = some none)
    (n_Rule__ends : PySem.W.findIn K (.ref C_Rule) "_ends" = some none)
    (n_Rule__most : PySem.W.findIn K (.ref C_Rule) "_most" = some none)
    (n_Rule__quiet : PySem.W.findIn K (.ref C_Rule) "_quiet" = some none)
    (n_Rule__tags : PySem.W.findIn K (.ref C_Rule) "_tags" = some none)
    : ∃ fd : FuncData, (∀ (s : Shared) (v : Value), BindsTo s fd ⟨[v], []⟩ [("script", v)]) ∧ ∀ base : Heap, K.In base → base.Ns mainGlobals mg → FnOk l.prog w K mg base CX0 13 fa fd ["script"] (spLaw K) := by
  have e := hfa.symm.trans (PySem.W.mg_of X G a70)
  cases e
  have T : Txt K mg a_FIELDS a_OPEN_PARTS C_Both C_Either C_Form C_Gluer C_Keeper C_Rule := { c_ANY_SIGNS := ⟨_, PySem.W.mg_of X G z_ANY_SIGNS, ⟨_, rfl⟩⟩, c_DIGIT_SIGNS := ⟨_, PySem.W.mg_of X G z_DIGIT_SIGNS, ⟨_, rfl⟩⟩, c_FIELDS := ⟨_, PySem.W.mg_of X G z_FIELDS, rfl⟩, o_FIELDS := ⟨_, _, _, y_FIELDS, rfl, rfl, sz_of (by simp), (.cons ⟨_, rfl⟩ (.cons ⟨_, rfl⟩ (.cons ⟨_, rfl⟩ (.cons ⟨_, rfl⟩ .nil))))⟩, c_LETTER_SIGNS := ⟨_, PySem.W.mg_of X G z_LETTER_SIGNS, ⟨_, rfl⟩⟩, c_MOST_FORMS := ⟨_, PySem.W.mg_of X G z_MOST_FORMS, ⟨_, rfl⟩⟩, c_MOST_LINES := ⟨_, PySem.W.mg_of X G z_MOST_LINES, ⟨_, rfl⟩⟩, c_MOST_MARKS := ⟨_, PySem.W.mg_of X G z_MOST_MARKS, ⟨_, rfl⟩⟩, c_MOST_PARTS := ⟨_, PySem.W.mg_of X G z_MOST_PARTS, ⟨_, rfl⟩⟩, c_MOST_SIGNS := ⟨_, PySem.W.mg_of X G z_MOST_SIGNS, ⟨_, rfl⟩⟩, c_MOST_TAGS := ⟨_, PySem.W.mg_of X G z_MOST_TAGS, ⟨_, rfl⟩⟩, c_OPEN_PARTS := ⟨_, PySem.W.mg_of X G z_OPEN_PARTS, rfl⟩, o_OPEN_PARTS := ⟨_, _, _, y_OPEN_PARTS, rfl, rfl, sz_of (by simp), (.cons ⟨_, rfl⟩ (.cons ⟨_, rfl⟩ (.cons ⟨_, rfl⟩ .nil)))⟩, c_SIGNS := ⟨_, PySem.W.mg_of X G z_SIGNS, ⟨_, rfl⟩⟩, c_SOME_DIGITS := ⟨_, PySem.W.mg_of X G z_SOME_DIGITS, ⟨_, rfl⟩⟩, c_SOME_LETTERS := ⟨_, PySem.W.mg_of X G z_SOME_LETTERS, ⟨_, rfl⟩⟩, n_all := PySem.W.mg_none_of X G z_all, n_any := PySem.W.mg_none_of X G z_any, n_bool := PySem.W.mg_none_of X G z_bool, n_int := PySem.W.mg_none_of X G z_int, n_isinstance := PySem.W.mg_none_of X G z_isinstance, n_len := PySem.W.mg_none_of X G z_len, n_list := PySem.W.mg_none_of X G z_list, n_max := PySem.W.mg_none_of X G z_max, n_min := PySem.W.mg_none_of X G z_min, n_range := PySem.W.mg_none_of X G z_range, n_str := PySem.W.mg_none_of X G z_str, n_tuple := PySem.W.mg_none_of X G z_tuple, k_Both := ⟨pg_Both, hd_Both, po_Both, sa_Both⟩, a_Both__one := n_Both__one, a_Both__other := n_Both__other, k_Either := ⟨pg_Either, hd_Either, po_Either, sa_Either⟩, a_Either__one := n_Either__one, a_Either__other := n_Either__other, k_Form := ⟨pg_Form, hd_Form, po_Form, sa_Form⟩, a_Form__cells := n_Form__cells, a_Form__parts := n_Form__parts, k_Gluer := ⟨pg_Gluer, hd_Gluer, po_Gluer, sa_Gluer⟩, a_Gluer__keeper := n_Gluer__keeper, a_Gluer__many := n_Gluer__many, k_Keeper := ⟨pg_Keeper, hd_Keeper, po_Keeper, sa_Keeper⟩, a_Keeper__kept := n_Keeper__kept, a_Keeper__rule := n_Keeper__rule, k_Rule := ⟨pg_Rule, hd_Rule, po_Rule, sa_Rule⟩, a_Rule__alone := n_Rule__alone, a_Rule__begins := n_Rule__begins, a_Rule__ends := n_Rule__ends, a_Rule__most := n_Rule__most, a_Rule__quiet := n_Rule__quiet, a_Rule__tags := n_Rule__tags }
  have F0 := fun_mk (st := s__law_take) l0 c0 k0
  have b0 := F0.binds (ps := ["pool", "many"]) fun _ _ _ _ _ _ us hl => match us, hl with | [_, _], _ => rfl
  have F1 := fun_mk (st := s__law_pool) l1 c1 k1
  have b1 := F1.binds (ps := ["script", "k"]) fun _ _ _ _ _ _ us hl => match us, hl with | [_, _], _ => rfl
  have F2 := fun_mk (st := s__law_all_signs) l2 c2 k2
  have b2 := F2.binds (ps := []) fun _ _ _ _ _ _ us hl => match us, hl with | [], _ => rfl
  have F3 := fun_mk (st := s_is_line) l3 c3 k3
  have b3 := F3.binds (ps := ["thing"]) fun _ _ _ _ _ _ us hl => match us, hl with | [_], _ => rfl
  have F4 := fun_mk (st := s__takes) l4 c4 k4
  have b4 := F4.binds (ps := ["cell", "sign"]) fun _ _ _ _ _ _ us hl => match us, hl with | [_, _], _ => rfl
  have F5 := fun_mk (st := s__closed) l5 c5 k5
  have b5 := F5.binds (ps := ["cells", "positions"]) fun _ _ _ _ _ _ us hl => match us, hl with | [_, _], _ => rfl
  have F6 := fun_mk (st := s_started) l6 c6 k6
  have b6 := F6.binds (ps := ["cells"]) fun _ _ _ _ _ _ us hl => match us, hl with | [_], _ => rfl
  have F7 := fun_mk (st := s_moved) l7 c7 k7
  have b7 := F7.binds (ps := ["cells", "positions", "sign"]) fun _ _ _ _ _ _ us hl => match us, hl with | [_, _, _], _ => rfl
  have F8 := fun_mk (st := s_is_done) l8 c8 k8
  have b8 := F8.binds (ps := ["cells", "positions"]) fun _ _ _ _ _ _ us hl => match us, hl with | [_, _], _ => rfl
  have F9 := fun_mk (st := s_cells_of) l9 c9 k9
  have b9 := F9.binds (ps := ["parts"]) fun _ _ _ _ _ _ us hl => match us, hl with | [_], _ => rfl
  have F10 := fun_mk (st := s__law_text) l10 c10 k10
  have b10 := F10.binds (ps := ["pool"]) fun _ _ _ _ _ _ us hl => match us, hl with | [_], _ => rfl
  have F11 := fun_mk (st := s__law_parts) l11 c11 k11
  have b11 := F11.binds (ps := ["pool"]) fun _ _ _ _ _ _ us hl => match us, hl with | [_], _ => rfl
  have F12 := fun_mk (st := s__law_ends) l12 c12 k12
  have b12 := F12.binds (ps := ["part", "line", "at"]) fun _ _ _ _ _ _ us hl => match us, hl with | [_, _, _], _ => rfl
  have F13 := fun_mk (st := s__law_fits) l13 c13 k13
  have b13 := F13.binds (ps := ["parts", "line"]) fun _ _ _ _ _ _ us hl => match us, hl with | [_, _], _ => rfl
  have F14 := fun_mk (st := s__is_allowed) l14 c14 k14
  have b14 := F14.binds (ps := ["parts", "at"]) fun _ _ _ _ _ _ us hl => match us, hl with | [_, _], _ => rfl
  have F15 := fun_mk (st := s_Form___init__) l15 c15 k15
  have F16 := fun_mk (st := s_Form_parts) l16 c16 k16
  have b16 := F16.binds (ps := ["self"]) fun _ _ _ _ _ _ us hl => match us, hl with | [_], _ => rfl
  have F17 := fun_mk (st := s_Form___contains__) l17 c17 k17
  have b17 := F17.binds (ps := ["self", "line"]) fun _ _ _ _ _ _ us hl => match us, hl with | [_, _], _ => rfl
  have F18 := fun_mk (st := s__law_form) l18 c18 k18
  have b18 := F18.binds (ps := ["parts"]) fun _ _ _ _ _ _ us hl => match us, hl with | [_], _ => rfl
  have F19 := fun_mk (st := s_Form_forms) l19 c19 k19
  have b19 := F19.binds (ps := ["self"]) fun _ _ _ _ _ _ us hl => match us, hl with | [_], _ => rfl
  have F20 := fun_mk (st := s_Form___str__) l20 c20 k20
  have b20 := F20.binds (ps := ["self"]) fun _ _ _ _ _ _ us hl => match us, hl with | [_], _ => rfl
  have F21 := fun_mk (st := s_Both_forms) l21 c21 k21
  have b21 := F21.binds (ps := ["self"]) fun _ _ _ _ _ _ us hl => match us, hl with | [_], _ => rfl
  have F22 := fun_mk (st := s_Both___contains__) l22 c22 k22
  have b22 := F22.binds (ps := ["self", "line"]) fun _ _ _ _ _ _ us hl => match us, hl with | [_, _], _ => rfl
  have F23 := fun_mk (st := s_Both___str__) l23 c23 k23
  have b23 := F23.binds (ps := ["self"]) fun _ _ _ _ _ _ us hl => match us, hl with | [_], _ => rfl
  have F24 := fun_mk (st := s_Either_forms) l24 c24 k24
  have b24 := F24.binds (ps := ["self"]) fun _ _ _ _ _ _ us hl => match us, hl with | [_], _ => rfl
  have F25 := fun_mk (st := s_Either___contains__) l25 c25 k25
  have b25 := F25.binds (ps := ["self", "line"]) fun _ _ _ _ _ _ us hl => match us, hl with | [_, _], _ => rfl
  have F26 := fun_mk (st := s_Either___str__) l26 c26 k26
  have b26 := F26.binds (ps := ["self"]) fun _ _ _ _ _ _ us hl => match us, hl with | [_], _ => rfl
  have F27 := fun_mk (st := s__check_room) l27 c27 k27
  have b27 := F27.binds (ps := ["one", "other"]) fun _ _ _ _ _ _ us hl => match us, hl with | [_, _], _ => rfl
  have F28 := fun_mk (st := s_Both___init__) l28 c28 k28
  have b28 := F28.binds (ps := ["self", "one", "other"]) fun _ _ _ _ _ _ us hl => match us, hl with | [_, _, _], _ => rfl
  have F29 := fun_mk (st := s_Either___init__) l29 c29 k29
  have b29 := F29.binds (ps := ["self", "one", "other"]) fun _ _ _ _ _ _ us hl => match us, hl with | [_, _, _], _ => rfl
  have F30 := fun_mk (st := s_Form___and__) l30 c30 k30
  have b30 := F30.binds (ps := ["self", "other"]) fun _ _ _ _ _ _ us hl => match us, hl with | [_, _], _ => rfl
  have F31 := fun_mk (st := s_Form___or__) l31 c31 k31
  have b31 := F31.binds (ps := ["self", "other"]) fun _ _ _ _ _ _ us hl => match us, hl with | [_, _], _ => rfl
  have F32 := fun_mk (st := s_Both___and__) l32 c32 k32
  have b32 := F32.binds (ps := ["self", "other"]) fun _ _ _ _ _ _ us hl => match us, hl with | [_, _], _ => rfl
  have F33 := fun_mk (st := s_Both___or__) l33 c33 k33
  have b33 := F33.binds (ps := ["self", "other"]) fun _ _ _ _ _ _ us hl => match us, hl with | [_, _], _ => rfl
  have F34 := fun_mk (st := s__law_tree) l34 c34 k34
  have b34 := F34.binds (ps := ["pool"]) fun _ _ _ _ _ _ us hl => match us, hl with | [_], _ => rfl
  have F35 := fun_mk (st := s__law_built) l35 c35 k35
  have b35 := F35.binds (ps := ["tree"]) fun _ _ _ _ _ _ us hl => match us, hl with | [_], _ => rfl
  have F36 := fun_mk (st := s__law_bears) l36 c36 k36
  have b36 := F36.binds (ps := ["tree", "line"]) fun _ _ _ _ _ _ us hl => match us, hl with | [_, _], _ => rfl
  have F37 := fun_mk (st := s__law_line) l37 c37 k37
  have b37 := F37.binds (ps := ["pool", "parts"]) fun _ _ _ _ _ _ us hl => match us, hl with | [_, _], _ => rfl
  have F38 := fun_mk (st := s__law_written) l38 c38 k38
  have b38 := F38.binds (ps := ["pool", "tree"]) fun _ _ _ _ _ _ us hl => match us, hl with | [_, _], _ => rfl
  have F39 := fun_mk (st := s__is_number) l39 c39 k39
  have b39 := F39.binds (ps := ["value", "low", "high"]) fun _ _ _ _ _ _ us hl => match us, hl with | [_, _, _], _ => rfl
  have F40 := fun_mk (st := s__check) l40 c40 k40
  have b40 := F40.binds (ps := ["field", "value"]) fun _ _ _ _ _ _ us hl => match us, hl with | [_, _], _ => rfl
  have F41 := fun_mk (st := s_Rule___init__) l41 c41 k41
  have F42 := fun_mk (st := s_Rule_most) l42 c42 k42
  have b42 := F42.binds (ps := ["self"]) fun _ _ _ _ _ _ us hl => match us, hl with | [_], _ => rfl
  have F43 := fun_mk (st := s_Rule_alone) l43 c43 k43
  have b43 := F43.binds (ps := ["self"]) fun _ _ _ _ _ _ us hl => match us, hl with | [_], _ => rfl
  have F44 := fun_mk (st := s_Rule_tags) l44 c44 k44
  have b44 := F44.binds (ps := ["self"]) fun _ _ _ _ _ _ us hl => match us, hl with | [_], _ => rfl
  have F45 := fun_mk (st := s_Rule_quiet) l45 c45 k45
  have b45 := F45.binds (ps := ["self"]) fun _ _ _ _ _ _ us hl => match us, hl with | [_], _ => rfl
  have F46 := fun_mk (st := s_Rule_begins) l46 c46 k46
  have b46 := F46.binds (ps := ["self"]) fun _ _ _ _ _ _ us hl => match us, hl with | [_], _ => rfl
  have F47 := fun_mk (st := s_Rule_ends) l47 c47 k47
  have b47 := F47.binds (ps := ["self"]) fun _ _ _ _ _ _ us hl => match us, hl with | [_], _ => rfl
  have F48 := fun_mk (st := s_Rule_begins_on) l48 c48 k48
  have b48 := F48.binds (ps := ["self", "line"]) fun _ _ _ _ _ _ us hl => match us, hl with | [_, _], _ => rfl
  have F49 := fun_mk (st := s_Rule_ends_on) l49 c49 k49
  have b49 := F49.binds (ps := ["self", "line"]) fun _ _ _ _ _ _ us hl => match us, hl with | [_, _], _ => rfl
  have F50 := fun_mk (st := s_Keeper__shut) l50 c50 k50
  have b50 := F50.binds (ps := ["self", "tags"]) fun _ _ _ _ _ _ us hl => match us, hl with | [_, _], _ => rfl
  have F51 := fun_mk (st := s_Keeper__too_many) l51 c51 k51
  have b51 := F51.binds (ps := ["self"]) fun _ _ _ _ _ _ us hl => match us, hl with | [_], _ => rfl
  have F52 := fun_mk (st := s_Keeper_waiting) l52 c52 k52
  have b52 := F52.binds (ps := ["self"]) fun _ _ _ _ _ _ us hl => match us, hl with | [_], _ => rfl
  have F53 := fun_mk (st := s_Keeper_take) l53 c53 k53
  have b53 := F53.binds (ps := ["self", "line", "tag", "thing"]) fun _ _ _ _ _ _ us hl => match us, hl with | [_, _, _, _], _ => rfl
  have F54 := fun_mk (st := s_Keeper___init__) l54 c54 k54
  have b54 := F54.binds (ps := ["self", "rule"]) fun _ _ _ _ _ _ us hl => match us, hl with | [_, _], _ => rfl
  have F55 := fun_mk (st := s_Gluer__counted) l55 c55 k55
  have b55 := F55.binds (ps := ["self", "given"]) fun _ _ _ _ _ _ us hl => match us, hl with | [_, _], _ => rfl
  have F56 := fun_mk (st := s_Gluer_many) l56 c56 k56
  have b56 := F56.binds (ps := ["self"]) fun _ _ _ _ _ _ us hl => match us, hl with | [_], _ => rfl
  have F57 := fun_mk (st := s_Gluer___init__) l57 c57 k57
  have b57 := F57.binds (ps := ["self", "rule"]) fun _ _ _ _ _ _ us hl => match us, hl with | [_, _], _ => rfl
  have F58 : FunP K "__call__" "Gluer.__call__" s_Gluer___call__ [.non] f58 _ := ⟨⟨_, _, _, _, _, _, _, _, _, _, rfl, l58, c58, .inr ⟨by simp, dT58, _, [.none], dn58, rfl, y58, rfl, (.cons rfl .nil)⟩, .inl rfl⟩, k58⟩
  have F59 := fun_mk (st := s_Gluer_waiting) l59 c59 k59
  have b59 := F59.binds (ps := ["self"]) fun _ _ _ _ _ _ us hl => match us, hl with | [_], _ => rfl
  have F60 := fun_mk (st := s__law_rule) l60 c60 k60
  have b60 := F60.binds (ps := ["pool"]) fun _ _ _ _ _ _ us hl => match us, hl with | [_], _ => rfl
  have F61 := fun_mk (st := s__law_marks) l61 c61 k61
  have b61 := F61.binds (ps := ["trees"]) fun _ _ _ _ _ _ us hl => match us, hl with | [_], _ => rfl
  have F62 := fun_mk (st := s__law_ruled) l62 c62 k62
  have b62 := F62.binds (ps := ["rule"]) fun _ _ _ _ _ _ us hl => match us, hl with | [_], _ => rfl
  have F63 := fun_mk (st := s__law_marked) l63 c63 k63
  have b63 := F63.binds (ps := ["trees", "line"]) fun _ _ _ _ _ _ us hl => match us, hl with | [_, _], _ => rfl
  have F64 := fun_mk (st := s__law_row) l64 c64 k64
  have b64 := F64.binds (ps := ["pool", "rule"]) fun _ _ _ _ _ _ us hl => match us, hl with | [_, _], _ => rfl
  have F65 := fun_mk (st := s__law_fed) l65 c65 k65
  have b65 := F65.binds (ps := ["rule", "held", "line", "some_tag", "thing"]) fun _ _ _ _ _ _ us hl => match us, hl with | [_, _, _, _, _], _ => rfl
  have F66 := fun_mk (st := s_Rule_change) l66 c66 k66
  have F67 := fun_mk (st := s__law_told) l67 c67 k67
  have b67 := F67.binds (ps := ["gluer", "held", "given"]) fun _ _ _ _ _ _ us hl => match us, hl with | [_, _, _], _ => rfl
  have F68 := fun_mk (st := s__law_right) l68 c68 k68
  have b68 := F68.binds (ps := ["rule", "lines"]) fun _ _ _ _ _ _ us hl => match us, hl with | [_, _], _ => rfl
  have F69 := fun_mk (st := s__law_second) l69 c69 k69
  have b69 := F69.binds (ps := ["rule", "lines"]) fun _ _ _ _ _ _ us hl => match us, hl with | [_, _], _ => rfl
  have F70 := fun_mk (st := s_law) l70 c70 k70
  refine ⟨PySem.W.fnOf "law" "law" (defArgs s_law) (defBody s_law) (defScope s_law) .none kV70 dc70 pm70 an70 cd70 ct70, fun s v => .of_eq rfl, fun base _ _ => ?_⟩
  have D__law_take : Df l.prog w K mg base "_law_take" ["pool", "many"] 1 spTake := ⟨f0, _, PySem.W.mg_of X G a0, k0, b0, ok__law_take F0 T⟩
  have D__law_pool : Df l.prog w K mg base "_law_pool" ["script", "k"] 1 (spPool K) := ⟨f1, _, PySem.W.mg_of X G a1, k1, b1, ok__law_pool F1 T⟩
  have D__law_all_signs : Df l.prog w K mg base "_law_all_signs" [] 1 (spK (.str signsS)) := ⟨f2, _, PySem.W.mg_of X G a2, k2, b2, ok__law_all_signs F2⟩
  have D_is_line : Df l.prog w K mg base "is_line" ["thing"] 1 (spIsLine K) := ⟨f3, _, PySem.W.mg_of X G a3, k3, b3, ok_is_line F3 T⟩
  have D__takes : Df l.prog w K mg base "_takes" ["cell", "sign"] 1 spTakes := ⟨f4, _, PySem.W.mg_of X G a4, k4, b4, ok__takes F4 T⟩
  have D__closed : Df l.prog w K mg base "_closed" ["cells", "positions"] 1 (spClosed K) := ⟨f5, _, PySem.W.mg_of X G a5, k5, b5, ok__closed F5 T⟩
  have D_started : Df l.prog w K mg base "started" ["cells"] 2 (spStarted K) := ⟨f6, _, PySem.W.mg_of X G a6, k6, b6, ok_started F6 T D__closed⟩
  have D_moved : Df l.prog w K mg base "moved" ["cells", "positions", "sign"] 2 (spMoved K) := ⟨f7, _, PySem.W.mg_of X G a7, k7, b7, ok_moved F7 T D__takes D__closed⟩
  have D_is_done : Df l.prog w K mg base "is_done" ["cells", "positions"] 1 (spIsDone K) := ⟨f8, _, PySem.W.mg_of X G a8, k8, b8, ok_is_done F8 T⟩
  have D_cells_of : Df l.prog w K mg base "cells_of" ["parts"] 1 (spCells K) := ⟨f9, _, PySem.W.mg_of X G a9, k9, b9, ok_cells_of F9 T⟩
  have D_cells_of__t : Df l.prog w K mg base "cells_of" ["parts"] 1 (spCellsT K) := ⟨f9, _, PySem.W.mg_of X G a9, k9, b9, ok_cells_of__t F9 T⟩
  have D__law_text : Df l.prog w K mg base "_law_text" ["pool"] 2 (spPT lawText) := ⟨f10, _, PySem.W.mg_of X G a10, k10, b10, ok__law_text F10 T D__law_take D__law_all_signs⟩
  have D__law_parts : Df l.prog w K mg base "_law_parts" ["pool"] 3 spRich := ⟨f11, _, PySem.W.mg_of X G a11, k11, b11, ok__law_parts F11 T D__law_take D__law_text⟩
  have D__law_ends : Df l.prog w K mg base "_law_ends" ["part", "line", "at"] 2 spEnds := ⟨f12, _, PySem.W.mg_of X G a12, k12, b12, ok__law_ends F12 T⟩
  have D__law_fits : Df l.prog w K mg base "_law_fits" ["parts", "line"] 3 (spFits K) := ⟨f13, _, PySem.W.mg_of X G a13, k13, b13, ok__law_fits F13 T D__law_ends⟩
  have D__is_allowed : Df l.prog w K mg base "_is_allowed" ["parts", "at"] 2 (spAllowed K) := ⟨f14, _, PySem.W.mg_of X G a14, k14, b14, ok__is_allowed F14 T D_is_line⟩
  have D_Form___init__ : DfS l.prog w K mg base "Form" C_Form 3 (spForm C_Form) := ⟨f15, ⟨mk_Form, a15, i15, kc_Form⟩, PySem.W.mg_of X G aC_Form, ok_Form___init__ F15 T D__is_allowed D_cells_of__t⟩
  have D_Form_parts : DfM l.prog w K mg base C_Form "parts" ["self"] 1 (spParts C_Form) := ⟨f16, _, ⟨a16, i16, k16⟩, b16, ok_Form_parts F16 T⟩
  have D_Form___contains__ : DfC l.prog w K mg base C_Form "__contains__" ["self", "line"] 3 (spIn C_Form) := ⟨f17, _, a17, j17, b17, ok_Form___contains__ F17 T D_is_line D_started D_moved D_is_done⟩
  have D__law_form : Df l.prog w K mg base "_law_form" ["parts"] 5 (spLawForm K C_Form) := ⟨f18, _, PySem.W.mg_of X G a18, k18, b18, ok__law_form F18 T D_Form___init__⟩
  have D_Form_forms : DfM l.prog w K mg base C_Form "forms" ["self"] 1 (spForms C_Form C_Both C_Either none 0) := ⟨f19, _, ⟨a19, i19, k19⟩, b19, ok_Form_forms F19 T⟩
  have D_Form___str__ : DfSt l.prog w K mg base C_Form ["self"] 1 (spStrP C_Form C_Both C_Either none 0) := ⟨f20, _, ⟨⟨a20, i20⟩, fm_Form, ob_Form⟩, b20, ok_Form___str__ F20 T⟩
  have D_Both_forms__v1 : DfM l.prog w K mg base C_Both "forms" ["self"] 2 (spForms C_Form C_Both C_Either (some true) 1) := ⟨f21, _, ⟨a21, i21, k21⟩, b21, ok_Both_forms__v1 F21 T D_Form_forms⟩
  have D_Both___contains____v1 : DfC l.prog w K mg base C_Both "__contains__" ["self", "line"] 4 (spInP C_Form C_Both C_Either (some true) 1) := ⟨f22, _, a22, j22, b22, ok_Both___contains____v1 F22 T D_Form___contains__⟩
  have D_Both___str____v1 : DfSt l.prog w K mg base C_Both ["self"] 3 (spStrP C_Form C_Both C_Either (some true) 1) := ⟨f23, _, ⟨⟨a23, i23⟩, fm_Both, ob_Both⟩, b23, ok_Both___str____v1 F23 T D_Form___str__⟩
  have D_Either_forms__v1 : DfM l.prog w K mg base C_Either "forms" ["self"] 2 (spForms C_Form C_Both C_Either (some false) 1) := ⟨f24, _, ⟨a24, i24, k24⟩, b24, ok_Either_forms__v1 F24 T D_Form_forms⟩
  have D_Either___contains____v1 : DfC l.prog w K mg base C_Either "__contains__" ["self", "line"] 4 (spInP C_Form C_Both C_Either (some false) 1) := ⟨f25, _, a25, j25, b25, ok_Either___contains____v1 F25 T D_Form___contains__⟩
  have D_Either___str____v1 : DfSt l.prog w K mg base C_Either ["self"] 3 (spStrP C_Form C_Both C_Either (some false) 1) := ⟨f26, _, ⟨⟨a26, i26⟩, fm_Either, ob_Either⟩, b26, ok_Either___str____v1 F26 T D_Form___str__⟩
  have D_Both_forms__v2 : DfM l.prog w K mg base C_Both "forms" ["self"] 3 (spForms C_Form C_Both C_Either (some true) 2) := ⟨f21, _, ⟨a21, i21, k21⟩, b21, ok_Both_forms__v2 F21 T D_Form_forms D_Both_forms__v1 D_Either_forms__v1⟩
  have D_Both___contains____v2 : DfC l.prog w K mg base C_Both "__contains__" ["self", "line"] 5 (spInP C_Form C_Both C_Either (some true) 2) := ⟨f22, _, a22, j22, b22, ok_Both___contains____v2 F22 T D_Form___contains__ D_Both___contains____v1 D_Either___contains____v1⟩
  have D_Both___str____v2 : DfSt l.prog w K mg base C_Both ["self"] 5 (spStrP C_Form C_Both C_Either (some true) 2) := ⟨f23, _, ⟨⟨a23, i23⟩, fm_Both, ob_Both⟩, b23, ok_Both___str____v2 F23 T D_Form___str__ D_Both___str____v1 D_Either___str____v1⟩
  have D_Either_forms__v2 : DfM l.prog w K mg base C_Either "forms" ["self"] 3 (spForms C_Form C_Both C_Either (some false) 2) := ⟨f24, _, ⟨a24, i24, k24⟩, b24, ok_Either_forms__v2 F24 T D_Form_forms D_Both_forms__v1 D_Either_forms__v1⟩
  have D_Either___contains____v2 : DfC l.prog w K mg base C_Either "__contains__" ["self", "line"] 5 (spInP C_Form C_Both C_Either (some false) 2) := ⟨f25, _, a25, j25, b25, ok_Either___contains____v2 F25 T D_Form___contains__ D_Both___contains____v1 D_Either___contains____v1⟩
  have D_Either___str____v2 : DfSt l.prog w K mg base C_Either ["self"] 5 (spStrP C_Form C_Both C_Either (some false) 2) := ⟨f26, _, ⟨⟨a26, i26⟩, fm_Either, ob_Either⟩, b26, ok_Either___str____v2 F26 T D_Form___str__ D_Both___str____v1 D_Either___str____v1⟩
  have D__check_room : Df l.prog w K mg base "_check_room" ["one", "other"] 4 (spRoom0 C_Form C_Both C_Either) := ⟨f27, _, PySem.W.mg_of X G a27, k27, b27, ok__check_room F27 T D_Form_forms D_Both_forms__v2 D_Either_forms__v2⟩
  have D_Both___init__ : DfI l.prog w K mg base "Both" C_Both ["self", "one", "other"] 5 (spPair0 C_Both C_Form C_Both C_Either) := ⟨f28, _, ⟨mk_Both, a28, i28, kc_Both⟩, PySem.W.mg_of X G aC_Both, b28, ok_Both___init__ F28 T D__check_room⟩
  have D_Either___init__ : DfI l.prog w K mg base "Either" C_Either ["self", "one", "other"] 5 (spPair0 C_Either C_Form C_Both C_Either) := ⟨f29, _, ⟨mk_Either, a29, i29, kc_Either⟩, PySem.W.mg_of X G aC_Either, b29, ok_Either___init__ F29 T D__check_room⟩
  have D_Form___and__ : DfO l.prog w K mg base "and" C_Form ["self", "other"] 7 (spJoin0 true C_Form C_Both C_Either) := ⟨f30, _, ⟨fs_Form, a30, i30, rv30⟩, b30, fnok_cx (ok_Form___and__ F30 T D_Both___init__)⟩
  have D_Form___or__ : DfO l.prog w K mg base "or" C_Form ["self", "other"] 7 (spJoin0 false C_Form C_Both C_Either) := ⟨f31, _, ⟨fs_Form, a31, i31, rv31⟩, b31, fnok_cx (ok_Form___or__ F31 T D_Either___init__)⟩
  have D_Both___and__ : DfO l.prog w K mg base "and" C_Both ["self", "other"] 7 (spJoin0 true C_Form C_Both C_Either) := ⟨f32, _, ⟨fs_Both, a32, i32, rv32⟩, b32, fnok_cx (ok_Both___and__ F32 T D_Both___init__)⟩
  have D_Both___or__ : DfO l.prog w K mg base "or" C_Both ["self", "other"] 7 (spJoin0 false C_Form C_Both C_Either) := ⟨f33, _, ⟨fs_Both, a33, i33, rv33⟩, b33, fnok_cx (ok_Both___or__ F33 T D_Either___init__)⟩
  have D__law_tree : Df l.prog w K mg base "_law_tree" ["pool"] 4 spTree := ⟨f34, _, PySem.W.mg_of X G a34, k34, b34, ok__law_tree F34 T D__law_take D__law_text D__law_parts⟩
  have D__law_built : Df l.prog w K mg base "_law_built" ["tree"] 8 (spBuilt K C_Form C_Both C_Either) := ⟨f35, _, PySem.W.mg_of X G a35, k35, b35, ok__law_built F35 T D__law_form D_Form___and__ D_Form___or__⟩
  have D__law_bears : Df l.prog w K mg base "_law_bears" ["tree", "line"] 4 spBears := ⟨f36, _, PySem.W.mg_of X G a36, k36, b36, ok__law_bears F36 T D__law_fits⟩
  have D__law_line : Df l.prog w K mg base "_law_line" ["pool", "parts"] 3 (spLine2 K) := ⟨f37, _, PySem.W.mg_of X G a37, k37, b37, ok__law_line F37 T D__law_take D__law_text⟩
  have D__law_written : Df l.prog w K mg base "_law_written" ["pool", "tree"] 4 (spWritten K) := ⟨f38, _, PySem.W.mg_of X G a38, k38, b38, ok__law_written F38 T D__law_take D__law_text D__law_line⟩
  have D__is_number : Df l.prog w K mg base "_is_number" ["value", "low", "high"] 1 spIsNum := ⟨f39, _, PySem.W.mg_of X G a39, k39, b39, ok__is_number F39 T⟩
  have D__check : Df l.prog w K mg base "_check" ["field", "value"] 2 spCheck := ⟨f40, _, PySem.W.mg_of X G a40, k40, b40, ok__check F40 T D__is_number⟩
  have D_Rule___init__ : DfIK l.prog w K mg base "Rule" C_Rule ["self", "begins", "ends", "most", "alone", "tags", "quiet"] 2 ["most", "alone", "tags", "quiet"] 3 (spRuleI C_Rule C_Form C_Both C_Either K) := ⟨f41, _, ⟨mk_Rule, a41, i41, kc_Rule⟩, PySem.W.mg_of X G aC_Rule, ⟨fun s us ws _ h1 h2 => match us, h1, ws, h2 with | [_, _, _], _, [_, _, _, _], _ => .of_eq rfl, fun r1 r2 => r1.append r2⟩, ok_Rule___init__ F41 T D__check⟩
  have D_Rule_most : DfP l.prog w K mg base C_Rule "most" 1 (getSp C_Rule "_most") := ⟨p42, f42, _, ⟨a42, g42, t42, ⟨_, r42⟩⟩, b42, ok_Rule_most F42 T⟩
  have D_Rule_alone : DfP l.prog w K mg base C_Rule "alone" 1 (getSp C_Rule "_alone") := ⟨p43, f43, _, ⟨a43, g43, t43, ⟨_, r43⟩⟩, b43, ok_Rule_alone F43 T⟩
  have D_Rule_tags : DfP l.prog w K mg base C_Rule "tags" 1 (getSp C_Rule "_tags") := ⟨p44, f44, _, ⟨a44, g44, t44, ⟨_, r44⟩⟩, b44, ok_Rule_tags F44 T⟩
  have D_Rule_quiet : DfP l.prog w K mg base C_Rule "quiet" 1 (getSp C_Rule "_quiet") := ⟨p45, f45, _, ⟨a45, g45, t45, ⟨_, r45⟩⟩, b45, ok_Rule_quiet F45 T⟩
  have D_Rule_begins : DfM l.prog w K mg base C_Rule "begins" ["self"] 1 (spMarks C_Rule C_Form C_Both C_Either Rul.bs) := ⟨f46, _, ⟨a46, i46, k46⟩, b46, ok_Rule_begins F46 T⟩
  have D_Rule_ends : DfM l.prog w K mg base C_Rule "ends" ["self"] 1 (spMarks C_Rule C_Form C_Both C_Either Rul.es) := ⟨f47, _, ⟨a47, i47, k47⟩, b47, ok_Rule_ends F47 T⟩
  have D_Rule_begins_on : DfM l.prog w K mg base C_Rule "begins_on" ["self", "line"] 6 (spOn C_Rule C_Form C_Both C_Either Rul.bs) := ⟨f48, _, ⟨a48, i48, k48⟩, b48, ok_Rule_begins_on F48 T D_Form___contains__ D_Both___contains____v2 D_Either___contains____v2⟩
  have D_Rule_ends_on : DfM l.prog w K mg base C_Rule "ends_on" ["self", "line"] 6 (spOn C_Rule C_Form C_Both C_Either Rul.es) := ⟨f49, _, ⟨a49, i49, k49⟩, b49, ok_Rule_ends_on F49 T D_Form___contains__ D_Both___contains____v2 D_Either___contains____v2⟩
  have D_Keeper__shut : DfM l.prog w K mg base C_Keeper "_shut" ["self", "tags"] 1 (spShut l.prog w C_Keeper C_Rule C_Form C_Both C_Either) := ⟨f50, _, ⟨a50, i50, k50⟩, b50, ok_Keeper__shut F50 T⟩
  have D_Keeper__too_many : DfM l.prog w K mg base C_Keeper "_too_many" ["self"] 3 (spMany l.prog w C_Keeper C_Rule C_Form C_Both C_Either) := ⟨f51, _, ⟨a51, i51, k51⟩, b51, ok_Keeper__too_many F51 T D_Rule_tags⟩
  have D_Keeper_waiting : DfM l.prog w K mg base C_Keeper "waiting" ["self"] 1 (spWait l.prog w C_Keeper C_Rule C_Form C_Both C_Either) := ⟨f52, _, ⟨a52, i52, k52⟩, b52, ok_Keeper_waiting F52 T⟩
  have D_Keeper_take : DfM l.prog w K mg base C_Keeper "take" ["self", "line", "tag", "thing"] 7 (spKTake l.prog w C_Keeper C_Rule C_Form C_Both C_Either) := ⟨f53, _, ⟨a53, i53, k53⟩, b53, ok_Keeper_take F53 T D_Rule_tags D_Rule_alone D_Rule_most D_Rule_begins_on D_Rule_ends_on D_Keeper__shut D_Keeper__too_many⟩
  have D_Keeper___init__ : DfI l.prog w K mg base "Keeper" C_Keeper ["self", "rule"] 5 (spKeepI l.prog w C_Keeper C_Rule C_Form C_Both C_Either) := ⟨f54, _, ⟨mk_Keeper, a54, i54, kc_Keeper⟩, PySem.W.mg_of X G aC_Keeper, b54, ok_Keeper___init__ F54 T D_Rule_begins D_Rule_ends D_Rule_most D_Rule_alone D_Rule_tags D_Rule_quiet D_Rule___init__⟩
  have D_Gluer__counted : DfM l.prog w K mg base C_Gluer "_counted" ["self", "given"] 1 (spCount C_Gluer) := ⟨f55, _, ⟨a55, i55, k55⟩, b55, ok_Gluer__counted F55 T⟩
  have D_Gluer_many : DfP l.prog w K mg base C_Gluer "many" 1 (getSp C_Gluer "_many") := ⟨p56, f56, _, ⟨a56, g56, t56, ⟨_, r56⟩⟩, b56, ok_Gluer_many F56 T⟩
  have D_Gluer___init__ : DfI l.prog w K mg base "Gluer" C_Gluer ["self", "rule"] 7 (spGlI l.prog w C_Gluer C_Keeper C_Rule C_Form C_Both C_Either) := ⟨f57, _, ⟨mk_Gluer, a57, i57, kc_Gluer⟩, PySem.W.mg_of X G aC_Gluer, b57, ok_Gluer___init__ F57 T D_Keeper___init__⟩
  have D_Gluer___call__ : DfCl l.prog w K mg base C_Gluer ["self", "line", "tag"] [.non] 8 (spGCall l.prog w C_Gluer C_Keeper C_Rule C_Form C_Both C_Either) := ⟨f58, _, ⟨a58, i58, by unfold PySem.W.fnIn; rw [l58]⟩, F58.binds1 3 1 (by simp) (by decide) (fun _ _ _ _ _ _ _ us its hu hi => match us, hu, its, hi with | [_, _, _], _, [_], _ => ⟨_, rfl, rfl⟩), F58.binds1 2 0 (by simp) (by decide) (fun _ _ _ _ _ _ _ us its hu hi => match us, hu, its, hi with | [_, _], _, [_], _ => ⟨_, rfl, rfl⟩), ok_Gluer___call__ F58 T D_Gluer__counted D_Keeper_take⟩
  have D_Gluer___call__K : DfClK l.prog w K mg base C_Gluer ["self", "line", "tag"] 2 ["tag"] 8 (spGCall l.prog w C_Gluer C_Keeper C_Rule C_Form C_Both C_Either) := ⟨f58, _, ⟨a58, i58, by unfold PySem.W.fnIn; rw [l58]⟩, F58.kbindsP 2 ["tag"] (by simp) (fun _ _ _ _ _ _ _ us ws its hu hw hi => match us, hu, ws, hw, its, hi with | [_, _], _, [_], _, [_], _ => ⟨_, rfl, rfl⟩), ok_Gluer___call__ F58 T D_Gluer__counted D_Keeper_take⟩
  have D_Gluer_waiting : DfM l.prog w K mg base C_Gluer "waiting" ["self"] 2 (spGWait l.prog w C_Gluer C_Keeper C_Rule C_Form C_Both C_Either) := ⟨f59, _, ⟨a59, i59, k59⟩, b59, ok_Gluer_waiting F59 T D_Keeper_waiting⟩
  have D__law_rule : Df l.prog w K mg base "_law_rule" ["pool"] 5 spLRule := ⟨f60, _, PySem.W.mg_of X G a60, k60, b60, ok__law_rule F60 T D__law_take D__law_tree⟩
  have D__law_marks : Df l.prog w K mg base "_law_marks" ["trees"] 9 (spLMarks C_Form C_Both C_Either K) := ⟨f61, _, PySem.W.mg_of X G a61, k61, b61, ok__law_marks F61 T D__law_built⟩
  have D__law_ruled : Df l.prog w K mg base "_law_ruled" ["rule"] 10 (spLRuled C_Rule C_Form C_Both C_Either K) := ⟨f62, _, PySem.W.mg_of X G a62, k62, b62, ok__law_ruled F62 T D__law_marks D_Rule___init__⟩
  have D__law_marked : Df l.prog w K mg base "_law_marked" ["trees", "line"] 5 spMarked := ⟨f63, _, PySem.W.mg_of X G a63, k63, b63, ok__law_marked F63 T D__law_bears⟩
  have D__law_row : Df l.prog w K mg base "_law_row" ["pool", "rule"] 5 (spLRow K) := ⟨f64, _, PySem.W.mg_of X G a64, k64, b64, ok__law_row F64 T D__law_take D__law_parts D__law_line D__law_written⟩
  have D__law_fed : Df l.prog w K mg base "_law_fed" ["rule", "held", "line", "some_tag", "thing"] 6 (spFed K) := ⟨f65, _, PySem.W.mg_of X G a65, k65, b65, ok__law_fed F65 T D__law_marked⟩
  have D_Rule_change : DfW l.prog w K mg base C_Rule "change" 4 (spChangeW C_Rule) := ⟨f66, ⟨a66, i66, k66⟩, ok_Rule_change F66 T D__check⟩
  have D__law_told : Df l.prog w K mg base "_law_told" ["gluer", "held", "given"] 3 (spTold l.prog w C_Gluer C_Keeper C_Rule C_Form C_Both C_Either) := ⟨f67, _, PySem.W.mg_of X G a67, k67, b67, ok__law_told F67 T D_Gluer_waiting D_Gluer_many⟩
  have D__law_right : Df l.prog w K mg base "_law_right" ["rule", "lines"] 12 (spRight28 K) := ⟨f68, _, PySem.W.mg_of X G a68, k68, b68, ok__law_right F68 T D__law_ruled D__law_fed D_Gluer___init__ D_Gluer___call__ D_Rule_change D__law_told⟩
  have D__law_second : Df l.prog w K mg base "_law_second" ["rule", "lines"] 12 (spSecond28 K) := ⟨f69, _, PySem.W.mg_of X G a69, k69, b69, ok__law_second F69 T D__law_ruled D__law_fed D_Gluer___init__ D_Gluer___call__K D_Gluer_waiting⟩
  exact ok_law F70 T D__law_pool D__law_rule D__law_row D__law_right D__law_second
theorem walk {l : PySem.W.OpenLaw} {q : Program} {loose : List Str} {XP : (Str → Option Value) → Heap → Prop} {YP : World → Heap → Prop} {d : DefRec} {K : Params → PySem.W.Frag} (hn : l.most = some 63) (hdf : d.params.defaults = [])
    (hY : ∀ (w : World) (h : Heap), YP w h → (K w.params).In h)
    (F : ∀ (w : World) (mg : Str → Option Value) (fa : Addr) (h : Heap), (K w.params).In h → h.Ns mainGlobals mg → mg d.name = some (.ref fa) →
      ∃ fd : FuncData, (∀ (s : Shared) (u : Value), BindsTo s fd ⟨[u], []⟩ [("script", u)]) ∧ ∀ base : Heap, (K w.params).In base → base.Ns mainGlobals mg → FnOk l.prog w (K w.params) mg base CX0 13 fa fd ["script"] (spLaw (K w.params))) :
    PySem.W.WalkO q loose XP YP l.row.toRowW d [] (fun f vs => PySem.call f vs) :=
  L2.walk_of (n := 63) (k := 13) (x := "script") (CX := fun _ => CX0) (sp := fun w => spLaw (K w.params)) hn (by decide) hdf ⟨rfl, by decide, by decide⟩ hY F (fun _ _ a ns hl _ hS => ⟨a, ns, rfl, hS, hl, fun _ => rfl⟩) fun _ _ _ _ _ z => z
end Q

open PySem PySem.W PyProof.Rows in
set_option maxRecDepth 100000 in
set_option maxHeartbeats 0 in
theorem PySem.Challenge.cw_gluedlines_k28_lines_glued_one_by_one_holds : PySem.Challenge.rw_gluedlines_k28_lines_glued_one_by_one.Holds := by
  w_on; o_law; k_head; (case hw => w_witness2)
  k_fill
  refine Q.walk (l := PySem.Challenge.rw_gluedlines_k28_lines_glued_one_by_one) rfl rfl (fun w h Y => PySem.W.kIn_of Y) ?F
  case F =>
    intro w mg fa h KX G hmg
    refine' Q.all_mk KX G hmg ?a0 ?l0 ?c0 ?k0 ?a1 ?l1 ?c1 ?k1 ?a2 ?l2 ?c2 ?k2 ?a3 ?l3 ?c3 ?k3 ?a4 ?l4 ?c4 ?k4 ?a5 ?l5 ?c5 ?k5 ?a6 ?l6 ?c6 ?k6 ?a7 ?l7 ?c7 ?k7 ?a8 ?l8 ?c8 ?k8 ?a9 ?l9 ?c9 ?k9 ?a10 ?l10 ?c10 ?k10 ?a11 ?l11 ?c11 ?k11 ?a12 ?l12 ?c12 ?k12 ?a13 ?l13 ?c13 ?k13 ?a14 ?l14 ?c14 ?k14 ?a15 ?l15 ?c15 ?k15 ?i15 ?j15 ?a16 ?l16 ?c16 ?k16 ?i16 ?j16 ?a17 ?l17 ?c17 ?k17 ?i17 ?j17 ?a18 ?l18 ?c18 ?k18 ?a19 ?l19 ?c19 ?k19 ?i19 ?j19 ?a20 ?l20 ?c20 ?k20 ?i20 ?j20 ?fm_Form ?ob_Form ?a21 ?l21 ?c21 ?k21 ?i21 ?j21 ?a22 ?l22 ?c22 ?k22 ?i22 ?j22 ?a23 ?l23 ?c23 ?k23 ?i23 ?j23 ?fm_Both ?ob_Both ?a24 ?l24 ?c24 ?k24 ?i24 ?j24 ?a25 ?l25 ?c25 ?k25 ?i25 ?j25 ?a26 ?l26 ?c26 ?k26 ?i26 ?j26 ?fm_Either ?ob_Either ?a27 ?l27 ?c27 ?k27 ?a28 ?l28 ?c28 ?k28 ?i28 ?j28 ?a29 ?l29 ?c29 ?k29 ?i29 ?j29 ?a30 ?l30 ?c30 ?k30 ?i30 ?j30 ?fs_Form ?rv30 ?a31 ?l31 ?c31 ?k31 ?i31 ?j31 ?rv31 ?a32 ?l32 ?c32 ?k32 ?i32 ?j32 ?fs_Both ?rv32 ?a33 ?l33 ?c33 ?k33 ?i33 ?j33 ?rv33 ?a34 ?l34 ?c34 ?k34 ?a35 ?l35 ?c35 ?k35 ?a36 ?l36 ?c36 ?k36 ?a37 ?l37 ?c37 ?k37 ?a38 ?l38 ?c38 ?k38 ?a39 ?l39 ?c39 ?k39 ?a40 ?l40 ?c40 ?k40 ?a41 ?l41 ?c41 ?k41 ?i41 ?j41 ?a42 ?g42 ?t42 ?r42 ?l42 ?c42 ?k42 ?a43 ?g43 ?t43 ?r43 ?l43 ?c43 ?k43 ?a44 ?g44 ?t44 ?r44 ?l44 ?c44 ?k44 ?a45 ?g45 ?t45 ?r45 ?l45 ?c45 ?k45 ?a46 ?l46 ?c46 ?k46 ?i46 ?j46 ?a47 ?l47 ?c47 ?k47 ?i47 ?j47 ?a48 ?l48 ?c48 ?k48 ?i48 ?j48 ?a49 ?l49 ?c49 ?k49 ?i49 ?j49 ?a50 ?l50 ?c50 ?k50 ?i50 ?j50 ?a51 ?l51 ?c51 ?k51 ?i51 ?j51 ?a52 ?l52 ?c52 ?k52 ?i52 ?j52 ?a53 ?l53 ?c53 ?k53 ?i53 ?j53 ?a54 ?l54 ?c54 ?k54 ?i54 ?j54 ?a55 ?l55 ?c55 ?k55 ?i55 ?j55 ?a56 ?g56 ?t56 ?r56 ?l56 ?c56 ?k56 ?a57 ?l57 ?c57 ?k57 ?i57 ?j57 ?a58 ?l58 ?c58 ?k58 ?y58 ?i58 ?j58 ?a59 ?l59 ?c59 ?k59 ?i59 ?j59 ?a60 ?l60 ?c60 ?k60 ?a61 ?l61 ?c61 ?k61 ?a62 ?l62 ?c62 ?k62 ?a63 ?l63 ?c63 ?k63 ?a64 ?l64 ?c64 ?k64 ?a65 ?l65 ?c65 ?k65 ?a66 ?l66 ?c66 ?k66 ?i66 ?j66 ?a67 ?l67 ?c67 ?k67 ?a68 ?l68 ?c68 ?k68 ?a69 ?l69 ?c69 ?k69 ?a70 ?l70 ?c70 ?k70 ?z_ANY_SIGNS ?z_DIGIT_SIGNS ?z_FIELDS ?y_FIELDS ?z_LETTER_SIGNS ?z_MOST_FORMS ?z_MOST_LINES ?z_MOST_MARKS ?z_MOST_PARTS ?z_MOST_SIGNS ?z_MOST_TAGS ?z_OPEN_PARTS ?y_OPEN_PARTS ?z_SIGNS ?z_SOME_DIGITS ?z_SOME_LETTERS ?z_all ?z_any ?z_bool ?z_int ?z_isinstance ?z_len ?z_list ?z_max ?z_min ?z_range ?z_str ?z_tuple ?aC_Both ?aC_Either ?aC_Form ?aC_Gluer ?aC_Keeper ?aC_Rule ?pg_Both ?hd_Both ?po_Both ?sa_Both ?mk_Both ?kc_Both ?n_Both__one ?n_Both__other ?pg_Either ?hd_Either ?po_Either ?sa_Either ?mk_Either ?kc_Either ?n_Either__one ?n_Either__other ?pg_Form ?hd_Form ?po_Form ?sa_Form ?mk_Form ?kc_Form ?n_Form__cells ?n_Form__parts ?pg_Gluer ?hd_Gluer ?po_Gluer ?sa_Gluer ?mk_Gluer ?kc_Gluer ?n_Gluer__keeper ?n_Gluer__many ?pg_Keeper ?hd_Keeper ?po_Keeper ?sa_Keeper ?mk_Keeper ?kc_Keeper ?n_Keeper__kept ?n_Keeper__rule ?pg_Rule ?hd_Rule ?po_Rule ?sa_Rule ?mk_Rule ?kc_Rule ?n_Rule__alone ?n_Rule__begins ?n_Rule__ends ?n_Rule__most ?n_Rule__quiet ?n_Rule__tags
    (case aC_Both => k_is)
    (case aC_Either => k_is)
    (case aC_Form => k_is)
    (case aC_Gluer => k_is)
    (case aC_Keeper => k_is)
    (case aC_Rule => k_is)
    (case pg_Both => k_is)
    (case hd_Both => k_is)
    (case po_Both => k_is)
    (case sa_Both => k_is)
    (case mk_Both => k_is)
    (case kc_Both => k_is)
    (case n_Both__one => k_is)
    (case n_Both__other => k_is)
    (case pg_Either => k_is)
    (case hd_Either => k_is)
    (case po_Either => k_is)
    (case sa_Either => k_is)
    (case mk_Either => k_is)
    (case kc_Either => k_is)
    (case n_Either__one => k_is)
    (case n_Either__other => k_is)
    (case pg_Form => k_is)
    (case hd_Form => k_is)
    (case po_Form => k_is)
    (case sa_Form => k_is)
    (case mk_Form => k_is)
    (case kc_Form => k_is)
    (case n_Form__cells => k_is)
    (case n_Form__parts => k_is)
    (case pg_Gluer => k_is)
    (case hd_Gluer => k_is)
    (case po_Gluer => k_is)
    (case sa_Gluer => k_is)
    (case mk_Gluer => k_is)
    (case kc_Gluer => k_is)
    (case n_Gluer__keeper => k_is)
    (case n_Gluer__many => k_is)
    (case pg_Keeper => k_is)
    (case hd_Keeper => k_is)
    (case po_Keeper => k_is)
    (case sa_Keeper => k_is)
    (case mk_Keeper => k_is)
    (case kc_Keeper => k_is)
    (case n_Keeper__kept => k_is)
    (case n_Keeper__rule => k_is)
    (case pg_Rule => k_is)
    (case hd_Rule => k_is)
    (case po_Rule => k_is)
    (case sa_Rule => k_is)
    (case mk_Rule => k_is)
    (case kc_Rule => k_is)
    (case n_Rule__alone => k_is)
    (case n_Rule__begins => k_is)
    (case n_Rule__ends => k_is)
    (case n_Rule__most => k_is)
    (case n_Rule__quiet => k_is)
    (case n_Rule__tags => k_is)
    (case a0 => k_is)
    (case l0 => k_is)
    (case c0 => k_is)
    (case k0 => k_is)
    (case a1 => k_is)
    (case l1 => k_is)
    (case c1 => k_is)
    (case k1 => k_is)
    (case a2 => k_is)
    (case l2 => k_is)
    (case c2 => k_is)
    (case k2 => k_is)
    (case a3 => k_is)
    (case l3 => k_is)
    (case c3 => k_is)
    (case k3 => k_is)
    (case a4 => k_is)
    (case l4 => k_is)
    (case c4 => k_is)
    (case k4 => k_is)
    (case a5 => k_is)
    (case l5 => k_is)
    (case c5 => k_is)
    (case k5 => k_is)
    (case a6 => k_is)
    (case l6 => k_is)
    (case c6 => k_is)
    (case k6 => k_is)
    (case a7 => k_is)
    (case l7 => k_is)
    (case c7 => k_is)
    (case k7 => k_is)
    (case a8 => k_is)
    (case l8 => k_is)
    (case c8 => k_is)
    (case k8 => k_is)
    (case a9 => k_is)
    (case l9 => k_is)
    (case c9 => k_is)
    (case k9 => k_is)
    (case a10 => k_is)
    (case l10 => k_is)
    (case c10 => k_is)
    (case k10 => k_is)
    (case a11 => k_is)
    (case l11 => k_is)
    (case c11 => k_is)
    (case k11 => k_is)
    (case a12 => k_is)
    (case l12 => k_is)
    (case c12 => k_is)
    (case k12 => k_is)
    (case a13 => k_is)
    (case l13 => k_is)
    (case c13 => k_is)
    (case k13 => k_is)
    (case a14 => k_is)
    (case l14 => k_is)
    (case c14 => k_is)
    (case k14 => k_is)
    (case a15 => k_is)
    (case l15 => k_is)
    (case c15 => k_is)
    (case k15 => k_is)
    (case i15 => k_is)
    (case j15 => k_is)
    (case a16 => k_is)
    (case l16 => k_is)
    (case c16 => k_is)
    (case k16 => k_is)
    (case i16 => k_is)
    (case j16 => k_is)
    (case a17 => k_is)
    (case l17 => k_is)
    (case c17 => k_is)
    (case k17 => k_is)
    (case i17 => k_is)
    (case j17 => k_is)
    (case a18 => k_is)
    (case l18 => k_is)
    (case c18 => k_is)
    (case k18 => k_is)
    (case a19 => k_is)
    (case l19 => k_is)
    (case c19 => k_is)
    (case k19 => k_is)
    (case i19 => k_is)
    (case j19 => k_is)
    (case a20 => k_is)
    (case l20 => k_is)
    (case c20 => k_is)
    (case k20 => k_is)
    (case i20 => k_is)
    (case j20 => k_is)
    (case fm_Form => k_is)
    (case ob_Form => k_is)
    (case a21 => k_is)
    (case l21 => k_is)
    (case c21 => k_is)
    (case k21 => k_is)
    (case i21 => k_is)
    (case j21 => k_is)
    (case a22 => k_is)
    (case l22 => k_is)
    (case c22 => k_is)
    (case k22 => k_is)
    (case i22 => k_is)
    (case j22 => k_is)
    (case a23 => k_is)
    (case l23 => k_is)
    (case c23 => k_is)
    (case k23 => k_is)
    (case i23 => k_is)
    (case j23 => k_is)
    (case fm_Both => k_is)
    (case ob_Both => k_is)
    (case a24 => k_is)
    (case l24 => k_is)
    (case c24 => k_is)
    (case k24 => k_is)
    (case i24 => k_is)
    (case j24 => k_is)
    (case a25 => k_is)
    (case l25 => k_is)
    (case c25 => k_is)
    (case k25 => k_is)
    (case i25 => k_is)
    (case j25 => k_is)
    (case a26 => k_is)
    (case l26 => k_is)
    (case c26 => k_is)
    (case k26 => k_is)
    (case i26 => k_is)
    (case j26 => k_is)
    (case fm_Either => k_is)
    (case ob_Either => k_is)
    (case a27 => k_is)
    (case l27 => k_is)
    (case c27 => k_is)
    (case k27 => k_is)
    (case a28 => k_is)
    (case l28 => k_is)
    (case c28 => k_is)
    (case k28 => k_is)
    (case i28 => k_is)
    (case j28 => k_is)
    (case a29 => k_is)
    (case l29 => k_is)
    (case c29 => k_is)
    (case k29 => k_is)
    (case i29 => k_is)
    (case j29 => k_is)
    (case a30 => k_is)
    (case l30 => k_is)
    (case c30 => k_is)
    (case k30 => k_is)
    (case i30 => k_is)
    (case j30 => k_is)
    (case fs_Form => k_is)
    (case rv30 => k_is)
    (case a31 => k_is)
    (case l31 => k_is)
    (case c31 => k_is)
    (case k31 => k_is)
    (case i31 => k_is)
    (case j31 => k_is)
    (case rv31 => k_is)
    (case a32 => k_is)
    (case l32 => k_is)
    (case c32 => k_is)
    (case k32 => k_is)
    (case i32 => k_is)
    (case j32 => k_is)
    (case fs_Both => k_is)
    (case rv32 => k_is)
    (case a33 => k_is)
    (case l33 => k_is)
    (case c33 => k_is)
    (case k33 => k_is)
    (case i33 => k_is)
    (case j33 => k_is)
    (case rv33 => k_is)
    (case a34 => k_is)
    (case l34 => k_is)
    (case c34 => k_is)
    (case k34 => k_is)
    (case a35 => k_is)
    (case l35 => k_is)
    (case c35 => k_is)
    (case k35 => k_is)
    (case a36 => k_is)
    (case l36 => k_is)
    (case c36 => k_is)
    (case k36 => k_is)
    (case a37 => k_is)
    (case l37 => k_is)
    (case c37 => k_is)
    (case k37 => k_is)
    (case a38 => k_is)
    (case l38 => k_is)
    (case c38 => k_is)
    (case k38 => k_is)
    (case a39 => k_is)
    (case l39 => k_is)
    (case c39 => k_is)
    (case k39 => k_is)
    (case a40 => k_is)
    (case l40 => k_is)
    (case c40 => k_is)
    (case k40 => k_is)
    (case a41 => k_is)
    (case l41 => k_is)
    (case c41 => k_is)
    (case k41 => k_is)
    (case i41 => k_is)
    (case j41 => k_is)
    (case a42 => k_is)
    (case g42 => k_is)
    (case t42 => k_is)
    (case r42 => k_is)
    (case l42 => k_is)
    (case c42 => k_is)
    (case k42 => k_is)
    (case a43 => k_is)
    (case g43 => k_is)
    (case t43 => k_is)
    (case r43 => k_is)
    (case l43 => k_is)
    (case c43 => k_is)
    (case k43 => k_is)
    (case a44 => k_is)
    (case g44 => k_is)
    (case t44 => k_is)
    (case r44 => k_is)
    (case l44 => k_is)
    (case c44 => k_is)
    (case k44 => k_is)
    (case a45 => k_is)
    (case g45 => k_is)
    (case t45 => k_is)
    (case r45 => k_is)
    (case l45 => k_is)
    (case c45 => k_is)
    (case k45 => k_is)
    (case a46 => k_is)
    (case l46 => k_is)
    (case c46 => k_is)
    (case k46 => k_is)
    (case i46 => k_is)
    (case j46 => k_is)
    (case a47 => k_is)
    (case l47 => k_is)
    (case c47 => k_is)
    (case k47 => k_is)
    (case i47 => k_is)
    (case j47 => k_is)
    (case a48 => k_is)
    (case l48 => k_is)
    (case c48 => k_is)
    (case k48 => k_is)
    (case i48 => k_is)
    (case j48 => k_is)
    (case a49 => k_is)
    (case l49 => k_is)
    (case c49 => k_is)
    (case k49 => k_is)
    (case i49 => k_is)
    (case j49 => k_is)
    (case a50 => k_is)
    (case l50 => k_is)
    (case c50 => k_is)
    (case k50 => k_is)
    (case i50 => k_is)
    (case j50 => k_is)
    (case a51 => k_is)
    (case l51 => k_is)
    (case c51 => k_is)
    (case k51 => k_is)
    (case i51 => k_is)
    (case j51 => k_is)
    (case a52 => k_is)
    (case l52 => k_is)
    (case c52 => k_is)
    (case k52 => k_is)
    (case i52 => k_is)
    (case j52 => k_is)
    (case a53 => k_is)
    (case l53 => k_is)
    (case c53 => k_is)
    (case k53 => k_is)
    (case i53 => k_is)
    (case j53 => k_is)
    (case a54 => k_is)
    (case l54 => k_is)
    (case c54 => k_is)
    (case k54 => k_is)
    (case i54 => k_is)
    (case j54 => k_is)
    (case a55 => k_is)
    (case l55 => k_is)
    (case c55 => k_is)
    (case k55 => k_is)
    (case i55 => k_is)
    (case j55 => k_is)
    (case a56 => k_is)
    (case g56 => k_is)
    (case t56 => k_is)
    (case r56 => k_is)
    (case l56 => k_is)
    (case c56 => k_is)
    (case k56 => k_is)
    (case a57 => k_is)
    (case l57 => k_is)
    (case c57 => k_is)
    (case k57 => k_is)
    (case i57 => k_is)
    (case j57 => k_is)
    (case a58 => k_is)
    (case l58 => k_is)
    (case c58 => k_is)
    (case k58 => k_is)
    (case y58 => k_is)
    (case i58 => k_is)
    (case j58 => k_is)
    (case a59 => k_is)
    (case l59 => k_is)
    (case c59 => k_is)
    (case k59 => k_is)
    (case i59 => k_is)
    (case j59 => k_is)
    (case a60 => k_is)
    (case l60 => k_is)
    (case c60 => k_is)
    (case k60 => k_is)
    (case a61 => k_is)
    (case l61 => k_is)
    (case c61 => k_is)
    (case k61 => k_is)
    (case a62 => k_is)
    (case l62 => k_is)
    (case c62 => k_is)
    (case k62 => k_is)
    (case a63 => k_is)
    (case l63 => k_is)
    (case c63 => k_is)
    (case k63 => k_is)
    (case a64 => k_is)
    (case l64 => k_is)
    (case c64 => k_is)
    (case k64 => k_is)
    (case a65 => k_is)
    (case l65 => k_is)
    (case c65 => k_is)
    (case k65 => k_is)
    (case a66 => k_is)
    (case l66 => k_is)
    (case c66 => k_is)
    (case k66 => k_is)
    (case i66 => k_is)
    (case j66 => k_is)
    (case a67 => k_is)
    (case l67 => k_is)
    (case c67 => k_is)
    (case k67 => k_is)
    (case a68 => k_is)
    (case l68 => k_is)
    (case c68 => k_is)
    (case k68 => k_is)
    (case a69 => k_is)
    (case l69 => k_is)
    (case c69 => k_is)
    (case k69 => k_is)
    (case a70 => k_is)
    (case l70 => k_is)
    (case c70 => k_is)
    (case k70 => k_is)
    (case z_ANY_SIGNS => k_is)
    (case z_DIGIT_SIGNS => k_is)
    (case z_FIELDS => k_is)
    (case y_FIELDS => k_is)
    (case z_LETTER_SIGNS => k_is)
    (case z_MOST_FORMS => k_is)
    (case z_MOST_LINES => k_is)
    (case z_MOST_MARKS => k_is)
    (case z_MOST_PARTS => k_is)
    (case z_MOST_SIGNS => k_is)
    (case z_MOST_TAGS => k_is)
    (case z_OPEN_PARTS => k_is)
    (case y_OPEN_PARTS => k_is)
    (case z_SIGNS => k_is)
    (case z_SOME_DIGITS => k_is)
    (case z_SOME_LETTERS => k_is)
    (case z_all => k_is)
    (case z_any => k_is)
    (case z_bool => k_is)
    (case z_int => k_is)
    (case z_isinstance => k_is)
    (case z_len => k_is)
    (case z_list => k_is)
    (case z_max => k_is)
    (case z_min => k_is)
    (case z_range => k_is)
    (case z_str => k_is)
    (case z_tuple => k_is)
