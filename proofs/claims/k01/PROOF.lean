import PyProof.Rows.All
import Wide.All
import OpenK.AllK
import Wide.FinOn
import KE.OsRunLaw
import HandS.Base
import HandS.Call
import HandS.List
import HandS.Exc
import KE.KIsAll
import KE.KTryMore
import HandS.ExcOwn
import HandS.ExcInit
import HandS.Defaults
import HandS.ForMost
import HandS.ExcValue
import HandS.ExcIs
import HandS.IsInst
import HandS.WideBits
import HandS.Style
import PySem.Challenge.RW_keptreadings_k01_errors_made
set_option Elab.async false
set_option linter.all false
set_option maxRecDepth 100000
set_option maxHeartbeats 4000000
/-! own exceptions called with keywords -/
namespace PySem
namespace EV
open PySem.HandSPX
open Builtin Builtin.ObjectAttr
section
variable {M : Model} {A : Around} {E : Value → Shared → Prop} {h : Heap} {g : Array GenState} {d : Drawn} {t : Nat} {os : OsState}
variable {nm q : Str} {C N : Addr} {bs bm bmB : List Value} {hdct : Bool} {sn : List Str} {sub : List Value} {ab : Bool} {col : Option Bool} {dd : Option Addr} {k0 k1 k2 k3 k5 : Option Value} {B newId initId : String}
variable {rest : List Value} {kw : List (Str × Value)}

theorem check_new_kw (F : ExcBaseFacts B newId initId bmB) (hT : ∀ X : String, bm.contains (.type X) = bmB.contains (.type X)) {Q : Unit → Shared → Prop}
    (hC : h.get? C = some (excClassObj nm q C N bs bm hdct sn sub ab col dd k0 k1 k2 k3 k5 newId)) (hq : Q () ⟨h, g, d, t, os⟩) : wpAny M A (checkBuiltinCall newId ⟨.ref C :: rest, kw⟩) Q E ⟨h, g, d, t, os⟩ := by
  have hcont : (Value.ref C :: bm).contains (.type B) = true := by rw [List.contains_cons, hT, F.hasB, Bool.or_true]
  have hstar := F.noStar
  simp only [checkBuiltinCall, F.newKind, F.newSplit, F.newRow]
  repeat (first | refine wpAny_loadPart_at hC ?_ | (refine wpAny_isSubtype_exc hC ?_; rw [hcont]) | refine wpAny_staticBase_exc hC ?_ | refine wpAny_madeBy_exc hC ?_ | simp only [bne_self_eq_false, Bool.false_eq_true, if_false] | wp_step)
  exact hq
end
section
variable {prog : Program} {w : World} {A : Around} {E : Value → Shared → Prop} {R : Result → Shared → Prop} {h : Heap} {g : Array GenState} {d : Drawn} {t : Nat} {os : OsState}
variable {nm q : Str} {C N : Addr} {bs bm bmB : List Value} {hdct : Bool} {sn : List Str} {sub : List Value} {ab : Bool} {col : Option Bool} {dd : Option Addr} {k0 k1 k2 k3 k5 : Option Value} {B newId initId : String}
variable {rest : List Value} {kw : List (Str × Value)}

theorem new_kw (F : ExcBaseFacts B newId initId bmB) (hT : ∀ X : String, bm.contains (.type X) = bmB.contains (.type X))
    (hC : h.get? C = some (excClassObj nm q C N bs bm hdct sn sub ab col dd k0 k1 k2 k3 k5 newId))
    (hq : R (.ok (.ret (.ref (h.objs.size + 1)))) ⟨(h.push { cls := .type "tuple", data := .seq rest.toArray }).push
      { cls := .ref C, data := .fields #[.ref h.objs.size, .none, .none, .none, .bool false, .none] }, g, d, t, os⟩) (hrest : rest.length ≤ sizeLine) :
    codeAny (model prog w) A (.builtin newId ⟨.ref C :: rest, kw⟩) R ⟨h, g, d, t, os⟩ := by
  have hends := F.ends
  have hcB : (Value.ref C :: bm).contains (.type B) = true := by rw [List.contains_cons, hT, F.hasB, Bool.or_true]
  have hcA : (Value.ref C :: bm).contains (.type "AttributeError") = false := by rw [List.contains_cons, hT, F.noAttr]; rfl
  have hcN : (Value.ref C :: bm).contains (.type "NameError") = false := by rw [List.contains_cons, hT, F.noName]; rfl
  refine codeAny_builtinAt F.entry ?_
  unfold Builtin.«BaseException.__new__»
  refine wpAt_bind ?_
  show wpAt _ _ _ (stack >>= _) _ _ _
  refine wpAt_bind (wpAt_stack fun p below => wpAt_of_wpAny ?_)
  wp_walk
  refine wpAt_of_wpAny ?_
  rw [F.owner]
  repeat (first | with_reducible refine wpAny_madeHere_exc F.canon hC ?_ | with_reducible refine wpAny_loadPart_at hC ?_ | (with_reducible refine wpAny_isSubtype_exc hC ?_; first | rw [hcB] | rw [hcA] | rw [hcN]) | wp_step)
  show R _ _
  rw [Heap.size_push]
  exact hq

theorem type_call_kw (F : ExcBaseFacts B newId initId bmB) (hT : ∀ X : String, bm.contains (.type X) = bmB.contains (.type X)) {fI : Addr} {Q : Fin → Shared → Prop}
    (hC : h.get? C = some (excClassObj nm q C N bs bm hdct sn sub ab col dd k0 k1 k2 k3 k5 newId))
    (hi : W.Looks (model prog w) h (typeLookup (.ref C) "__init__") (some (.ref fI))) (hb : ∀ self, W.Looks (model prog w) h (bindSpecial (.ref fI) self) (.ref fI, [self])) (hrest : rest.length ≤ sizeLine)
    (hq : codeAny (model prog w) A (.call (.ref fI) ⟨.ref (h.objs.size + 1) :: rest, kw⟩)
      (fun r s' => match r with | .ok (.ret v) => v = .none ∧ Q (.done (.ret (.ref (h.objs.size + 1)))) s' | .ok _ => False | .error e => E e s')
      ⟨(h.push (W.kdv_tup rest)).push (excO C h.objs.size), g, d, t, os⟩) :
    wpAny (model prog w) A (Builtin.«type.__call__» ⟨.ref C :: rest, kw⟩) Q E ⟨h, g, d, t, os⟩ := by
  repeat (first | with_reducible refine wpAny_loadPart_at hC ?_ | with_reducible refine wpAny_madeBy_exc hC ?_ | wp_step)
  refine codeAny_call_builtin_code (Code.quiet_builtin _ F.quiet) (check_new_kw F hT hC ?_)
  refine new_kw F hT hC ?_ hrest
  show wpAny _ _ _ _ _ _
  have k : ∀ b o, h.get? b = some o → ((h.push (W.kdv_tup rest)).push (excO C h.objs.size)).get? b = some o := fun b o e => Heap.get?_push_of_some _ (Heap.get?_push_of_some _ e)
  have hC₁ := k _ _ hC
  have hget : ((h.push (W.kdv_tup rest)).push (excO C h.objs.size)).get? (h.objs.size + 1) = some (excO C h.objs.size) := by heap_get
  have hcC : (Value.ref C :: bm).contains (.ref C) = true := by simp
  have i1 := hi.keeps k
  have b1 := (hb (.ref (h.objs.size + 1))).keeps k
  unfold isInstance
  repeat (first | with_reducible refine wpAny_loadPart_at hget ?_ | (with_reducible refine wpAny_isSubtype_exc hC₁ ?_; rw [hcC]) | wp_step)
  show wpAny _ _ (typeLookup (.ref C) _) _ _ _
  refine i1.at ?_
  refine wpAny_holding (wpAny_bind (b1.at ?_))
  refine wpAny_bind (wpAny_call (codeAny_mono hq fun r s' z => ?_))
  rcases r with e | (v | _ | _ | _) <;> first | exact z | exact z.elim | skip
  obtain ⟨rfl, z⟩ := z
  first
    | exact wpAny_pure (wpAny_pure z)
    | (wp_walk; exact z)

theorem call_kw (F : ExcBaseFacts B newId initId bmB) (hT : ∀ X : String, bm.contains (.type X) = bmB.contains (.type X)) {fI : Addr}
    (hC : h.get? C = some (excClassObj nm q C N bs bm hdct sn sub ab col dd k0 k1 k2 k3 k5 newId))
    (hi : W.Looks (model prog w) h (typeLookup (.ref C) "__init__") (some (.ref fI))) (hb : ∀ self, W.Looks (model prog w) h (bindSpecial (.ref fI) self) (.ref fI, [self])) (hrest : rest.length ≤ sizeLine)
    (hq : codeAny (model prog w) (A.under (.builtin "type.__call__" ⟨.ref C :: rest, kw⟩)) (.call (.ref fI) ⟨.ref (h.objs.size + 1) :: rest, kw⟩) (W.InitBack (h.objs.size + 1) R)
      ⟨(h.push (W.kdv_tup rest)).push (excO C h.objs.size), g, d, t, os⟩) :
    codeAny (model prog w) A (.call (.ref C) ⟨rest, kw⟩) R ⟨h, g, d, t, os⟩ := by
  have f1 := tc_lookup
  have f2 := tc_bind (.ref C)
  have hTy : (⟨h, g, d, t, os⟩ : Shared).TypeIs (.ref C) "type" := ⟨_, hC, rfl⟩
  refine codeAny_of_tree ?_
  show wpAny _ _ (callAny (.ref C) _) _ _ _
  repeat (any_goals (first | assumption | with_reducible refine wpAny_loadPart_at hC ?_ | wp_step))
  refine ⟨rfl, ?_⟩
  refine codeAny_call_builtin_at (Code.quiet_builtin _ (by decide +kernel)) entry_typeCall (wpAny_check_type_call_sub hC (type_call_kw F hT hC hi hb hrest ?_))
  refine codeAny_mono hq fun r s' z => ?_
  rcases r with e | (v | _ | _ | _) <;> exact z
end
end EV
end PySem
set_option Elab.async false
set_option linter.all false
set_option maxRecDepth 100000
set_option maxHeartbeats 4000000
/-! own exceptions as values: made, asked, read -/
namespace PySem
namespace EV
open PySem.HandSPX PySem.W PySem.Calls PyProof.Rows
/-! ### the text of __init__(self, value=None): self.value = value -/
def iA (p1 p2 p3 : Pos) : Arguments := { posonlyargs := [], args := [{ arg := "self", annotation := none, pos := p1 }, { arg := "value", annotation := none, pos := p2 }], vararg := none, kwonlyargs := [], kw_defaults := [], kwarg := none, defaults := [.Constant .none 0 p3] }
def iB (q1 q2 q3 q4 : Pos) : List Stmt := [.Assign [.Attribute (.Name "self" q1) "value" q2] (.Name "value" q3) q4]
def iS : Scope := { kind := .function, names := [(PySem.Str.ofString "self", .local), (PySem.Str.ofString "value", .local)], isGenerator := false, isCoroutine := false, more := [] }
/-- an own error class, child of the base of all (at T) -/
structure ErrC (K : Frag) (C T : Addr) : Prop where
  cls : ∃ nm q N bs sn sub ab col dd k0 k1 k2 k3 k5, K.lookup C = some (excClassObj nm q C N bs (.ref T :: veTail) true sn sub ab col dd k0 k1 k2 k3 k5 "ValueError.__new__")
  sa : findIn K (.ref C) "__setattr__" = some (some (.builtin "object.__setattr__"))
  ga : findIn K (.ref C) "__getattribute__" = some (some (.builtin "BaseException.__getattribute__"))
  gg : findIn K (.ref C) "__getattr__" = some none
  noN : findIn K (.ref C) "value" = some none
  ca : findIn K (.ref C) "__class__" = some (some (.builtin "object.__class__"))
  kC : keepIn K (.ref C) = true
/-- its __init__ -/
structure ErrI (K : Frag) (C fI : Addr) : Prop where
  iC : findIn K (.ref C) "__init__" = some (some (.ref fI))
  tC : typeIn K (.ref fI) = some (.type "function")
  fn : ∃ (oc : Value) (od : Option Addr) (doc pm kV : Value) (an : Option Addr) (cdv ct : Value) (osl : Array (Option Value)) (qn : Str) (D : Addr) (oD : Obj) (nD : Nat) (p1 p2 p3 q1 q2 q3 q4 : Pos),
    K.lookup fI = some ⟨oc, od, .func (fnOf "__init__" qn (iA p1 p2 p3) (iB q1 q2 q3 q4) iS (.ref D) kV doc pm an cdv ct), osl⟩ ∧ codeIn K cdv qn = true ∧ K.lookup D = some oD ∧ oD.data = .seq #[.none] nD
theorem veT : refsVE veTail = true := by decide +kernel
theorem veRT (T : Addr) : refsVE (.ref T :: veTail) = true := by
  show refsVE veTail = true
  exact veT
theorem one_size (v : Value) : [v].length ≤ sizeLine := by
  rw [sizeLine_eq]
  exact (by decide : 1 ≤ 16777216)
/-- what __init__ leaves of a fresh exception at x -/
structure InitEnd (h h' : Heap) (x C dx t1 : Addr) (v : Value) : Prop where
  keep : ∀ b o, b ≠ x → h.get? b = some o → h'.get? b = some o
  obj : h'.get? x = some { cls := .ref C, dict := some dx, data := .fields #[.ref t1, .none, .none, .none, .bool false, .none] }
  dbig : h.objs.size ≤ dx
  dne : dx ≠ x
  ns : h'.Ns1 dx (fun y => if y = "value" then some v else none)
structure OwnMade (h h' : Heap) (e C d : Addr) (v : Value) : Prop where
  keep : ∀ b o, h.get? b = some o → h'.get? b = some o
  new : h.objs.size ≤ e
  obj : ∃ t1 : Addr, h'.get? e = some { cls := .ref C, dict := some d, data := .fields #[.ref t1, .none, .none, .none, .bool false, .none] }
  dbig : h.objs.size ≤ d
  dne : d ≠ e
  ns : h'.Ns1 d (fun y => if y = "value" then some v else none)
theorem ldC {M : Model} {s : Shared} {name : Str} {scope : Scope} {L a : Addr} {cd : Value} {m : Str → Option Value} {x : Str} {pos : Pos} {v : Value} {Q : Value → Shared → Prop} {A : Around} {E : Value → Shared → Prop} (hn : s.heap.Ns L m) (hv : m x = some v) (h : Q v s)
    (hk : scope.kind = .function := by rfl) (hl : (envOfC name scope L a cd).kindOf x = some .local := by rfl) (hd : (x == ("__debug__" : Str)) = false := by decide) :
    wpAny M A (eval (.Name x pos) (envOfC name scope L a cd)) Q E s := wpAny_Name (wpAny_loadName_local hk hl hn hv h) hd
/-- the three ways to hand the value in: by place, by name, not at all -/
inductive Hand : List Value → List (Str × Value) → Value → Prop
  | place (v : Value) : Hand [v] [] v
  | name (v : Value) : Hand [] [("value", v)] v
  | bare : Hand [] [] .none
section
variable {prog : Program} {w : World} {A : Around} {E : Value → Shared → Prop} {R : Result → Shared → Prop} {s : Shared} {K : Frag} {C T fI : Addr}
theorem err_init (Z : ErrC K C T) (I : ErrI K C fI) {x t0 : Addr} {v : Value} {us : List Value} {kw : List (Str × Value)} (hh : Hand us kw v) (X : K.In s.heap) (hlim : s.heap.NoLimit) (hx : s.heap.get? x = some (excO C t0)) (hroom : A.depth < recursionLimit)
    (hq : ∀ h' tk dx, InitEnd s.heap h' x C dx t0 v → R (.ok (.ret .none)) { s with heap := h', toks := tk }) :
    codeAny (model prog w) A (.call (.ref fI) ⟨.ref x :: us, kw⟩) R s := by
  obtain ⟨oc, od, doc, pm, kV, an, cdv, ct, osl, qn, D, oD, nD, p1, p2, p3, q1, q2, q3, q4, ho, hcd, hD, hDd⟩ := I.fn
  obtain ⟨nm, q, N, bs, sn, sub, ab, col, dd, k0, k1, k2, k3, k5, hC⟩ := Z.cls
  have hcl : clsIn K C = some { name := nm, bases := bs, mro := .ref C :: .ref T :: veTail, ns := N, qualname := q, hasDict := true, slotNames := sn, subclasses := sub, abstract := ab, collection := col, hasDel := false } := by unfold clsIn; rw [hC] <;> rfl
  have hbind : BindsTo s (fnOf "__init__" qn (iA p1 p2 p3) (iB q1 q2 q3 q4) iS (.ref D) kV doc pm an cdv ct) ⟨.ref x :: us, kw⟩ [("self", .ref x), ("value", v)] := by
    refine L2.BindsTo.of_looks fun M => ?_
    cases hh with
    | place => exact L2.looks_items X hD hDd (.of_pure rfl)
    | name => exact L2.looks_items X hD hDd (.of_pure rfl)
    | bare => exact L2.looks_items X hD hDd (.of_pure rfl)
  refine Att.call_fn (binds := [("self", .ref x), ("value", v)]) X hlim ho hcd hroom hbind (by first | rfl | decide | with_unfolding_all rfl) (fun s₁ IC => ?_) rfl rfl rfl
  obtain ⟨h₁, tk₁, rfl⟩ := IC.toInCall.same
  have k : ∀ b o, s.heap.get? b = some o → h₁.get? b = some o := IC.toInCall.keep
  have hn := IC.toInCall.ns
  have X₁ : K.In h₁ := X.keeps k
  have hx₁ := k _ _ hx
  -- self.value = value
  show wpAny _ _ (execs _ _) _ _ _
  refine wpAny_execs_cons (plainObj_wpAny_Assign_Attribute ?_)
  refine ldC (v := v) hn (by first | rfl | with_unfolding_all rfl | kernel_rfl) (ldC (v := .ref x) hn (by first | rfl | with_unfolding_all rfl | kernel_rfl) ?_)
  refine set_plain X₁ (ox := excO C t0) (od := none) ⟨hx₁, rfl, rfl, trivial⟩ Z.sa ?_
  refine exc_osa X₁ hx₁ hcl (show refsVE (.ref C :: .ref T :: veTail) = true from veRT T) rfl Z.noN (fun h₃ tk₃ dx k₃ dn dne hx₃ hn₃ => ?_)
  show wpAny _ _ (execs _ _) _ _ _
  have z : s.heap.objs.size < h₁.objs.size := hn.lt
  exact wpAny_execs_nil (hq h₃ tk₃ dx ⟨fun b o hb e => k₃ b o hb (k b o e), hx₃, Nat.le_of_lt (Nat.lt_of_lt_of_le z dn), dne, hn₃⟩)
theorem err_made (Z : ErrC K C T) (I : ErrI K C fI) {v : Value} {us : List Value} {kw : List (Str × Value)} (hh : Hand us kw v) (X : K.In s.heap) (hlim : s.heap.NoLimit) (hroom : A.depth + 1 < recursionLimit)
    (hq : ∀ h' tk e d, OwnMade s.heap h' e C d v → R (.ok (.ret (.ref e))) { s with heap := h', toks := tk }) :
    codeAny (model prog w) A (.call (.ref C) ⟨us, kw⟩) R s := by
  obtain ⟨nm, q, N, bs, sn, sub, ab, col, dd, k0, k1, k2, k3, k5, hC⟩ := Z.cls
  obtain ⟨hp, g, dr, tk, os⟩ := s
  have hus : us.length ≤ sizeLine := by
    cases hh with
    | place => exact one_size v
    | name => exact Nat.zero_le _
    | bare => exact Nat.zero_le _
  have k : ∀ b o, hp.get? b = some o → ((hp.push (kdv_tup us)).push (excO C hp.objs.size)).get? b = some o := fun b o e => Heap.get?_push_of_some _ (Heap.get?_push_of_some _ e)
  have hget : ((hp.push (kdv_tup us)).push (excO C hp.objs.size)).get? (hp.objs.size + 1) = some (excO C hp.objs.size) := by heap_get
  refine call_kw F.excBase_ValueError (fun X => refsVE_contains X _ (veRT T)) (X _ _ hC) (looks_findIn X I.iC) (fun self => bind_fn X self I.tC) hus ?_
  refine err_init (s := ⟨(hp.push (kdv_tup us)).push (excO C hp.objs.size), g, dr, tk, os⟩) Z I hh (X.keeps k) (hlim.keeps k) hget ?_ fun h' tk' dx ⟨k', hx, dn, dne, hns⟩ => ?_
  · show A.depth + 1 < recursionLimit
    exact hroom
  · have old : ∀ b o, hp.get? b = some o → h'.get? b = some o := fun b o e => k' b o (Nat.ne_of_lt (Nat.lt_succ_of_lt (Heap.lt_size e))) (k b o e)
    have z : hp.objs.size + 1 + 1 ≤ dx := by
      first
        | (simpa only [Heap.size_push] using dn)
        | exact dn
        | (have q := dn; rw [Heap.size_push, Heap.size_push] at q; exact q)
    exact ⟨rfl, hq h' tk' (hp.objs.size + 1) dx ⟨old, Nat.le_succ _, ⟨_, hx⟩, Nat.le_trans (Nat.le_trans (Nat.le_succ _) (Nat.le_succ _)) z, dne, hns⟩⟩
end
end EV
end PySem
set_option Elab.async false
set_option linter.all false
set_option maxRecDepth 100000
set_option maxHeartbeats 4000000
/-! own exceptions as values, over the layer -/
namespace EL
open PySem PySem.Spec PyProof.Rows L2
open PySem.EV (ErrC ErrI Hand OwnMade)
/-! ### readings may be asked for more -/
section
variable {X : Cx}
theorem _root_.L2.PE.imp {e : Expr} {t u : TE} (h : PE X e t) (k : ∀ σ H Q, u σ H Q → t σ H Q) : PE X e u := ⟨fun pins s σ H Q I q => h.run pins s σ H Q I (k _ _ _ q)⟩
theorem _root_.L2.PA.imp {es : List Expr} {t u : TA} (h : PA X es t) (k : ∀ σ H Q, u σ H Q → t σ H Q) : PA X es u := ⟨fun pos pins s σ H Q I q => h.run pos pins s σ H Q I (k _ _ _ q)⟩
theorem _root_.L2.PT.imp {e : Expr} {t u : TT} (h : PT X e t) (k : ∀ σ H Q, u σ H Q → t σ H Q) : PT X e u := ⟨fun pins s σ H Q I q => h.run pins s σ H Q I (k _ _ _ q)⟩
theorem _root_.L2.PS.imp {st : Stmt} {t u : TS} (h : PS X st t) (k : ∀ D σ H, u D σ H → t D σ H) : PS X st u := ⟨fun pins s σ H D I q => h.run pins s σ H D I (k _ _ _ q)⟩
theorem _root_.L2.PSs.imp {st : List Stmt} {t u : TS} (h : PSs X st t) (k : ∀ D σ H, u D σ H → t D σ H) : PSs X st u := ⟨fun pins s σ H D I q => h.run pins s σ H D I (k _ _ _ q)⟩
end
/-! ### a made error: its object at e, its dict -/
def IsErr (H : Hp) (e C : Addr) (v : V) : Prop := ∃ dx, H e = some (exo e C (some dx)) ∧ H dx = some (.xd [("value", v)])
theorem IsErr.same {H H' : Hp} {e C : Addr} {v : V} (h : IsErr H e C v) (s : Same H H') : IsErr H' e C v := by
  obtain ⟨dx, a, b⟩ := h
  exact ⟨dx, s _ _ a, s _ _ b⟩
theorem relO_value {v : V} {v' : Value} (r : RelV v v') (f : Str) : RelO (List.lookup f [(("value" : Str), v)]) (if f = "value" then some v' else none) := by
  by_cases hw : f = "value"
  · subst hw
    rw [if_pos rfl]
    have q : List.lookup ("value" : Str) [(("value" : Str), v)] = some v := by simp [List.lookup]
    rw [q]
    exact r
  · rw [if_neg hw]
    have qw : (f == ("value" : Str)) = false := by simpa using hw
    have q2 : List.lookup f [(("value" : Str), v)] = none := by simp [List.lookup, qw]
    rw [q2]; exact True.intro
section
variable {X : Cx} {pins : List (Addr × Obj)} {σ : L2.St} {H : Hp} {s : Shared} {C T fI : Addr}
/-- two new objects are laid at once -/
theorem inv_two {h' : Heap} {t' : Nat} {a d : Addr} {o u : HO} (I : Inv X pins σ H s) (k : ∀ b o, s.heap.get? b = some o → h'.get? b = some o) (ha : s.heap.objs.size ≤ a) (hd : s.heap.objs.size ≤ d) (hne : d ≠ a)
    (na : ObjOk X.prog X.w (upd (upd H d u) a o) h' a o) (nd : ObjOk X.prog X.w (upd (upd H d u) a o) h' d u) : Inv X pins σ (upd (upd H d u) a o) { s with heap := h', toks := t' } := by
  have hna : H a = none := I.hok.fresh ha
  have hnd : H d = none := I.hok.fresh hd
  have old : ∀ {b : Addr} {q : Obj}, s.heap.get? b = some q → b ≠ a ∧ b ≠ d := fun {b q} z => ⟨Nat.ne_of_lt (Nat.lt_of_lt_of_le (Heap.lt_size z) ha), Nat.ne_of_lt (Nat.lt_of_lt_of_le (Heap.lt_size z) hd)⟩
  have at_ : ∀ {b : Addr} {q : HO}, H b = some q → upd (upd H d u) a o b = some q := fun {b q} z => by
    rw [upd_ne (ne_of_none z hna), upd_ne (ne_of_none z hnd)]
    exact z
  refine I.un (h' := h') (t' := t') {
    keep := fun b q z _ _ _ => k b q z
    slot := fun b q z _ _ _ => ⟨q.slots, k b q z⟩
    free := fun b q z n _ => by rw [upd_ne (old z).1, upd_ne (old z).2]; exact n
    there := fun b q z _ => ⟨q, k b q z⟩
    tups := fun b xs z => at_ z
    frzs := fun b q v z => at_ z
    tbls := fun b ps z => ⟨#[], by rw [at_ z]; simp⟩ } fun b q z => ?_
  by_cases hb : b = a
  · subst hb
    rw [upd_same] at z
    cases z
    exact na
  · rw [upd_ne hb] at z
    by_cases hb2 : b = d
    · subst hb2
      rw [upd_same] at z
      cases z
      exact nd
    · rw [upd_ne hb2] at z
      exact (I.hok b q z).stay (fun c v _ y => k c v y) (fun c y => at_ y) fun c xs y => at_ y
/-- the heap behind C(..) -/
theorem err_end {h' : Heap} {t' : Nat} {e d : Addr} {v : V} {u : Value} (I : Inv X pins σ H s) (M : OwnMade s.heap h' e C d u) (r : RelV v u) :
    ∃ H2, Inv X pins σ H2 { s with heap := h', toks := t' } ∧ Same H H2 ∧ H e = none ∧ IsErr H2 e C v := by
  obtain ⟨t1, ho⟩ := M.obj
  have hne : H e = none := I.hok.fresh M.new
  have hnd : H d = none := I.hok.fresh M.dbig
  refine ⟨upd (upd H d (.xd [("value", v)])) e (exo e C (some d)), inv_two I M.keep M.new M.dbig M.dne (exo_ok ho) ⟨_, M.ns, fun f => relO_value r f⟩, fun b o z => ?_, hne, d, upd_same, ?_⟩
  · rw [upd_ne (ne_of_none z hne), upd_ne (ne_of_none z hnd)]
    exact z
  · rw [upd_ne M.dne, upd_same]
theorem run_err {k : Nat} (Z : ErrC X.K C T) (J : ErrI X.K C fI) (hr : Room k X.A) (I : Inv X pins σ H s) {us : List Value} {kw : List (Str × Value)} {u : Value} {v : V} {Q : VK} (hh : Hand us kw u) (r : RelV v u)
    (q : ∀ e H2, Same H H2 → H e = none → IsErr H2 e C v → Q (.ref e) H2) : wpAny (model X.prog X.w) X.A (call (.ref C) us kw) (EP X pins σ Q) X.xe s := by
  have hlim := I.nolimit
  obtain ⟨hp, g, dr, tk, os⟩ := s
  refine wpAny_call (PySem.EV.err_made Z J hh I.kIn hlim (by have := hr.dp; omega) fun h' tk' e d M => ?_)
  obtain ⟨H2, I2, sm, n, er⟩ := err_end (t' := tk') I M r
  exact ⟨.ref e, H2, I2, rfl, q e H2 sm n er⟩
end
/-! ### C(e), C(value=e), C() -/
def oneV (R : V → Hp → Prop) : List V → Hp → Prop := fun vs H => match vs with
  | [v] => R v H
  | _ => False
theorem oneV_of {R : V → Hp → Prop} {vs : List V} {H : Hp} (h : oneV R vs H) : ∃ v, vs = [v] ∧ R v H := by
  match vs, h with
  | [v], h => exact ⟨v, rfl, h⟩
section
variable {X : Cx} {C T fI : Addr} {x : Str} {e : Expr} {te : TE} {p pos kpos : Pos} {k : Nat}
def tErr (C : Addr) (te : TE) : TE := fun σ H Q => te σ H fun v H1 => ∀ e H2, Same H1 H2 → H1 e = none → IsErr H2 e C v → Q (.ref e) H2
theorem pe_err (Z : ErrC X.K C T) (J : ErrI X.K C fI) (hr : Room k X.A) (hm : X.mg x = some (.ref C)) (he : PE X e te) (hg : Gl X x := by rfl) (hdb : (x == ("__debug__" : Str)) = false := by decide)
    (hs : starEach (e :: []) X.env = (false, eval e X.env) :: starEach [] X.env := by rfl) (hpl : (backTo pos (starEach [] X.env)).any (·.1) = false := by rfl) : PE X (.Call (.Name x p) [e] [] pos) (tErr C te) := by
  refine ⟨fun pins s σ H Q I h => ?_⟩
  refine wpAny_Call_Name_kw (ld_glob I hg hm ?_ hdb)
  refine PySem.W.callWith_K (h₀ := X.base) I.ok.mod.kin Z.kC (thn ((pa_cons he pa_nil hs).run pos pins s σ H (oneV fun v H1 => ∀ e H2, Same H1 H2 → H1 e = none → IsErr H2 e C v → Q (.ref e) H2) I h) fun us s1 ⟨vs, H1, I1, r, q1⟩ => ⟨I1.kIn, ?_⟩) hs hpl
  obtain ⟨v, ev, q⟩ := oneV_of q1
  subst ev
  cases r with
  | cons rv rn =>
    cases rn
    exact run_err Z J hr I1 (.place _) rv q
theorem pe_errK (Z : ErrC X.K C T) (J : ErrI X.K C fI) (hr : Room k X.A) (hm : X.mg x = some (.ref C)) (he : PE X e te) (hg : Gl X x := by rfl) (hdb : (x == ("__debug__" : Str)) = false := by decide) : PE X (.Call (.Name x p) [] [⟨some "value", e, kpos⟩] pos) (tErr C te) := by
  refine ⟨fun pins s σ H Q I h => ?_⟩
  refine wpAny_Call_Name_kw (ld_glob I hg hm ?_ hdb)
  refine PySem.W.callWith_KW0 (h₀ := X.base) I.ok.mod.kin Z.kC rfl (thn ((pk_cons (nm := some "value") (kpos := kpos) he pk_nil).run pos pins s σ H (oneV fun v H1 => ∀ e H2, Same H1 H2 → H1 e = none → IsErr H2 e C v → Q (.ref e) H2) I h) fun us s1 ⟨vs, H1, I1, r, q1⟩ => ⟨I1.kIn, ?_⟩)
  obtain ⟨v, ev, q⟩ := oneV_of q1
  subst ev
  cases r with
  | cons rv rn =>
    cases rn
    exact run_err Z J hr I1 (.name _) rv q
theorem pe_err0 (Z : ErrC X.K C T) (J : ErrI X.K C fI) (hr : Room k X.A) (hm : X.mg x = some (.ref C)) (hg : Gl X x := by rfl) (hdb : (x == ("__debug__" : Str)) = false := by decide) : PE X (.Call (.Name x p) [] [] pos) (tErr C (tC .non)) := by
  refine ⟨fun pins s σ H Q I h => ?_⟩
  refine wpAny_Call_Name_kw (ld_glob I hg hm ?_ hdb)
  exact PySem.W.callWith_K0 I.kIn Z.kC (run_err (us := []) (v := .non) Z J hr I .bare rfl h)
end
/-! ### e.value -/
section
variable {X : Cx} {C T fI : Addr} {x : Str} {e : Expr} {te : TE} {p pos kpos : Pos} {k : Nat}
theorem exo_inst {P : Program} {w : World} {H : Hp} {h : Heap} {e C dx : Addr} {v : V} (ok : HOk P w H h) (ea : H e = some (exo e C (some dx))) (ed : H dx = some (.xd [("value", v)])) :
    ∃ ox od u, PySem.W.InstAt h e ox C (some od) ∧ PySem.W.lookIn "value" od = some (some u) ∧ RelV v u := by
  obtain ⟨t1, ho⟩ := exo_at ok ea
  obtain ⟨mA, hns, hr⟩ := (show ObjOk P w H h dx (.xd [("value", v)]) from ok dx _ ed)
  obtain ⟨od, hod, hl⟩ := lookIn_ns hns
  have l : List.lookup ("value" : Str) [(("value" : Str), v)] = some v := by simp [List.lookup]
  obtain ⟨u, hu, ru⟩ := RelO.some_of (v := v) (o := mA "value") (by rw [← l]; exact hr "value")
  exact ⟨_, od, u, ⟨ho, rfl, rfl, hod⟩, by rw [hl, hu], ru⟩
theorem err_hd {K : PySem.W.Frag} (Z : ErrC K C T) : PySem.W.hasDictIn K C = true := by
  obtain ⟨nm, q, N, bs, sn, sub, ab, col, dd, k0, k1, k2, k3, k5, hC⟩ := Z.cls
  unfold PySem.W.hasDictIn PySem.W.clsIn
  rw [hC]
  rfl
theorem err_sub {K : PySem.W.Frag} (Z : ErrC K C T) (c : Value) : PySem.W.subIn K (.ref C) c = some ((Value.ref C :: .ref T :: HandSPX.veTail).contains c) := by
  obtain ⟨nm, q, N, bs, sn, sub, ab, col, dd, k0, k1, k2, k3, k5, hC⟩ := Z.cls
  show PySem.W.mroIn K C c = _
  unfold PySem.W.mroIn PySem.W.clsIn
  rw [hC]
  rfl
def tValue (K : PySem.W.Frag) (te : TE) : TE := fun σ H Q => te σ H fun x H1 => ∃ (e C : Addr) (v : V), x = .ref e ∧ IsErr H1 e C v ∧ (∃ T, ErrC K C T) ∧ Q v H1
theorem pe_value (he : PE X e te) (hb : attributeBase e "value" X.env (eval e X.env) = eval e X.env := by rfl) : PE X (.Attribute e "value" pos) (tValue X.K te) := by
  refine ⟨fun pins s σ H Q I h => ?_⟩
  refine attr_of hb (thn (he.run pins s σ H _ I h) fun u s1 hh => ?_)
  obtain ⟨x, H1, I1, rx, e, C, v, ex, ⟨dx, ea, ed⟩, ⟨T, Z⟩, q⟩ := hh
  subst ex
  obtain rfl : u = Value.ref e := rx
  obtain ⟨ox, od, u, J, l, ru⟩ := exo_inst I1.hok ea ed
  have hs : PySem.W.subIn X.K (.ref C) (.type "BaseException") = some true := (err_sub Z _).trans (by rw [List.contains_cons, List.contains_cons]; rfl)
  exact HandSPX.exc_get I1.kIn J Z.ga Z.gg hs (PySem.W.findObj_own (err_hd Z) Z.noN rfl l) (handed_of ru) ⟨v, H1, I1.tok _, ru, q⟩
end
end EL
set_option Elab.async false
set_option linter.all false
set_option maxRecDepth 100000
set_option maxHeartbeats 4000000
/-! isinstance of own errors as values -/
namespace PySem.W
open PySem PySem.Spec PySem.Calls PyProof.Rows
section
variable {prog : Program} {w : World} {A : Around} {E : Value → Shared → Prop} {s : Shared} {K : Frag} {x D : Addr} {ox : Obj} {od : Option Obj}
theorem ev_findObj {C : Addr} {name : Str} {a g : Value} (hc : (clsIn K C).isSome = true) (ha : findIn K (.ref C) name = some (some a)) (hg : specialIn K a "__get__" = some (some g)) (ht : takesIn K a = some true) : findObj K C od name = some (.bind g a) := by
  obtain ⟨cd, hc⟩ := Option.isSome_iff_exists.mp hc
  unfold findObj
  rw [hc, Option.bind_some, ha, Option.bind_some]
  simp [hg, ht]
theorem ev_class {Q : Option Value → Shared → Prop} (hga : findIn K (.ref D) "__getattribute__" = some (some (.builtin "BaseException.__getattribute__"))) (hgt : findIn K (.ref D) "__getattr__" = some none) (hsub : subIn K (.ref D) (.type "BaseException") = some true)
    (hdct : hasDictIn K D = true) (ha : findIn K (.ref D) "__class__" = some (some (.builtin "object.__class__")))
    (hn : specialIn K (.builtin "object.__class__") "__get__" = some (some (.builtin "getset_descriptor.__get__"))) (htk : takesIn K (.builtin "object.__class__") = some true) (hm : mroIn K D (.type "object") = some true)
    (X : K.In s.heap) (I : InstAt s.heap x ox D od) (h : Q (some (.ref D)) { s with toks := s.toks + 1 }) : wpAny (model prog w) A (getAttr? (.ref x) "__class__") Q E s := by
  have hf : findObj K D od "__class__" = some (.bind (.builtin "getset_descriptor.__get__") (.builtin "object.__class__")) := ev_findObj (by obtain ⟨cd, hc, _⟩ := any_some hdct; rw [hc]; rfl) ha hn htk
  obtain ⟨hp, g, d, t, os⟩ := s
  have L0 := I.type (M := model prog w)
  have L1 := looks_findIn (M := model prog w) X hga
  have L2 := looks_findIn (M := model prog w) X hgt
  have L3 := looks_find (M := model prog w) X I hf
  have sub : Looks (model prog w) hp (isInstance (.ref x) (.type "BaseException")) true := L0.andThen (looks_subIn X hsub)
  have hx0 : (false && onTheHeap (Value.builtin "BaseException.__getattribute__")) = false := rfl
  have hx2 : (Value.builtin "BaseException.__getattribute__" == Value.builtin "object.__getattribute__") = false := by decide +kernel
  have hx1 : (onTheHeap (Value.ref D) && Value.builtin "BaseException.__getattribute__" == Value.builtin "object.__getattribute__") = false := by rw [hx2]; rfl
  unfold getAttr? getAttrBy? getAttrBy
  refine wpAny_bind (wpAny_mkText (wpAny_bind (wpAny_attempt (wpAny_holding (wpAny_bind (L0.at (wpAny_bind (L1.at ?_))))))))
  show wpAny _ _ (if (onTheHeap (Value.ref D) && Value.builtin "BaseException.__getattribute__" == Value.builtin "object.__getattribute__") = true then _ else _) _ _ _
  rw [hx1, if_neg Bool.false_ne_true]
  unfold getAttrByItsOwn hookBefore
  refine wpAny_bind ?_
  rw [if_pos (show onTheHeap (Value.ref D) = true from rfl)]
  refine L2.at ?_
  refine wpAny_bind (wpAny_attempt (wpAny_holding ?_))
  unfold callGetattribute
  rw [hx0, if_neg Bool.false_ne_true]
  unfold boundAndCalled
  rw [PySem.F.excAttr_ValueError.ga.bind (.ref x)]
  refine wpAny_bind (wpAny_pure ?_)
  show wpAny _ _ (call (.builtin "BaseException.__getattribute__") [.ref x, .str "__class__" t]) _ _ _
  refine wpAny_call (codeAny_call_builtin PySem.F.excAttr_ValueError.ga.plain PySem.F.entry_bexc_ga ?_)
  refine @check_slot (model prog w) _ _ ⟨hp, g, d, t + 1, os⟩ "BaseException.__getattribute__" "BaseException" "__getattribute__" (.ref x) [.str "__class__" t] [] _ (by decide +kernel) (by decide +kernel) sub (PySem.F.args_bexc_ga (.ref x) (.str "__class__" t)) ?_
  unfold Builtin.«object.__getattribute__»
  refine wpAny_bind (wpAny_of_eq (a := ((Value.ref x : Value), [Value.str "__class__" t])) (by first | rfl | (simp only [slotArgs]; rfl)) ?_)
  refine wpAny_bind (wpAny_pure (wpAny_bind (L0.at (wpAny_bind (L3.at ?_)))))
  show wpAny _ _ (holding [Value.builtin "object.__class__"] (call (.builtin "getset_descriptor.__get__") [.builtin "object.__class__", .ref x, .ref D]) >>= ret) _ _ _
  refine wpAny_bind (wpAny_holding (wpAny_call (class_get (s := ⟨hp, g, d, t + 1, os⟩) (ox := ox) (od := od) X I hm ?_)))
  refine wpAny_pure ?_
  show wpAny _ _ (handedOut (.ref D)) _ _ _
  rw [handedOut_of (v := .ref D) rfl]
  first
    | exact wpAny_pure (wpAny_pure h)
    | exact wpAny_pure h
    | exact wpAny_pure (wpAny_bind (wpAny_pure (wpAny_pure h)))
theorem ev_kitx (hga : findIn K (.ref D) "__getattribute__" = some (some (.builtin "BaseException.__getattribute__"))) (hgt : findIn K (.ref D) "__getattr__" = some none) (hsub : subIn K (.ref D) (.type "BaseException") = some true) (hdct : hasDictIn K D = true) (ha : findIn K (.ref D) "__class__" = some (some (.builtin "object.__class__")))
    (hn : specialIn K (.builtin "object.__class__") "__get__" = some (some (.builtin "getset_descriptor.__get__"))) (htk : takesIn K (.builtin "object.__class__") = some true) (hm : mroIn K D (.type "object") = some true) :
    KitX K (.ref x) (.ref D) (fun h => InstAt h x ox D od) where
  ty := fun _ _ _ I => I.type
  it := fun _ _ X _ => by
    obtain ⟨cdD, hcD, _⟩ := any_some hdct
    unfold clsIn at hcD
    split at hcD
    · rename_i c' d' cd' sl' ho
      intro A' Q' E' s' k q
      unfold isType loadHead
      exact wpAny_bind (wpAny_loadPart (k _ _ (X _ _ ho)) (wpAny_pure q))
    · cases hcD
  ne := fun h tp dd its n sl X htp => by
    obtain ⟨cdD, hcD, _⟩ := any_some hdct
    refine Bool.eq_false_iff.mpr fun q => ?_
    have e : D = tp := Value.ref.inj (beq_iff_eq.mp q)
    subst e
    unfold clsIn at hcD
    split at hcD
    · rename_i c' d' cd' sl' ho
      have z := (X _ _ ho).symm.trans htp
      cases z
    · cases hcD
  ca := fun X I k => ev_class hga hgt hsub hdct ha hn htk hm X I k
end
end PySem.W
namespace EL
open PySem PySem.Spec PyProof.Rows L2
open PySem.EV (ErrC ErrI Hand OwnMade)
/-- the classes: errors of the table (mro: itself, the base at T, ValueError's), or the base -/
structure CatC (K : PySem.W.Frag) (C : Addr) (bm : List Value) : Prop where
  cls : ∃ nm q N bs sn sub ab col dd k0 k1 k2 k3 k5, K.lookup C = some (excClassObj nm q C N bs bm true sn sub ab col dd k0 k1 k2 k3 k5 "ValueError.__new__")
  ga : PySem.W.findIn K (.ref C) "__getattribute__" = some (some (.builtin "BaseException.__getattribute__"))
  gg : PySem.W.findIn K (.ref C) "__getattr__" = some none
  ca : PySem.W.findIn K (.ref C) "__class__" = some (some (.builtin "object.__class__"))
  bm : HandSPX.refsVE bm = true
theorem ErrC.cat {K : PySem.W.Frag} {C T : Addr} (Z : ErrC K C T) : CatC K C (.ref T :: HandSPX.veTail) := ⟨Z.cls, Z.ga, Z.gg, Z.ca, PySem.EV.veRT T⟩
section
variable {K : PySem.W.Frag} {C : Addr} {bm : List Value}
theorem CatC.sub (Z : CatC K C bm) (c : Value) : PySem.W.subIn K (.ref C) c = some ((Value.ref C :: bm).contains c) := by
  obtain ⟨nm, q, N, bs, sn, sub, ab, col, dd, k0, k1, k2, k3, k5, hC⟩ := Z.cls
  show PySem.W.mroIn K C c = _
  unfold PySem.W.mroIn PySem.W.clsIn
  rw [hC]
  rfl
theorem CatC.hd (Z : CatC K C bm) : PySem.W.hasDictIn K C = true := by
  obtain ⟨nm, q, N, bs, sn, sub, ab, col, dd, k0, k1, k2, k3, k5, hC⟩ := Z.cls
  unfold PySem.W.hasDictIn PySem.W.clsIn
  rw [hC]
  rfl
theorem CatC.some (Z : CatC K C bm) : (PySem.W.clsIn K C).isSome = true := by
  obtain ⟨nm, q, N, bs, sn, sub, ab, col, dd, k0, k1, k2, k3, k5, hC⟩ := Z.cls
  unfold PySem.W.clsIn
  rw [hC]
  rfl
theorem CatC.ty (Z : CatC K C bm) : PySem.W.typeIn K (.ref C) = Option.some (.type "type") := by
  obtain ⟨nm, q, N, bs, sn, sub, ab, col, dd, k0, k1, k2, k3, k5, hC⟩ := Z.cls
  show (K.lookup C).map (·.cls) = _
  rw [hC]
  rfl
/-- isinstance's answer for an own class -/
theorem CatC.kit {C' : Addr} {bm' : List Value} (Z : CatC K C bm) (Z' : CatC K C' bm') : PySem.W.kitOne K (.ref C) (.ref C') = Option.some ((Value.ref C :: bm).contains (.ref C')) := by
  unfold PySem.W.kitOne
  by_cases h : (Value.ref C == Value.ref C') = true
  · rw [if_pos h, List.contains_cons]
    have h2 : (Value.ref C' == Value.ref C) = true := by
      rw [beq_iff_eq] at h ⊢
      exact h.symm
    rw [h2]
    rfl
  · rw [if_neg h]
    show (if ((PySem.W.clsIn K C').isSome && PySem.W.typeIn K (.ref C') == Option.some (.type "type")) = true then PySem.W.subIn K (.ref C) (.ref C') else none) = _
    rw [Z'.some, Z'.ty, if_pos (by rfl)]
    exact Z.sub _
/-- and for ValueError -/
theorem CatC.kitVE (Z : CatC K C bm) : PySem.W.kitOne K (.ref C) (.type "ValueError") = Option.some true := by
  unfold PySem.W.kitOne
  have hne : ¬ (Value.ref C == Value.type "ValueError") = true := fun z => by
    have z2 := beq_iff_eq.mp z
    cases z2
  rw [if_neg hne]
  show (if PySem.W.kitMeta "ValueError" = true then PySem.W.subIn K (.ref C) (.type "ValueError") else none) = _
  rw [if_pos (by decide +kernel), Z.sub, List.contains_cons, HandSPX.refsVE_contains "ValueError" _ Z.bm]
  rfl
end
/-- the descriptor's own facts -/
structure DscC (K : PySem.W.Frag) : Prop where
  hn : PySem.W.specialIn K (.builtin "object.__class__") "__get__" = some (some (.builtin "getset_descriptor.__get__"))
  ht : PySem.W.takesIn K (.builtin "object.__class__") = some true
/-- isinstance(e, c): e an error of the class at C with or without a dict -/
def rIsX (K : PySem.W.Frag) : List V → Hp → VK → Prop := fun xs H Q => ∃ (e C : Addr) (d : Option Addr) (bm : List Value) (c : V) (cv : Value) (b : Bool), xs = [.ref e, c] ∧ H e = some (exo e C d) ∧ CatC K C bm ∧ ClsV c cv ∧
  (∀ dx, d = some dx → ∃ fs, H dx = some (.xd fs)) ∧ PySem.W.kitOne K (.ref C) cv = some b ∧ Q (.bl b) H
theorem call_isX {X : Cx} (DC : DscC X.K) : CallR X (.builtin "isinstance") (rIsX X.K) := by
  intro pins s σ H xs us Q I r h
  obtain ⟨e, C, d, bm, c, cv, b, rfl, ea, Z, hcv, hd, ek, q⟩ := h
  cases r with
  | cons rx rr =>
    cases rr with
    | cons rt rr =>
      cases rr
      cases rx
      have ec := hcv.eq rt
      subst ec
      obtain ⟨t1, ho⟩ := exo_at I.hok ea
      have J : ∃ od, PySem.W.InstAt s.heap e { cls := .ref C, dict := d, data := .fields #[.ref t1, .none, .none, .none, .bool false, .none] } C od := by
        cases d with
        | none => exact ⟨none, ho, rfl, rfl, trivial⟩
        | some dx =>
          obtain ⟨fs, ed⟩ := hd dx rfl
          obtain ⟨mA, hns, hr⟩ := (show ObjOk X.prog X.w H s.heap dx (.xd fs) from I.hok dx _ ed)
          obtain ⟨od, hod, _⟩ := lookIn_ns hns
          exact ⟨some od, ho, rfl, rfl, hod⟩
      obtain ⟨od, J⟩ := J
      have hs : PySem.W.subIn X.K (.ref C) (.type "BaseException") = some true := by
        rw [Z.sub, List.contains_cons, HandSPX.refsVE_contains "BaseException" _ Z.bm]
        rfl
      have hm : PySem.W.mroIn X.K C (.type "object") = some true := by
        show PySem.W.subIn X.K (.ref C) (.type "object") = _
        rw [Z.sub, List.contains_cons, HandSPX.refsVE_contains "object" _ Z.bm]
        rfl
      exact PySem.W.kia_one (PySem.W.ev_kitx Z.ga Z.gg hs Z.hd Z.ca DC.hn DC.ht hm) I.kIn J ek (fun z => nomatch z) fun tk => ⟨.bl b, H, I.tok tk, rfl, q⟩
/-! ### C() of a class without __init__ -/
def tBareErr (C : Addr) : TE := fun _ H Q => ∀ e H2, Same H H2 → H e = none → H2 e = some (exo e C none) → Q (.ref e) H2
theorem pe_bareErr {X : Cx} {C : Addr} {x : Str} {p pos : Pos} (q : PySem.W.excIn X.K C HandSPX.veTail "ValueError.__new__" = true) (kC : PySem.W.keepIn X.K (.ref C) = true) (hm : X.mg x = some (.ref C)) (hg : Gl X x := by rfl) (hdb : (x == ("__debug__" : Str)) = false := by decide) :
    PE X (.Call (.Name x p) [] [] pos) (tBareErr C) := by
  refine ⟨fun pins s σ H Q I h => ?_⟩
  refine wpAny_Call_Name_kw (ld_glob I hg hm ?_ hdb)
  refine PySem.W.callWith_K0 I.kIn kC ?_
  show wpAny _ _ (call (.ref C) []) _ _ _
  obtain ⟨bm, N, nm, qn, bs, hdct, sn, sub, ab, col, dd, k0, k1, k2, k3, k5, mN, hC, hN, hni, T⟩ := exc_obj I.kIn q
  refine wpAny_call_exc_subT PySem.F.excBase_ValueError T hC hN hni (fun h' a hm => ?_) (Nat.zero_le _)
  have hn : H a = none := I.hok.gone hm.new
  obtain ⟨t, ht, _, _⟩ := hm.there
  exact ⟨.ref a, upd H a (exo a C none), I.laidN hm.keeps hm.new hn (exo_ok ht), rfl, h a _ (fun b o z => by rw [upd_ne (ne_of_none z hn)]; exact z) hn upd_same⟩
end EL
set_option Elab.async false
set_option linter.all false
set_option maxRecDepth 100000
set_option maxHeartbeats 4000000
/-! the law's draws: purses, what is mixed and drawn -/
namespace LW
open PySem PySem.Spec PyProof.Rows L2
open TL (joinL tl tl_join join_eq)
/-! ### the text -/
def topS (i : Nat) : Stmt := PySem.Challenge.pw_keptreadings_k01_errors_made.main.body.getD i (.Pass ⟨0, 0, 0, 0⟩)
abbrev sPurse : Stmt := topS 38
abbrev sMixed : Stmt := topS 39
abbrev sDraw : Stmt := topS 40
abbrev sPurses : Stmt := topS 41
abbrev sOneOf : Stmt := topS 42
abbrev sWord : Stmt := topS 43
theorem scPurse : FnScope ["_law_script", "_law_at", "_law_seed"] ["_law_script", "_law_at"] (defScope sPurse) := ⟨rfl, rfl, rfl, by decide +kernel, rfl, by decide +kernel, by decide +kernel⟩
theorem scMixed : FnScope ["_law_seed", "_law_turn", "_law_at", "_law_mixed_here"] ["_law_seed", "_law_turn", "_law_at"] (defScope sMixed) := ⟨rfl, rfl, rfl, by decide +kernel, rfl, by decide +kernel, by decide +kernel⟩
theorem scDraw : FnScope ["_law_purse_here", "_law_many", "_law_drawn", "_law_found", "_law_piece"] ["_law_purse_here", "_law_many"] (defScope sDraw) := ⟨rfl, rfl, rfl, by decide +kernel, rfl, by decide +kernel, by decide +kernel⟩
theorem scPurses : FnScope ["_law_script", "_law_few", "_law_at"] ["_law_script", "_law_few"] (defScope sPurses) := ⟨rfl, rfl, rfl, by decide +kernel, rfl, by decide +kernel, by decide +kernel⟩
theorem scOneOf : FnScope ["_law_purse_here", "_law_some"] ["_law_purse_here", "_law_some"] (defScope sOneOf) := ⟨rfl, rfl, rfl, by decide +kernel, rfl, by decide +kernel, by decide +kernel⟩
theorem scWord : FnScope ["_law_purse_here", "_law_size", "_law_turn"] ["_law_purse_here"] (defScope sWord) := ⟨rfl, rfl, rfl, by decide +kernel, rfl, by decide +kernel, by decide +kernel⟩
/-! ### heaps -/
/-- all that was tracked is as it was, but what stands at a -/
def Keep (a : Addr) (H H' : Hp) : Prop := ∀ b o, b ≠ a → H b = some o → H' b = some o
theorem Keep.refl {a : Addr} {H : Hp} : Keep a H H := fun _ _ _ h => h
theorem Keep.trans {a : Addr} {H H1 H2 : Hp} (x : Keep a H H1) (y : Keep a H1 H2) : Keep a H H2 := fun b o n h => y b o n (x b o n h)
theorem _root_.L2.Same.keep {a : Addr} {H H' : Hp} (x : Same H H') : Keep a H H' := fun b o _ h => x b o h
theorem keep_upd {a : Addr} {H : Hp} {o : HO} : Keep a H (upd H a o) := fun b u n h => by rw [upd_ne n]; exact h
theorem same_upd {H : Hp} {p : Addr} {o : HO} (h : H p = none) : Same H (upd H p o) := fun b x e => by
  rw [upd_ne (ne_of_none e h)]
  exact e
theorem Keep.none {a b : Addr} {H H' : Hp} (x : Keep a H H') (hb : b ≠ a) (h : H' b = Option.none) : H b = Option.none := by
  cases q : H b with
  | none => rfl
  | some o =>
    rw [x b o hb q] at h
    cases h
theorem Keep.seq {K : PySem.W.Frag} {H H' : Hp} {a b : Addr} {xs : List V} (e : Keep a H H') (hb : b ≠ a) (h : SqL K H b xs) : SqL K H' b xs := by
  rcases h with (h | ⟨o, h⟩) | h
  · exact .inl (.inl (e _ _ hb h))
  · exact .inl (.inr ⟨o, e _ _ hb h⟩)
  · exact .inr h
/-- a purse at a, of which at most n draws were made -/
def Prs (H : Hp) (a : Addr) (n : Nat) : Prop := ∃ (p q t i : Int), H a = some (.lst [.int p, .int q, .int t, .int i]) ∧ 0 ≤ p ∧ 0 ≤ q ∧ q < 2147483629 ∧ 0 ≤ t ∧ t ≤ n
theorem Prs.keep {H H' : Hp} {a b : Addr} {n : Nat} (h : Prs H a n) (k : Keep b H H') (hab : a ≠ b) : Prs H' a n := by
  obtain ⟨p, q, t, i, e, r⟩ := h
  exact ⟨p, q, t, i, k _ _ hab e, r⟩
theorem Prs.same {H H' : Hp} {a : Addr} {n : Nat} (h : Prs H a n) (k : Same H H') : Prs H' a n := by
  obtain ⟨p, q, t, i, e, r⟩ := h
  exact ⟨p, q, t, i, k _ _ e, r⟩
theorem Prs.more {H : Hp} {a : Addr} {n m : Nat} (h : Prs H a n) (k : n ≤ m) : Prs H a m := by
  obtain ⟨p, q, t, i, e, h0, h1, h2, h3, h4⟩ := h
  exact ⟨p, q, t, i, e, h0, h1, h2, h3, by omega⟩
theorem lc_turn {σ : L2.St} {H : Hp} {A B : Hp → Prop} (h : A H) : tYes σ H (fun b H3 => if b = true then A H3 else B H3) := by
  show (if true = true then A H else B H)
  rw [if_pos rfl]
  exact h
/-! ### a great power -/
def CPowW (i j : Int) : Prop := 0 ≤ j ∧ (Builtin.Int.intBits i : Int) * j ≤ 2 ^ 27
theorem op_powW {X : Cx} : OpR X (binaryOp .Pow) (rI CPowW fun i j => .int (i ^ j.toNat)) := opI fun _ _ _ _ _ _ _ hc q => pow_int hc.1 hc.2 q
section
variable {P : Program} {w : World} {K : PySem.W.Frag} {mg : Str → Option Value} {base : Heap}
/-! ### _law_purse -/
def spPurse (K : PySem.W.Frag) : Sp := fun vs H Q _ => ∃ (a : Addr) (ns : List Int) (i : Nat), vs = [.ref a, .int i] ∧ SqL K H a (ns.map V.int) ∧ i < 1000 ∧ ∀ H' p, Same H H' → H p = none → Prs H' p 0 → Q (.ref p) H'
theorem sliced (ns : List Int) (i : Nat) : ∃ ms : List Int, cutV (ns.map V.int) (some (i : Int)) (some ((i : Int) + 1)) = ms.map V.int := by
  unfold cutV
  rw [← List.map_drop, ← List.map_take]
  exact ⟨_, rfl⟩
theorem ok_purse {f : Addr} {fd : FuncData} {k : Nat} (F : Fun K "_law_purse" "_law_purse" sPurse f fd) (ms : mg "sum" = none) (mi : mg "int" = none) (mm : mg "max" = none) : FnOk P w K mg base CX0 (k + 1) f fd ["_law_script", "_law_at"] (spPurse K) := by
  refine F.ok scPurse (fun vs H Q E h => ?_) (fun cdv A outer s H vs Q E hr h => ?_)
  · obtain ⟨a, ns, i, rfl, _⟩ := h
    rfl
  · obtain ⟨a, ns, i, rfl, hS, hi, q⟩ := h
    refine ⟨_, pss_cons (ps_set (i := 2) scPurse.nd rfl (.inl rfl) (pe_callB (cr_sum rfl) (by rfl) ms (by decide +kernel) (pa_cons (pe_slice sl_list (pv 0) (po_some (pv 1)) (po_some (pe_op op_add (pv 1) pe_int))) pa_nil)))
      (pss_one (ps_ret (pe_lst (pa_cons (pe_op op_modN (pe_callTy call_int1 (by rfl) mi (by decide +kernel) (pa_cons (pe_callB (call_max2 rfl) (by rfl) mm (by decide +kernel) (pa_cons (pe_op op_sub (pv 2) (pe_op op_pow pe_int pe_int)) (pa_cons pe_int pa_nil))) pa_nil)) (pe_op op_powW (pe_op op_pow pe_int pe_int) pe_int))
        (pa_cons (pe_op op_mod (pe_callTy call_int1 (by rfl) mi (by decide +kernel) (pa_cons (pv 2) pa_nil)) pe_int) (pa_cons pe_int (pa_cons (pv 1) pa_nil))))))), ?_⟩
    obtain ⟨ms', ems⟩ := sliced ns i
    refine ⟨.ref a, rfl, .int i, rfl, (i : Int), rfl, .int i, rfl, _, _, rfl, rfl, (i : Int) + 1, rfl, a, _, rfl, hS, fun c nc => ?_⟩
    rw [ems]
    have s1 : Same H (upd H c (.lst (ms'.map V.int))) := same_upd nc
    refine ⟨c, ms', rfl, SqL.of upd_same, ?_⟩
    -- the list
    generalize ms'.sum = z
    refine ⟨.int z, rfl, _, _, rfl, rfl, ⟨by decide, by decide, by decide⟩, _, _, rfl, rfl, _, _, rfl, .inl ⟨_, rfl, _, _, rfl, rfl, ⟨by decide, by decide, by decide⟩, _, _, rfl, rfl, ⟨by decide, by decide +kernel⟩, _, _, rfl, rfl, (by show ((10 : Int) ^ Int.toNat 60) ^ Int.toNat 8 ≠ 0; decide +kernel), ?_⟩⟩
    refine ⟨.int z, rfl, .inl ⟨_, rfl, _, _, rfl, rfl, (by show (0 : Int) < 2147483629; decide), .int i, rfl, by show 4 ≤ sizeLine; decide, fun p np => ?_⟩⟩
    refine q _ p (s1.trans (same_upd np)) (s1.free np) ⟨_, _, _, _, upd_same, ?_, ?_, ?_, Int.le_refl _, Int.le_refl _⟩
    · have hb : (0 : Int) < (10 ^ Int.toNat 60) ^ Int.toNat 8 := by decide +kernel
      show (0 : Int) ≤ Int.fmod _ ((10 ^ Int.toNat 60) ^ Int.toNat 8)
      rw [Int.fmod_eq_emod_of_nonneg _ (Int.le_of_lt hb)]
      exact Int.emod_nonneg _ (Int.ne_of_gt hb)
    · exact Int.emod_nonneg _ (by decide)
    · exact Int.emod_lt_of_pos _ (by decide)
/-! ### _law_mixed -/
def spMixed : Sp := fun vs H Q _ => ∃ (s t a : Int), vs = [.int s, .int t, .int a] ∧ 0 ≤ t ∧ t < 2 ^ 63 ∧ ∀ r : Int, 0 ≤ r → r < 2147483587 → Q (.int r) H
theorem ok_mixed {f : Addr} {fd : FuncData} {k : Nat} (F : Fun K "_law_mixed" "_law_mixed" sMixed f fd) (mi : mg "int" = none) : FnOk P w K mg base CX0 (k + 1) f fd ["_law_seed", "_law_turn", "_law_at"] spMixed := by
  refine F.ok scMixed (fun vs H Q E h => ?_) (fun cdv A outer s H vs Q E hr h => ?_)
  · obtain ⟨a, b, c, rfl, _⟩ := h
    rfl
  · obtain ⟨a, t, c, rfl, h0, h1, q⟩ := h
    have big : -(2 ^ 64) < t ∧ t < 2 ^ 64 := by omega
    refine ⟨_, pss_cons (ps_set (i := 3) scMixed.nd rfl (.inl rfl) (pe_op op_add (pe_op op_mul (pv 0) pe_int) (pe_op op_mul (pe_op op_mul pe_int (pv 1)) (pv 1))))
      (pss_cons (ps_set (i := 3) scMixed.nd rfl (.inl rfl) (pe_op op_mod (pe_callTy call_int1 (by rfl) mi (by decide +kernel) (pa_cons (pe_op op_add (pe_op op_add (pv 3) (pe_op op_mul pe_int (pv 2))) (pv 1)) pa_nil)) pe_int))
      (pss_cons (ps_set (i := 3) scMixed.nd rfl (.inl rfl) (pe_op op_mod (pe_callTy call_int1 (by rfl) mi (by decide +kernel) (pa_cons (pe_op op_add (pe_op op_mul (pv 3) (pv 3)) pe_int) pa_nil)) pe_int))
      (pss_one (ps_ret (pe_op op_mod (pe_callTy call_int1 (by rfl) mi (by decide +kernel) (pa_cons (pe_op op_mul (pv 3) pe_int) pa_nil)) pe_int))))), ?_⟩
    refine ⟨.int a, rfl, _, _, rfl, rfl, .inr (by constructor <;> decide), .int t, rfl, _, _, rfl, rfl, .inl (by constructor <;> decide), .int t, rfl, _, _, rfl, rfl, .inr big, _, _, rfl, rfl, ?_⟩
    refine ⟨_, rfl, .int c, rfl, _, _, rfl, rfl, .inl (by constructor <;> decide), _, _, rfl, rfl, .int t, rfl, _, _, rfl, rfl, .inl ⟨_, rfl, _, _, rfl, rfl, (by show (0 : Int) < 2147483647; decide), ?_⟩⟩
    have x0 : 0 ≤ (a * 69069 + 104729 * t * t + 7919 * c + t) % 2147483647 := Int.emod_nonneg _ (by decide)
    have x1 : (a * 69069 + 104729 * t * t + 7919 * c + t) % 2147483647 < 2147483647 := Int.emod_lt_of_pos _ (by decide)
    refine ⟨_, rfl, _, rfl, _, _, rfl, rfl, .inl (show -(2 ^ 64) < (a * 69069 + 104729 * t * t + 7919 * c + t) % 2147483647 ∧ (a * 69069 + 104729 * t * t + 7919 * c + t) % 2147483647 < 2 ^ 64 from ⟨by omega, by omega⟩), _, _, rfl, rfl, .inl ⟨_, rfl, _, _, rfl, rfl, (by show (0 : Int) < 2147483629; decide), ?_⟩⟩
    refine ⟨_, rfl, _, _, rfl, rfl, .inr (by constructor <;> decide), .inl ⟨_, rfl, _, _, rfl, rfl, (by show (0 : Int) < 2147483587; decide), ?_⟩⟩
    exact q _ (Int.emod_nonneg _ (by decide)) (Int.emod_lt_of_pos _ (by decide))
/-! ### _law_draw -/
def spDraw : Sp := fun vs H Q _ => ∃ (a : Addr) (m : Int) (n : Nat), vs = [.ref a, .int m] ∧ Prs H a n ∧ n < 2 ^ 40 ∧ 0 < m ∧ m < 2 ^ 26 ∧ ∀ (r : Int) H', 0 ≤ r → r < m → Keep a H H' → Prs H' a (n + 1) → Q (.int r) H'
theorem ok_draw {f fM : Addr} {fd fdM : FuncData} (F : Fun K "_law_draw" "_law_draw" sDraw f fd) (FM : Fun K "_law_mixed" "_law_mixed" sMixed fM fdM) (bM : Binds K fdM ["_law_seed", "_law_turn", "_law_at"] []) (gM : mg "_law_mixed" = some (.ref fM)) (mi : mg "int" = none) (mr : mg "range" = none) :
    FnOk P w K mg base CX0 2 f fd ["_law_purse_here", "_law_many"] spDraw := by
  have GM : FnOk P w K mg base CX0 1 fM fdM ["_law_seed", "_law_turn", "_law_at"] spMixed := ok_mixed FM mi
  refine F.ok scDraw (fun vs H Q E h => ?_) (fun cdv A outer s H vs Q E hr h => ?_)
  · obtain ⟨a, m, n, rfl, _⟩ := h
    rfl
  · obtain ⟨a, m, n, rfl, hP, hn, m0, m1, q⟩ := h
    have nd := scDraw.nd
    refine ⟨_, pss_cons (ps_if (pt_cmpR op_gt (pe_ix ix_list (pv 0) pe_int (fun _ _ => rfl)) pe_int (nomark _))
        (pss_cons (ps_set (i := 2) nd rfl (.inl rfl) (pe_op op_mod (pe_callTy call_int1 (by rfl) mi (by decide +kernel) (pa_cons (pe_ix ix_list (pv 0) pe_int (fun _ _ => rfl)) pa_nil)) (pv 1)))
        (pss_cons (ps_asg (pe_op op_fdivN (pe_ix ix_list (pv 0) pe_int (fun _ _ => rfl)) (pv 1)) (pg_sub (pv 0) pe_int set_list))
        (pss_one (ps_ret (pv 2))))) pss_nil)
      (pss_cons (ps_set (i := 3) nd rfl (.inl rfl) pe_int)
      (pss_cons (ps_for PassesOwn.never rfl (pi_range1 rfl mr (pa_cons (pe_op op_add pe_int (pe_op op_fdiv (pe_bits (pv 1)) pe_int)) pa_nil)) (pg_name (i := 4) nd rfl (.inl rfl))
        (pss_cons (ps_asg (pe_op op_add (pe_ix ix_list (pv 0) pe_int (fun _ _ => rfl)) pe_int) (pg_sub (pv 0) pe_int set_list))
        (pss_one (ps_set (i := 3) nd rfl (.inl rfl) (pe_op op_add (pe_op op_mul (pv 3) pe_int) (pe_call GM hr (by rfl) gM FM.kp bM .nil pass0 (pa_cons (pe_ix ix_list (pv 0) pe_int (fun _ _ => rfl)) (pa_cons (pe_ix ix_list (pv 0) pe_int (fun _ _ => rfl)) (pa_cons (pe_ix ix_list (pv 0) pe_int (fun _ _ => rfl)) pa_nil)))))))))
      (pss_one (ps_ret (pe_op op_mod (pe_callTy call_int1 (by rfl) mi (by decide +kernel) (pa_cons (pv 3) pa_nil)) (pv 1)))))), ?_⟩
    obtain ⟨p, qq, t, i, e, p0, q0, q1, t0, t1⟩ := hP
    refine ⟨.ref a, rfl, a, _, 0, .int p, rfl, rfl, SqL.of e, atI_nat (j := 0) rfl, _, _, rfl, rfl, _, rfl, ite2 (fun c => ?_) (fun c => ?_)⟩
    · have hp : 0 < p := of_decide_eq_true c
      refine ⟨.ref a, rfl, a, _, 0, .int p, rfl, rfl, SqL.of e, atI_nat (j := 0) rfl, .inl ⟨_, rfl, .int m, rfl, _, _, rfl, rfl, m0, ?_⟩⟩
      refine ⟨.ref a, rfl, a, _, 0, .int p, rfl, rfl, SqL.of e, atI_nat (j := 0) rfl, .int m, rfl, _, _, rfl, rfl, ⟨by omega, by omega⟩, .ref a, rfl, ?_⟩
      refine ⟨a, _, 0, 0, rfl, rfl, e, rfl, _, rfl, ?_⟩
      exact q _ _ (Int.emod_nonneg _ (by omega)) (Int.emod_lt_of_pos _ m0) keep_upd ⟨_, _, _, _, upd_same, Int.fdiv_nonneg p0 (Int.le_of_lt m0), q0, q1, t0, by omega⟩
    · have hb : Builtin.Int.intBits m ≤ 26 := PyProof.Rows.intBits_le (by omega)
      have hN : Int.toNat ((1 : Int) + (Builtin.Int.intBits m : Int) / 28) = 1 := by omega
      refine ⟨.int m, rfl, _, rfl, _, _, rfl, rfl, ⟨by decide, by decide⟩, _, _, rfl, rfl, ?_⟩
      refine ⟨_, rfl, ?_, ?_, for_range (n := Int.toNat ((1 : Int) + (Builtin.Int.intBits m : Int) / 28)) (fun j σ H' => ∃ (z : Int) (y : Option V), σ = [some (.ref a), some (.int m), none, some (.int z), y] ∧ Keep a H H' ∧ H' a = some (.lst [.int p, .int qq, .int (t + j), .int i])) ⟨0, none, rfl, Keep.refl, ?_⟩ ?_ ?_⟩
      · show -(2 ^ 62) ≤ (1 : Int) + (Builtin.Int.intBits m : Int) / 28
        omega
      · show (1 : Int) + (Builtin.Int.intBits m : Int) / 28 < 2 ^ 62
        omega
      · simpa using e
      · rintro j σ H' hj ⟨z, y, rfl, k1, e1⟩
        have hj0 : j = 0 := by
          rw [hN] at hj
          omega
        subst hj0
        refine ⟨.ref a, rfl, a, _, 2, _, rfl, rfl, SqL.of e1, atI_nat (j := 2) rfl, _, _, rfl, rfl, .ref a, rfl, a, _, 2, 2, rfl, rfl, e1, rfl, ?_⟩
        refine ⟨_, rfl, _, _, rfl, rfl, .inr (by constructor <;> decide), ?_⟩
        refine ⟨.ref a, rfl, a, _, 1, _, rfl, rfl, SqL.of upd_same, atI_nat (j := 1) rfl, .ref a, rfl, a, _, 2, _, rfl, rfl, SqL.of upd_same, atI_nat (j := 2) rfl, .ref a, rfl, a, _, 3, _, rfl, rfl, SqL.of upd_same, atI_nat (j := 3) rfl, ?_⟩
        refine ⟨_, _, _, rfl, ?_, ?_, fun r r0 r1 => ?_⟩
        · show 0 ≤ t + ((0 : Nat) : Int) + 1
          omega
        · show t + ((0 : Nat) : Int) + 1 < 2 ^ 63
          omega
        · refine ⟨_, _, rfl, rfl, _, _, rfl, k1.trans keep_upd, ?_⟩
          have et : t + ((0 : Nat) : Int) + 1 = t + ((0 + 1 : Nat) : Int) := by omega
          rw [upd_same, ← et]
          rfl
      · rw [hN]
        rintro σ H' ⟨z, y, rfl, k1, e1⟩
        refine ⟨_, rfl, .inl ⟨_, rfl, .int m, rfl, _, _, rfl, rfl, m0, ?_⟩⟩
        refine q _ _ (Int.emod_nonneg _ (by omega)) (Int.emod_lt_of_pos _ m0) k1 ⟨_, _, _, _, e1, p0, q0, q1, ?_, ?_⟩
        · show 0 ≤ t + ((1 : Nat) : Int)
          omega
        · show t + ((1 : Nat) : Int) ≤ ((n + 1 : Nat) : Int)
          omega
/-! ### _law_one_of -/
def spOneOf (K : PySem.W.Frag) : Sp := fun vs H Q _ => ∃ (a b : Addr) (xs : List V) (n : Nat), vs = [.ref a, .ref b] ∧ Prs H a n ∧ n < 2 ^ 40 ∧ SqL K H b xs ∧ b ≠ a ∧ 0 < xs.length ∧ xs.length < 2 ^ 26 ∧ ∀ (v : V) H', v ∈ xs → Keep a H H' → Prs H' a (n + 1) → Q v H'
theorem ok_oneof {f fD : Addr} {fd fdD : FuncData} (F : Fun K "_law_one_of" "_law_one_of" sOneOf f fd) (kD : PySem.W.keepIn K (.ref fD) = true) (GD : FnOk P w K mg base CX0 2 fD fdD ["_law_purse_here", "_law_many"] spDraw) (bD : Binds K fdD ["_law_purse_here", "_law_many"] []) (gD : mg "_law_draw" = some (.ref fD)) (ml : mg "len" = none) :
    FnOk P w K mg base CX0 3 f fd ["_law_purse_here", "_law_some"] (spOneOf K) := by
  refine F.ok scOneOf (fun vs H Q E h => ?_) (fun cdv A outer s H vs Q E hr h => ?_)
  · obtain ⟨a, b, xs, n, rfl, _⟩ := h
    rfl
  · obtain ⟨a, b, xs, n, rfl, hP, hn, hS, hab, l0, l1, q⟩ := h
    refine ⟨_, pss_one (ps_ret (pe_ix ix_list (pv 1) (pe_call GD hr (by rfl) gD kD bD .nil pass0 (pa_cons (pv 0) (pa_cons (pe_callB call_len_seq (by rfl) ml PySem.boot_len (pa_cons (pv 1) pa_nil)) pa_nil))) (fun _ _ => rfl))), ?_⟩
    refine ⟨.ref b, rfl, .ref a, rfl, .ref b, rfl, b, xs, rfl, .inl hS, a, xs.length, n, rfl, hP, hn, by omega, by omega, fun r H' r0 r1 k1 P1 => ?_⟩
    have hr : r.toNat < xs.length := by omega
    refine ⟨b, xs, r, xs[r.toNat], rfl, rfl, k1.seq hab hS, ?_, q _ _ (List.getElem_mem hr) k1 P1⟩
    have er : r = ((r.toNat : Nat) : Int) := by omega
    have g : xs[r.toNat]? = some xs[r.toNat] := List.getElem?_eq_getElem hr
    have := atI_nat (j := r.toNat) g
    rw [← er] at this
    exact this
/-! ### _law_purses -/
def spPurses (K : PySem.W.Frag) : Sp := fun vs H Q _ => ∃ (a : Addr) (ns : List Int) (m : Nat), vs = [.ref a, .int m] ∧ SqL K H a (ns.map V.int) ∧ ns.length ≤ 63 ∧ m < 60 ∧ ∀ (H' : Hp) (p : Addr) (as : List Addr), Same H H' → H p = none → H' p = some (.lst (as.map V.ref)) → as.length ≤ 60 → as.Nodup → p ∉ as → (∀ x ∈ as, Prs H' x 0 ∧ H x = none) → Q (.ref p) H'
theorem clamp (l m : Int) (h0 : 0 ≤ l) (h1 : 0 ≤ m) (h2 : m ≤ 60) : 0 ≤ (if (if l < m then l else m) > 1 then (if l < m then l else m) else 1) ∧ (if (if l < m then l else m) > 1 then (if l < m then l else m) else 1) ≤ 60 := by
  constructor <;> (repeat' split) <;> omega
theorem ok_purses {f fP : Addr} {fd fdP : FuncData} (F : Fun K "_law_purses" "_law_purses" sPurses f fd) (kP : PySem.W.keepIn K (.ref fP) = true) (GP : FnOk P w K mg base CX0 1 fP fdP ["_law_script", "_law_at"] (spPurse K)) (bP : Binds K fdP ["_law_script", "_law_at"] []) (gP : mg "_law_purse" = some (.ref fP))
    (ml : mg "len" = none) (mr : mg "range" = none) (mx : mg "max" = none) (mn : mg "min" = none) : FnOk P w K mg base CX0 2 f fd ["_law_script", "_law_few"] (spPurses K) := by
  refine F.ok scPurses (fun vs H Q E h => ?_) (fun cdv A outer s H vs Q E hr h => ?_)
  · obtain ⟨a, ns, m, rfl, _⟩ := h
    rfl
  · obtain ⟨a, ns, m, rfl, hS, hl, hm, q⟩ := h
    refine ⟨_, pss_one (ps_ret (pe_lc (own := [("_law_at", 2)]) (g := gName 2) (tt := tYes) rfl scPurses.nd (pi_range1 rfl mr (pa_cons (pe_callB (call_max2 rfl) (by rfl) mx (by decide +kernel) (pa_cons pe_int (pa_cons (pe_callB (call_min2 rfl) (by rfl) mn (by decide +kernel) (pa_cons (pv 1) (pa_cons (pe_callB call_len_seq (by rfl) ml PySem.boot_len (pa_cons (pv 0) pa_nil)) pa_nil))) pa_nil))) pa_nil))
      (blkOk_by (own := [("_law_at", 2)]) (N := ["_law_script", "_law_few", "_law_at"]) (sc := defScope sPurses) (by decide +kernel)) (fun _ _ _ _ _ => pg_name (i := 2) scPurses.nd rfl (Or.inl rfl)) (fun _ _ _ _ _ => pts_nil)
      (fun _ _ _ _ _ => pe_call GP hr (by rfl) gP kP bP .nil pass0 (pa_cons (pv 0) (pa_cons (pv 2) pa_nil))))), ?_⟩
    refine ⟨.int m, rfl, .ref a, rfl, a, _, rfl, .inl hS, _, _, rfl, _, _, rfl, ?_⟩
    obtain ⟨v0, v1⟩ := clamp ((ns.map V.int).length : Int) (m : Int) (Int.natCast_nonneg _) (Int.natCast_nonneg _) (by omega)
    refine ⟨_, rfl, ?_, ?_, fun D nD => ?_⟩
    · exact Int.le_trans (by decide) v0
    · exact Int.lt_of_le_of_lt v1 (by decide)
    have h60 : (60 : Nat) < sizeLine := by rw [sizeLine_eq]; decide
    refine lc_range (lo := 0) (n := ((if (if ((ns.map V.int).length : Int) < (m : Int) then ((ns.map V.int).length : Int) else (m : Int)) > 1 then (if ((ns.map V.int).length : Int) < (m : Int) then ((ns.map V.int).length : Int) else (m : Int)) else 1)).toNat) (fun i H' => ∃ as : List Addr, as.length = i ∧ Same H H' ∧ H' D = some (.lst (as.map V.ref)) ∧ as.Nodup ∧ D ∉ as ∧ ∀ x ∈ as, Prs H' x 0 ∧ H x = none) ⟨[], rfl, same_upd nD, upd_same, List.nodup_nil, by simp, by simp⟩ ?_ ?_
    · rintro i H1 hi ⟨as, el, s1, eD, hnd, hD, hA⟩
      have hi2 : i < 60 := by omega
      refine ⟨rfl, ?_⟩
      refine lc_turn ?_
      refine ⟨.ref a, rfl, .int (0 + (i : Int)), rfl, a, ns, i, ?_, s1.seq hS, by omega, fun H2 p s2 np hp => ?_⟩
      · show [V.ref a, V.int (0 + (i : Int))] = [V.ref a, V.int (i : Int)]
        rw [Int.zero_add]
      · have pD : D ≠ p := ne_of_none eD np
        have pas : p ∉ as := fun hx => by
          obtain ⟨⟨p', q', t', i', e', _⟩, _⟩ := hA p hx
          rw [np] at e'
          cases e'
        refine ⟨as.map V.ref, s2 _ _ eD, ?_, as ++ [p], ?_, ?_, ?_, ?_, ?_, ?_⟩
        · rw [List.length_map]
          omega
        · rw [List.length_append, el]
          rfl
        · intro b o hb
          rw [upd_ne (ne_of_none hb nD)]
          exact s2 _ _ (s1 _ _ hb)
        · rw [upd_same, List.map_append]
          rfl
        · rw [List.nodup_append]
          exact ⟨hnd, (by simp), fun x hx y hy => by
            rw [List.mem_singleton] at hy
            subst hy
            exact fun e => pas (e ▸ hx)⟩
        · rw [List.mem_append, List.mem_singleton]
          exact fun h => h.elim hD pD
        · intro x hx
          rw [List.mem_append, List.mem_singleton] at hx
          rcases hx with hx | rfl
          · obtain ⟨h1, h2⟩ := hA x hx
            refine ⟨?_, h2⟩
            exact (h1.same s2).keep keep_upd (fun e => hD (e ▸ hx))
          · refine ⟨hp.keep keep_upd pD.symm, s1.free np⟩
    · rintro H1 ⟨as, el, s1, eD, hnd, hD, hA⟩
      exact q H1 D as s1 nD eD (by omega) hnd hD hA
/-! ### _law_word -/
def Letters (x : Str) : Prop := ∀ c ∈ x.cps.toList, 97 ≤ c ∧ c ≤ 122
theorem joinL_len : ∀ ps : List (List Nat), (joinL [] ps).length = (ps.map List.length).sum
  | [] => rfl
  | [p] => by simp [joinL]
  | p :: q :: r => by
    have ih := joinL_len (q :: r)
    show (p ++ ([] ++ joinL [] (q :: r))).length = _
    rw [List.nil_append, List.length_append, ih, List.map_cons (l := q :: r), List.sum_cons]
theorem joinL_mem {c : Nat} : ∀ ps : List (List Nat), c ∈ joinL [] ps → ∃ p ∈ ps, c ∈ p
  | [], h => by cases h
  | [p], h => ⟨p, List.mem_singleton.mpr rfl, h⟩
  | p :: q :: r, h => by
    have h' : c ∈ p ++ ([] ++ joinL [] (q :: r)) := h
    rw [List.nil_append, List.mem_append] at h'
    rcases h' with h | h
    · exact ⟨p, List.mem_cons_self, h⟩
    · obtain ⟨p', h1, h2⟩ := joinL_mem (q :: r) h
      exact ⟨p', List.mem_cons_of_mem _ h1, h2⟩
theorem ones_sum : ∀ ys : List Str, (∀ y ∈ ys, y.length = 1) → (ys.map (·.length)).sum = ys.length
  | [], _ => rfl
  | y :: r, h => by
    rw [List.map_cons, List.sum_cons, h y List.mem_cons_self, ones_sum r fun z hz => h z (List.mem_cons_of_mem _ hz), List.length_cons]
    omega
theorem join_ones {ys : List Str} (h : ∀ y ∈ ys, y.length = 1) (hl : ∀ y ∈ ys, Letters y) : (Txt.join "" ys).length = ys.length ∧ Letters (Txt.join "" ys) := by
  have e : tl (Txt.join "" ys) = joinL [] (ys.map tl) := by
    rw [join_eq, tl_join]
    rfl
  constructor
  · have l : (Txt.join "" ys).length = (tl (Txt.join "" ys)).length := (Array.length_toList ..).symm
    rw [l, e, joinL_len, List.map_map]
    have : (List.length ∘ tl) = (fun y : Str => y.length) := by
      funext y
      exact Array.length_toList ..
    rw [this]
    exact ones_sum ys h
  · intro c hc
    have hc' : c ∈ tl (Txt.join "" ys) := hc
    rw [e] at hc'
    obtain ⟨p, hp, hcp⟩ := joinL_mem _ hc'
    obtain ⟨y, hy, rfl⟩ := List.mem_map.mp hp
    exact hl y hy c hcp
theorem abc : ∀ i : Nat, i < 26 → (Str.ofString "abcdefghijklmnopqrstuvwxyz").cps.toList[i]? = some (97 + i) := by decide +kernel
/-- a drawn word: one to eight letters -/
def spWord : Sp := fun vs H Q _ => ∃ (a : Addr) (n : Nat), vs = [.ref a] ∧ Prs H a n ∧ n < 2 ^ 30 ∧ ∀ (x : Str) H', 1 ≤ x.length → x.length ≤ 8 → Letters x → Keep a H H' → Prs H' a (n + 10) → Q (.str x) H'
theorem ok_word {f fD : Addr} {fd fdD : FuncData} (F : Fun K "_law_word" "_law_word" sWord f fd) (kD : PySem.W.keepIn K (.ref fD) = true) (GD : FnOk P w K mg base CX0 2 fD fdD ["_law_purse_here", "_law_many"] spDraw) (bD : Binds K fdD ["_law_purse_here", "_law_many"] []) (gD : mg "_law_draw" = some (.ref fD)) (mr : mg "range" = none) :
    FnOk P w K mg base CX0 3 f fd ["_law_purse_here"] spWord := by
  refine F.ok scWord (fun vs H Q E h => ?_) (fun cdv A outer s H vs Q E hr h => ?_)
  · obtain ⟨a, n, rfl, _⟩ := h
    rfl
  · obtain ⟨a, n, rfl, hP, hn, q⟩ := h
    refine ⟨_, pss_cons (ps_set (i := 1) scWord.nd rfl (.inl rfl) (pe_op op_add pe_int (pe_call GD hr (by rfl) gD kD bD .nil pass0 (pa_cons (pv 0) (pa_cons (pe_ifExp (pt_cmpR op_eq (pe_call GD hr (by rfl) gD kD bD .nil pass0 (pa_cons (pv 0) (pa_cons pe_int pa_nil))) pe_int (nomark _)) pe_int pe_int) pa_nil)))))
      (pss_one (ps_ret (pe_join pe_str (pe_lc (own := [("_law_turn", 2)]) (g := gName 2) (tt := tYes) rfl scWord.nd (pi_range1 rfl mr (pa_cons (pv 1) pa_nil))
        (blkOk_by (own := [("_law_turn", 2)]) (N := ["_law_purse_here", "_law_size", "_law_turn"]) (sc := defScope sWord) (by decide +kernel)) (fun _ _ _ _ _ => pg_name (i := 2) scWord.nd rfl (Or.inl rfl)) (fun _ _ _ _ _ => pts_nil)
        (fun _ _ _ _ _ => pe_ix ix_str pe_str (pe_call GD hr (by rfl) gD kD bD .nil pass0 (pa_cons (pv 0) (pa_cons pe_int pa_nil))) (fun _ _ => rfl)))))), ?_⟩
    refine ⟨.ref a, rfl, .ref a, rfl, a, 3, n, rfl, hP, by omega, by decide, by decide, fun r0 H1 _ _ k1 P1 => ⟨rfl, _, rfl, ite2 (fun _ => ?_) (fun _ => ?_)⟩⟩
    all_goals refine ⟨a, _, n + 1, rfl, P1, by omega, by decide, by decide, fun r H2 hr0 hr1 k2 P2 => ?_⟩
    all_goals refine ⟨_, _, rfl, rfl, ⟨_, rfl⟩, _, rfl, _, rfl, ?_, ?_, fun D nD => ?_⟩
    all_goals try (show -(2 ^ 62) ≤ (1 : Int) + r; omega)
    all_goals try (show (1 : Int) + r < 2 ^ 62; omega)
    all_goals
      have Da : a ≠ D := fun e => by
        obtain ⟨p', q', t', i', e', _⟩ := P2
        rw [← e, e'] at nD
        cases nD
      have hbig : (100 : Nat) < sizeLine := by rw [sizeLine_eq]; decide
      refine lc_range (lo := 0) (n := ((1 : Int) + r).toNat) (fun i H' => ∃ ys : List Str, ys.length = i ∧ (∀ y ∈ ys, y.length = 1) ∧ (∀ y ∈ ys, Letters y) ∧ Keep a H H' ∧ H' D = some (.lst (ys.map V.str)) ∧ Prs H' a (n + 2 + i)) ⟨[], rfl, by simp, by simp, (k1.trans k2).trans (same_upd nD).keep, upd_same, P2.same (same_upd nD)⟩ ?_ ?_
      · rintro i H3 hi ⟨ys, el, h1, hl, k3, eD, P3⟩
        have hi2 : i < 9 := by omega
        refine ⟨rfl, lc_turn ?_⟩
        refine ⟨.ref a, rfl, a, 26, n + 2 + i, rfl, P3, by omega, by decide, by decide, fun r4 H4 h40 h41 k4 P4 => ?_⟩
        have g : atI (Str.ofString "abcdefghijklmnopqrstuvwxyz").cps.toList r4 = some (97 + r4.toNat) := by
          have e4 : r4 = ((r4.toNat : Nat) : Int) := by omega
          have := atI_nat (xs := (Str.ofString "abcdefghijklmnopqrstuvwxyz").cps.toList) (j := r4.toNat) (abc r4.toNat (by omega))
          rw [← e4] at this
          exact this
        refine ⟨_, _, _, rfl, rfl, by decide +kernel, g, ys.map V.str, k4 _ _ Da.symm eD, ?_, ys ++ [⟨#[97 + r4.toNat]⟩], ?_, ?_, ?_, ?_, ?_, ?_⟩
        · rw [List.length_map]
          omega
        · rw [List.length_append, el]
          rfl
        · intro y hy
          rw [List.mem_append, List.mem_singleton] at hy
          rcases hy with hy | rfl
          · exact h1 y hy
          · rfl
        · intro y hy
          rw [List.mem_append, List.mem_singleton] at hy
          rcases hy with hy | rfl
          · exact hl y hy
          · intro c hc
            have hc2 : c = 97 + r4.toNat := by simpa using hc
            omega
        · intro b o hb hbo
          have hbD : b ≠ D := fun e => by
            have z := k1.trans k2 b o hb hbo
            rw [e, nD] at z
            cases z
          rw [upd_ne hbD]
          exact k4 _ _ hb (k3 _ _ hb hbo)
        · rw [upd_same, List.map_append]
          rfl
        · exact (P4.more (by omega)).keep keep_upd Da
      · rintro H3 ⟨ys, el, h1, hl, k3, eD, P3⟩
        obtain ⟨j1, j2⟩ := join_ones h1 hl
        refine ⟨_, D, ys, rfl, rfl, .inl (SqL.of eD), ?_, q _ _ ?_ ?_ j2 k3 (P3.more (by omega))⟩
        · rw [ones_sum ys h1, show (Str.ofString "").length = 0 from rfl]
          omega
        · show 1 ≤ (Txt.join "" ys).length
          omega
        · show (Txt.join "" ys).length ≤ 8
          omega
end
end LW
set_option Elab.async false
set_option linter.all false
set_option maxRecDepth 100000
set_option maxHeartbeats 4000000
/-! defs that run where no repr is under way (guards told), and repr of data -/
namespace GD
open PySem PySem.Spec PyProof.Rows L2
/-- a promise kept wherever nothing is being shown -/
structure FnG (P : Program) (w : World) (K : PySem.W.Frag) (mg : Str → Option Value) (base : Heap) (k : Nat) (f : Addr) (fd : FuncData) (ps : List Str) (sp : Sp) : Prop where
  len : ∀ vs H Q E, sp vs H Q E → vs.length = ps.length
  run : ∀ A outer s H args us vs Q E, A.guards = some [] → Room k A → Env0 P w K mg base A outer s H → BindsTo s fd args (ps.zip us) → Vals vs us → sp vs H Q E → codeAny (model P w) A (.call (.ref f) args) (CR CX0 outer P w H s Q E) s
section
variable {P : Program} {w : World} {K : PySem.W.Frag} {mg : Str → Option Value} {base : Heap}
/-- such a def by its body -/
theorem Fun.okG {x qual : Str} {st : Stmt} {f : Addr} {fd : FuncData} {N ps : List Str} {k : Nat} {sp : Sp} (F : Fun K x qual st f fd) (S : FnScope N ps (defScope st)) (len : ∀ vs H Q E, sp vs H Q E → vs.length = ps.length)
    (hbody : ∀ (cdv : Value) (A : Around) (outer : List Env) (s : Shared) (H : Hp) (vs : List V) (Q : VK) (E : XK), A.guards = some [] → Room k (A.deeper (envOfC qual (defScope st) s.heap.objs.size f cdv)) → sp vs H Q E →
      ∃ t, PSs (cxOf CX0 P w K mg base N qual (defScope st) f cdv A outer s H E).nox (defBody st) t ∧ t { nx := fun _ H' => Q .non H', rt := Q } (start N vs) H) : FnG P w K mg base (k + 1) f fd ps sp := by
  obtain ⟨oc, od, kV, doc, pm, an, cdv, ct, osl, rfl, lk, hcd⟩ := F.ex
  refine ⟨len, fun A outer s H args us vs Q E hg hr e0 hb r hsp => ?_⟩
  have hl := len _ _ _ _ hsp
  have bk := fun b o e => (e0.bs b o e).1
  have KX : K.In s.heap := e0.mod.kin.keeps bk
  have par : ∀ y ∈ ps.zip us, (defScope st).names.lookup y.1 = some .local ∨ ((defScope st).names.lookup y.1 = some .cell ∧ ((cellsFrom (s.heap.objs.size + 1) (defScope st).names []).lookup y.1).isSome = true) := by
    rintro ⟨n, v⟩ hy
    exact (S.par n (List.of_mem_zip hy).1).imp id fun q => ⟨q, PySem.W.cellsFrom_some _ _ _ (.inl q)⟩
  refine codeAny_call_function hr.depth (KX _ _ lk) rfl S.co S.gen rfl (PySem.W.codeRec_of KX hcd) (hb _ _ _ _ (wpAny_newFunctionEnv_cells S.kind par ?_))
  rintro env rfl s1 x1
  obtain ⟨t, ht, hq⟩ := hbody cdv A outer s H vs Q E hg (hr.deeper _) hsp
  refine ⟨(e0.mod.nolimit.keeps bk).keeps x1.toInCall.keep, codeAny_func (wpAny_mono (ht.nox.run [] s1 (start N vs) H _ (inv_start S hr.hd e0 hl r x1) hq) ?_ fun _ _ z => z)⟩
  intro fl s' hs
  match fl, hs with
  | .ret u, ⟨v, _, H', J, rv, q⟩ => exact ⟨v, H', J.os, J.bare, J.base, J.hok, rv, q⟩
  | .next, ⟨_, H', J, q⟩ => exact ⟨V.non, H', J.os, J.bare, J.base, J.hok, rfl, q⟩
  | .brk, ⟨_, _, _, q⟩ => exact q.elim
  | .cont, ⟨_, _, _, q⟩ => exact q.elim
end
section
variable {X : Cx} {k : Nat} {f : Addr} {fd : FuncData} {ps : List Str} {sp : Sp} {x : Str} {p pos : Pos} {e : Expr} {es : List Expr} {t : TA}
/-- f(e, ..) of such a def -/
theorem pe_callG (F : FnG X.prog X.w X.K X.mg X.base k f fd ps sp) (gd : X.A.guards = some []) (hr : Room k X.A) (hg : Gl X x) (hm : X.mg x = some (.ref f)) (hk : PySem.W.keepIn X.K (.ref f) = true) (hb : Binds X.K fd ps [])
    (ha : PA X (e :: es) t) (hdb : (x == ("__debug__" : Str)) = false := by decide) (he : starEach (e :: es) X.env = (false, eval e X.env) :: starEach es X.env := by rfl) (hpl : (backTo pos (starEach es X.env)).any (·.1) = false := by rfl) :
    PE X (.Call (.Name x p) (e :: es) [] pos) (tCall sp [] E0 t) := by
  refine ⟨fun pins s σ H Q I h => wpAny_Call_Name_kw (ld_glob I hg hm ?_ hdb)⟩
  refine PySem.W.callWith_K (h₀ := X.base) I.ok.mod.kin hk (thn (ha.run pos pins s σ H _ I h) ?_) he hpl
  rintro us s1 ⟨vs, H1, I1, r, q⟩
  have r0 : Vals (vs ++ []) us := by rw [List.append_nil]; exact r
  have hl : (us ++ []).length = ps.length := by rw [List.append_nil, ← r0.length]; exact F.len _ _ _ _ q
  have hbs := hb s1 us I1.kIn hl
  rw [List.append_nil] at hbs
  refine ⟨I1.kIn, wpAny_call (codeAny_mono (F.run X.A X.stack s1 H1 ⟨us, []⟩ us (vs ++ []) Q E0 gd hr I1.env0 hbs r0 q) ?_)⟩
  intro res s' hq
  match res, hq with
  | .ok (.ret u), hq => exact I1.after hq
  | .ok .next, hq => exact hq.elim
  | .ok .brk, hq => exact hq.elim
  | .ok .cont, hq => exact hq.elim
  | .error _, hq => exact hq.elim
end
/-! ### data with dicts, as the layer tracks them; the addresses that a look at it meets -/
mutual
inductive Dq (H : Hp) : V → PyData → List Addr → Prop
  | non : Dq H .non .none []
  | bl (b : Bool) : Dq H (.bl b) (.bool b) []
  | int (i : Int) : Dq H (.int i) (.int i) []
  | str (x : Str) : Dq H (.str x) (.str x) []
  | lst {a : Addr} {xs : List V} {ds : List PyData} {as : List Addr} : H a = some (.lst xs) → DqAll H xs ds as → Dq H (.ref a) (.list ds) (a :: as)
  | tup {a : Addr} {xs : List V} {ds : List PyData} {as : List Addr} : H a = some (.tup xs) → DqAll H xs ds as → Dq H (.ref a) (.tuple ds) as
  | one {a : Addr} {k : Str} {v : V} {d : PyData} {as : List Addr} : H a = some (.dK [(.inr k, v)]) → Dq H v d as → Dq H (.ref a) (.dict [(.str k, d)]) (a :: as)
inductive DqAll (H : Hp) : List V → List PyData → List Addr → Prop
  | nil : DqAll H [] [] []
  | cons {v : V} {vs : List V} {d : PyData} {ds : List PyData} {as bs : List Addr} : Dq H v d as → DqAll H vs ds bs → DqAll H (v :: vs) (d :: ds) (as ++ bs)
end
mutual
theorem Dq.same {H H' : Hp} (s : Same H H') : ∀ (d : PyData) (v : V) (as : List Addr), Dq H v d as → Dq H' v d as
  | .none, _, _, h => by cases h; exact .non
  | .bool b, _, _, h => by cases h; exact .bl b
  | .int i, _, _, h => by cases h; exact .int i
  | .str x, _, _, h => by cases h; exact .str x
  | .list ds, _, _, h => by
    cases h with
    | lst e a => exact .lst (s _ _ e) (DqAll.same s ds _ _ a)
  | .tuple ds, _, _, h => by
    cases h with
    | tup e a => exact .tup (s _ _ e) (DqAll.same s ds _ _ a)
  | .dict [], _, _, h => by cases h
  | .dict [(_, d)], _, _, h => by
    cases h with
    | one e a => exact .one (s _ _ e) (Dq.same s d _ _ a)
  | .dict (_ :: _ :: _), _, _, h => by cases h
theorem DqAll.same {H H' : Hp} (s : Same H H') : ∀ (ds : List PyData) (vs : List V) (as : List Addr), DqAll H vs ds as → DqAll H' vs ds as
  | [], _, _, h => by cases h; exact .nil
  | d :: ds, _, _, h => by
    cases h with
    | cons a b => exact .cons (Dq.same s d _ _ a) (DqAll.same s ds _ _ b)
end
section
variable {P : Program} {w : World} {H : Hp} {h : Heap}
mutual
theorem Dq.reads (ok : HOk P w H h) : ∀ (d : PyData) (v : V) (u : Value) (as : List Addr), Dq H v d as → RelV v u → Reads h u d as
  | .none, _, _, _, z, r => by cases z; cases r; exact .none
  | .bool b, _, _, _, z, r => by cases z; cases r; exact .bool b
  | .int i, _, _, _, z, r => by cases z; obtain ⟨t, rfl⟩ := r; exact .int i t
  | .str x, _, _, _, z, r => by cases z; obtain ⟨t, rfl⟩ := r; exact .str x t
  | .list ds, _, _, _, z, r => by
    cases z with
    | lst e a =>
      cases r
      obtain ⟨_, its, n, rv, ho⟩ := ok _ _ e
      exact .list ho rfl rfl (DqAll.reads ok ds _ _ _ a rv)
  | .tuple ds, _, _, _, z, r => by
    cases z with
    | tup e a =>
      cases r
      obtain ⟨_, its, rv, o, ho, hc, n, hd⟩ := ok _ _ e
      exact .tuple ho hc hd (DqAll.reads ok ds _ _ _ a rv)
  | .dict [], _, _, _, z, _ => by cases z
  | .dict [(k, d)], _, _, _, z, r => by
    cases z with
    | @one a kx v _ as e b =>
      cases r
      obtain ⟨_, _, vs, rel, o, es, n, ho, hx, hd, _, hp, _⟩ := ok _ _ e
      obtain ⟨u, rfl, ru⟩ : ∃ u, vs = [(Sum.inr kx, u)] ∧ RelV v u := by
        cases rel with
        | cons r1 r2 =>
          cases r2
          obtain ⟨e1, e2⟩ := r1
          dsimp only at e1 e2
          refine ⟨_, ?_, e2⟩
          rw [e1]
      generalize hes : es.toList = l at hp
      cases hp with
      | @cons en _ _ _ hk hv rest =>
        cases rest
        have hk' : keyIs (Sum.inr kx : Key) en.key = true := hk
        rcases keyIs_shape hk' with ⟨i, t, q1, _⟩ | ⟨x, t, q1, q2⟩
        · cases q1
        · cases q1
          have rd := Dq.reads ok d v en.val as b (hv ▸ ru)
          have la : a :: as = a :: ([] ++ []) ++ (as ++ []) := by simp
          rw [la]
          refine .dict ho hx.1 hd ?_ ?_
          · rw [hes]
            show ReadsAll h [en.key] [.str kx] _
            rw [q2]
            exact .cons (.str _ _) .nil
          · rw [hes]
            exact .cons rd .nil
  | .dict (_ :: _ :: _), _, _, _, z, _ => by cases z
theorem DqAll.reads (ok : HOk P w H h) : ∀ (ds : List PyData) (vs : List V) (us : List Value) (as : List Addr), DqAll H vs ds as → Vals vs us → ReadsAll h us ds as
  | [], _, _, _, z, r => by cases z; cases r; exact .nil
  | d :: ds, _, _, _, z, r => by
    cases z with
    | cons a b =>
      cases r with
      | cons r1 r2 => exact .cons (Dq.reads ok d _ _ _ a r1) (DqAll.reads ok ds _ _ _ b r2)
end
end
/-! ### repr -/
/-- what is shown of a value at a heap -/
structure Shows (H : Hp) (v : V) (n : Str) : Prop where
  ex : ∃ (d : PyData) (as : List Addr), Dq H v d as ∧ sysModules ∉ as ∧ d.showable = true ∧ d.depth ≤ 20 ∧ d.shown.length ≤ sizeLine ∧ d.shown = n
theorem Shows.same {H H' : Hp} {v : V} {n : Str} (z : Shows H v n) (s : Same H H') : Shows H' v n := by
  obtain ⟨d, as, a, b⟩ := z.ex
  exact ⟨d, as, Dq.same s d v as a, b⟩
def rRepr : List V → Hp → VK → Prop := fun xs H Q => ∃ (v : V) (n : Str), xs = [v] ∧ Shows H v n ∧ Q (.str n) H
theorem call_repr {X : Cx} {k : Nat} (gd : X.A.guards = some []) (hr : Room k X.A) : CallR X (.builtin "repr") rRepr := by
  intro pins s σ H xs us Q I r h
  obtain ⟨v, n, rfl, ⟨d, as, hd, hs, hsh, hdep, hlen, rfl⟩, q⟩ := h
  obtain ⟨u, rfl, ru⟩ := vals1 r
  have fin : ∀ (t : Tok) (h' : Heap) (tk : Nat), (∀ b o, s.heap.get? b = some o → h'.get? b = some o) → EP X pins σ Q (.str d.shown t) { s with heap := h', toks := tk } := fun t h' tk k => ⟨.str _, H, I.kept k, ⟨_, rfl⟩, q⟩
  have big : X.A.units + (d.depth + 1) < cLine := by
    have := hr.un
    omega
  have rd := Dq.reads I.hok d v u as hd ru
  cases hd with
  | non => cases ru; exact PySem.P.repr_of_none (fin _ _ _ fun _ _ z => z)
  | bl b => cases ru; exact PySem.P.repr_of_bool (fin _ _ _ fun _ _ z => z)
  | int i => obtain ⟨t, rfl⟩ := ru; exact PySem.P.repr_of_int (of_decide_eq_true hsh) (fin _ _ _ fun _ _ z => z)
  | str x => obtain ⟨t, rfl⟩ := ru; exact PySem.P.repr_of_str (fin _ _ _ fun _ _ z => z) hlen
  | lst _ _ => cases ru; exact repr_of_reads' rd hsh (fun _ => hs) gd big (fun _ _ z => z) (fun h' u tk k => fin u h' tk k) hlen
  | tup _ _ => cases ru; exact repr_of_reads' rd hsh (fun _ => hs) gd big (fun _ _ z => z) (fun h' u tk k => fin u h' tk k) hlen
  | one _ _ => cases ru; exact repr_of_reads' rd hsh (fun _ => hs) gd big (fun _ _ z => z) (fun h' u tk k => fin u h' tk k) hlen
end GD
set_option Elab.async false
set_option linter.all false
set_option maxRecDepth 100000
set_option maxHeartbeats 4000000
/-! k01: the law's lists of errors -/
namespace K1
open PySem PySem.Spec PyProof.Rows L2 EL LW GD
open PySem.EV (ErrC ErrI)
/-! ### the text -/
abbrev sFirst : Stmt := topS 44
abbrev sCalled : Stmt := topS 45
abbrev sBare : Stmt := topS 46
abbrev sCode : Stmt := topS 47
abbrev sIsError : Stmt := topS 48
abbrev sRight : Stmt := topS 49
abbrev sLaw : Stmt := topS 50
theorem scFirst : FnScope ["_law_thing", "_law_found"] ["_law_thing"] (defScope sFirst) := ⟨rfl, rfl, rfl, by decide +kernel, rfl, by decide +kernel, by decide +kernel⟩
theorem scCalled : FnScope ["_law_thing", "_law_found"] ["_law_thing"] (defScope sCalled) := ⟨rfl, rfl, rfl, by decide +kernel, rfl, by decide +kernel, by decide +kernel⟩
theorem scBare : FnScope ["_law_found"] [] (defScope sBare) := ⟨rfl, rfl, rfl, by decide +kernel, rfl, by decide +kernel, by decide +kernel⟩
theorem scCode : FnScope ["_law_error", "_law_found", "_law_at"] ["_law_error"] (defScope sCode) := ⟨rfl, rfl, rfl, by decide +kernel, rfl, by decide +kernel, by decide +kernel⟩
theorem scIsError : FnScope ["_law_error"] ["_law_error"] (defScope sIsError) := ⟨rfl, rfl, rfl, by decide +kernel, rfl, by decide +kernel, by decide +kernel⟩
theorem scRight : FnScope ["_law_some", "_law_noted", "_law_error", "_law_at"] ["_law_some", "_law_noted"] (defScope sRight) := ⟨rfl, rfl, rfl, by decide +kernel, rfl, by decide +kernel, by decide +kernel⟩
def nm : List Str := [Str.ofString "InvalidToken", Str.ofString "InvalidText", Str.ofString "InvalidForm", Str.ofString "InvalidForms", Str.ofString "InvalidWords", Str.ofString "Unsound", Str.ofString "InvalidEdition", Str.ofString "InvalidEditions", Str.ofString "InvalidChange", Str.ofString "InvalidChanges", Str.ofString "InvalidPattern", Str.ofString "Fault", Str.ofString "InvalidKey", Str.ofString "InvalidTree", Str.ofString "UnknownForm", Str.ofString "InvalidPath", Str.ofString "InvalidSpot", Str.ofString "InvalidMarks", Str.ofString "InvalidWay", Str.ofString "InvalidTable", Str.ofString "InvalidWorkshop", Str.ofString "InvalidLog", Str.ofString "InvalidScript", Str.ofString "InvalidCount", Str.ofString "Refused", Str.ofString "InvalidEdit", Str.ofString "UnknownPlace", Str.ofString "InvalidReason", Str.ofString "InvalidStack", Str.ofString "InvalidRow", Str.ofString "InvalidLot", Str.ofString "InvalidSurroundings", Str.ofString "InvalidLook", Str.ofString "NothingToUndo", Str.ofString "NothingToRedo"]
/-- what the top holds: the base at T, the classes by their places, their __init__s -/
structure Top (K : PySem.W.Frag) (mg : Str → Option Value) (T : Addr) (C I : Nat → Addr) : Prop where
  m : ∀ i, i < 35 → mg (nm.getD i "") = some (.ref (C i))
  z : ∀ i, i < 33 → ErrC K (C i) T
  j : ∀ i, i < 33 → ErrI K (C i) (I i)
  cat : ∀ i, i < 35 → CatC K (C i) (.ref T :: HandSPX.veTail)
  ex : ∀ i, 33 ≤ i → i < 35 → PySem.W.excIn K (C i) HandSPX.veTail "ValueError.__new__" = true
  kp : ∀ i, i < 35 → PySem.W.keepIn K (.ref (C i)) = true
  tm : mg "TongueError" = some (.ref T)
  tc : CatC K T HandSPX.veTail
  tex : PySem.W.excIn K T HandSPX.veTail "ValueError.__new__" = true
  tk : PySem.W.keepIn K (.ref T) = true
  inj : ∀ i j, i < 35 → j < 35 → C i = C j → i = j
  nt : ∀ i, i < 35 → C i ≠ T
  dsc : DscC K
/-! ### lists of errors -/
abbrev ErrL (H : Hp) (C : Nat → Addr) (v : V) (is : List Nat) (es : List Addr) : Prop := Paired (fun i e => IsErr H e (C i) v) is es
theorem paired_append {α β : Type} {F : α → β → Prop} : ∀ {a b : List α} {c d : List β}, Paired F a c → Paired F b d → Paired F (a ++ b) (c ++ d)
  | _, _, _, _, .nil, h => h
  | _, _, _, _, .cons x t, h => .cons x (paired_append t h)
theorem errl_same {H H' : Hp} {C : Nat → Addr} {v : V} {is : List Nat} {es : List Addr} (h : ErrL H C v is es) (s : Same H H') : ErrL H' C v is es := Paired.mapP h fun _ _ z => z.same s
def tErrs (C : Nat → Addr) (te : TE) : List Nat → TA
  | [] => tNil
  | i :: is => tCons (tErr (C i) te) (tErrs C te is)
theorem errs_read {C : Nat → Addr} {te : TE} {σ : L2.St} {v : V} (hte : ∀ H Q, Q v H → te σ H Q) : ∀ (is : List Nat) (H : Hp) (Q : List V → Hp → Prop),
    (∀ es H2, Same H H2 → ErrL H2 C v is es → Q (es.map V.ref) H2) → tErrs C te is σ H Q
  | [], H, Q, q => q [] H (Same.refl H) .nil
  | i :: is, H, Q, q => hte _ _ fun e H2 s1 _ he => errs_read hte is H2 _ fun es H3 s2 hs => q (e :: es) H3 (s1.trans s2) (.cons (he.same s2) hs)
section
variable {C : Nat → Addr} {te : TE} {σ : L2.St} {v : V} {H : Hp} {D : Ends} {u : TS} {is is0 : List Nat} {s : Nat}
theorem sz (n : Nat) (h : n ≤ 100) : n ≤ sizeLine := Nat.le_trans h (by rw [sizeLine_eq]; decide)
theorem grow0 (hte : ∀ H Q, Q v H → te σ H Q) (hl : is.length ≤ 40) (k : ∀ l es H2, Same H H2 → H2 l = some (.lst (es.map V.ref)) → ErrL H2 C v is es → u D (σ.set s (some (.ref l))) H2) :
    tSeq (tAsg (tLst (tErrs C te is)) (gName s)) u D σ H := by
  refine errs_read hte is H _ fun es H2 s1 he => ⟨?_, fun p np => ?_⟩
  · rw [List.length_map, ← Paired.length he]
    exact sz _ (by omega)
  · exact k p es _ (s1.trans (same_upd np)) upd_same (errl_same he (same_upd np))
theorem grow1 {l0 : Addr} {es0 : List Addr} (hte : ∀ H Q, Q v H → te σ H Q) (hσ : σ[s]? = some (some (.ref l0))) (hl0 : H l0 = some (.lst (es0.map V.ref))) (h0 : ErrL H C v is0 es0) (hl : is0.length + is.length ≤ 40)
    (k : ∀ l es H2, Same H H2 → H2 l = some (.lst (es.map V.ref)) → ErrL H2 C v (is0 ++ is) es → u D (σ.set s (some (.ref l))) H2) :
    tSeq (tAsg (tOp rCat (tVar s) (tLst (tErrs C te is))) (gName s)) u D σ H := by
  refine ⟨_, hσ, errs_read hte is H _ fun es H2 s1 he => ⟨?_, fun p np => ?_⟩⟩
  · rw [List.length_map, ← Paired.length he]
    exact sz _ (by omega)
  · have s2 := s1.trans (same_upd (o := .lst (es.map V.ref)) np)
    refine ⟨l0, p, _, _, rfl, rfl, s2 _ _ hl0, upd_same, ?_, fun p2 np2 => ?_⟩
    · rw [List.length_map, List.length_map, ← Paired.length he, ← Paired.length h0]
      exact sz _ (by omega)
    · have s3 := s2.trans (same_upd (o := .lst (es0.map V.ref ++ es.map V.ref)) np2)
      refine k p2 (es0 ++ es) _ s3 ?_ (paired_append (errl_same h0 s3) (errl_same he ((same_upd np).trans (same_upd np2))))
      rw [upd_same, List.map_append]
end
section
variable {P : Program} {w : World} {K : PySem.W.Frag} {mg : Str → Option Value} {base : Heap} {T : Addr} {C I : Nat → Addr}
def spFirst (C : Nat → Addr) : Sp := fun vs H Q _ => ∃ v : V, vs = [v] ∧ ∀ l es H2, Same H H2 → H2 l = some (.lst (es.map V.ref)) → ErrL H2 C v (List.range 33) es → Q (.ref l) H2
def spBare (C : Nat → Addr) : Sp := fun vs H Q _ => vs = [] ∧ ∀ l es H2, Same H H2 → H2 l = some (.lst (es.map V.ref)) → ErrL H2 C .non (List.range 33) es → Q (.ref l) H2

theorem ok_first {f : Addr} {fd : FuncData} (F : Fun K "_law_first" "_law_first" sFirst f fd) (A : Top K mg T C I) : FnOk P w K mg base CX0 3 f fd ["_law_thing"] (spFirst C) := by
  refine F.ok scFirst (fun vs H Q E h => ?_) (fun cdv Ar outer s H vs Q E hr h => ?_)
  · obtain ⟨v, rfl, _⟩ := h
    rfl
  · obtain ⟨v, rfl, q⟩ := h
    have nd := scFirst.nd
    refine ⟨_, (pss_cons (ps_set (i := 1) nd rfl (.inl rfl) (pe_lst (show PA _ _ (tErrs C (tVar 0) [0, 1, 2, 3]) from (pa_cons (pe_err (A.z 0 (by decide)) (A.j 0 (by decide)) hr (A.m 0 (by decide)) (pv 0)) (pa_cons (pe_err (A.z 1 (by decide)) (A.j 1 (by decide)) hr (A.m 1 (by decide)) (pv 0)) (pa_cons (pe_err (A.z 2 (by decide)) (A.j 2 (by decide)) hr (A.m 2 (by decide)) (pv 0)) (pa_cons (pe_err (A.z 3 (by decide)) (A.j 3 (by decide)) hr (A.m 3 (by decide)) (pv 0)) pa_nil)))))))
      (pss_cons (ps_set (i := 1) nd rfl (.inl rfl) (pe_op op_cat (pv 1) (pe_lst (show PA _ _ (tErrs C (tVar 0) [4, 5, 6, 7]) from (pa_cons (pe_err (A.z 4 (by decide)) (A.j 4 (by decide)) hr (A.m 4 (by decide)) (pv 0)) (pa_cons (pe_err (A.z 5 (by decide)) (A.j 5 (by decide)) hr (A.m 5 (by decide)) (pv 0)) (pa_cons (pe_err (A.z 6 (by decide)) (A.j 6 (by decide)) hr (A.m 6 (by decide)) (pv 0)) (pa_cons (pe_err (A.z 7 (by decide)) (A.j 7 (by decide)) hr (A.m 7 (by decide)) (pv 0)) pa_nil))))))))
      (pss_cons (ps_set (i := 1) nd rfl (.inl rfl) (pe_op op_cat (pv 1) (pe_lst (show PA _ _ (tErrs C (tVar 0) [8, 9, 10, 11]) from (pa_cons (pe_err (A.z 8 (by decide)) (A.j 8 (by decide)) hr (A.m 8 (by decide)) (pv 0)) (pa_cons (pe_err (A.z 9 (by decide)) (A.j 9 (by decide)) hr (A.m 9 (by decide)) (pv 0)) (pa_cons (pe_err (A.z 10 (by decide)) (A.j 10 (by decide)) hr (A.m 10 (by decide)) (pv 0)) (pa_cons (pe_err (A.z 11 (by decide)) (A.j 11 (by decide)) hr (A.m 11 (by decide)) (pv 0)) pa_nil))))))))
      (pss_cons (ps_set (i := 1) nd rfl (.inl rfl) (pe_op op_cat (pv 1) (pe_lst (show PA _ _ (tErrs C (tVar 0) [12, 13, 14, 15]) from (pa_cons (pe_err (A.z 12 (by decide)) (A.j 12 (by decide)) hr (A.m 12 (by decide)) (pv 0)) (pa_cons (pe_err (A.z 13 (by decide)) (A.j 13 (by decide)) hr (A.m 13 (by decide)) (pv 0)) (pa_cons (pe_err (A.z 14 (by decide)) (A.j 14 (by decide)) hr (A.m 14 (by decide)) (pv 0)) (pa_cons (pe_err (A.z 15 (by decide)) (A.j 15 (by decide)) hr (A.m 15 (by decide)) (pv 0)) pa_nil))))))))
      (pss_cons (ps_set (i := 1) nd rfl (.inl rfl) (pe_op op_cat (pv 1) (pe_lst (show PA _ _ (tErrs C (tVar 0) [16, 17, 18, 19]) from (pa_cons (pe_err (A.z 16 (by decide)) (A.j 16 (by decide)) hr (A.m 16 (by decide)) (pv 0)) (pa_cons (pe_err (A.z 17 (by decide)) (A.j 17 (by decide)) hr (A.m 17 (by decide)) (pv 0)) (pa_cons (pe_err (A.z 18 (by decide)) (A.j 18 (by decide)) hr (A.m 18 (by decide)) (pv 0)) (pa_cons (pe_err (A.z 19 (by decide)) (A.j 19 (by decide)) hr (A.m 19 (by decide)) (pv 0)) pa_nil))))))))
      (pss_cons (ps_set (i := 1) nd rfl (.inl rfl) (pe_op op_cat (pv 1) (pe_lst (show PA _ _ (tErrs C (tVar 0) [20, 21, 22, 23]) from (pa_cons (pe_err (A.z 20 (by decide)) (A.j 20 (by decide)) hr (A.m 20 (by decide)) (pv 0)) (pa_cons (pe_err (A.z 21 (by decide)) (A.j 21 (by decide)) hr (A.m 21 (by decide)) (pv 0)) (pa_cons (pe_err (A.z 22 (by decide)) (A.j 22 (by decide)) hr (A.m 22 (by decide)) (pv 0)) (pa_cons (pe_err (A.z 23 (by decide)) (A.j 23 (by decide)) hr (A.m 23 (by decide)) (pv 0)) pa_nil))))))))
      (pss_cons (ps_set (i := 1) nd rfl (.inl rfl) (pe_op op_cat (pv 1) (pe_lst (show PA _ _ (tErrs C (tVar 0) [24, 25, 26, 27]) from (pa_cons (pe_err (A.z 24 (by decide)) (A.j 24 (by decide)) hr (A.m 24 (by decide)) (pv 0)) (pa_cons (pe_err (A.z 25 (by decide)) (A.j 25 (by decide)) hr (A.m 25 (by decide)) (pv 0)) (pa_cons (pe_err (A.z 26 (by decide)) (A.j 26 (by decide)) hr (A.m 26 (by decide)) (pv 0)) (pa_cons (pe_err (A.z 27 (by decide)) (A.j 27 (by decide)) hr (A.m 27 (by decide)) (pv 0)) pa_nil))))))))
      (pss_cons (ps_set (i := 1) nd rfl (.inl rfl) (pe_op op_cat (pv 1) (pe_lst (show PA _ _ (tErrs C (tVar 0) [28, 29, 30, 31]) from (pa_cons (pe_err (A.z 28 (by decide)) (A.j 28 (by decide)) hr (A.m 28 (by decide)) (pv 0)) (pa_cons (pe_err (A.z 29 (by decide)) (A.j 29 (by decide)) hr (A.m 29 (by decide)) (pv 0)) (pa_cons (pe_err (A.z 30 (by decide)) (A.j 30 (by decide)) hr (A.m 30 (by decide)) (pv 0)) (pa_cons (pe_err (A.z 31 (by decide)) (A.j 31 (by decide)) hr (A.m 31 (by decide)) (pv 0)) pa_nil))))))))
      (pss_cons (ps_set (i := 1) nd rfl (.inl rfl) (pe_op op_cat (pv 1) (pe_lst (show PA _ _ (tErrs C (tVar 0) [32]) from (pa_cons (pe_err (A.z 32 (by decide)) (A.j 32 (by decide)) hr (A.m 32 (by decide)) (pv 0)) pa_nil)))))
      (pss_one (ps_ret (pv 1)))))))))))), ?_⟩
    refine grow0 (v := v) (fun H Q q => ⟨v, rfl, q⟩) (by decide) fun l0 es0 H0 s0 e0 r0 => ?_
    refine grow1 (v := v) (fun H Q q => ⟨v, rfl, q⟩) rfl e0 r0 (by decide) fun l1 es1 H1 s1 e1 r1 => ?_
    refine grow1 (v := v) (fun H Q q => ⟨v, rfl, q⟩) rfl e1 r1 (by decide) fun l2 es2 H2 s2 e2 r2 => ?_
    refine grow1 (v := v) (fun H Q q => ⟨v, rfl, q⟩) rfl e2 r2 (by decide) fun l3 es3 H3 s3 e3 r3 => ?_
    refine grow1 (v := v) (fun H Q q => ⟨v, rfl, q⟩) rfl e3 r3 (by decide) fun l4 es4 H4 s4 e4 r4 => ?_
    refine grow1 (v := v) (fun H Q q => ⟨v, rfl, q⟩) rfl e4 r4 (by decide) fun l5 es5 H5 s5 e5 r5 => ?_
    refine grow1 (v := v) (fun H Q q => ⟨v, rfl, q⟩) rfl e5 r5 (by decide) fun l6 es6 H6 s6 e6 r6 => ?_
    refine grow1 (v := v) (fun H Q q => ⟨v, rfl, q⟩) rfl e6 r6 (by decide) fun l7 es7 H7 s7 e7 r7 => ?_
    refine grow1 (v := v) (fun H Q q => ⟨v, rfl, q⟩) rfl e7 r7 (by decide) fun l8 es8 H8 s8 e8 r8 => ?_
    exact ⟨_, rfl, q l8 es8 _ ((((((((s0.trans s1).trans s2).trans s3).trans s4).trans s5).trans s6).trans s7).trans s8) e8 r8⟩

theorem ok_called {f : Addr} {fd : FuncData} (F : Fun K "_law_called" "_law_called" sCalled f fd) (A : Top K mg T C I) : FnOk P w K mg base CX0 3 f fd ["_law_thing"] (spFirst C) := by
  refine F.ok scCalled (fun vs H Q E h => ?_) (fun cdv Ar outer s H vs Q E hr h => ?_)
  · obtain ⟨v, rfl, _⟩ := h
    rfl
  · obtain ⟨v, rfl, q⟩ := h
    have nd := scCalled.nd
    refine ⟨_, (pss_cons (ps_set (i := 1) nd rfl (.inl rfl) (pe_lst (show PA _ _ (tErrs C (tVar 0) [0, 1, 2]) from (pa_cons (pe_errK (A.z 0 (by decide)) (A.j 0 (by decide)) hr (A.m 0 (by decide)) (pv 0)) (pa_cons (pe_errK (A.z 1 (by decide)) (A.j 1 (by decide)) hr (A.m 1 (by decide)) (pv 0)) (pa_cons (pe_errK (A.z 2 (by decide)) (A.j 2 (by decide)) hr (A.m 2 (by decide)) (pv 0)) pa_nil))))))
      (pss_cons (ps_set (i := 1) nd rfl (.inl rfl) (pe_op op_cat (pv 1) (pe_lst (show PA _ _ (tErrs C (tVar 0) [3, 4, 5]) from (pa_cons (pe_errK (A.z 3 (by decide)) (A.j 3 (by decide)) hr (A.m 3 (by decide)) (pv 0)) (pa_cons (pe_errK (A.z 4 (by decide)) (A.j 4 (by decide)) hr (A.m 4 (by decide)) (pv 0)) (pa_cons (pe_errK (A.z 5 (by decide)) (A.j 5 (by decide)) hr (A.m 5 (by decide)) (pv 0)) pa_nil)))))))
      (pss_cons (ps_set (i := 1) nd rfl (.inl rfl) (pe_op op_cat (pv 1) (pe_lst (show PA _ _ (tErrs C (tVar 0) [6, 7, 8]) from (pa_cons (pe_errK (A.z 6 (by decide)) (A.j 6 (by decide)) hr (A.m 6 (by decide)) (pv 0)) (pa_cons (pe_errK (A.z 7 (by decide)) (A.j 7 (by decide)) hr (A.m 7 (by decide)) (pv 0)) (pa_cons (pe_errK (A.z 8 (by decide)) (A.j 8 (by decide)) hr (A.m 8 (by decide)) (pv 0)) pa_nil)))))))
      (pss_cons (ps_set (i := 1) nd rfl (.inl rfl) (pe_op op_cat (pv 1) (pe_lst (show PA _ _ (tErrs C (tVar 0) [9, 10, 11]) from (pa_cons (pe_errK (A.z 9 (by decide)) (A.j 9 (by decide)) hr (A.m 9 (by decide)) (pv 0)) (pa_cons (pe_errK (A.z 10 (by decide)) (A.j 10 (by decide)) hr (A.m 10 (by decide)) (pv 0)) (pa_cons (pe_errK (A.z 11 (by decide)) (A.j 11 (by decide)) hr (A.m 11 (by decide)) (pv 0)) pa_nil)))))))
      (pss_cons (ps_set (i := 1) nd rfl (.inl rfl) (pe_op op_cat (pv 1) (pe_lst (show PA _ _ (tErrs C (tVar 0) [12, 13, 14]) from (pa_cons (pe_errK (A.z 12 (by decide)) (A.j 12 (by decide)) hr (A.m 12 (by decide)) (pv 0)) (pa_cons (pe_errK (A.z 13 (by decide)) (A.j 13 (by decide)) hr (A.m 13 (by decide)) (pv 0)) (pa_cons (pe_errK (A.z 14 (by decide)) (A.j 14 (by decide)) hr (A.m 14 (by decide)) (pv 0)) pa_nil)))))))
      (pss_cons (ps_set (i := 1) nd rfl (.inl rfl) (pe_op op_cat (pv 1) (pe_lst (show PA _ _ (tErrs C (tVar 0) [15, 16, 17]) from (pa_cons (pe_errK (A.z 15 (by decide)) (A.j 15 (by decide)) hr (A.m 15 (by decide)) (pv 0)) (pa_cons (pe_errK (A.z 16 (by decide)) (A.j 16 (by decide)) hr (A.m 16 (by decide)) (pv 0)) (pa_cons (pe_errK (A.z 17 (by decide)) (A.j 17 (by decide)) hr (A.m 17 (by decide)) (pv 0)) pa_nil)))))))
      (pss_cons (ps_set (i := 1) nd rfl (.inl rfl) (pe_op op_cat (pv 1) (pe_lst (show PA _ _ (tErrs C (tVar 0) [18, 19, 20]) from (pa_cons (pe_errK (A.z 18 (by decide)) (A.j 18 (by decide)) hr (A.m 18 (by decide)) (pv 0)) (pa_cons (pe_errK (A.z 19 (by decide)) (A.j 19 (by decide)) hr (A.m 19 (by decide)) (pv 0)) (pa_cons (pe_errK (A.z 20 (by decide)) (A.j 20 (by decide)) hr (A.m 20 (by decide)) (pv 0)) pa_nil)))))))
      (pss_cons (ps_set (i := 1) nd rfl (.inl rfl) (pe_op op_cat (pv 1) (pe_lst (show PA _ _ (tErrs C (tVar 0) [21, 22, 23]) from (pa_cons (pe_errK (A.z 21 (by decide)) (A.j 21 (by decide)) hr (A.m 21 (by decide)) (pv 0)) (pa_cons (pe_errK (A.z 22 (by decide)) (A.j 22 (by decide)) hr (A.m 22 (by decide)) (pv 0)) (pa_cons (pe_errK (A.z 23 (by decide)) (A.j 23 (by decide)) hr (A.m 23 (by decide)) (pv 0)) pa_nil)))))))
      (pss_cons (ps_set (i := 1) nd rfl (.inl rfl) (pe_op op_cat (pv 1) (pe_lst (show PA _ _ (tErrs C (tVar 0) [24, 25, 26]) from (pa_cons (pe_errK (A.z 24 (by decide)) (A.j 24 (by decide)) hr (A.m 24 (by decide)) (pv 0)) (pa_cons (pe_errK (A.z 25 (by decide)) (A.j 25 (by decide)) hr (A.m 25 (by decide)) (pv 0)) (pa_cons (pe_errK (A.z 26 (by decide)) (A.j 26 (by decide)) hr (A.m 26 (by decide)) (pv 0)) pa_nil)))))))
      (pss_cons (ps_set (i := 1) nd rfl (.inl rfl) (pe_op op_cat (pv 1) (pe_lst (show PA _ _ (tErrs C (tVar 0) [27, 28, 29]) from (pa_cons (pe_errK (A.z 27 (by decide)) (A.j 27 (by decide)) hr (A.m 27 (by decide)) (pv 0)) (pa_cons (pe_errK (A.z 28 (by decide)) (A.j 28 (by decide)) hr (A.m 28 (by decide)) (pv 0)) (pa_cons (pe_errK (A.z 29 (by decide)) (A.j 29 (by decide)) hr (A.m 29 (by decide)) (pv 0)) pa_nil)))))))
      (pss_cons (ps_set (i := 1) nd rfl (.inl rfl) (pe_op op_cat (pv 1) (pe_lst (show PA _ _ (tErrs C (tVar 0) [30, 31, 32]) from (pa_cons (pe_errK (A.z 30 (by decide)) (A.j 30 (by decide)) hr (A.m 30 (by decide)) (pv 0)) (pa_cons (pe_errK (A.z 31 (by decide)) (A.j 31 (by decide)) hr (A.m 31 (by decide)) (pv 0)) (pa_cons (pe_errK (A.z 32 (by decide)) (A.j 32 (by decide)) hr (A.m 32 (by decide)) (pv 0)) pa_nil)))))))
      (pss_one (ps_ret (pv 1)))))))))))))), ?_⟩
    refine grow0 (v := v) (fun H Q q => ⟨v, rfl, q⟩) (by decide) fun l0 es0 H0 s0 e0 r0 => ?_
    refine grow1 (v := v) (fun H Q q => ⟨v, rfl, q⟩) rfl e0 r0 (by decide) fun l1 es1 H1 s1 e1 r1 => ?_
    refine grow1 (v := v) (fun H Q q => ⟨v, rfl, q⟩) rfl e1 r1 (by decide) fun l2 es2 H2 s2 e2 r2 => ?_
    refine grow1 (v := v) (fun H Q q => ⟨v, rfl, q⟩) rfl e2 r2 (by decide) fun l3 es3 H3 s3 e3 r3 => ?_
    refine grow1 (v := v) (fun H Q q => ⟨v, rfl, q⟩) rfl e3 r3 (by decide) fun l4 es4 H4 s4 e4 r4 => ?_
    refine grow1 (v := v) (fun H Q q => ⟨v, rfl, q⟩) rfl e4 r4 (by decide) fun l5 es5 H5 s5 e5 r5 => ?_
    refine grow1 (v := v) (fun H Q q => ⟨v, rfl, q⟩) rfl e5 r5 (by decide) fun l6 es6 H6 s6 e6 r6 => ?_
    refine grow1 (v := v) (fun H Q q => ⟨v, rfl, q⟩) rfl e6 r6 (by decide) fun l7 es7 H7 s7 e7 r7 => ?_
    refine grow1 (v := v) (fun H Q q => ⟨v, rfl, q⟩) rfl e7 r7 (by decide) fun l8 es8 H8 s8 e8 r8 => ?_
    refine grow1 (v := v) (fun H Q q => ⟨v, rfl, q⟩) rfl e8 r8 (by decide) fun l9 es9 H9 s9 e9 r9 => ?_
    refine grow1 (v := v) (fun H Q q => ⟨v, rfl, q⟩) rfl e9 r9 (by decide) fun l10 es10 H10 s10 e10 r10 => ?_
    exact ⟨_, rfl, q l10 es10 _ ((((((((((s0.trans s1).trans s2).trans s3).trans s4).trans s5).trans s6).trans s7).trans s8).trans s9).trans s10) e10 r10⟩

theorem ok_bare {f : Addr} {fd : FuncData} (F : Fun K "_law_bare" "_law_bare" sBare f fd) (A : Top K mg T C I) : FnOk P w K mg base CX0 3 f fd [] (spBare C) := by
  refine F.ok scBare (fun vs H Q E h => ?_) (fun cdv Ar outer s H vs Q E hr h => ?_)
  · exact h.1 ▸ rfl
  · obtain ⟨rfl, q⟩ := h
    have nd := scBare.nd
    refine ⟨_, (pss_cons (ps_set (i := 0) nd rfl (.inl rfl) (pe_lst (show PA _ _ (tErrs C (tC .non) [0, 1, 2, 3, 4, 5]) from (pa_cons (pe_err0 (A.z 0 (by decide)) (A.j 0 (by decide)) hr (A.m 0 (by decide))) (pa_cons (pe_err0 (A.z 1 (by decide)) (A.j 1 (by decide)) hr (A.m 1 (by decide))) (pa_cons (pe_err0 (A.z 2 (by decide)) (A.j 2 (by decide)) hr (A.m 2 (by decide))) (pa_cons (pe_err0 (A.z 3 (by decide)) (A.j 3 (by decide)) hr (A.m 3 (by decide))) (pa_cons (pe_err0 (A.z 4 (by decide)) (A.j 4 (by decide)) hr (A.m 4 (by decide))) (pa_cons (pe_err0 (A.z 5 (by decide)) (A.j 5 (by decide)) hr (A.m 5 (by decide))) pa_nil)))))))))
      (pss_cons (ps_set (i := 0) nd rfl (.inl rfl) (pe_op op_cat (pv 0) (pe_lst (show PA _ _ (tErrs C (tC .non) [6, 7, 8, 9, 10]) from (pa_cons (pe_err0 (A.z 6 (by decide)) (A.j 6 (by decide)) hr (A.m 6 (by decide))) (pa_cons (pe_err0 (A.z 7 (by decide)) (A.j 7 (by decide)) hr (A.m 7 (by decide))) (pa_cons (pe_err0 (A.z 8 (by decide)) (A.j 8 (by decide)) hr (A.m 8 (by decide))) (pa_cons (pe_err0 (A.z 9 (by decide)) (A.j 9 (by decide)) hr (A.m 9 (by decide))) (pa_cons (pe_err0 (A.z 10 (by decide)) (A.j 10 (by decide)) hr (A.m 10 (by decide))) pa_nil)))))))))
      (pss_cons (ps_set (i := 0) nd rfl (.inl rfl) (pe_op op_cat (pv 0) (pe_lst (show PA _ _ (tErrs C (tC .non) [11, 12, 13, 14, 15, 16]) from (pa_cons (pe_err0 (A.z 11 (by decide)) (A.j 11 (by decide)) hr (A.m 11 (by decide))) (pa_cons (pe_err0 (A.z 12 (by decide)) (A.j 12 (by decide)) hr (A.m 12 (by decide))) (pa_cons (pe_err0 (A.z 13 (by decide)) (A.j 13 (by decide)) hr (A.m 13 (by decide))) (pa_cons (pe_err0 (A.z 14 (by decide)) (A.j 14 (by decide)) hr (A.m 14 (by decide))) (pa_cons (pe_err0 (A.z 15 (by decide)) (A.j 15 (by decide)) hr (A.m 15 (by decide))) (pa_cons (pe_err0 (A.z 16 (by decide)) (A.j 16 (by decide)) hr (A.m 16 (by decide))) pa_nil))))))))))
      (pss_cons (ps_set (i := 0) nd rfl (.inl rfl) (pe_op op_cat (pv 0) (pe_lst (show PA _ _ (tErrs C (tC .non) [17, 18, 19, 20, 21]) from (pa_cons (pe_err0 (A.z 17 (by decide)) (A.j 17 (by decide)) hr (A.m 17 (by decide))) (pa_cons (pe_err0 (A.z 18 (by decide)) (A.j 18 (by decide)) hr (A.m 18 (by decide))) (pa_cons (pe_err0 (A.z 19 (by decide)) (A.j 19 (by decide)) hr (A.m 19 (by decide))) (pa_cons (pe_err0 (A.z 20 (by decide)) (A.j 20 (by decide)) hr (A.m 20 (by decide))) (pa_cons (pe_err0 (A.z 21 (by decide)) (A.j 21 (by decide)) hr (A.m 21 (by decide))) pa_nil)))))))))
      (pss_cons (ps_set (i := 0) nd rfl (.inl rfl) (pe_op op_cat (pv 0) (pe_lst (show PA _ _ (tErrs C (tC .non) [22, 23, 24, 25, 26, 27]) from (pa_cons (pe_err0 (A.z 22 (by decide)) (A.j 22 (by decide)) hr (A.m 22 (by decide))) (pa_cons (pe_err0 (A.z 23 (by decide)) (A.j 23 (by decide)) hr (A.m 23 (by decide))) (pa_cons (pe_err0 (A.z 24 (by decide)) (A.j 24 (by decide)) hr (A.m 24 (by decide))) (pa_cons (pe_err0 (A.z 25 (by decide)) (A.j 25 (by decide)) hr (A.m 25 (by decide))) (pa_cons (pe_err0 (A.z 26 (by decide)) (A.j 26 (by decide)) hr (A.m 26 (by decide))) (pa_cons (pe_err0 (A.z 27 (by decide)) (A.j 27 (by decide)) hr (A.m 27 (by decide))) pa_nil))))))))))
      (pss_cons (ps_set (i := 0) nd rfl (.inl rfl) (pe_op op_cat (pv 0) (pe_lst (show PA _ _ (tErrs C (tC .non) [28, 29, 30, 31, 32]) from (pa_cons (pe_err0 (A.z 28 (by decide)) (A.j 28 (by decide)) hr (A.m 28 (by decide))) (pa_cons (pe_err0 (A.z 29 (by decide)) (A.j 29 (by decide)) hr (A.m 29 (by decide))) (pa_cons (pe_err0 (A.z 30 (by decide)) (A.j 30 (by decide)) hr (A.m 30 (by decide))) (pa_cons (pe_err0 (A.z 31 (by decide)) (A.j 31 (by decide)) hr (A.m 31 (by decide))) (pa_cons (pe_err0 (A.z 32 (by decide)) (A.j 32 (by decide)) hr (A.m 32 (by decide))) pa_nil)))))))))
      (pss_one (ps_ret (pv 0))))))))), ?_⟩
    refine grow0 (v := .non) (fun H Q q => q) (by decide) fun l0 es0 H0 s0 e0 r0 => ?_
    refine grow1 (v := .non) (fun H Q q => q) rfl e0 r0 (by decide) fun l1 es1 H1 s1 e1 r1 => ?_
    refine grow1 (v := .non) (fun H Q q => q) rfl e1 r1 (by decide) fun l2 es2 H2 s2 e2 r2 => ?_
    refine grow1 (v := .non) (fun H Q q => q) rfl e2 r2 (by decide) fun l3 es3 H3 s3 e3 r3 => ?_
    refine grow1 (v := .non) (fun H Q q => q) rfl e3 r3 (by decide) fun l4 es4 H4 s4 e4 r4 => ?_
    refine grow1 (v := .non) (fun H Q q => q) rfl e4 r4 (by decide) fun l5 es5 H5 s5 e5 r5 => ?_
    exact ⟨_, rfl, q l5 es5 _ (((((s0.trans s1).trans s2).trans s3).trans s4).trans s5) e5 r5⟩

end
end K1
set_option Elab.async false
set_option linter.all false
set_option maxRecDepth 100000
set_option maxHeartbeats 4000000
/-! k01: what is asked of the errors -/
namespace K1
open PySem PySem.Spec PyProof.Rows L2 EL LW GD
open PySem.EV (ErrC ErrI)
theorem boot_isi : bootBuiltins (Str.ofString "isinstance") = some (.builtin "isinstance") := by decide +kernel
/-! ### isinstance of each class -/
/-- the dict of an error, if it has one, is tracked -/
def HasD (H : Hp) (d : Option Addr) : Prop := ∀ dx, d = some dx → ∃ fs, H dx = some (.xd fs)
theorem HasD.same {H H' : Hp} {d : Option Addr} (h : HasD H d) (s : Same H H') : HasD H' d := fun dx e => by
  obtain ⟨fs, z⟩ := h dx e
  exact ⟨fs, s _ _ z⟩
def tIsis (K : PySem.W.Frag) (C : Nat → Addr) : List Nat → TA
  | [] => tNil
  | j :: js => tCons (tCB (rIsX K) (tCons (tVar 0) (tCons (tC (.ref (C j))) tNil))) (tIsis K C js)
/-- which classes the class at D is one of -/
def flag (C : Nat → Addr) (D : Addr) (j : Nat) : V := .bl (decide (D = C j))
def Asks (K : PySem.W.Frag) (C : Nat → Addr) (D : Addr) (bm : List Value) : Prop := CatC K D bm ∧ ∀ j, j < 35 → (∃ bm', CatC K (C j) bm') ∧ (Value.ref D :: bm).contains (.ref (C j)) = decide (D = C j)
section
variable {K : PySem.W.Frag} {C : Nat → Addr} {σ : L2.St} {H : Hp} {e D : Addr} {d : Option Addr} {bm : List Value} {De : Ends} {u : TS} {js js0 : List Nat} {s : Nat}
theorem isis_read (hσ : σ[0]? = some (some (.ref e))) (he : H e = some (exo e D d)) (hd : HasD H d) (zc : CatC K D bm) (hb : ∀ j, j < 35 → (∃ bm', CatC K (C j) bm') ∧ (Value.ref D :: bm).contains (.ref (C j)) = decide (D = C j)) : ∀ (js : List Nat) (Q : List V → Hp → Prop),
    (∀ j ∈ js, j < 35) → Q (js.map (flag C D)) H → tIsis K C js σ H Q
  | [], Q, _, q => q
  | j :: js, Q, hj, q => by
    obtain ⟨⟨bm', zj⟩, hc⟩ := hb j (hj j List.mem_cons_self)
    refine ⟨_, hσ, e, D, d, bm, _, _, _, rfl, he, zc, ClsV.own (C j), hd, (zc.kit zj).trans (congrArg some hc), ?_⟩
    exact isis_read hσ he hd zc hb js _ (fun i hi => hj i (List.mem_cons_of_mem _ hi)) q
theorem growB0 {x : Option V} (he : H e = some (exo e D d)) (hd : HasD H d) (zc : CatC K D bm) (hb : ∀ j, j < 35 → (∃ bm', CatC K (C j) bm') ∧ (Value.ref D :: bm).contains (.ref (C j)) = decide (D = C j)) (hj : ∀ j ∈ js, j < 35) (hl : js.length ≤ 40)
    (k : ∀ l H2, Same H H2 → H2 l = some (.lst (js.map (flag C D))) → u De [some (.ref e), some (.ref l), none] H2) : tSeq (tAsg (tLst (tIsis K C js)) (gName 1)) u De [some (.ref e), x, none] H := by
  refine isis_read rfl he hd zc hb js _ hj ⟨?_, fun p np => ?_⟩
  · rw [List.length_map]
    exact sz _ (by omega)
  · exact k p _ (same_upd np) upd_same
theorem growB1 {l0 : Addr} (he : H e = some (exo e D d)) (hd : HasD H d) (zc : CatC K D bm) (hb : ∀ j, j < 35 → (∃ bm', CatC K (C j) bm') ∧ (Value.ref D :: bm).contains (.ref (C j)) = decide (D = C j)) (hj : ∀ j ∈ js, j < 35)
    (hl0 : H l0 = some (.lst (js0.map (flag C D)))) (hl : js0.length + js.length ≤ 40)
    (k : ∀ l H2, Same H H2 → H2 l = some (.lst ((js0 ++ js).map (flag C D))) → u De [some (.ref e), some (.ref l), none] H2) : tSeq (tAsg (tOp rCat (tVar 1) (tLst (tIsis K C js))) (gName 1)) u De [some (.ref e), some (.ref l0), none] H := by
  refine ⟨_, rfl, isis_read rfl he hd zc hb js _ hj ⟨?_, fun p np => ?_⟩⟩
  · rw [List.length_map]
    exact sz _ (by omega)
  · have s2 := same_upd (o := .lst (js.map (flag C D))) np
    refine ⟨l0, p, _, _, rfl, rfl, s2 _ _ hl0, upd_same, ?_, fun p2 np2 => ?_⟩
    · rw [List.length_map, List.length_map]
      exact sz _ (by omega)
    · refine k p2 _ (s2.trans (same_upd np2)) ?_
      rw [upd_same, List.map_append]
end
/-- the places at which the class stands -/
def hits (C : Nat → Addr) (D : Addr) (j : Nat) : List Nat := (List.range j).filter fun i => decide (D = C i)
theorem hits_succ (C : Nat → Addr) (D : Addr) (j : Nat) : hits C D (j + 1) = if D = C j then hits C D j ++ [j] else hits C D j := by
  unfold hits
  rw [List.range_succ, List.filter_append]
  by_cases h : D = C j
  · rw [if_pos h]
    simp [h]
  · rw [if_neg h]
    simp [h]
theorem hits_none {C : Nat → Addr} {D : Addr} (n : Nat) (h : ∀ i, i < n → D ≠ C i) : hits C D n = [] := by
  unfold hits
  rw [List.filter_eq_nil_iff]
  intro i hi
  simpa using h i (List.mem_range.mp hi)
theorem hits_one {C : Nat → Addr} {i n : Nat} (hi : i < n) (inj : ∀ a b, a < n → b < n → C a = C b → a = b) : hits C (C i) n = [i] := by
  have key : ∀ m, m ≤ n → hits C (C i) m = if i < m then [i] else [] := by
    intro m
    induction m with
    | zero => intro _; rfl
    | succ m ih =>
      intro hm
      rw [hits_succ, ih (by omega)]
      by_cases e : i = m
      · subst e
        rw [if_pos rfl, if_neg (by omega), if_pos (by omega)]
        rfl
      · rw [if_neg (fun z => e (inj i m hi (by omega) z))]
        by_cases l : i < m
        · rw [if_pos l, if_pos (by omega)]
        · rw [if_neg l, if_neg (by omega)]
  rw [key n (Nat.le_refl _), if_pos hi]
theorem hits_len (C : Nat → Addr) (D : Addr) (n : Nat) : (hits C D n).length ≤ n := by
  unfold hits
  exact Nat.le_trans (List.length_filter_le _ _) (Nat.le_of_eq List.length_range)
section
variable {P : Program} {w : World} {K : PySem.W.Frag} {mg : Str → Option Value} {base : Heap} {T : Addr} {C I : Nat → Addr}
def spCode (K : PySem.W.Frag) (C : Nat → Addr) : Sp := fun vs H Q _ => ∃ (e D : Addr) (d : Option Addr) (bm : List Value), vs = [.ref e] ∧ H e = some (exo e D d) ∧ HasD H d ∧ CatC K D bm ∧
  (∀ j, j < 35 → (∃ bm', CatC K (C j) bm') ∧ (Value.ref D :: bm).contains (.ref (C j)) = decide (D = C j)) ∧ ∀ l H2, Same H H2 → H l = none → H2 l = some (.lst ((hits C D 35).map fun i : Nat => V.int i)) → Q (.ref l) H2
def t_code (K : PySem.W.Frag) (C : Nat → Addr) : TS := (tSeq (tAsg (tLst (tIsis K C [0, 1, 2])) (gName 1)) (tSeq (tAsg (tOp rCat (tVar 1) (tLst (tIsis K C [3, 4, 5]))) (gName 1)) (tSeq (tAsg (tOp rCat (tVar 1) (tLst (tIsis K C [6, 7]))) (gName 1)) (tSeq (tAsg (tOp rCat (tVar 1) (tLst (tIsis K C [8, 9]))) (gName 1)) (tSeq (tAsg (tOp rCat (tVar 1) (tLst (tIsis K C [10, 11, 12]))) (gName 1)) (tSeq (tAsg (tOp rCat (tVar 1) (tLst (tIsis K C [13, 14]))) (gName 1)) (tSeq (tAsg (tOp rCat (tVar 1) (tLst (tIsis K C [15, 16]))) (gName 1)) (tSeq (tAsg (tOp rCat (tVar 1) (tLst (tIsis K C [17, 18]))) (gName 1)) (tSeq (tAsg (tOp rCat (tVar 1) (tLst (tIsis K C [19, 20]))) (gName 1)) (tSeq (tAsg (tOp rCat (tVar 1) (tLst (tIsis K C [21, 22]))) (gName 1)) (tSeq (tAsg (tOp rCat (tVar 1) (tLst (tIsis K C [23, 24, 25]))) (gName 1)) (tSeq (tAsg (tOp rCat (tVar 1) (tLst (tIsis K C [26, 27]))) (gName 1)) (tSeq (tAsg (tOp rCat (tVar 1) (tLst (tIsis K C [28, 29]))) (gName 1)) (tSeq (tAsg (tOp rCat (tVar 1) (tLst (tIsis K C [30, 31]))) (gName 1)) (tSeq (tAsg (tOp rCat (tVar 1) (tLst (tIsis K C [32, 33]))) (gName 1)) (tSeq (tAsg (tOp rCat (tVar 1) (tLst (tIsis K C [34]))) (gName 1)) (tRet (tLc (iRng1 (tCons (tCB (fun xs H Q => ∃ p ys, xs = [V.ref p] ∧ (SqL K H p ys ∨ SqT K H p ys) ∧ Q (V.int ys.length) H) (tCons (tVar 1) tNil)) tNil)) (gName 2) (tB (tOp (rIxL K) (tVar 1) (tVar 2))) (tVar 2) [2]))))))))))))))))))
theorem code_body {f : Addr} {cdv : Value} {Ar : Around} {outer : List Env} {s : Shared} {H : Hp} {E : XK} (A : Top K mg T C I) (mis : mg "isinstance" = none) (ml : mg "len" = none) (mr : mg "range" = none) :
    PSs (cxOf CX0 P w K mg base ["_law_error", "_law_found", "_law_at"] "_law_code" (defScope sCode) f cdv Ar outer s H E).nox (defBody sCode) (t_code K C) := by
  have nd := scCode.nd
  exact (pss_cons (ps_set (i := 1) nd rfl (.inr rfl) (pe_lst (show PA _ _ (tIsis K C [0, 1, 2]) from (pa_cons (pe_callB (call_isX A.dsc) (by rfl) mis boot_isi (pa_cons (pv 0) (pa_cons (pe_glob (v := .ref (C 0)) (by rfl) (A.m 0 (by decide)) rfl) pa_nil))) (pa_cons (pe_callB (call_isX A.dsc) (by rfl) mis boot_isi (pa_cons (pv 0) (pa_cons (pe_glob (v := .ref (C 1)) (by rfl) (A.m 1 (by decide)) rfl) pa_nil))) (pa_cons (pe_callB (call_isX A.dsc) (by rfl) mis boot_isi (pa_cons (pv 0) (pa_cons (pe_glob (v := .ref (C 2)) (by rfl) (A.m 2 (by decide)) rfl) pa_nil))) pa_nil))))))
      (pss_cons (ps_set (i := 1) nd rfl (.inr rfl) (pe_op op_cat (pv 1) (pe_lst (show PA _ _ (tIsis K C [3, 4, 5]) from (pa_cons (pe_callB (call_isX A.dsc) (by rfl) mis boot_isi (pa_cons (pv 0) (pa_cons (pe_glob (v := .ref (C 3)) (by rfl) (A.m 3 (by decide)) rfl) pa_nil))) (pa_cons (pe_callB (call_isX A.dsc) (by rfl) mis boot_isi (pa_cons (pv 0) (pa_cons (pe_glob (v := .ref (C 4)) (by rfl) (A.m 4 (by decide)) rfl) pa_nil))) (pa_cons (pe_callB (call_isX A.dsc) (by rfl) mis boot_isi (pa_cons (pv 0) (pa_cons (pe_glob (v := .ref (C 5)) (by rfl) (A.m 5 (by decide)) rfl) pa_nil))) pa_nil)))))))
      (pss_cons (ps_set (i := 1) nd rfl (.inr rfl) (pe_op op_cat (pv 1) (pe_lst (show PA _ _ (tIsis K C [6, 7]) from (pa_cons (pe_callB (call_isX A.dsc) (by rfl) mis boot_isi (pa_cons (pv 0) (pa_cons (pe_glob (v := .ref (C 6)) (by rfl) (A.m 6 (by decide)) rfl) pa_nil))) (pa_cons (pe_callB (call_isX A.dsc) (by rfl) mis boot_isi (pa_cons (pv 0) (pa_cons (pe_glob (v := .ref (C 7)) (by rfl) (A.m 7 (by decide)) rfl) pa_nil))) pa_nil))))))
      (pss_cons (ps_set (i := 1) nd rfl (.inr rfl) (pe_op op_cat (pv 1) (pe_lst (show PA _ _ (tIsis K C [8, 9]) from (pa_cons (pe_callB (call_isX A.dsc) (by rfl) mis boot_isi (pa_cons (pv 0) (pa_cons (pe_glob (v := .ref (C 8)) (by rfl) (A.m 8 (by decide)) rfl) pa_nil))) (pa_cons (pe_callB (call_isX A.dsc) (by rfl) mis boot_isi (pa_cons (pv 0) (pa_cons (pe_glob (v := .ref (C 9)) (by rfl) (A.m 9 (by decide)) rfl) pa_nil))) pa_nil))))))
      (pss_cons (ps_set (i := 1) nd rfl (.inr rfl) (pe_op op_cat (pv 1) (pe_lst (show PA _ _ (tIsis K C [10, 11, 12]) from (pa_cons (pe_callB (call_isX A.dsc) (by rfl) mis boot_isi (pa_cons (pv 0) (pa_cons (pe_glob (v := .ref (C 10)) (by rfl) (A.m 10 (by decide)) rfl) pa_nil))) (pa_cons (pe_callB (call_isX A.dsc) (by rfl) mis boot_isi (pa_cons (pv 0) (pa_cons (pe_glob (v := .ref (C 11)) (by rfl) (A.m 11 (by decide)) rfl) pa_nil))) (pa_cons (pe_callB (call_isX A.dsc) (by rfl) mis boot_isi (pa_cons (pv 0) (pa_cons (pe_glob (v := .ref (C 12)) (by rfl) (A.m 12 (by decide)) rfl) pa_nil))) pa_nil)))))))
      (pss_cons (ps_set (i := 1) nd rfl (.inr rfl) (pe_op op_cat (pv 1) (pe_lst (show PA _ _ (tIsis K C [13, 14]) from (pa_cons (pe_callB (call_isX A.dsc) (by rfl) mis boot_isi (pa_cons (pv 0) (pa_cons (pe_glob (v := .ref (C 13)) (by rfl) (A.m 13 (by decide)) rfl) pa_nil))) (pa_cons (pe_callB (call_isX A.dsc) (by rfl) mis boot_isi (pa_cons (pv 0) (pa_cons (pe_glob (v := .ref (C 14)) (by rfl) (A.m 14 (by decide)) rfl) pa_nil))) pa_nil))))))
      (pss_cons (ps_set (i := 1) nd rfl (.inr rfl) (pe_op op_cat (pv 1) (pe_lst (show PA _ _ (tIsis K C [15, 16]) from (pa_cons (pe_callB (call_isX A.dsc) (by rfl) mis boot_isi (pa_cons (pv 0) (pa_cons (pe_glob (v := .ref (C 15)) (by rfl) (A.m 15 (by decide)) rfl) pa_nil))) (pa_cons (pe_callB (call_isX A.dsc) (by rfl) mis boot_isi (pa_cons (pv 0) (pa_cons (pe_glob (v := .ref (C 16)) (by rfl) (A.m 16 (by decide)) rfl) pa_nil))) pa_nil))))))
      (pss_cons (ps_set (i := 1) nd rfl (.inr rfl) (pe_op op_cat (pv 1) (pe_lst (show PA _ _ (tIsis K C [17, 18]) from (pa_cons (pe_callB (call_isX A.dsc) (by rfl) mis boot_isi (pa_cons (pv 0) (pa_cons (pe_glob (v := .ref (C 17)) (by rfl) (A.m 17 (by decide)) rfl) pa_nil))) (pa_cons (pe_callB (call_isX A.dsc) (by rfl) mis boot_isi (pa_cons (pv 0) (pa_cons (pe_glob (v := .ref (C 18)) (by rfl) (A.m 18 (by decide)) rfl) pa_nil))) pa_nil))))))
      (pss_cons (ps_set (i := 1) nd rfl (.inr rfl) (pe_op op_cat (pv 1) (pe_lst (show PA _ _ (tIsis K C [19, 20]) from (pa_cons (pe_callB (call_isX A.dsc) (by rfl) mis boot_isi (pa_cons (pv 0) (pa_cons (pe_glob (v := .ref (C 19)) (by rfl) (A.m 19 (by decide)) rfl) pa_nil))) (pa_cons (pe_callB (call_isX A.dsc) (by rfl) mis boot_isi (pa_cons (pv 0) (pa_cons (pe_glob (v := .ref (C 20)) (by rfl) (A.m 20 (by decide)) rfl) pa_nil))) pa_nil))))))
      (pss_cons (ps_set (i := 1) nd rfl (.inr rfl) (pe_op op_cat (pv 1) (pe_lst (show PA _ _ (tIsis K C [21, 22]) from (pa_cons (pe_callB (call_isX A.dsc) (by rfl) mis boot_isi (pa_cons (pv 0) (pa_cons (pe_glob (v := .ref (C 21)) (by rfl) (A.m 21 (by decide)) rfl) pa_nil))) (pa_cons (pe_callB (call_isX A.dsc) (by rfl) mis boot_isi (pa_cons (pv 0) (pa_cons (pe_glob (v := .ref (C 22)) (by rfl) (A.m 22 (by decide)) rfl) pa_nil))) pa_nil))))))
      (pss_cons (ps_set (i := 1) nd rfl (.inr rfl) (pe_op op_cat (pv 1) (pe_lst (show PA _ _ (tIsis K C [23, 24, 25]) from (pa_cons (pe_callB (call_isX A.dsc) (by rfl) mis boot_isi (pa_cons (pv 0) (pa_cons (pe_glob (v := .ref (C 23)) (by rfl) (A.m 23 (by decide)) rfl) pa_nil))) (pa_cons (pe_callB (call_isX A.dsc) (by rfl) mis boot_isi (pa_cons (pv 0) (pa_cons (pe_glob (v := .ref (C 24)) (by rfl) (A.m 24 (by decide)) rfl) pa_nil))) (pa_cons (pe_callB (call_isX A.dsc) (by rfl) mis boot_isi (pa_cons (pv 0) (pa_cons (pe_glob (v := .ref (C 25)) (by rfl) (A.m 25 (by decide)) rfl) pa_nil))) pa_nil)))))))
      (pss_cons (ps_set (i := 1) nd rfl (.inr rfl) (pe_op op_cat (pv 1) (pe_lst (show PA _ _ (tIsis K C [26, 27]) from (pa_cons (pe_callB (call_isX A.dsc) (by rfl) mis boot_isi (pa_cons (pv 0) (pa_cons (pe_glob (v := .ref (C 26)) (by rfl) (A.m 26 (by decide)) rfl) pa_nil))) (pa_cons (pe_callB (call_isX A.dsc) (by rfl) mis boot_isi (pa_cons (pv 0) (pa_cons (pe_glob (v := .ref (C 27)) (by rfl) (A.m 27 (by decide)) rfl) pa_nil))) pa_nil))))))
      (pss_cons (ps_set (i := 1) nd rfl (.inr rfl) (pe_op op_cat (pv 1) (pe_lst (show PA _ _ (tIsis K C [28, 29]) from (pa_cons (pe_callB (call_isX A.dsc) (by rfl) mis boot_isi (pa_cons (pv 0) (pa_cons (pe_glob (v := .ref (C 28)) (by rfl) (A.m 28 (by decide)) rfl) pa_nil))) (pa_cons (pe_callB (call_isX A.dsc) (by rfl) mis boot_isi (pa_cons (pv 0) (pa_cons (pe_glob (v := .ref (C 29)) (by rfl) (A.m 29 (by decide)) rfl) pa_nil))) pa_nil))))))
      (pss_cons (ps_set (i := 1) nd rfl (.inr rfl) (pe_op op_cat (pv 1) (pe_lst (show PA _ _ (tIsis K C [30, 31]) from (pa_cons (pe_callB (call_isX A.dsc) (by rfl) mis boot_isi (pa_cons (pv 0) (pa_cons (pe_glob (v := .ref (C 30)) (by rfl) (A.m 30 (by decide)) rfl) pa_nil))) (pa_cons (pe_callB (call_isX A.dsc) (by rfl) mis boot_isi (pa_cons (pv 0) (pa_cons (pe_glob (v := .ref (C 31)) (by rfl) (A.m 31 (by decide)) rfl) pa_nil))) pa_nil))))))
      (pss_cons (ps_set (i := 1) nd rfl (.inr rfl) (pe_op op_cat (pv 1) (pe_lst (show PA _ _ (tIsis K C [32, 33]) from (pa_cons (pe_callB (call_isX A.dsc) (by rfl) mis boot_isi (pa_cons (pv 0) (pa_cons (pe_glob (v := .ref (C 32)) (by rfl) (A.m 32 (by decide)) rfl) pa_nil))) (pa_cons (pe_callB (call_isX A.dsc) (by rfl) mis boot_isi (pa_cons (pv 0) (pa_cons (pe_glob (v := .ref (C 33)) (by rfl) (A.m 33 (by decide)) rfl) pa_nil))) pa_nil))))))
      (pss_cons (ps_set (i := 1) nd rfl (.inr rfl) (pe_op op_cat (pv 1) (pe_lst (show PA _ _ (tIsis K C [34]) from (pa_cons (pe_callB (call_isX A.dsc) (by rfl) mis boot_isi (pa_cons (pv 0) (pa_cons (pe_glob (v := .ref (C 34)) (by rfl) (A.m 34 (by decide)) rfl) pa_nil))) pa_nil)))))
      (pss_one (ps_ret (pe_lc (own := [("_law_at", 2)]) (g := gName 2) (tt := tB (tOp (rIxL K) (tVar 1) (tVar 2))) rfl nd (pi_range1 rfl mr (pa_cons (pe_callB call_len_seq (by rfl) ml PySem.boot_len (pa_cons (pv 1) pa_nil)) pa_nil))
        (blkOk_by (own := [("_law_at", 2)]) (N := ["_law_error", "_law_found", "_law_at"]) (sc := defScope sCode) (by decide +kernel)) (fun _ _ _ _ _ => pg_name (i := 2) nd rfl (Or.inl rfl))
        (fun _ _ _ _ _ => pts_one (pt_val (pe_ix ix_list (pv 1) (pv 2) (fun _ _ => rfl)))) (fun _ _ _ _ _ => pv 2))))))))))))))))))))
theorem ok_code {f : Addr} {fd : FuncData} (F : Fun K "_law_code" "_law_code" sCode f fd) (A : Top K mg T C I) (mis : mg "isinstance" = none) (ml : mg "len" = none) (mr : mg "range" = none) : FnOk P w K mg base CX0 1 f fd ["_law_error"] (spCode K C) := by
  refine F.ok scCode (fun vs H Q E h => ?_) (fun cdv Ar outer s H vs Q E hr h => ?_)
  · obtain ⟨e, D, d, bm, rfl, _⟩ := h
    rfl
  · obtain ⟨e, D, d, bm, rfl, he0, hd, zc, hb, q⟩ := h
    refine ⟨_, code_body A mis ml mr, ?_⟩
    show t_code K C _ [some (.ref e), none, none] H
    unfold t_code
    refine growB0 he0 hd zc hb (by decide) (by decide) fun l0 H0 s0 e0 => ?_
    refine growB1 (s0 _ _ he0) (hd.same s0) zc hb (by decide) e0 (by decide) fun l1 H1 t1 e1 => ?_
    have s1 := s0.trans t1
    refine growB1 (s1 _ _ he0) (hd.same s1) zc hb (by decide) e1 (by decide) fun l2 H2 t2 e2 => ?_
    have s2 := s1.trans t2
    refine growB1 (s2 _ _ he0) (hd.same s2) zc hb (by decide) e2 (by decide) fun l3 H3 t3 e3 => ?_
    have s3 := s2.trans t3
    refine growB1 (s3 _ _ he0) (hd.same s3) zc hb (by decide) e3 (by decide) fun l4 H4 t4 e4 => ?_
    have s4 := s3.trans t4
    refine growB1 (s4 _ _ he0) (hd.same s4) zc hb (by decide) e4 (by decide) fun l5 H5 t5 e5 => ?_
    have s5 := s4.trans t5
    refine growB1 (s5 _ _ he0) (hd.same s5) zc hb (by decide) e5 (by decide) fun l6 H6 t6 e6 => ?_
    have s6 := s5.trans t6
    refine growB1 (s6 _ _ he0) (hd.same s6) zc hb (by decide) e6 (by decide) fun l7 H7 t7 e7 => ?_
    have s7 := s6.trans t7
    refine growB1 (s7 _ _ he0) (hd.same s7) zc hb (by decide) e7 (by decide) fun l8 H8 t8 e8 => ?_
    have s8 := s7.trans t8
    refine growB1 (s8 _ _ he0) (hd.same s8) zc hb (by decide) e8 (by decide) fun l9 H9 t9 e9 => ?_
    have s9 := s8.trans t9
    refine growB1 (s9 _ _ he0) (hd.same s9) zc hb (by decide) e9 (by decide) fun l10 H10 t10 e10 => ?_
    have s10 := s9.trans t10
    refine growB1 (s10 _ _ he0) (hd.same s10) zc hb (by decide) e10 (by decide) fun l11 H11 t11 e11 => ?_
    have s11 := s10.trans t11
    refine growB1 (s11 _ _ he0) (hd.same s11) zc hb (by decide) e11 (by decide) fun l12 H12 t12 e12 => ?_
    have s12 := s11.trans t12
    refine growB1 (s12 _ _ he0) (hd.same s12) zc hb (by decide) e12 (by decide) fun l13 H13 t13 e13 => ?_
    have s13 := s12.trans t13
    refine growB1 (s13 _ _ he0) (hd.same s13) zc hb (by decide) e13 (by decide) fun l14 H14 t14 e14 => ?_
    have s14 := s13.trans t14
    refine growB1 (s14 _ _ he0) (hd.same s14) zc hb (by decide) e14 (by decide) fun l15 H15 t15 e15 => ?_
    have s15 := s14.trans t15
    have eall : H15 l15 = some (.lst ((List.range 35).map (flag C D))) := e15
    clear e0 e1 e2 e3 e4 e5 e6 e7 e8 e9 e10 e11 e12 e13 e14 e15
    refine ⟨_, rfl, l15, _, rfl, .inl (SqL.of eall), _, rfl, ?_, ?_, fun L nL => ?_⟩
    · show -(2 ^ 62) ≤ (((List.range 35).map (flag C D)).length : Int)
      omega
    · show (((List.range 35).map (flag C D)).length : Int) < 2 ^ 62
      rw [List.length_map, List.length_range]
      decide
    have hlen : ((List.range 35).map (flag C D)).length = 35 := by rw [List.length_map, List.length_range]
    refine lc_range (lo := 0) (n := 35) (fun i H' => Same H H' ∧ H' L = some (.lst ((hits C D i).map fun i : Nat => V.int i)) ∧ H' l15 = some (.lst ((List.range 35).map (flag C D)))) ⟨s15.trans (same_upd nL), upd_same, by rw [upd_ne (ne_of_none eall nL)]; exact eall⟩ ?_ ?_
    · rintro i H' hi ⟨a1, a2, a3⟩
      have g : ((List.range 35).map (flag C D))[i]? = some (flag C D i) := by
        rw [List.getElem?_map, List.getElem?_range hi]
        rfl
      refine ⟨rfl, _, rfl, .int (0 + (i : Int)), rfl, l15, _, (0 + (i : Int)), flag C D i, rfl, rfl, SqL.of a3, ?_, _, rfl, ?_⟩
      · rw [Int.zero_add]
        exact atI_nat g
      · by_cases hD : D = C i
        · simp only [decide_eq_true hD, ↓reduceIte]
          refine ⟨_, rfl, _, a2, ?_, fun b o hb => ?_, ?_, ?_⟩
          · rw [List.length_map]
            exact Nat.lt_of_le_of_lt (hits_len C D i) (Nat.lt_of_lt_of_le (by omega : i < 100) (sz 100 (Nat.le_refl _)))
          · rw [upd_ne (ne_of_none hb (s15.free nL))]
            exact a1 _ _ hb
          · rw [upd_same, hits_succ, if_pos hD, List.map_append, Int.zero_add]
            rfl
          · rw [upd_ne (ne_of_none eall nL)]
            exact a3
        · simp only [decide_eq_false hD, Bool.false_eq_true, ↓reduceIte]
          refine ⟨a1, ?_, a3⟩
          rw [hits_succ, if_neg hD]
          exact a2
    · rintro H' ⟨a1, a2, _⟩
      exact q L H' a1 (s15.free nL) a2
end
end K1
set_option Elab.async false
set_option linter.all false
set_option maxRecDepth 100000
set_option maxHeartbeats 4000000
/-! k01: whether a list of errors is right -/
namespace K1
open PySem PySem.Spec PyProof.Rows L2 EL LW GD
open PySem.EV (ErrC ErrI)
theorem boot_VE : bootBuiltins (Str.ofString "ValueError") = some (.type "ValueError") := by decide +kernel
theorem boot_rep : bootBuiltins (Str.ofString "repr") = some (.builtin "repr") := by decide +kernel
theorem paired_get {α β : Type} {F : α → β → Prop} : ∀ {a : List α} {b : List β} {i : Nat} {y : β}, Paired F a b → b[i]? = some y → ∃ x, a[i]? = some x ∧ F x y
  | _, _, _, _, .nil, h => by simp at h
  | _, _, 0, _, .cons r _, h => by
    simp at h
    subst h
    exact ⟨_, rfl, r⟩
  | _, _, i + 1, y, .cons _ t, h => by
    obtain ⟨x, h1, h2⟩ := paired_get (i := i) (y := y) t (by simpa using h)
    exact ⟨x, by simpa using h1, h2⟩
/-- lists of one number each, from m on -/
def rows (m n : Nat) : List PyData := (List.range' m n).map fun t : Nat => PyData.list [.int t]
theorem dp_rows {K : PySem.W.Frag} {H : Hp} : ∀ {ls : List Addr} {m : Nat}, (∀ (t : Nat) l, ls[t]? = some l → H l = some (.lst [.int ((m + t : Nat) : Int)])) → DpAll K H (ls.map V.ref) (rows m ls.length)
  | [], _, _ => .nil
  | l :: ls, m, h => by
    have h0 := h 0 l rfl
    refine .cons (.lst (SqL.of h0) (.cons (.int _) .nil)) (dp_rows (m := m + 1) fun t l' e => ?_)
    have := h (t + 1) l' (by simpa using e)
    rw [show m + 1 + t = m + (t + 1) by omega]
    exact this
theorem row_ne {H : Hp} {D l : Addr} {ls : List Addr} {i : Int} (h : H D = some (.lst (ls.map V.ref))) (z : H l = some (.lst [.int i])) : l ≠ D := fun e => by
  rw [e, h] at z
  have z2 : ls.map V.ref = [V.int i] := HO.lst.inj (Option.some.inj z)
  rw [List.map_eq_cons_iff] at z2
  obtain ⟨x, r, _, q, _⟩ := z2
  cases q
theorem rows_eqv : PyData.eqv (.list (rows 0 33)) (.list (rows 0 33)) = true := by decide +kernel
theorem rows_shaped : SeqAt.shaped (PyData.list (rows 0 33)) = true := by decide +kernel
section
variable {P : Program} {w : World} {K : PySem.W.Frag} {mg : Str → Option Value} {base : Heap} {T : Addr} {C I : Nat → Addr}
def spIsErr (K : PySem.W.Frag) (T : Addr) : Sp := fun vs H Q _ => ∃ (e D : Addr) (d : Option Addr) (bm : List Value), vs = [.ref e] ∧ H e = some (exo e D d) ∧ HasD H d ∧ CatC K D bm ∧ (Value.ref D :: bm).contains (.ref T) = true ∧ Q (.bl true) H
theorem ok_iserror {f : Addr} {fd : FuncData} (F : Fun K "_law_is_error" "_law_is_error" sIsError f fd) (A : Top K mg T C I) (mis : mg "isinstance" = none) (mve : mg "ValueError" = none) : FnOk P w K mg base CX0 1 f fd ["_law_error"] (spIsErr K T) := by
  refine F.ok scIsError (fun vs H Q E h => ?_) (fun cdv Ar outer s H vs Q E hr h => ?_)
  · obtain ⟨e, D, d, bm, rfl, _⟩ := h
    rfl
  · obtain ⟨e, D, d, bm, rfl, he0, hd, zc, hb, q⟩ := h
    refine ⟨_, pss_one (ps_ret (pe_and (pe_callB (call_isX A.dsc) (by rfl) mis boot_isi (pa_cons (pv 0) (pa_cons (pe_glob (v := .ref T) (by rfl) A.tm rfl) pa_nil)))
      (pe_one (pe_callB (call_isX A.dsc) (by rfl) mis boot_isi (pa_cons (pv 0) (pa_cons (pe_bltn (v := .ty "ValueError") (by rfl) mve boot_VE rfl) pa_nil)))))), ?_⟩
    refine ⟨_, rfl, e, D, d, bm, _, _, _, rfl, he0, zc, ClsV.own T, hd, (zc.kit A.tc).trans (congrArg some hb), _, rfl, ?_⟩
    rw [if_pos rfl]
    exact ⟨_, rfl, e, D, d, bm, _, _, _, rfl, he0, zc, ClsV.ty "ValueError", hd, zc.kitVE, q⟩
/-! ### _law_right -/
theorem cont_of (A : Top K mg T C I) {i j : Nat} (hi : i < 35) (hj : j < 35) : (Value.ref (C i) :: .ref T :: HandSPX.veTail).contains (.ref (C j)) = decide (C i = C j) := by
  have nt := A.nt j hj
  have h1 : (Value.ref (C j) == Value.ref T) = false := by
    rw [beq_eq_false_iff_ne]
    exact fun z => nt (Value.ref.inj z)
  rw [List.contains_cons, List.contains_cons, h1]
  have h2 : (HandSPX.veTail).contains (Value.ref (C j)) = false := rfl
  rw [h2, Bool.or_false, Bool.or_false, Bool.beq_eq_decide_eq]
  by_cases e : C i = C j
  · rw [decide_eq_true e, decide_eq_true (congrArg Value.ref e.symm)]
  · rw [decide_eq_false e, decide_eq_false fun z => e (Value.ref.inj z).symm]
theorem asks_of (A : Top K mg T C I) {i : Nat} (hi : i < 35) : ∀ j, j < 35 → (∃ bm', CatC K (C j) bm') ∧ (Value.ref (C i) :: .ref T :: HandSPX.veTail).contains (.ref (C j)) = decide (C i = C j) := fun j hj => ⟨⟨_, A.cat j hj⟩, cont_of A hi hj⟩
theorem err_has {H : Hp} {e D : Addr} {v : V} (h : IsErr H e D v) : ∃ d, H e = some (exo e D d) ∧ HasD H d := by
  obtain ⟨dx, a, b⟩ := h
  refine ⟨some dx, a, fun d' z => ?_⟩
  cases z
  exact ⟨_, b⟩
def spRight (K : PySem.W.Frag) (C : Nat → Addr) : Sp := fun vs H Q _ => ∃ (a : Addr) (n : Str) (es : List Addr) (v : V), vs = [.ref a, .str n] ∧ H a = some (.lst (es.map V.ref)) ∧ ErrL H C v (List.range 33) es ∧ Shows H v n ∧ ∀ H', Same H H' → Q (.bl true) H'
theorem ok_right {f fC fI : Addr} {fd fdC fdI : FuncData} (F : Fun K "_law_right" "_law_right" sRight f fd) (A : Top K mg T C I)
    (kC : PySem.W.keepIn K (.ref fC) = true) (GC : FnOk P w K mg base CX0 1 fC fdC ["_law_error"] (spCode K C)) (bC : Binds K fdC ["_law_error"] []) (gC : mg "_law_code" = some (.ref fC))
    (kI : PySem.W.keepIn K (.ref fI) = true) (GI : FnOk P w K mg base CX0 1 fI fdI ["_law_error"] (spIsErr K T)) (bI : Binds K fdI ["_law_error"] []) (gI : mg "_law_is_error" = some (.ref fI))
    (mr : mg "range" = none) (mrp : mg "repr" = none) : FnG P w K mg base 2 f fd ["_law_some", "_law_noted"] (spRight K C) := by
  refine Fun.okG F scRight (fun vs H Q E h => ?_) (fun cdv Ar outer s H vs Q E gd hr h => ?_)
  · obtain ⟨a, n, es, v, rfl, _⟩ := h
    rfl
  · obtain ⟨a, n, es, v, rfl, ha, hes, hsh, q⟩ := h
    have nd := scRight.nd
    refine ⟨_, pss_cons (ps_if (pt_cmpR (op_neD hr.units)
        (pe_lc (own := [("_law_error", 2)]) (g := gName 2) (tt := tYes) rfl nd (pi_list (pv 0)) (blkOk_by (own := [("_law_error", 2)]) (N := ["_law_some", "_law_noted", "_law_error", "_law_at"]) (sc := defScope sRight) (by decide +kernel)) (fun _ _ _ _ _ => pg_name (i := 2) nd rfl (Or.inl rfl)) (fun _ _ _ _ _ => pts_nil)
          (fun _ _ _ _ _ => pe_call GC hr (by rfl) gC kC bC .nil pass0 (pa_cons (pv 2) pa_nil)))
        (pe_lc (own := [("_law_at", 3)]) (g := gName 3) (tt := tYes) rfl nd (pi_range1 rfl mr (pa_cons pe_int pa_nil)) (blkOk_by (own := [("_law_at", 3)]) (N := ["_law_some", "_law_noted", "_law_error", "_law_at"]) (sc := defScope sRight) (by decide +kernel)) (fun _ _ _ _ _ => pg_name (i := 3) nd rfl (Or.inl rfl)) (fun _ _ _ _ _ => pts_nil)
          (fun _ _ _ _ _ => pe_lst (pa_cons (pv 3) pa_nil))) (nomark _)) (pss_one (ps_ret pe_bl)) pss_nil)
      (pss_one (ps_ret (pe_cmpR (op_eqD hr.units)
        (pe_lc (own := [("_law_error", 2)]) (g := gName 2) (tt := tOr (tNot (tB (tCall (spIsErr K T) [] E0 (tCons (tVar 2) tNil)))) (tTest (tOp rNe (tCB rRepr (tCons (tValue K (tVar 2)) tNil)) (tVar 1)))) rfl nd (pi_list (pv 0)) (blkOk_by (own := [("_law_error", 2)]) (N := ["_law_some", "_law_noted", "_law_error", "_law_at"]) (sc := defScope sRight) (by decide +kernel)) (fun _ _ _ _ _ => pg_name (i := 2) nd rfl (Or.inl rfl))
          (fun _ _ _ _ _ => pts_one (PW.pt (pw_or (pt_not (pt_val (pe_call GI hr (by rfl) gI kI bI .nil pass0 (pa_cons (pv 2) pa_nil)))) (pw_or1 (pt_cmpR op_ne (pe_callB (call_repr gd hr) (by rfl) mrp boot_rep (pa_cons (pe_value (pv 2)) pa_nil)) (pv 1) (nomark _))))))
          (fun _ _ _ _ _ => pv 2)) (pe_lst pa_nil) (nomark _)))), ?_⟩
    have l33 : es.length = 33 := by
      rw [← Paired.length hes]
      rfl
    have big : (60 : Nat) < sizeLine := Nat.lt_of_lt_of_le (by omega : 60 < 100) (sz 100 (Nat.le_refl _))
    have item : ∀ {i : Nat} {x : V}, (es.map V.ref)[i]? = some x → ∃ e, x = .ref e ∧ i < 33 ∧ IsErr H e (C i) v := by
      intro i x hx
      rw [List.getElem?_map] at hx
      obtain ⟨e, he, rfl⟩ := Option.map_eq_some_iff.mp hx
      obtain ⟨j, hj, er⟩ := paired_get hes he
      have hi : i < 33 := by
        obtain ⟨hlt, _⟩ := List.getElem?_eq_some_iff.mp he
        omega
      rw [List.getElem?_range hi] at hj
      cases hj
      exact ⟨e, rfl, hi, er⟩
    -- [_law_code(e) for e in some]
    refine ⟨.ref a, rfl, a, rfl, ⟨_, SqL.of ha⟩, fun D nD => ?_⟩
    refine lc_list (K := K) (a := a) (xs := es.map V.ref) (fun i H' => ∃ ls : List Addr, ls.length = i ∧ Same H H' ∧ H' D = some (.lst (ls.map V.ref)) ∧ ∀ (t : Nat) l, ls[t]? = some l → H' l = some (.lst [.int ((0 + t : Nat) : Int)]))
      ⟨[], rfl, same_upd nD, upd_same, fun t l e => by simp at e⟩ (fun i H' _ ⟨_, _, s1, _⟩ => SqL.of (s1 _ _ ha)) ?_ ?_
    · rintro i x H1 hx ⟨ls, el, s1, eD, hls⟩
      obtain ⟨e, rfl, hi, er⟩ := item hx
      obtain ⟨d, he, hd⟩ := err_has (er.same s1)
      refine ⟨rfl, lc_turn ?_⟩
      refine ⟨.ref e, rfl, e, C i, d, _, rfl, he, hd, A.cat i (by omega), asks_of A (by omega), fun l H2 s2 nl el2 => ?_⟩
      rw [hits_one (by omega : i < 35) A.inj] at el2
      have lD : D ≠ l := ne_of_none eD nl
      refine ⟨ls.map V.ref, s2 _ _ eD, ?_, ls ++ [l], ?_, fun b o hb => ?_, ?_, fun t l' ht => ?_⟩
      · rw [List.length_map]
        omega
      · rw [List.length_append, el]
        rfl
      · rw [upd_ne (ne_of_none hb nD)]
        exact s2 _ _ (s1 _ _ hb)
      · rw [upd_same, List.map_append]
        rfl
      · rcases Nat.lt_or_ge t ls.length with h1 | h1
        · rw [List.getElem?_append_left h1] at ht
          have z := hls t l' ht
          rw [upd_ne (row_ne eD z)]
          exact s2 _ _ z
        · rw [List.getElem?_append_right h1] at ht
          have h2 : t - ls.length = 0 := by
            have := List.getElem?_eq_some_iff.mp ht
            simp at this
            omega
          rw [h2] at ht
          have e3 : l = l' := by simpa using ht
          subst e3
          rw [upd_ne lD.symm, el2]
          have : t = i := by omega
          subst this
          simp
    · rintro H1 ⟨ls, el, s1, eD, hls⟩
      rw [List.length_map, l33] at el
      -- [[at] for at in range(33)]
      refine ⟨_, rfl, by decide, by decide, fun D2 nD2 => ?_⟩
      refine lc_range (lo := 0) (n := 33) (fun i H' => ∃ ks : List Addr, ks.length = i ∧ Same H1 H' ∧ H' D2 = some (.lst (ks.map V.ref)) ∧ ∀ (t : Nat) l, ks[t]? = some l → H' l = some (.lst [.int ((0 + t : Nat) : Int)]))
        ⟨[], rfl, same_upd nD2, upd_same, fun t l e => by simp at e⟩ ?_ ?_
      · rintro i H2 hi ⟨ks, ek, s2, eD2, hks⟩
        refine ⟨rfl, lc_turn ?_⟩
        refine ⟨_, rfl, sz 1 (by decide), fun l nl => ?_⟩
        have s3 := same_upd (o := .lst [V.int (0 + (i : Int))]) nl
        have lD : D2 ≠ l := ne_of_none eD2 nl
        refine ⟨ks.map V.ref, s3 _ _ eD2, ?_, ks ++ [l], ?_, fun b o hb => ?_, ?_, fun t l' ht => ?_⟩
        · rw [List.length_map]
          omega
        · rw [List.length_append, ek]
          rfl
        · rw [upd_ne (ne_of_none hb nD2)]
          exact s3 _ _ (s2 _ _ hb)
        · rw [upd_same, List.map_append]
          rfl
        · rcases Nat.lt_or_ge t ks.length with h1 | h1
          · rw [List.getElem?_append_left h1] at ht
            have z := hks t l' ht
            rw [upd_ne (row_ne eD2 z)]
            exact s3 _ _ z
          · rw [List.getElem?_append_right h1] at ht
            have h2 : t - ks.length = 0 := by
              have := List.getElem?_eq_some_iff.mp ht
              simp at this
              omega
            rw [h2] at ht
            have e3 : l = l' := by simpa using ht
            subst e3
            rw [upd_ne lD.symm, upd_same]
            have : t = i := by omega
            subst this
            simp
      · rintro H2 ⟨ks, ek, s2, eD2, hks⟩
        have d1 : DpAll K H2 (ls.map V.ref) (rows 0 33) := by
          rw [← el]
          exact dp_rows fun t l e => s2 _ _ (hls t l e)
        have d2 : DpAll K H2 (ks.map V.ref) (rows 0 33) := by
          rw [← ek]
          exact dp_rows hks
        refine ⟨.list (rows 0 33), .list (rows 0 33), .lst (SqL.of (s2 _ _ eD)) d1, .lst (SqL.of eD2) d2, rows_shaped, rows_shaped, _, rfl, ?_⟩
        simp only [rows_eqv, Bool.not_true, Bool.false_eq_true, ↓reduceIte]
        have s02 := s1.trans s2
        -- [e for e in some if not is_error(e) or repr(e.value) != noted]
        refine ⟨.ref a, rfl, a, rfl, ⟨_, SqL.of (s02 _ _ ha)⟩, fun D3 nD3 => ?_⟩
        refine lc_list (K := K) (a := a) (xs := es.map V.ref) (fun i H' => Same H2 H' ∧ H' D3 = some (.lst [])) ⟨same_upd nD3, upd_same⟩ (fun i H' _ ⟨s4, _⟩ => SqL.of (s4 _ _ (s02 _ _ ha))) ?_ ?_
        · rintro i x H3 hx ⟨s4, eD3⟩
          obtain ⟨e, rfl, hi, er⟩ := item hx
          have er3 := er.same (s02.trans s4)
          obtain ⟨d, he, hd⟩ := err_has er3
          refine ⟨rfl, .ref e, rfl, e, C i, d, _, rfl, he, hd, A.cat i (by omega), ?_, true, rfl, ?_⟩
          · rw [List.contains_cons, List.contains_cons, beq_self_eq_true, Bool.true_or, Bool.or_true]
          simp only [Bool.not_true, Bool.false_eq_true, ↓reduceIte]
          refine ⟨.ref e, rfl, e, C i, v, rfl, er3, ⟨T, A.z i hi⟩, v, n, rfl, hsh.same (s02.trans s4), .str n, rfl, rfl, _, rfl, ?_⟩
          simp only [decide_true, Bool.not_true, Bool.false_eq_true, ↓reduceIte]
          exact ⟨s4, eD3⟩
        · rintro H3 ⟨s4, eD3⟩
          refine ⟨Nat.zero_le _, fun p np => ?_⟩
          have s5 := same_upd (o := .lst []) np
          refine ⟨.list [], .list [], .lst (SqL.of (s5 _ _ eD3)) .nil, .lst (SqL.of upd_same) .nil, by decide +kernel, by decide +kernel, ?_⟩
          rw [show PyData.eqv (.list []) (.list []) = true by decide +kernel]
          exact q _ ((s02.trans s4).trans s5)
end
end K1
set_option Elab.async false
set_option linter.all false
set_option maxRecDepth 100000
set_option maxHeartbeats 4000000
/-! k01: a turn of the law -/
namespace K1
open PySem PySem.Spec PyProof.Rows L2 EL LW GD
open PySem.EV (ErrC ErrI)
theorem scLaw : FnScope ["_law_script", "_law_purse_here", "_law_word_here", "_law_plain", "_law_thing", "_law_noted", "_law_some", "_law_called_here", "_law_later", "_law_rest", "_law_error"] ["_law_script"] (defScope sLaw) := ⟨rfl, rfl, rfl, by decide +kernel, rfl, by decide +kernel, by decide +kernel⟩
theorem boot_list : bootBuiltins (Str.ofString "list") = some (.type "list") := by decide +kernel
section
variable {X : Cx}
/-- a list display, whose place is none of the interpreter's own -/
def tLstB (t : TA) : TE := fun σ H Q => t σ H fun xs H1 => xs.length ≤ sizeLine ∧ ∀ p, H1 p = none → p ≠ sysModules → Q (.ref p) (upd H1 p (.lst xs))
theorem pe_lstB {es : List Expr} {t : TA} {pos : Pos} (h : PA X es t) : PE X (.List es pos) (tLstB t) := by
  refine ⟨fun pins s σ H Q I hq => wpAny_List_spliced (thn (h.run pos pins s σ H _ I hq) ?_)⟩
  rintro us s1 ⟨xs, H1, I1, r, z, q⟩
  have hf : H1 s1.heap.objs.size = none := I1.hok.fresh (Nat.le_refl _)
  have hz : us.length ≤ sizeLine := by rw [← r.length]; exact z
  have J := I1.laid (a := s1.heap.objs.size) (o := .lst xs) (t' := s1.toks) (fun b u e => Heap.get?_push_of_some _ e) (Nat.le_refl _) ⟨z, us, 0, r, Heap.get?_push_size _ rfl⟩
  exact ⟨hz, .ref s1.heap.objs.size, _, J, rfl, q _ hf (Nat.ne_of_gt I1.big)⟩
/-- what stands in the heap behind an expression: no tracked dict is the interpreter's own -/
def DictsOwn (H : Hp) : Prop := ∀ a kvs, H a = some (.dK kvs) → a ≠ sysModules
theorem pe_own {e : Expr} {te : TE} (h : PE X e te) : PE X e (fun σ H Q => te σ H fun v H1 => DictsOwn H1 → Q v H1) := by
  refine ⟨fun pins s σ H Q I hq => thn (h.run pins s σ H _ I hq) ?_⟩
  rintro u s1 ⟨v, H1, I1, r, q⟩
  refine ⟨v, H1, I1, r, q fun a kvs e => ?_⟩
  obtain ⟨_, hd, _⟩ := I1.hok a _ e
  exact fun z => by rw [z] at hd; exact absurd hd (by decide)
end
section
variable (K : PySem.W.Frag) (C : Nat → Addr) (T : Addr)
def tR (ta tb : TE) : TT := tNot (tB (tCall (spRight K C) [] E0 (tCons ta (tCons tb tNil))))
def tBare : TE := tCall (spBare C) [] E0 tNil
def tShow (te : TE) : TE := tCB rRepr (tCons te tNil)
/-- a dict of one pair -/
def tDict (tk tv : TE) : TE := fun σ H Q => tDisp [(tk, tv)] σ H fun v H1 => DictsOwn H1 → Q v H1
def tPlain : TE := tLstB (tCons (tC .non) (tCons (tC (.bl true)) (tCons (tC (.bl false)) (tCons (tC (.int 0)) (tCons (tVar 2) (tCons (tUn (rU fun i => .int (-i)) (tOp (rIxL K) (tVar 1) (tC (.int 1))))
  (tCons (tTup (tCons (tC (.str "level")) (tCons (tTup (tCons (tC (.str "left")) (tCons (tC (.str "+")) tNil))) (tCons (tC (.int 3)) tNil))))
  (tCons (tTup (tCons (tVar 2) (tCons (tLstB (tCons (tVar 2) tNil)) tNil)))
  (tCons (tDict (tVar 2) (tLstB (tCons (tVar 2) tNil))) tNil)))))))))
def tMore : TE := tLst (tCons (tLstB (tCons (tVar 2) tNil)) (tCons (tLstB (tCons (tLstB (tCons (tVar 2) tNil)) (tCons (tDict (tC (.str "_")) (tVar 2)) tNil))) tNil))
def tLater : TE := tTup (tCons (tC (.str "later")) (tCons (tVar 2) tNil))
def tNo : TS := tRet (tC (.bl false))
def tRest : TS :=
  tSeq (tAsg (tShow (tVar 4)) (gName 5))
  (tSeq (tPar3 6 7 8 (tCons (tCall (spFirst C) [] E0 (tCons (tVar 4) tNil)) (tCons (tCall (spFirst C) [] E0 (tCons (tVar 4) tNil)) (tCons (tCall (spFirst C) [] E0 (tCons tLater tNil)) tNil))))
  (tSeq (tIfS (tOr (tR K C (tBare C) (tC (.str "None"))) (tR K C (tVar 8) (tShow tLater))) tNo tNext)
  (tSeq (tIfS (tOr (tR K C (tVar 6) (tVar 5)) (tR K C (tVar 7) (tVar 5))) tNo tNext)
  (tIfS (tB (tCB (rIsi K) (tCons (tVar 4) (tCons (tC (.ty "list")) tNil))))
    (tSeq (tDrop (tBM K "list" rAppend (tVar 4) (tCons (tC (.str "later")) tNil))) (tIfS (tOr (tR K C (tVar 6) (tShow (tVar 4))) (tR K C (tVar 7) (tShow (tVar 4)))) tNo tNext)) tNext))))
def tTurn : TS :=
  tSeq (tAsg (tCall spWord [] E0 (tCons (tVar 1) tNil)) (gName 2))
  (tSeq (tAsg (tPlain K) (gName 3))
  (tSeq (tAsg (tCall (spOneOf K) [] E0 (tCons (tVar 1) (tCons (tOp rCat (tVar 3) tMore) tNil))) (gName 4)) (tRest K C)))
end
/-- the loop's body, as it stands -/
def turnBody : List Stmt := match defBody sLaw with
  | .For _ _ b _ _ :: _ => b
  | _ => []
structure Calls (K : PySem.W.Frag) (mg : Str → Option Value) (P : Program) (w : World) (base : Heap) (T : Addr) (C : Nat → Addr) where
  fW : Addr
  dW : FuncData
  kW : PySem.W.keepIn K (.ref fW) = true
  GW : FnOk P w K mg base CX0 3 fW dW ["_law_purse_here"] spWord
  bW : Binds K dW ["_law_purse_here"] []
  gW : mg "_law_word" = some (.ref fW)
  fO : Addr
  dO : FuncData
  kO : PySem.W.keepIn K (.ref fO) = true
  GO : FnOk P w K mg base CX0 3 fO dO ["_law_purse_here", "_law_some"] (spOneOf K)
  bO : Binds K dO ["_law_purse_here", "_law_some"] []
  gO : mg "_law_one_of" = some (.ref fO)
  fF : Addr
  dF : FuncData
  kF : PySem.W.keepIn K (.ref fF) = true
  GF : FnOk P w K mg base CX0 3 fF dF ["_law_thing"] (spFirst C)
  bF : Binds K dF ["_law_thing"] []
  gF : mg "_law_first" = some (.ref fF)
  fC : Addr
  dC : FuncData
  kC : PySem.W.keepIn K (.ref fC) = true
  GC : FnOk P w K mg base CX0 3 fC dC ["_law_thing"] (spFirst C)
  bC : Binds K dC ["_law_thing"] []
  gC : mg "_law_called" = some (.ref fC)
  fB : Addr
  dB : FuncData
  kB : PySem.W.keepIn K (.ref fB) = true
  GB : FnOk P w K mg base CX0 3 fB dB [] (spBare C)
  bB : Binds K dB [] []
  gB : mg "_law_bare" = some (.ref fB)
  fR : Addr
  dR : FuncData
  kR : PySem.W.keepIn K (.ref fR) = true
  GR : FnG P w K mg base 2 fR dR ["_law_some", "_law_noted"] (spRight K C)
  bR : Binds K dR ["_law_some", "_law_noted"] []
  gR : mg "_law_right" = some (.ref fR)
  fD : Addr
  dD : FuncData
  kD : PySem.W.keepIn K (.ref fD) = true
  GD : FnOk P w K mg base CX0 1 fD dD ["_law_error"] (spCode K C)
  bD : Binds K dD ["_law_error"] []
  gD : mg "_law_code" = some (.ref fD)
  fI : Addr
  dI : FuncData
  kI : PySem.W.keepIn K (.ref fI) = true
  GI : FnOk P w K mg base CX0 1 fI dI ["_law_error"] (spIsErr K T)
  bI : Binds K dI ["_law_error"] []
  gI : mg "_law_is_error" = some (.ref fI)
  fP : Addr
  dP : FuncData
  kP : PySem.W.keepIn K (.ref fP) = true
  GP : FnOk P w K mg base CX0 2 fP dP ["_law_script", "_law_few"] (spPurses K)
  bP : Binds K dP ["_law_script", "_law_few"] []
  gP : mg "_law_purses" = some (.ref fP)
  mis : mg "isinstance" = none
  mrp : mg "repr" = none
  mli : mg "list" = none
  mal : mg "all" = none
section
variable {P : Program} {w : World} {K : PySem.W.Frag} {mg : Str → Option Value} {base : Heap} {T : Addr} {C I : Nat → Addr}
abbrev nL : List Str := ["_law_script", "_law_purse_here", "_law_word_here", "_law_plain", "_law_thing", "_law_noted", "_law_some", "_law_called_here", "_law_later", "_law_rest", "_law_error"]
theorem body_turn {f : Addr} {cdv : Value} {Ar : Around} {outer : List Env} {s : Shared} {H : Hp} {E : XK} (L : Calls K mg P w base T C) (gd : Ar.guards = some []) (hr : Room 3 (Ar.deeper (envOfC "law" (defScope sLaw) s.heap.objs.size f cdv))) :
    PSs (cxOf CX0 P w K mg base nL "law" (defScope sLaw) f cdv Ar outer s H E).nox turnBody (tTurn K C) := by
  have nd := scLaw.nd
  have hr2 := hr.mono (by decide : 2 ≤ 3)
  exact pss_cons (ps_set (i := 2) nd rfl (.inl rfl) (pe_call L.GW hr (by rfl) L.gW L.kW L.bW .nil pass0 (pa_cons (pv 1) pa_nil)))
    (pss_cons (ps_set (i := 3) nd rfl (.inl rfl) (pe_lstB (pa_cons pe_non (pa_cons pe_bl (pa_cons pe_bl (pa_cons pe_int (pa_cons (pv 2) (pa_cons (pe_un un_neg (pe_ix ix_list (pv 1) pe_int (fun _ _ => rfl)))
        (pa_cons (pe_tup (pa_cons pe_str (pa_cons (pe_tup (pa_cons pe_str (pa_cons pe_str pa_nil))) (pa_cons pe_int pa_nil))))
        (pa_cons (pe_tup (pa_cons (pv 2) (pa_cons (pe_lstB (pa_cons (pv 2) pa_nil)) pa_nil)))
        (pa_cons (pe_own (pe_disp (pps_cons (pv 2) (pe_lstB (pa_cons (pv 2) pa_nil)) pps_nil) (by rfl) (by rfl) (fun z => by cases z) (by decide))) pa_nil)))))))))))
    (pss_cons (ps_set (i := 4) nd rfl (.inl rfl) (pe_call L.GO hr (by rfl) L.gO L.kO L.bO .nil pass0 (pa_cons (pv 1) (pa_cons (pe_op op_cat (pv 3) (pe_lst (pa_cons (pe_lstB (pa_cons (pv 2) pa_nil))
        (pa_cons (pe_lstB (pa_cons (pe_lstB (pa_cons (pv 2) pa_nil)) (pa_cons (pe_own (pe_disp (pps_cons pe_str (pv 2) pps_nil) (by rfl) (by rfl) (fun z => by cases z) (by decide))) pa_nil))) pa_nil)))) pa_nil))))
    (pss_cons (ps_set (i := 5) nd rfl (.inl rfl) (pe_callB (call_repr gd hr) (by rfl) L.mrp boot_rep (pa_cons (pv 4) pa_nil)))
    (pss_cons (ps_par3 (i := 6) (j := 7) (l := 8) (by rfl) nd rfl rfl rfl (by decide) (by decide) (by decide) rfl rfl rfl
        (pa_cons (pe_call L.GF hr (by rfl) L.gF L.kF L.bF .nil pass0 (pa_cons (pv 4) pa_nil)) (pa_cons (pe_call L.GC hr (by rfl) L.gC L.kC L.bC .nil pass0 (pa_cons (pv 4) pa_nil)) (pa_cons (pe_call L.GF hr (by rfl) L.gF L.kF L.bF .nil pass0 (pa_cons (pe_tup (pa_cons pe_str (pa_cons (pv 2) pa_nil))) pa_nil)) pa_nil))) (by rfl))
    (pss_cons (ps_if (PW.pt (pw_or (pt_not (pt_val (pe_callG L.GR gd hr2 (by rfl) L.gR L.kR L.bR (pa_cons (pe_call0 L.GB hr (by rfl) L.gB L.kB L.bB .nil pass0) (pa_cons pe_str pa_nil)))))
        (pw_or1 (pt_not (pt_val (pe_callG L.GR gd hr2 (by rfl) L.gR L.kR L.bR (pa_cons (pv 8) (pa_cons (pe_callB (call_repr gd hr) (by rfl) L.mrp boot_rep (pa_cons (pe_tup (pa_cons pe_str (pa_cons (pv 2) pa_nil))) pa_nil)) pa_nil)))))))) (pss_one (ps_ret pe_bl)) pss_nil)
    (pss_cons (ps_if (PW.pt (pw_or (pt_not (pt_val (pe_callG L.GR gd hr2 (by rfl) L.gR L.kR L.bR (pa_cons (pv 6) (pa_cons (pv 5) pa_nil)))))
        (pw_or1 (pt_not (pt_val (pe_callG L.GR gd hr2 (by rfl) L.gR L.kR L.bR (pa_cons (pv 7) (pa_cons (pv 5) pa_nil)))))))) (pss_one (ps_ret pe_bl)) pss_nil)
    (pss_one (ps_if (pt_val (pe_callB call_isi (by rfl) L.mis boot_isi (pa_cons (pv 4) (pa_cons (pe_bltn (v := .ty "list") (by rfl) L.mli boot_list rfl) pa_nil))))
      (pss_cons (ps_expr (pe_bm PySem.F.plainAttrs_list PySem.F.slot_list_append PySem.F.type_list_append mt_append (pv 4) (pa_cons pe_str pa_nil)))
      (pss_one (ps_if (PW.pt (pw_or (pt_not (pt_val (pe_callG L.GR gd hr2 (by rfl) L.gR L.kR L.bR (pa_cons (pv 6) (pa_cons (pe_callB (call_repr gd hr) (by rfl) L.mrp boot_rep (pa_cons (pv 4) pa_nil)) pa_nil)))))
        (pw_or1 (pt_not (pt_val (pe_callG L.GR gd hr2 (by rfl) L.gR L.kR L.bR (pa_cons (pv 7) (pa_cons (pe_callB (call_repr gd hr) (by rfl) L.mrp boot_rep (pa_cons (pv 4) pa_nil)) pa_nil)))))))) (pss_one (ps_ret pe_bl)) pss_nil)))
      pss_nil))))))))
end
end K1
set_option Elab.async false
set_option linter.all false
set_option maxRecDepth 100000
set_option maxHeartbeats 4000000
/-! k01: a turn of the law, its reading -/
namespace K1
open PySem PySem.Spec PyProof.Rows L2 EL LW GD
open PySem.EV (ErrC ErrI)
/-! ### displays of dicts -/
section
variable {σ : L2.St} {H : Hp} {x kx : Str} {Q : VK}
theorem disp_list (h2 : σ[2]? = some (some (.str x))) (k : ∀ d l H', Same H H' → H d = none → H l = none → d ≠ sysModules → l ≠ sysModules → H' l = some (.lst [.str x]) → H' d = some (.dK [(.inr x, .ref l)]) → Q (.ref d) H') :
    tDict (tVar 2) (tLstB (tCons (tVar 2) tNil)) σ H Q := by
  intro d nd
  refine ⟨_, h2, _, h2, sz 1 (by decide), fun l nl ml => ?_⟩
  have ld : d ≠ l := fun e => by rw [← e, upd_same] at nl; cases nl
  have nl' : H l = none := by rw [upd_ne ld.symm] at nl; exact nl
  refine ⟨by rw [upd_ne ld, upd_same], [(.inr x, .ref l)], rfl, by simp, fun own => ?_⟩
  refine k d l _ (fun b o hb => ?_) nd nl' (own d _ upd_same) ml ?_ upd_same
  · rw [upd_ne (ne_of_none hb nd), upd_ne (ne_of_none hb nl'), upd_ne (ne_of_none hb nd)]
    exact hb
  · rw [upd_ne ld.symm, upd_same]
theorem disp_word (h2 : σ[2]? = some (some (.str x))) (k : ∀ d H', Same H H' → H d = none → d ≠ sysModules → H' d = some (.dK [(.inr kx, .str x)]) → Q (.ref d) H') :
    tDict (tC (.str kx)) (tVar 2) σ H Q := by
  intro d nd
  refine ⟨_, h2, upd_same, [(.inr kx, .str x)], rfl, by simp, fun own => ?_⟩
  refine k d _ (fun b o hb => ?_) nd (own d _ upd_same) upd_same
  rw [upd_ne (ne_of_none hb nd), upd_ne (ne_of_none hb nd)]
  exact hb
end
/-! ### what is drawn -/
/-- not a list, at this heap and all that grow from it -/
def NoList (K : PySem.W.Frag) (H : Hp) (v : V) : Prop := ∃ t, PySem.W.kitOne K t (.type "list") = some false ∧ ∀ H', Same H H' → TyX K H' v t
/-- a list that may be lengthened -/
def AList (H0 H : Hp) (v : V) : Prop := ∃ (a : Addr) (xs : List V), v = .ref a ∧ H a = some (.lst xs) ∧ xs.length ≤ 5 ∧ H0 a = none ∧
  ∀ H', H' a = some (.lst (xs ++ [.str "later"])) → (∀ b o, b ≠ a → H b = some o → H' b = some o) → ∃ n', Shows H' (.ref a) n'
def Good (K : PySem.W.Frag) (H0 H : Hp) (v : V) : Prop := (∃ n, Shows H v n) ∧ (NoList K H v ∨ AList H0 H v)
theorem shows_of {H : Hp} {v : V} {d : PyData} {as : List Addr} (h : Dq H v d as) (hs : sysModules ∉ as) (h1 : d.showable = true) (h2 : d.depth ≤ 20) (h3 : d.leavesShort 20 = true) (h4 : d.weight ≤ 1000) : ∃ n, Shows H v n := by
  refine ⟨_, ⟨d, as, h, hs, h1, h2, ?_, rfl⟩⟩
  have := PyData.shown_le 20 (by decide) d h3
  have hz : (100000 : Nat) ≤ sizeLine := by rw [sizeLine_eq]; decide
  have : (20 + 2) * d.weight ≤ (20 + 2) * 1000 := Nat.mul_le_mul_left _ h4
  omega
theorem word_short {x : Str} (hl : Letters x) : (PyData.str x).leavesShort 20 = true := by
  show (x.cps.toList.all fun c => decide (c < 16 ^ 8)) = true
  rw [List.all_eq_true]
  intro c hc
  have := hl c hc
  exact decide_eq_true (by omega)
theorem word_weight {x : Str} (h : x.length ≤ 8) : (PyData.str x).weight ≤ 8 := h
section
variable {H : Hp} {x : Str} {l d a b : Addr}
theorem later_short : (PyData.str "later").leavesShort 20 = true := by decide +kernel
/-- the closers of each datum -/
theorem sh_str (hx : x.length ≤ 8) (hl : Letters x) : ∃ n, Shows H (.str x) n :=
  shows_of (.str x) (by simp) rfl (Nat.zero_le _) (word_short hl) (Nat.le_trans (word_weight hx) (by decide))
theorem sh_list1 (hx : x.length ≤ 8) (hl : Letters x) (e : H l = some (.lst [.str x])) (m : l ≠ sysModules) : ∃ n, Shows H (.ref l) n := by
  refine shows_of (.lst e (.cons (.str x) .nil)) (by simpa using m.symm) rfl (Nat.le_of_ble_eq_true rfl) ?_ ?_
  · show ((PyData.str x).leavesShort 20 && true) = true
    rw [word_short hl]
    rfl
  · have := word_weight hx
    simp only [PyData.weight, PyData.weightAll] at this ⊢
    omega
theorem sh_list2 (hx : x.length ≤ 8) (hl : Letters x) (e : H l = some (.lst [.str x, .str "later"])) (m : l ≠ sysModules) : ∃ n, Shows H (.ref l) n := by
  refine shows_of (.lst e (.cons (.str x) (.cons (.str _) .nil))) (by simpa using m.symm) rfl (Nat.le_of_ble_eq_true rfl) ?_ ?_
  · show ((PyData.str x).leavesShort 20 && ((PyData.str "later").leavesShort 20 && true)) = true
    rw [word_short hl, later_short]
    rfl
  · have h1 := word_weight hx
    have h2 : (PyData.str "later").weight ≤ 8 := by decide +kernel
    simp only [PyData.weight, PyData.weightAll] at h1 h2 ⊢
    omega
theorem sh_tup (hx : x.length ≤ 8) (hl : Letters x) (e : H a = some (.tup [.str "later", .str x])) : ∃ n, Shows H (.ref a) n := by
  refine shows_of (.tup e (.cons (.str _) (.cons (.str x) .nil))) (by simp) rfl (Nat.le_of_ble_eq_true rfl) ?_ ?_
  · show ((PyData.str "later").leavesShort 20 && ((PyData.str x).leavesShort 20 && true)) = true
    rw [later_short, word_short hl]
    rfl
  · have h1 := word_weight hx
    have h2 : (PyData.str "later").weight ≤ 8 := by decide +kernel
    simp only [PyData.weight, PyData.weightAll] at h1 h2 ⊢
    omega
theorem sh_pair (hx : x.length ≤ 8) (hl : Letters x) (e : H a = some (.tup [.str x, .ref l])) (e2 : H l = some (.lst [.str x])) (m : l ≠ sysModules) : ∃ n, Shows H (.ref a) n := by
  refine shows_of (.tup e (.cons (.str _) (.cons (.lst e2 (.cons (.str x) .nil)) .nil))) (by simpa using m.symm) rfl (Nat.le_of_ble_eq_true rfl) ?_ ?_
  · show ((PyData.str x).leavesShort 20 && (((PyData.str x).leavesShort 20 && true) && true)) = true
    rw [word_short hl]
    rfl
  · have h1 := word_weight hx
    simp only [PyData.weight, PyData.weightAll] at h1 ⊢
    omega
theorem sh_level (e : H a = some (.tup [.str "level", .ref b, .int 3])) (e2 : H b = some (.tup [.str "left", .str "+"])) : ∃ n, Shows H (.ref a) n :=
  shows_of (.tup e (.cons (.str _) (.cons (.tup e2 (.cons (.str _) (.cons (.str _) .nil))) (.cons (.int 3) .nil)))) (by simp) (by decide +kernel) (by decide) (by decide +kernel) (by decide +kernel)
theorem sh_dict (hx : x.length ≤ 8) (hl : Letters x) (e : H d = some (.dK [(.inr x, .ref l)])) (e2 : H l = some (.lst [.str x])) (md : d ≠ sysModules) (m : l ≠ sysModules) : ∃ n, Shows H (.ref d) n := by
  refine shows_of (.one e (.lst e2 (.cons (.str x) .nil))) (by simp [md.symm, m.symm]) rfl (Nat.le_of_ble_eq_true rfl) ?_ ?_
  · show ((PyData.str x).leavesShort 20 && ((PyData.str x).leavesShort 20 && true) && true) = true
    rw [word_short hl]
    rfl
  · have h1 := word_weight hx
    simp only [PyData.weight, PyData.weightAll, PyData.weightKv] at h1 ⊢
    omega
theorem sh_deep (hx : x.length ≤ 8) (hl : Letters x) (e : H a = some (.lst [.ref l, .ref d])) (e2 : H l = some (.lst [.str x])) (e3 : H d = some (.dK [(.inr "_", .str x)])) (ma : a ≠ sysModules) (md : d ≠ sysModules) (m : l ≠ sysModules) : ∃ n, Shows H (.ref a) n := by
  refine shows_of (.lst e (.cons (.lst e2 (.cons (.str x) .nil)) (.cons (.one e3 (.str x)) .nil))) (by simp [ma.symm, md.symm, m.symm]) rfl (Nat.le_of_ble_eq_true rfl) ?_ ?_
  · have h2 : (PyData.str "_").leavesShort 20 = true := by decide +kernel
    show (((PyData.str x).leavesShort 20 && true) && (((PyData.str "_").leavesShort 20 && (PyData.str x).leavesShort 20 && true) && true)) = true
    rw [word_short hl, h2]
    rfl
  · have h1 := word_weight hx
    have h2 : (PyData.str "_").weight ≤ 8 := by decide +kernel
    simp only [PyData.weight, PyData.weightAll, PyData.weightKv] at h1 h2 ⊢
    omega
theorem sh_deep2 (hx : x.length ≤ 8) (hl : Letters x) (e : H a = some (.lst [.ref l, .ref d, .str "later"])) (e2 : H l = some (.lst [.str x])) (e3 : H d = some (.dK [(.inr "_", .str x)])) (ma : a ≠ sysModules) (md : d ≠ sysModules) (m : l ≠ sysModules) : ∃ n, Shows H (.ref a) n := by
  refine shows_of (.lst e (.cons (.lst e2 (.cons (.str x) .nil)) (.cons (.one e3 (.str x)) (.cons (.str _) .nil)))) (by simp [ma.symm, md.symm, m.symm]) rfl (Nat.le_of_ble_eq_true rfl) ?_ ?_
  · have h2 : (PyData.str "_").leavesShort 20 = true := by decide +kernel
    show (((PyData.str x).leavesShort 20 && true) && (((PyData.str "_").leavesShort 20 && (PyData.str x).leavesShort 20 && true) && ((PyData.str "later").leavesShort 20 && true))) = true
    rw [word_short hl, h2, later_short]
    rfl
  · have h1 := word_weight hx
    have h2 : (PyData.str "_").weight ≤ 8 := by decide +kernel
    have h3 : (PyData.str "later").weight ≤ 8 := by decide +kernel
    simp only [PyData.weight, PyData.weightAll, PyData.weightKv] at h1 h2 h3 ⊢
    omega
theorem sh_int {q : Int} (h0 : 0 ≤ q) (h1 : q < 2147483629) : ∃ n, Shows H (.int (-q)) n := by
  have hl : (-q).natAbs.log2 < 31 := by
    have hn : (-q).natAbs < 2 ^ 31 := by omega
    by_cases z : (-q).natAbs = 0
    · rw [z]
      decide
    · exact (Nat.log2_lt z).mpr hn
  refine shows_of (.int (-q)) (by simp) (decide_eq_true (by omega)) (Nat.zero_le _) ?_ ?_
  · exact decide_eq_true (Nat.le_trans (PyData.shown_int_le (by omega)) (by decide))
  · show (if (-q == 0) = true then 0 else (-q).natAbs.log2 + 1) ≤ 1000
    split <;> omega
theorem sh_zero : ∃ n, Shows H (.int 0) n := shows_of (.int 0) (by simp) (by decide +kernel) (by decide) (by decide +kernel) (by decide)
theorem sh_none : Shows H .non "None" := ⟨.none, [], .non, by simp, rfl, by decide, by rw [sizeLine_eq]; decide +kernel, rfl⟩
theorem sh_non : ∃ n, Shows H .non n := ⟨_, sh_none⟩
theorem sh_bl (b : Bool) : ∃ n, Shows H (.bl b) n := by
  cases b
  · exact shows_of (.bl false) (by simp) rfl (by decide) (by decide +kernel) (by decide)
  · exact shows_of (.bl true) (by simp) rfl (by decide) (by decide +kernel) (by decide)
end
/-! ### no lists -/
section
variable {K : PySem.W.Frag} {H : Hp} {a : Addr} {x : Str} {i : Int} {b : Bool} {xs : List V} {kvs : List (Key × V)}
theorem no_non : NoList K H .non := ⟨.type "NoneType", kit_ty (by decide +kernel), fun _ _ => .base .non⟩
theorem no_bl : NoList K H (.bl b) := ⟨.type "bool", kit_ty (by decide +kernel), fun _ _ => .base (.bl b)⟩
theorem no_int : NoList K H (.int i) := ⟨.type "int", kit_ty (by decide +kernel), fun _ _ => .base (.int i)⟩
theorem no_str : NoList K H (.str x) := ⟨.type "str", kit_ty (by decide +kernel), fun _ _ => .base (.str x)⟩
theorem no_tup (e : H a = some (.tup xs)) : NoList K H (.ref a) := ⟨.type "tuple", kit_ty (by decide +kernel), fun _ s => .base (.tup (s _ _ e))⟩
theorem no_dict (e : H a = some (.dK kvs)) : NoList K H (.ref a) := ⟨.type "dict", kit_ty (by decide +kernel), fun _ s => .base (.dK (s _ _ e))⟩
end
end K1
set_option Elab.async false
set_option linter.all false
set_option maxRecDepth 100000
set_option maxHeartbeats 8000000
/-! k01: a turn of the law, read to its end -/
namespace K1
open PySem PySem.Spec PyProof.Rows L2 EL LW GD
open PySem.EV (ErrC ErrI)
section
variable {K : PySem.W.Frag} {T : Addr} {C : Nat → Addr} {σ : L2.St} {H : Hp} {D : Ends} {u v' : TS}
/-- the reading of an argument: some value of a kind, the heap grown -/
def Gives (t : TE) (σ : L2.St) (H : Hp) (R : V → Hp → Prop) : Prop := ∀ Q : VK, (∀ v H', Same H H' → R v H' → Q v H') → t σ H Q
/-- if not right(..) or not right(..): return False -/
theorem if_right {ta tb tc td : TE} {R1 R2 : V → Hp → Prop}
    (ga : Gives ta σ H R1) (gb : ∀ v H', Same H H' → R1 v H' → Gives tb σ H' fun n H2 => ∃ (a : Addr) (x : Str) (es : List Addr) (w : V), v = .ref a ∧ n = .str x ∧ H2 a = some (.lst (es.map V.ref)) ∧ ErrL H2 C w (List.range 33) es ∧ Shows H2 w x)
    (gc : ∀ H1, Same H H1 → Gives tc σ H1 R2) (gd : ∀ H1 v H', Same H H1 → Same H1 H' → R2 v H' → Gives td σ H' fun n H2 => ∃ (a : Addr) (x : Str) (es : List Addr) (w : V), v = .ref a ∧ n = .str x ∧ H2 a = some (.lst (es.map V.ref)) ∧ ErrL H2 C w (List.range 33) es ∧ Shows H2 w x)
    (k : ∀ H', Same H H' → D.nx σ H') : tIfS (tOr (tR K C ta tb) (tR K C tc td)) tNo tNext D σ H := by
  refine ga _ fun v H1 s1 r1 => gb v H1 s1 r1 _ fun n H2 s2 ⟨a, x, es, w, ev, en, e1, e2, e3⟩ => ?_
  subst ev en
  refine ⟨a, x, es, w, rfl, e1, e2, e3, fun H3 s3 => ⟨true, rfl, ?_⟩⟩
  simp only [Bool.not_true, Bool.false_eq_true, ↓reduceIte]
  have s13 := (s1.trans s2).trans s3
  refine gc H3 s13 _ fun v2 H4 s4 r4 => gd H3 v2 H4 s13 s4 r4 _ fun n2 H5 s5 ⟨a2, x2, es2, w2, ev2, en2, f1, f2, f3⟩ => ?_
  subst ev2 en2
  refine ⟨a2, x2, es2, w2, rfl, f1, f2, f3, fun H6 s6 => ⟨true, rfl, ?_⟩⟩
  simp only [Bool.not_true, Bool.false_eq_true, ↓reduceIte]
  exact k H6 (((s13.trans s4).trans s5).trans s6)
/-- the same with tSeq around -/
theorem if_rightS {ta tb tc td : TE} {R1 R2 : V → Hp → Prop}
    (ga : Gives ta σ H R1) (gb : ∀ v H', Same H H' → R1 v H' → Gives tb σ H' fun n H2 => ∃ (a : Addr) (x : Str) (es : List Addr) (w : V), v = .ref a ∧ n = .str x ∧ H2 a = some (.lst (es.map V.ref)) ∧ ErrL H2 C w (List.range 33) es ∧ Shows H2 w x)
    (gc : ∀ H1, Same H H1 → Gives tc σ H1 R2) (gd : ∀ H1 v H', Same H H1 → Same H1 H' → R2 v H' → Gives td σ H' fun n H2 => ∃ (a : Addr) (x : Str) (es : List Addr) (w : V), v = .ref a ∧ n = .str x ∧ H2 a = some (.lst (es.map V.ref)) ∧ ErrL H2 C w (List.range 33) es ∧ Shows H2 w x)
    (k : ∀ H', Same H H' → u D σ H') : tSeq (tIfS (tOr (tR K C ta tb) (tR K C tc td)) tNo tNext) u D σ H :=
  if_right (D := { D with nx := u D }) ga gb gc gd k
end
section
variable {K : PySem.W.Frag} {mg : Str → Option Value} {T : Addr} {C I : Nat → Addr}
/-- what stands where right(..) is asked for -/
abbrev Asked (C : Nat → Addr) (v n : V) (H2 : Hp) : Prop := ∃ (a : Addr) (x : Str) (es : List Addr) (w : V), v = .ref a ∧ n = .str x ∧ H2 a = some (.lst (es.map V.ref)) ∧ ErrL H2 C w (List.range 33) es ∧ Shows H2 w x
theorem gives_var {σ : L2.St} {H : Hp} {i : Nat} {v : V} (h : σ[i]? = some (some v)) : Gives (tVar i) σ H (fun u _ => u = v) := fun Q q => ⟨v, h, q _ _ (Same.refl _) rfl⟩
theorem gives_bare {C : Nat → Addr} {σ : L2.St} {H : Hp} : Gives (tBare C) σ H (fun u H1 => ∃ (a : Addr) (es : List Addr), u = .ref a ∧ H1 a = some (.lst (es.map V.ref)) ∧ ErrL H1 C .non (List.range 33) es) :=
  fun Q q => ⟨rfl, fun l es H2 s e r => q _ _ s ⟨l, es, rfl, e, r⟩⟩
theorem gives_none {C : Nat → Addr} {σ : L2.St} {H : Hp} {v : V} (h : ∃ (a : Addr) (es : List Addr), v = .ref a ∧ H a = some (.lst (es.map V.ref)) ∧ ErrL H C .non (List.range 33) es) : Gives (tC (.str "None")) σ H (fun n H2 => Asked C v n H2) :=
  fun Q q => by
    obtain ⟨a, es, rfl, e, r⟩ := h
    exact q _ _ (Same.refl _) ⟨a, _, es, .non, rfl, rfl, e, r, sh_none⟩
theorem gives_text {C : Nat → Addr} {σ : L2.St} {H : Hp} {v w : V} {i : Nat} {a : Addr} {x : Str} {es : List Addr} (h : σ[i]? = some (some (.str x))) (hv : v = .ref a) (e : H a = some (.lst (es.map V.ref))) (r : ErrL H C w (List.range 33) es) (z : Shows H w x) : Gives (tVar i) σ H (fun n H2 => Asked C v n H2) :=
  fun Q q => ⟨_, h, q _ _ (Same.refl _) ⟨a, x, es, w, hv, rfl, e, r, z⟩⟩
theorem gives_show {C : Nat → Addr} {σ : L2.St} {H : Hp} {v w : V} {i : Nat} {a : Addr} {x : Str} {es : List Addr} (h : σ[i]? = some (some w)) (hv : v = .ref a) (e : H a = some (.lst (es.map V.ref))) (r : ErrL H C w (List.range 33) es) (z : Shows H w x) : Gives (tShow (tVar i)) σ H (fun n H2 => Asked C v n H2) :=
  fun Q q => ⟨_, h, w, x, rfl, z, q _ _ (Same.refl _) ⟨a, x, es, w, hv, rfl, e, r, z⟩⟩
def later (x : Str) : PyData := .tuple [.str "later", .str x]
theorem shows_at {H : Hp} {v : V} {d : PyData} {as : List Addr} (h : Dq H v d as) (hs : sysModules ∉ as) (h1 : d.showable = true) (h2 : d.depth ≤ 20) (h3 : d.leavesShort 20 = true) (h4 : d.weight ≤ 1000) : Shows H v d.shown := by
  refine ⟨⟨d, as, h, hs, h1, h2, ?_, rfl⟩⟩
  have := PyData.shown_le 20 (by decide) d h3
  have hz : (100000 : Nat) ≤ sizeLine := by rw [sizeLine_eq]; decide
  have : (20 + 2) * d.weight ≤ (20 + 2) * 1000 := Nat.mul_le_mul_left _ h4
  omega
theorem sh_later {H : Hp} {a : Addr} {x : Str} (hx : x.length ≤ 8) (hl : Letters x) (e : H a = some (.tup [.str "later", .str x])) : Shows H (.ref a) (later x).shown := by
  refine shows_at (.tup e (.cons (.str _) (.cons (.str x) .nil))) (by simp) rfl (Nat.le_of_ble_eq_true rfl) ?_ ?_
  · show ((PyData.str "later").leavesShort 20 && ((PyData.str x).leavesShort 20 && true)) = true
    rw [later_short, word_short hl]
    rfl
  · have h1 := word_weight hx
    have h2 : (PyData.str "later").weight ≤ 8 := by decide +kernel
    simp only [later, PyData.weight, PyData.weightAll] at h1 h2 ⊢
    omega
theorem gives_later {C : Nat → Addr} {σ : L2.St} {H : Hp} {v w : V} {a : Addr} {x : Str} {es : List Addr} (x8 : x.length ≤ 8) (xl : Letters x) (h : σ[2]? = some (some (.str x))) (hv : v = .ref a) (e : H a = some (.lst (es.map V.ref))) (r : ErrL H C w (List.range 33) es) (z : Shows H w (later x).shown) : Gives (tShow tLater) σ H (fun n H2 => Asked C v n H2) :=
  fun Q q => by
    refine ⟨_, h, sz 2 (by decide), fun t nt => ?_⟩
    have s1 := same_upd (o := .tup [.str "later", .str x]) nt
    exact ⟨.ref t, (later x).shown, rfl, sh_later x8 xl upd_same, q _ _ s1 ⟨a, _, es, w, hv, rfl, s1 _ _ e, errl_same r s1, z.same s1⟩⟩
/-- errors outlive the change of a list -/
theorem errl_upd {H : Hp} {C : Nat → Addr} {v : V} {is : List Nat} {es : List Addr} {a : Addr} {xs ys : List V} (h : ErrL H C v is es) (e : H a = some (.lst xs)) : ErrL (upd H a (.lst ys)) C v is es := by
  refine Paired.mapP h fun _ b z => ?_
  obtain ⟨dx, h1, h2⟩ := z
  have n1 : b ≠ a := fun q => by rw [q, e] at h1; cases h1
  have n2 : dx ≠ a := fun q => by rw [q, e] at h2; cases h2
  exact ⟨dx, by rw [upd_ne n1]; exact h1, by rw [upd_ne n2]; exact h2⟩
theorem lst_upd {H : Hp} {es : List Addr} {a b : Addr} {xs ys : List V} (h : H b = some (.lst (es.map V.ref))) (l : es.length = 33) (e : H a = some (.lst xs)) (m : xs.length ≤ 5) : upd H a (.lst ys) b = some (.lst (es.map V.ref)) := by
  have n : b ≠ a := fun q => by
    rw [q, e] at h
    have z2 : xs = es.map V.ref := HO.lst.inj (Option.some.inj h)
    have := congrArg List.length z2
    rw [List.length_map] at this
    omega
  rw [upd_ne n]
  exact h
theorem rest_ok {H0 H : Hp} {D : Ends} {p : Addr} {x : Str} {v : V} {v0 y3 y5 y6 y7 y8 y9 y10 : Option V} (hK : Keep p H0 H) (x8 : x.length ≤ 8) (xl : Letters x) (hg : Good K H0 H v)
    (k : ∀ (z5 z6 z7 z8 : Option V) H', Keep p H0 H' → D.nx [v0, some (.ref p), some (.str x), y3, some v, z5, z6, z7, z8, y9, y10] H') :
    tRest K C D [v0, some (.ref p), some (.str x), y3, some v, y5, y6, y7, y8, y9, y10] H := by
  obtain ⟨⟨n, hn⟩, alt⟩ := hg
  -- noted
  refine ⟨v, rfl, v, n, rfl, hn, ?_⟩
  -- the three lists
  refine ⟨v, rfl, v, rfl, fun a1 es1 H1 s1 e1 r1 => ⟨v, rfl, v, rfl, fun a2 es2 H2 s2 e2 r2 => ⟨.str x, rfl, sz 2 (by decide), fun tl ntl => ⟨.ref tl, rfl, fun a3 es3 H3 s3 e3 r3 => ⟨_, _, _, rfl, ?_⟩⟩⟩⟩⟩
  have stl := same_upd (o := .tup [.str "later", .str x]) ntl
  have etl := s3 _ _ upd_same
  have hnl := sh_later x8 xl etl
  have s23 := stl.trans s3
  have s13 := s2.trans s23
  have s03 := s1.trans s13
  have e2' := s23 _ _ e2
  have r2' := errl_same r2 s23
  have e1' := s13 _ _ e1
  have r1' := errl_same r1 s13
  have hn3 := hn.same s03
  refine if_rightS gives_bare (fun v H' _ h => gives_none h) (fun H1 _ => gives_var rfl) (fun H4 v H5 s4 s5 hv => gives_later x8 xl rfl hv ((s4.trans s5) _ _ e3) (errl_same r3 (s4.trans s5)) (hnl.same (s4.trans s5))) fun H4 s4 => ?_
  refine if_rightS (gives_var rfl) (fun v H5 s5 hv => gives_text rfl hv ((s4.trans s5) _ _ e1') (errl_same r1' (s4.trans s5)) (hn3.same (s4.trans s5)))
    (fun H5 _ => gives_var rfl) (fun H5 v H6 s5 s6 hv => gives_text rfl hv (((s4.trans s5).trans s6) _ _ e2') (errl_same r2' ((s4.trans s5).trans s6)) (hn3.same ((s4.trans s5).trans s6))) fun H5 s5 => ?_
  have s35 := s4.trans s5
  have s05 := s03.trans s35
  have e1'' := s35 _ _ e1'
  have e2'' := s35 _ _ e2'
  have r1'' := errl_same r1' s35
  have r2'' := errl_same r2' s35
  rcases alt with ⟨t, kt, ty⟩ | ⟨a, xs, rfl, ea, xs5, h0a, sh⟩
  · refine ⟨v, rfl, v, .ty "list", t, .type "list", false, rfl, ClsV.ty _, ty _ s05, kt, false, rfl, iteF ?_⟩
    exact k _ _ _ _ _ (hK.trans s05.keep)
  · have ea5 := s05 _ _ ea
    refine ⟨.ref a, rfl, .ref a, .ty "list", .type "list", .type "list", true, rfl, ClsV.ty _, .base (.lst ea5), kit_ty (by decide +kernel), true, rfl, iteT ?_⟩
    refine ⟨.ref a, rfl, .inl ⟨rfl, _, SqL.of ea5⟩, a, xs, .str "later", rfl, rfl, ea5, Nat.lt_of_lt_of_le (by omega : xs.length < 100) (sz 100 (Nat.le_refl _)), ?_⟩
    have l1 : es1.length = 33 := by
      rw [← Paired.length r1]
      rfl
    have l2 : es2.length = 33 := by
      rw [← Paired.length r2]
      rfl
    have f1 := lst_upd (ys := xs ++ [.str "later"]) e1'' l1 ea5 xs5
    have f2 := lst_upd (ys := xs ++ [.str "later"]) e2'' l2 ea5 xs5
    have g1 := errl_upd (ys := xs ++ [.str "later"]) r1'' ea5
    have g2 := errl_upd (ys := xs ++ [.str "later"]) r2'' ea5
    obtain ⟨n', hn'⟩ := sh (upd H5 a (.lst (xs ++ [.str "later"]))) upd_same fun b o nb hb => by
      rw [upd_ne nb]
      exact s05 _ _ hb
    refine if_right (gives_var rfl) (fun v H6 s6 hv => gives_show rfl hv (s6 _ _ f1) (errl_same g1 s6) (hn'.same s6)) (fun H6 _ => gives_var rfl)
      (fun H6 v H7 s6 s7 hv => gives_show rfl hv ((s6.trans s7) _ _ f2) (errl_same g2 (s6.trans s7)) (hn'.same (s6.trans s7))) fun H6 s6 => ?_
    refine k _ _ _ _ _ fun b o nb hb => s6 _ _ ?_
    rw [upd_ne (fun q => by rw [q, h0a] at hb; cases hb)]
    exact s05 _ _ (hK _ _ nb hb)
theorem turn_ok {H : Hp} {D : Ends} {p : Addr} {v0 y2 y3 y4 y5 y6 y7 y8 y9 y10 : Option V} (hP : Prs H p 0)
    (k : ∀ (z2 z3 z4 z5 z6 z7 z8 : Option V) H', Keep p H H' → D.nx [v0, some (.ref p), z2, z3, z4, z5, z6, z7, z8, y9, y10] H') :
    tTurn K C D [v0, some (.ref p), y2, y3, y4, y5, y6, y7, y8, y9, y10] H := by
  -- the word
  refine ⟨.ref p, rfl, p, 0, rfl, hP, by decide, fun x H1 x1 x8 xl k1 P1 => ?_⟩
  obtain ⟨q0, q, qt, qi, ep, _, hq0, hq1, _, _⟩ := P1
  -- the plain things
  refine ⟨.str x, rfl, .ref p, rfl, p, _, 1, .int q, rfl, rfl, SqL.of ep, atI_nat (j := 1) rfl, q, rfl, ?_⟩
  refine ⟨sz 2 (by decide), fun t1 n1 => ⟨sz 3 (by decide), fun t2 n2 => ?_⟩⟩
  refine ⟨.str x, rfl, .str x, rfl, sz 1 (by decide), fun l3 n3 m3 => ⟨sz 2 (by decide), fun t4 n4 => ?_⟩⟩
  refine disp_list (σ := [v0, some (.ref p), some (.str x), y3, y4, y5, y6, y7, y8, y9, y10]) (x := x) rfl fun d5 l6 H5 s5 nd5 nl6 md5 ml6 e6 e5 => ?_
  refine ⟨sz 9 (by decide), fun L7 n7 m7 => ?_⟩
  have S1 := same_upd (o := .tup [.str "left", .str "+"]) n1
  have S2 := same_upd (o := .tup [.str "level", .ref t1, .int 3]) n2
  have S3 := same_upd (o := .lst [.str x]) n3
  have S4 := same_upd (o := .tup [.str x, .ref l3]) n4
  have S7 := same_upd (o := .lst [.non, .bl true, .bl false, .int 0, .str x, .int (-q), .ref t2, .ref t4, .ref d5]) n7
  -- some more, and the choice
  refine ⟨.ref p, rfl, .ref L7, rfl, .str x, rfl, sz 1 (by decide), fun l8 n8 m8 => ⟨.str x, rfl, sz 1 (by decide), fun l9 n9 m9 => ?_⟩⟩
  have S8 := same_upd (o := .lst [.str x]) n8
  have S9 := same_upd (o := .lst [.str x]) n9
  refine disp_word (σ := [v0, some (.ref p), some (.str x), some (.ref L7), y4, y5, y6, y7, y8, y9, y10]) (x := x) (kx := "_") rfl fun d10 H10 s10 nd10 md10 e10 => ?_
  refine ⟨sz 2 (by decide), fun l11 n11 m11 => ⟨sz 2 (by decide), fun L12 n12 => ?_⟩⟩
  have S11 := same_upd (o := .lst [.ref l9, .ref d10]) n11
  have S12 := same_upd (o := .lst [.ref l8, .ref l11]) n12
  refine ⟨L7, L12, _, _, rfl, rfl, S12 _ _ (S11 _ _ (s10 _ _ (S9 _ _ (S8 _ _ upd_same)))), upd_same, sz 11 (by decide), fun L13 n13 => ?_⟩
  have cc := S1.trans (S2.trans (S3.trans (S4.trans (s5.trans (S7.trans (S8.trans (S9.trans (s10.trans (S11.trans S12)))))))))
  have S13 := same_upd (o := .lst ([.non, .bl true, .bl false, .int 0, .str x, .int (-q), .ref t2, .ref t4, .ref d5] ++ [.ref l8, .ref l11])) n13
  have c12 := S13
  have c11 := S12.trans c12
  have c10 := S11.trans c11
  have c9 := s10.trans c10
  have c8 := S9.trans c9
  have c7 := S8.trans c8
  have c5 := S7.trans c7
  have c4 := s5.trans c5
  have c3 := S4.trans c4
  have c2 := S3.trans c3
  have c1 := S2.trans c2
  have c0 := S1.trans c1
  have ep13 := c0 _ _ ep
  refine ⟨p, L13, _, 10, rfl, ⟨_, _, _, _, ep13, ‹_›, hq0, hq1, ‹_›, by omega⟩, by decide, SqL.of upd_same, ?_, by show 0 < 11; decide, by show 11 < 2 ^ 26; decide, fun v H14 hv k14 P14 => ?_⟩
  · exact (ne_of_none (cc _ _ ep) n13).symm
  have kk : Keep p H H14 := (k1.trans c0.keep).trans k14
  -- where the new things stand
  have np : ∀ {b : Addr} {G : Hp}, Same H1 G → G b = none → b ≠ p := fun sG nb e => by
    have z := sG _ _ ep
    rw [← e, nb] at z
    cases z
  have nh : ∀ {b : Addr} {G : Hp}, Same H1 G → G b = none → H b = none := fun sG nb => k1.none (np sG nb) (sG.free nb)
  have d1 := S1
  have d2 := d1.trans S2
  have d3 := d2.trans S3
  have d4 := d3.trans S4
  have d5' := d4.trans s5
  have d7 := d5'.trans S7
  have d8 := d7.trans S8
  have d9 := d8.trans S9
  have d10' := d9.trans s10
  have f1 := k14 t1 _ (np (Same.refl H1) n1) (c1 _ _ upd_same)
  have f2 := k14 t2 _ (np d1 n2) (c2 _ _ upd_same)
  have f3 := k14 l3 _ (np d2 n3) (c3 _ _ upd_same)
  have f4 := k14 t4 _ (np d3 n4) (c4 _ _ upd_same)
  have f6 := k14 l6 _ (np d4 nl6) (c5 _ _ e6)
  have f5 := k14 d5 _ (np d4 nd5) (c5 _ _ e5)
  have f8 := k14 l8 _ (np d7 n8) (c8 _ _ upd_same)
  have f9 := k14 l9 _ (np d8 n9) (c9 _ _ upd_same)
  have f10 := k14 d10 _ (np d9 nd10) (c10 _ _ e10)
  have f11 := k14 l11 _ (np d10' n11) (c11 _ _ upd_same)
  refine rest_ok (v := v) kk x8 xl ?_ fun z5 z6 z7 z8 H' kH => k _ _ _ _ _ _ _ H' kH
  simp only [List.cons_append, List.nil_append, List.mem_cons, List.not_mem_nil, or_false] at hv
  rcases hv with rfl | rfl | rfl | rfl | rfl | rfl | rfl | rfl | rfl | rfl | rfl
  · exact ⟨sh_non, .inl no_non⟩
  · exact ⟨sh_bl true, .inl no_bl⟩
  · exact ⟨sh_bl false, .inl no_bl⟩
  · exact ⟨sh_zero, .inl no_int⟩
  · exact ⟨sh_str x8 xl, .inl no_str⟩
  · exact ⟨sh_int hq0 hq1, .inl no_int⟩
  · exact ⟨sh_level f2 f1, .inl (no_tup f2)⟩
  · exact ⟨sh_pair x8 xl f4 f3 m3, .inl (no_tup f4)⟩
  · exact ⟨sh_dict x8 xl f5 f6 md5 ml6, .inl (no_dict f5)⟩
  · exact ⟨sh_list1 x8 xl f8 m8, .inr ⟨l8, _, rfl, f8, by simp, nh d7 n8, fun H' e _ => sh_list2 x8 xl e m8⟩⟩
  · refine ⟨sh_deep x8 xl f11 f9 f10 m11 md10 m9, .inr ⟨l11, _, rfl, f11, by simp, nh d10' n11, fun H' e kp => sh_deep2 x8 xl e (kp _ _ ?_ f9) (kp _ _ ?_ f10) m11 md10 m9⟩⟩
    · exact ne_of_none (s10 _ _ upd_same) n11
    · exact ne_of_none e10 n11
end
end K1
set_option Elab.async false
set_option linter.all false
set_option maxRecDepth 100000
set_option maxHeartbeats 8000000
/-! k01: the law, whole -/
namespace K1
open PySem PySem.Spec PyProof.Rows L2 EL LW GD
open PySem.EV (ErrC ErrI)
theorem boot_all : bootBuiltins (Str.ofString "all") = some (.builtin "all") := by decide +kernel
section
variable (K : PySem.W.Frag) (C : Nat → Addr) (T : Addr)
def tCode (te : TE) : TE := tCall (spCode K C) [] E0 (tCons te tNil)
def tIs (te : TE) : TE := tCall (spIsErr K T) [] E0 (tCons te tNil)
end
section
variable {P : Program} {w : World} {K : PySem.W.Frag} {mg : Str → Option Value} {base : Heap} {T : Addr} {C I : Nat → Addr}
def spLaw (K : PySem.W.Frag) : Sp := fun vs H Q _ => ∃ (a : Addr) (ns : List Int), vs = [.ref a] ∧ SqL K H a (ns.map V.int) ∧ ns.length ≤ 63 ∧ ∀ H', Q (.bl true) H'
theorem asks_top (A : Top K mg T C I) : ∀ j, j < 35 → (∃ bm', CatC K (C j) bm') ∧ (Value.ref T :: HandSPX.veTail).contains (.ref (C j)) = decide (T = C j) := fun j hj => by
  refine ⟨⟨_, A.cat j hj⟩, ?_⟩
  have nt := A.nt j hj
  have h1 : (Value.ref (C j) == Value.ref T) = false := by
    rw [beq_eq_false_iff_ne]
    exact fun z => nt (Value.ref.inj z)
  have h2 : (HandSPX.veTail).contains (Value.ref (C j)) = false := rfl
  rw [List.contains_cons, h1, h2, decide_eq_false fun z => nt z.symm]
  rfl
theorem ok_law {f : Addr} {fd : FuncData} (F : Fun K "law" "law" sLaw f fd) (A : Top K mg T C I) (L : Calls K mg P w base T C) : FnG P w K mg base 4 f fd ["_law_script"] (spLaw K) := by
  refine Fun.okG F scLaw (fun vs H Q E h => ?_) (fun cdv Ar outer s H vs Q E gd hr h => ?_)
  · obtain ⟨a, ns, rfl, _⟩ := h
    rfl
  · obtain ⟨a, ns, rfl, hS, hl, q⟩ := h
    have nd := scLaw.nd
    have hr2 := hr.mono (by decide : 2 ≤ 3)
    have hr1 := hr.mono (by decide : 1 ≤ 3)
    refine ⟨_, pss_cons (ps_for PassesOwn.never rfl (pi_list (pe_call L.GP hr2 (by rfl) L.gP L.kP L.bP .nil pass0 (pa_cons (pv 0) (pa_cons pe_int pa_nil)))) (pg_name (i := 1) nd rfl (.inl rfl)) (body_turn L gd hr))
      (pss_cons (ps_if (pt_not (pt_val (pe_callG L.GR gd hr2 (by rfl) L.gR L.kR L.bR (pa_cons (pe_call0 L.GB hr (by rfl) L.gB L.kB L.bB .nil pass0) (pa_cons pe_str pa_nil))))) (pss_one (ps_ret pe_bl)) pss_nil)
      (pss_cons (ps_set (i := 9) nd rfl (.inl rfl) (pe_lst (pa_cons (pe_bareErr (A.ex 33 (by decide) (by decide)) (A.kp 33 (by decide)) (A.m 33 (by decide))) (pa_cons (pe_bareErr (A.ex 34 (by decide) (by decide)) (A.kp 34 (by decide)) (A.m 34 (by decide))) pa_nil))))
      (pss_cons (ps_if (pt_cmpR (op_neD hr.units)
          (pe_lc (own := [("_law_error", 10)]) (g := gName 10) (tt := tYes) rfl nd (pi_list (pv 9)) (blkOk_by (own := [("_law_error", 10)]) (N := nL) (sc := defScope sLaw) (by decide +kernel)) (fun _ _ _ _ _ => pg_name (i := 10) nd rfl (Or.inl rfl)) (fun _ _ _ _ _ => pts_nil)
            (fun _ _ _ _ _ => pe_call L.GD hr1 (by rfl) L.gD L.kD L.bD .nil pass0 (pa_cons (pv 10) pa_nil)))
          (pe_lst (pa_cons (pe_lst (pa_cons pe_int pa_nil)) (pa_cons (pe_lst (pa_cons pe_int pa_nil)) pa_nil))) (nomark _)) (pss_one (ps_ret pe_bl)) pss_nil)
      (pss_cons (ps_expr (pe_bm PySem.F.plainAttrs_list PySem.F.slot_list_append PySem.F.type_list_append mt_append (pv 9) (pa_cons (pe_bareErr A.tex A.tk A.tm) pa_nil)))
      (pss_one (ps_ret (pe_and (pe_callB (cr_all rfl) (by rfl) L.mal boot_all (pa_cons
          (pe_lc (own := [("_law_error", 10)]) (g := gName 10) (tt := tYes) rfl nd (pi_list (pv 9)) (blkOk_by (own := [("_law_error", 10)]) (N := nL) (sc := defScope sLaw) (by decide +kernel)) (fun _ _ _ _ _ => pg_name (i := 10) nd rfl (Or.inl rfl)) (fun _ _ _ _ _ => pts_nil)
            (fun _ _ _ _ _ => pe_call L.GI hr1 (by rfl) L.gI L.kI L.bI .nil pass0 (pa_cons (pv 10) pa_nil))) pa_nil))
        (pe_one (pe_cmpR (op_eqD hr.units) (pe_call L.GD hr1 (by rfl) L.gD L.kD L.bD .nil pass0 (pa_cons (pe_ix ix_list (pv 9) pe_int (fun _ _ => rfl)) pa_nil)) (pe_lst pa_nil) (nomark _)))))))))), ?_⟩
    have big : (60 : Nat) < sizeLine := Nat.lt_of_lt_of_le (by omega : 60 < 100) (sz 100 (Nat.le_refl _))
    refine ⟨.ref a, rfl, a, ns, 3, rfl, hS, hl, by decide, fun H1 p as s1 np ep l60 ndp pas hP => ⟨p, rfl, ⟨_, SqL.of ep⟩, ?_⟩⟩
    refine for_list (xs := as.map V.ref) (fun i σ H' => (∃ y1 y2 y3 y4 y5 y6 y7 y8 : Option V, σ = [some (.ref a), y1, y2, y3, y4, y5, y6, y7, y8, none, none]) ∧ H' p = some (.lst (as.map V.ref)) ∧ ∀ (j : Nat) b, i ≤ j → as[j]? = some b → Prs H' b 0)
      ⟨⟨_, _, _, _, _, _, _, _, rfl⟩, ep, fun j b _ hb => (hP b (List.mem_of_getElem? hb)).1⟩ (fun i σ H' _ h => SqL.of h.2.1) ?_ ?_
    · rintro i x σ H2 hx ⟨⟨y1, y2, y3, y4, y5, y6, y7, y8, rfl⟩, ep2, hP2⟩
      rw [List.getElem?_map] at hx
      obtain ⟨b, hb, rfl⟩ := Option.map_eq_some_iff.mp hx
      refine turn_ok (H := H2) (p := b) (hP2 i b (Nat.le_refl _) hb) fun z2 z3 z4 z5 z6 z7 z8 H3 k3 => ⟨⟨_, _, _, _, _, _, _, _, rfl⟩, k3 _ _ (fun e => pas (e ▸ List.mem_of_getElem? hb)) ep2, fun j c hj hc => ?_⟩
      refine (hP2 j c (by omega) hc).keep k3 fun e => ?_
      obtain ⟨hi, gi⟩ := List.getElem?_eq_some_iff.mp hb
      obtain ⟨hj2, gj⟩ := List.getElem?_eq_some_iff.mp hc
      exact (List.pairwise_iff_getElem.mp ndp) i j hi hj2 (by omega) (by rw [gi, gj, e])
    · rintro σ H2 ⟨⟨y1, y2, y3, y4, y5, y6, y7, y8, rfl⟩, _, _⟩
      -- the bare ones
      refine ⟨rfl, fun l es H3 _ e3 r3 => ⟨l, "None", es, .non, rfl, e3, r3, sh_none, fun H4 _ => ⟨true, rfl, ?_⟩⟩⟩
      simp only [Bool.not_true, Bool.false_eq_true, ↓reduceIte]
      -- the two without a field
      refine fun f1 H5 s5 n5 x5 f2 H6 s6 n6 x6 => ⟨sz 2 (by decide), fun R nR => ?_⟩
      have sR := same_upd (o := .lst [V.ref f1, .ref f2]) nR
      have x5' := sR _ _ (s6 _ _ x5)
      have x6' := sR _ _ x6
      have hd0 : ∀ H' : Hp, HasD H' none := fun H' dx z => nomatch z
      have item : ∀ {i : Nat} {x : V} {H' : Hp}, Same (upd H6 R (.lst [V.ref f1, .ref f2])) H' → [V.ref f1, V.ref f2][i]? = some x → ∃ e, x = .ref e ∧ i < 2 ∧ H' e = some (exo e (C (33 + i)) none) := by
        intro i x H' s hx
        match i, hx with
        | 0, hx =>
          obtain rfl : V.ref f1 = x := by simpa using hx
          exact ⟨f1, rfl, by decide, s _ _ x5'⟩
        | 1, hx =>
          obtain rfl : V.ref f2 = x := by simpa using hx
          exact ⟨f2, rfl, by decide, s _ _ x6'⟩
        | i + 2, hx => simp at hx
      refine ⟨.ref R, rfl, R, rfl, ⟨_, SqL.of upd_same⟩, fun D nD => ?_⟩
      refine lc_list (K := K) (a := R) (xs := [V.ref f1, .ref f2]) (fun i H' => ∃ ls : List Addr, ls.length = i ∧ Same (upd H6 R (.lst [V.ref f1, .ref f2])) H' ∧ H' D = some (.lst (ls.map V.ref)) ∧ ∀ (t : Nat) l, ls[t]? = some l → H' l = some (.lst [.int ((33 + t : Nat) : Int)]))
        ⟨[], rfl, same_upd nD, upd_same, fun t l e => by simp at e⟩ (fun i H' _ ⟨_, _, s7, _⟩ => SqL.of (s7 _ _ upd_same)) ?_ ?_
      · rintro i x H7 hx ⟨ls, el, s7, eD, hls⟩
        obtain ⟨e, rfl, hi, he⟩ := item s7 hx
        refine ⟨rfl, lc_turn ?_⟩
        refine ⟨.ref e, rfl, e, C (33 + i), none, _, rfl, he, hd0 _, A.cat (33 + i) (by omega), asks_of A (by omega), fun l H8 s8 nl el8 => ?_⟩
        rw [hits_one (by omega : 33 + i < 35) A.inj] at el8
        have lD : D ≠ l := ne_of_none eD nl
        refine ⟨ls.map V.ref, s8 _ _ eD, ?_, ls ++ [l], ?_, fun b o hb => ?_, ?_, fun t l' ht => ?_⟩
        · rw [List.length_map]
          omega
        · rw [List.length_append, el]
          rfl
        · rw [upd_ne (ne_of_none hb nD)]
          exact s8 _ _ (s7 _ _ hb)
        · rw [upd_same, List.map_append]
          rfl
        · rcases Nat.lt_or_ge t ls.length with h1 | h1
          · rw [List.getElem?_append_left h1] at ht
            have z := hls t l' ht
            rw [upd_ne (row_ne eD z)]
            exact s8 _ _ z
          · rw [List.getElem?_append_right h1] at ht
            have h2 : t - ls.length = 0 := by
              have := List.getElem?_eq_some_iff.mp ht
              simp at this
              omega
            rw [h2] at ht
            have e3 : l = l' := by simpa using ht
            subst e3
            rw [upd_ne lD.symm, el8]
            have : t = i := by omega
            subst this
            rfl
      · rintro H7 ⟨ls, el, s7, eD, hls⟩
        have el2 : ls.length = 2 := el
        refine ⟨sz 1 (by decide), fun l1 n1 => ⟨sz 1 (by decide), fun l2 n2 => ⟨sz 2 (by decide), fun M nM => ?_⟩⟩⟩
        have S1 := same_upd (o := .lst [V.int 33]) n1
        have S2 := same_upd (o := .lst [V.int 34]) n2
        have SM := same_upd (o := .lst [V.ref l1, .ref l2]) nM
        have S := (S1.trans S2).trans SM
        have d1 : DpAll K (upd (upd (upd H7 l1 (.lst [V.int 33])) l2 (.lst [V.int 34])) M (.lst [V.ref l1, .ref l2])) (ls.map V.ref) (rows 33 2) := by
          rw [← el2]
          exact dp_rows fun t l e => S _ _ (hls t l e)
        have d2 : DpAll K (upd (upd (upd H7 l1 (.lst [V.int 33])) l2 (.lst [V.int 34])) M (.lst [V.ref l1, .ref l2])) [V.ref l1, .ref l2] (rows 33 2) :=
          .cons (.lst (SqL.of (SM _ _ (S2 _ _ upd_same))) (.cons (.int _) .nil)) (.cons (.lst (SqL.of (SM _ _ upd_same)) (.cons (.int _) .nil)) .nil)
        refine ⟨.list (rows 33 2), .list (rows 33 2), .lst (SqL.of (S _ _ eD)) d1, .lst (SqL.of upd_same) d2, by decide +kernel, by decide +kernel, _, rfl, ?_⟩
        rw [show PyData.eqv (.list (rows 33 2)) (.list (rows 33 2)) = true by decide +kernel]
        simp only [Bool.not_true, Bool.false_eq_true, ↓reduceIte]
        have s8 := s7.trans S
        have eR := s8 _ _ upd_same
        -- the base
        refine ⟨.ref R, rfl, .inl ⟨rfl, _, SqL.of eR⟩, fun f3 H9 s9 n9 x9 => ⟨R, _, .ref f3, rfl, rfl, s9 _ _ eR, Nat.lt_trans (by decide : 2 < 60) big, ?_⟩⟩
        have R3 : f3 ≠ R := (ne_of_none eR n9).symm
        have R1 : f1 ≠ R := ne_of_none (s6 _ _ x5) nR
        have R2 : f2 ≠ R := ne_of_none x6 nR
        have w1 : upd H9 R (.lst ([V.ref f1, .ref f2] ++ [.ref f3])) f1 = some (exo f1 (C 33) none) := by
          rw [upd_ne R1]
          exact s9 _ _ (s8 _ _ x5')
        have w2 : upd H9 R (.lst ([V.ref f1, .ref f2] ++ [.ref f3])) f2 = some (exo f2 (C 34) none) := by
          rw [upd_ne R2]
          exact s9 _ _ (s8 _ _ x6')
        have w3 : upd H9 R (.lst ([V.ref f1, .ref f2] ++ [.ref f3])) f3 = some (exo f3 T none) := by
          rw [upd_ne R3]
          exact x9
        have wR : upd H9 R (.lst ([V.ref f1, .ref f2] ++ [.ref f3])) R = some (.lst [V.ref f1, .ref f2, .ref f3]) := upd_same
        generalize upd H9 R (.lst ([V.ref f1, .ref f2] ++ [.ref f3])) = G at w1 w2 w3 wR ⊢
        refine ⟨.ref R, rfl, R, rfl, ⟨_, SqL.of wR⟩, fun D2 nD2 => ?_⟩
        refine lc_list (K := K) (a := R) (xs := [V.ref f1, .ref f2, .ref f3]) (fun i H' => Same G H' ∧ H' D2 = some (.lst ((List.replicate i true).map V.bl))) ⟨same_upd nD2, upd_same⟩ (fun i H' _ h => SqL.of (h.1 _ _ wR)) ?_ ?_
        · rintro i x H10 hx ⟨s10, eD2⟩
          have it3 : ∃ (e D' : Addr) (bm : List Value), x = .ref e ∧ H10 e = some (exo e D' none) ∧ CatC K D' bm ∧ (Value.ref D' :: bm).contains (.ref T) = true ∧ i < 3 := by
            match i, hx with
            | 0, hx =>
              obtain rfl : V.ref f1 = x := by simpa using hx
              exact ⟨f1, _, _, rfl, s10 _ _ w1, A.cat 33 (by decide), by rw [List.contains_cons, List.contains_cons, beq_self_eq_true, Bool.true_or, Bool.or_true], by decide⟩
            | 1, hx =>
              obtain rfl : V.ref f2 = x := by simpa using hx
              exact ⟨f2, _, _, rfl, s10 _ _ w2, A.cat 34 (by decide), by rw [List.contains_cons, List.contains_cons, beq_self_eq_true, Bool.true_or, Bool.or_true], by decide⟩
            | 2, hx =>
              obtain rfl : V.ref f3 = x := by simpa using hx
              exact ⟨f3, _, _, rfl, s10 _ _ w3, A.tc, by rw [List.contains_cons, beq_self_eq_true, Bool.true_or], by decide⟩
            | i + 3, hx => simp at hx
          obtain ⟨e, D', bm, rfl, he, zc, hc, hi⟩ := it3
          refine ⟨rfl, lc_turn ?_⟩
          refine ⟨.ref e, rfl, e, D', none, bm, rfl, he, hd0 _, zc, hc, (List.replicate i true).map V.bl, eD2, ?_, fun b o hb => ?_, ?_⟩
          · rw [List.length_map, List.length_replicate]
            omega
          · rw [upd_ne (ne_of_none hb nD2)]
            exact s10 _ _ hb
          · rw [upd_same, List.replicate_succ', List.map_append]
            rfl
        · rintro H10 ⟨s10, eD2⟩
          refine ⟨D2, List.replicate 3 true, rfl, SqL.of eD2, true, rfl, iteT ?_⟩
          refine ⟨.ref R, rfl, R, _, 2, .ref f3, rfl, rfl, SqL.of (s10 _ _ wR), atI_nat (j := 2) rfl, f3, T, none, _, rfl, s10 _ _ w3, hd0 _, A.tc, asks_top A, fun l H11 s11 nl el11 => ?_⟩
          rw [hits_none 35 fun i hi e => A.nt i hi e.symm] at el11
          refine ⟨Nat.zero_le _, fun M2 nM2 => ?_⟩
          refine ⟨.list [], .list [], .lst (SqL.of ((same_upd nM2) _ _ el11)) .nil, .lst (SqL.of upd_same) .nil, by decide +kernel, by decide +kernel, ?_⟩
          rw [show PyData.eqv (.list []) (.list []) = true by decide +kernel]
          exact q _
end
end K1
set_option Elab.async false
set_option linter.all false
set_option maxRecDepth 100000
set_option maxHeartbeats 8000000
/-! k01: from the program's top to the law -/
namespace K1
open PySem PySem.Spec PyProof.Rows L2 EL LW GD
open PySem.EV (ErrC ErrI)
/-! ### a call of the law's def where nothing is being shown -/
section
variable {P : Program} {w : World} {K : PySem.W.Frag} {mg mb : Str → Option Value} {k : Nat} {fa a : Addr} {fd : FuncData} {x : Str} {sp : Sp} {s : Shared} {vs : List Value}
/-- what the law's call must come to -/
abbrev Told (s : Shared) : Result → Shared → Prop := fun r s' => r = .ok (.ret (.bool true)) ∧ OldK s.heap s'.heap ∧ s'.os = s.os ∧ AllBare s'.gens
/-- the world as the top left it, seen over a base in which what H tracks is hidden -/
structure Stage (K : PySem.W.Frag) (mg : Str → Option Value) (s : Shared) : Prop where
  kin : K.In s.heap
  ns : s.heap.Ns mainGlobals mg
  bs : ∃ mb, s.heap.Ns builtinsNs mb ∧ ∀ x : Str, x ≠ "__name__" → mb x = bootBuiltins x
  lim : s.heap.NoLimit
  gens : s.gens = #[]
theorem told_at (S : Stage K mg s) (ha : s.heap.get? a = some { cls := .type "list", data := .seq vs.toArray }) (hr : Room k callerA) (hg : callerA.guards = some [])
    (F : ∀ base : Heap, K.In base → base.Ns mainGlobals mg → FnG P w K mg base k fa fd [x] sp) (hbind : ∀ (s : Shared) (u : Value), BindsTo s fd ⟨[u], []⟩ [(x, u)])
    {H : Hp} (one : ∀ b, b ≠ a → H b = none) (frozen : H a = none ∨ ∃ o xs, H a = some (.frz o (.lst xs))) (hok : HOk P w H s.heap) (hK : H a ≠ none → K.lookup a = none)
    (hsp : sp [.ref a] H (fun v _ => v = .bl true) fun _ _ _ => False) : codeAny (model P w) callerA (.call (.ref fa) ⟨[.ref a], []⟩) (Told s) s := by
  have out : ∀ {b : Addr}, H b ≠ none → b = a := fun {b} h => by
    rcases Nat.decEq b a with n | e
    · exact absurd (one b n) h
    · exact e
  have seen : ∀ {b : Addr} {o : Obj}, s.heap.get? b = some o → H b = none → (hidT s.heap H).get? b = some o := fun e n => hidT_get e n
  have dictsSeen : ∀ {b : Addr} {m : Str → Option Value}, s.heap.Ns b m → (hidT s.heap H).Ns b m := by
    rintro b m ⟨o, es, ep, e, d, r⟩
    refine ⟨o, es, ep, seen e ?_, d, r⟩
    cases q : H b with
    | none => rfl
    | some u =>
      cases out (b := b) (by rw [q]; simp)
      rw [ha] at e
      cases e
      cases (show Data.seq vs.toArray _ = Data.dict es ep from d)
  have kin : K.In (hidT s.heap H) := by
    intro b o e
    refine seen (S.kin b o e) ?_
    cases q : H b with
    | none => rfl
    | some u =>
      cases out (b := b) (by rw [q]; simp)
      rw [hK (by rw [q]; simp)] at e
      cases e
  obtain ⟨mb, b1, b2⟩ := S.bs
  obtain ⟨mc, l1, l2⟩ := S.lim
  have e0 : Env0 P w K mg (hidT s.heap H) callerA [] s H :=
    ⟨rfl, ⟨kin, dictsSeen S.ns, ⟨mb, dictsSeen b1, b2⟩, ⟨mc, dictsSeen l1, l2⟩⟩, fun b o e => of_hidT e, Nat.le_of_eq (hidT_size _ _), trivial, fun b hb => absurd (show b ∈ ([] : List Addr) from hb) (by simp), hok, .of_eq S.gens⟩
  refine codeAny_mono ((F _ kin (dictsSeen S.ns)).run callerA [] s H ⟨[.ref a], []⟩ [.ref a] [.ref a] _ _ hg hr e0 (hbind s (.ref a)) (.cons rfl .nil) hsp) fun r s' h => ?_
  match r, h with
  | .error e, h => exact False.elim h
  | .ok .next, h => exact False.elim h
  | .ok .brk, h => exact False.elim h
  | .ok .cont, h => exact False.elim h
  | .ok (.ret u), ⟨v, H', os, bare, un, hok', r', q⟩ =>
    obtain rfl : v = .bl true := q
    obtain rfl : u = Value.bool true := r'
    refine ⟨rfl, OldK.of_keep fun b o e => ?_, os, bare⟩
    cases q : H b with
    | none => exact un.keep b o e q (by intro z; exact absurd (show b ∈ ([] : List Addr) from z) (by simp)) (by simp)
    | some u =>
      cases out (b := b) (by rw [q]; simp)
      rcases frozen with z | ⟨ob, xs, z⟩
      · rw [q] at z
        cases z
      · obtain ⟨e1, _⟩ := hok _ _ z
        obtain ⟨e2, _⟩ := hok' _ _ (un.frzs _ ob _ z)
        rw [e] at e1
        cases e1
        exact e2
theorem told {ns : List Int} (S : Stage K mg s) (ha : s.heap.get? a = some { cls := .type "list", data := .seq vs.toArray }) (hi : IntsAre vs ns) (hl : ns.length ≤ sizeLine) (hr : Room k callerA) (hg : callerA.guards = some [])
    (F : ∀ base : Heap, K.In base → base.Ns mainGlobals mg → FnG P w K mg base k fa fd [x] sp) (hbind : ∀ (s : Shared) (u : Value), BindsTo s fd ⟨[u], []⟩ [(x, u)])
    (hsp : ∀ H : Hp, SqL K H a (ns.map V.int) → sp [.ref a] H (fun v _ => v = .bl true) fun _ _ _ => False) : codeAny (model P w) callerA (.call (.ref fa) ⟨[.ref a], []⟩) (Told s) s := by
  have rv := vals_ints hi
  have lz : vs.length ≤ sizeLine := by rw [hi.length]; exact hl
  cases hk : K.lookup a with
  | some o =>
    have e := S.kin a o hk
    rw [ha] at e
    cases e
    refine told_at S ha hr hg F hbind (H := fun _ => none) (fun _ _ => rfl) (.inl rfl) (fun b u z => nomatch (show (none : Option HO) = some u from z)) (fun z => absurd rfl z) (hsp _ (.inr ⟨_, vs.toArray, _, hk, rfl, rfl, rfl, ?_, ?_⟩))
    · rw [List.size_toArray]
      exact lz
    · simpa using rv
  | none =>
    have g : upd (fun _ => none) a (HO.frz { cls := .type "list", data := .seq vs.toArray } (.lst (ns.map V.int))) a = some (.frz { cls := .type "list", data := .seq vs.toArray } (.lst (ns.map V.int))) := upd_same
    refine told_at S ha hr hg F hbind (H := upd (fun _ => none) a (.frz { cls := .type "list", data := .seq vs.toArray } (.lst (ns.map V.int)))) (fun b n => by rw [upd_ne n]) (.inr ⟨_, _, g⟩) (fun b u z => ?_) (fun _ => hk) (hsp _ (.inl (.inr ⟨_, g⟩)))
    by_cases hb : b = a
    · subst hb
      rw [g] at z
      cases z
      exact ⟨ha, by rw [List.length_map]; exact hl, vs, _, rv, ha⟩
    · rw [upd_ne hb] at z
      cases z
end
/-- the goal that the head leaves -/
theorem walk {l : PySem.W.OpenLaw} {k : Nat} {q : Program} {loose : List Str} {XP : (Str → Option Value) → Heap → Prop} {YP : World → Heap → Prop} {d : DefRec} {K : Params → PySem.W.Frag} (hn : l.most = some 63) (hdf : d.params.defaults = []) (hr : Room k callerA)
    (hY : ∀ (w : World) (h : Heap), YP w h → (K w.params).In h)
    (F : ∀ (w : World) (mg : Str → Option Value) (fa : Addr) (h : Heap), (K w.params).In h → h.Ns mainGlobals mg → mg d.name = some (.ref fa) →
      ∃ fd : FuncData, (∀ (s : Shared) (u : Value), BindsTo s fd ⟨[u], []⟩ [("_law_script", u)]) ∧ ∀ base : Heap, (K w.params).In base → base.Ns mainGlobals mg → FnG l.prog w (K w.params) mg base k fa fd ["_law_script"] (spLaw (K w.params))) :
    PySem.W.WalkO q loose XP YP l.row.toRowW d [] (fun f vs => PySem.call f vs) := by
  refine Att.attach_call hn hdf fun w s₀ s₁ mg mb fa o pm cd doc a vs ns G Y _ _ _ hmg hobj hints hlen hg => ?_
  have KX := hY w _ Y
  obtain ⟨fd, hb, hF⟩ := F w mg fa _ KX G.T.g hmg
  exact told ⟨KX, G.T.g, ⟨mb, G.T.b, G.T.builtins⟩, G.T.nolimit, hg⟩ hobj hints (Nat.le_trans hlen (by decide)) hr rfl hF hb fun H hS => ⟨a, ns, rfl, hS, hlen, fun _ => rfl⟩
end K1
set_option Elab.async false
set_option linter.all false
set_option maxRecDepth 100000
set_option maxHeartbeats 8000000
/-! k01: what the top has left, and the law -/
namespace K1
open PySem PySem.Spec PyProof.Rows L2 EL LW GD
open PySem.EV (ErrC ErrI iA iB iS)
open PySem.W (nsIn findIn keepIn typeIn codeIn fnOf excIn)
/-! ### classes of the top -/
structure Cls (K : PySem.W.Frag) (T : Addr) (x : Str) (C I : Addr) : Prop where
  at_ : nsIn K mainGlobals x = some (some (.ref C))
  z : ErrC K C T
  i : ErrI K C I
structure Bar (K : PySem.W.Frag) (tail : List Value) (x : Str) (C : Addr) : Prop where
  at_ : nsIn K mainGlobals x = some (some (.ref C))
  cat : CatC K C tail
  ex : excIn K C HandSPX.veTail "ValueError.__new__" = true
  kp : keepIn K (.ref C) = true
section
variable {K : PySem.W.Frag} {T C I : Addr} {x : Str}
theorem cls_mk {nm q : Str} {N : Addr} {bs : List Value} {sn : List Str} {sub : List Value} {ab : Bool} {col : Option Bool} {dd : Option Addr} {k0 k1 k2 k3 k5 : Option Value}
    {oc doc pm kV cdv ct : Value} {od an : Option Addr} {osl : Array (Option Value)} {qn : Str} {D : Addr} {oD : Obj} {nD : Nat} {p1 p2 p3 q1 q2 q3 q4 : Pos}
    (a : nsIn K mainGlobals x = some (some (.ref C))) (l : K.lookup C = some (excClassObj nm q C N bs (.ref T :: HandSPX.veTail) true sn sub ab col dd k0 k1 k2 k3 k5 "ValueError.__new__"))
    (sa : findIn K (.ref C) "__setattr__" = some (some (.builtin "object.__setattr__"))) (ga : findIn K (.ref C) "__getattribute__" = some (some (.builtin "BaseException.__getattribute__")))
    (gg : findIn K (.ref C) "__getattr__" = some none) (nv : findIn K (.ref C) "value" = some none) (ca : findIn K (.ref C) "__class__" = some (some (.builtin "object.__class__"))) (kC : keepIn K (.ref C) = true)
    (iC : findIn K (.ref C) "__init__" = some (some (.ref I))) (tC : typeIn K (.ref I) = some (.type "function"))
    (lI : K.lookup I = some ⟨oc, od, .func (fnOf "__init__" qn (iA p1 p2 p3) (iB q1 q2 q3 q4) iS (.ref D) kV doc pm an cdv ct), osl⟩) (cI : codeIn K cdv qn = true) (lD : K.lookup D = some oD) (dD : oD.data = .seq #[.none] nD) : Cls K T x C I :=
  ⟨a, ⟨⟨_, _, _, _, _, _, _, _, _, _, _, _, _, _, l⟩, sa, ga, gg, nv, ca, kC⟩, iC, tC, _, _, _, _, _, _, _, _, _, _, _, _, _, _, _, _, _, _, _, _, lI, cI, lD, dD⟩
theorem bar_mk {tail : List Value} {nm q : Str} {N : Addr} {bs : List Value} {sn : List Str} {sub : List Value} {ab : Bool} {col : Option Bool} {dd : Option Addr} {k0 k1 k2 k3 k5 : Option Value}
    (a : nsIn K mainGlobals x = some (some (.ref C))) (l : K.lookup C = some (excClassObj nm q C N bs tail true sn sub ab col dd k0 k1 k2 k3 k5 "ValueError.__new__"))
    (ga : findIn K (.ref C) "__getattribute__" = some (some (.builtin "BaseException.__getattribute__"))) (gg : findIn K (.ref C) "__getattr__" = some none) (ca : findIn K (.ref C) "__class__" = some (some (.builtin "object.__class__")))
    (ex : excIn K C HandSPX.veTail "ValueError.__new__" = true) (kp : keepIn K (.ref C) = true) (bm : HandSPX.refsVE tail = true) : Bar K tail x C :=
  ⟨a, ⟨⟨_, _, _, _, _, _, _, _, _, _, _, _, _, _, l⟩, ga, gg, ca, bm⟩, ex, kp⟩
end
/-- the classes, one behind the other -/
inductive AllC (K : PySem.W.Frag) (T : Addr) : List Str → List Addr → List Addr → Prop
  | nil : AllC K T [] [] []
  | cons {x : Str} {C I : Addr} {xs : List Str} {cs is : List Addr} : Cls K T x C I → AllC K T xs cs is → AllC K T (x :: xs) (C :: cs) (I :: is)
theorem AllC.get {K : PySem.W.Frag} {T : Addr} : ∀ {xs : List Str} {cs is : List Addr}, AllC K T xs cs is → ∀ i, i < xs.length → Cls K T (xs.getD i "") (cs.getD i 0) (is.getD i 0)
  | _, _, _, .cons h _, 0, _ => h
  | _, _, _, .cons _ t, i + 1, hi => t.get i (Nat.lt_of_succ_lt_succ hi)
def cOf (cs : List Addr) (c33 c34 : Addr) (i : Nat) : Addr := if i < 33 then cs.getD i 0 else if i = 33 then c33 else c34
def nm33 : List Str := [Str.ofString "InvalidToken", Str.ofString "InvalidText", Str.ofString "InvalidForm", Str.ofString "InvalidForms", Str.ofString "InvalidWords", Str.ofString "Unsound", Str.ofString "InvalidEdition", Str.ofString "InvalidEditions", Str.ofString "InvalidChange", Str.ofString "InvalidChanges", Str.ofString "InvalidPattern", Str.ofString "Fault", Str.ofString "InvalidKey", Str.ofString "InvalidTree", Str.ofString "UnknownForm", Str.ofString "InvalidPath", Str.ofString "InvalidSpot", Str.ofString "InvalidMarks", Str.ofString "InvalidWay", Str.ofString "InvalidTable", Str.ofString "InvalidWorkshop", Str.ofString "InvalidLog", Str.ofString "InvalidScript", Str.ofString "InvalidCount", Str.ofString "Refused", Str.ofString "InvalidEdit", Str.ofString "UnknownPlace", Str.ofString "InvalidReason", Str.ofString "InvalidStack", Str.ofString "InvalidRow", Str.ofString "InvalidLot", Str.ofString "InvalidSurroundings", Str.ofString "InvalidLook"]
theorem nm_low : ∀ i, i < 33 → nm.getD i "" = nm33.getD i "" := by decide +kernel
theorem top_of {K : PySem.W.Frag} {h : Heap} {mg : Str → Option Value} {T c33 c34 : Addr} {cs is : List Addr} (X : K.In h) (G : h.Ns mainGlobals mg) (hT : Bar K HandSPX.veTail "TongueError" T) (hc : AllC K T nm33 cs is)
    (h33 : Bar K (.ref T :: HandSPX.veTail) "NothingToUndo" c33) (h34 : Bar K (.ref T :: HandSPX.veTail) "NothingToRedo" c34)
    (inj : ∀ i, i < 35 → ∀ j, j < 35 → cOf cs c33 c34 i = cOf cs c33 c34 j → i = j) (nt : ∀ i, i < 35 → cOf cs c33 c34 i ≠ T) (dsc : DscC K) : Top K mg T (cOf cs c33 c34) (fun i => is.getD i 0) := by
  have low : ∀ i, i < 33 → Cls K T (nm.getD i "") (cOf cs c33 c34 i) (is.getD i 0) := fun i hi => by
    have := hc.get i (show i < nm33.length from hi)
    rw [nm_low i hi, show cOf cs c33 c34 i = cs.getD i 0 from if_pos hi]
    exact this
  have e33 : cOf cs c33 c34 33 = c33 := rfl
  have e34 : cOf cs c33 c34 34 = c34 := rfl
  have split : ∀ i, i < 35 → i < 33 ∨ i = 33 ∨ i = 34 := fun i hi => by omega
  refine { m := fun i hi => ?_, z := fun i hi => (low i hi).z, j := fun i hi => (low i hi).i, cat := fun i hi => ?_, ex := fun i h1 h2 => ?_, kp := fun i hi => ?_, tm := PySem.W.mg_of X G hT.at_, tc := hT.cat, tex := hT.ex, tk := hT.kp, inj := fun i j hi hj e => inj i hi j hj e, nt := nt, dsc := dsc }
  · rcases split i hi with h | rfl | rfl
    · exact PySem.W.mg_of X G (low i h).at_
    · exact PySem.W.mg_of X G h33.at_
    · exact PySem.W.mg_of X G h34.at_
  · rcases split i hi with h | rfl | rfl
    · exact EL.ErrC.cat (low i h).z
    · exact h33.cat
    · exact h34.cat
  · rcases split i h2 with h | rfl | rfl
    · omega
    · exact h33.ex
    · exact h34.ex
  · rcases split i hi with h | rfl | rfl
    · exact (low i h).z.kC
    · exact h33.kp
    · exact h34.kp
/-! ### defs of the top -/
structure Fn (K : PySem.W.Frag) (x : Str) (st : Stmt) (f : Addr) (fd : FuncData) : Prop where
  at_ : nsIn K mainGlobals x = some (some (.ref f))
  F : Fun K x x st f fd
theorem fn_mk {K : PySem.W.Frag} {x : Str} {st : Stmt} {f : Addr} {oc : Value} {od an : Option Addr} {osl : Array (Option Value)} {kV doc pm cdv ct : Value} (a : nsIn K mainGlobals x = some (some (.ref f)))
    (l : K.lookup f = some ⟨oc, od, .func (fnOf x x (defArgs st) (defBody st) (defScope st) .none kV doc pm an cdv ct), osl⟩) (c : codeIn K cdv x = true) (k : keepIn K (.ref f) = true) : Fn K x st f (fnOf x x (defArgs st) (defBody st) (defScope st) .none kV doc pm an cdv ct) :=
  ⟨a, fun_mk l c k⟩

theorem all_mk {l : PySem.W.OpenLaw} {w : World} {K : PySem.W.Frag} {h : Heap} {mg : Str → Option Value} {fa T c33 c34 : Addr} {cs is : List Addr} (X : K.In h) (G : h.Ns mainGlobals mg) (hfa : mg "law" = some (.ref fa))
    (hT : Bar K HandSPX.veTail "TongueError" T) (hc : AllC K T nm33 cs is) (h33 : Bar K (.ref T :: HandSPX.veTail) "NothingToUndo" c33) (h34 : Bar K (.ref T :: HandSPX.veTail) "NothingToRedo" c34)
    (inj : ∀ i, i < 35 → ∀ j, j < 35 → cOf cs c33 c34 i = cOf cs c33 c34 j → i = j) (nt : ∀ i, i < 35 → cOf cs c33 c34 i ≠ T) (dsc : DscC K)
    {a0 : Addr} {d0 : FuncData} (f0 : Fn K "_law_purse" sPurse a0 d0)
    {a1 : Addr} {d1 : FuncData} (f1 : Fn K "_law_mixed" sMixed a1 d1)
    {a2 : Addr} {d2 : FuncData} (f2 : Fn K "_law_draw" sDraw a2 d2)
    {a3 : Addr} {d3 : FuncData} (f3 : Fn K "_law_purses" sPurses a3 d3)
    {a4 : Addr} {d4 : FuncData} (f4 : Fn K "_law_one_of" sOneOf a4 d4)
    {a5 : Addr} {d5 : FuncData} (f5 : Fn K "_law_word" sWord a5 d5)
    {a6 : Addr} {d6 : FuncData} (f6 : Fn K "_law_first" sFirst a6 d6)
    {a7 : Addr} {d7 : FuncData} (f7 : Fn K "_law_called" sCalled a7 d7)
    {a8 : Addr} {d8 : FuncData} (f8 : Fn K "_law_bare" sBare a8 d8)
    {a9 : Addr} {d9 : FuncData} (f9 : Fn K "_law_code" sCode a9 d9)
    {a10 : Addr} {d10 : FuncData} (f10 : Fn K "_law_is_error" sIsError a10 d10)
    {a11 : Addr} {d11 : FuncData} (f11 : Fn K "_law_right" sRight a11 d11)
    {a12 : Addr} {d12 : FuncData} (f12 : Fn K "law" sLaw a12 d12)
    (zsum : nsIn K mainGlobals "sum" = some none)
    (zint : nsIn K mainGlobals "int" = some none)
    (zmax : nsIn K mainGlobals "max" = some none)
    (zmin : nsIn K mainGlobals "min" = some none)
    (zlen : nsIn K mainGlobals "len" = some none)
    (zrange : nsIn K mainGlobals "range" = some none)
    (zisinstance : nsIn K mainGlobals "isinstance" = some none)
    (zrepr : nsIn K mainGlobals "repr" = some none)
    (zlist : nsIn K mainGlobals "list" = some none)
    (zall : nsIn K mainGlobals "all" = some none)
    (zValueError : nsIn K mainGlobals "ValueError" = some none)
    : ∃ fd : FuncData, (∀ (s : Shared) (u : Value), BindsTo s fd ⟨[u], []⟩ [("_law_script", u)]) ∧ ∀ base : Heap, K.In base → base.Ns mainGlobals mg → FnG l.prog w K mg base 4 fa fd ["_law_script"] (spLaw K) := by
  have e := hfa.symm.trans (PySem.W.mg_of X G f12.at_)
  cases e
  have A := top_of X G hT hc h33 h34 inj nt dsc
  have msum := PySem.W.mg_none_of X G zsum
  have mint := PySem.W.mg_none_of X G zint
  have mmax := PySem.W.mg_none_of X G zmax
  have mmin := PySem.W.mg_none_of X G zmin
  have mlen := PySem.W.mg_none_of X G zlen
  have mrange := PySem.W.mg_none_of X G zrange
  have misinstance := PySem.W.mg_none_of X G zisinstance
  have mrepr := PySem.W.mg_none_of X G zrepr
  have mlist := PySem.W.mg_none_of X G zlist
  have mall := PySem.W.mg_none_of X G zall
  have mValueError := PySem.W.mg_none_of X G zValueError
  have b0 := f0.F.binds (ps := ["_law_script", "_law_at"]) fun _ _ _ _ _ _ us hl => match us, hl with | [_, _], _ => rfl
  have g0 := PySem.W.mg_of X G f0.at_
  have b1 := f1.F.binds (ps := ["_law_seed", "_law_turn", "_law_at"]) fun _ _ _ _ _ _ us hl => match us, hl with | [_, _, _], _ => rfl
  have g1 := PySem.W.mg_of X G f1.at_
  have b2 := f2.F.binds (ps := ["_law_purse_here", "_law_many"]) fun _ _ _ _ _ _ us hl => match us, hl with | [_, _], _ => rfl
  have g2 := PySem.W.mg_of X G f2.at_
  have b3 := f3.F.binds (ps := ["_law_script", "_law_few"]) fun _ _ _ _ _ _ us hl => match us, hl with | [_, _], _ => rfl
  have g3 := PySem.W.mg_of X G f3.at_
  have b4 := f4.F.binds (ps := ["_law_purse_here", "_law_some"]) fun _ _ _ _ _ _ us hl => match us, hl with | [_, _], _ => rfl
  have g4 := PySem.W.mg_of X G f4.at_
  have b5 := f5.F.binds (ps := ["_law_purse_here"]) fun _ _ _ _ _ _ us hl => match us, hl with | [_], _ => rfl
  have g5 := PySem.W.mg_of X G f5.at_
  have b6 := f6.F.binds (ps := ["_law_thing"]) fun _ _ _ _ _ _ us hl => match us, hl with | [_], _ => rfl
  have g6 := PySem.W.mg_of X G f6.at_
  have b7 := f7.F.binds (ps := ["_law_thing"]) fun _ _ _ _ _ _ us hl => match us, hl with | [_], _ => rfl
  have g7 := PySem.W.mg_of X G f7.at_
  have b8 := f8.F.binds (ps := []) fun _ _ _ _ _ _ us hl => match us, hl with | [], _ => rfl
  have g8 := PySem.W.mg_of X G f8.at_
  have b9 := f9.F.binds (ps := ["_law_error"]) fun _ _ _ _ _ _ us hl => match us, hl with | [_], _ => rfl
  have g9 := PySem.W.mg_of X G f9.at_
  have b10 := f10.F.binds (ps := ["_law_error"]) fun _ _ _ _ _ _ us hl => match us, hl with | [_], _ => rfl
  have g10 := PySem.W.mg_of X G f10.at_
  have b11 := f11.F.binds (ps := ["_law_some", "_law_noted"]) fun _ _ _ _ _ _ us hl => match us, hl with | [_, _], _ => rfl
  have g11 := PySem.W.mg_of X G f11.at_
  have b12 := f12.F.binds (ps := ["_law_script"]) fun _ _ _ _ _ _ us hl => match us, hl with | [_], _ => rfl
  have g12 := PySem.W.mg_of X G f12.at_
  refine ⟨d12, fun s u => ?_, fun base _ _ => ?_⟩
  · obtain ⟨_, _, _, _, _, _, _, _, _, rfl, _, _⟩ := f12.F.ex
    exact .of_eq rfl
  · have GP0 := ok_purse (P := l.prog) (w := w) (base := base) (k := 0) f0.F msum mint mmax
    have GD2 := ok_draw (P := l.prog) (w := w) (base := base) f2.F f1.F b1 g1 mint mrange
    have GPs := ok_purses (P := l.prog) (w := w) (base := base) f3.F f0.F.kp GP0 b0 g0 mlen mrange mmax mmin
    have GO := ok_oneof (P := l.prog) (w := w) (base := base) f4.F f2.F.kp GD2 b2 g2 mlen
    have GW := ok_word (P := l.prog) (w := w) (base := base) f5.F f2.F.kp GD2 b2 g2 mrange
    have GF := ok_first (P := l.prog) (w := w) (base := base) f6.F A
    have GC := ok_called (P := l.prog) (w := w) (base := base) f7.F A
    have GB := ok_bare (P := l.prog) (w := w) (base := base) f8.F A
    have GCo := ok_code (P := l.prog) (w := w) (base := base) f9.F A misinstance mlen mrange
    have GI := ok_iserror (P := l.prog) (w := w) (base := base) f10.F A misinstance mValueError
    have GR := ok_right (P := l.prog) (w := w) (base := base) f11.F A f9.F.kp GCo b9 g9 f10.F.kp GI b10 g10 mrange mrepr
    exact ok_law f12.F A { fW := a5, dW := d5, kW := f5.F.kp, GW := GW, bW := b5, gW := g5, fO := a4, dO := d4, kO := f4.F.kp, GO := GO, bO := b4, gO := g4, fF := a6, dF := d6, kF := f6.F.kp, GF := GF, bF := b6, gF := g6 , fC := a7, dC := d7, kC := f7.F.kp, GC := GC, bC := b7, gC := g7, fB := a8, dB := d8, kB := f8.F.kp, GB := GB, bB := b8, gB := g8, fR := a11, dR := d11, kR := f11.F.kp, GR := GR, bR := b11, gR := g11, fD := a9, dD := d9, kD := f9.F.kp, GD := GCo, bD := b9, gD := g9, fI := a10, dI := d10, kI := f10.F.kp, GI := GI, bI := b10, gI := g10, fP := a3, dP := d3, kP := f3.F.kp, GP := GPs, bP := b3, gP := g3, mis := misinstance, mrp := mrepr, mli := mlist, mal := mall }
end K1
open PySem PySem.W PyProof.Rows
set_option maxRecDepth 100000 in
set_option maxHeartbeats 0 in
theorem PySem.Challenge.cw_keptreadings_k01_errors_made_holds : PySem.Challenge.rw_keptreadings_k01_errors_made.Holds := by
  w_on; o_law; k_headL; (case hw => w_witness2)
  k_fill
  refine K1.walk (l := PySem.Challenge.rw_keptreadings_k01_errors_made) (k := 4) rfl rfl ⟨rfl, by decide, by decide⟩ (fun w h Y => PySem.W.kIn_of Y) ?F
  case F =>
    intro w mg fa h KX G hmg
    exact K1.all_mk KX G hmg (K1.bar_mk (by k_is) (by k_is) (by k_is) (by k_is) (by k_is) (by k_exc) (by k_is) (by decide +kernel))
      (.cons (K1.cls_mk (by k_is) (by k_is) (by k_is) (by k_is) (by k_is) (by k_is) (by k_is) (by k_is) (by k_is) (by k_is) (by k_is) (by k_is) (by k_is) rfl)
      (.cons (K1.cls_mk (by k_is) (by k_is) (by k_is) (by k_is) (by k_is) (by k_is) (by k_is) (by k_is) (by k_is) (by k_is) (by k_is) (by k_is) (by k_is) rfl)
      (.cons (K1.cls_mk (by k_is) (by k_is) (by k_is) (by k_is) (by k_is) (by k_is) (by k_is) (by k_is) (by k_is) (by k_is) (by k_is) (by k_is) (by k_is) rfl)
      (.cons (K1.cls_mk (by k_is) (by k_is) (by k_is) (by k_is) (by k_is) (by k_is) (by k_is) (by k_is) (by k_is) (by k_is) (by k_is) (by k_is) (by k_is) rfl)
      (.cons (K1.cls_mk (by k_is) (by k_is) (by k_is) (by k_is) (by k_is) (by k_is) (by k_is) (by k_is) (by k_is) (by k_is) (by k_is) (by k_is) (by k_is) rfl)
      (.cons (K1.cls_mk (by k_is) (by k_is) (by k_is) (by k_is) (by k_is) (by k_is) (by k_is) (by k_is) (by k_is) (by k_is) (by k_is) (by k_is) (by k_is) rfl)
      (.cons (K1.cls_mk (by k_is) (by k_is) (by k_is) (by k_is) (by k_is) (by k_is) (by k_is) (by k_is) (by k_is) (by k_is) (by k_is) (by k_is) (by k_is) rfl)
      (.cons (K1.cls_mk (by k_is) (by k_is) (by k_is) (by k_is) (by k_is) (by k_is) (by k_is) (by k_is) (by k_is) (by k_is) (by k_is) (by k_is) (by k_is) rfl)
      (.cons (K1.cls_mk (by k_is) (by k_is) (by k_is) (by k_is) (by k_is) (by k_is) (by k_is) (by k_is) (by k_is) (by k_is) (by k_is) (by k_is) (by k_is) rfl)
      (.cons (K1.cls_mk (by k_is) (by k_is) (by k_is) (by k_is) (by k_is) (by k_is) (by k_is) (by k_is) (by k_is) (by k_is) (by k_is) (by k_is) (by k_is) rfl)
      (.cons (K1.cls_mk (by k_is) (by k_is) (by k_is) (by k_is) (by k_is) (by k_is) (by k_is) (by k_is) (by k_is) (by k_is) (by k_is) (by k_is) (by k_is) rfl)
      (.cons (K1.cls_mk (by k_is) (by k_is) (by k_is) (by k_is) (by k_is) (by k_is) (by k_is) (by k_is) (by k_is) (by k_is) (by k_is) (by k_is) (by k_is) rfl)
      (.cons (K1.cls_mk (by k_is) (by k_is) (by k_is) (by k_is) (by k_is) (by k_is) (by k_is) (by k_is) (by k_is) (by k_is) (by k_is) (by k_is) (by k_is) rfl)
      (.cons (K1.cls_mk (by k_is) (by k_is) (by k_is) (by k_is) (by k_is) (by k_is) (by k_is) (by k_is) (by k_is) (by k_is) (by k_is) (by k_is) (by k_is) rfl)
      (.cons (K1.cls_mk (by k_is) (by k_is) (by k_is) (by k_is) (by k_is) (by k_is) (by k_is) (by k_is) (by k_is) (by k_is) (by k_is) (by k_is) (by k_is) rfl)
      (.cons (K1.cls_mk (by k_is) (by k_is) (by k_is) (by k_is) (by k_is) (by k_is) (by k_is) (by k_is) (by k_is) (by k_is) (by k_is) (by k_is) (by k_is) rfl)
      (.cons (K1.cls_mk (by k_is) (by k_is) (by k_is) (by k_is) (by k_is) (by k_is) (by k_is) (by k_is) (by k_is) (by k_is) (by k_is) (by k_is) (by k_is) rfl)
      (.cons (K1.cls_mk (by k_is) (by k_is) (by k_is) (by k_is) (by k_is) (by k_is) (by k_is) (by k_is) (by k_is) (by k_is) (by k_is) (by k_is) (by k_is) rfl)
      (.cons (K1.cls_mk (by k_is) (by k_is) (by k_is) (by k_is) (by k_is) (by k_is) (by k_is) (by k_is) (by k_is) (by k_is) (by k_is) (by k_is) (by k_is) rfl)
      (.cons (K1.cls_mk (by k_is) (by k_is) (by k_is) (by k_is) (by k_is) (by k_is) (by k_is) (by k_is) (by k_is) (by k_is) (by k_is) (by k_is) (by k_is) rfl)
      (.cons (K1.cls_mk (by k_is) (by k_is) (by k_is) (by k_is) (by k_is) (by k_is) (by k_is) (by k_is) (by k_is) (by k_is) (by k_is) (by k_is) (by k_is) rfl)
      (.cons (K1.cls_mk (by k_is) (by k_is) (by k_is) (by k_is) (by k_is) (by k_is) (by k_is) (by k_is) (by k_is) (by k_is) (by k_is) (by k_is) (by k_is) rfl)
      (.cons (K1.cls_mk (by k_is) (by k_is) (by k_is) (by k_is) (by k_is) (by k_is) (by k_is) (by k_is) (by k_is) (by k_is) (by k_is) (by k_is) (by k_is) rfl)
      (.cons (K1.cls_mk (by k_is) (by k_is) (by k_is) (by k_is) (by k_is) (by k_is) (by k_is) (by k_is) (by k_is) (by k_is) (by k_is) (by k_is) (by k_is) rfl)
      (.cons (K1.cls_mk (by k_is) (by k_is) (by k_is) (by k_is) (by k_is) (by k_is) (by k_is) (by k_is) (by k_is) (by k_is) (by k_is) (by k_is) (by k_is) rfl)
      (.cons (K1.cls_mk (by k_is) (by k_is) (by k_is) (by k_is) (by k_is) (by k_is) (by k_is) (by k_is) (by k_is) (by k_is) (by k_is) (by k_is) (by k_is) rfl)
      (.cons (K1.cls_mk (by k_is) (by k_is) (by k_is) (by k_is) (by k_is) (by k_is) (by k_is) (by k_is) (by k_is) (by k_is) (by k_is) (by k_is) (by k_is) rfl)
      (.cons (K1.cls_mk (by k_is) (by k_is) (by k_is) (by k_is) (by k_is) (by k_is) (by k_is) (by k_is) (by k_is) (by k_is) (by k_is) (by k_is) (by k_is) rfl)
      (.cons (K1.cls_mk (by k_is) (by k_is) (by k_is) (by k_is) (by k_is) (by k_is) (by k_is) (by k_is) (by k_is) (by k_is) (by k_is) (by k_is) (by k_is) rfl)
      (.cons (K1.cls_mk (by k_is) (by k_is) (by k_is) (by k_is) (by k_is) (by k_is) (by k_is) (by k_is) (by k_is) (by k_is) (by k_is) (by k_is) (by k_is) rfl)
      (.cons (K1.cls_mk (by k_is) (by k_is) (by k_is) (by k_is) (by k_is) (by k_is) (by k_is) (by k_is) (by k_is) (by k_is) (by k_is) (by k_is) (by k_is) rfl)
      (.cons (K1.cls_mk (by k_is) (by k_is) (by k_is) (by k_is) (by k_is) (by k_is) (by k_is) (by k_is) (by k_is) (by k_is) (by k_is) (by k_is) (by k_is) rfl)
      (.cons (K1.cls_mk (by k_is) (by k_is) (by k_is) (by k_is) (by k_is) (by k_is) (by k_is) (by k_is) (by k_is) (by k_is) (by k_is) (by k_is) (by k_is) rfl)
      (.nil))))))))))))))))))))))))))))))))))
      (K1.bar_mk (by k_is) (by k_is) (by k_is) (by k_is) (by k_is) (by k_exc) (by k_is) (by decide +kernel))
      (K1.bar_mk (by k_is) (by k_is) (by k_is) (by k_is) (by k_is) (by k_exc) (by k_is) (by decide +kernel))
      (by decide +kernel) (by decide +kernel) ⟨by k_is, by k_is⟩
      (K1.fn_mk (by k_is) (by k_is) (by k_is) (by k_is))
      (K1.fn_mk (by k_is) (by k_is) (by k_is) (by k_is))
      (K1.fn_mk (by k_is) (by k_is) (by k_is) (by k_is))
      (K1.fn_mk (by k_is) (by k_is) (by k_is) (by k_is))
      (K1.fn_mk (by k_is) (by k_is) (by k_is) (by k_is))
      (K1.fn_mk (by k_is) (by k_is) (by k_is) (by k_is))
      (K1.fn_mk (by k_is) (by k_is) (by k_is) (by k_is))
      (K1.fn_mk (by k_is) (by k_is) (by k_is) (by k_is))
      (K1.fn_mk (by k_is) (by k_is) (by k_is) (by k_is))
      (K1.fn_mk (by k_is) (by k_is) (by k_is) (by k_is))
      (K1.fn_mk (by k_is) (by k_is) (by k_is) (by k_is))
      (K1.fn_mk (by k_is) (by k_is) (by k_is) (by k_is))
      (K1.fn_mk (by k_is) (by k_is) (by k_is) (by k_is))
      (by k_is) (by k_is) (by k_is) (by k_is) (by k_is) (by k_is) (by k_is) (by k_is) (by k_is) (by k_is) (by k_is)
