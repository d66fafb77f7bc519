import PyProof.Rows.All
import Wide.All
import OpenK.AllK
import Wide.FinOn
import HandS.Base
import HandS.Call
import HandS.List
import HandS.Exc
import KE.KIsAll
import KE.KTryMore
import HandS.ExcOwn
import HandS.ExcInit
import HandS.Defaults
import HandS.ForMost
import HandS.ExcValue
import HandS.ExcIs
import HandS.ForSpec
import HandS.IsInst
import HandS.More
import PyProof.ListStr
import PyProof.StrBlock2
import HandS.WideBits
import HandS.Walk
import HandS.StrMore
import HandS.Steps
import HandS.Zip
import HandS.Conv
import HandS.Deep
import KE.OsRunLaw
import PySem.Challenge.RW_keptreadings_k02_whole_cut_and_lines
set_option Elab.async false
set_option linter.all false
set_option maxRecDepth 100000
set_option maxHeartbeats 4000000
/-! own exceptions called with keywords -/
namespace PySem
namespace EV
open PySem.HandSPX
open Builtin Builtin.ObjectAttr
section
variable {M : Model} {A : Around} {E : Value → Shared → Prop} {h : Heap} {g : Array GenState} {d : Drawn} {t : Nat} {os : OsState}
variable {nm q : Str} {C N : Addr} {bs bm bmB : List Value} {hdct : Bool} {sn : List Str} {sub : List Value} {ab : Bool} {col : Option Bool} {dd : Option Addr} {k0 k1 k2 k3 k5 : Option Value} {B newId initId : String}
variable {rest : List Value} {kw : List (Str × Value)}

theorem check_new_kw (F : ExcBaseFacts B newId initId bmB) (hT : ∀ X : String, bm.contains (.type X) = bmB.contains (.type X)) {Q : Unit → Shared → Prop}
    (hC : h.get? C = some (excClassObj nm q C N bs bm hdct sn sub ab col dd k0 k1 k2 k3 k5 newId)) (hq : Q () ⟨h, g, d, t, os⟩) : wpAny M A (checkBuiltinCall newId ⟨.ref C :: rest, kw⟩) Q E ⟨h, g, d, t, os⟩ := by
  have hcont : (Value.ref C :: bm).contains (.type B) = true := by rw [List.contains_cons, hT, F.hasB, Bool.or_true]
  have hstar := F.noStar
  simp only [checkBuiltinCall, F.newKind, F.newSplit, F.newRow]
  repeat (first | refine wpAny_loadPart_at hC ?_ | (refine wpAny_isSubtype_exc hC ?_; rw [hcont]) | refine wpAny_staticBase_exc hC ?_ | refine wpAny_madeBy_exc hC ?_ | simp only [bne_self_eq_false, Bool.false_eq_true, if_false] | wp_step)
  exact hq
end
section
variable {prog : Program} {w : World} {A : Around} {E : Value → Shared → Prop} {R : Result → Shared → Prop} {h : Heap} {g : Array GenState} {d : Drawn} {t : Nat} {os : OsState}
variable {nm q : Str} {C N : Addr} {bs bm bmB : List Value} {hdct : Bool} {sn : List Str} {sub : List Value} {ab : Bool} {col : Option Bool} {dd : Option Addr} {k0 k1 k2 k3 k5 : Option Value} {B newId initId : String}
variable {rest : List Value} {kw : List (Str × Value)}

theorem new_kw (F : ExcBaseFacts B newId initId bmB) (hT : ∀ X : String, bm.contains (.type X) = bmB.contains (.type X))
    (hC : h.get? C = some (excClassObj nm q C N bs bm hdct sn sub ab col dd k0 k1 k2 k3 k5 newId))
    (hq : R (.ok (.ret (.ref (h.objs.size + 1)))) ⟨(h.push { cls := .type "tuple", data := .seq rest.toArray }).push
      { cls := .ref C, data := .fields #[.ref h.objs.size, .none, .none, .none, .bool false, .none] }, g, d, t, os⟩) (hrest : rest.length ≤ sizeLine) :
    codeAny (model prog w) A (.builtin newId ⟨.ref C :: rest, kw⟩) R ⟨h, g, d, t, os⟩ := by
  have hends := F.ends
  have hcB : (Value.ref C :: bm).contains (.type B) = true := by rw [List.contains_cons, hT, F.hasB, Bool.or_true]
  have hcA : (Value.ref C :: bm).contains (.type "AttributeError") = false := by rw [List.contains_cons, hT, F.noAttr]; rfl
  have hcN : (Value.ref C :: bm).contains (.type "NameError") = false := by rw [List.contains_cons, hT, F.noName]; rfl
  refine codeAny_builtinAt F.entry ?_
  unfold Builtin.«BaseException.__new__»
  refine wpAt_bind ?_
  show wpAt _ _ _ (stack >>= _) _ _ _
  refine wpAt_bind (wpAt_stack fun p below => wpAt_of_wpAny ?_)
  wp_walk
  refine wpAt_of_wpAny ?_
  rw [F.owner]
  repeat (first | with_reducible refine wpAny_madeHere_exc F.canon hC ?_ | with_reducible refine wpAny_loadPart_at hC ?_ | (with_reducible refine wpAny_isSubtype_exc hC ?_; first | rw [hcB] | rw [hcA] | rw [hcN]) | wp_step)
  show R _ _
  rw [Heap.size_push]
  exact hq

theorem type_call_kw (F : ExcBaseFacts B newId initId bmB) (hT : ∀ X : String, bm.contains (.type X) = bmB.contains (.type X)) {fI : Addr} {Q : Fin → Shared → Prop}
    (hC : h.get? C = some (excClassObj nm q C N bs bm hdct sn sub ab col dd k0 k1 k2 k3 k5 newId))
    (hi : W.Looks (model prog w) h (typeLookup (.ref C) "__init__") (some (.ref fI))) (hb : ∀ self, W.Looks (model prog w) h (bindSpecial (.ref fI) self) (.ref fI, [self])) (hrest : rest.length ≤ sizeLine)
    (hq : codeAny (model prog w) A (.call (.ref fI) ⟨.ref (h.objs.size + 1) :: rest, kw⟩)
      (fun r s' => match r with | .ok (.ret v) => v = .none ∧ Q (.done (.ret (.ref (h.objs.size + 1)))) s' | .ok _ => False | .error e => E e s')
      ⟨(h.push (W.kdv_tup rest)).push (excO C h.objs.size), g, d, t, os⟩) :
    wpAny (model prog w) A (Builtin.«type.__call__» ⟨.ref C :: rest, kw⟩) Q E ⟨h, g, d, t, os⟩ := by
  repeat (first | with_reducible refine wpAny_loadPart_at hC ?_ | with_reducible refine wpAny_madeBy_exc hC ?_ | wp_step)
  refine codeAny_call_builtin_code (Code.quiet_builtin _ F.quiet) (check_new_kw F hT hC ?_)
  refine new_kw F hT hC ?_ hrest
  show wpAny _ _ _ _ _ _
  have k : ∀ b o, h.get? b = some o → ((h.push (W.kdv_tup rest)).push (excO C h.objs.size)).get? b = some o := fun b o e => Heap.get?_push_of_some _ (Heap.get?_push_of_some _ e)
  have hC₁ := k _ _ hC
  have hget : ((h.push (W.kdv_tup rest)).push (excO C h.objs.size)).get? (h.objs.size + 1) = some (excO C h.objs.size) := by heap_get
  have hcC : (Value.ref C :: bm).contains (.ref C) = true := by simp
  have i1 := hi.keeps k
  have b1 := (hb (.ref (h.objs.size + 1))).keeps k
  unfold isInstance
  repeat (first | with_reducible refine wpAny_loadPart_at hget ?_ | (with_reducible refine wpAny_isSubtype_exc hC₁ ?_; rw [hcC]) | wp_step)
  show wpAny _ _ (typeLookup (.ref C) _) _ _ _
  refine i1.at ?_
  refine wpAny_holding (wpAny_bind (b1.at ?_))
  refine wpAny_bind (wpAny_call (codeAny_mono hq fun r s' z => ?_))
  rcases r with e | (v | _ | _ | _) <;> first | exact z | exact z.elim | skip
  obtain ⟨rfl, z⟩ := z
  first
    | exact wpAny_pure (wpAny_pure z)
    | (wp_walk; exact z)

theorem call_kw (F : ExcBaseFacts B newId initId bmB) (hT : ∀ X : String, bm.contains (.type X) = bmB.contains (.type X)) {fI : Addr}
    (hC : h.get? C = some (excClassObj nm q C N bs bm hdct sn sub ab col dd k0 k1 k2 k3 k5 newId))
    (hi : W.Looks (model prog w) h (typeLookup (.ref C) "__init__") (some (.ref fI))) (hb : ∀ self, W.Looks (model prog w) h (bindSpecial (.ref fI) self) (.ref fI, [self])) (hrest : rest.length ≤ sizeLine)
    (hq : codeAny (model prog w) (A.under (.builtin "type.__call__" ⟨.ref C :: rest, kw⟩)) (.call (.ref fI) ⟨.ref (h.objs.size + 1) :: rest, kw⟩) (W.InitBack (h.objs.size + 1) R)
      ⟨(h.push (W.kdv_tup rest)).push (excO C h.objs.size), g, d, t, os⟩) :
    codeAny (model prog w) A (.call (.ref C) ⟨rest, kw⟩) R ⟨h, g, d, t, os⟩ := by
  have f1 := tc_lookup
  have f2 := tc_bind (.ref C)
  have hTy : (⟨h, g, d, t, os⟩ : Shared).TypeIs (.ref C) "type" := ⟨_, hC, rfl⟩
  refine codeAny_of_tree ?_
  show wpAny _ _ (callAny (.ref C) _) _ _ _
  repeat (any_goals (first | assumption | with_reducible refine wpAny_loadPart_at hC ?_ | wp_step))
  refine ⟨rfl, ?_⟩
  refine codeAny_call_builtin_at (Code.quiet_builtin _ (by decide +kernel)) entry_typeCall (wpAny_check_type_call_sub hC (type_call_kw F hT hC hi hb hrest ?_))
  refine codeAny_mono hq fun r s' z => ?_
  rcases r with e | (v | _ | _ | _) <;> exact z
end
end EV
end PySem

set_option Elab.async false
set_option linter.all false
set_option maxRecDepth 100000
set_option maxHeartbeats 4000000
/-! own exceptions as values: made, asked, read -/
namespace PySem
namespace EV
open PySem.HandSPX PySem.W PySem.Calls PyProof.Rows
/-! ### the text of __init__(self, value=None): self.value = value -/
def iA (p1 p2 p3 : Pos) : Arguments := { posonlyargs := [], args := [{ arg := "self", annotation := none, pos := p1 }, { arg := "value", annotation := none, pos := p2 }], vararg := none, kwonlyargs := [], kw_defaults := [], kwarg := none, defaults := [.Constant .none 0 p3] }
def iB (q1 q2 q3 q4 : Pos) : List Stmt := [.Assign [.Attribute (.Name "self" q1) "value" q2] (.Name "value" q3) q4]
def iS : Scope := { kind := .function, names := [(PySem.Str.ofString "self", .local), (PySem.Str.ofString "value", .local)], isGenerator := false, isCoroutine := false, more := [] }
/-- an own error class, child of the base of all (at T) -/
structure ErrC (K : Frag) (C T : Addr) : Prop where
  cls : ∃ nm q N bs sn sub ab col dd k0 k1 k2 k3 k5, K.lookup C = some (excClassObj nm q C N bs (.ref T :: veTail) true sn sub ab col dd k0 k1 k2 k3 k5 "ValueError.__new__")
  sa : findIn K (.ref C) "__setattr__" = some (some (.builtin "object.__setattr__"))
  ga : findIn K (.ref C) "__getattribute__" = some (some (.builtin "BaseException.__getattribute__"))
  gg : findIn K (.ref C) "__getattr__" = some none
  noN : findIn K (.ref C) "value" = some none
  ca : findIn K (.ref C) "__class__" = some (some (.builtin "object.__class__"))
  kC : keepIn K (.ref C) = true
/-- its __init__ -/
structure ErrI (K : Frag) (C fI : Addr) : Prop where
  iC : findIn K (.ref C) "__init__" = some (some (.ref fI))
  tC : typeIn K (.ref fI) = some (.type "function")
  fn : ∃ (oc : Value) (od : Option Addr) (doc pm kV : Value) (an : Option Addr) (cdv ct : Value) (osl : Array (Option Value)) (qn : Str) (D : Addr) (oD : Obj) (nD : Nat) (p1 p2 p3 q1 q2 q3 q4 : Pos),
    K.lookup fI = some ⟨oc, od, .func (fnOf "__init__" qn (iA p1 p2 p3) (iB q1 q2 q3 q4) iS (.ref D) kV doc pm an cdv ct), osl⟩ ∧ codeIn K cdv qn = true ∧ K.lookup D = some oD ∧ oD.data = .seq #[.none] nD
theorem veT : refsVE veTail = true := by decide +kernel
theorem veRT (T : Addr) : refsVE (.ref T :: veTail) = true := by
  show refsVE veTail = true
  exact veT
theorem one_size (v : Value) : [v].length ≤ sizeLine := by
  rw [sizeLine_eq]
  exact (by decide : 1 ≤ 16777216)
/-- what __init__ leaves of a fresh exception at x -/
structure InitEnd (h h' : Heap) (x C dx t1 : Addr) (v : Value) : Prop where
  keep : ∀ b o, b ≠ x → h.get? b = some o → h'.get? b = some o
  obj : h'.get? x = some { cls := .ref C, dict := some dx, data := .fields #[.ref t1, .none, .none, .none, .bool false, .none] }
  dbig : h.objs.size ≤ dx
  dne : dx ≠ x
  ns : h'.Ns1 dx (fun y => if y = "value" then some v else none)
structure OwnMade (h h' : Heap) (e C d : Addr) (v : Value) : Prop where
  keep : ∀ b o, h.get? b = some o → h'.get? b = some o
  new : h.objs.size ≤ e
  obj : ∃ t1 : Addr, h'.get? e = some { cls := .ref C, dict := some d, data := .fields #[.ref t1, .none, .none, .none, .bool false, .none] }
  dbig : h.objs.size ≤ d
  dne : d ≠ e
  ns : h'.Ns1 d (fun y => if y = "value" then some v else none)
theorem ldC {M : Model} {s : Shared} {name : Str} {scope : Scope} {L a : Addr} {cd : Value} {m : Str → Option Value} {x : Str} {pos : Pos} {v : Value} {Q : Value → Shared → Prop} {A : Around} {E : Value → Shared → Prop} (hn : s.heap.Ns L m) (hv : m x = some v) (h : Q v s)
    (hk : scope.kind = .function := by rfl) (hl : (envOfC name scope L a cd).kindOf x = some .local := by rfl) (hd : (x == ("__debug__" : Str)) = false := by decide) :
    wpAny M A (eval (.Name x pos) (envOfC name scope L a cd)) Q E s := wpAny_Name (wpAny_loadName_local hk hl hn hv h) hd
/-- the three ways to hand the value in: by place, by name, not at all -/
inductive Hand : List Value → List (Str × Value) → Value → Prop
  | place (v : Value) : Hand [v] [] v
  | name (v : Value) : Hand [] [("value", v)] v
  | bare : Hand [] [] .none
section
variable {prog : Program} {w : World} {A : Around} {E : Value → Shared → Prop} {R : Result → Shared → Prop} {s : Shared} {K : Frag} {C T fI : Addr}
theorem err_init (Z : ErrC K C T) (I : ErrI K C fI) {x t0 : Addr} {v : Value} {us : List Value} {kw : List (Str × Value)} (hh : Hand us kw v) (X : K.In s.heap) (hlim : s.heap.NoLimit) (hx : s.heap.get? x = some (excO C t0)) (hroom : A.depth < recursionLimit)
    (hq : ∀ h' tk dx, InitEnd s.heap h' x C dx t0 v → R (.ok (.ret .none)) { s with heap := h', toks := tk }) :
    codeAny (model prog w) A (.call (.ref fI) ⟨.ref x :: us, kw⟩) R s := by
  obtain ⟨oc, od, doc, pm, kV, an, cdv, ct, osl, qn, D, oD, nD, p1, p2, p3, q1, q2, q3, q4, ho, hcd, hD, hDd⟩ := I.fn
  obtain ⟨nm, q, N, bs, sn, sub, ab, col, dd, k0, k1, k2, k3, k5, hC⟩ := Z.cls
  have hcl : clsIn K C = some { name := nm, bases := bs, mro := .ref C :: .ref T :: veTail, ns := N, qualname := q, hasDict := true, slotNames := sn, subclasses := sub, abstract := ab, collection := col, hasDel := false } := by unfold clsIn; rw [hC] <;> rfl
  have hbind : BindsTo s (fnOf "__init__" qn (iA p1 p2 p3) (iB q1 q2 q3 q4) iS (.ref D) kV doc pm an cdv ct) ⟨.ref x :: us, kw⟩ [("self", .ref x), ("value", v)] := by
    refine L2.BindsTo.of_looks fun M => ?_
    cases hh with
    | place => exact L2.looks_items X hD hDd (.of_pure rfl)
    | name => exact L2.looks_items X hD hDd (.of_pure rfl)
    | bare => exact L2.looks_items X hD hDd (.of_pure rfl)
  refine Att.call_fn (binds := [("self", .ref x), ("value", v)]) X hlim ho hcd hroom hbind (by first | rfl | decide | with_unfolding_all rfl) (fun s₁ IC => ?_) rfl rfl rfl
  obtain ⟨h₁, tk₁, rfl⟩ := IC.toInCall.same
  have k : ∀ b o, s.heap.get? b = some o → h₁.get? b = some o := IC.toInCall.keep
  have hn := IC.toInCall.ns
  have X₁ : K.In h₁ := X.keeps k
  have hx₁ := k _ _ hx
  -- self.value = value
  show wpAny _ _ (execs _ _) _ _ _
  refine wpAny_execs_cons (plainObj_wpAny_Assign_Attribute ?_)
  refine ldC (v := v) hn (by first | rfl | with_unfolding_all rfl | kernel_rfl) (ldC (v := .ref x) hn (by first | rfl | with_unfolding_all rfl | kernel_rfl) ?_)
  refine set_plain X₁ (ox := excO C t0) (od := none) ⟨hx₁, rfl, rfl, trivial⟩ Z.sa ?_
  refine exc_osa X₁ hx₁ hcl (show refsVE (.ref C :: .ref T :: veTail) = true from veRT T) rfl Z.noN (fun h₃ tk₃ dx k₃ dn dne hx₃ hn₃ => ?_)
  show wpAny _ _ (execs _ _) _ _ _
  have z : s.heap.objs.size < h₁.objs.size := hn.lt
  exact wpAny_execs_nil (hq h₃ tk₃ dx ⟨fun b o hb e => k₃ b o hb (k b o e), hx₃, Nat.le_of_lt (Nat.lt_of_lt_of_le z dn), dne, hn₃⟩)
theorem err_made (Z : ErrC K C T) (I : ErrI K C fI) {v : Value} {us : List Value} {kw : List (Str × Value)} (hh : Hand us kw v) (X : K.In s.heap) (hlim : s.heap.NoLimit) (hroom : A.depth + 1 < recursionLimit)
    (hq : ∀ h' tk e d, OwnMade s.heap h' e C d v → R (.ok (.ret (.ref e))) { s with heap := h', toks := tk }) :
    codeAny (model prog w) A (.call (.ref C) ⟨us, kw⟩) R s := by
  obtain ⟨nm, q, N, bs, sn, sub, ab, col, dd, k0, k1, k2, k3, k5, hC⟩ := Z.cls
  obtain ⟨hp, g, dr, tk, os⟩ := s
  have hus : us.length ≤ sizeLine := by
    cases hh with
    | place => exact one_size v
    | name => exact Nat.zero_le _
    | bare => exact Nat.zero_le _
  have k : ∀ b o, hp.get? b = some o → ((hp.push (kdv_tup us)).push (excO C hp.objs.size)).get? b = some o := fun b o e => Heap.get?_push_of_some _ (Heap.get?_push_of_some _ e)
  have hget : ((hp.push (kdv_tup us)).push (excO C hp.objs.size)).get? (hp.objs.size + 1) = some (excO C hp.objs.size) := by heap_get
  refine call_kw F.excBase_ValueError (fun X => refsVE_contains X _ (veRT T)) (X _ _ hC) (looks_findIn X I.iC) (fun self => bind_fn X self I.tC) hus ?_
  refine err_init (s := ⟨(hp.push (kdv_tup us)).push (excO C hp.objs.size), g, dr, tk, os⟩) Z I hh (X.keeps k) (hlim.keeps k) hget ?_ fun h' tk' dx ⟨k', hx, dn, dne, hns⟩ => ?_
  · show A.depth + 1 < recursionLimit
    exact hroom
  · have old : ∀ b o, hp.get? b = some o → h'.get? b = some o := fun b o e => k' b o (Nat.ne_of_lt (Nat.lt_succ_of_lt (Heap.lt_size e))) (k b o e)
    have z : hp.objs.size + 1 + 1 ≤ dx := by
      first
        | (simpa only [Heap.size_push] using dn)
        | exact dn
        | (have q := dn; rw [Heap.size_push, Heap.size_push] at q; exact q)
    exact ⟨rfl, hq h' tk' (hp.objs.size + 1) dx ⟨old, Nat.le_succ _, ⟨_, hx⟩, Nat.le_trans (Nat.le_trans (Nat.le_succ _) (Nat.le_succ _)) z, dne, hns⟩⟩
end
end EV
end PySem

set_option Elab.async false
set_option linter.all false
set_option maxRecDepth 100000
set_option maxHeartbeats 4000000
/-! own exceptions as values, over the layer -/
namespace EL
open PySem PySem.Spec PyProof.Rows L2
open PySem.EV (ErrC ErrI Hand OwnMade)
/-! ### readings may be asked for more -/
section
variable {X : Cx}
theorem _root_.L2.PE.imp {e : Expr} {t u : TE} (h : PE X e t) (k : ∀ σ H Q, u σ H Q → t σ H Q) : PE X e u := ⟨fun pins s σ H Q I q => h.run pins s σ H Q I (k _ _ _ q)⟩
theorem _root_.L2.PA.imp {es : List Expr} {t u : TA} (h : PA X es t) (k : ∀ σ H Q, u σ H Q → t σ H Q) : PA X es u := ⟨fun pos pins s σ H Q I q => h.run pos pins s σ H Q I (k _ _ _ q)⟩
theorem _root_.L2.PT.imp {e : Expr} {t u : TT} (h : PT X e t) (k : ∀ σ H Q, u σ H Q → t σ H Q) : PT X e u := ⟨fun pins s σ H Q I q => h.run pins s σ H Q I (k _ _ _ q)⟩
theorem _root_.L2.PS.imp {st : Stmt} {t u : TS} (h : PS X st t) (k : ∀ D σ H, u D σ H → t D σ H) : PS X st u := ⟨fun pins s σ H D I q => h.run pins s σ H D I (k _ _ _ q)⟩
theorem _root_.L2.PSs.imp {st : List Stmt} {t u : TS} (h : PSs X st t) (k : ∀ D σ H, u D σ H → t D σ H) : PSs X st u := ⟨fun pins s σ H D I q => h.run pins s σ H D I (k _ _ _ q)⟩
end
/-! ### a made error: its object at e, its dict -/
def IsErr (H : Hp) (e C : Addr) (v : V) : Prop := ∃ dx, H e = some (exo e C (some dx)) ∧ H dx = some (.xd [("value", v)])
theorem IsErr.same {H H' : Hp} {e C : Addr} {v : V} (h : IsErr H e C v) (s : Same H H') : IsErr H' e C v := by
  obtain ⟨dx, a, b⟩ := h
  exact ⟨dx, s _ _ a, s _ _ b⟩
theorem relO_value {v : V} {v' : Value} (r : RelV v v') (f : Str) : RelO (List.lookup f [(("value" : Str), v)]) (if f = "value" then some v' else none) := by
  by_cases hw : f = "value"
  · subst hw
    rw [if_pos rfl]
    have q : List.lookup ("value" : Str) [(("value" : Str), v)] = some v := by simp [List.lookup]
    rw [q]
    exact r
  · rw [if_neg hw]
    have qw : (f == ("value" : Str)) = false := by simpa using hw
    have q2 : List.lookup f [(("value" : Str), v)] = none := by simp [List.lookup, qw]
    rw [q2]; exact True.intro
section
variable {X : Cx} {pins : List (Addr × Obj)} {σ : L2.St} {H : Hp} {s : Shared} {C T fI : Addr}
/-- two new objects are laid at once -/
theorem inv_two {h' : Heap} {t' : Nat} {a d : Addr} {o u : HO} (I : Inv X pins σ H s) (k : ∀ b o, s.heap.get? b = some o → h'.get? b = some o) (ha : s.heap.objs.size ≤ a) (hd : s.heap.objs.size ≤ d) (hne : d ≠ a)
    (na : ObjOk X.prog X.w (upd (upd H d u) a o) h' a o) (nd : ObjOk X.prog X.w (upd (upd H d u) a o) h' d u) : Inv X pins σ (upd (upd H d u) a o) { s with heap := h', toks := t' } := by
  have hna : H a = none := I.hok.fresh ha
  have hnd : H d = none := I.hok.fresh hd
  have old : ∀ {b : Addr} {q : Obj}, s.heap.get? b = some q → b ≠ a ∧ b ≠ d := fun {b q} z => ⟨Nat.ne_of_lt (Nat.lt_of_lt_of_le (Heap.lt_size z) ha), Nat.ne_of_lt (Nat.lt_of_lt_of_le (Heap.lt_size z) hd)⟩
  have at_ : ∀ {b : Addr} {q : HO}, H b = some q → upd (upd H d u) a o b = some q := fun {b q} z => by
    rw [upd_ne (ne_of_none z hna), upd_ne (ne_of_none z hnd)]
    exact z
  refine I.un (h' := h') (t' := t') {
    keep := fun b q z _ _ _ => k b q z
    slot := fun b q z _ _ _ => ⟨q.slots, k b q z⟩
    free := fun b q z n _ => by rw [upd_ne (old z).1, upd_ne (old z).2]; exact n
    there := fun b q z _ => ⟨q, k b q z⟩
    tups := fun b xs z => at_ z
    frzs := fun b q v z => at_ z
    tbls := fun b ps z => ⟨#[], by rw [at_ z]; simp⟩ } fun b q z => ?_
  by_cases hb : b = a
  · subst hb
    rw [upd_same] at z
    cases z
    exact na
  · rw [upd_ne hb] at z
    by_cases hb2 : b = d
    · subst hb2
      rw [upd_same] at z
      cases z
      exact nd
    · rw [upd_ne hb2] at z
      exact (I.hok b q z).stay (fun c v _ y => k c v y) (fun c y => at_ y) fun c xs y => at_ y
/-- the heap behind C(..) -/
theorem err_end {h' : Heap} {t' : Nat} {e d : Addr} {v : V} {u : Value} (I : Inv X pins σ H s) (M : OwnMade s.heap h' e C d u) (r : RelV v u) :
    ∃ H2, Inv X pins σ H2 { s with heap := h', toks := t' } ∧ Same H H2 ∧ H e = none ∧ IsErr H2 e C v := by
  obtain ⟨t1, ho⟩ := M.obj
  have hne : H e = none := I.hok.fresh M.new
  have hnd : H d = none := I.hok.fresh M.dbig
  refine ⟨upd (upd H d (.xd [("value", v)])) e (exo e C (some d)), inv_two I M.keep M.new M.dbig M.dne (exo_ok ho) ⟨_, M.ns, fun f => relO_value r f⟩, fun b o z => ?_, hne, d, upd_same, ?_⟩
  · rw [upd_ne (ne_of_none z hne), upd_ne (ne_of_none z hnd)]
    exact z
  · rw [upd_ne M.dne, upd_same]
theorem run_err {k : Nat} (Z : ErrC X.K C T) (J : ErrI X.K C fI) (hr : Room k X.A) (I : Inv X pins σ H s) {us : List Value} {kw : List (Str × Value)} {u : Value} {v : V} {Q : VK} (hh : Hand us kw u) (r : RelV v u)
    (q : ∀ e H2, Same H H2 → H e = none → IsErr H2 e C v → Q (.ref e) H2) : wpAny (model X.prog X.w) X.A (call (.ref C) us kw) (EP X pins σ Q) X.xe s := by
  have hlim := I.nolimit
  obtain ⟨hp, g, dr, tk, os⟩ := s
  refine wpAny_call (PySem.EV.err_made Z J hh I.kIn hlim (by have := hr.dp; omega) fun h' tk' e d M => ?_)
  obtain ⟨H2, I2, sm, n, er⟩ := err_end (t' := tk') I M r
  exact ⟨.ref e, H2, I2, rfl, q e H2 sm n er⟩
end
/-! ### C(e), C(value=e), C() -/
def oneV (R : V → Hp → Prop) : List V → Hp → Prop := fun vs H => match vs with
  | [v] => R v H
  | _ => False
theorem oneV_of {R : V → Hp → Prop} {vs : List V} {H : Hp} (h : oneV R vs H) : ∃ v, vs = [v] ∧ R v H := by
  match vs, h with
  | [v], h => exact ⟨v, rfl, h⟩
section
variable {X : Cx} {C T fI : Addr} {x : Str} {e : Expr} {te : TE} {p pos kpos : Pos} {k : Nat}
def tErr (C : Addr) (te : TE) : TE := fun σ H Q => te σ H fun v H1 => ∀ e H2, Same H1 H2 → H1 e = none → IsErr H2 e C v → Q (.ref e) H2
theorem pe_err (Z : ErrC X.K C T) (J : ErrI X.K C fI) (hr : Room k X.A) (hm : X.mg x = some (.ref C)) (he : PE X e te) (hg : Gl X x := by rfl) (hdb : (x == ("__debug__" : Str)) = false := by decide)
    (hs : starEach (e :: []) X.env = (false, eval e X.env) :: starEach [] X.env := by rfl) (hpl : (backTo pos (starEach [] X.env)).any (·.1) = false := by rfl) : PE X (.Call (.Name x p) [e] [] pos) (tErr C te) := by
  refine ⟨fun pins s σ H Q I h => ?_⟩
  refine wpAny_Call_Name_kw (ld_glob I hg hm ?_ hdb)
  refine PySem.W.callWith_K (h₀ := X.base) I.ok.mod.kin Z.kC (thn ((pa_cons he pa_nil hs).run pos pins s σ H (oneV fun v H1 => ∀ e H2, Same H1 H2 → H1 e = none → IsErr H2 e C v → Q (.ref e) H2) I h) fun us s1 ⟨vs, H1, I1, r, q1⟩ => ⟨I1.kIn, ?_⟩) hs hpl
  obtain ⟨v, ev, q⟩ := oneV_of q1
  subst ev
  cases r with
  | cons rv rn =>
    cases rn
    exact run_err Z J hr I1 (.place _) rv q
theorem pe_errK (Z : ErrC X.K C T) (J : ErrI X.K C fI) (hr : Room k X.A) (hm : X.mg x = some (.ref C)) (he : PE X e te) (hg : Gl X x := by rfl) (hdb : (x == ("__debug__" : Str)) = false := by decide) : PE X (.Call (.Name x p) [] [⟨some "value", e, kpos⟩] pos) (tErr C te) := by
  refine ⟨fun pins s σ H Q I h => ?_⟩
  refine wpAny_Call_Name_kw (ld_glob I hg hm ?_ hdb)
  refine PySem.W.callWith_KW0 (h₀ := X.base) I.ok.mod.kin Z.kC rfl (thn ((pk_cons (nm := some "value") (kpos := kpos) he pk_nil).run pos pins s σ H (oneV fun v H1 => ∀ e H2, Same H1 H2 → H1 e = none → IsErr H2 e C v → Q (.ref e) H2) I h) fun us s1 ⟨vs, H1, I1, r, q1⟩ => ⟨I1.kIn, ?_⟩)
  obtain ⟨v, ev, q⟩ := oneV_of q1
  subst ev
  cases r with
  | cons rv rn =>
    cases rn
    exact run_err Z J hr I1 (.name _) rv q
theorem pe_err0 (Z : ErrC X.K C T) (J : ErrI X.K C fI) (hr : Room k X.A) (hm : X.mg x = some (.ref C)) (hg : Gl X x := by rfl) (hdb : (x == ("__debug__" : Str)) = false := by decide) : PE X (.Call (.Name x p) [] [] pos) (tErr C (tC .non)) := by
  refine ⟨fun pins s σ H Q I h => ?_⟩
  refine wpAny_Call_Name_kw (ld_glob I hg hm ?_ hdb)
  exact PySem.W.callWith_K0 I.kIn Z.kC (run_err (us := []) (v := .non) Z J hr I .bare rfl h)
end
/-! ### e.value -/
section
variable {X : Cx} {C T fI : Addr} {x : Str} {e : Expr} {te : TE} {p pos kpos : Pos} {k : Nat}
theorem exo_inst {P : Program} {w : World} {H : Hp} {h : Heap} {e C dx : Addr} {v : V} (ok : HOk P w H h) (ea : H e = some (exo e C (some dx))) (ed : H dx = some (.xd [("value", v)])) :
    ∃ ox od u, PySem.W.InstAt h e ox C (some od) ∧ PySem.W.lookIn "value" od = some (some u) ∧ RelV v u := by
  obtain ⟨t1, ho⟩ := exo_at ok ea
  obtain ⟨mA, hns, hr⟩ := (show ObjOk P w H h dx (.xd [("value", v)]) from ok dx _ ed)
  obtain ⟨od, hod, hl⟩ := lookIn_ns hns
  have l : List.lookup ("value" : Str) [(("value" : Str), v)] = some v := by simp [List.lookup]
  obtain ⟨u, hu, ru⟩ := RelO.some_of (v := v) (o := mA "value") (by rw [← l]; exact hr "value")
  exact ⟨_, od, u, ⟨ho, rfl, rfl, hod⟩, by rw [hl, hu], ru⟩
theorem err_hd {K : PySem.W.Frag} (Z : ErrC K C T) : PySem.W.hasDictIn K C = true := by
  obtain ⟨nm, q, N, bs, sn, sub, ab, col, dd, k0, k1, k2, k3, k5, hC⟩ := Z.cls
  unfold PySem.W.hasDictIn PySem.W.clsIn
  rw [hC]
  rfl
theorem err_sub {K : PySem.W.Frag} (Z : ErrC K C T) (c : Value) : PySem.W.subIn K (.ref C) c = some ((Value.ref C :: .ref T :: HandSPX.veTail).contains c) := by
  obtain ⟨nm, q, N, bs, sn, sub, ab, col, dd, k0, k1, k2, k3, k5, hC⟩ := Z.cls
  show PySem.W.mroIn K C c = _
  unfold PySem.W.mroIn PySem.W.clsIn
  rw [hC]
  rfl
def tValue (K : PySem.W.Frag) (te : TE) : TE := fun σ H Q => te σ H fun x H1 => ∃ (e C : Addr) (v : V), x = .ref e ∧ IsErr H1 e C v ∧ (∃ T, ErrC K C T) ∧ Q v H1
theorem pe_value (he : PE X e te) (hb : attributeBase e "value" X.env (eval e X.env) = eval e X.env := by rfl) : PE X (.Attribute e "value" pos) (tValue X.K te) := by
  refine ⟨fun pins s σ H Q I h => ?_⟩
  refine attr_of hb (thn (he.run pins s σ H _ I h) fun u s1 hh => ?_)
  obtain ⟨x, H1, I1, rx, e, C, v, ex, ⟨dx, ea, ed⟩, ⟨T, Z⟩, q⟩ := hh
  subst ex
  obtain rfl : u = Value.ref e := rx
  obtain ⟨ox, od, u, J, l, ru⟩ := exo_inst I1.hok ea ed
  have hs : PySem.W.subIn X.K (.ref C) (.type "BaseException") = some true := (err_sub Z _).trans (by rw [List.contains_cons, List.contains_cons]; rfl)
  exact HandSPX.exc_get I1.kIn J Z.ga Z.gg hs (PySem.W.findObj_own (err_hd Z) Z.noN rfl l) (handed_of ru) ⟨v, H1, I1.tok _, ru, q⟩
end
end EL

set_option Elab.async false
set_option linter.all false
/-! k02: lines and texts as lists of code points -/
namespace Ln
abbrev L := List Nat
def isLet (c : Nat) : Bool := decide (97 ≤ c) && decide (c ≤ 122)
def isFig (c : Nat) : Bool := decide (48 ≤ c) && decide (c ≤ 57)
def grp (c : Nat) : Nat := if isLet c then 97 else if isFig c then 48 else c
/-- does a sign go on with what ran so far -/
def goes (r c : Nat) : Bool := (grp c == r && (grp c == 97 || grp c == 48)) || (grp c == 97 && r == 39)
def addLast (xs : List L) (c : Nat) : List L := xs.dropLast ++ [xs.getLastD [] ++ [c]]
def stepL (s : List L × Nat) (c : Nat) : List L × Nat := if goes s.2 c then (addLast s.1 c, grp c) else if c = 32 then (s.1, grp c) else (s.1 ++ [[c]], grp c)
def scan (l : L) : List L := (l.foldl stepL ([], 32)).1
theorem addLast_snoc (xs : List L) (t : L) (c : Nat) : addLast (xs ++ [t]) c = xs ++ [t ++ [c]] := by
  unfold addLast
  rw [List.dropLast_concat]
  simp
/-- what the program cuts -/
def cutN : Nat → L → List L
  | 0, _ => []
  | _, [] => []
  | n + 1, c :: cs =>
    if c = 39 ∧ (cs.head?.elim false isLet) = true then (c :: cs.takeWhile isLet) :: cutN n (cs.dropWhile isLet)
    else if isLet c then (c :: cs.takeWhile isLet) :: cutN n (cs.dropWhile isLet)
    else if isFig c then (c :: cs.takeWhile isFig) :: cutN n (cs.dropWhile isFig)
    else if c = 32 then cutN n cs else [c] :: cutN n cs
theorem drop_le (p : Nat → Bool) (cs : L) : (cs.dropWhile p).length ≤ cs.length := (List.dropWhile_sublist p).length_le
theorem drop_head (p : Nat → Bool) : ∀ cs : L, ∀ c, (cs.dropWhile p).head? = some c → p c = false
  | [], c, h => by simp at h
  | d :: ds, c, h => by
    rw [List.dropWhile_cons] at h
    split at h
    · exact drop_head p ds c h
    · simp at h
      subst h
      simpa using ‹¬ p d = true›
/-- no sign ahead goes on with r -/
def Closed (r : Nat) (cs : L) : Prop := ∀ c, cs.head? = some c → goes r c = false
theorem let_grp {c : Nat} (h : isLet c = true) : grp c = 97 := by unfold grp; rw [if_pos h]
theorem fig_not_let {c : Nat} (h : isFig c = true) : isLet c = false := by
  unfold isFig at h; unfold isLet
  simp at h ⊢
  omega
theorem fig_grp {c : Nat} (h : isFig c = true) : grp c = 48 := by unfold grp; rw [fig_not_let h, if_pos h]; simp
theorem grp_let {c : Nat} (h : grp c = 97) : isLet c = true := by
  unfold grp at h
  split at h
  · assumption
  · split at h
    · omega
    · subst h; decide
theorem grp_fig {c : Nat} (h : grp c = 48) : isFig c = true := by
  unfold grp at h
  split at h
  · omega
  · split at h
    · assumption
    · subst h; decide
theorem goes_let (c : Nat) : goes 97 c = isLet c := by
  unfold goes
  cases h : isLet c with
  | true => rw [let_grp h]; rfl
  | false =>
    have : ¬ grp c = 97 := fun e => by rw [grp_let e] at h; cases h
    simp [this]
theorem goes_fig (c : Nat) : goes 48 c = isFig c := by
  unfold goes
  cases h : isFig c with
  | true => rw [fig_grp h]; rfl
  | false =>
    have : ¬ grp c = 48 := fun e => by rw [grp_fig e] at h; cases h
    simp [this]
theorem goes_quote (c : Nat) : goes 39 c = isLet c := by
  unfold goes
  cases h : isLet c with
  | true => rw [let_grp h]; rfl
  | false =>
    have h1 : ¬ grp c = 97 := fun e => by rw [grp_let e] at h; cases h
    have h2 : (grp c == 39 && (grp c == 97 || grp c == 48)) = false := by
      by_cases e : grp c = 39
      · rw [e]; rfl
      · simp [e]
    rw [h2]
    simp [h1]
theorem goes_other {r : Nat} (h1 : r ≠ 97) (h2 : r ≠ 48) (h3 : r ≠ 39) (c : Nat) : goes r c = false := by
  unfold goes
  by_cases e : grp c = r
  · rw [e]
    simp [h1, h2, h3]
  · simp [e, h3]
theorem fold_run (p : Nat → Bool) (r : Nat) (hg : ∀ c, p c = true → goes r c = true ∧ grp c = r) : ∀ (cs : L) (xs : List L) (t : L), List.foldl stepL (xs ++ [t], r) cs = List.foldl stepL (xs ++ [t ++ cs.takeWhile p], r) (cs.dropWhile p)
  | [], xs, t => by simp
  | c :: cs, xs, t => by
    rw [List.takeWhile_cons, List.dropWhile_cons]
    cases h : p c with
    | false => simp
    | true =>
      obtain ⟨g1, g2⟩ := hg c h
      rw [List.foldl_cons]
      have e : stepL (xs ++ [t], r) c = (xs ++ [t ++ [c]], r) := by
        unfold stepL
        rw [if_pos g1, addLast_snoc, g2]
      rw [e, fold_run p r hg cs xs (t ++ [c])]
      simp
theorem run_let (cs : L) (xs : List L) (t : L) : List.foldl stepL (xs ++ [t], 97) cs = List.foldl stepL (xs ++ [t ++ cs.takeWhile isLet], 97) (cs.dropWhile isLet) :=
  fold_run isLet 97 (fun c h => ⟨by rw [goes_let]; exact h, let_grp h⟩) cs xs t
theorem run_fig (cs : L) (xs : List L) (t : L) : List.foldl stepL (xs ++ [t], 48) cs = List.foldl stepL (xs ++ [t ++ cs.takeWhile isFig], 48) (cs.dropWhile isFig) :=
  fold_run isFig 48 (fun c h => ⟨by rw [goes_fig]; exact h, fig_grp h⟩) cs xs t
/-- a quote and a letter: the run of letters -/
theorem run_quote {d : Nat} (hd : isLet d = true) (ds : L) (xs : List L) : List.foldl stepL (xs ++ [[39]], 39) (d :: ds) = List.foldl stepL (xs ++ [39 :: (d :: ds).takeWhile isLet], 97) ((d :: ds).dropWhile isLet) := by
  rw [List.foldl_cons]
  have e : stepL (xs ++ [[39]], 39) d = (xs ++ [[39, d]], 97) := by
    unfold stepL
    rw [if_pos (by rw [goes_quote]; exact hd), addLast_snoc, let_grp hd]
    rfl
  rw [e, run_let, List.takeWhile_cons, List.dropWhile_cons, if_pos hd, if_pos hd]
  simp
theorem step_new {xs : List L} {r c : Nat} (h : goes r c = false) (h2 : c ≠ 32) : stepL (xs, r) c = (xs ++ [[c]], grp c) := by
  unfold stepL
  simp [h, h2]
theorem scan_from : ∀ (n : Nat) (cs : L) (xs : List L) (r : Nat), cs.length ≤ n → Closed r cs → (List.foldl stepL (xs, r) cs).1 = xs ++ cutN n cs
  | 0, [], xs, r, _, _ => by simp [cutN]
  | 0, _ :: _, _, _, h, _ => by simp at h
  | n + 1, [], xs, r, _, _ => by simp [cutN]
  | n + 1, c :: cs, xs, r, hn, hc => by
    have g0 : goes r c = false := hc c rfl
    have hn' : cs.length ≤ n := by simp at hn; omega
    unfold cutN
    by_cases hq : c = 39 ∧ (cs.head?.elim false isLet) = true
    · rw [if_pos hq]
      obtain ⟨rfl, h2⟩ := hq
      match cs, h2, hn' with
      | d :: ds, h2, hn' =>
        have hd : isLet d = true := h2
        rw [List.foldl_cons, step_new g0 (by decide), show grp 39 = 39 from rfl, run_quote hd]
        rw [scan_from n _ _ 97 (Nat.le_trans (drop_le _ _) hn') (fun c h => by rw [goes_let]; exact drop_head _ _ c h)]
        simp
    · rw [if_neg hq]
      cases hl : isLet c with
      | true =>
        have h32 : c ≠ 32 := fun e => by subst e; cases hl
        rw [List.foldl_cons, step_new g0 h32, let_grp hl, run_let]
        rw [scan_from n _ _ 97 (Nat.le_trans (drop_le _ _) hn') (fun c h => by rw [goes_let]; exact drop_head _ _ c h)]
        simp
      | false =>
        cases hf : isFig c with
        | true =>
          have h32 : c ≠ 32 := fun e => by subst e; cases hf
          rw [List.foldl_cons, step_new g0 h32, fig_grp hf, run_fig]
          rw [scan_from n _ _ 48 (Nat.le_trans (drop_le _ _) hn') (fun c h => by rw [goes_fig]; exact drop_head _ _ c h)]
          simp
        | false =>
          have hg : grp c = c := by unfold grp; rw [hl, hf]; rfl
          have n97 : c ≠ 97 := fun e => by subst e; cases hl
          have n48 : c ≠ 48 := fun e => by subst e; cases hf
          by_cases h32 : c = 32
          · subst h32
            rw [List.foldl_cons]
            have e : stepL (xs, r) 32 = (xs, 32) := by unfold stepL; simp [g0]; rfl
            rw [e, scan_from n cs xs 32 hn' (fun c _ => goes_other (by decide) (by decide) (by decide) c)]
            simp
          · rw [List.foldl_cons, step_new g0 h32, hg]
            have cl : Closed c cs := fun d hd => by
              by_cases h39 : c = 39
              · subst h39
                rw [goes_quote]
                cases hdl : isLet d with
                | false => rfl
                | true => exact absurd ⟨rfl, by rw [hd]; exact hdl⟩ hq
              · exact goes_other n97 n48 h39 d
            rw [scan_from n cs _ c hn' cl]
            simp [h32]
theorem scan_eq (l : L) : scan l = cutN l.length l := by
  unfold scan
  rw [scan_from l.length l [] 32 (Nat.le_refl _) (fun c _ => goes_other (by decide) (by decide) (by decide) c)]
  rfl
end Ln

set_option Elab.async false
set_option linter.all false
/-! k02: what is rendered is scanned; the tight line is the shortest; which runs are tokens -/
namespace Ln
def kdc (c : Nat) : Nat := if c = 39 then 0 else if isLet c then 1 else if isFig c then 2 else 3
def kd (t : L) : Nat := kdc (t.headD 0)
def jk (a b : Nat) : Bool := (a == 1 && b == 1) || (a == 0 && b == 1) || (a == 2 && b == 2)
def joined (t u : L) : Bool := jk (kd t) (kd u)
inductive Tok : L → Prop
  | word {c : Nat} {cs : L} : isLet c = true → (∀ d ∈ cs, isLet d = true) → Tok (c :: cs)
  | num {c : Nat} {cs : L} : isFig c = true → (∀ d ∈ cs, isFig d = true) → Tok (c :: cs)
  | quoted {c : Nat} {cs : L} : isLet c = true → (∀ d ∈ cs, isLet d = true) → Tok (39 :: c :: cs)
  | sign {c : Nat} : isLet c = false → isFig c = false → c ≠ 39 → c ≠ 32 → Tok [c]
/-- what runs behind a token -/
def lg (t : L) : Nat := if kd t = 0 ∨ kd t = 1 then 97 else if kd t = 2 then 48 else t.headD 0
theorem run_all (p : Nat → Bool) (r : Nat) (hg : ∀ c, p c = true → goes r c = true ∧ grp c = r) : ∀ (cs rest : L) (xs : List L) (t : L), (∀ d ∈ cs, p d = true) → List.foldl stepL (xs ++ [t], r) (cs ++ rest) = List.foldl stepL (xs ++ [t ++ cs], r) rest
  | [], rest, xs, t, _ => by simp
  | c :: cs, rest, xs, t, h => by
    obtain ⟨g1, g2⟩ := hg c (h c List.mem_cons_self)
    rw [List.cons_append, List.foldl_cons]
    have e : stepL (xs ++ [t], r) c = (xs ++ [t ++ [c]], r) := by
      unfold stepL
      rw [if_pos g1, addLast_snoc, g2]
    rw [e, run_all p r hg cs rest xs (t ++ [c]) fun d hd => h d (List.mem_cons_of_mem _ hd)]
    simp
theorem let39 {c : Nat} (h : isLet c = true) : c ≠ 39 := fun e => by subst e; cases h
theorem let32 {c : Nat} (h : isLet c = true) : c ≠ 32 := fun e => by subst e; cases h
theorem fig39 {c : Nat} (h : isFig c = true) : c ≠ 39 := fun e => by subst e; cases h
theorem fig32 {c : Nat} (h : isFig c = true) : c ≠ 32 := fun e => by subst e; cases h
theorem kdc_let {c : Nat} (h : isLet c = true) : kdc c = 1 := by unfold kdc; rw [if_neg (let39 h), if_pos h]
theorem kdc_fig {c : Nat} (h : isFig c = true) : kdc c = 2 := by unfold kdc; rw [if_neg (fig39 h), fig_not_let h, if_pos h]; simp
theorem kdc_other {c : Nat} (h1 : isLet c = false) (h2 : isFig c = false) (h3 : c ≠ 39) : kdc c = 3 := by unfold kdc; rw [if_neg h3, h1, h2]; simp
theorem kdc_one {c : Nat} (h : kdc c = 1) : isLet c = true := by
  unfold kdc at h
  split at h
  · omega
  · split at h
    · assumption
    · split at h <;> omega
theorem kdc_two {c : Nat} (h : kdc c = 2) : isFig c = true := by
  unfold kdc at h
  split at h
  · omega
  · split at h
    · omega
    · split at h
      · assumption
      · omega
theorem fold_tok {t : L} (ht : Tok t) {xs : List L} {r : Nat} (hc : goes r (t.headD 0) = false) (rest : L) : List.foldl stepL (xs, r) (t ++ rest) = List.foldl stepL (xs ++ [t], lg t) rest := by
  cases ht with
  | @word c cs h1 h2 =>
    replace hc : goes r c = false := hc
    have hl : lg (c :: cs) = 97 := by
      unfold lg kd
      rw [show (c :: cs).headD 0 = c from rfl, kdc_let h1]
      rfl
    rw [List.cons_append, List.foldl_cons, step_new hc (let32 h1), let_grp h1, run_all isLet 97 (fun c h => ⟨by rw [goes_let]; exact h, let_grp h⟩) cs rest xs [c] h2, hl]
    rfl
  | @num c cs h1 h2 =>
    replace hc : goes r c = false := hc
    have hl : lg (c :: cs) = 48 := by
      unfold lg kd
      rw [show (c :: cs).headD 0 = c from rfl, kdc_fig h1]
      rfl
    rw [List.cons_append, List.foldl_cons, step_new hc (fig32 h1), fig_grp h1, run_all isFig 48 (fun c h => ⟨by rw [goes_fig]; exact h, fig_grp h⟩) cs rest xs [c] h2, hl]
    rfl
  | @quoted c cs h1 h2 =>
    replace hc : goes r 39 = false := hc
    have hl : lg (39 :: c :: cs) = 97 := rfl
    rw [List.cons_append, List.cons_append, List.foldl_cons, step_new hc (by decide), show grp 39 = 39 from rfl, List.foldl_cons]
    have e : stepL (xs ++ [[39]], 39) c = (xs ++ [[39, c]], 97) := by
      unfold stepL
      rw [if_pos (by rw [goes_quote]; exact h1), addLast_snoc, let_grp h1]
      rfl
    rw [e, run_all isLet 97 (fun c h => ⟨by rw [goes_let]; exact h, let_grp h⟩) cs rest xs [39, c] h2, hl]
    rfl
  | @sign c h1 h2 h3 h4 =>
    replace hc : goes r c = false := hc
    have hl : lg [c] = c := by
      unfold lg kd
      rw [show [c].headD 0 = c from rfl, kdc_other h1 h2 h3]
      rfl
    have hg : grp c = c := by unfold grp; rw [h1, h2]; rfl
    rw [List.cons_append, List.foldl_cons, step_new hc h4, hg, hl]
    rfl
theorem tok_closed {p t : L} (hp : Tok p) (ht : Tok t) (h : joined p t = false) : goes (lg p) (t.headD 0) = false := by
  have key : ∀ c, jk (kd p) (kdc c) = false → goes (lg p) c = false := by
    intro c hj
    cases hp with
    | @word d ds h1 h2 =>
      have e : kd (d :: ds) = 1 := kdc_let h1
      rw [show lg (d :: ds) = 97 by unfold lg; rw [e]; rfl, goes_let]
      rw [e] at hj
      cases hl : isLet c with
      | false => rfl
      | true => rw [kdc_let hl] at hj; cases hj
    | @num d ds h1 h2 =>
      have e : kd (d :: ds) = 2 := kdc_fig h1
      rw [show lg (d :: ds) = 48 by unfold lg; rw [e]; rfl, goes_fig]
      rw [e] at hj
      cases hl : isFig c with
      | false => rfl
      | true => rw [kdc_fig hl] at hj; cases hj
    | @quoted d ds h1 h2 =>
      have e : kd (39 :: d :: ds) = 0 := rfl
      rw [show lg (39 :: d :: ds) = 97 from rfl, goes_let]
      rw [e] at hj
      cases hl : isLet c with
      | false => rfl
      | true => rw [kdc_let hl] at hj; cases hj
    | @sign d h1 h2 h3 h4 =>
      have e : kd [d] = 3 := kdc_other h1 h2 h3
      rw [show lg [d] = d by unfold lg; rw [e]; rfl]
      exact goes_other (fun e => by subst e; cases h1) (fun e => by subst e; cases h2) h3 c
  exact key _ h
theorem goes_blank (r : Nat) : goes r 32 = false := by
  unfold goes
  have : grp 32 = 32 := rfl
  rw [this]
  simp
theorem fold_blank : ∀ (g : Nat) (xs : List L) (r : Nat) (rest : L), List.foldl stepL (xs, r) (List.replicate g 32 ++ rest) = List.foldl stepL (xs, if g = 0 then r else 32) rest
  | 0, xs, r, rest => by simp
  | g + 1, xs, r, rest => by
    rw [List.replicate_succ, List.cons_append, List.foldl_cons]
    have e : stepL (xs, r) 32 = (xs, 32) := by unfold stepL; simp [goes_blank]; rfl
    rw [e, fold_blank g xs 32 rest]
    simp
inductive Rend : Option L → List L → L → Prop
  | nil {p : Option L} (g : Nat) : Rend p [] (List.replicate g 32)
  | cons {p : Option L} {t : L} {ts : List L} {rest : L} (g : Nat) : (∀ q, p = some q → joined q t = true → 0 < g) → Rend (some t) ts rest → Rend p (t :: ts) (List.replicate g 32 ++ (t ++ rest))
theorem rend_from {p : Option L} {ts : List L} {line : L} (h : Rend p ts line) : ∀ {xs : List L} {r : Nat}, (∀ t ∈ ts, Tok t) → (p = none → r = 32) → (∀ q, p = some q → Tok q ∧ r = lg q) → (List.foldl stepL (xs, r) line).1 = xs ++ ts := by
  induction h with
  | nil g =>
    intro xs r _ _ _
    have := fold_blank g xs r []
    rw [List.append_nil] at this
    rw [this]
    simp
  | @cons p t ts rest g hg hr ih =>
    intro xs r ht h0 h1
    have tt := ht t List.mem_cons_self
    have cl : goes (if g = 0 then r else 32) (t.headD 0) = false := by
      by_cases e : g = 0
      · rw [if_pos e]
        cases p with
        | none => rw [h0 rfl]; exact goes_other (by decide) (by decide) (by decide) _
        | some q =>
          obtain ⟨tq, rfl⟩ := h1 q rfl
          refine tok_closed tq tt ?_
          cases hj : joined q t with
          | false => rfl
          | true => exact absurd (hg q rfl hj) (by omega)
      · rw [if_neg e]
        exact goes_other (by decide) (by decide) (by decide) _
    rw [fold_blank, fold_tok tt cl, ih (fun u hu => ht u (List.mem_cons_of_mem _ hu)) (fun z => nomatch z) (fun q e => by cases e; exact ⟨tt, rfl⟩)]
    simp
theorem rend_scan {ts : List L} {line : L} (h : Rend none ts line) (ht : ∀ t ∈ ts, Tok t) : scan line = ts := by
  unfold scan
  rw [rend_from h ht (fun _ => rfl) (fun q e => nomatch e)]
  rfl
/-! ### the tight line -/
def tight : Option L → List L → L
  | _, [] => []
  | p, t :: ts => (if p.elim false (fun q => joined q t) = true then [32] else []) ++ (t ++ tight (some t) ts)
theorem tight_any (p : Option L) : ∀ ts, (tight p ts).length ≤ (tight none ts).length + 1
  | [] => by simp [tight]
  | t :: ts => by
    simp only [tight, List.length_append]
    have h1 : (if p.elim false (fun q => joined q t) = true then [32] else []).length ≤ 1 := by split <;> simp
    omega
theorem tight_free {p : Option L} {t : L} {ts : List L} (h : p.elim false (fun q => joined q t) = false) : (tight p (t :: ts)).length = t.length + (tight (some t) ts).length := by
  simp [tight, h]
theorem take_drop (p : Nat → Bool) (cs : L) : (cs.takeWhile p).length + (cs.dropWhile p).length = cs.length := by
  rw [← List.length_append, List.takeWhile_append_dropWhile]
/-- the head of what comes doesn't join with p -/
def Free (p : Option L) (s : L) : Prop := ∀ q c, p = some q → s.head? = some c → jk (kd q) (kdc c) = false
theorem jk_one {a : Nat} (h : a = 1 ∨ a = 0) {b : Nat} (hb : b ≠ 1) : jk a b = false := by
  rcases h with rfl | rfl <;> simp [jk, hb]
theorem short : ∀ (n : Nat) (s : L) (p : Option L), s.length ≤ n → Free p s → (tight p (cutN n s)).length ≤ s.length
  | 0, [], p, _, _ => by simp [cutN, tight]
  | 0, _ :: _, _, h, _ => by simp at h
  | n + 1, [], p, _, _ => by simp [cutN, tight]
  | n + 1, c :: cs, p, hn, hf => by
    have hn' : cs.length ≤ n := by simp at hn; omega
    have free : ∀ t : L, t.headD 0 = c → p.elim false (fun q => joined q t) = false := by
      intro t ht
      cases p with
      | none => rfl
      | some q =>
        show jk (kd q) (kdc (t.headD 0)) = false
        rw [ht]
        exact hf q c rfl rfl
    have letFree : ∀ (t : L), kd t = 1 ∨ kd t = 0 → Free (some t) (cs.dropWhile isLet) := by
      intro t ht q d hq hd
      cases hq
      refine jk_one ht fun e => ?_
      have := drop_head isLet cs d hd
      rw [kdc_one e] at this
      cases this
    unfold cutN
    by_cases hq : c = 39 ∧ (cs.head?.elim false isLet) = true
    · rw [if_pos hq, tight_free (free _ rfl)]
      obtain ⟨rfl, _⟩ := hq
      have := short n (cs.dropWhile isLet) (some (39 :: cs.takeWhile isLet)) (Nat.le_trans (drop_le _ _) hn') (letFree _ (.inr rfl))
      have := take_drop isLet cs
      simp only [List.length_cons]
      omega
    · rw [if_neg hq]
      cases hl : isLet c with
      | true =>
        simp only [↓reduceIte]
        rw [tight_free (free _ rfl)]
        have := short n (cs.dropWhile isLet) (some (c :: cs.takeWhile isLet)) (Nat.le_trans (drop_le _ _) hn') (letFree _ (.inl (kdc_let hl)))
        have := take_drop isLet cs
        simp only [List.length_cons]
        omega
      | false =>
        cases hfg : isFig c with
        | true =>
          simp only [Bool.false_eq_true, ↓reduceIte]
          rw [tight_free (free _ rfl)]
          have := short n (cs.dropWhile isFig) (some (c :: cs.takeWhile isFig)) (Nat.le_trans (drop_le _ _) hn') (by
            intro q d hq2 hd
            cases hq2
            have e2 : kd (c :: cs.takeWhile isFig) = 2 := kdc_fig hfg
            rw [e2]
            have h3 := drop_head isFig cs d hd
            have h4 : kdc d ≠ 2 := fun e => by rw [kdc_two e] at h3; cases h3
            simp [jk, h4])
          have := take_drop isFig cs
          simp only [List.length_cons]
          omega
        | false =>
          simp only [Bool.false_eq_true, ↓reduceIte]
          by_cases h32 : c = 32
          · rw [if_pos h32]
            have h1 := short n cs none hn' (fun q c e => nomatch e)
            have h2 := tight_any p (cutN n cs)
            simp only [List.length_cons]
            omega
          · rw [if_neg h32, tight_free (free _ rfl)]
            have := short n cs (some [c]) hn' (by
              intro q d hq2 hd
              cases hq2
              by_cases h39 : c = 39
              · subst h39
                refine jk_one (.inr rfl) fun e => hq ⟨rfl, ?_⟩
                rw [hd]
                exact kdc_one e
              · have e3 : kd [c] = 3 := kdc_other hl hfg h39
                rw [e3]
                rfl)
            simp only [List.length_cons, List.length_nil]
            omega
theorem tight_short (s : L) : (tight none (scan s)).length ≤ s.length := by
  rw [scan_eq]
  exact short _ _ _ (Nat.le_refl _) (fun q c e => nomatch e)
/-! ### which runs are tokens -/
def signs : L := [43, 45, 42, 47, 60, 62, 61, 46, 44, 59, 58, 33, 63, 38, 124, 64, 94, 126, 91, 93, 123, 125]
def isRun (p : Nat → Bool) (t : L) : Bool := decide (1 ≤ t.length) && decide (t.length ≤ 8) && t.all p
def isWord (t : L) : Bool := isRun isLet t
def isSign (t : L) : Bool := decide (t.length = 1) && t.all (fun c => signs.contains c)
def isNum (t : L) : Bool := isRun isFig t && (t == [48] || !(t.headD 0 == 48))
def isQuoted (t : L) : Bool := (t.take 1 == [39]) && isWord (t.drop 1)
def isTok (t : L) : Bool := t == [40] || t == [41] || isWord t || isSign t || isNum t || isQuoted t
def good (t : L) : Bool :=
  if isLet (t.headD 0) || t.headD 0 == 39 then decide (0 < (t.filter fun c => c != 39).length) && decide ((t.filter fun c => c != 39).length < 9)
  else if isFig (t.headD 0) then t == [48] || (!(t.headD 0 == 48) && decide (t.length < 9))
  else t.length == 1 && (signs ++ [40, 41]).contains (t.headD 0)
inductive Raw : L → Prop
  | word {c : Nat} {cs : L} : isLet c = true → (∀ d ∈ cs, isLet d = true) → Raw (c :: cs)
  | num {c : Nat} {cs : L} : isFig c = true → (∀ d ∈ cs, isFig d = true) → Raw (c :: cs)
  | quoted {c : Nat} {cs : L} : isLet c = true → (∀ d ∈ cs, isLet d = true) → Raw (39 :: c :: cs)
  | sign {c : Nat} : isLet c = false → isFig c = false → c ≠ 32 → Raw [c]
theorem mem_take (p : Nat → Bool) : ∀ (cs : L), ∀ d ∈ cs.takeWhile p, p d = true
  | [], d, h => by simp at h
  | c :: cs, d, h => by
    rw [List.takeWhile_cons] at h
    split at h
    · rcases List.mem_cons.mp h with rfl | h
      · assumption
      · exact mem_take p cs d h
    · simp at h
theorem cut_raw : ∀ (n : Nat) (s : L), ∀ t ∈ cutN n s, Raw t
  | 0, s, t, h => by simp [cutN] at h
  | n + 1, [], t, h => by simp [cutN] at h
  | n + 1, c :: cs, t, h => by
    unfold cutN at h
    split at h
    · rename_i hq
      obtain ⟨rfl, h2⟩ := hq
      rcases List.mem_cons.mp h with rfl | h
      · match cs, h2 with
        | d :: ds, h2 =>
          have hd : isLet d = true := h2
          rw [List.takeWhile_cons, if_pos hd]
          exact .quoted hd (mem_take _ _)
      · exact cut_raw n _ t h
    · split at h
      · rename_i hl
        rcases List.mem_cons.mp h with rfl | h
        · exact .word hl (mem_take _ _)
        · exact cut_raw n _ t h
      · rename_i hl
        split at h
        · rename_i hf
          rcases List.mem_cons.mp h with rfl | h
          · exact .num hf (mem_take _ _)
          · exact cut_raw n _ t h
        · rename_i hf
          split at h
          · exact cut_raw n _ t h
          · rename_i h32
            rcases List.mem_cons.mp h with rfl | h
            · exact .sign (by simpa using hl) (by simpa using hf) h32
            · exact cut_raw n _ t h
theorem let_sign {c : Nat} (h : isLet c = true) : signs.contains c = false := by
  unfold isLet at h
  simp at h
  simp [signs]
  omega
theorem fig_sign {c : Nat} (h : isFig c = true) : signs.contains c = false := by
  unfold isFig at h
  simp at h
  simp [signs]
  omega
theorem filter_let : ∀ {cs : L}, (∀ d ∈ cs, isLet d = true) → (cs.filter fun c => c != 39) = cs
  | cs, h => List.filter_eq_self.mpr fun d hd => by simpa using let39 (h d hd)
theorem let_not40 {c : Nat} (h : isLet c = true) : c ≠ 40 ∧ c ≠ 41 ∧ c ≠ 48 := by
  unfold isLet at h
  simp at h
  omega
theorem fig_not40 {c : Nat} (h : isFig c = true) : c ≠ 40 ∧ c ≠ 41 := by
  unfold isFig at h
  simp at h
  omega
theorem good_tok {t : L} (h : Raw t) : good t = isTok t := by
  cases h with
  | @word c cs h1 h2 =>
    have n39 := let39 h1
    obtain ⟨n40, n41, _⟩ := let_not40 h1
    have all : (c :: cs).all isLet = true := List.all_eq_true.mpr fun d hd => by rcases List.mem_cons.mp hd with rfl | hd; exact h1; exact h2 d hd
    have nf : isFig c = false := by
      cases e : isFig c with
      | false => rfl
      | true => rw [fig_not_let e] at h1; cases h1
    have f : ((c :: cs).filter fun c => c != 39) = c :: cs := filter_let fun d hd => by rcases List.mem_cons.mp hd with rfl | hd; exact h1; exact h2 d hd
    unfold good isTok isWord isSign isNum isQuoted isRun
    rw [f, all]
    simp only [List.headD_cons, h1, Bool.true_or, ↓reduceIte, List.all_cons, nf, let_sign h1, List.take_succ_cons, List.take_zero]
    have e1 : (c :: cs == [40]) = false := by simp [n40]
    have e2 : (c :: cs == [41]) = false := by simp [n41]
    have e3 : ([c] == [39]) = false := by simp [n39]
    rw [e1, e2, e3]
    simp
    omega
  | @num c cs h1 h2 =>
    have n39 := fig39 h1
    obtain ⟨n40, n41⟩ := fig_not40 h1
    have all : (c :: cs).all isFig = true := List.all_eq_true.mpr fun d hd => by rcases List.mem_cons.mp hd with rfl | hd; exact h1; exact h2 d hd
    have nl := fig_not_let h1
    unfold good isTok isWord isSign isNum isQuoted isRun
    rw [all]
    have e1 : (c :: cs == [40]) = false := by simp [n40]
    have e2 : (c :: cs == [41]) = false := by simp [n41]
    have e3 : ([c] == [39]) = false := by simp [n39]
    have e4 : (c == 39) = false := by simp [n39]
    simp only [List.headD_cons, h1, nl, Bool.false_or, e4, Bool.false_eq_true, ↓reduceIte, List.all_cons, fig_sign h1, List.take_succ_cons, List.take_zero, e1, e2, e3, Bool.false_and, Bool.and_false, Bool.or_false]
    by_cases z : c = 48
    · subst z
      cases cs with
      | nil => rfl
      | cons d ds => simp
    · have e5 : (c == 48) = false := by simp [z]
      have e6 : (c :: cs == [48]) = false := by simp [z]
      rw [e5, e6]
      simp
      omega
  | @quoted c cs h1 h2 =>
    have all : (c :: cs).all isLet = true := List.all_eq_true.mpr fun d hd => by rcases List.mem_cons.mp hd with rfl | hd; exact h1; exact h2 d hd
    have f : ((c :: cs).filter fun c => c != 39) = c :: cs := filter_let fun d hd => by rcases List.mem_cons.mp hd with rfl | hd; exact h1; exact h2 d hd
    have f2 : ((39 :: c :: cs).filter fun c => c != 39) = c :: cs := by rw [List.filter_cons]; simpa using f
    unfold good isTok isWord isSign isNum isQuoted isRun
    rw [f2]
    simp only [List.drop_succ_cons, List.drop_zero, all, List.headD_cons, beq_self_eq_true, Bool.or_true, ↓reduceIte, List.all_cons, show isLet 39 = false from rfl, show isFig 39 = false from rfl, Bool.false_and, Bool.and_false, Bool.or_false, List.take_succ_cons, List.take_zero, Bool.true_and, Bool.and_true]
    have e1 : (39 :: c :: cs == [40]) = false := by simp
    have e2 : (39 :: c :: cs == [41]) = false := by simp
    have e3 : List.contains signs 39 = false := by decide
    rw [e1, e2, e3]
    unfold isWord isRun
    rw [all]
    simp
    omega
  | @sign c h1 h2 h3 =>
    by_cases h39 : c = 39
    · subst h39
      decide
    · have e4 : (c == 39) = false := by simp [h39]
      unfold good isTok isWord isSign isNum isQuoted isRun
      simp only [List.headD_cons, h1, h2, e4, Bool.or_self, Bool.false_eq_true, ↓reduceIte, List.all_cons, Bool.false_and, Bool.and_false, Bool.or_false, List.take_succ_cons, List.take_zero]
      simp [h39, signs]
      by_cases a : c = 40
      · subst a; decide
      · by_cases b : c = 41
        · subst b; decide
        · have e5 : (c == 40) = false := by simp [a]
          have e6 : (c == 41) = false := by simp [b]
          rw [e5, e6, e4]
          simp [a, b]
/-- what a line is told as -/
def told (l : L) : Option (List L) := if (scan l).all isTok then some (scan l) else none
theorem told_good (l : L) : told l = if (scan l).all good then some (scan l) else none := by
  unfold told
  have : (scan l).all good = (scan l).all isTok := by
    rw [scan_eq]
    have h := cut_raw l.length l
    generalize cutN l.length l = ts at h
    induction ts with
    | nil => rfl
    | cons t ts ih => rw [List.all_cons, List.all_cons, good_tok (h t List.mem_cons_self), ih fun u hu => h u (List.mem_cons_of_mem _ hu)]
  rw [this]
end Ln

set_option Elab.async false
set_option linter.all false
/-! k02: steps of the cut, ends of tokens, the law's lines -/
namespace Ln
theorem scan_cut {n : Nat} {l : L} (h : l.length ≤ n) : scan l = cutN n l := by
  unfold scan
  rw [scan_from n l [] 32 h (fun c _ => goes_other (by decide) (by decide) (by decide) c)]
  rfl
theorem tw_take (p : Nat → Bool) (cs : L) : cs.take (cs.takeWhile p).length = cs.takeWhile p := by
  have h : cs.takeWhile p ++ cs.dropWhile p = cs := List.takeWhile_append_dropWhile
  have := congrArg (List.take (cs.takeWhile p).length) h
  rw [List.take_left] at this
  exact this.symm
theorem tw_drop (p : Nat → Bool) (cs : L) : cs.drop (cs.takeWhile p).length = cs.dropWhile p := by
  have h : cs.takeWhile p ++ cs.dropWhile p = cs := List.takeWhile_append_dropWhile
  have := congrArg (List.drop (cs.takeWhile p).length) h
  rw [List.drop_left] at this
  exact this.symm
/-- how many signs run together behind the first one -/
def more (c : Nat) (cs : L) : Nat :=
  if c = 39 ∧ (cs.head?.elim false isLet) = true then (cs.takeWhile isLet).length else if isLet c then (cs.takeWhile isLet).length else if isFig c then (cs.takeWhile isFig).length else 0
theorem scan_step (c : Nat) (cs : L) : scan (c :: cs) = (if c = 32 then [] else [(c :: cs).take (more c cs + 1)]) ++ scan ((c :: cs).drop (more c cs + 1)) := by
  rw [scan_cut (n := cs.length + 1) (by simp)]
  unfold cutN more
  by_cases hq : c = 39 ∧ (cs.head?.elim false isLet) = true
  · rw [if_pos hq, if_pos hq]
    obtain ⟨rfl, _⟩ := hq
    rw [if_neg (by decide), List.take_succ_cons, List.drop_succ_cons, tw_take, tw_drop, scan_cut (drop_le _ _)]
    rfl
  · rw [if_neg hq, if_neg hq]
    cases hl : isLet c with
    | true =>
      simp only [↓reduceIte]
      rw [if_neg (let32 hl), List.take_succ_cons, List.drop_succ_cons, tw_take, tw_drop, scan_cut (drop_le _ _)]
      rfl
    | false =>
      cases hf : isFig c with
      | true =>
        simp only [Bool.false_eq_true, ↓reduceIte]
        rw [if_neg (fig32 hf), List.take_succ_cons, List.drop_succ_cons, tw_take, tw_drop, scan_cut (drop_le _ _)]
        rfl
      | false =>
        simp only [Bool.false_eq_true, ↓reduceIte]
        by_cases h : c = 32
        · rw [if_pos h, if_pos h, List.drop_succ_cons, List.drop_zero, scan_cut (Nat.le_refl _)]
          rfl
        · rw [if_neg h, if_neg h, List.take_succ_cons, List.drop_succ_cons, List.drop_zero, List.take_zero, scan_cut (Nat.le_refl _)]
          rfl
theorem more_le (c : Nat) (cs : L) : more c cs ≤ cs.length := by
  have h : ∀ p : Nat → Bool, (cs.takeWhile p).length ≤ cs.length := fun p => (List.takeWhile_sublist p).length_le
  unfold more
  split
  · exact h _
  · split
    · exact h _
    · split
      · exact h _
      · exact Nat.zero_le _
/-- the first k of a run satisfy p; the next one doesn't -/
theorem tw_lt {p : Nat → Bool} : ∀ {cs : L} {k : Nat}, k < (cs.takeWhile p).length → ∃ c, cs[k]? = some c ∧ p c = true
  | [], k, h => by simp at h
  | d :: ds, k, h => by
    rw [List.takeWhile_cons] at h
    split at h
    · rename_i hd
      cases k with
      | zero => exact ⟨d, rfl, hd⟩
      | succ k =>
        obtain ⟨c, h1, h2⟩ := tw_lt (cs := ds) (k := k) (by simpa using h)
        exact ⟨c, by simpa using h1, h2⟩
    · simp at h
theorem tw_end {p : Nat → Bool} : ∀ {cs : L} {c : Nat}, cs[(cs.takeWhile p).length]? = some c → p c = false
  | [], c, h => by simp at h
  | d :: ds, c, h => by
    rw [List.takeWhile_cons] at h
    split at h
    · exact tw_end (cs := ds) (by simpa using h)
    · rename_i hd
      simp at h
      subst h
      simpa using hd
/-! ### tokens -/
theorem run_all' {p : Nat → Bool} {t : L} (h : isRun p t = true) : 1 ≤ t.length ∧ t.length ≤ 8 ∧ ∀ d ∈ t, p d = true := by
  unfold isRun at h
  simp only [Bool.and_eq_true, decide_eq_true_eq, List.all_eq_true] at h
  exact ⟨h.1.1, h.1.2, h.2⟩
theorem tok_of {t : L} (h : isTok t = true) : Tok t ∧ t.length ≤ 9 := by
  unfold isTok at h
  simp only [Bool.or_eq_true] at h
  rcases h with ((((h | h) | h) | h) | h) | h
  · have : t = [40] := by simpa using h
    subst this
    exact ⟨.sign rfl rfl (by decide) (by decide), by decide⟩
  · have : t = [41] := by simpa using h
    subst this
    exact ⟨.sign rfl rfl (by decide) (by decide), by decide⟩
  · obtain ⟨h1, h2, h3⟩ := run_all' h
    match t, h1, h2, h3 with
    | c :: cs, _, h2, h3 => exact ⟨.word (h3 c List.mem_cons_self) fun d hd => h3 d (List.mem_cons_of_mem _ hd), by omega⟩
  · unfold isSign at h
    simp only [Bool.and_eq_true, decide_eq_true_eq] at h
    match t, h with
    | [c], ⟨_, h⟩ =>
      have hc : signs.contains c = true := by simpa using h
      refine ⟨.sign ?_ ?_ ?_ ?_, by simp⟩
      · cases e : isLet c with
        | false => rfl
        | true => rw [let_sign e] at hc; cases hc
      · cases e : isFig c with
        | false => rfl
        | true => rw [fig_sign e] at hc; cases hc
      · intro e; subst e; exact absurd hc (by decide)
      · intro e; subst e; exact absurd hc (by decide)
  · unfold isNum at h
    simp only [Bool.and_eq_true] at h
    obtain ⟨h1, h2, h3⟩ := run_all' h.1
    match t, h1, h2, h3 with
    | c :: cs, _, h2, h3 => exact ⟨.num (h3 c List.mem_cons_self) fun d hd => h3 d (List.mem_cons_of_mem _ hd), by omega⟩
  · unfold isQuoted isWord at h
    simp only [Bool.and_eq_true] at h
    obtain ⟨h0, h⟩ := h
    obtain ⟨h1, h2, h3⟩ := run_all' h
    match t, h0, h1, h2, h3 with
    | q :: c :: cs, h0, _, h2, h3 =>
      have : q = 39 := by simpa using h0
      subst this
      simp at h2
      exact ⟨.quoted (h3 c (by simp)) fun d hd => h3 d (by simp [hd]), by simp; omega⟩
    | [q], h0, h1, _, _ => simp at h1
    | [], h0, _, _, _ => simp at h0
theorem word_kd {t : L} (h : isTok t = true) : isWord t = (kd t == 1) ∧ isQuoted t = (kd t == 0) ∧ isNum t = (kd t == 2) := by
  unfold isTok at h
  simp only [Bool.or_eq_true] at h
  have nw : ∀ {c : Nat} {cs : L}, isLet c = false → isWord (c :: cs) = false := fun {c cs} e => by
    unfold isWord isRun
    rw [List.all_cons, e]
    simp
  have nn : ∀ {c : Nat} {cs : L}, isFig c = false → isNum (c :: cs) = false := fun {c cs} e => by
    unfold isNum isRun
    rw [List.all_cons, e]
    simp
  have nq : ∀ {c : Nat} {cs : L}, c ≠ 39 → isQuoted (c :: cs) = false := fun {c cs} e => by
    unfold isQuoted
    simp [e]
  rcases h with ((((h | h) | h) | h) | h) | h
  · have : t = [40] := by simpa using h
    subst this
    decide
  · have : t = [41] := by simpa using h
    subst this
    decide
  · obtain ⟨h1, h2, h3⟩ := run_all' h
    match t, h1, h, h3 with
    | c :: cs, _, h, h3 =>
      have hc := h3 c List.mem_cons_self
      have nf : isFig c = false := by
        cases e : isFig c with
        | false => rfl
        | true => rw [fig_not_let e] at hc; cases hc
      rw [h, nq (let39 hc), nn nf, show kd (c :: cs) = 1 from kdc_let hc]
      decide
  · unfold isSign at h
    simp only [Bool.and_eq_true, decide_eq_true_eq] at h
    match t, h with
    | [c], ⟨_, h⟩ =>
      have hc : signs.contains c = true := by simpa using h
      have nl : isLet c = false := by
        cases e : isLet c with
        | false => rfl
        | true => rw [let_sign e] at hc; cases hc
      have nf : isFig c = false := by
        cases e : isFig c with
        | false => rfl
        | true => rw [fig_sign e] at hc; cases hc
      have n39 : c ≠ 39 := by intro e; subst e; exact absurd hc (by decide)
      rw [nw nl, nq n39, nn nf, show kd [c] = 3 from kdc_other nl nf n39]
      decide
  · have hn := h
    unfold isNum at h
    simp only [Bool.and_eq_true] at h
    obtain ⟨h1, h2, h3⟩ := run_all' h.1
    match t, h1, hn, h3 with
    | c :: cs, _, hn, h3 =>
      have hc := h3 c List.mem_cons_self
      rw [hn, nw (fig_not_let hc), nq (fig39 hc), show kd (c :: cs) = 2 from kdc_fig hc]
      decide
  · have hn := h
    unfold isQuoted at h
    simp only [Bool.and_eq_true] at h
    match t, h.1, hn with
    | q :: cs, h0, hn =>
      have : q = 39 := by simpa using h0
      subst this
      rw [hn, nw rfl, nn rfl, show kd (39 :: cs) = 0 from rfl]
      decide
    | [], h0, _ => simp at h0
/-- the program's word on neighbours -/
def together (t u : L) : Bool := if isWord u then isWord t || isQuoted t else isNum t && isNum u
theorem together_joined {t u : L} (ht : isTok t = true) (hu : isTok u = true) : together t u = joined t u := by
  obtain ⟨a, b, c⟩ := word_kd ht
  obtain ⟨d, e, f⟩ := word_kd hu
  unfold together joined jk
  rw [a, b, c, d, f]
  cases h1 : (kd u == 1) with
  | true =>
    have : kd u = 1 := by simpa using h1
    rw [this]
    simp [Bool.or_comm]
  | false => simp
/-! ### the law's line -/
def need (ts : List L) (i : Nat) : Bool := decide (0 < i) && joined (ts.getD (i - 1) []) (ts.getD i [])
def lineTo (ts : List L) (g : Nat → Nat) : Nat → L
  | 0 => []
  | i + 1 => lineTo ts g i ++ (List.replicate (g i + (if need ts i then 1 else 0)) 32 ++ ts.getD i [])
def lawLine (ts : List L) (g : Nat → Nat) : L := lineTo ts g ts.length ++ List.replicate (g ts.length) 32
/-- the rest of the line behind n - m tokens -/
def tailAt (ts : List L) (g : Nat → Nat) : Nat → L
  | 0 => List.replicate (g ts.length) 32
  | m + 1 => List.replicate (g (ts.length - (m + 1)) + (if need ts (ts.length - (m + 1)) then 1 else 0)) 32 ++ (ts.getD (ts.length - (m + 1)) [] ++ tailAt ts g m)
theorem line_tail (ts : List L) (g : Nat → Nat) : ∀ m, m ≤ ts.length → lineTo ts g (ts.length - m) ++ tailAt ts g m = lawLine ts g
  | 0, _ => rfl
  | m + 1, h => by
    have ih := line_tail ts g m (by omega)
    have e : ts.length - m = (ts.length - (m + 1)) + 1 := by omega
    rw [e] at ih
    rw [← ih]
    simp [lineTo, tailAt]
def prev (ts : List L) (i : Nat) : Option L := if i = 0 then none else some (ts.getD (i - 1) [])
theorem drop_cons {ts : List L} {i : Nat} (h : i < ts.length) : ts.drop i = ts.getD i [] :: ts.drop (i + 1) := by
  rw [List.drop_eq_getElem_cons h, List.getD_eq_getElem?_getD, List.getElem?_eq_getElem h]
  rfl
theorem tail_rend (ts : List L) (g : Nat → Nat) : ∀ m, m ≤ ts.length → Rend (prev ts (ts.length - m)) (ts.drop (ts.length - m)) (tailAt ts g m)
  | 0, _ => by
    rw [Nat.sub_zero, List.drop_length]
    exact .nil _
  | m + 1, h => by
    have hi : ts.length - (m + 1) < ts.length := by omega
    have ih := tail_rend ts g m (by omega)
    have e : ts.length - m = (ts.length - (m + 1)) + 1 := by omega
    rw [e] at ih
    rw [drop_cons hi]
    refine .cons _ (fun q hq hj => ?_) ?_
    · unfold prev at hq
      split at hq
      · cases hq
      · rename_i h0
        cases hq
        have : need ts (ts.length - (m + 1)) = true := by
          unfold need
          rw [hj, decide_eq_true (by omega)]
          rfl
        rw [this]
        simp
    · have : prev ts (ts.length - (m + 1) + 1) = some (ts.getD (ts.length - (m + 1)) []) := by
        unfold prev
        rw [if_neg (by omega)]
        rfl
      rw [this] at ih
      exact ih
theorem line_scan {ts : List L} (g : Nat → Nat) (ht : ∀ t ∈ ts, Tok t) : scan (lawLine ts g) = ts := by
  have h := tail_rend ts g ts.length (Nat.le_refl _)
  have e := line_tail ts g ts.length (Nat.le_refl _)
  rw [Nat.sub_self] at h e
  have e0 : lineTo ts g 0 = [] := rfl
  rw [e0, List.nil_append] at e
  rw [e] at h
  exact rend_scan h ht
theorem tail_tight (ts : List L) : ∀ m, m ≤ ts.length → tailAt ts (fun _ => 0) m = tight (prev ts (ts.length - m)) (ts.drop (ts.length - m))
  | 0, _ => by
    rw [Nat.sub_zero, List.drop_length]
    simp [tailAt, tight]
  | m + 1, h => by
    have hi : ts.length - (m + 1) < ts.length := by omega
    have ih := tail_tight ts m (by omega)
    have e : ts.length - m = (ts.length - (m + 1)) + 1 := by omega
    rw [e] at ih
    rw [drop_cons hi]
    unfold tailAt tight
    rw [ih]
    have : prev ts (ts.length - (m + 1) + 1) = some (ts.getD (ts.length - (m + 1)) []) := by
      unfold prev
      rw [if_neg (by omega)]
      rfl
    rw [this]
    congr 1
    unfold prev need
    by_cases h0 : ts.length - (m + 1) = 0
    · rw [if_pos h0, decide_eq_false (by omega)]
      simp
    · rw [if_neg h0, decide_eq_true (by omega)]
      simp only [Bool.true_and, Nat.zero_add, Option.elim]
      by_cases hj : joined (ts.getD (ts.length - (m + 1) - 1) []) (ts.getD (ts.length - (m + 1)) []) = true
      · rw [if_pos hj]
        exact (if_pos hj).symm
      · rw [if_neg hj]
        exact (if_neg hj).symm
theorem line_tight (ts : List L) : lawLine ts (fun _ => 0) = tight none ts := by
  have h := tail_tight ts ts.length (Nat.le_refl _)
  have e := line_tail ts (fun _ => 0) ts.length (Nat.le_refl _)
  rw [Nat.sub_self] at h e
  have e0 : lineTo ts (fun _ => 0) 0 = [] := rfl
  rw [e0, List.nil_append] at e
  rw [← e, h]
  rfl
/-- what is shorter than the tight line is not scanned to its text -/
theorem shorter_not {ts : List L} {s : L} (h : s.length < (tight none ts).length) : scan s ≠ ts := fun e => by
  have := tight_short s
  rw [e] at this
  omega
/-! ### one blank between -/
def jn : List L → L
  | [] => []
  | [t] => t
  | t :: u :: r => t ++ (32 :: jn (u :: r))
theorem jn_rend : ∀ (ts : List L) (t : L), Rend none (t :: ts) (jn (t :: ts)) ∧ ∀ q, Rend (some q) (t :: ts) (32 :: jn (t :: ts))
  | [], t => by
    have base : ∀ p, Rend p [] (List.replicate 0 32) := fun p => .nil 0
    refine ⟨?_, fun q => ?_⟩
    · have := Rend.cons (p := none) (t := t) (ts := []) 0 (fun q e => nomatch e) (base _)
      simpa [jn] using this
    · have := Rend.cons (p := some q) (t := t) (ts := []) 1 (fun _ _ _ => by omega) (base _)
      simpa [jn] using this
  | u :: r, t => by
    obtain ⟨_, ih⟩ := jn_rend r u
    refine ⟨?_, fun q => ?_⟩
    · have := Rend.cons (p := none) (t := t) 0 (fun q e => nomatch e) (ih t)
      simpa [jn] using this
    · have := Rend.cons (p := some q) (t := t) 1 (fun _ _ _ => by omega) (ih t)
      simpa [jn] using this
theorem jn_scan {ts : List L} (ht : ∀ t ∈ ts, Tok t) : scan (jn ts) = ts := by
  cases ts with
  | nil => rfl
  | cons t ts => exact rend_scan (jn_rend ts t).1 ht
end Ln

set_option Elab.async false
set_option linter.all false
set_option maxRecDepth 100000
set_option maxHeartbeats 4000000
/-! k02: list(text), text * n, own errors raised and read -/
namespace EL
open PySem PySem.Spec PyProof.Rows L2
open PySem.EV (ErrC ErrI Hand OwnMade)
/-! ### list(text) -/
def signsOf (x : Str) : List V := x.cps.toList.map fun c => V.str ⟨#[c]⟩
def rListS : List V → Hp → VK → Prop := fun xs H Q => ∃ x, xs = [.str x] ∧ x.length ≤ sizeLine ∧ ∀ p, H p = none → Q (.ref p) (upd H p (.lst (signsOf x)))
theorem call_listS {X : Cx} (hc : X.calm = true) : CallR X (.type "list") rListS := by
  intro pins s σ H xs us Q I r h
  obtain ⟨x, rfl, hz, q⟩ := h
  obtain ⟨u, rfl, t, rfl⟩ := vals1 r
  have hz' : x.cps.size ≤ sizeLine := hz
  refine call_list_str (hn := hz') (I.ok.hd hc) x t fun h' tk acc c' hk e hi => ?_
  refine ⟨.ref s.heap.objs.size, _, I.laid (t' := tk) hk (Nat.le_refl _) (show ObjOk X.prog X.w _ h' _ (.lst (signsOf x)) from ⟨?_, acc.toList, c', ?_, ?_⟩), rfl, q _ (I.hok.fresh (Nat.le_refl _))⟩
  · show (x.cps.toList.map _).length ≤ _
    rw [List.length_map, Array.length_toList]
    exact hz'
  · refine vals_of_idx _ _ ?_ fun j u hj => ?_
    · show _ = (x.cps.toList.map _).length
      rw [List.length_map, Array.length_toList, Array.length_toList]
      exact hi.1
    · obtain ⟨c, t', hcj, rfl⟩ := hi.2 j u (by rw [← Array.getElem?_toList]; exact hj)
      refine ⟨.str ⟨#[c]⟩, ?_, ⟨_, rfl⟩⟩
      show (x.cps.toList.map _)[j]? = _
      rw [List.getElem?_map, Array.getElem?_toList, hcj]
      rfl
  · rw [Array.toArray_toList]
    exact e
/-! ### text * n -/
theorem foldl_copies (a : Array Nat) : ∀ (n : Nat) (b : Array Nat), ((List.replicate n a).foldl (· ++ ·) b).toList = b.toList ++ (List.replicate n a.toList).flatten
  | 0, b => by simp
  | n + 1, b => by
    rw [List.replicate_succ, List.foldl_cons, foldl_copies a n (b ++ a), List.replicate_succ]
    simp
/-- one blank, n times -/
def rTimes : R2 := fun x y H Q => ∃ (c : Nat) (n : Int), x = .str ⟨#[c]⟩ ∧ y = .int n ∧ 0 ≤ n ∧ n ≤ 1000 ∧ Q (.str ⟨(List.replicate n.toNat c).toArray⟩) H
theorem times_one (c : Nat) (n : Int) (h0 : 0 ≤ n) : Txt.mul ⟨#[c]⟩ n = ⟨(List.replicate n.toNat c).toArray⟩ := by
  unfold Txt.mul
  by_cases h1 : n < 1
  · have : n = 0 := by omega
    subst this
    rfl
  · rw [if_neg h1]
    by_cases h2 : n = 1
    · subst h2
      rfl
    · have e2 : (n == 1 || (⟨#[c]⟩ : Str).length == 0) = false := by
        have : ((⟨#[c]⟩ : Str).length == 0) = false := rfl
        rw [this, Bool.or_false]
        simpa using h2
      rw [e2]
      simp only [Bool.false_eq_true, ↓reduceIte]
      congr 1
      apply Array.toList_inj.mp
      rw [foldl_copies]
      have hf : ∀ k : Nat, (List.replicate k [c]).flatten = List.replicate k c := by
        intro k
        induction k with
        | zero => rfl
        | succ k ih => rw [List.replicate_succ, List.flatten_cons, ih, List.replicate_succ]; rfl
      simp [hf]
theorem op_times {X : Cx} : OpR X (binaryOp .Mult) rTimes := by
  intro pins s σ H x y v u Q I rx ry h
  obtain ⟨c, n, rfl, rfl, h0, h1, q⟩ := h
  obtain ⟨t, rfl⟩ := rx
  obtain ⟨t2, rfl⟩ := ry
  have hz : (100000 : Nat) ≤ sizeLine := by rw [sizeLine_eq]; decide
  refine SB.mul ?_ fun t' k => ⟨.str _, H, I.tok k, ⟨t', rfl⟩, ?_⟩
  · refine ⟨?_, fun h2 _ => ?_, fun _ _ => ?_⟩
    · rw [Bool.or_eq_false_iff]
      exact ⟨decide_eq_false (by omega), decide_eq_false (by omega)⟩
    · show ¬ ((1 : Int) > (2 ^ 63 - 1) / n)
      have : (1 : Int) ≤ (2 ^ 63 - 1) / n := (Int.le_ediv_iff_mul_le (by omega)).mpr (by omega)
      omega
    · show decide _ = false
      refine decide_eq_false ?_
      show ¬ (1 * n.toNat > sizeLine)
      omega
  · rw [times_one c n h0]
    exact q
end EL

set_option Elab.async false
set_option linter.all false
set_option maxRecDepth 100000
set_option maxHeartbeats 4000000
/-! k02: own errors raised, caught, their field read in the suite -/
namespace EL
open PySem PySem.Spec PyProof.Rows L2
open PySem.EV (ErrC ErrI Hand OwnMade)
theorem err_raises {X : Cx} {C T : Addr} (Z : ErrC X.K C T) : Raises X (.ref C) := by
  refine raises_own ?_ ?_
  · exact (err_sub Z _).trans (by rw [List.contains_cons, List.contains_cons]; rfl)
  · obtain ⟨nm, q, N, bs, sn, sub, ab, col, dd, k0, k1, k2, k3, k5, hC⟩ := Z.cls
    show (X.K.lookup C).map (·.cls) = _
    rw [hC]
    rfl
section
variable {X : Cx} {C T fI : Addr} {x : Str}
/-- C(e), about to fly: its own dict holds the value -/
def tMkErr (C : Addr) (te : TE) : L2.St → Hp → XK → Prop := fun σ H Q => te σ H fun v H1 => ∀ d, H1 d = none → Q (.ref C) (some d) (upd H1 d (.xd [("value", v)]))
theorem pmk_err {e : Expr} {te : TE} {p pos : Pos} {k : Nat} (Z : ErrC X.K C T) (J : ErrI X.K C fI) (hr : Room k X.A) (hm : X.mg x = some (.ref C)) (he : PE X e te) (hg : Gl X x := by rfl) (hdb : (x == ("__debug__" : Str)) = false := by decide)
    (hs : starEach (e :: []) X.env = (false, eval e X.env) :: starEach [] X.env := by rfl) (hpl : (backTo pos (starEach [] X.env)).any (·.1) = false := by rfl) : PMk X (.Call (.Name x p) [e] [] pos) (tMkErr C te) := by
  intro pins s σ H Q I h
  refine wpAny_Call_Name_kw (ld_glob I hg hm ?_ hdb)
  refine PySem.W.callWith_K (h₀ := X.base) I.ok.mod.kin Z.kC (thn ((pa_cons he pa_nil hs).run pos pins s σ H (oneV fun v H1 => ∀ d, H1 d = none → Q (.ref C) (some d) (upd H1 d (.xd [("value", v)]))) I h) fun us s1 ⟨vs, H1, I1, r1, q1⟩ => ⟨I1.kIn, ?_⟩) hs hpl
  obtain ⟨v, rfl, q⟩ := oneV_of q1
  cases r1 with
  | cons rv rn =>
    skip
    cases rn
    have hlim := I1.nolimit
    obtain ⟨hp, g, dr, tk, os⟩ := s1
    refine wpAny_call (PySem.EV.err_made Z J (.place _) I1.kIn hlim (by have := hr.dp; omega) fun h' tk' e d M => ?_)
    show MkP X pins σ Q (.ref e) ⟨h', g, dr, tk', os⟩
    obtain ⟨t1, hoe⟩ := M.obj
    have hns := M.ns
    obtain ⟨G', g1, g2⟩ := restrict h' fun b => decide (b ≠ e)
    have gk : ∀ b, b ≠ e → G'.get? b = h'.get? b := fun b hb => g1 b (decide_eq_true hb)
    have ge : G'.get? e = none := g2 e (by simp)
    have old : ∀ b o, hp.get? b = some o → G'.get? b = some o := fun b o q => (gk b (Nat.ne_of_lt (Nat.lt_of_lt_of_le (Heap.lt_size q) M.new))).trans (M.keep b o q)
    have ob : ObjOk X.prog X.w (upd H1 d (.xd [("value", v)])) G' d (.xd [("value", v)]) :=
      ⟨_, hns.at (fun o q => (gk d M.dne).trans q), fun f => relO_value rv f⟩
    have J : Inv X pins σ (upd H1 d (.xd [("value", v)])) ⟨G', g, dr, tk', os⟩ := I1.laid (t' := tk') old M.dbig ob
    refine ⟨e, _, _, ⟨G', g, dr, tk', os⟩, _, .ref C, some d, rfl, J, fun b o q => ?_, ge, hoe, ⟨rfl, rfl⟩, rfl, rfl, ?_, rfl, I1.bare, err_raises Z, q d (I1.hok.fresh M.dbig)⟩
    · by_cases hb : b = e
      · rw [hb, ge] at q
        cases q
      · exact (gk b hb).symm.trans q
    · rw [upd_ne (Ne.symm M.dne)]
      exact I1.hok.fresh M.new
/-- raise C(e) -/
def tRaiseErr (C : Addr) (W : WX) (te : TE) : TS := fun _ σ H => tMkErr C te σ H fun cls d H' => W cls d σ H'
theorem ps_raiseErr {e : Expr} {te : TE} {W : WX} {p pos pos2 : Pos} {k : Nat} (hc : X.calm = true) (Z : ErrC X.K C T) (J : ErrI X.K C fI) (hr : Room k X.A) (tk : Takes X W) (hm : X.mg x = some (.ref C)) (he : PE X e te) (hg : Gl X x := by rfl) (hdb : (x == ("__debug__" : Str)) = false := by decide)
    (hs : starEach (e :: []) X.env = (false, eval e X.env) :: starEach [] X.env := by rfl) (hpl : (backTo pos (starEach [] X.env)).any (·.1) = false := by rfl) :
    PS X (.Raise (some (.Call (.Name x p) [e] [] pos)) none pos2) (tRaiseErr C W te) := ps_raise hc tk (pmk_err Z J hr hm he hg hdb hs hpl)
/-- e.value, e the error that the suite holds at a (its class cls, its dict d) -/
def tByVal (C : Addr) (a : Addr) (cls : Value) (d : Option Addr) (te : TE) : TE := fun σ H Q => te σ H fun x H1 => x = .ref a ∧ cls = .ref C ∧ ∃ (dd : Addr) (v : V), d = some dd ∧ H1 dd = some (.xd [("value", v)]) ∧ Q v H1
theorem pe_byVal {a : Addr} {oe : Obj} {cls : Value} {d : Option Addr} {pn : List (Addr × Obj)} {e : Expr} {te : TE} {pos : Pos} (Z : ErrC X.K C T) (hz : Zc cls d oe) (hf : ∃ vs, oe.data = .fields vs) (he : PE (X.suite a ((a, oe) :: pn)) e te)
    (hb : attributeBase e "value" X.env (eval e X.env) = eval e X.env := by rfl) :
    PE (X.suite a ((a, oe) :: pn)) (.Attribute e "value" pos) (tByVal C a cls d te) := by
  refine ⟨fun pins s σ H Q I h => ?_⟩
  refine attr_of hb (thn (he.run pins s σ H _ I h) fun u s1 hh => ?_)
  obtain ⟨y, H1, I1, rx, ex, ec, dd, v, ed, ea, q⟩ := hh
  subst ex
  obtain rfl : u = Value.ref a := rx
  subst ec
  subst ed
  obtain ⟨ha, _⟩ := I1.pin (a, oe) (List.mem_append_left _ List.mem_cons_self)
  obtain ⟨vs, hd⟩ := hf
  obtain ⟨mA, hns, hr⟩ := (show ObjOk X.prog X.w H1 s1.heap dd (.xd [("value", v)]) from I1.hok dd _ ea)
  obtain ⟨od, ho, hl⟩ := lookIn_ns hns
  have l : List.lookup ("value" : Str) [(("value" : Str), v)] = some v := by simp [List.lookup]
  obtain ⟨u, hu, ru⟩ := RelO.some_of (v := v) (o := mA "value") (by rw [← l]; exact hr "value")
  have J : PySem.W.InstAt s1.heap a oe C (some od) := ⟨ha, hz.1, by unfold PySem.W.notCls; rw [hd] <;> rfl, by rw [hz.2]; exact ho⟩
  have hs : PySem.W.subIn X.K (.ref C) (.type "BaseException") = some true := (err_sub Z _).trans (by rw [List.contains_cons, List.contains_cons]; rfl)
  exact HandSPX.exc_get I1.kIn J Z.ga Z.gg hs (PySem.W.findObj_own (err_hd Z) Z.noN rfl (by rw [hl, hu])) (handed_of ru) ⟨v, H1, I1.tok _, ru, q⟩
/-- such an error is what «except C» names -/
theorem err_exm {K : PySem.W.Frag} {C T : Addr} (Z : ErrC K C T) : PySem.W.exmOne K (.ref C) (.ref C) = some true := by
  have h1 : PySem.W.subIn K (.ref C) (.type "BaseException") = some true := (err_sub Z _).trans (by rw [List.contains_cons, List.contains_cons]; rfl)
  have h4 : PySem.W.subIn K (.ref C) (.ref C) = some true := (err_sub Z _).trans (by simp)
  obtain ⟨nm, q, N, bs, sn, sub, ab, col, dd, k0, k1, k2, k3, k5, hC⟩ := Z.cls
  have e1 : (PySem.W.subIn K (.ref C) (.type "BaseException") == some true) = true := by rw [h1]; rfl
  have e2 : ((PySem.W.clsIn K C).isSome && PySem.W.typeIn K (.ref C) == some (.type "type")) = true := by
    have h2 : (PySem.W.clsIn K C).isSome = true := by unfold PySem.W.clsIn; rw [hC]; rfl
    have h3 : PySem.W.typeIn K (.ref C) = some (.type "type") := by
      show (K.lookup C).map (·.cls) = _
      rw [hC]
      rfl
    rw [h2, h3]
    rfl
  unfold PySem.W.exmOne
  rw [if_pos e1]
  show (if ((PySem.W.clsIn K C).isSome && PySem.W.typeIn K (.ref C) == some (.type "type")) = true then PySem.W.subIn K (.ref C) (.ref C) else none) = some true
  rw [if_pos e2]
  exact h4
/-- a call of a def that may raise, where it doesn't -/
theorem passN {X : Cx} : Passes (L2.CX X.prog X.w) X E0 := fun _ _ _ _ _ _ _ h => by
  obtain ⟨_, _, _, _, _, _, _, _, _, _, _, _, q⟩ := h
  exact q.elim
end
end EL

set_option Elab.async false
set_option linter.all false
set_option maxRecDepth 100000
set_option maxHeartbeats 4000000
/-! the law's draws: purses, what is mixed and drawn -/
namespace LW
open PySem PySem.Spec PyProof.Rows L2
open TL (joinL tl tl_join join_eq)
/-! ### the text -/
def topS (i : Nat) : Stmt := PySem.Challenge.pw_keptreadings_k02_whole_cut_and_lines.main.body.getD i (.Pass ⟨0, 0, 0, 0⟩)
abbrev sPurse : Stmt := topS 26
abbrev sMixed : Stmt := topS 27
abbrev sDraw : Stmt := topS 28
abbrev sPurses : Stmt := topS 29
abbrev sOneOf : Stmt := topS 30
abbrev sWord : Stmt := topS 32
theorem scPurse : FnScope ["_law_script", "_law_at", "_law_seed"] ["_law_script", "_law_at"] (defScope sPurse) := ⟨rfl, rfl, rfl, by decide +kernel, rfl, by decide +kernel, by decide +kernel⟩
theorem scMixed : FnScope ["_law_seed", "_law_turn", "_law_at", "_law_mixed_here"] ["_law_seed", "_law_turn", "_law_at"] (defScope sMixed) := ⟨rfl, rfl, rfl, by decide +kernel, rfl, by decide +kernel, by decide +kernel⟩
theorem scDraw : FnScope ["_law_purse_here", "_law_many", "_law_drawn", "_law_found", "_law_piece"] ["_law_purse_here", "_law_many"] (defScope sDraw) := ⟨rfl, rfl, rfl, by decide +kernel, rfl, by decide +kernel, by decide +kernel⟩
theorem scPurses : FnScope ["_law_script", "_law_few", "_law_at"] ["_law_script", "_law_few"] (defScope sPurses) := ⟨rfl, rfl, rfl, by decide +kernel, rfl, by decide +kernel, by decide +kernel⟩
theorem scOneOf : FnScope ["_law_purse_here", "_law_some"] ["_law_purse_here", "_law_some"] (defScope sOneOf) := ⟨rfl, rfl, rfl, by decide +kernel, rfl, by decide +kernel, by decide +kernel⟩
theorem scWord : FnScope ["_law_purse_here", "_law_size", "_law_turn"] ["_law_purse_here"] (defScope sWord) := ⟨rfl, rfl, rfl, by decide +kernel, rfl, by decide +kernel, by decide +kernel⟩
/-! ### heaps -/
/-- all that was tracked is as it was, but what stands at a -/
def Keep (a : Addr) (H H' : Hp) : Prop := ∀ b o, b ≠ a → H b = some o → H' b = some o
theorem Keep.refl {a : Addr} {H : Hp} : Keep a H H := fun _ _ _ h => h
theorem Keep.trans {a : Addr} {H H1 H2 : Hp} (x : Keep a H H1) (y : Keep a H1 H2) : Keep a H H2 := fun b o n h => y b o n (x b o n h)
theorem _root_.L2.Same.keep {a : Addr} {H H' : Hp} (x : Same H H') : Keep a H H' := fun b o _ h => x b o h
theorem keep_upd {a : Addr} {H : Hp} {o : HO} : Keep a H (upd H a o) := fun b u n h => by rw [upd_ne n]; exact h
theorem same_upd {H : Hp} {p : Addr} {o : HO} (h : H p = none) : Same H (upd H p o) := fun b x e => by
  rw [upd_ne (ne_of_none e h)]
  exact e
theorem Keep.none {a b : Addr} {H H' : Hp} (x : Keep a H H') (hb : b ≠ a) (h : H' b = Option.none) : H b = Option.none := by
  cases q : H b with
  | none => rfl
  | some o =>
    rw [x b o hb q] at h
    cases h
theorem Keep.seq {K : PySem.W.Frag} {H H' : Hp} {a b : Addr} {xs : List V} (e : Keep a H H') (hb : b ≠ a) (h : SqL K H b xs) : SqL K H' b xs := by
  rcases h with (h | ⟨o, h⟩) | h
  · exact .inl (.inl (e _ _ hb h))
  · exact .inl (.inr ⟨o, e _ _ hb h⟩)
  · exact .inr h
/-- a purse at a, of which at most n draws were made -/
def Prs (H : Hp) (a : Addr) (n : Nat) : Prop := ∃ (p q t i : Int), H a = some (.lst [.int p, .int q, .int t, .int i]) ∧ 0 ≤ p ∧ 0 ≤ q ∧ q < 2147483629 ∧ 0 ≤ t ∧ t ≤ n
theorem Prs.keep {H H' : Hp} {a b : Addr} {n : Nat} (h : Prs H a n) (k : Keep b H H') (hab : a ≠ b) : Prs H' a n := by
  obtain ⟨p, q, t, i, e, r⟩ := h
  exact ⟨p, q, t, i, k _ _ hab e, r⟩
theorem Prs.same {H H' : Hp} {a : Addr} {n : Nat} (h : Prs H a n) (k : Same H H') : Prs H' a n := by
  obtain ⟨p, q, t, i, e, r⟩ := h
  exact ⟨p, q, t, i, k _ _ e, r⟩
theorem Prs.more {H : Hp} {a : Addr} {n m : Nat} (h : Prs H a n) (k : n ≤ m) : Prs H a m := by
  obtain ⟨p, q, t, i, e, h0, h1, h2, h3, h4⟩ := h
  exact ⟨p, q, t, i, e, h0, h1, h2, h3, by omega⟩
theorem lc_turn {σ : L2.St} {H : Hp} {A B : Hp → Prop} (h : A H) : tYes σ H (fun b H3 => if b = true then A H3 else B H3) := by
  show (if true = true then A H else B H)
  rw [if_pos rfl]
  exact h
/-! ### a great power -/
def CPowW (i j : Int) : Prop := 0 ≤ j ∧ (Builtin.Int.intBits i : Int) * j ≤ 2 ^ 27
theorem op_powW {X : Cx} : OpR X (binaryOp .Pow) (rI CPowW fun i j => .int (i ^ j.toNat)) := opI fun _ _ _ _ _ _ _ hc q => pow_int hc.1 hc.2 q
section
variable {P : Program} {w : World} {K : PySem.W.Frag} {mg : Str → Option Value} {base : Heap}
/-! ### _law_purse -/
def spPurse (K : PySem.W.Frag) : Sp := fun vs H Q _ => ∃ (a : Addr) (ns : List Int) (i : Nat), vs = [.ref a, .int i] ∧ SqL K H a (ns.map V.int) ∧ i < 1000 ∧ ∀ H' p, Same H H' → H p = none → Prs H' p 0 → Q (.ref p) H'
theorem sliced (ns : List Int) (i : Nat) : ∃ ms : List Int, cutV (ns.map V.int) (some (i : Int)) (some ((i : Int) + 1)) = ms.map V.int := by
  unfold cutV
  rw [← List.map_drop, ← List.map_take]
  exact ⟨_, rfl⟩
theorem ok_purse {f : Addr} {fd : FuncData} {k : Nat} (F : Fun K "_law_purse" "_law_purse" sPurse f fd) (ms : mg "sum" = none) (mi : mg "int" = none) (mm : mg "max" = none) : FnOk P w K mg base CX0 (k + 1) f fd ["_law_script", "_law_at"] (spPurse K) := by
  refine F.ok scPurse (fun vs H Q E h => ?_) (fun cdv A outer s H vs Q E hr h => ?_)
  · obtain ⟨a, ns, i, rfl, _⟩ := h
    rfl
  · obtain ⟨a, ns, i, rfl, hS, hi, q⟩ := h
    refine ⟨_, pss_cons (ps_set (i := 2) scPurse.nd rfl (.inl rfl) (pe_callB (cr_sum rfl) (by rfl) ms (by decide +kernel) (pa_cons (pe_slice sl_list (pv 0) (po_some (pv 1)) (po_some (pe_op op_add (pv 1) pe_int))) pa_nil)))
      (pss_one (ps_ret (pe_lst (pa_cons (pe_op op_modN (pe_callTy call_int1 (by rfl) mi (by decide +kernel) (pa_cons (pe_callB (call_max2 rfl) (by rfl) mm (by decide +kernel) (pa_cons (pe_op op_sub (pv 2) (pe_op op_pow pe_int pe_int)) (pa_cons pe_int pa_nil))) pa_nil)) (pe_op op_powW (pe_op op_pow pe_int pe_int) pe_int))
        (pa_cons (pe_op op_mod (pe_callTy call_int1 (by rfl) mi (by decide +kernel) (pa_cons (pv 2) pa_nil)) pe_int) (pa_cons pe_int (pa_cons (pv 1) pa_nil))))))), ?_⟩
    obtain ⟨ms', ems⟩ := sliced ns i
    refine ⟨.ref a, rfl, .int i, rfl, (i : Int), rfl, .int i, rfl, _, _, rfl, rfl, (i : Int) + 1, rfl, a, _, rfl, hS, fun c nc => ?_⟩
    rw [ems]
    have s1 : Same H (upd H c (.lst (ms'.map V.int))) := same_upd nc
    refine ⟨c, ms', rfl, SqL.of upd_same, ?_⟩
    -- the list
    generalize ms'.sum = z
    refine ⟨.int z, rfl, _, _, rfl, rfl, ⟨by decide, by decide, by decide⟩, _, _, rfl, rfl, _, _, rfl, .inl ⟨_, rfl, _, _, rfl, rfl, ⟨by decide, by decide, by decide⟩, _, _, rfl, rfl, ⟨by decide, by decide +kernel⟩, _, _, rfl, rfl, (by show ((10 : Int) ^ Int.toNat 60) ^ Int.toNat 8 ≠ 0; decide +kernel), ?_⟩⟩
    refine ⟨.int z, rfl, .inl ⟨_, rfl, _, _, rfl, rfl, (by show (0 : Int) < 2147483629; decide), .int i, rfl, by show 4 ≤ sizeLine; decide, fun p np => ?_⟩⟩
    refine q _ p (s1.trans (same_upd np)) (s1.free np) ⟨_, _, _, _, upd_same, ?_, ?_, ?_, Int.le_refl _, Int.le_refl _⟩
    · have hb : (0 : Int) < (10 ^ Int.toNat 60) ^ Int.toNat 8 := by decide +kernel
      show (0 : Int) ≤ Int.fmod _ ((10 ^ Int.toNat 60) ^ Int.toNat 8)
      rw [Int.fmod_eq_emod_of_nonneg _ (Int.le_of_lt hb)]
      exact Int.emod_nonneg _ (Int.ne_of_gt hb)
    · exact Int.emod_nonneg _ (by decide)
    · exact Int.emod_lt_of_pos _ (by decide)
/-! ### _law_mixed -/
def spMixed : Sp := fun vs H Q _ => ∃ (s t a : Int), vs = [.int s, .int t, .int a] ∧ 0 ≤ t ∧ t < 2 ^ 63 ∧ ∀ r : Int, 0 ≤ r → r < 2147483587 → Q (.int r) H
theorem ok_mixed {f : Addr} {fd : FuncData} {k : Nat} (F : Fun K "_law_mixed" "_law_mixed" sMixed f fd) (mi : mg "int" = none) : FnOk P w K mg base CX0 (k + 1) f fd ["_law_seed", "_law_turn", "_law_at"] spMixed := by
  refine F.ok scMixed (fun vs H Q E h => ?_) (fun cdv A outer s H vs Q E hr h => ?_)
  · obtain ⟨a, b, c, rfl, _⟩ := h
    rfl
  · obtain ⟨a, t, c, rfl, h0, h1, q⟩ := h
    have big : -(2 ^ 64) < t ∧ t < 2 ^ 64 := by omega
    refine ⟨_, pss_cons (ps_set (i := 3) scMixed.nd rfl (.inl rfl) (pe_op op_add (pe_op op_mul (pv 0) pe_int) (pe_op op_mul (pe_op op_mul pe_int (pv 1)) (pv 1))))
      (pss_cons (ps_set (i := 3) scMixed.nd rfl (.inl rfl) (pe_op op_mod (pe_callTy call_int1 (by rfl) mi (by decide +kernel) (pa_cons (pe_op op_add (pe_op op_add (pv 3) (pe_op op_mul pe_int (pv 2))) (pv 1)) pa_nil)) pe_int))
      (pss_cons (ps_set (i := 3) scMixed.nd rfl (.inl rfl) (pe_op op_mod (pe_callTy call_int1 (by rfl) mi (by decide +kernel) (pa_cons (pe_op op_add (pe_op op_mul (pv 3) (pv 3)) pe_int) pa_nil)) pe_int))
      (pss_one (ps_ret (pe_op op_mod (pe_callTy call_int1 (by rfl) mi (by decide +kernel) (pa_cons (pe_op op_mul (pv 3) pe_int) pa_nil)) pe_int))))), ?_⟩
    refine ⟨.int a, rfl, _, _, rfl, rfl, .inr (by constructor <;> decide), .int t, rfl, _, _, rfl, rfl, .inl (by constructor <;> decide), .int t, rfl, _, _, rfl, rfl, .inr big, _, _, rfl, rfl, ?_⟩
    refine ⟨_, rfl, .int c, rfl, _, _, rfl, rfl, .inl (by constructor <;> decide), _, _, rfl, rfl, .int t, rfl, _, _, rfl, rfl, .inl ⟨_, rfl, _, _, rfl, rfl, (by show (0 : Int) < 2147483647; decide), ?_⟩⟩
    have x0 : 0 ≤ (a * 69069 + 104729 * t * t + 7919 * c + t) % 2147483647 := Int.emod_nonneg _ (by decide)
    have x1 : (a * 69069 + 104729 * t * t + 7919 * c + t) % 2147483647 < 2147483647 := Int.emod_lt_of_pos _ (by decide)
    refine ⟨_, rfl, _, rfl, _, _, rfl, rfl, .inl (show -(2 ^ 64) < (a * 69069 + 104729 * t * t + 7919 * c + t) % 2147483647 ∧ (a * 69069 + 104729 * t * t + 7919 * c + t) % 2147483647 < 2 ^ 64 from ⟨by omega, by omega⟩), _, _, rfl, rfl, .inl ⟨_, rfl, _, _, rfl, rfl, (by show (0 : Int) < 2147483629; decide), ?_⟩⟩
    refine ⟨_, rfl, _, _, rfl, rfl, .inr (by constructor <;> decide), .inl ⟨_, rfl, _, _, rfl, rfl, (by show (0 : Int) < 2147483587; decide), ?_⟩⟩
    exact q _ (Int.emod_nonneg _ (by decide)) (Int.emod_lt_of_pos _ (by decide))
/-! ### _law_draw -/
def spDraw : Sp := fun vs H Q _ => ∃ (a : Addr) (m : Int) (n : Nat), vs = [.ref a, .int m] ∧ Prs H a n ∧ n < 2 ^ 40 ∧ 0 < m ∧ m < 2 ^ 26 ∧ ∀ (r : Int) H', 0 ≤ r → r < m → Keep a H H' → Prs H' a (n + 1) → Q (.int r) H'
theorem ok_draw {f fM : Addr} {fd fdM : FuncData} (F : Fun K "_law_draw" "_law_draw" sDraw f fd) (FM : Fun K "_law_mixed" "_law_mixed" sMixed fM fdM) (bM : Binds K fdM ["_law_seed", "_law_turn", "_law_at"] []) (gM : mg "_law_mixed" = some (.ref fM)) (mi : mg "int" = none) (mr : mg "range" = none) :
    FnOk P w K mg base CX0 2 f fd ["_law_purse_here", "_law_many"] spDraw := by
  have GM : FnOk P w K mg base CX0 1 fM fdM ["_law_seed", "_law_turn", "_law_at"] spMixed := ok_mixed FM mi
  refine F.ok scDraw (fun vs H Q E h => ?_) (fun cdv A outer s H vs Q E hr h => ?_)
  · obtain ⟨a, m, n, rfl, _⟩ := h
    rfl
  · obtain ⟨a, m, n, rfl, hP, hn, m0, m1, q⟩ := h
    have nd := scDraw.nd
    refine ⟨_, pss_cons (ps_if (pt_cmpR op_gt (pe_ix ix_list (pv 0) pe_int (fun _ _ => rfl)) pe_int (nomark _))
        (pss_cons (ps_set (i := 2) nd rfl (.inl rfl) (pe_op op_mod (pe_callTy call_int1 (by rfl) mi (by decide +kernel) (pa_cons (pe_ix ix_list (pv 0) pe_int (fun _ _ => rfl)) pa_nil)) (pv 1)))
        (pss_cons (ps_asg (pe_op op_fdivN (pe_ix ix_list (pv 0) pe_int (fun _ _ => rfl)) (pv 1)) (pg_sub (pv 0) pe_int set_list))
        (pss_one (ps_ret (pv 2))))) pss_nil)
      (pss_cons (ps_set (i := 3) nd rfl (.inl rfl) pe_int)
      (pss_cons (ps_for PassesOwn.never rfl (pi_range1 rfl mr (pa_cons (pe_op op_add pe_int (pe_op op_fdiv (pe_bits (pv 1)) pe_int)) pa_nil)) (pg_name (i := 4) nd rfl (.inl rfl))
        (pss_cons (ps_asg (pe_op op_add (pe_ix ix_list (pv 0) pe_int (fun _ _ => rfl)) pe_int) (pg_sub (pv 0) pe_int set_list))
        (pss_one (ps_set (i := 3) nd rfl (.inl rfl) (pe_op op_add (pe_op op_mul (pv 3) pe_int) (pe_call GM hr (by rfl) gM FM.kp bM .nil pass0 (pa_cons (pe_ix ix_list (pv 0) pe_int (fun _ _ => rfl)) (pa_cons (pe_ix ix_list (pv 0) pe_int (fun _ _ => rfl)) (pa_cons (pe_ix ix_list (pv 0) pe_int (fun _ _ => rfl)) pa_nil)))))))))
      (pss_one (ps_ret (pe_op op_mod (pe_callTy call_int1 (by rfl) mi (by decide +kernel) (pa_cons (pv 3) pa_nil)) (pv 1)))))), ?_⟩
    obtain ⟨p, qq, t, i, e, p0, q0, q1, t0, t1⟩ := hP
    refine ⟨.ref a, rfl, a, _, 0, .int p, rfl, rfl, SqL.of e, atI_nat (j := 0) rfl, _, _, rfl, rfl, _, rfl, ite2 (fun c => ?_) (fun c => ?_)⟩
    · have hp : 0 < p := of_decide_eq_true c
      refine ⟨.ref a, rfl, a, _, 0, .int p, rfl, rfl, SqL.of e, atI_nat (j := 0) rfl, .inl ⟨_, rfl, .int m, rfl, _, _, rfl, rfl, m0, ?_⟩⟩
      refine ⟨.ref a, rfl, a, _, 0, .int p, rfl, rfl, SqL.of e, atI_nat (j := 0) rfl, .int m, rfl, _, _, rfl, rfl, ⟨by omega, by omega⟩, .ref a, rfl, ?_⟩
      refine ⟨a, _, 0, 0, rfl, rfl, e, rfl, _, rfl, ?_⟩
      exact q _ _ (Int.emod_nonneg _ (by omega)) (Int.emod_lt_of_pos _ m0) keep_upd ⟨_, _, _, _, upd_same, Int.fdiv_nonneg p0 (Int.le_of_lt m0), q0, q1, t0, by omega⟩
    · have hb : Builtin.Int.intBits m ≤ 26 := PyProof.Rows.intBits_le (by omega)
      have hN : Int.toNat ((1 : Int) + (Builtin.Int.intBits m : Int) / 28) = 1 := by omega
      refine ⟨.int m, rfl, _, rfl, _, _, rfl, rfl, ⟨by decide, by decide⟩, _, _, rfl, rfl, ?_⟩
      refine ⟨_, rfl, ?_, ?_, for_range (n := Int.toNat ((1 : Int) + (Builtin.Int.intBits m : Int) / 28)) (fun j σ H' => ∃ (z : Int) (y : Option V), σ = [some (.ref a), some (.int m), none, some (.int z), y] ∧ Keep a H H' ∧ H' a = some (.lst [.int p, .int qq, .int (t + j), .int i])) ⟨0, none, rfl, Keep.refl, ?_⟩ ?_ ?_⟩
      · show -(2 ^ 62) ≤ (1 : Int) + (Builtin.Int.intBits m : Int) / 28
        omega
      · show (1 : Int) + (Builtin.Int.intBits m : Int) / 28 < 2 ^ 62
        omega
      · simpa using e
      · rintro j σ H' hj ⟨z, y, rfl, k1, e1⟩
        have hj0 : j = 0 := by
          rw [hN] at hj
          omega
        subst hj0
        refine ⟨.ref a, rfl, a, _, 2, _, rfl, rfl, SqL.of e1, atI_nat (j := 2) rfl, _, _, rfl, rfl, .ref a, rfl, a, _, 2, 2, rfl, rfl, e1, rfl, ?_⟩
        refine ⟨_, rfl, _, _, rfl, rfl, .inr (by constructor <;> decide), ?_⟩
        refine ⟨.ref a, rfl, a, _, 1, _, rfl, rfl, SqL.of upd_same, atI_nat (j := 1) rfl, .ref a, rfl, a, _, 2, _, rfl, rfl, SqL.of upd_same, atI_nat (j := 2) rfl, .ref a, rfl, a, _, 3, _, rfl, rfl, SqL.of upd_same, atI_nat (j := 3) rfl, ?_⟩
        refine ⟨_, _, _, rfl, ?_, ?_, fun r r0 r1 => ?_⟩
        · show 0 ≤ t + ((0 : Nat) : Int) + 1
          omega
        · show t + ((0 : Nat) : Int) + 1 < 2 ^ 63
          omega
        · refine ⟨_, _, rfl, rfl, _, _, rfl, k1.trans keep_upd, ?_⟩
          have et : t + ((0 : Nat) : Int) + 1 = t + ((0 + 1 : Nat) : Int) := by omega
          rw [upd_same, ← et]
          rfl
      · rw [hN]
        rintro σ H' ⟨z, y, rfl, k1, e1⟩
        refine ⟨_, rfl, .inl ⟨_, rfl, .int m, rfl, _, _, rfl, rfl, m0, ?_⟩⟩
        refine q _ _ (Int.emod_nonneg _ (by omega)) (Int.emod_lt_of_pos _ m0) k1 ⟨_, _, _, _, e1, p0, q0, q1, ?_, ?_⟩
        · show 0 ≤ t + ((1 : Nat) : Int)
          omega
        · show t + ((1 : Nat) : Int) ≤ ((n + 1 : Nat) : Int)
          omega
/-! ### _law_one_of -/
def spOneOf (K : PySem.W.Frag) : Sp := fun vs H Q _ => ∃ (a b : Addr) (xs : List V) (n : Nat), vs = [.ref a, .ref b] ∧ Prs H a n ∧ n < 2 ^ 40 ∧ SqL K H b xs ∧ b ≠ a ∧ 0 < xs.length ∧ xs.length < 2 ^ 26 ∧ ∀ (v : V) H', v ∈ xs → Keep a H H' → Prs H' a (n + 1) → Q v H'
theorem ok_oneof {f fD : Addr} {fd fdD : FuncData} (F : Fun K "_law_one_of" "_law_one_of" sOneOf f fd) (kD : PySem.W.keepIn K (.ref fD) = true) (GD : FnOk P w K mg base CX0 2 fD fdD ["_law_purse_here", "_law_many"] spDraw) (bD : Binds K fdD ["_law_purse_here", "_law_many"] []) (gD : mg "_law_draw" = some (.ref fD)) (ml : mg "len" = none) :
    FnOk P w K mg base CX0 3 f fd ["_law_purse_here", "_law_some"] (spOneOf K) := by
  refine F.ok scOneOf (fun vs H Q E h => ?_) (fun cdv A outer s H vs Q E hr h => ?_)
  · obtain ⟨a, b, xs, n, rfl, _⟩ := h
    rfl
  · obtain ⟨a, b, xs, n, rfl, hP, hn, hS, hab, l0, l1, q⟩ := h
    refine ⟨_, pss_one (ps_ret (pe_ix ix_list (pv 1) (pe_call GD hr (by rfl) gD kD bD .nil pass0 (pa_cons (pv 0) (pa_cons (pe_callB call_len_seq (by rfl) ml PySem.boot_len (pa_cons (pv 1) pa_nil)) pa_nil))) (fun _ _ => rfl))), ?_⟩
    refine ⟨.ref b, rfl, .ref a, rfl, .ref b, rfl, b, xs, rfl, .inl hS, a, xs.length, n, rfl, hP, hn, by omega, by omega, fun r H' r0 r1 k1 P1 => ?_⟩
    have hr : r.toNat < xs.length := by omega
    refine ⟨b, xs, r, xs[r.toNat], rfl, rfl, k1.seq hab hS, ?_, q _ _ (List.getElem_mem hr) k1 P1⟩
    have er : r = ((r.toNat : Nat) : Int) := by omega
    have g : xs[r.toNat]? = some xs[r.toNat] := List.getElem?_eq_getElem hr
    have := atI_nat (j := r.toNat) g
    rw [← er] at this
    exact this
/-! ### _law_purses -/
def spPurses (K : PySem.W.Frag) : Sp := fun vs H Q _ => ∃ (a : Addr) (ns : List Int) (m : Nat), vs = [.ref a, .int m] ∧ SqL K H a (ns.map V.int) ∧ ns.length ≤ 63 ∧ m < 60 ∧ ∀ (H' : Hp) (p : Addr) (as : List Addr), Same H H' → H p = none → H' p = some (.lst (as.map V.ref)) → as.length ≤ 60 → as.Nodup → p ∉ as → (∀ x ∈ as, Prs H' x 0 ∧ H x = none) → Q (.ref p) H'
theorem clamp (l m : Int) (h0 : 0 ≤ l) (h1 : 0 ≤ m) (h2 : m ≤ 60) : 0 ≤ (if (if l < m then l else m) > 1 then (if l < m then l else m) else 1) ∧ (if (if l < m then l else m) > 1 then (if l < m then l else m) else 1) ≤ 60 := by
  constructor <;> (repeat' split) <;> omega
theorem ok_purses {f fP : Addr} {fd fdP : FuncData} (F : Fun K "_law_purses" "_law_purses" sPurses f fd) (kP : PySem.W.keepIn K (.ref fP) = true) (GP : FnOk P w K mg base CX0 1 fP fdP ["_law_script", "_law_at"] (spPurse K)) (bP : Binds K fdP ["_law_script", "_law_at"] []) (gP : mg "_law_purse" = some (.ref fP))
    (ml : mg "len" = none) (mr : mg "range" = none) (mx : mg "max" = none) (mn : mg "min" = none) : FnOk P w K mg base CX0 2 f fd ["_law_script", "_law_few"] (spPurses K) := by
  refine F.ok scPurses (fun vs H Q E h => ?_) (fun cdv A outer s H vs Q E hr h => ?_)
  · obtain ⟨a, ns, m, rfl, _⟩ := h
    rfl
  · obtain ⟨a, ns, m, rfl, hS, hl, hm, q⟩ := h
    refine ⟨_, pss_one (ps_ret (pe_lc (own := [("_law_at", 2)]) (g := gName 2) (tt := tYes) rfl scPurses.nd (pi_range1 rfl mr (pa_cons (pe_callB (call_max2 rfl) (by rfl) mx (by decide +kernel) (pa_cons pe_int (pa_cons (pe_callB (call_min2 rfl) (by rfl) mn (by decide +kernel) (pa_cons (pv 1) (pa_cons (pe_callB call_len_seq (by rfl) ml PySem.boot_len (pa_cons (pv 0) pa_nil)) pa_nil))) pa_nil))) pa_nil))
      (blkOk_by (own := [("_law_at", 2)]) (N := ["_law_script", "_law_few", "_law_at"]) (sc := defScope sPurses) (by decide +kernel)) (fun _ _ _ _ _ => pg_name (i := 2) scPurses.nd rfl (Or.inl rfl)) (fun _ _ _ _ _ => pts_nil)
      (fun _ _ _ _ _ => pe_call GP hr (by rfl) gP kP bP .nil pass0 (pa_cons (pv 0) (pa_cons (pv 2) pa_nil))))), ?_⟩
    refine ⟨.int m, rfl, .ref a, rfl, a, _, rfl, .inl hS, _, _, rfl, _, _, rfl, ?_⟩
    obtain ⟨v0, v1⟩ := clamp ((ns.map V.int).length : Int) (m : Int) (Int.natCast_nonneg _) (Int.natCast_nonneg _) (by omega)
    refine ⟨_, rfl, ?_, ?_, fun D nD => ?_⟩
    · exact Int.le_trans (by decide) v0
    · exact Int.lt_of_le_of_lt v1 (by decide)
    have h60 : (60 : Nat) < sizeLine := by rw [sizeLine_eq]; decide
    refine lc_range (lo := 0) (n := ((if (if ((ns.map V.int).length : Int) < (m : Int) then ((ns.map V.int).length : Int) else (m : Int)) > 1 then (if ((ns.map V.int).length : Int) < (m : Int) then ((ns.map V.int).length : Int) else (m : Int)) else 1)).toNat) (fun i H' => ∃ as : List Addr, as.length = i ∧ Same H H' ∧ H' D = some (.lst (as.map V.ref)) ∧ as.Nodup ∧ D ∉ as ∧ ∀ x ∈ as, Prs H' x 0 ∧ H x = none) ⟨[], rfl, same_upd nD, upd_same, List.nodup_nil, by simp, by simp⟩ ?_ ?_
    · rintro i H1 hi ⟨as, el, s1, eD, hnd, hD, hA⟩
      have hi2 : i < 60 := by omega
      refine ⟨rfl, ?_⟩
      refine lc_turn ?_
      refine ⟨.ref a, rfl, .int (0 + (i : Int)), rfl, a, ns, i, ?_, s1.seq hS, by omega, fun H2 p s2 np hp => ?_⟩
      · show [V.ref a, V.int (0 + (i : Int))] = [V.ref a, V.int (i : Int)]
        rw [Int.zero_add]
      · have pD : D ≠ p := ne_of_none eD np
        have pas : p ∉ as := fun hx => by
          obtain ⟨⟨p', q', t', i', e', _⟩, _⟩ := hA p hx
          rw [np] at e'
          cases e'
        refine ⟨as.map V.ref, s2 _ _ eD, ?_, as ++ [p], ?_, ?_, ?_, ?_, ?_, ?_⟩
        · rw [List.length_map]
          omega
        · rw [List.length_append, el]
          rfl
        · intro b o hb
          rw [upd_ne (ne_of_none hb nD)]
          exact s2 _ _ (s1 _ _ hb)
        · rw [upd_same, List.map_append]
          rfl
        · rw [List.nodup_append]
          exact ⟨hnd, (by simp), fun x hx y hy => by
            rw [List.mem_singleton] at hy
            subst hy
            exact fun e => pas (e ▸ hx)⟩
        · rw [List.mem_append, List.mem_singleton]
          exact fun h => h.elim hD pD
        · intro x hx
          rw [List.mem_append, List.mem_singleton] at hx
          rcases hx with hx | rfl
          · obtain ⟨h1, h2⟩ := hA x hx
            refine ⟨?_, h2⟩
            exact (h1.same s2).keep keep_upd (fun e => hD (e ▸ hx))
          · refine ⟨hp.keep keep_upd pD.symm, s1.free np⟩
    · rintro H1 ⟨as, el, s1, eD, hnd, hD, hA⟩
      exact q H1 D as s1 nD eD (by omega) hnd hD hA
/-! ### _law_word -/
def Letters (x : Str) : Prop := ∀ c ∈ x.cps.toList, 97 ≤ c ∧ c ≤ 122
theorem joinL_len : ∀ ps : List (List Nat), (joinL [] ps).length = (ps.map List.length).sum
  | [] => rfl
  | [p] => by simp [joinL]
  | p :: q :: r => by
    have ih := joinL_len (q :: r)
    show (p ++ ([] ++ joinL [] (q :: r))).length = _
    rw [List.nil_append, List.length_append, ih, List.map_cons (l := q :: r), List.sum_cons]
theorem joinL_mem {c : Nat} : ∀ ps : List (List Nat), c ∈ joinL [] ps → ∃ p ∈ ps, c ∈ p
  | [], h => by cases h
  | [p], h => ⟨p, List.mem_singleton.mpr rfl, h⟩
  | p :: q :: r, h => by
    have h' : c ∈ p ++ ([] ++ joinL [] (q :: r)) := h
    rw [List.nil_append, List.mem_append] at h'
    rcases h' with h | h
    · exact ⟨p, List.mem_cons_self, h⟩
    · obtain ⟨p', h1, h2⟩ := joinL_mem (q :: r) h
      exact ⟨p', List.mem_cons_of_mem _ h1, h2⟩
theorem ones_sum : ∀ ys : List Str, (∀ y ∈ ys, y.length = 1) → (ys.map (·.length)).sum = ys.length
  | [], _ => rfl
  | y :: r, h => by
    rw [List.map_cons, List.sum_cons, h y List.mem_cons_self, ones_sum r fun z hz => h z (List.mem_cons_of_mem _ hz), List.length_cons]
    omega
theorem join_ones {ys : List Str} (h : ∀ y ∈ ys, y.length = 1) (hl : ∀ y ∈ ys, Letters y) : (Txt.join "" ys).length = ys.length ∧ Letters (Txt.join "" ys) := by
  have e : tl (Txt.join "" ys) = joinL [] (ys.map tl) := by
    rw [join_eq, tl_join]
    rfl
  constructor
  · have l : (Txt.join "" ys).length = (tl (Txt.join "" ys)).length := (Array.length_toList ..).symm
    rw [l, e, joinL_len, List.map_map]
    have : (List.length ∘ tl) = (fun y : Str => y.length) := by
      funext y
      exact Array.length_toList ..
    rw [this]
    exact ones_sum ys h
  · intro c hc
    have hc' : c ∈ tl (Txt.join "" ys) := hc
    rw [e] at hc'
    obtain ⟨p, hp, hcp⟩ := joinL_mem _ hc'
    obtain ⟨y, hy, rfl⟩ := List.mem_map.mp hp
    exact hl y hy c hcp
theorem abc : ∀ i : Nat, i < 26 → (Str.ofString "abcdefghijklmnopqrstuvwxyz").cps.toList[i]? = some (97 + i) := by decide +kernel
/-- a drawn word: one to eight letters -/
def spWord : Sp := fun vs H Q _ => ∃ (a : Addr) (n : Nat), vs = [.ref a] ∧ Prs H a n ∧ n < 2 ^ 30 ∧ ∀ (x : Str) H', 1 ≤ x.length → x.length ≤ 8 → Letters x → Keep a H H' → Prs H' a (n + 10) → Q (.str x) H'
theorem ok_word {f fD : Addr} {fd fdD : FuncData} (F : Fun K "_law_word" "_law_word" sWord f fd) (kD : PySem.W.keepIn K (.ref fD) = true) (GD : FnOk P w K mg base CX0 2 fD fdD ["_law_purse_here", "_law_many"] spDraw) (bD : Binds K fdD ["_law_purse_here", "_law_many"] []) (gD : mg "_law_draw" = some (.ref fD)) (mr : mg "range" = none) :
    FnOk P w K mg base CX0 3 f fd ["_law_purse_here"] spWord := by
  refine F.ok scWord (fun vs H Q E h => ?_) (fun cdv A outer s H vs Q E hr h => ?_)
  · obtain ⟨a, n, rfl, _⟩ := h
    rfl
  · obtain ⟨a, n, rfl, hP, hn, q⟩ := h
    refine ⟨_, pss_cons (ps_set (i := 1) scWord.nd rfl (.inl rfl) (pe_op op_add pe_int (pe_call GD hr (by rfl) gD kD bD .nil pass0 (pa_cons (pv 0) (pa_cons (pe_ifExp (pt_cmpR op_eq (pe_call GD hr (by rfl) gD kD bD .nil pass0 (pa_cons (pv 0) (pa_cons pe_int pa_nil))) pe_int (nomark _)) pe_int pe_int) pa_nil)))))
      (pss_one (ps_ret (pe_join pe_str (pe_lc (own := [("_law_turn", 2)]) (g := gName 2) (tt := tYes) rfl scWord.nd (pi_range1 rfl mr (pa_cons (pv 1) pa_nil))
        (blkOk_by (own := [("_law_turn", 2)]) (N := ["_law_purse_here", "_law_size", "_law_turn"]) (sc := defScope sWord) (by decide +kernel)) (fun _ _ _ _ _ => pg_name (i := 2) scWord.nd rfl (Or.inl rfl)) (fun _ _ _ _ _ => pts_nil)
        (fun _ _ _ _ _ => pe_ix ix_str pe_str (pe_call GD hr (by rfl) gD kD bD .nil pass0 (pa_cons (pv 0) (pa_cons pe_int pa_nil))) (fun _ _ => rfl)))))), ?_⟩
    refine ⟨.ref a, rfl, .ref a, rfl, a, 3, n, rfl, hP, by omega, by decide, by decide, fun r0 H1 _ _ k1 P1 => ⟨rfl, _, rfl, ite2 (fun _ => ?_) (fun _ => ?_)⟩⟩
    all_goals refine ⟨a, _, n + 1, rfl, P1, by omega, by decide, by decide, fun r H2 hr0 hr1 k2 P2 => ?_⟩
    all_goals refine ⟨_, _, rfl, rfl, ⟨_, rfl⟩, _, rfl, _, rfl, ?_, ?_, fun D nD => ?_⟩
    all_goals try (show -(2 ^ 62) ≤ (1 : Int) + r; omega)
    all_goals try (show (1 : Int) + r < 2 ^ 62; omega)
    all_goals
      have Da : a ≠ D := fun e => by
        obtain ⟨p', q', t', i', e', _⟩ := P2
        rw [← e, e'] at nD
        cases nD
      have hbig : (100 : Nat) < sizeLine := by rw [sizeLine_eq]; decide
      refine lc_range (lo := 0) (n := ((1 : Int) + r).toNat) (fun i H' => ∃ ys : List Str, ys.length = i ∧ (∀ y ∈ ys, y.length = 1) ∧ (∀ y ∈ ys, Letters y) ∧ Keep a H H' ∧ H' D = some (.lst (ys.map V.str)) ∧ Prs H' a (n + 2 + i)) ⟨[], rfl, by simp, by simp, (k1.trans k2).trans (same_upd nD).keep, upd_same, P2.same (same_upd nD)⟩ ?_ ?_
      · rintro i H3 hi ⟨ys, el, h1, hl, k3, eD, P3⟩
        have hi2 : i < 9 := by omega
        refine ⟨rfl, lc_turn ?_⟩
        refine ⟨.ref a, rfl, a, 26, n + 2 + i, rfl, P3, by omega, by decide, by decide, fun r4 H4 h40 h41 k4 P4 => ?_⟩
        have g : atI (Str.ofString "abcdefghijklmnopqrstuvwxyz").cps.toList r4 = some (97 + r4.toNat) := by
          have e4 : r4 = ((r4.toNat : Nat) : Int) := by omega
          have := atI_nat (xs := (Str.ofString "abcdefghijklmnopqrstuvwxyz").cps.toList) (j := r4.toNat) (abc r4.toNat (by omega))
          rw [← e4] at this
          exact this
        refine ⟨_, _, _, rfl, rfl, by decide +kernel, g, ys.map V.str, k4 _ _ Da.symm eD, ?_, ys ++ [⟨#[97 + r4.toNat]⟩], ?_, ?_, ?_, ?_, ?_, ?_⟩
        · rw [List.length_map]
          omega
        · rw [List.length_append, el]
          rfl
        · intro y hy
          rw [List.mem_append, List.mem_singleton] at hy
          rcases hy with hy | rfl
          · exact h1 y hy
          · rfl
        · intro y hy
          rw [List.mem_append, List.mem_singleton] at hy
          rcases hy with hy | rfl
          · exact hl y hy
          · intro c hc
            have hc2 : c = 97 + r4.toNat := by simpa using hc
            omega
        · intro b o hb hbo
          have hbD : b ≠ D := fun e => by
            have z := k1.trans k2 b o hb hbo
            rw [e, nD] at z
            cases z
          rw [upd_ne hbD]
          exact k4 _ _ hb (k3 _ _ hb hbo)
        · rw [upd_same, List.map_append]
          rfl
        · exact (P4.more (by omega)).keep keep_upd Da
      · rintro H3 ⟨ys, el, h1, hl, k3, eD, P3⟩
        obtain ⟨j1, j2⟩ := join_ones h1 hl
        refine ⟨_, D, ys, rfl, rfl, .inl (SqL.of eD), ?_, q _ _ ?_ ?_ j2 k3 (P3.more (by omega))⟩
        · rw [ones_sum ys h1, show (Str.ofString "").length = 0 from rfl]
          omega
        · show 1 ≤ (Txt.join "" ys).length
          omega
        · show (Txt.join "" ys).length ≤ 8
          omega
end
end LW

set_option Elab.async false
set_option linter.all false
set_option maxRecDepth 100000
set_option maxHeartbeats 4000000
/-! k02: which objects are tokens -/
namespace K2
open PySem PySem.Spec PyProof.Rows L2 EL LW
open Ln (L isLet isFig isRun isWord isSign isNum isQuoted isTok)
open PySem.EV (ErrC ErrI)
abbrev sRun : Stmt := topS 6
abbrev sIsWord : Stmt := topS 7
abbrev sIsSign : Stmt := topS 8
abbrev sIsNum : Stmt := topS 9
abbrev sIsQuoted : Stmt := topS 10
abbrev sIsToken : Stmt := topS 16
abbrev sIsText : Stmt := topS 17
abbrev sReqText : Stmt := topS 18
theorem scRun : FnScope ["value"] ["value"] (defScope sRun) := ⟨rfl, rfl, rfl, by decide +kernel, rfl, by decide +kernel, by decide +kernel⟩
theorem scIsWord : FnScope ["value"] ["value"] (defScope sIsWord) := ⟨rfl, rfl, rfl, by decide +kernel, rfl, by decide +kernel, by decide +kernel⟩
theorem scIsSign : FnScope ["value"] ["value"] (defScope sIsSign) := ⟨rfl, rfl, rfl, by decide +kernel, rfl, by decide +kernel, by decide +kernel⟩
theorem scIsNum : FnScope ["value"] ["value"] (defScope sIsNum) := ⟨rfl, rfl, rfl, by decide +kernel, rfl, by decide +kernel, by decide +kernel⟩
theorem scIsQuoted : FnScope ["value"] ["value"] (defScope sIsQuoted) := ⟨rfl, rfl, rfl, by decide +kernel, rfl, by decide +kernel, by decide +kernel⟩
theorem scIsToken : FnScope ["value"] ["value"] (defScope sIsToken) := ⟨rfl, rfl, rfl, by decide +kernel, rfl, by decide +kernel, by decide +kernel⟩
theorem scIsText : FnScope ["value", "token"] ["value"] (defScope sIsText) := ⟨rfl, rfl, rfl, by decide +kernel, rfl, by decide +kernel, by decide +kernel⟩
theorem scReqText : FnScope ["text"] ["text"] (defScope sReqText) := ⟨rfl, rfl, rfl, by decide +kernel, rfl, by decide +kernel, by decide +kernel⟩
theorem boot_isi : bootBuiltins (Str.ofString "isinstance") = some (.builtin "isinstance") := by decide +kernel
theorem boot_all : bootBuiltins (Str.ofString "all") = some (.builtin "all") := by decide +kernel
theorem boot_str : bootBuiltins (Str.ofString "str") = some (.type "str") := by decide +kernel
theorem boot_list : bootBuiltins (Str.ofString "list") = some (.type "list") := by decide +kernel
theorem sz (n : Nat) (h : n ≤ 100000) : n ≤ sizeLine := Nat.le_trans h (by rw [sizeLine_eq]; decide)
/-! ### readings that give a value of a kind, the heap grown -/
def Gives (t : TE) (σ : L2.St) (H : Hp) (R : V → Prop) : Prop := ∀ Q : VK, (∀ v H', Same H H' → R v → Q v H') → t σ H Q
theorem Gives.var {σ : L2.St} {H : Hp} {i : Nat} {v : V} (h : σ[i]? = some (some v)) : Gives (tVar i) σ H (fun u => u = v) := fun Q q => ⟨v, h, q _ _ (Same.refl _) rfl⟩
section
variable {J : It} {n : Nat} {G : Hp → Prop} {Y : Nat → Hp → V → Hp → Prop}
/-- a comprehension whose turns leave all that is tracked -/
theorem lc_same (w : Walk J n G Y) {te : TE} {j : Nat} {vs : List Nat} {σ : L2.St} {H1 : Hp} {D : Addr} {Qd : Hp → Prop} (nD : H1 D = none) (ys : List V) (hl : ys.length = n) (hz : n ≤ sizeLine) (hG : ∀ H, Same H1 H → G H)
    (hs : ∀ i x H H', i < n → Same H1 H → Y i H x H' → Same H H' ∧ wipe ((wipe σ vs).set j (some x)) vs = wipe σ vs ∧ Gives te ((wipe σ vs).set j (some x)) H' (fun y => ys[i]? = some y))
    (hd : ∀ H, Same H1 H → H D = some (.lst ys) → Qd H) :
    ∃ W : Nat → Nat → Hp → Prop, (∃ m, W 0 m (upd H1 D (.lst []))) ∧ ∀ i m H, W i m H →
      (J.stop i H ∧ Qd H) ∨ (J.go i H ∧ ∃ Nx : Hp → Prop, (∀ H', Nx H' → ∃ m', m' < m ∧ W (i + 1) m' H') ∧ ∀ x H', J.yld i H x H' → gName j x (wipe σ vs) H' fun σ2 H2 => wipe σ2 vs = wipe σ vs ∧ tYes σ2 H2 fun b H3 =>
        if b = true then te σ2 H3 fun y H4 => ∃ acc, H4 D = some (.lst acc) ∧ acc.length < sizeLine ∧ Nx (upd H4 D (.lst (acc ++ [y]))) else Nx H3) := by
  refine lc_it w (fun i H => Same H1 H ∧ H D = some (.lst (ys.take i))) ⟨same_upd nD, by rw [upd_same]; rfl⟩ (fun i H _ h => hG H h.1) ?_ fun H h => hd H h.1 (by rw [h.2, List.take_of_length_le (by omega)])
  rintro i x H H' hi ⟨s1, eD⟩ y
  obtain ⟨s2, hw, gv⟩ := hs i x H H' hi s1 y
  refine ⟨hw, lc_turn ?_⟩
  refine gv _ fun v H4 s4 hv => ⟨_, (s2.trans s4) _ _ eD, ?_, fun b o hb => ?_, ?_⟩
  · rw [List.length_take]
    omega
  · rw [upd_ne (ne_of_none hb nD)]
    exact (s2.trans s4) _ _ (s1 _ _ hb)
  · rw [upd_same]
    have h1 : i < ys.length := by omega
    have e : ys[i] = v := by
      rw [List.getElem?_eq_getElem h1] at hv
      exact Option.some.inj hv
    rw [List.take_succ_eq_append_getElem h1, e]
end
/-! ### values: a text, or no text -/
def cp (x : Str) : L := x.cps.toList
def NoS (K : PySem.W.Frag) (H : Hp) (v : V) : Prop := (∀ x, v ≠ .str x) ∧ ∃ t, PySem.W.kitOne K t (.type "str") = some false ∧ ∀ H', Same H H' → TyX K H' v t
def Plain (K : PySem.W.Frag) (H : Hp) (v : V) : Prop := (∃ x, v = .str x ∧ x.length ≤ 100000) ∨ NoS K H v
theorem Plain.same {K : PySem.W.Frag} {H H' : Hp} {v : V} (h : Plain K H v) (s : Same H H') : Plain K H' v := h.imp id fun ⟨a, t, b, c⟩ => ⟨a, t, b, fun H2 s2 => c H2 (s.trans s2)⟩
def ofS (f : L → Bool) : V → Bool
  | .str x => f (cp x)
  | _ => false
theorem ofS_no {K : PySem.W.Frag} {H : Hp} {v : V} (h : NoS K H v) (f : L → Bool) : ofS f v = false := by
  cases v with
  | str x => exact absurd rfl (h.1 x)
  | _ => rfl
def letS : Str := Str.ofString "abcdefghijklmnopqrstuvwxyz"
def figS : Str := Str.ofString "0123456789"
def sgnS : Str := Str.ofString "+-*/<>=.,;:!?&|@^~[]{}"
theorem mem_let (c : Nat) : decide (c ∈ letS.cps.toList) = isLet c := by
  have e : letS.cps.toList = List.range' 97 26 := by decide +kernel
  rw [e, Bool.eq_iff_iff, decide_eq_true_iff, List.mem_range'_1]
  unfold isLet
  simp
  omega
theorem mem_fig (c : Nat) : decide (c ∈ figS.cps.toList) = isFig c := by
  have e : figS.cps.toList = List.range' 48 10 := by decide +kernel
  rw [e, Bool.eq_iff_iff, decide_eq_true_iff, List.mem_range'_1]
  unfold isFig
  simp
  omega
theorem mem_sgn (c : Nat) : decide (c ∈ sgnS.cps.toList) = Ln.signs.contains c := by
  have e : sgnS.cps.toList = Ln.signs := by decide +kernel
  rw [e, Bool.eq_iff_iff, decide_eq_true_iff, List.contains_iff_mem]
section
variable {P : Program} {w : World} {K : PySem.W.Frag} {mg : Str → Option Value} {base : Heap}
/-- isinstance(value, str) -/
theorem isi_str {x : Str} {H : Hp} {Q : VK} (q : Q (.bl true) H) : rIsi K [.str x, .ty "str"] H Q := ⟨_, _, _, _, true, rfl, ClsV.ty _, .base (.str x), kit_ty (by decide +kernel), q⟩
theorem isi_no {v : V} {H H' : Hp} {Q : VK} (h : NoS K H v) (s : Same H H') (q : Q (.bl false) H') : rIsi K [v, .ty "str"] H' Q := by
  obtain ⟨_, t, k, ty⟩ := h
  exact ⟨_, _, t, _, false, rfl, ClsV.ty _, ty _ s, k, q⟩
/-- a judge of tokens -/
def spTok (K : PySem.W.Frag) (f : L → Bool) : Sp := fun vs H Q _ => ∃ v : V, vs = [v] ∧ Plain K H v ∧ ∀ H', Same H H' → Q (.bl (ofS f v)) H'
def isAsc (c : Nat) : Bool := decide (c < 128)
theorem all_cps (x : Str) (p : Nat → Bool) : x.cps.all p = (cp x).all p := by
  unfold cp
  rw [Array.all_toList]
theorem any_cps (x : Str) (p : Nat → Bool) : x.cps.any p = (cp x).any p := by
  unfold cp
  rw [Array.any_toList]
theorem ok_run {f : Addr} {fd : FuncData} {t : Tok} (F : Fun K "is_run" "is_run" sRun f fd) (mis : mg "isinstance" = none) (mst : mg "str" = none) (ml : mg "len" = none) (mM : mg "MOST_SIGNS" = some (.int 8 t)) :
    FnOk P w K mg base CX0 1 f fd ["value"] (spTok K (isRun isAsc)) := by
  refine F.ok scRun (fun vs H Q E h => ?_) (fun cdv A outer s H vs Q E hr h => ?_)
  · obtain ⟨v, rfl, _⟩ := h
    rfl
  · obtain ⟨v, rfl, hv, q⟩ := h
    have nd := scRun.nd
    refine ⟨_, pss_one (ps_ret (pe_and (pe_callB call_isi (by rfl) mis boot_isi (pa_cons (pv 0) (pa_cons (pe_bltn (v := .ty "str") (by rfl) mst boot_str rfl) pa_nil)))
      (pe_and (pe_chain op_le op_le pe_int (pe_callB call_len_str (by rfl) ml PySem.boot_len (pa_cons (pv 0) pa_nil)) (pe_glob (v := .int 8) (by rfl) mM ⟨_, rfl⟩)) (pe_one (pe_m0 PySem.F.slot_str_isascii PySem.F.type_str_isascii mt_isascii (pv 0)))))), ?_⟩
    rcases hv with ⟨x, rfl, hz⟩ | hv
    · have hz' := sz _ hz
      refine ⟨.str x, rfl, _, _, _, _, true, rfl, ClsV.ty _, .base (.str x), kit_ty (by decide +kernel), true, rfl, iteT ?_⟩
      have hl : (cp x).length = x.length := Array.length_toList ..
      have qf : isRun isAsc (cp x) = false → Q (.bl false) H := fun e => by
        have := q H (Same.refl H)
        rw [show ofS (isRun isAsc) (.str x) = isRun isAsc (cp x) from rfl, e] at this
        exact this
      refine ⟨.str x, rfl, x, rfl, hz', _, _, rfl, rfl, _, rfl, ite2 (fun c1 => ?_) (fun c1 => ?_)⟩
      · refine ⟨_, _, rfl, rfl, _, rfl, ite2 (fun c2 => ?_) (fun c2 => ?_)⟩
        · refine ⟨.str x, rfl, ⟨x, rfl⟩, x, rfl, rfl, True.intro, ?_⟩
          have h1 : 1 ≤ x.length := by
            have := of_decide_eq_true c1
            omega
          have h2 : x.length ≤ 8 := by
            have := of_decide_eq_true c2
            omega
          have e : ofS (isRun isAsc) (.str x) = Txt.isascii x := by
            show isRun isAsc (cp x) = x.cps.all _
            unfold isRun
            rw [hl, decide_eq_true h1, decide_eq_true h2, all_cps]
            rfl
          have := q H (Same.refl H)
          rw [e] at this
          exact this
        · refine qf ?_
          unfold isRun
          have : ¬ x.length ≤ 8 := fun h => c2 (decide_eq_true (by omega))
          rw [hl, decide_eq_false this, Bool.and_false, Bool.false_and]
      · refine ⟨_, rfl, iteF (qf ?_)⟩
        have : ¬ 1 ≤ x.length := fun h => c1 (decide_eq_true (by omega))
        unfold isRun
        rw [hl, decide_eq_false this, Bool.false_and, Bool.false_and]
    · obtain ⟨t0, k0, ty0⟩ := hv.2
      refine ⟨v, rfl, _, _, t0, _, false, rfl, ClsV.ty _, ty0 _ (Same.refl _), k0, false, rfl, iteF ?_⟩
      have := q H (Same.refl H)
      rw [ofS_no hv] at this
      exact this
end
end K2

set_option Elab.async false
set_option linter.all false
set_option maxRecDepth 100000
set_option maxHeartbeats 4000000
/-! k02: words, signs, numbers, quoted words, tokens, texts -/
namespace K2
open PySem PySem.Spec PyProof.Rows L2 EL LW
open Ln (L isLet isFig isRun isWord isSign isNum isQuoted isTok)
open PySem.EV (ErrC ErrI)
/-! ### texts by their code points -/
theorem cp_inj {x y : Str} (h : cp x = cp y) : x = y := by
  cases x; cases y
  congr 1
  exact Array.toList_inj.mp h
theorem dec_str (x y : Str) : decide (V.str x = V.str y) = decide (cp x = cp y) := by
  rw [Bool.eq_iff_iff, decide_eq_true_iff, decide_eq_true_iff]
  exact ⟨fun h => by cases h; rfl, fun h => by rw [cp_inj h]⟩
theorem cp_len (x : Str) : (cp x).length = x.length := Array.length_toList ..
theorem cut_take {x : Str} {k : Nat} (h : k ≤ x.length) : cp (cutS x none (some (k : Int))) = (cp x).take k := by
  unfold cutS cp
  rw [HT.sIx_none, HT.sIx_nat, Nat.min_eq_left h]
  simp
theorem cut_take' (x : Str) (k : Nat) : cp (cutS x none (some (k : Int))) = (cp x).take k := by
  unfold cutS cp
  rw [HT.sIx_none, HT.sIx_nat]
  simp only [Nat.sub_zero, List.drop_zero]
  rcases Nat.le_total k x.length with h | h
  · rw [Nat.min_eq_left h]
  · have e : x.cps.toList.length = x.length := cp_len x
    rw [Nat.min_eq_right h, List.take_of_length_le (by omega), List.take_of_length_le (by omega)]
theorem cut_drop (x : Str) (k : Nat) : cp (cutS x (some (k : Int)) none) = (cp x).drop k := by
  unfold cutS cp
  rw [HT.sIx_none, HT.sIx_nat]
  have e : x.cps.toList.length = x.length := cp_len x
  rcases Nat.le_total k x.length with h | h
  · rw [Nat.min_eq_left h]
    show (x.cps.toList.drop k).take (x.length - k) = _
    rw [List.take_of_length_le (by rw [List.length_drop]; omega)]
  · rw [Nat.min_eq_right h]
    show (x.cps.toList.drop x.length).take _ = _
    rw [List.drop_of_length_le (by omega), List.drop_of_length_le (by omega)]
    simp
theorem cut_mid (x : Str) (i j : Nat) (h : i ≤ j) : cp (cutS x (some (i : Int)) (some (j : Int))) = ((cp x).drop i).take (j - i) := by
  unfold cutS cp
  rw [HT.sIx_nat, HT.sIx_nat]
  have e : x.cps.toList.length = x.length := cp_len x
  show (x.cps.toList.drop (min i x.length)).take (min j x.length - min i x.length) = _
  rcases Nat.le_total i x.length with h1 | h1
  · rw [Nat.min_eq_left h1]
    rcases Nat.le_total j x.length with h2 | h2
    · rw [Nat.min_eq_left h2]
    · rw [Nat.min_eq_right h2, List.take_of_length_le (by rw [List.length_drop]; omega), List.take_of_length_le (by rw [List.length_drop]; omega)]
  · rw [Nat.min_eq_right h1, List.drop_of_length_le (by omega), List.drop_of_length_le (by omega)]
    simp
theorem cut_le (x : Str) (lo hi : Option Int) : (cutS x lo hi).length ≤ x.length := by
  rw [← cp_len, ← cp_len]
  show ((x.cps.toList.drop _).take _).length ≤ _
  rw [List.length_take, List.length_drop]
  show _ ≤ x.cps.toList.length
  omega
theorem one_sign {x : Str} (h : x.length = 1) : ∃ c, x = ⟨#[c]⟩ ∧ cp x = [c] := by
  have e := cp_len x
  rw [h] at e
  match q : cp x, e with
  | [c], _ => exact ⟨c, cp_inj (by rw [q]; rfl), rfl⟩
theorem num_str : ∀ {v : V} {f : L → Bool}, ofS f v = true → ∃ x, v = .str x ∧ f (cp x) = true
  | .str x, f, h => ⟨x, rfl, h⟩
  | .non, _, h => by cases h
  | .bl _, _, h => by cases h
  | .int _, _, h => by cases h
  | .ref _, _, h => by cases h
  | .byt _, _, h => by cases h
  | .flt _, _, h => by cases h
  | .ty _, _, h => by cases h
/-! ### letters and figures among the signs below 128 -/
def isCap (c : Nat) : Bool := decide (65 ≤ c) && decide (c ≤ 90)
theorem asc_alpha : ∀ c < 128, Unicode.isAlpha c = (isLet c || isCap c) := by decide +kernel
theorem asc_lower : ∀ c < 128, Unicode.isLower c = isLet c := by decide +kernel
theorem asc_upper : ∀ c < 128, (Unicode.isUpper c || Unicode.isTitle c) = isCap c := by decide +kernel
theorem asc_digit : ∀ c < 128, Unicode.isDigit c = isFig c := by decide +kernel
theorem cap_let : ∀ c < 128, isCap c = true → isLet c = false := by decide +kernel
theorem let_asc {c : Nat} (h : isLet c = true) : isAsc c = true := by
  unfold isLet at h
  unfold isAsc
  simp at h ⊢
  omega
theorem fig_asc {c : Nat} (h : isFig c = true) : isAsc c = true := by
  unfold isFig at h
  unfold isAsc
  simp at h ⊢
  omega
theorem run_asc {p : Nat → Bool} (hp : ∀ c, p c = true → isAsc c = true) {l : L} (h : isRun p l = true) : isRun isAsc l = true := by
  unfold isRun at h ⊢
  simp only [Bool.and_eq_true, decide_eq_true_eq, List.all_eq_true] at h ⊢
  exact ⟨h.1, fun c hc => hp c (h.2 c hc)⟩
theorem all_cong {p r : Nat → Bool} {l : L} (h : ∀ c ∈ l, p c = r c) : l.all p = l.all r := by
  induction l with
  | nil => rfl
  | cons c l ih => rw [List.all_cons, List.all_cons, h c List.mem_cons_self, ih fun d hd => h d (List.mem_cons_of_mem _ hd)]
theorem any_cong {p r : Nat → Bool} {l : L} (h : ∀ c ∈ l, p c = r c) : l.any p = l.any r := by
  induction l with
  | nil => rfl
  | cons c l ih => rw [List.any_cons, List.any_cons, h c List.mem_cons_self, ih fun d hd => h d (List.mem_cons_of_mem _ hd)]
theorem run_parts {x : Str} (h : isRun isAsc (cp x) = true) : 1 ≤ x.length ∧ (∀ c ∈ cp x, c < 128) ∧ ∀ p, isRun p (cp x) = (cp x).all p := by
  have h2 := h
  unfold isRun at h2
  simp only [Bool.and_eq_true, decide_eq_true_eq, List.all_eq_true, isAsc] at h2
  have hl : (cp x).length = x.length := Array.length_toList ..
  refine ⟨by omega, h2.2, fun p => ?_⟩
  unfold isRun
  rw [decide_eq_true h2.1.1, decide_eq_true h2.1.2]
  rfl
theorem word_asc {x : Str} (h : isRun isAsc (cp x) = true) : isWord (cp x) = (Txt.isalpha x && Txt.islower x) := by
  obtain ⟨h1, h2, h3⟩ := run_parts h
  have e1 : Txt.isalpha x = (cp x).all fun c => isLet c || isCap c := by
    show (decide (x.length > 0) && x.cps.all Unicode.isAlpha) = _
    rw [decide_eq_true (show x.length > 0 from h1), Bool.true_and, all_cps]
    exact all_cong fun c hc => asc_alpha c (h2 c hc)
  have e2 : Txt.islower x = ((cp x).any isLet && !(cp x).any isCap) := by
    show (x.cps.any Unicode.isLower && !x.cps.any fun c => Unicode.isUpper c || Unicode.isTitle c) = _
    rw [any_cps, any_cps, any_cong fun c hc => asc_lower c (h2 c hc), any_cong fun c hc => asc_upper c (h2 c hc)]
  have hl : (cp x).length = x.length := Array.length_toList ..
  show isRun isLet (cp x) = _
  rw [h3, e1, e2, Bool.eq_iff_iff]
  generalize cp x = l at *
  constructor
  · intro ha
    rw [List.all_eq_true] at ha
    rw [Bool.and_eq_true, Bool.and_eq_true, List.all_eq_true, List.any_eq_true, Bool.not_eq_true', List.any_eq_false]
    refine ⟨fun c hc => by rw [ha c hc]; rfl, ?_, fun c hc hcap => ?_⟩
    · cases l with
      | nil => simp at hl; omega
      | cons c l => exact ⟨c, List.mem_cons_self, ha c List.mem_cons_self⟩
    · have := cap_let c (h2 c hc) hcap
      rw [ha c hc] at this
      cases this
  · intro ha
    rw [Bool.and_eq_true, Bool.and_eq_true, List.all_eq_true, Bool.not_eq_true', List.any_eq_false] at ha
    rw [List.all_eq_true]
    intro c hc
    have a1 := ha.1 c hc
    have a2 := ha.2.2 c hc
    rw [Bool.or_eq_true] at a1
    exact a1.resolve_right a2
theorem num_asc {x : Str} (h : isRun isAsc (cp x) = true) : isRun isFig (cp x) = Txt.isdigit x := by
  obtain ⟨h1, h2, h3⟩ := run_parts h
  rw [h3]
  show _ = (decide (x.length > 0) && x.cps.all Unicode.isDigit)
  rw [decide_eq_true (show x.length > 0 from h1), Bool.true_and, all_cps]
  exact (all_cong fun c hc => asc_digit c (h2 c hc)).symm
section
variable {P : Program} {w : World} {K : PySem.W.Frag} {mg : Str → Option Value} {base : Heap} {C T I : Addr}
theorem ok_word' {f fR : Addr} {fd fdR : FuncData} (F : Fun K "is_word" "is_word" sIsWord f fd) (kR : PySem.W.keepIn K (.ref fR) = true) (GR : FnOk P w K mg base CX0 1 fR fdR ["value"] (spTok K (isRun isAsc))) (bR : Binds K fdR ["value"] []) (gR : mg "is_run" = some (.ref fR)) :
    FnOk P w K mg base CX0 2 f fd ["value"] (spTok K isWord) := by
  refine F.ok scIsWord (fun vs H Q E h => ?_) (fun cdv A outer s H vs Q E hr h => ?_)
  · obtain ⟨v, rfl, _⟩ := h
    rfl
  · obtain ⟨v, rfl, hv, q⟩ := h
    refine ⟨_, pss_one (ps_ret (pe_and (pe_call GR hr (by rfl) gR kR bR .nil pass0 (pa_cons (pv 0) pa_nil))
      (pe_and (pe_m0 PySem.F.slot_str_isalpha PySem.F.type_str_isalpha mt_isalpha (pv 0)) (pe_one (pe_m0 PySem.F.slot_str_islower PySem.F.type_str_islower mt_islower (pv 0)))))), ?_⟩
    refine ⟨v, rfl, v, rfl, hv, fun H1 s1 => ⟨_, rfl, ite2 (fun c => ?_) (fun c => ?_)⟩⟩
    · obtain ⟨x, rfl, hx⟩ := num_str c
      have q1 := q H1 s1
      rw [show ofS isWord (.str x) = isWord (cp x) from rfl, word_asc hx] at q1
      refine ⟨.str x, rfl, ⟨x, rfl⟩, x, rfl, rfl, True.intro, _, rfl, ite2 (fun c1 => ?_) (fun c1 => ?_)⟩
      · rw [c1, Bool.true_and] at q1
        exact ⟨.str x, rfl, ⟨x, rfl⟩, x, rfl, rfl, True.intro, q1⟩
      · have c2 : Txt.isalpha x = false := by simpa using c1
        rw [c2, Bool.false_and] at q1
        exact q1
    · have q1 := q H1 s1
      have e2 : ofS isWord v = false := by
        cases hb : ofS isWord v with
        | false => rfl
        | true =>
          obtain ⟨x, rfl, hx⟩ := num_str hb
          exact absurd (run_asc (fun c hc => let_asc hc) hx) c
      rw [e2] at q1
      exact q1
theorem ok_sign {f : Addr} {fd : FuncData} {t : Tok} (F : Fun K "is_sign" "is_sign" sIsSign f fd) (mis : mg "isinstance" = none) (mst : mg "str" = none) (ml : mg "len" = none) (mS : mg "SIGNS" = some (.str sgnS t)) : FnOk P w K mg base CX0 1 f fd ["value"] (spTok K isSign) := by
  refine F.ok scIsSign (fun vs H Q E h => ?_) (fun cdv A outer s H vs Q E hr h => ?_)
  · obtain ⟨v, rfl, _⟩ := h
    rfl
  · obtain ⟨v, rfl, hv, q⟩ := h
    refine ⟨_, pss_one (ps_ret (pe_and (pe_callB call_isi (by rfl) mis boot_isi (pa_cons (pv 0) (pa_cons (pe_bltn (v := .ty "str") (by rfl) mst boot_str rfl) pa_nil)))
      (pe_and (pe_cmpR op_eq (pe_callB call_len_str (by rfl) ml PySem.boot_len (pa_cons (pv 0) pa_nil)) pe_int (nomark _)) (pe_one (pe_cmpR op_in_sign (pv 0) (pe_glob (v := .str sgnS) (by rfl) mS ⟨_, rfl⟩) (by rfl)))))), ?_⟩
    rcases hv with ⟨x, rfl, hz⟩ | hv
    · have hz' := sz _ hz
      refine ⟨.str x, rfl, _, _, _, _, true, rfl, ClsV.ty _, .base (.str x), kit_ty (by decide +kernel), true, rfl, iteT ?_⟩
      refine ⟨.str x, rfl, x, rfl, hz', rfl, _, rfl, ite2 (fun c => ?_) (fun c => ?_)⟩
      · have e1 : x.length = 1 := by
          have e := of_decide_eq_true c
          injection e with e
          omega
        obtain ⟨d, rfl, ed⟩ := one_sign e1
        refine ⟨_, rfl, d, sgnS, rfl, rfl, ?_⟩
        rw [mem_sgn]
        have := q H (Same.refl H)
        have e : ofS isSign (.str ⟨#[d]⟩) = Ln.signs.contains d := by
          show isSign (cp ⟨#[d]⟩) = _
          rw [ed]
          unfold isSign
          simp
        rw [e] at this
        exact this
      · have := q H (Same.refl H)
        have e : ofS isSign (.str x) = false := by
          show isSign (cp x) = false
          unfold isSign
          rw [cp_len]
          have : ¬ x.length = 1 := fun h => c (decide_eq_true (by rw [h]; rfl))
          rw [decide_eq_false this, Bool.false_and]
        rw [e] at this
        exact this
    · obtain ⟨t0, k0, ty0⟩ := hv.2
      refine ⟨v, rfl, _, _, t0, _, false, rfl, ClsV.ty _, ty0 _ (Same.refl _), k0, false, rfl, iteF ?_⟩
      have := q H (Same.refl H)
      rw [ofS_no hv] at this
      exact this
theorem plain_len {H : Hp} {x : Str} (h : Plain K H (.str x)) : x.length ≤ 100000 := by
  rcases h with ⟨y, e, hz⟩ | h
  · cases e
    exact hz
  · exact absurd rfl (h.1 x)
theorem ok_num {f fR : Addr} {fd fdR : FuncData} (F : Fun K "is_number" "is_number" sIsNum f fd) (kR : PySem.W.keepIn K (.ref fR) = true) (GR : FnOk P w K mg base CX0 1 fR fdR ["value"] (spTok K (isRun isAsc))) (bR : Binds K fdR ["value"] []) (gR : mg "is_run" = some (.ref fR)) :
    FnOk P w K mg base CX0 2 f fd ["value"] (spTok K isNum) := by
  refine F.ok scIsNum (fun vs H Q E h => ?_) (fun cdv A outer s H vs Q E hr h => ?_)
  · obtain ⟨v, rfl, _⟩ := h
    rfl
  · obtain ⟨v, rfl, hv, q⟩ := h
    refine ⟨_, pss_one (ps_ret (pe_and (pe_call GR hr (by rfl) gR kR bR .nil pass0 (pa_cons (pv 0) pa_nil))
      (pe_and (pe_m0 PySem.F.slot_str_isdigit PySem.F.type_str_isdigit mt_isdigit (pv 0))
      (pe_one (pe_or (pe_cmpR op_eq (pv 0) pe_str (nomark _)) (pe_one (pe_cmpR op_ne (pe_ix ix_str (pv 0) pe_int (fun _ _ => rfl)) pe_str (nomark _)))))))), ?_⟩
    have no : ∀ H1, Same H H1 → (∀ x, v = .str x → isRun isFig (cp x) = false) → Q (.bl false) H1 := fun H1 s1 hn => by
      have q1 := q H1 s1
      have e2 : ofS isNum v = false := by
        cases hb : ofS isNum v with
        | false => rfl
        | true =>
          obtain ⟨x, rfl, hx⟩ := num_str hb
          unfold isNum at hx
          simp only [Bool.and_eq_true] at hx
          rw [hn x rfl] at hx
          cases hx.1
      rw [e2] at q1
      exact q1
    refine ⟨v, rfl, v, rfl, hv, fun H1 s1 => ⟨_, rfl, ite2 (fun c0 => ?_) (fun c0 => ?_)⟩⟩
    rotate_left
    · refine no H1 s1 fun x e => ?_
      subst e
      cases hb : isRun isFig (cp x) with
      | false => rfl
      | true => exact absurd (run_asc (fun c hc => fig_asc hc) hb) c0
    obtain ⟨x, rfl, hx0⟩ := num_str c0
    refine ⟨.str x, rfl, ⟨x, rfl⟩, x, rfl, rfl, True.intro, _, rfl, ite2 (fun c => ?_) (fun c => ?_)⟩
    · have hx : isRun isFig (cp x) = true := by rw [num_asc hx0]; exact c
      have hz' := sz _ (plain_len hv)
      have q1 := q H1 s1
      have hx2 := hx
      unfold isRun at hx2
      simp only [Bool.and_eq_true, decide_eq_true_eq] at hx2
      obtain ⟨⟨h1, h8⟩, _⟩ := hx2
      refine ⟨.str x, rfl, rfl, _, rfl, ite2 (fun c1 => ?_) (fun c1 => ?_)⟩
      · have e : cp x = [48] := by
          have z : decide (cp x = cp "0") = true := by rw [← dec_str]; exact c1
          exact of_decide_eq_true z
        have e2 : ofS isNum (.str x) = true := by
          show isNum (cp x) = true
          unfold isNum
          rw [hx, e]
          rfl
        rw [e2] at q1
        exact q1
      · match ex : cp x, h1 with
        | d :: ds, _ =>
          refine ⟨.str x, rfl, x, 0, d, rfl, rfl, hz', ?_, rfl, ?_⟩
          · show atI (cp x) 0 = some d
            rw [ex]
            exact atI_nat (j := 0) rfl
          · rw [dec_str]
            have e2 : ofS isNum (.str x) = !decide (cp (⟨#[d]⟩ : Str) = cp "0") := by
              show isNum (cp x) = _
              unfold isNum
              rw [hx, ex]
              have n1 : (d :: ds == [48]) = false := by
                have z : ¬ cp x = [48] := fun e => c1 (by rw [dec_str]; exact decide_eq_true e)
                rw [ex] at z
                simpa using z
              rw [n1]
              show (true && (false || !(d == 48))) = !decide ([d] = [48])
              simp [Bool.beq_eq_decide_eq]
            rw [e2] at q1
            exact q1
    · refine no H1 s1 fun y e => ?_
      cases e
      rw [num_asc hx0]
      simpa using c
theorem ok_quoted {f fW : Addr} {fd fdW : FuncData} {t : Tok} (F : Fun K "is_quoted" "is_quoted" sIsQuoted f fd) (kW : PySem.W.keepIn K (.ref fW) = true) (GW : FnOk P w K mg base CX0 2 fW fdW ["value"] (spTok K isWord)) (bW : Binds K fdW ["value"] []) (gW : mg "is_word" = some (.ref fW))
    (mis : mg "isinstance" = none) (mst : mg "str" = none) (mQ : mg "QUOTE" = some (.str "'" t)) : FnOk P w K mg base CX0 3 f fd ["value"] (spTok K isQuoted) := by
  refine F.ok scIsQuoted (fun vs H Q E h => ?_) (fun cdv A outer s H vs Q E hr h => ?_)
  · obtain ⟨v, rfl, _⟩ := h
    rfl
  · obtain ⟨v, rfl, hv, q⟩ := h
    refine ⟨_, pss_one (ps_ret (pe_and (pe_callB call_isi (by rfl) mis boot_isi (pa_cons (pv 0) (pa_cons (pe_bltn (v := .ty "str") (by rfl) mst boot_str rfl) pa_nil)))
      (pe_and (pe_cmpR op_eq (pe_slice sl_str (pv 0) po_none (po_some pe_int)) (pe_glob (v := .str "'") (by rfl) mQ ⟨_, rfl⟩) (nomark _)) (pe_one (pe_call GW hr (by rfl) gW kW bW .nil pass0 (pa_cons (pe_slice sl_str (pv 0) (po_some pe_int) po_none) pa_nil)))))), ?_⟩
    rcases hv with ⟨x, rfl, hz⟩ | hv
    · have hz' := sz _ hz
      refine ⟨.str x, rfl, _, _, _, _, true, rfl, ClsV.ty _, .base (.str x), kit_ty (by decide +kernel), true, rfl, iteT ?_⟩
      refine ⟨.str x, rfl, 1, rfl, x, rfl, hz', rfl, _, rfl, ite2 (fun c => ?_) (fun c => ?_)⟩
      · refine ⟨.str x, rfl, 1, rfl, x, rfl, hz', _, rfl, .inl ⟨_, rfl, Nat.le_trans (cut_le _ _ _) hz⟩, fun H1 s1 => ?_⟩
        have q1 := q H1 s1
        have e : ofS isQuoted (.str x) = ofS isWord (.str (cutS x (some 1) none)) := by
          show isQuoted (cp x) = isWord (cp _)
          unfold isQuoted
          have e1 : cp (cutS x (some 1) none) = (cp x).drop 1 := cut_drop x 1
          rw [dec_str] at c
          have c2 := of_decide_eq_true c
          have e2 : cp (cutS x none (some 1)) = (cp x).take 1 := cut_take' x 1
          rw [e2] at c2
          rw [e1, c2]
          have : (cp "'" == [39]) = true := by decide +kernel
          rw [this, Bool.true_and]
        rw [e] at q1
        exact q1
      · have q1 := q H (Same.refl H)
        have e : ofS isQuoted (.str x) = false := by
          show isQuoted (cp x) = false
          unfold isQuoted
          have e2 : cp (cutS x none (some 1)) = (cp x).take 1 := cut_take' x 1
          have n : ¬ (cp x).take 1 = cp "'" := fun z => c (by rw [dec_str, e2]; exact decide_eq_true z)
          have e3 : cp "'" = [39] := by decide +kernel
          rw [e3] at n
          have : ((cp x).take 1 == [39]) = false := by simpa using n
          rw [this, Bool.false_and]
        rw [e] at q1
        exact q1
    · obtain ⟨t0, k0, ty0⟩ := hv.2
      refine ⟨v, rfl, _, _, t0, _, false, rfl, ClsV.ty _, ty0 _ (Same.refl _), k0, false, rfl, iteF ?_⟩
      have := q H (Same.refl H)
      rw [ofS_no hv] at this
      exact this
end
end K2

set_option Elab.async false
set_option linter.all false
set_option maxRecDepth 100000
set_option maxHeartbeats 4000000
/-! k02: tokens, texts, what is refused -/
namespace K2
open PySem PySem.Spec PyProof.Rows L2 EL LW
open Ln (L isLet isFig isRun isWord isSign isNum isQuoted isTok)
open PySem.EV (ErrC ErrI)
/-- no list -/
def NoL (K : PySem.W.Frag) (H : Hp) (v : V) : Prop := ∃ t, PySem.W.kitOne K t (.type "list") = some false ∧ ∀ H', Same H H' → TyX K H' v t
/-- a list of objects, or no list; is it a text -/
def TxV (K : PySem.W.Frag) (H : Hp) (v : V) (b : Bool) : Prop := (∃ (a : Addr) (xs : List V), v = .ref a ∧ H a = some (.lst xs) ∧ xs.length ≤ 1000 ∧ (∀ x ∈ xs, Plain K H x) ∧ b = xs.all (ofS isTok)) ∨ (NoL K H v ∧ b = false)
theorem NoL.same {K : PySem.W.Frag} {H H' : Hp} {v : V} (h : NoL K H v) (s : Same H H') : NoL K H' v := by
  obtain ⟨t, a, b⟩ := h
  exact ⟨t, a, fun H2 s2 => b H2 (s.trans s2)⟩
theorem TxV.same {K : PySem.W.Frag} {H H' : Hp} {v : V} {b : Bool} (h : TxV K H v b) (s : Same H H') : TxV K H' v b := by
  rcases h with ⟨a, xs, e, h1, h2, h3, h4⟩ | ⟨h, e⟩
  · exact .inl ⟨a, xs, e, s _ _ h1, h2, fun x hx => (h3 x hx).same s, h4⟩
  · exact .inr ⟨h.same s, e⟩
section
variable {P : Program} {w : World} {K : PySem.W.Frag} {mg : Str → Option Value} {base : Heap} {C T I : Addr}
theorem plain_flat {K : PySem.W.Frag} {H : Hp} {x : Str} : flatV (.str x) = true := rfl
theorem ofS_or (v : V) (hv : ∃ x, v = .str x) : ofS isTok v = (inV v [.str "(", .str ")"] || ofS isWord v || ofS isSign v || ofS isNum v || ofS isQuoted v) := by
  obtain ⟨x, rfl⟩ := hv
  show isTok (cp x) = ((eqV (.str "(") (.str x) || (eqV (.str ")") (.str x) || false)) || isWord (cp x) || isSign (cp x) || isNum (cp x) || isQuoted (cp x))
  have h1 : ∀ y : Str, eqV (.str y) (.str x) = (cp x == cp y) := fun y => by
    show (y == x) = _
    rw [Bool.eq_iff_iff, beq_iff_eq, beq_iff_eq]
    exact ⟨fun e => by rw [e], fun e => (cp_inj e).symm⟩
  rw [h1, h1, Bool.or_false]
  have e1 : cp "(" = [40] := by decide +kernel
  have e2 : cp ")" = [41] := by decide +kernel
  rw [e1, e2]
  rfl
theorem ok_token {f fW fS fN fQ aB : Addr} {fd dW dS dN dQ : FuncData} (F : Fun K "is_token" "is_token" sIsToken f fd)
    (kW : PySem.W.keepIn K (.ref fW) = true) (GW : FnOk P w K mg base CX0 2 fW dW ["value"] (spTok K isWord)) (bW : Binds K dW ["value"] []) (gW : mg "is_word" = some (.ref fW))
    (kS : PySem.W.keepIn K (.ref fS) = true) (GS : FnOk P w K mg base CX0 1 fS dS ["value"] (spTok K isSign)) (bS : Binds K dS ["value"] []) (gS : mg "is_sign" = some (.ref fS))
    (kN : PySem.W.keepIn K (.ref fN) = true) (GN : FnOk P w K mg base CX0 2 fN dN ["value"] (spTok K isNum)) (bN : Binds K dN ["value"] []) (gN : mg "is_number" = some (.ref fN))
    (kQ : PySem.W.keepIn K (.ref fQ) = true) (GQ : FnOk P w K mg base CX0 3 fQ dQ ["value"] (spTok K isQuoted)) (bQ : Binds K dQ ["value"] []) (gQ : mg "is_quoted" = some (.ref fQ))
    (mis : mg "isinstance" = none) (mst : mg "str" = none) (mB : mg "BRACKETS" = some (.ref aB)) (hB : ∀ H : Hp, SqT K H aB [.str "(", .str ")"]) : FnOk P w K mg base CX0 4 f fd ["value"] (spTok K isTok) := by
  refine F.ok scIsToken (fun vs H Q E h => ?_) (fun cdv A outer s H vs Q E hr h => ?_)
  · obtain ⟨v, rfl, _⟩ := h
    rfl
  · obtain ⟨v, rfl, hv, q⟩ := h
    refine ⟨_, pss_cons (ps_if (pt_not (pt_val (pe_callB call_isi (by rfl) mis boot_isi (pa_cons (pv 0) (pa_cons (pe_bltn (v := .ty "str") (by rfl) mst boot_str rfl) pa_nil))))) (pss_one (ps_ret pe_bl)) pss_nil)
      (pss_one (ps_ret (pe_or (pe_cmpR op_in_seq (pv 0) (pe_glob (v := .ref aB) (by rfl) mB rfl) (by rfl))
        (pe_or (pe_call GW (hr.mono (by decide)) (by rfl) gW kW bW .nil pass0 (pa_cons (pv 0) pa_nil))
        (pe_or (pe_call GS (hr.mono (by decide)) (by rfl) gS kS bS .nil pass0 (pa_cons (pv 0) pa_nil))
        (pe_or (pe_call GN (hr.mono (by decide)) (by rfl) gN kN bN .nil pass0 (pa_cons (pv 0) pa_nil))
        (pe_one (pe_call GQ hr (by rfl) gQ kQ bQ .nil pass0 (pa_cons (pv 0) pa_nil))))))))), ?_⟩
    rcases hv with ⟨x, rfl, hz⟩ | hv
    · have hz' := sz _ hz
      have hp : ∀ H' : Hp, Plain K H' (.str x) := fun H' => .inl ⟨x, rfl, hz⟩
      have hor := ofS_or (.str x) ⟨x, rfl⟩
      refine ⟨.str x, rfl, _, _, _, _, true, rfl, ClsV.ty _, .base (.str x), kit_ty (by decide +kernel), true, rfl, iteF ?_⟩
      refine ⟨.str x, rfl, aB, _, rfl, .inr (hB H), rfl, rfl, _, rfl, ite2 (fun c => ?_) (fun c => ?_)⟩
      · have c' : inV (.str x) [.str "(", .str ")"] = true := c
        have := q H (Same.refl H)
        rw [hor, c'] at this
        exact this
      · have c' : inV (.str x) [.str "(", .str ")"] = false := by simpa using c
        rw [c', Bool.false_or] at hor
        refine ⟨.str x, rfl, .str x, rfl, hp _, fun H1 s1 => ⟨_, rfl, ite2 (fun c1 => ?_) (fun c1 => ?_)⟩⟩
        · have := q H1 s1
          rw [hor, c1] at this
          exact this
        · rw [(by simpa using c1 : ofS isWord (.str x) = false), Bool.false_or] at hor
          refine ⟨.str x, rfl, .str x, rfl, hp _, fun H2 s2 => ⟨_, rfl, ite2 (fun c2 => ?_) (fun c2 => ?_)⟩⟩
          · have := q H2 (s1.trans s2)
            rw [hor, c2] at this
            exact this
          · rw [(by simpa using c2 : ofS isSign (.str x) = false), Bool.false_or] at hor
            refine ⟨.str x, rfl, .str x, rfl, hp _, fun H3 s3 => ⟨_, rfl, ite2 (fun c3 => ?_) (fun c3 => ?_)⟩⟩
            · have := q H3 ((s1.trans s2).trans s3)
              rw [hor, c3] at this
              exact this
            · rw [(by simpa using c3 : ofS isNum (.str x) = false), Bool.false_or] at hor
              refine ⟨.str x, rfl, .str x, rfl, hp _, fun H4 s4 => ?_⟩
              have := q H4 (((s1.trans s2).trans s3).trans s4)
              rw [hor] at this
              exact this
    · obtain ⟨t0, k0, ty0⟩ := hv.2
      refine ⟨v, rfl, _, _, t0, _, false, rfl, ClsV.ty _, ty0 _ (Same.refl _), k0, false, rfl, iteT ?_⟩
      have := q H (Same.refl H)
      rw [ofS_no hv] at this
      exact this
def spIsText (K : PySem.W.Frag) : Sp := fun vs H Q _ => ∃ (v : V) (b : Bool), vs = [v] ∧ TxV K H v b ∧ ∀ H', Same H H' → Q (.bl b) H'
theorem ok_isText {f fT : Addr} {fd dT : FuncData} (F : Fun K "is_text" "is_text" sIsText f fd) (kT : PySem.W.keepIn K (.ref fT) = true) (GT : FnOk P w K mg base CX0 4 fT dT ["value"] (spTok K isTok)) (bT : Binds K dT ["value"] []) (gT : mg "is_token" = some (.ref fT))
    (mis : mg "isinstance" = none) (mli : mg "list" = none) (mal : mg "all" = none) : FnOk P w K mg base CX0 5 f fd ["value"] (spIsText K) := by
  refine F.ok scIsText (fun vs H Q E h => ?_) (fun cdv A outer s H vs Q E hr h => ?_)
  · obtain ⟨v, b, rfl, _⟩ := h
    rfl
  · obtain ⟨v, b, rfl, hv, q⟩ := h
    have nd := scIsText.nd
    refine ⟨_, pss_one (ps_ret (pe_and (pe_callB call_isi (by rfl) mis boot_isi (pa_cons (pv 0) (pa_cons (pe_bltn (v := .ty "list") (by rfl) mli boot_list rfl) pa_nil)))
      (pe_one (pe_callB (cr_all rfl) (by rfl) mal boot_all (pa_cons (pe_lc (own := [("token", 1)]) (g := gName 1) (tt := tYes) rfl nd (pi_list (pv 0)) (blkOk_by (own := [("token", 1)]) (N := ["value", "token"]) (sc := defScope sIsText) (by decide +kernel)) (fun _ _ _ _ _ => pg_name (i := 1) nd rfl (Or.inl rfl)) (fun _ _ _ _ _ => pts_nil)
        (fun _ _ _ _ _ => pe_call GT hr (by rfl) gT kT bT .nil pass0 (pa_cons (pv 1) pa_nil))) pa_nil))))), ?_⟩
    rcases hv with ⟨a, xs, rfl, ha, hz, hp, rfl⟩ | ⟨hv, rfl⟩
    · refine ⟨.ref a, rfl, _, _, _, _, true, rfl, ClsV.ty _, .base (.lst ha), kit_ty (by decide +kernel), true, rfl, iteT ?_⟩
      refine ⟨.ref a, rfl, a, rfl, ⟨_, SqL.of ha⟩, fun D nD => lc_same (walk_list (xs := xs)) nD ((xs.map (ofS isTok)).map V.bl) (by rw [List.length_map, List.length_map]) (sz _ (by omega)) (fun H1 s1 => SqL.of (s1 _ _ ha)) ?_ fun H1 s1 eD => ?_⟩
      · rintro i y H1 H1' hi s1 ⟨rfl, hy⟩
        refine ⟨Same.refl _, rfl, fun Q' q' => ?_⟩
        refine ⟨y, rfl, y, rfl, (hp y (List.mem_of_getElem? hy)).same s1, fun H2 s2 => q' _ _ s2 ?_⟩
        rw [List.getElem?_map, List.getElem?_map, hy]
        rfl
      · refine ⟨D, xs.map (ofS isTok), rfl, SqL.of eD, ?_⟩
        have := q H1 s1
        rw [List.all_map]
        exact this
    · obtain ⟨t0, k0, ty0⟩ := hv
      exact ⟨v, rfl, _, _, t0, _, false, rfl, ClsV.ty _, ty0 _ (Same.refl _), k0, false, rfl, iteF (q H (Same.refl H))⟩
/-- refused with the very object, or let -/
def Refuses (C : Addr) (H : Hp) (v : V) (E : XK) : Prop := ∀ (d : Addr) (H' : Hp), Same H H' → H' d = some (.xd [("value", v)]) → E (.ref C) (some d) H'
def spReq (K : PySem.W.Frag) (C : Addr) : Sp := fun vs H Q E => ∃ (v : V) (b : Bool), vs = [v] ∧ TxV K H v b ∧ (b = true → ∀ H', Same H H' → Q .non H') ∧ (b = false → Refuses C H v E)
theorem ok_req {f fT : Addr} {fd dT : FuncData} (F : Fun K "require_text" "require_text" sReqText f fd) (kT : PySem.W.keepIn K (.ref fT) = true) (GT : FnOk P w K mg base CX0 5 fT dT ["value"] (spIsText K)) (bT : Binds K dT ["value"] []) (gT : mg "is_text" = some (.ref fT))
    (Z : ErrC K C T) (J : ErrI K C I) (mC : mg "InvalidText" = some (.ref C)) : FnOk P w K mg base (L2.CX P w) 6 f fd ["text"] (spReq K C) := by
  refine F.okX scReqText (fun vs H Q E h => ?_) (fun cdv A outer s H vs Q E hr h => ?_)
  · obtain ⟨v, b, rfl, _⟩ := h
    rfl
  · obtain ⟨v, b, rfl, hv, q1, q2⟩ := h
    refine ⟨_, pss_one (ps_if (pt_not (pt_val (pe_call GT hr (by rfl) gT kT bT .nil pass0 (pa_cons (pv 0) pa_nil)))) (pss_one (ps_raiseErr rfl Z J hr (takes_of rfl rfl rfl rfl) mC (pv 0))) pss_nil), ?_⟩
    refine ⟨v, rfl, v, b, rfl, hv, fun H1 s1 => ⟨b, rfl, ?_⟩⟩
    cases b with
    | true => exact iteF (q1 rfl H1 s1)
    | false => exact iteT ⟨v, rfl, fun d hd => q2 rfl d _ (s1.trans (same_upd hd)) upd_same⟩
end
end K2

set_option Elab.async false
set_option linter.all false
set_option maxRecDepth 100000
set_option maxHeartbeats 4000000
/-! k02: where tokens end -/
namespace K2
open PySem PySem.Spec PyProof.Rows L2 EL LW
open Ln (L isLet isFig isRun isWord isSign isNum isQuoted isTok)
open PySem.EV (ErrC ErrI)
abbrev sRunEnd : Stmt := topS 19
abbrev sTokEnd : Stmt := topS 20
theorem scRunEnd : FnScope ["line", "begin", "characters", "end"] ["line", "begin"] (defScope sRunEnd) := ⟨rfl, rfl, rfl, by decide +kernel, rfl, by decide +kernel, by decide +kernel⟩
theorem scTokEnd : FnScope ["line", "begin"] ["line", "begin"] (defScope sTokEnd) := ⟨rfl, rfl, rfl, by decide +kernel, rfl, by decide +kernel, by decide +kernel⟩
theorem ip_addS {X : Cx} : PIp X .Add rAddS := fun pins s σ H x y v u Q I rx ry h => iop_add_str pins s σ H x y v u Q I rx ry h
theorem cp_at {x : Str} {i c : Nat} (h : (cp x)[i]? = some c) : atI x.cps.toList (i : Int) = some c := atI_nat (xs := x.cps.toList) (j := i) h
/-- the run that a sign begins -/
def runP (c : Nat) : Nat → Bool := if isLet c then isLet else isFig
def runS (c : Nat) : Str := if isLet c then letS else figS
theorem mem_run (c d : Nat) : decide (d ∈ (runS c).cps.toList) = runP c d := by
  unfold runS runP
  split
  · exact mem_let d
  · exact mem_fig d
section
variable {P : Program} {w : World} {K : PySem.W.Frag} {mg : Str → Option Value} {base : Heap} {C T I : Addr}
def spRunEnd : Sp := fun vs H Q _ => ∃ (x : Str) (i c : Nat), vs = [.str x, .int i] ∧ x.length ≤ 100000 ∧ (cp x)[i]? = some c ∧ Q (.int ((i + (((cp x).drop i).takeWhile (runP c)).length : Nat) : Int)) H
theorem ok_runEnd {f : Addr} {fd : FuncData} {t1 t2 : Tok} (F : Fun K "run_end" "run_end" sRunEnd f fd) (ml : mg "len" = none) (mL : mg "LETTERS" = some (.str letS t1)) (mF : mg "FIGURES" = some (.str figS t2)) : FnOk P w K mg base CX0 1 f fd ["line", "begin"] spRunEnd := by
  refine F.ok scRunEnd (fun vs H Q E h => ?_) (fun cdv A outer s H vs Q E hr h => ?_)
  · obtain ⟨x, i, c, rfl, _⟩ := h
    rfl
  · obtain ⟨x, i, c, rfl, hz, hc, q⟩ := h
    have nd := scRunEnd.nd
    have hz' := sz _ hz
    refine ⟨_, pss_cons (ps_set (i := 2) nd rfl (.inl rfl) (pe_ifExp (pt_cmpR op_in_sign (pe_ix ix_str (pv 0) (pv 1) (fun _ _ => rfl)) (pe_glob (v := .str letS) (by rfl) mL ⟨_, rfl⟩) (by rfl)) (pe_glob (v := .str letS) (by rfl) mL ⟨_, rfl⟩) (pe_glob (v := .str figS) (by rfl) mF ⟨_, rfl⟩)))
      (pss_cons (ps_set (i := 3) nd rfl (.inl rfl) (pv 1))
      (pss_cons (ps_while PassesOwn.never (PW.pt (pw_and (pt_cmpR op_lt (pv 3) (pe_callB call_len_str (by rfl) ml PySem.boot_len (pa_cons (pv 0) pa_nil)) (nomark _)) (pw_and1 (pt_cmpR op_in_sign (pe_ix ix_str (pv 0) (pv 3) (fun _ _ => rfl)) (pv 2) (by rfl)))))
          (pss_one (ps_aug (i := 3) nd rfl (.inl rfl) pe_int ip_add)))
      (pss_one (ps_ret (pv 3))))), ?_⟩
    -- the loop
    have twl : (((cp x).drop i).takeWhile (runP c)).length ≤ (cp x).length - i := by
      have := (List.takeWhile_sublist (l := (cp x).drop i) (runP c)).length_le
      rw [List.length_drop] at this
      exact this
    have hi : i < (cp x).length := (List.getElem?_eq_some_iff.mp hc).1
    have hl := cp_len x
    generalize hm : (((cp x).drop i).takeWhile (runP c)).length = m at q twl
    refine ⟨.str x, rfl, .int i, rfl, x, i, c, rfl, rfl, hz', cp_at hc, c, letS, rfl, rfl, _, rfl, ?_⟩
    rw [mem_let]
    have body : ∀ (cs : Str), (∀ d, decide (d ∈ cs.cps.toList) = runP c d) → ∀ n σ H', (∃ e, e ≤ m ∧ n = m - e ∧ σ = [some (.str x), some (.int i), some (.str cs), some (.int ((i + e : Nat) : Int))] ∧ H' = H) →
        tAnd (tTest (tOp (rI0 fun i j => .bl (decide (i < j))) (tVar 3) (tCB (fun xs H Q => ∃ z, xs = [.str z] ∧ z.length ≤ sizeLine ∧ Q (.int z.length) H) (tCons (tVar 0) tNil))))
          (tTest (tOp (fun x y H Q => ∃ (c : Nat) (z : Str), x = .str ⟨#[c]⟩ ∧ y = .str z ∧ Q (.bl (decide (c ∈ z.cps.toList))) H) (tOp rIxS (tVar 0) (tVar 3)) (tVar 2))) σ H' fun b H1 =>
          if b = true then ∃ N : L2.St → Hp → Prop, (∀ σ' H', N σ' H' → ∃ m', m' < n ∧ ∃ e, e ≤ m ∧ m' = m - e ∧ σ' = [some (.str x), some (.int i), some (.str cs), some (.int ((i + e : Nat) : Int))] ∧ H' = H) ∧
            tAug 3 (tC (.int 1)) (ipI fun i j => i + j) { nx := N, ct := N, bk := tRet (tVar 3) { nx := fun _ H' => Q .non H', rt := Q }, rt := Q } σ H1
          else tRet (tVar 3) { nx := fun _ H' => Q .non H', rt := Q } σ H1 := by
      rintro cs hcs n σ H' ⟨e, he, rfl, rfl, rfl⟩
      have fin : e = m → tRet (tVar 3) { nx := fun _ H' => Q .non H', rt := Q } [some (.str x), some (.int i), some (.str cs), some (.int ((i + e : Nat) : Int))] H' := fun z => by
        subst z
        exact ⟨_, rfl, q⟩
      refine ⟨_, rfl, .str x, rfl, x, rfl, hz', _, _, rfl, rfl, _, rfl, ite2 (fun c1 => ?_) (fun c1 => ?_)⟩
      · have l1 : i + e < (cp x).length := by
          have := of_decide_eq_true c1
          omega
        obtain ⟨d, hd⟩ : ∃ d, (cp x)[i + e]? = some d := ⟨_, List.getElem?_eq_getElem l1⟩
        have hd2 : ((cp x).drop i)[e]? = some d := by rw [List.getElem?_drop]; exact hd
        refine ⟨.str x, rfl, _, rfl, x, _, d, rfl, rfl, hz', cp_at hd, .str cs, rfl, d, cs, rfl, rfl, _, rfl, ?_⟩
        rw [hcs d]
        cases hp : runP c d with
        | true =>
          have lt : e < m := by
            rcases Nat.lt_or_ge e m with h | h
            · exact h
            · have em : e = m := by omega
              subst em
              rw [← hm] at hd2
              rw [Ln.tw_end hd2] at hp
              cases hp
          refine iteT ⟨fun σ' H1 => ∃ m', m' < m - e ∧ ∃ e, e ≤ m ∧ m' = m - e ∧ σ' = [some (.str x), some (.int i), some (.str cs), some (.int ((i + e : Nat) : Int))] ∧ H1 = H', fun _ _ h => h, ?_⟩
          exact ⟨_, rfl, _, _, rfl, rfl, m - (e + 1), by omega, e + 1, lt, rfl, rfl, rfl⟩
        | false =>
          refine iteF (fin ?_)
          rcases Nat.lt_or_ge e m with h | h
          · obtain ⟨d', h1, h2⟩ := Ln.tw_lt (p := runP c) (cs := (cp x).drop i) (k := e) (by omega)
            rw [hd2] at h1
            cases h1
            rw [h2] at hp
            cases hp
          · omega
      · refine iteF (fin ?_)
        have : ¬ i + e < (cp x).length := fun h => c1 (decide_eq_true (by omega))
        omega
    refine ite2 (fun h => ?_) (fun h => ?_)
    · exact ⟨.int i, rfl, fun n σ H' => ∃ e, e ≤ m ∧ n = m - e ∧ σ = [some (.str x), some (.int i), some (.str letS), some (.int ((i + e : Nat) : Int))] ∧ H' = H, ⟨m, 0, Nat.zero_le _, rfl, rfl, rfl⟩, body letS fun d => by rw [mem_let, show runP c = isLet from if_pos h]⟩
    · exact ⟨.int i, rfl, fun n σ H' => ∃ e, e ≤ m ∧ n = m - e ∧ σ = [some (.str x), some (.int i), some (.str figS), some (.int ((i + e : Nat) : Int))] ∧ H' = H, ⟨m, 0, Nat.zero_le _, rfl, rfl, rfl⟩, body figS fun d => by rw [mem_fig, show runP c = isFig from if_neg h]⟩
end
end K2

set_option Elab.async false
set_option linter.all false
set_option maxRecDepth 100000
set_option maxHeartbeats 4000000
/-! k02: token_end -/
namespace K2
open PySem PySem.Spec PyProof.Rows L2 EL LW
open Ln (L isLet isFig isRun isWord isSign isNum isQuoted isTok more)
open PySem.EV (ErrC ErrI)
theorem eq_one (s : Str) (c : Nat) : eqV (.str ⟨#[c]⟩) (.str s) = (cp s == [c]) := by
  show ((⟨#[c]⟩ : Str) == s) = _
  rw [Bool.eq_iff_iff, beq_iff_eq, beq_iff_eq]
  exact ⟨fun e => by rw [← e]; rfl, fun e => (cp_inj (x := s) (y := ⟨#[c]⟩) e).symm⟩
theorem in_letters (s : Str) (cs : L) (h : cp s = cs.take 1) : inV (.str s) (signsOf letS) = cs.head?.elim false isLet := by
  unfold inV signsOf
  rw [List.any_map]
  have e : ((fun y => eqV y (.str s)) ∘ fun c => V.str ⟨#[c]⟩) = fun c => (cp s == [c]) := by
    funext c
    exact eq_one s c
  rw [e, h]
  cases cs with
  | nil =>
    rw [Bool.eq_iff_iff, List.any_eq_true]
    simp
  | cons d ds =>
    show (letS.cps.toList.any fun c => [d] == [c]) = isLet d
    rw [← mem_let, Bool.eq_iff_iff, List.any_eq_true, decide_eq_true_iff]
    constructor
    · rintro ⟨c, hc, e⟩
      have : d = c := by simpa using e
      rw [this]
      exact hc
    · intro h
      exact ⟨d, h, by simp⟩
theorem flat_signs (x : Str) : (signsOf x).all flatV = true := by
  unfold signsOf
  rw [List.all_map, List.all_eq_true]
  intro c _
  rfl
section
variable {P : Program} {w : World} {K : PySem.W.Frag} {mg : Str → Option Value} {base : Heap} {C T I : Addr}
def spTokEnd : Sp := fun vs H Q _ => ∃ (x : Str) (i c : Nat) (cs : L), vs = [.str x, .int i] ∧ x.length ≤ 100000 ∧ (cp x).drop i = c :: cs ∧ ∀ H', Same H H' → Q (.int ((i + (more c cs + 1) : Nat) : Int)) H'
theorem ok_tokEnd {f fE : Addr} {fd dE : FuncData} {t1 t2 t3 : Tok} (F : Fun K "token_end" "token_end" sTokEnd f fd) (kE : PySem.W.keepIn K (.ref fE) = true) (GE : FnOk P w K mg base CX0 1 fE dE ["line", "begin"] spRunEnd) (bE : Binds K dE ["line", "begin"] []) (gE : mg "run_end" = some (.ref fE))
    (mli : mg "list" = none) (mL : mg "LETTERS" = some (.str letS t1)) (mF : mg "FIGURES" = some (.str figS t2)) (mQ : mg "QUOTE" = some (.str "'" t3)) : FnOk P w K mg base CX0 2 f fd ["line", "begin"] spTokEnd := by
  refine F.ok scTokEnd (fun vs H Q E h => ?_) (fun cdv A outer s H vs Q E hr h => ?_)
  · obtain ⟨x, i, c, cs, rfl, _⟩ := h
    rfl
  · obtain ⟨x, i, c, cs, rfl, hz, hd, q⟩ := h
    have nd := scTokEnd.nd
    have hz' := sz _ hz
    refine ⟨_, pss_cons (ps_if (PW.pt (pw_and (pt_cmpR op_eq (pe_ix ix_str (pv 0) (pv 1) (fun _ _ => rfl)) (pe_glob (v := .str "'") (by rfl) mQ ⟨_, rfl⟩) (nomark _))
          (pw_and1 (pt_cmpR op_in_seq (pe_slice sl_str (pv 0) (po_some (pe_op op_add (pv 1) pe_int)) (po_some (pe_op op_add (pv 1) pe_int))) (pe_callTy (call_listS rfl) (by rfl) mli boot_list (pa_cons (pe_glob (v := .str letS) (by rfl) mL ⟨_, rfl⟩) pa_nil)) (by rfl)))))
        (pss_one (ps_ret (pe_call GE hr (by rfl) gE kE bE .nil pass0 (pa_cons (pv 0) (pa_cons (pe_op op_add (pv 1) pe_int) pa_nil))))) pss_nil)
      (pss_cons (ps_if (PW.pt (pw_or (pt_cmpR op_in_sign (pe_ix ix_str (pv 0) (pv 1) (fun _ _ => rfl)) (pe_glob (v := .str letS) (by rfl) mL ⟨_, rfl⟩) (by rfl)) (pw_or1 (pt_cmpR op_in_sign (pe_ix ix_str (pv 0) (pv 1) (fun _ _ => rfl)) (pe_glob (v := .str figS) (by rfl) mF ⟨_, rfl⟩) (by rfl)))))
        (pss_one (ps_ret (pe_call GE hr (by rfl) gE kE bE .nil pass0 (pa_cons (pv 0) (pa_cons (pv 1) pa_nil))))) pss_nil)
      (pss_one (ps_ret (pe_op op_add (pv 1) pe_int)))), ?_⟩
    have hc : (cp x)[i]? = some c := by
      have := congrArg List.head? hd
      rw [List.head?_drop] at this
      exact this
    have hd1 : (cp x).drop (i + 1) = cs := by
      rw [show i + 1 = 1 + i by omega, Nat.add_comm 1 i, ← List.drop_drop, hd]
      rfl
    -- the second test, and the end
    have tail : ∀ H1, Same H H1 → (c = 39 → (cs.head?.elim false isLet) = false) → tSeq (tIfS (tOr (tTest (tOp (fun x y H Q => ∃ (c : Nat) (z : Str), x = .str ⟨#[c]⟩ ∧ y = .str z ∧ Q (.bl (decide (c ∈ z.cps.toList))) H) (tOp rIxS (tVar 0) (tVar 1)) (tC (.str letS))))
          (tTest (tOp (fun x y H Q => ∃ (c : Nat) (z : Str), x = .str ⟨#[c]⟩ ∧ y = .str z ∧ Q (.bl (decide (c ∈ z.cps.toList))) H) (tOp rIxS (tVar 0) (tVar 1)) (tC (.str figS))))) (tRet (tCall spRunEnd [] E0 (tCons (tVar 0) (tCons (tVar 1) tNil)))) tNext)
        (tRet (tOp (rI0 fun i j => .int (i + j)) (tVar 1) (tC (.int 1)))) { nx := fun _ H' => Q .non H', rt := Q } [some (.str x), some (.int i)] H1 := by
      intro H1 s1 h39
      have q1 := q H1 s1
      have run : ∀ p, runP c = p → p c = true → more c cs = (cs.takeWhile p).length → tRet (tCall spRunEnd [] E0 (tCons (tVar 0) (tCons (tVar 1) tNil))) { nx := tRet (tOp (rI0 fun i j => .int (i + j)) (tVar 1) (tC (.int 1))) { nx := fun _ H' => Q .non H', rt := Q }, rt := Q } [some (.str x), some (.int i)] H1 := by
        intro p hp hpc hm
        refine ⟨.str x, rfl, .int i, rfl, x, i, c, rfl, hz, hc, ?_⟩
        rw [hd, hp, List.takeWhile_cons, if_pos hpc]
        rw [hm] at q1
        exact q1
      refine ⟨.str x, rfl, .int i, rfl, x, i, c, rfl, rfl, hz', cp_at hc, c, letS, rfl, rfl, _, rfl, ?_⟩
      rw [mem_let]
      cases hl : isLet c with
      | true =>
        refine iteT (run isLet ?_ hl ?_)
        · unfold runP
          rw [if_pos hl]
        · unfold more
          rw [if_neg (fun z => by rw [h39 z.1] at z; cases z.2), if_pos hl]
      | false =>
        refine iteF ⟨.str x, rfl, .int i, rfl, x, i, c, rfl, rfl, hz', cp_at hc, c, figS, rfl, rfl, _, rfl, ?_⟩
        rw [mem_fig]
        have hp : runP c = isFig := by
          unfold runP
          rw [hl]
          rfl
        cases hf : isFig c with
        | true =>
          refine iteT (run isFig hp hf ?_)
          unfold more
          rw [if_neg (fun z => by rw [h39 z.1] at z; cases z.2), hl, hf]
          rfl
        | false =>
          refine iteF ⟨_, rfl, _, _, rfl, rfl, ?_⟩
          have e : more c cs = 0 := by
            unfold more
            rw [if_neg (fun z => by rw [h39 z.1] at z; cases z.2), hl, hf]
            rfl
          rw [e] at q1
          exact q1
    refine ⟨.str x, rfl, .int i, rfl, x, i, c, rfl, rfl, hz', cp_at hc, rfl, _, rfl, ?_⟩
    have e39 : decide (V.str ⟨#[c]⟩ = V.str "'") = decide (c = 39) := by
      rw [dec_str]
      have e1 : cp "'" = [39] := by decide +kernel
      rw [e1]
      show decide ([c] = [39]) = _
      simp
    rw [e39]
    by_cases h39 : c = 39
    · rw [decide_eq_true h39]
      refine iteT ⟨.str x, rfl, .int i, rfl, _, _, rfl, rfl, (i : Int) + 1, rfl, .int i, rfl, _, _, rfl, rfl, (i : Int) + 2, rfl, x, rfl, hz', letS, rfl, by rw [sizeLine_eq]; decide, fun p np => ?_⟩
      have s1 := same_upd (o := .lst (signsOf letS)) np
      have ecut : cp (cutS x (some ((i : Int) + 1)) (some ((i : Int) + 2))) = cs.take 1 := by
        have := cut_mid x (i + 1) (i + 2) (by omega)
        rw [hd1] at this
        rw [show (i : Int) + 1 = ((i + 1 : Nat) : Int) by omega, show (i : Int) + 2 = ((i + 2 : Nat) : Int) by omega, this]
        congr 1
        omega
      refine ⟨p, _, rfl, .inl (SqL.of upd_same), rfl, flat_signs _, _, rfl, ?_⟩
      show (if inV (.str (cutS x (some ((i : Int) + 1)) (some ((i : Int) + 2)))) (signsOf letS) = true then _ else _)
      rw [in_letters _ cs ecut]
      cases hh : cs.head?.elim false isLet with
      | true =>
        obtain ⟨d, hd3, hl⟩ : ∃ d, cs.head? = some d ∧ isLet d = true := by
          cases e : cs.head? with
          | none => rw [e] at hh; cases hh
          | some d => exact ⟨d, rfl, by rw [e] at hh; exact hh⟩
        have hd4 : (cp x)[i + 1]? = some d := by
          have := hd3
          rw [← hd1, List.head?_drop] at this
          exact this
        refine iteT ⟨.str x, rfl, .int i, rfl, _, _, rfl, rfl, x, i + 1, d, rfl, hz, hd4, ?_⟩
        have q1 := q _ s1
        have em : more c cs = (cs.takeWhile isLet).length := by
          unfold more
          rw [if_pos ⟨h39, hh⟩]
        have ep : runP d = isLet := if_pos hl
        rw [hd1, ep]
        rw [em] at q1
        rw [show i + 1 + (cs.takeWhile isLet).length = i + ((cs.takeWhile isLet).length + 1) by omega]
        exact q1
      | false => exact iteF (tail _ s1 fun _ => hh)
    · rw [decide_eq_false h39]
      exact iteF (iteF (tail H (Same.refl H) fun e => absurd e h39))
end
end K2

set_option Elab.async false
set_option linter.all false
set_option maxRecDepth 100000
set_option maxHeartbeats 4000000
/-! k02: cut -/
namespace K2
open PySem PySem.Spec PyProof.Rows L2 EL LW
open Ln (L isLet isFig isRun isWord isSign isNum isQuoted isTok more scan)
open PySem.EV (ErrC ErrI)
abbrev sCut : Stmt := topS 21
theorem scCut : FnScope ["line", "text", "at", "end"] ["line"] (defScope sCut) := ⟨rfl, rfl, rfl, by decide +kernel, rfl, by decide +kernel, by decide +kernel⟩
theorem _root_.L2.PS.nox1 {X : Cx} {st : Stmt} {t : TS} (h : PS X.nox st t) : PS X st t := ⟨fun pins s σ H D I hw =>
  wpAny_mono (h.run pins s σ H D (I.wish _) hw) (fun _ _ q => q.unwish) fun _ _ z => False.elim z⟩
def S (t : L) : Str := ⟨t.toArray⟩
theorem cp_S (t : L) : cp (S t) = t := rfl
theorem S_cp (x : Str) : S (cp x) = x := cp_inj (cp_S _)
theorem S_len (t : L) : (S t).length = t.length := by rw [← cp_len, cp_S]
def vl (ts : List L) : List V := ts.map fun t => V.str (S t)
theorem vl_tok (ts : List L) : (vl ts).all (ofS isTok) = ts.all isTok := by
  unfold vl
  rw [List.all_map]
  rfl
section
variable {P : Program} {w : World} {K : PySem.W.Frag} {mg : Str → Option Value} {base : Heap} {C T I : Addr}
theorem vl_text {H : Hp} {p : Addr} {ts : List L} (e : H p = some (.lst (vl ts))) (hn : ts.length ≤ 1000) (hl : ∀ t ∈ ts, t.length ≤ 1000) : TxV K H (.ref p) (ts.all isTok) := by
  refine .inl ⟨p, vl ts, rfl, e, by unfold vl; rw [List.length_map]; exact hn, fun y hy => ?_, (vl_tok ts).symm⟩
  obtain ⟨t, ht, rfl⟩ := List.mem_map.mp hy
  exact .inl ⟨S t, rfl, by rw [S_len]; have := hl t ht; omega⟩
def spCut (K : PySem.W.Frag) (C : Addr) : Sp := fun vs H Q E => ∃ v : V, vs = [v] ∧
  ((∃ x, v = .str x ∧ x.length ≤ 1000 ∧ ((scan (cp x)).all isTok = true → ∀ H' p, Same H H' → H p = none → H' p = some (.lst (vl (scan (cp x)))) → Q (.ref p) H') ∧ ((scan (cp x)).all isTok = false → Refuses C H v E)) ∨ (NoS K H v ∧ Refuses C H v E))
theorem refuses_mono {H H1 : Hp} {v : V} {E : XK} (h : Refuses C H v E) (s : Same H H1) : Refuses C H1 v E := fun d H' s' e => h d H' (s.trans s') e
theorem ok_cut {f fE fX : Addr} {fd dE dX : FuncData} (F : Fun K "cut" "cut" sCut f fd) (kE : PySem.W.keepIn K (.ref fE) = true) (GE : FnOk P w K mg base CX0 2 fE dE ["line", "begin"] spTokEnd) (bE : Binds K dE ["line", "begin"] []) (gE : mg "token_end" = some (.ref fE))
    (kX : PySem.W.keepIn K (.ref fX) = true) (GX : FnOk P w K mg base CX0 5 fX dX ["value"] (spIsText K)) (bX : Binds K dX ["value"] []) (gX : mg "is_text" = some (.ref fX))
    (Z : ErrC K C T) (J : ErrI K C I) (mC : mg "InvalidText" = some (.ref C)) (mis : mg "isinstance" = none) (mst : mg "str" = none) (ml : mg "len" = none) : FnOk P w K mg base (L2.CX P w) 6 f fd ["line"] (spCut K C) := by
  refine F.okX scCut (fun vs H Q E h => ?_) (fun cdv A outer s H vs Q E hr h => ?_)
  · obtain ⟨v, rfl, _⟩ := h
    rfl
  · obtain ⟨v, rfl, hv⟩ := h
    have nd := scCut.nd
    have hr2 := hr.mono (by decide : 2 ≤ 5)
    refine ⟨_, pss_cons (ps_if (pt_not (pt_val (pe_callB call_isi (by rfl) mis boot_isi (pa_cons (pv 0) (pa_cons (pe_bltn (v := .ty "str") (by rfl) mst boot_str rfl) pa_nil))))) (pss_one (ps_raiseErr rfl Z J hr (takes_of rfl rfl rfl rfl) mC (pv 0))) pss_nil)
      (pss_cons (ps_set (i := 1) nd rfl (.inl rfl) (pe_lst pa_nil))
      (pss_cons (ps_set (i := 2) nd rfl (.inl rfl) pe_int)
      (pss_cons (PS.nox1 (ps_while PassesOwn.never (pt_cmpR op_lt (pv 2) (pe_callB call_len_str (by rfl) ml PySem.boot_len (pa_cons (pv 0) pa_nil)) (nomark _))
          (pss_cons (ps_set (i := 3) nd rfl (.inl rfl) (pe_call GE hr2 (by rfl) gE kE bE .nil pass0 (pa_cons (pv 0) (pa_cons (pv 2) pa_nil))))
          (pss_cons (ps_if (pt_cmpR op_ne (pe_ix ix_str (pv 0) (pv 2) (fun _ _ => rfl)) pe_str (nomark _)) (pss_one (ps_expr (pe_bm PySem.F.plainAttrs_list PySem.F.slot_list_append PySem.F.type_list_append mt_append (pv 1) (pa_cons (pe_slice sl_str (pv 0) (po_some (pv 2)) (po_some (pv 3))) pa_nil)))) pss_nil)
          (pss_one (ps_set (i := 2) nd rfl (.inl rfl) (pv 3)))))))
      (pss_cons (ps_if (pt_not (pt_val (pe_call GX hr (by rfl) gX kX bX .nil pass0 (pa_cons (pv 1) pa_nil)))) (pss_one (ps_raiseErr rfl Z J hr (takes_of rfl rfl rfl rfl) mC (pv 0))) pss_nil)
      (pss_one (ps_ret (pv 1))))))), ?_⟩
    rcases hv with ⟨x, rfl, hz, q1, q2⟩ | ⟨hv, q2⟩
    · have hz' := sz x.length (by omega)
      have hl := cp_len x
      refine ⟨.str x, rfl, _, _, _, _, true, rfl, ClsV.ty _, .base (.str x), kit_ty (by decide +kernel), true, rfl, iteF ?_⟩
      refine ⟨Nat.zero_le _, fun p np => ?_⟩
      have s0 := same_upd (o := .lst []) np
      refine ⟨fun n σ H' => ∃ (i : Nat) (ts : List L) (e3 : Option V), n = x.length - i ∧ i ≤ x.length ∧ ts ++ scan ((cp x).drop i) = scan (cp x) ∧ σ = [some (.str x), some (.ref p), some (.int i), e3] ∧ Same H H' ∧ H' p = some (.lst (vl ts)) ∧ ts.length ≤ i ∧ ∀ t ∈ ts, t.length ≤ 1000,
        ⟨x.length, 0, [], none, rfl, Nat.zero_le _, rfl, rfl, s0, upd_same, Nat.le_refl _, by simp⟩, ?_⟩
      rintro n σ H1 ⟨i, ts, e3, rfl, hi, hs, rfl, s1, ep, hn, ht⟩
      refine ⟨_, rfl, .str x, rfl, x, rfl, hz', _, _, rfl, rfl, _, rfl, ite2 (fun c1 => ?_) (fun c1 => ?_)⟩
      · have lt : i < x.length := by
          have := of_decide_eq_true c1
          omega
        obtain ⟨c, cs, hd⟩ : ∃ c cs, (cp x).drop i = c :: cs := by
          cases e : (cp x).drop i with
          | nil =>
            have := congrArg List.length e
            rw [List.length_drop] at this
            simp at this
            omega
          | cons c cs => exact ⟨c, cs, rfl⟩
        have hc : (cp x)[i]? = some c := by
          have := congrArg List.head? hd
          rw [List.head?_drop] at this
          exact this
        have hcl : cs.length + 1 = x.length - i := by
          have := congrArg List.length hd
          rw [List.length_drop] at this
          simp at this
          omega
        have hml := Ln.more_le c cs
        have step := Ln.scan_step c cs
        rw [← hd] at step
        rw [List.drop_drop] at step
        refine ⟨fun σ' H' => ∃ m', m' < x.length - i ∧ ∃ (i : Nat) (ts : List L) (e3 : Option V), m' = x.length - i ∧ i ≤ x.length ∧ ts ++ scan ((cp x).drop i) = scan (cp x) ∧ σ' = [some (.str x), some (.ref p), some (.int i), e3] ∧ Same H H' ∧ H' p = some (.lst (vl ts)) ∧ ts.length ≤ i ∧ ∀ t ∈ ts, t.length ≤ 1000, fun _ _ h => h, ?_⟩
        refine ⟨.str x, rfl, .int i, rfl, x, i, c, cs, rfl, by omega, hd, fun H2 s2 => ?_⟩
        refine ⟨.str x, rfl, .int i, rfl, x, i, c, rfl, rfl, hz', cp_at hc, rfl, _, rfl, ?_⟩
        have e32 : decide (V.str ⟨#[c]⟩ = V.str " ") = decide (c = 32) := by
          rw [dec_str]
          have e1 : cp " " = [32] := by decide +kernel
          rw [e1]
          show decide ([c] = [32]) = _
          simp
        rw [e32]
        have ep2 := s2 _ _ ep
        have s02 := s1.trans s2
        by_cases h32 : c = 32
        · rw [decide_eq_true h32]
          rw [if_pos h32, List.nil_append] at step
          refine iteF ⟨_, rfl, x.length - (i + (more c cs + 1)), by omega, i + (more c cs + 1), ts, _, rfl, by omega, ?_, rfl, s02, ep2, by omega, ht⟩
          rw [← step]
          exact hs
        · rw [decide_eq_false h32]
          rw [if_neg h32] at step
          have ecut : cutS x (some (i : Int)) (some ((i + (more c cs + 1) : Nat) : Int)) = S (((cp x).drop i).take (more c cs + 1)) := cp_inj (by
            rw [cp_S, cut_mid x i _ (by omega)]
            congr 1
            omega)
          refine iteT ⟨.ref p, rfl, .inl ⟨rfl, _, SqL.of ep2⟩, .str x, rfl, .int i, rfl, (i : Int), rfl, _, rfl, _, rfl, x, rfl, hz', p, vl ts, _, rfl, rfl, ep2, ?_, ?_⟩
          · show (List.map _ ts).length < sizeLine
            rw [List.length_map]
            exact Nat.lt_of_lt_of_le (by omega : ts.length < 100000) (sz _ (Nat.le_refl _))
          · refine ⟨_, rfl, x.length - (i + (more c cs + 1)), by omega, i + (more c cs + 1), ts ++ [((cp x).drop i).take (more c cs + 1)], _, rfl, by omega, ?_, rfl, fun b o hb => ?_, ?_, ?_, ?_⟩
            · rw [List.append_assoc, ← step]
              exact hs
            · rw [upd_ne (ne_of_none hb np)]
              exact s02 _ _ hb
            · rw [upd_same, ecut]
              unfold vl
              rw [List.map_append]
              rfl
            · rw [List.length_append]
              simp
              omega
            · intro t htm
              rw [List.mem_append, List.mem_singleton] at htm
              rcases htm with h | rfl
              · exact ht t h
              · rw [List.length_take, List.length_drop]
                omega
      · have ei : i = x.length := by
          have : ¬ i < x.length := fun h => c1 (decide_eq_true (by omega))
          omega
        have ets : ts = scan (cp x) := by
          rw [← hs, List.drop_of_length_le (by omega), show scan ([] : L) = [] from rfl, List.append_nil]
        subst ets
        refine ⟨.ref p, rfl, .ref p, _, rfl, vl_text ep (by omega) ht, fun H2 s2 => ⟨_, rfl, ?_⟩⟩
        cases hb : (scan (cp x)).all isTok with
        | true => exact iteF ⟨_, rfl, q1 hb H2 p (s1.trans s2) np (s2 _ _ ep)⟩
        | false => exact iteT ⟨.str x, rfl, fun d hd => q2 hb d _ ((s1.trans s2).trans (same_upd hd)) upd_same⟩
    · obtain ⟨t0, k0, ty0⟩ := hv.2
      exact ⟨v, rfl, _, _, t0, _, false, rfl, ClsV.ty _, ty0 _ (Same.refl _), k0, false, rfl, iteT ⟨v, rfl, fun d hd => q2 d _ (same_upd hd) upd_same⟩⟩
end
end K2

set_option Elab.async false
set_option linter.all false
set_option maxRecDepth 100000
set_option maxHeartbeats 4000000
/-! k02: line_of, run_together, tight_line -/
namespace K2
open PySem PySem.Spec PyProof.Rows L2 EL LW
open Ln (L isLet isFig isRun isWord isSign isNum isQuoted isTok more scan together joined need lineTo lawLine jn)
open PySem.EV (ErrC ErrI)
abbrev sLineOf : Stmt := topS 22
abbrev sTog : Stmt := topS 23
abbrev sTight : Stmt := topS 24
theorem scLineOf : FnScope ["text"] ["text"] (defScope sLineOf) := ⟨rfl, rfl, rfl, by decide +kernel, rfl, by decide +kernel, by decide +kernel⟩
theorem scTog : FnScope ["token", "after"] ["token", "after"] (defScope sTog) := ⟨rfl, rfl, rfl, by decide +kernel, rfl, by decide +kernel, by decide +kernel⟩
theorem scTight : FnScope ["text", "line", "at", "token"] ["text"] (defScope sTight) := ⟨rfl, rfl, rfl, by decide +kernel, rfl, by decide +kernel, by decide +kernel⟩
theorem cp_app (x y : Str) : cp (x ++ y) = cp x ++ cp y := TL.tl_append x y
theorem S_app (a b : L) : S a ++ S b = S (a ++ b) := cp_inj (by rw [cp_app, cp_S, cp_S, cp_S])
theorem join_jn : ∀ ts : List L, TL.joinL [32] ts = jn ts
  | [] => rfl
  | [_] => rfl
  | t :: u :: r => by
    show t ++ ([32] ++ TL.joinL [32] (u :: r)) = t ++ (32 :: jn (u :: r))
    rw [join_jn (u :: r)]
    rfl
theorem join_S (ts : List L) : Txt.join " " (ts.map S) = S (jn ts) := cp_inj (by
  rw [cp_S]
  show TL.tl _ = _
  rw [TL.join_eq, TL.tl_join, List.map_map, show TL.tl ∘ S = id from rfl, List.map_id, ← join_jn]
  congr 1)
theorem vl_map (ts : List L) : vl ts = (ts.map S).map V.str := by
  unfold vl
  rw [List.map_map]
  rfl
theorem text_of : ∀ {xs : List V}, xs.all (ofS isTok) = true → ∃ ts : List L, xs = vl ts ∧ ∀ t ∈ ts, isTok t = true
  | [], _ => ⟨[], rfl, by simp⟩
  | v :: vs, h => by
    rw [List.all_cons, Bool.and_eq_true] at h
    obtain ⟨x, rfl, hx⟩ := num_str h.1
    obtain ⟨ts, rfl, ht⟩ := text_of h.2
    refine ⟨cp x :: ts, ?_, fun t hm => ?_⟩
    · show _ = V.str (S (cp x)) :: vl ts
      rw [S_cp]
    · rcases List.mem_cons.mp hm with rfl | hm
      · exact hx
      · exact ht t hm
theorem lens_sum : ∀ (ts : List L), (∀ t ∈ ts, t.length ≤ 9) → ((ts.map S).map (·.length)).sum ≤ 9 * ts.length
  | [], _ => by simp
  | t :: ts, h => by
    have h1 := h t List.mem_cons_self
    have h2 := lens_sum ts fun u hu => h u (List.mem_cons_of_mem _ hu)
    rw [List.map_cons, List.map_cons, List.sum_cons, S_len, List.length_cons]
    omega
section
variable {P : Program} {w : World} {K : PySem.W.Frag} {mg : Str → Option Value} {base : Heap} {C T I : Addr}
/-- a line of a text, or refused -/
def spLine (K : PySem.W.Frag) (C : Addr) (f : List L → L) : Sp := fun vs H Q E => ∃ (v : V) (b : Bool), vs = [v] ∧ TxV K H v b ∧
  (b = true → ∀ (a : Addr) (ts : List L), v = .ref a → H a = some (.lst (vl ts)) → (∀ t ∈ ts, isTok t = true) → ts.length ≤ 1000 → ∀ H', Same H H' → Q (.str (S (f ts))) H') ∧ (b = false → Refuses C H v E)
theorem line_true {H : Hp} {v : V} (h : TxV K H v true) : ∃ (a : Addr) (ts : List L), v = .ref a ∧ H a = some (.lst (vl ts)) ∧ (∀ t ∈ ts, isTok t = true) ∧ ts.length ≤ 1000 := by
  rcases h with ⟨a, xs, rfl, e, hz, _, hb⟩ | ⟨_, hb⟩
  · obtain ⟨ts, rfl, ht⟩ := text_of hb.symm
    refine ⟨a, ts, rfl, e, ht, ?_⟩
    unfold vl at hz
    rw [List.length_map] at hz
    exact hz
  · cases hb
theorem ok_lineOf {f fQ : Addr} {fd dQ : FuncData} (F : Fun K "line_of" "line_of" sLineOf f fd) (kQ : PySem.W.keepIn K (.ref fQ) = true) (GQ : FnOk P w K mg base (L2.CX P w) 6 fQ dQ ["text"] (spReq K C)) (bQ : Binds K dQ ["text"] []) (gQ : mg "require_text" = some (.ref fQ)) :
    FnOk P w K mg base (L2.CX P w) 7 f fd ["text"] (spLine K C jn) := by
  refine F.okX scLineOf (fun vs H Q E h => ?_) (fun cdv A outer s H vs Q E hr h => ?_)
  · obtain ⟨v, b, rfl, _⟩ := h
    rfl
  · obtain ⟨v, b, rfl, hv, q1, q2⟩ := h
    refine ⟨_, pss_cons (ps_expr (pe_callS GQ hr (by rfl) gQ kQ bQ (fun σ => passAt (takes_of rfl rfl rfl rfl) σ) (pa_cons (pv 0) pa_nil))) (pss_one (ps_ret (pe_join pe_str (pv 0)))), ?_⟩
    refine ⟨v, rfl, v, b, rfl, hv, fun hb H1 s1 => ?_, q2⟩
    subst hb
    obtain ⟨a, ts, rfl, e, ht, hn⟩ := line_true hv
    refine ⟨⟨_, rfl⟩, .ref a, rfl, " ", a, ts.map S, rfl, rfl, .inl (SqL.of ?_), ?_, ?_⟩
    · rw [← vl_map]
      exact s1 _ _ e
    · have := lens_sum ts fun t h => (Ln.tok_of (ht t h)).2
      rw [List.length_map, show (Str.ofString " ").length = 1 from by decide +kernel]
      omega
    · rw [join_S]
      exact q1 rfl a ts rfl e ht hn H1 s1
def spTog : Sp := fun vs H Q _ => ∃ x y : Str, vs = [.str x, .str y] ∧ x.length ≤ 100000 ∧ y.length ≤ 100000 ∧ ∀ H', Same H H' → Q (.bl (together (cp x) (cp y))) H'
theorem ok_tog {f fW fN fQ : Addr} {fd dW dN dQ : FuncData} (F : Fun K "run_together" "run_together" sTog f fd)
    (kW : PySem.W.keepIn K (.ref fW) = true) (GW : FnOk P w K mg base CX0 2 fW dW ["value"] (spTok K isWord)) (bW : Binds K dW ["value"] []) (gW : mg "is_word" = some (.ref fW))
    (kN : PySem.W.keepIn K (.ref fN) = true) (GN : FnOk P w K mg base CX0 2 fN dN ["value"] (spTok K isNum)) (bN : Binds K dN ["value"] []) (gN : mg "is_number" = some (.ref fN))
    (kQ : PySem.W.keepIn K (.ref fQ) = true) (GQ : FnOk P w K mg base CX0 3 fQ dQ ["value"] (spTok K isQuoted)) (bQ : Binds K dQ ["value"] []) (gQ : mg "is_quoted" = some (.ref fQ)) : FnOk P w K mg base CX0 4 f fd ["token", "after"] spTog := by
  refine F.ok scTog (fun vs H Q E h => ?_) (fun cdv A outer s H vs Q E hr h => ?_)
  · obtain ⟨x, y, rfl, _⟩ := h
    rfl
  · obtain ⟨x, y, rfl, hx, hy, q⟩ := h
    have hr2 := hr.mono (by decide : 2 ≤ 3)
    refine ⟨_, pss_cons (ps_if (pt_val (pe_call GW hr2 (by rfl) gW kW bW .nil pass0 (pa_cons (pv 1) pa_nil))) (pss_one (ps_ret (pe_or (pe_call GW hr2 (by rfl) gW kW bW .nil pass0 (pa_cons (pv 0) pa_nil)) (pe_one (pe_call GQ hr (by rfl) gQ kQ bQ .nil pass0 (pa_cons (pv 0) pa_nil)))))) pss_nil)
      (pss_one (ps_ret (pe_and (pe_call GN hr2 (by rfl) gN kN bN .nil pass0 (pa_cons (pv 0) pa_nil)) (pe_one (pe_call GN hr2 (by rfl) gN kN bN .nil pass0 (pa_cons (pv 1) pa_nil)))))), ?_⟩
    have px : ∀ H' : Hp, Plain K H' (.str x) := fun H' => .inl ⟨x, rfl, hx⟩
    have py : ∀ H' : Hp, Plain K H' (.str y) := fun H' => .inl ⟨y, rfl, hy⟩
    refine ⟨.str y, rfl, .str y, rfl, py _, fun H1 s1 => ⟨_, rfl, ?_⟩⟩
    show (if isWord (cp y) = true then _ else _)
    cases c1 : isWord (cp y) with
    | true =>
      refine iteT ⟨.str x, rfl, .str x, rfl, px _, fun H2 s2 => ⟨_, rfl, ?_⟩⟩
      have q2 := q H2 (s1.trans s2)
      unfold together at q2
      rw [if_pos c1] at q2
      show (if isWord (cp x) = true then _ else _)
      cases c2 : isWord (cp x) with
      | true =>
        rw [c2, Bool.true_or] at q2
        exact iteT q2
      | false =>
        refine iteF ⟨.str x, rfl, .str x, rfl, px _, fun H3 s3 => ?_⟩
        have q3 := q H3 ((s1.trans s2).trans s3)
        unfold together at q3
        rw [if_pos c1, c2, Bool.false_or] at q3
        exact q3
    | false =>
      refine iteF ⟨.str x, rfl, .str x, rfl, px _, fun H2 s2 => ⟨_, rfl, ?_⟩⟩
      have q2 := q H2 (s1.trans s2)
      unfold together at q2
      rw [if_neg (by rw [c1]; decide)] at q2
      show (if isNum (cp x) = true then _ else _)
      cases c2 : isNum (cp x) with
      | true =>
        refine iteT ⟨.str y, rfl, .str y, rfl, py _, fun H3 s3 => ?_⟩
        have q3 := q H3 ((s1.trans s2).trans s3)
        unfold together at q3
        rw [if_neg (by rw [c1]; decide), c2, Bool.true_and] at q3
        exact q3
      | false =>
        rw [c2, Bool.false_and] at q2
        exact iteF q2
theorem lineTo_len {ts : List L} {g : Nat → Nat} {G : Nat} (hg : ∀ i, g i ≤ G) (ht : ∀ t ∈ ts, t.length ≤ 9) : ∀ i, (lineTo ts g i).length ≤ i * (G + 10)
  | 0 => by simp [lineTo]
  | i + 1 => by
    have h1 := lineTo_len hg ht i
    have h2 : (ts.getD i []).length ≤ 9 := by
      rw [List.getD_eq_getElem?_getD]
      cases e : ts[i]? with
      | none => simp
      | some t => exact ht t (List.mem_of_getElem? e)
    have h3 := hg i
    have h4 : (if need ts i then 1 else 0) ≤ 1 := by split <;> omega
    show (lineTo ts g i ++ (List.replicate _ 32 ++ ts.getD i [])).length ≤ _
    rw [List.length_append, List.length_append, List.length_replicate, Nat.succ_mul]
    omega
/-- the tight line, token by token -/
def tightL (ts : List L) : L := lineTo ts (fun _ => 0) ts.length
theorem ok_tight {f fQ fG : Addr} {fd dQ dG : FuncData} (F : Fun K "tight_line" "tight_line" sTight f fd) (kQ : PySem.W.keepIn K (.ref fQ) = true) (GQ : FnOk P w K mg base (L2.CX P w) 6 fQ dQ ["text"] (spReq K C)) (bQ : Binds K dQ ["text"] []) (gQ : mg "require_text" = some (.ref fQ))
    (kG : PySem.W.keepIn K (.ref fG) = true) (GG : FnOk P w K mg base CX0 4 fG dG ["token", "after"] spTog) (bG : Binds K dG ["token", "after"] []) (gG : mg "run_together" = some (.ref fG)) (men : mg "enumerate" = none) :
    FnOk P w K mg base (L2.CX P w) 7 f fd ["text"] (spLine K C tightL) := by
  refine F.okX scTight (fun vs H Q E h => ?_) (fun cdv A outer s H vs Q E hr h => ?_)
  · obtain ⟨v, b, rfl, _⟩ := h
    rfl
  · obtain ⟨v, b, rfl, hv, q1, q2⟩ := h
    have nd := scTight.nd
    refine ⟨_, pss_cons (ps_expr (pe_callS GQ hr (by rfl) gQ kQ bQ (fun σ => passAt (takes_of rfl rfl rfl rfl) σ) (pa_cons (pv 0) pa_nil)))
      (PSs.nox (pss_cons (ps_set (i := 1) nd rfl (.inl rfl) pe_str)
      (pss_cons (ps_for PassesOwn.never rfl (pi_enum (by rfl) men (pa_cons (pv 0) pa_nil)) (pg_tup (by rfl) (pgs_cons (pg_name (i := 2) nd rfl (.inl rfl)) (pgs_cons (pg_name (i := 3) nd rfl (.inl rfl)) pgs_nil)))
          (pss_cons (ps_if (PW.pt (pw_and (pt_cmpR op_gt (pv 2) pe_int (nomark _)) (pw_and1 (pt_val (pe_call GG (hr.mono (by decide)) (by rfl) gG kG bG .nil pass0 (pa_cons (pe_ix ix_list (pv 0) (pe_op op_sub (pv 2) pe_int) (fun _ _ => rfl)) (pa_cons (pv 3) pa_nil)))))))
            (pss_one (ps_aug (i := 1) nd rfl (.inl rfl) pe_str ip_addS)) pss_nil)
          (pss_one (ps_aug (i := 1) nd rfl (.inl rfl) (pv 3) ip_addS))))
      (pss_one (ps_ret (pv 1)))))), ?_⟩
    refine ⟨v, rfl, v, b, rfl, hv, fun hb H1 s1 => ?_, q2⟩
    subst hb
    obtain ⟨a, ts, rfl, e, ht, hn⟩ := line_true hv
    have h9 : ∀ t ∈ ts, t.length ≤ 9 := fun t h => (Ln.tok_of (ht t h)).2
    have big : (100000 : Nat) ≤ sizeLine := sz _ (Nat.le_refl _)
    have nlen : (vl ts).length = ts.length := by unfold vl; rw [List.length_map]
    refine ⟨.ref a, rfl, a, vl ts, rfl, SqL.of (s1 _ _ e), for_it walk_enum (fun i σ H' => Same H H' ∧ ∃ y2 y3 : Option V, σ = [some (.ref a), some (.str (S (lineTo ts (fun _ => 0) i))), y2, y3]) ⟨s1, none, none, rfl⟩ (fun i σ H' _ h => SqL.of (h.1 _ _ e)) ?_ ?_⟩
    · rintro i y σ H2 H3 hi ⟨s2, y2, y3, rfl⟩ ⟨t, z1, z2, rfl, nt, rfl, hz1, hz2⟩
      cases hz1
      have hi' : i < ts.length := by rw [← nlen]; exact hi
      obtain ⟨u, hu⟩ : ∃ u, ts[i]? = some u := ⟨_, List.getElem?_eq_getElem hi'⟩
      have hgu : ts.getD i [] = u := by rw [List.getD_eq_getElem?_getD, hu]; rfl
      have hz : z2 = .str (S u) := by
        have : (vl ts)[i]? = some (.str (S u)) := by unfold vl; rw [List.getElem?_map, hu]; rfl
        have hz3 : (vl ts)[i]? = some z2 := hz2
        rw [this] at hz3
        exact (Option.some.inj hz3).symm
      subst hz
      have hmu := List.mem_of_getElem? hu
      have s3 := s2.trans (same_upd (o := .tup [.int i, .str (S u)]) nt)
      have hlen := lineTo_len (G := 0) (g := fun _ => 0) (fun _ => Nat.le_refl _) h9 i
      have hlu := h9 u hmu
      have step : ∀ (D : Ends), (∀ σ' H', (Same H H' ∧ ∃ y2 y3 : Option V, σ' = [some (.ref a), some (.str (S (lineTo ts (fun _ => 0) (i + 1)))), y2, y3]) → D.nx σ' H') → ∀ (b : Bool), need ts i = b → ∀ (H4 : Hp), Same H H4 →
          tAug 1 (tVar 3) rAddS D [some (.ref a), some (.str (S (lineTo ts (fun _ => 0) i ++ List.replicate (if b then 1 else 0) 32))), some (.int i), some (.str (S u))] H4 := by
        intro D hD b hb H4 s4
        refine ⟨_, rfl, .str (S u), rfl, _, _, rfl, rfl, ?_, hD _ _ ⟨s4, some (.int i), some (.str (S u)), ?_⟩⟩
        · rw [S_len, S_len, List.length_append, List.length_replicate]
          have : (if b then 1 else 0) ≤ 1 := by split <;> omega
          omega
        · rw [S_app]
          show _ = [some (V.ref a), some (V.str (S (lineTo ts (fun _ => 0) i ++ (List.replicate (0 + (if need ts i then 1 else 0)) 32 ++ ts.getD i [])))), some (V.int i), some (V.str (S u))]
          rw [hb, hgu, Nat.zero_add, List.append_assoc]
          rfl
      refine ⟨t, _, rfl, SqT.of upd_same, rfl, _, _, rfl, _, _, rfl, rfl, ?_⟩
      refine ⟨_, rfl, _, _, rfl, rfl, _, rfl, ite2 (fun c1 => ?_) (fun c1 => ?_)⟩
      · have i0 : 0 < i := by
          have := of_decide_eq_true c1
          omega
        obtain ⟨u0, hu0⟩ : ∃ u, ts[i - 1]? = some u := ⟨_, List.getElem?_eq_getElem (by omega)⟩
        have hgu0 : ts.getD (i - 1) [] = u0 := by rw [List.getD_eq_getElem?_getD, hu0]; rfl
        have hlu0 := h9 u0 (List.mem_of_getElem? hu0)
        have ev : (vl ts)[i - 1]? = some (.str (S u0)) := by unfold vl; rw [List.getElem?_map, hu0]; rfl
        refine ⟨.ref a, rfl, _, rfl, _, _, rfl, rfl, a, vl ts, (i : Int) - 1, .str (S u0), rfl, rfl, SqL.of (s3 _ _ e), ?_, ?_⟩
        · have := atI_nat (xs := vl ts) (j := i - 1) ev
          rw [show (((i - 1 : Nat)) : Int) = (i : Int) - 1 by omega] at this
          exact this
        refine ⟨.str (S u), rfl, S u0, S u, rfl, by rw [S_len]; omega, by rw [S_len]; omega, fun H4 s4 => ⟨_, rfl, ?_⟩⟩
        rw [cp_S, cp_S, Ln.together_joined (ht u0 (List.mem_of_getElem? hu0)) (ht u hmu)]
        have hne : need ts i = joined u0 u := by
          unfold need
          rw [decide_eq_true i0, hgu0, hgu, Bool.true_and]
        cases hj : joined u0 u with
        | true =>
          refine iteT ⟨_, rfl, _, _, rfl, rfl, ?_, ?_⟩
          · rw [S_len, show (Str.ofString " ").length = 1 from by decide +kernel]
            omega
          · rw [show (Str.ofString " ") = S [32] from cp_inj (by decide +kernel), S_app]
            exact step _ (fun _ _ h => h) true (hne.trans hj) H4 (s3.trans s4)
        | false =>
          have := fun D hD => step D hD false (hne.trans hj) H4 (s3.trans s4)
          rw [show (List.replicate (if false = true then 1 else 0) 32 : L) = [] from rfl, List.append_nil] at this
          exact iteF (this _ fun _ _ h => h)
      · have i0 : i = 0 := by
          have : ¬ 0 < i := fun h => c1 (decide_eq_true (by omega))
          omega
        have hne : need ts i = false := by
          unfold need
          rw [decide_eq_false (by omega), Bool.false_and]
        have := fun D hD => step D hD false hne _ s3
        rw [show (List.replicate (if false = true then 1 else 0) 32 : L) = [] from rfl, List.append_nil] at this
        exact iteF (this _ fun _ _ h => h)
    · rintro σ H2 ⟨s2, y2, y3, rfl⟩
      refine ⟨_, rfl, ?_⟩
      rw [nlen]
      exact q1 rfl a ts rfl e ht hn H2 s2
end
end K2

set_option Elab.async false
set_option linter.all false
set_option maxRecDepth 100000
set_option maxHeartbeats 8000000
/-! k02: the law's exact likeness, of equal data -/
namespace K2
open PySem PySem.Spec PyProof.Rows L2 EL LW RZ
open Ln (L)
open PySem.EV (ErrC ErrI)
abbrev sExact : Stmt := topS 31
abbrev nX : List Str := ["_law_one", "_law_other", "_law_alike", "_law_a", "_law_b", "_law_key"]
theorem scExact : FnScope nX ["_law_one", "_law_other"] (defScope sExact) := ⟨rfl, rfl, rfl, by decide +kernel, rfl, by decide +kernel, by decide +kernel⟩
theorem boot_tuple : bootBuiltins (Str.ofString "tuple") = some (.type "tuple") := by decide +kernel
theorem boot_dict : bootBuiltins (Str.ofString "dict") = some (.type "dict") := by decide +kernel
theorem boot_bool : bootBuiltins (Str.ofString "bool") = some (.type "bool") := by decide +kernel
/-- a datum without parts -/
inductive Atom : V → String → Prop
  | non : Atom .non "NoneType"
  | bl (b : Bool) : Atom (.bl b) "bool"
  | int (i : Int) : Atom (.int i) "int"
  | str (x : Str) : Atom (.str x) "str"
theorem Atom.ty {K : PySem.W.Frag} {H : Hp} {v : V} {n : String} (h : Atom v n) : TyX K H v (.type n) := by
  cases h with
  | non => exact .base .non
  | bl b => exact .base (.bl b)
  | int i => exact .base (.int i)
  | str x => exact .base (.str x)
/-- equal data at a heap, at most so deep -/
def Eqv (H : Hp) : Nat → V → V → Prop
  | 0, v, w => (∃ n, Atom v n) ∧ v = w
  | k + 1, v, w => ((∃ n, Atom v n) ∧ v = w) ∨ (∃ (a b : Addr) (xs ys : List V), v = .ref a ∧ w = .ref b ∧ ((H a = some (.lst xs) ∧ H b = some (.lst ys)) ∨ (H a = some (.tup xs) ∧ H b = some (.tup ys))) ∧ Paired (Eqv H k) xs ys ∧ xs.length ≤ 1000) ∨
      (∃ (a : Addr) (kvs : List (Key × V)), 1 ≤ k ∧ v = .ref a ∧ w = .ref a ∧ H a = some (.dK kvs) ∧ kvs.length ≤ 1000 ∧ ∀ kv ∈ kvs, (∃ i, kv.2 = .int i) ∧ valV kvs kv.1 = some kv.2)
theorem Eqv.same {H H' : Hp} (s : Same H H') : ∀ {k : Nat} {v w : V}, Eqv H k v w → Eqv H' k v w
  | 0, _, _, h => h
  | k + 1, _, _, h => by
    rcases h with h | ⟨a, b, xs, ys, e1, e2, h, p, z⟩ | ⟨a, kvs, h1, e1, e2, h2, h3⟩
    · exact .inl h
    · exact .inr (.inl ⟨a, b, xs, ys, e1, e2, h.imp (fun q => ⟨s _ _ q.1, s _ _ q.2⟩) (fun q => ⟨s _ _ q.1, s _ _ q.2⟩), Paired.mapP p fun _ _ q => Eqv.same s q, z⟩)
    · exact .inr (.inr ⟨a, kvs, h1, e1, e2, s _ _ h2, h3⟩)
theorem atom_eqv {H : Hp} {v : V} {n : String} (h : Atom v n) : ∀ k, Eqv H k v v
  | 0 => ⟨⟨n, h⟩, rfl⟩
  | _ + 1 => .inl ⟨⟨n, h⟩, rfl⟩
theorem paired_len {α β : Type} {F : α → β → Prop} {a : List α} {b : List β} (h : Paired F a b) : a.length = b.length := Paired.length h
theorem paired_at {α β : Type} {F : α → β → Prop} : ∀ {a : List α} {b : List β} {i : Nat} {x : α} {y : β}, Paired F a b → a[i]? = some x → b[i]? = some y → F x y
  | _, _, _, _, _, .nil, h, _ => by simp at h
  | _, _, 0, _, _, .cons r _, h, h2 => by
    simp at h h2
    subst h h2
    exact r
  | _, _, i + 1, _, _, .cons _ t, h, h2 => paired_at (i := i) t (by simpa using h) (by simpa using h2)
section
variable {K : PySem.W.Frag} {a b : Addr} {xs ys : List V}
theorem walk_zipT {n : Nat} (hn : n = min xs.length ys.length) : Walk (ItzT K a b) n (fun H => SqT K H a xs ∧ SqT K H b ys) (YPair (fun i => xs[i]?) (fun i => ys[i]?)) := by
  subst hn
  refine ⟨fun i _ hi q => ?_, fun _ q => ⟨xs, ys, q.1, q.2, by omega⟩, fun i H v H' _ q y => ?_⟩
  · have h1 : i < xs.length := by omega
    have h2 : i < ys.length := by omega
    exact ⟨xs, ys, xs[i], ys[i], q.1, q.2, by simp [h1], by simp [h2]⟩
  · obtain ⟨T, x, z, h1, h2, h3, h4, h5⟩ := y
    exact ⟨T, x, z, h1, h2, h3, h4 xs q.1, h5 ys q.2⟩
end
/-- kitAny of list and tuple, by the name -/
theorem kit_seq {K : PySem.W.Frag} {n : String} {b1 b2 r : Bool} (h1 : kitB n "list" = some b1) (h2 : kitB n "tuple" = some b2) (hr : (b1 || b2) = r) : PySem.W.kitAny K (.type n) [.type "list", .type "tuple"] = some r := by
  subst hr
  refine kitAny_cons (kit_ty h1) (fun e => ?_) (fun e => by rw [e]; rfl)
  subst e
  refine kitAny_cons (kit_ty h2) (fun e => ?_) (fun e => by rw [e]; rfl)
  subst e
  exact kitAny_nil
theorem eqv_cases {H : Hp} : ∀ {n : Nat} {v u : V}, Eqv H n v u → ((∃ m, Atom v m) ∧ v = u) ∨
    (∃ (k : Nat) (a a2 : Addr) (xs ys : List V), n = k + 1 ∧ v = .ref a ∧ u = .ref a2 ∧ ((H a = some (.lst xs) ∧ H a2 = some (.lst ys)) ∨ (H a = some (.tup xs) ∧ H a2 = some (.tup ys))) ∧ Paired (Eqv H k) xs ys ∧ xs.length ≤ 1000) ∨
    (∃ (k : Nat) (a : Addr) (kvs : List (Key × V)), n = k + 1 ∧ 1 ≤ k ∧ v = .ref a ∧ u = .ref a ∧ H a = some (.dK kvs) ∧ kvs.length ≤ 1000 ∧ ∀ kv ∈ kvs, (∃ i, kv.2 = .int i) ∧ valV kvs kv.1 = some kv.2)
  | 0, _, _, h => .inl h
  | k + 1, _, _, h => by
    rcases h with h | ⟨a, b, xs, ys, h⟩ | ⟨a, kvs, h⟩
    · exact .inl h
    · exact .inr (.inl ⟨k, a, b, xs, ys, rfl, h⟩)
    · exact .inr (.inr ⟨k, a, kvs, rfl, h⟩)
theorem atom_seq {K : PySem.W.Frag} {v : V} {m : String} (h : Atom v m) : PySem.W.kitAny K (.type m) [.type "list", .type "tuple"] = some false := by
  cases h <;> exact kit_seq (b1 := false) (b2 := false) (by decide +kernel) (by decide +kernel) rfl
theorem atom_dict {K : PySem.W.Frag} {v : V} {m : String} (h : Atom v m) : PySem.W.kitOne K (.type m) (.type "dict") = some false := by
  cases h <;> exact kit_ty (by decide +kernel)
theorem atom_bool {K : PySem.W.Frag} {v : V} {m : String} (h : Atom v m) : ∃ b, PySem.W.kitOne K (.type m) (.type "bool") = some b := by
  cases h with
  | non => exact ⟨false, kit_ty (by decide +kernel)⟩
  | bl b => exact ⟨true, kit_ty (by decide +kernel)⟩
  | int i => exact ⟨false, kit_ty (by decide +kernel)⟩
  | str x => exact ⟨false, kit_ty (by decide +kernel)⟩
theorem atom_scal {v : V} {m : String} (h : Atom v m) : scal v v = true := by cases h <;> rfl
theorem paired_keys {H : Hp} : ∀ (kvs : List (Key × V)) (k : Nat), Paired (Eqv H k) (kvs.map fun kv => kV kv.1) (kvs.map fun kv => kV kv.1)
  | [], _ => .nil
  | (.inl i, _) :: r, k => .cons (atom_eqv (.int i) k) (paired_keys r k)
  | (.inr x, _) :: r, k => .cons (atom_eqv (.str x) k) (paired_keys r k)
section
variable {P : Program} {w : World} {K : PySem.W.Frag} {mg : Str → Option Value} {base : Heap} {C T I : Addr}
def spX : Nat → Sp
  | 0 => fun _ _ _ _ => False
  | k + 1 => fun vs H Q _ => ∃ v u : V, vs = [v, u] ∧ Eqv H k v u ∧ ∀ H', Same H H' → Q (.bl true) H'
/-- the built-in names that it needs -/
structure Nms (mg : Str → Option Value) : Prop where
  isi : mg "isinstance" = none
  str : mg "str" = none
  list : mg "list" = none
  tuple : mg "tuple" = none
  dict : mg "dict" = none
  bool : mg "bool" = none
  len : mg "len" = none
  all : mg "all" = none
  zip : mg "zip" = none
theorem ok_exact {f : Addr} {fd : FuncData} (F : Fun K "_law_exact" "_law_exact" sExact f fd) (b : Binds K fd ["_law_one", "_law_other"] []) (g : mg "_law_exact" = some (.ref f)) (N : Nms mg) : ∀ n, FnOk P w K mg base CX0 n f fd ["_law_one", "_law_other"] (spX n)
  | 0 => ⟨fun _ _ _ _ h => h.elim, fun _ _ _ _ _ _ _ _ _ _ _ _ _ h => h.elim⟩
  | n + 1 => by
    have G := ok_exact F b g N n
    have kf := F.kp
    refine F.ok scExact (fun vs H Q E h => ?_) (fun cdv A outer s H vs Q E hr h => ?_)
    · obtain ⟨v, u, rfl, _⟩ := h
      rfl
    · obtain ⟨v, u, rfl, hv, q⟩ := h
      have nd := scExact.nd
      have hu := hu_of hr
      refine ⟨_, pss_cons (ps_if (pt_val (pe_callB call_isiT (by rfl) N.isi boot_isi (pa_cons (pv 0) (pa_cons (pe_tup (pa_cons (pe_bltn (v := .ty "list") (by rfl) N.list boot_list rfl) (pa_cons (pe_bltn (v := .ty "tuple") (by rfl) N.tuple boot_tuple rfl) pa_nil))) pa_nil))))
          (pss_cons (ps_set (i := 2) nd rfl (.inl rfl) (pe_and (pe_cmpR op_eq (pe_callB call_isi (by rfl) N.isi boot_isi (pa_cons (pv 1) (pa_cons (pe_bltn (v := .ty "list") (by rfl) N.list boot_list rfl) pa_nil))) (pe_callB call_isi (by rfl) N.isi boot_isi (pa_cons (pv 0) (pa_cons (pe_bltn (v := .ty "list") (by rfl) N.list boot_list rfl) pa_nil))) (nomark _))
            (pe_one (pe_cmpR op_eq (pe_callB call_isi (by rfl) N.isi boot_isi (pa_cons (pv 1) (pa_cons (pe_bltn (v := .ty "tuple") (by rfl) N.tuple boot_tuple rfl) pa_nil))) (pe_callB call_isi (by rfl) N.isi boot_isi (pa_cons (pv 0) (pa_cons (pe_bltn (v := .ty "tuple") (by rfl) N.tuple boot_tuple rfl) pa_nil))) (nomark _)))))
          (pss_one (ps_ret (pe_and (pv 2) (pe_and (pe_cmpR op_eq (pe_callB call_len_seq (by rfl) N.len PySem.boot_len (pa_cons (pv 0) pa_nil)) (pe_callB call_len_seq (by rfl) N.len PySem.boot_len (pa_cons (pv 1) pa_nil)) (nomark _))
            (pe_one (pe_callB (cr_all rfl) (by rfl) N.all boot_all (pa_cons (pe_lc (own := [("_law_a", 3), ("_law_b", 4)]) (g := gTup K 2 (gCons (gName 3) (gCons (gName 4) gNil))) (tt := tYes) rfl nd (pi_zipA (by rfl) N.zip (pa_cons (pv 0) (pa_cons (pv 1) pa_nil)))
              (blkOk_by (own := [("_law_a", 3), ("_law_b", 4)]) (N := nX) (sc := defScope sExact) (by decide +kernel)) (fun _ _ _ _ _ => pg_tup (by rfl) (pgs_cons (pg_name (i := 3) nd rfl (Or.inl rfl)) (pgs_cons (pg_name (i := 4) nd rfl (Or.inl rfl)) pgs_nil))) (fun _ _ _ _ _ => pts_nil)
              (fun _ _ _ _ _ => pe_call G hr (by rfl) g kf b .nil pass0 (pa_cons (pv 3) (pa_cons (pv 4) pa_nil)))) pa_nil)))))))) pss_nil)
        (pss_cons (ps_if (pt_val (pe_callB call_isi (by rfl) N.isi boot_isi (pa_cons (pv 0) (pa_cons (pe_bltn (v := .ty "dict") (by rfl) N.dict boot_dict rfl) pa_nil))))
          (pss_cons (ps_set (i := 2) nd rfl (.inl rfl) (pe_and (pe_callB call_isi (by rfl) N.isi boot_isi (pa_cons (pv 1) (pa_cons (pe_bltn (v := .ty "dict") (by rfl) N.dict boot_dict rfl) pa_nil)))
            (pe_one (pe_call G hr (by rfl) g kf b .nil pass0 (pa_cons (pe_callTy (call_list_dK rfl) (by rfl) N.list boot_list (pa_cons (pv 0) pa_nil)) (pa_cons (pe_callTy (call_list_dK rfl) (by rfl) N.list boot_list (pa_cons (pv 1) pa_nil)) pa_nil))))))
          (pss_one (ps_ret (pe_and (pv 2) (pe_one (pe_callB (cr_all rfl) (by rfl) N.all boot_all (pa_cons (pe_lock (pe_lc (own := [("_law_key", 5)]) (g := gName 5) (tt := tYes) rfl nd (pi_keys (pv 0))
              (blkOk_by (own := [("_law_key", 5)]) (N := nX) (sc := defScope sExact) (by decide +kernel)) (fun _ _ _ _ _ => pg_name (i := 5) nd rfl (Or.inl rfl)) (fun _ _ _ _ _ => pts_nil)
              (fun _ _ _ _ _ => pe_call G hr (by rfl) g kf b .nil pass0 (pa_cons (pe_dget hu (pv 0) (pv 5) (fun _ _ => rfl)) (pa_cons (pe_dget hu (pv 1) (pv 5) (fun _ _ => rfl)) pa_nil))))) pa_nil))))))) pss_nil)
        (pss_one (ps_ret (pe_and (pe_cmpR op_eq (pe_callB call_isi (by rfl) N.isi boot_isi (pa_cons (pv 0) (pa_cons (pe_bltn (v := .ty "bool") (by rfl) N.bool boot_bool rfl) pa_nil))) (pe_callB call_isi (by rfl) N.isi boot_isi (pa_cons (pv 1) (pa_cons (pe_bltn (v := .ty "bool") (by rfl) N.bool boot_bool rfl) pa_nil))) (nomark _))
          (pe_one (pe_cmpR op_eq (pv 0) (pv 1) (nomark _))))))), ?_⟩
      rcases eqv_cases hv with ⟨⟨m, hm⟩, rfl⟩ | ⟨k, a, a2, xs, ys, rfl, rfl, rfl, ⟨ha, hb⟩ | ⟨ha, hb⟩, hp, hz⟩ | ⟨k, a, kvs, rfl, hk, rfl, rfl, ha, hz, hkv⟩
      · -- no parts
        obtain ⟨bb, kb⟩ := atom_bool (K := K) hm
        refine ⟨v, rfl, sz 2 (by decide), fun tp ntp => ?_⟩
        have s1 := same_upd (o := .tup [.ty "list", .ty "tuple"]) ntp
        refine ⟨_, tp, [.ty "list", .ty "tuple"], _, _, false, rfl, upd_same, .cons (ClsV.ty _) (.cons (ClsV.ty _) .nil), hm.ty, atom_seq hm, false, rfl, iteF ?_⟩
        refine ⟨v, rfl, _, _, _, _, false, rfl, ClsV.ty _, hm.ty, atom_dict hm, false, rfl, iteF ?_⟩
        refine ⟨v, rfl, _, _, _, _, bb, rfl, ClsV.ty _, hm.ty, kb, v, rfl, _, _, _, _, bb, rfl, ClsV.ty _, hm.ty, kb, rfl, true, ?_, iteT ⟨v, rfl, v, rfl, atom_scal hm, ?_⟩⟩
        · rw [decide_eq_true rfl]
        · rw [decide_eq_true rfl]
          exact q _ s1
      · -- lists
        have kab : PySem.W.kitAny K (.type "list") [.type "list", .type "tuple"] = some true := kit_seq (b1 := true) (b2 := false) (by decide +kernel) (by decide +kernel) rfl
        have tyA : ∀ H', Same H H' → TyX K H' (.ref a) (.type "list") := fun H' s' => .base (.lst (s' _ _ ha))
        have tyB : ∀ H', Same H H' → TyX K H' (.ref a2) (.type "list") := fun H' s' => .base (.lst (s' _ _ hb))
        refine ⟨.ref a, rfl, sz 2 (by decide), fun tp ntp => ?_⟩
        have s1 := same_upd (o := .tup [.ty "list", .ty "tuple"]) ntp
        refine ⟨_, tp, [.ty "list", .ty "tuple"], _, _, true, rfl, upd_same, .cons (ClsV.ty _) (.cons (ClsV.ty _) .nil), tyA _ s1, kab, true, rfl, iteT ?_⟩
        refine ⟨.ref a2, rfl, _, _, _, _, true, rfl, ClsV.ty _, tyB _ s1, kit_ty (by decide +kernel), .ref a, rfl, _, _, _, _, true, rfl, ClsV.ty _, tyA _ s1, kit_ty (by decide +kernel), rfl, true, rfl, iteT ?_⟩
        refine ⟨.ref a2, rfl, _, _, _, _, false, rfl, ClsV.ty _, tyB _ s1, kit_ty (by decide +kernel), .ref a, rfl, _, _, _, _, false, rfl, ClsV.ty _, tyA _ s1, kit_ty (by decide +kernel), rfl, ?_⟩
        refine ⟨.bl true, rfl, true, rfl, iteT ⟨.ref a, rfl, a, xs, rfl, .inl (SqL.of (s1 _ _ ha)), .ref a2, rfl, a2, ys, rfl, .inl (SqL.of (s1 _ _ hb)), rfl, true, ?_, iteT ?_⟩⟩
        · show V.bl (decide (V.int (xs.length : Int) = V.int (ys.length : Int))) = V.bl true
          rw [paired_len hp, decide_eq_true rfl]
        refine ⟨.ref a, rfl, .ref a2, rfl, a, a2, xs, ys, rfl, .inl ⟨SqL.of (s1 _ _ ha), SqL.of (s1 _ _ hb), fun D nD => ?_⟩⟩
        refine lc_it (walk_zip (n := xs.length) (by rw [paired_len hp]; exact (Nat.min_self _).symm)) (fun i H' => Same H H' ∧ H' D = some (.lst ((List.replicate i true).map V.bl))) ⟨s1.trans (same_upd nD), upd_same⟩ (fun i H' _ h => ⟨SqL.of (h.1 _ _ ha), SqL.of (h.1 _ _ hb)⟩) ?_ ?_
        · rintro i x H2 H3 hi ⟨s2, eD⟩ ⟨t, x1, y1, rfl, nt, rfl, hx, hy⟩
          have s3 := same_upd (o := .tup [x1, y1]) nt
          refine ⟨t, _, rfl, SqT.of upd_same, rfl, _, _, rfl, _, _, rfl, rfl, rfl, lc_turn ?_⟩
          refine ⟨x1, rfl, y1, rfl, x1, y1, rfl, (paired_at hp hx hy).same (s2.trans s3), fun H4 s4 => ⟨(List.replicate i true).map V.bl, (s3.trans s4) _ _ eD, ?_, fun b' o hb' => ?_, ?_⟩⟩
          · rw [List.length_map, List.length_replicate]
            exact Nat.lt_of_lt_of_le (by omega : i < 100000) (sz _ (Nat.le_refl _))
          · have nD' : b' ≠ D := ne_of_none (s1 _ _ hb') nD
            rw [upd_ne nD']
            exact (s3.trans s4) _ _ (s2 _ _ hb')
          · rw [upd_same, List.replicate_succ', List.map_append]
            rfl
        · rintro H2 ⟨s2, eD⟩
          refine ⟨D, List.replicate xs.length true, rfl, SqL.of eD, ?_⟩
          rw [show (List.replicate xs.length true).all id = true from by rw [List.all_replicate]; simp]
          exact q H2 s2
      · -- tuples
        have kab : PySem.W.kitAny K (.type "tuple") [.type "list", .type "tuple"] = some true := kit_seq (b1 := false) (b2 := true) (by decide +kernel) (by decide +kernel) rfl
        have tyA : ∀ H', Same H H' → TyX K H' (.ref a) (.type "tuple") := fun H' s' => .base (.tup (s' _ _ ha))
        have tyB : ∀ H', Same H H' → TyX K H' (.ref a2) (.type "tuple") := fun H' s' => .base (.tup (s' _ _ hb))
        refine ⟨.ref a, rfl, sz 2 (by decide), fun tp ntp => ?_⟩
        have s1 := same_upd (o := .tup [.ty "list", .ty "tuple"]) ntp
        refine ⟨_, tp, [.ty "list", .ty "tuple"], _, _, true, rfl, upd_same, .cons (ClsV.ty _) (.cons (ClsV.ty _) .nil), tyA _ s1, kab, true, rfl, iteT ?_⟩
        refine ⟨.ref a2, rfl, _, _, _, _, false, rfl, ClsV.ty _, tyB _ s1, kit_ty (by decide +kernel), .ref a, rfl, _, _, _, _, false, rfl, ClsV.ty _, tyA _ s1, kit_ty (by decide +kernel), rfl, true, rfl, iteT ?_⟩
        refine ⟨.ref a2, rfl, _, _, _, _, true, rfl, ClsV.ty _, tyB _ s1, kit_ty (by decide +kernel), .ref a, rfl, _, _, _, _, true, rfl, ClsV.ty _, tyA _ s1, kit_ty (by decide +kernel), rfl, ?_⟩
        refine ⟨.bl true, rfl, true, rfl, iteT ⟨.ref a, rfl, a, xs, rfl, .inr (SqT.of (s1 _ _ ha)), .ref a2, rfl, a2, ys, rfl, .inr (SqT.of (s1 _ _ hb)), rfl, true, ?_, iteT ?_⟩⟩
        · show V.bl (decide (V.int (xs.length : Int) = V.int (ys.length : Int))) = V.bl true
          rw [paired_len hp, decide_eq_true rfl]
        refine ⟨.ref a, rfl, .ref a2, rfl, a, a2, xs, ys, rfl, .inr ⟨SqT.of (s1 _ _ ha), SqT.of (s1 _ _ hb), fun D nD => ?_⟩⟩
        refine lc_it (walk_zipT (n := xs.length) (by rw [paired_len hp]; exact (Nat.min_self _).symm)) (fun i H' => Same H H' ∧ H' D = some (.lst ((List.replicate i true).map V.bl))) ⟨s1.trans (same_upd nD), upd_same⟩ (fun i H' _ h => ⟨SqT.of (h.1 _ _ ha), SqT.of (h.1 _ _ hb)⟩) ?_ ?_
        · rintro i x H2 H3 hi ⟨s2, eD⟩ ⟨t, x1, y1, rfl, nt, rfl, hx, hy⟩
          have s3 := same_upd (o := .tup [x1, y1]) nt
          refine ⟨t, _, rfl, SqT.of upd_same, rfl, _, _, rfl, _, _, rfl, rfl, rfl, lc_turn ?_⟩
          refine ⟨x1, rfl, y1, rfl, x1, y1, rfl, (paired_at hp hx hy).same (s2.trans s3), fun H4 s4 => ⟨(List.replicate i true).map V.bl, (s3.trans s4) _ _ eD, ?_, fun b' o hb' => ?_, ?_⟩⟩
          · rw [List.length_map, List.length_replicate]
            exact Nat.lt_of_lt_of_le (by omega : i < 100000) (sz _ (Nat.le_refl _))
          · have nD' : b' ≠ D := ne_of_none (s1 _ _ hb') nD
            rw [upd_ne nD']
            exact (s3.trans s4) _ _ (s2 _ _ hb')
          · rw [upd_same, List.replicate_succ', List.map_append]
            rfl
        · rintro H2 ⟨s2, eD⟩
          refine ⟨D, List.replicate xs.length true, rfl, SqL.of eD, ?_⟩
          rw [show (List.replicate xs.length true).all id = true from by rw [List.all_replicate]; simp]
          exact q H2 s2
      · -- a dict
        have tyA : ∀ H', Same H H' → TyX K H' (.ref a) (.type "dict") := fun H' s' => .base (.dK (s' _ _ ha))
        refine ⟨.ref a, rfl, sz 2 (by decide), fun tp ntp => ?_⟩
        have s1 := same_upd (o := .tup [.ty "list", .ty "tuple"]) ntp
        refine ⟨_, tp, [.ty "list", .ty "tuple"], _, _, false, rfl, upd_same, .cons (ClsV.ty _) (.cons (ClsV.ty _) .nil), tyA _ s1, kit_seq (b1 := false) (b2 := false) (by decide +kernel) (by decide +kernel) rfl, false, rfl, iteF ?_⟩
        refine ⟨.ref a, rfl, _, _, _, _, true, rfl, ClsV.ty _, tyA _ s1, kit_ty (by decide +kernel), true, rfl, iteT ?_⟩
        refine ⟨.ref a, rfl, _, _, _, _, true, rfl, ClsV.ty _, tyA _ s1, kit_ty (by decide +kernel), true, rfl, iteT ?_⟩
        refine ⟨.ref a, rfl, a, kvs, rfl, s1 _ _ ha, fun q1 nq1 => ?_⟩
        have s2 := s1.trans (same_upd (o := .lst (kvs.map fun kv => kV kv.1)) nq1)
        refine ⟨.ref a, rfl, a, kvs, rfl, s2 _ _ ha, fun q2 nq2 => ?_⟩
        have s3 := s2.trans (same_upd (o := .lst (kvs.map fun kv => kV kv.1)) nq2)
        have n12 : q1 ≠ q2 := fun e => by rw [← e, upd_same] at nq2; cases nq2
        refine ⟨.ref q1, .ref q2, rfl, ?_, fun H3 s4 => ?_⟩
        · match k, hk with
          | k + 1, _ => exact .inr (.inl ⟨q1, q2, _, _, rfl, rfl, .inl ⟨by rw [upd_ne n12]; exact upd_same, upd_same⟩, paired_keys kvs k, by rw [List.length_map]; exact hz⟩)
        have s5 := s3.trans s4
        refine ⟨.bl true, rfl, true, rfl, iteT ⟨a, .dK kvs, s5 _ _ ha, trivial, fun od => ?_⟩⟩
        refine ⟨.ref a, rfl, a, od, rfl, .inl ⟨kvs, upd_same, fun D nD => ?_⟩⟩
        have aD : a ≠ D := fun e => by rw [← e, upd_same] at nD; cases nD
        refine lc_it walk_keys (fun i H' => Same (upd H3 a (.frz od (.dK kvs))) H' ∧ H' D = some (.lst ((List.replicate i true).map V.bl))) ⟨same_upd nD, upd_same⟩ (fun i H' _ h => h.1 _ _ upd_same) ?_ ?_
        · rintro i x H4 H5 hi ⟨s6, eD⟩ ⟨rfl, kx, vx, hx, rfl⟩
          obtain ⟨⟨iv, hiv⟩, hval⟩ := hkv _ (List.mem_of_getElem? hx)
          have ef := s6 _ _ upd_same
          refine ⟨rfl, lc_turn ?_⟩
          refine ⟨.ref a, rfl, kV kx, rfl, a, vx, rfl, .inl ⟨kvs, kx, .inr ⟨od, ef⟩, rfl, hval.symm⟩, .ref a, rfl, kV kx, rfl, a, vx, rfl, .inl ⟨kvs, kx, .inr ⟨od, ef⟩, rfl, hval.symm⟩, vx, vx, rfl, ?_, fun H6 s7 => ⟨(List.replicate i true).map V.bl, s7 _ _ eD, ?_, fun b' o hb' => ?_, ?_⟩⟩
          · have hiv' : vx = .int iv := hiv
            rw [hiv']
            exact atom_eqv (.int iv) _
          · rw [List.length_map, List.length_replicate]
            exact Nat.lt_of_lt_of_le (by omega : i < 100000) (sz _ (Nat.le_refl _))
          · rw [upd_ne (ne_of_none hb' nD)]
            exact s7 _ _ (s6 _ _ hb')
          · rw [upd_same, List.replicate_succ', List.map_append]
            rfl
        · rintro H4 ⟨s6, eD⟩
          refine ⟨s6 _ _ upd_same, D, List.replicate kvs.length true, rfl, SqL.of (by rw [upd_ne aD.symm]; exact eD), ?_⟩
          rw [show (List.replicate kvs.length true).all id = true from by rw [List.all_replicate]; simp]
          refine q _ fun b' o hb' => ?_
          by_cases e : b' = a
          · subst e
            rw [upd_same, ← ha]
            exact hb'
          · rw [upd_ne e]
            refine s6 _ _ ?_
            rw [upd_ne e]
            exact s5 _ _ hb'
end
end K2

set_option Elab.async false
set_option linter.all false
set_option maxRecDepth 100000
set_option maxHeartbeats 8000000
/-! k02: the law's kinds of tokens, its line -/
namespace K2
open PySem PySem.Spec PyProof.Rows L2 EL LW
open Ln (L isLet isFig kd kdc jk joined need lineTo lawLine)
open PySem.EV (ErrC ErrI)
abbrev sKind : Stmt := topS 35
abbrev sJoined : Stmt := topS 36
abbrev sLine : Stmt := topS 37
theorem scKind : FnScope ["_law_token_here"] ["_law_token_here"] (defScope sKind) := ⟨rfl, rfl, rfl, by decide +kernel, rfl, by decide +kernel, by decide +kernel⟩
theorem scJoined : FnScope ["_law_one", "_law_other"] ["_law_one", "_law_other"] (defScope sJoined) := ⟨rfl, rfl, rfl, by decide +kernel, rfl, by decide +kernel, by decide +kernel⟩
abbrev nLn : List Str := ["_law_text", "_law_gaps", "_law_line_here", "_law_at", "_law_needed"]
theorem scLine : FnScope nLn ["_law_text", "_law_gaps"] (defScope sLine) := ⟨rfl, rfl, rfl, by decide +kernel, rfl, by decide +kernel, by decide +kernel⟩
theorem le_one (c d : Nat) : (!decide (([c] : List Nat) < [d])) = decide (d ≤ c) := by
  have : (([c] : List Nat) < [d]) ↔ c < d := by rw [List.cons_lt_cons_iff]; simp
  rw [Bool.eq_iff_iff, Bool.not_eq_true', decide_eq_false_iff_not, decide_eq_true_iff, this]
  omega
theorem one_str (c : Nat) (n : Nat) (h : cp (S [n]) = [n]) : decide (V.str ⟨#[c]⟩ = V.str (S [n])) = decide (c = n) := by
  rw [dec_str]
  show decide ([c] = [n]) = _
  simp
/-- the four words -/
def kdS (k : Nat) : Str := if k = 0 then "quoted" else if k = 1 then "word" else if k = 2 then "number" else "sign"
theorem kdc_lt (c : Nat) : kdc c < 4 := by
  unfold kdc
  split
  · decide
  · split
    · decide
    · split <;> decide
theorem sA : (Str.ofString "a") = S [97] := cp_inj (by decide +kernel)
theorem sZ : (Str.ofString "z") = S [122] := cp_inj (by decide +kernel)
theorem s0 : (Str.ofString "0") = S [48] := cp_inj (by decide +kernel)
theorem s9 : (Str.ofString "9") = S [57] := cp_inj (by decide +kernel)
theorem sQ : (Str.ofString "'") = S [39] := cp_inj (by decide +kernel)
theorem sB : (Str.ofString " ") = S [32] := cp_inj (by decide +kernel)
theorem ge_letter (c n : Nat) : (!decide ((⟨#[c]⟩ : Str).cps.toList < (S [n]).cps.toList)) = decide (n ≤ c) := le_one c n
theorem le_letter (c n : Nat) : (!decide ((S [n]).cps.toList < (⟨#[c]⟩ : Str).cps.toList)) = decide (c ≤ n) := le_one n c
section
variable {P : Program} {w : World} {K : PySem.W.Frag} {mg : Str → Option Value} {base : Heap} {C T I : Addr}
def spKind : Sp := fun vs H Q _ => ∃ (x : Str) (c : Nat) (cs : L), vs = [.str x] ∧ x.length ≤ 100000 ∧ cp x = c :: cs ∧ Q (.str (kdS (kdc c))) H
theorem ok_kind {f : Addr} {fd : FuncData} {k : Nat} (F : Fun K "_law_kind" "_law_kind" sKind f fd) : FnOk P w K mg base CX0 (k + 1) f fd ["_law_token_here"] spKind := by
  refine F.ok scKind (fun vs H Q E h => ?_) (fun cdv A outer s H vs Q E hr h => ?_)
  · obtain ⟨x, c, cs, rfl, _⟩ := h
    rfl
  · obtain ⟨x, c, cs, rfl, hz, e, q⟩ := h
    have hz' := sz _ hz
    have hc : (cp x)[0]? = some c := by rw [e]; rfl
    have h0 := cp_at hc
    refine ⟨_, pss_cons (ps_if (pt_cmpR op_eq (pe_ix ix_str (pv 0) pe_int (fun _ _ => rfl)) pe_str (nomark _)) (pss_one (ps_ret pe_str)) pss_nil)
      (pss_cons (ps_if (pt_chain op_le_str op_le_str pe_str (pe_ix ix_str (pv 0) pe_int (fun _ _ => rfl)) pe_str) (pss_one (ps_ret pe_str)) pss_nil)
      (pss_one (ps_ret (pe_ifExp (pt_chain op_le_str op_le_str pe_str (pe_ix ix_str (pv 0) pe_int (fun _ _ => rfl)) pe_str) pe_str pe_str)))), ?_⟩
    refine ⟨.str x, rfl, x, 0, c, rfl, rfl, hz', h0, rfl, _, rfl, ?_⟩
    rw [sQ, one_str c 39 rfl]
    by_cases h39 : c = 39
    · rw [decide_eq_true h39]
      have ek : kdc c = 0 := if_pos h39
      rw [ek] at q
      exact iteT q
    · rw [decide_eq_false h39]
      refine iteF ⟨.str x, rfl, x, 0, c, rfl, rfl, hz', h0, _, _, rfl, rfl, _, rfl, ?_⟩
      rw [sA, ge_letter]
      have word : isLet c = false → (tIf (tTest (tChain (fun x y H Q => ∃ i j, x = .str i ∧ y = .str j ∧ Q (.bl (!decide (j.cps.toList < i.cps.toList))) H) (fun x y H Q => ∃ i j, x = .str i ∧ y = .str j ∧ Q (.bl (!decide (j.cps.toList < i.cps.toList))) H) (tC (.str "0")) (tOp rIxS (tVar 0) (tC (.int 0))) (tC (.str "9")))) (tC (.str "number")) (tC (.str "sign"))) [some (.str x)] H Q := by
        intro hl
        have ek : kdc c = if isFig c then 2 else 3 := by
          unfold kdc
          rw [if_neg h39, hl]
          rfl
        refine ⟨.str x, rfl, x, 0, c, rfl, rfl, hz', h0, _, _, rfl, rfl, _, rfl, ?_⟩
        rw [s0, ge_letter]
        by_cases h1 : 48 ≤ c
        · rw [decide_eq_true h1]
          refine iteT ⟨_, _, rfl, rfl, _, rfl, ?_⟩
          rw [s9, le_letter]
          by_cases h2 : c ≤ 57
          · rw [decide_eq_true h2]
            have hf : isFig c = true := by unfold isFig; rw [decide_eq_true h1, decide_eq_true h2]; rfl
            rw [ek, hf] at q
            exact iteT q
          · rw [decide_eq_false h2]
            have hf : isFig c = false := by unfold isFig; rw [decide_eq_false h2, Bool.and_false]
            rw [ek, hf] at q
            exact iteF q
        · rw [decide_eq_false h1]
          have hf : isFig c = false := by unfold isFig; rw [decide_eq_false h1, Bool.false_and]
          rw [ek, hf] at q
          exact iteF ⟨_, rfl, iteF q⟩
      by_cases h1 : 97 ≤ c
      · rw [decide_eq_true h1]
        refine iteT ⟨_, _, rfl, rfl, _, rfl, ?_⟩
        rw [sZ, le_letter]
        by_cases h2 : c ≤ 122
        · rw [decide_eq_true h2]
          have hl : isLet c = true := by unfold isLet; rw [decide_eq_true h1, decide_eq_true h2]; rfl
          rw [Ln.kdc_let hl] at q
          exact iteT q
        · rw [decide_eq_false h2]
          exact iteF (word (by unfold isLet; rw [decide_eq_false h2, Bool.and_false]))
      · rw [decide_eq_false h1]
        exact iteF ⟨_, rfl, iteF (word (by unfold isLet; rw [decide_eq_false h1, Bool.false_and]))⟩
def spJoined : Sp := fun vs H Q _ => ∃ (x y : Str), vs = [.str x, .str y] ∧ x.length ≤ 100000 ∧ y.length ≤ 100000 ∧ cp x ≠ [] ∧ cp y ≠ [] ∧ ∀ H', Same H H' → Q (.bl (joined (cp x) (cp y))) H'
theorem any_jk : ∀ a, a < 4 → ∀ b, b < 4 → ([PyData.tuple [.str "word", .str "word"], .tuple [.str "quoted", .str "word"], .tuple [.str "number", .str "number"]].any fun z => PyData.eqv z (.tuple [.str (kdS a), .str (kdS b)])) = jk a b := by decide +kernel
theorem shaped2 : ∀ a, a < 4 → ∀ b, b < 4 → SeqAt.shaped (PyData.tuple [.str (kdS a), .str (kdS b)]) = true := by decide +kernel
theorem ok_joined {f fK : Addr} {fd dK : FuncData} (F : Fun K "_law_joined" "_law_joined" sJoined f fd) (kK : PySem.W.keepIn K (.ref fK) = true) (GK : FnOk P w K mg base CX0 1 fK dK ["_law_token_here"] spKind) (bK : Binds K dK ["_law_token_here"] []) (gK : mg "_law_kind" = some (.ref fK)) :
    FnOk P w K mg base CX0 2 f fd ["_law_one", "_law_other"] spJoined := by
  refine F.ok scJoined (fun vs H Q E h => ?_) (fun cdv A outer s H vs Q E hr h => ?_)
  · obtain ⟨x, y, rfl, _⟩ := h
    rfl
  · obtain ⟨x, y, rfl, hx, hy, nx, ny, q⟩ := h
    have hu : (A.deeper (envOfC "_law_joined" (defScope sJoined) s.heap.objs.size f cdv)).units + 65 < cLine := by
      have := hr.un
      omega
    refine ⟨_, pss_one (ps_ret (pe_cmpR (op_inD hu) (pe_tup (pa_cons (pe_call GK hr (by rfl) gK kK bK .nil pass0 (pa_cons (pv 0) pa_nil)) (pa_cons (pe_call GK hr (by rfl) gK kK bK .nil pass0 (pa_cons (pv 1) pa_nil)) pa_nil)))
      (pe_lst (pa_cons (pe_tup (pa_cons pe_str (pa_cons pe_str pa_nil))) (pa_cons (pe_tup (pa_cons pe_str (pa_cons pe_str pa_nil))) (pa_cons (pe_tup (pa_cons pe_str (pa_cons pe_str pa_nil))) pa_nil)))) (by rfl))), ?_⟩
    match ex : cp x, ey : cp y, nx, ny with
    | c :: cs, d :: ds, _, _ =>
      refine ⟨.str x, rfl, x, c, cs, rfl, hx, ex, .str y, rfl, y, d, ds, rfl, hy, ey, sz 2 (by decide), fun t nt => ?_⟩
      have u0 := same_upd (o := .tup [.str (kdS (kdc c)), .str (kdS (kdc d))]) nt
      refine ⟨sz 2 (by decide), fun t1 n1 => ⟨sz 2 (by decide), fun t2 n2 => ⟨sz 2 (by decide), fun t3 n3 => ⟨sz 3 (by decide), fun l nl => ?_⟩⟩⟩⟩
      have u1 := same_upd (o := .tup [.str "word", .str "word"]) n1
      have u2 := same_upd (o := .tup [.str "quoted", .str "word"]) n2
      have u3 := same_upd (o := .tup [.str "number", .str "number"]) n3
      have u4 := same_upd (o := .lst [.ref t1, .ref t2, .ref t3]) nl
      have str2 : ∀ (H : Hp) (a b : Str), DpAll K H [.str a, .str b] [.str a, .str b] := fun H a b => .cons (.str a) (.cons (.str b) .nil)
      refine ⟨.tuple [.str (kdS (kdc c)), .str (kdS (kdc d))], [.tuple [.str "word", .str "word"], .tuple [.str "quoted", .str "word"], .tuple [.str "number", .str "number"]], .tup (SqT.of (((u1.trans u2).trans (u3.trans u4)) _ _ upd_same)) (str2 _ _ _),
        .lst (SqL.of upd_same) (.cons (.tup (SqT.of ((u2.trans (u3.trans u4)) _ _ upd_same)) (str2 _ _ _)) (.cons (.tup (SqT.of ((u3.trans u4) _ _ upd_same)) (str2 _ _ _)) (.cons (.tup (SqT.of (u4 _ _ upd_same)) (str2 _ _ _)) .nil))), shaped2 _ (kdc_lt c) _ (kdc_lt d), by decide +kernel, ?_⟩
      rw [any_jk _ (kdc_lt c) _ (kdc_lt d)]
      have := q _ (((u0.trans u1).trans u2).trans (u3.trans u4))
      rw [ex, ey] at this
      exact this
/-- gaps, as whole numbers -/
def gl (gs : List Nat) : List V := gs.map fun (g : Nat) => V.int (g : Int)
def spLineL (K : PySem.W.Frag) : Sp := fun vs H Q _ => ∃ (a g : Addr) (ts : List L) (gs : List Nat), vs = [.ref a, .ref g] ∧ H a = some (.lst (vl ts)) ∧ H g = some (.lst (gl gs)) ∧ ts.length < gs.length ∧ ts.length ≤ 1000 ∧ (∀ t ∈ ts, t ≠ [] ∧ t.length ≤ 9) ∧ (∀ x ∈ gs, x ≤ 3) ∧ ∀ H', Same H H' → Q (.str (S (lawLine ts fun i => gs.getD i 0))) H'
theorem ok_lineL {f fJ : Addr} {fd dJ : FuncData} (F : Fun K "_law_line" "_law_line" sLine f fd) (kJ : PySem.W.keepIn K (.ref fJ) = true) (GJ : FnOk P w K mg base CX0 2 fJ dJ ["_law_one", "_law_other"] spJoined) (bJ : Binds K dJ ["_law_one", "_law_other"] []) (gJ : mg "_law_joined" = some (.ref fJ))
    (ml : mg "len" = none) (mr : mg "range" = none) (mi : mg "int" = none) : FnOk P w K mg base CX0 3 f fd ["_law_text", "_law_gaps"] (spLineL K) := by
  refine F.ok scLine (fun vs H Q E h => ?_) (fun cdv A outer s H vs Q E hr h => ?_)
  · obtain ⟨a, g, ts, gs, rfl, _⟩ := h
    rfl
  · obtain ⟨a, g, ts, gs, rfl, ha, hg, hlen, hn, ht, hgs, q⟩ := h
    have nd := scLine.nd
    refine ⟨_, pss_cons (ps_set (i := 2) nd rfl (.inl rfl) pe_str)
      (pss_cons (ps_for PassesOwn.never rfl (pi_range1 rfl mr (pa_cons (pe_callB call_len_seq (by rfl) ml PySem.boot_len (pa_cons (pv 0) pa_nil)) pa_nil)) (pg_name (i := 3) nd rfl (.inl rfl))
        (pss_cons (ps_set (i := 4) nd rfl (.inl rfl) (pe_and (pe_cmpR op_gt (pv 3) pe_int (nomark _)) (pe_one (pe_call GJ hr (by rfl) gJ kJ bJ .nil pass0 (pa_cons (pe_ix ix_list (pv 0) (pe_op op_sub (pv 3) pe_int) (fun _ _ => rfl)) (pa_cons (pe_ix ix_list (pv 0) (pv 3) (fun _ _ => rfl)) pa_nil))))))
        (pss_one (ps_set (i := 2) nd rfl (.inl rfl) (pe_op op_add_str (pe_op op_add_str (pv 2) (pe_op op_times pe_str (pe_op op_add (pe_ix ix_list (pv 1) (pv 3) (fun _ _ => rfl)) (pe_callTy call_int1 (by rfl) mi (by decide +kernel) (pa_cons (pv 4) pa_nil))))) (pe_ix ix_list (pv 0) (pv 3) (fun _ _ => rfl)))))))
      (pss_one (ps_ret (pe_op op_add_str (pv 2) (pe_op op_times pe_str (pe_ix ix_list (pv 1) (pe_callB call_len_seq (by rfl) ml PySem.boot_len (pa_cons (pv 0) pa_nil)) (fun _ _ => rfl))))))), ?_⟩
    have hz : ∀ n : Nat, n ≤ 100000 → n ≤ sizeLine := sz
    have nlen : (vl ts).length = ts.length := by unfold vl; rw [List.length_map]
    have getT : ∀ {i : Nat} {t : L}, ts[i]? = some t → (vl ts)[i]? = some (.str (S t)) := fun {i t} h => by unfold vl; rw [List.getElem?_map, h]; rfl
    have getG : ∀ {i x : Nat}, gs[i]? = some x → (gl gs)[i]? = some (.int (x : Int)) := fun {i x} h => by unfold gl; rw [List.getElem?_map, h]; rfl
    have h9 : ∀ t ∈ ts, t.length ≤ 9 := fun t h => (ht t h).2
    have g3 : ∀ i, gs.getD i 0 ≤ 3 := fun i => by
      rw [List.getD_eq_getElem?_getD]
      cases e : gs[i]? with
      | none => exact Nat.zero_le _
      | some x => exact hgs x (List.mem_of_getElem? e)
    refine ⟨.ref a, rfl, a, _, rfl, .inl (SqL.of ha), _, rfl, ?_, ?_, for_range (n := ((vl ts).length : Int).toNat) (fun i σ H' => Same H H' ∧ ∃ y3 y4 : Option V, σ = [some (.ref a), some (.ref g), some (.str (S (lineTo ts (fun i => gs.getD i 0) i))), y3, y4]) ⟨Same.refl _, none, none, rfl⟩ ?_ ?_⟩
    · show -(2 ^ 62) ≤ ((vl ts).length : Int)
      omega
    · show ((vl ts).length : Int) < 2 ^ 62
      omega
    · rintro i σ H1 hi ⟨s1, y3, y4, rfl⟩
      have hi' : i < ts.length := by omega
      obtain ⟨t, htm⟩ : ∃ t, ts[i]? = some t := ⟨_, List.getElem?_eq_getElem hi'⟩
      obtain ⟨x, hxm⟩ : ∃ x, gs[i]? = some x := ⟨_, List.getElem?_eq_getElem (by omega)⟩
      have hx3 := hgs x (List.mem_of_getElem? hxm)
      obtain ⟨tn, t9⟩ := ht t (List.mem_of_getElem? htm)
      have hgt : ts.getD i [] = t := by rw [List.getD_eq_getElem?_getD, htm]; rfl
      have hgx : gs.getD i 0 = x := by rw [List.getD_eq_getElem?_getD, hxm]; rfl
      have hl := lineTo_len (ts := ts) (g := fun i => gs.getD i 0) (G := 3) g3 h9 i
      have aT : ∀ H2, Same H1 H2 → SqL K H2 a (vl ts) := fun H2 s2 => SqL.of (s2 _ _ (s1 _ _ ha))
      have aG : ∀ H2, Same H1 H2 → SqL K H2 g (gl gs) := fun H2 s2 => SqL.of (s2 _ _ (s1 _ _ hg))
      have iT : atI (vl ts) (0 + (i : Int)) = some (.str (S t)) := by rw [Int.zero_add]; exact atI_nat (getT htm)
      have iG : atI (gl gs) (0 + (i : Int)) = some (.int (x : Int)) := by rw [Int.zero_add]; exact atI_nat (getG hxm)
      have step : ∀ (D : Ends), (∀ σ' H', (Same H H' ∧ ∃ y3 y4 : Option V, σ' = [some (.ref a), some (.ref g), some (.str (S (lineTo ts (fun i => gs.getD i 0) (i + 1)))), y3, y4]) → D.nx σ' H') → ∀ (b : Bool), need ts i = b → ∀ H2, Same H1 H2 →
          tAsg (tOp (fun x y H Q => ∃ i j, x = .str i ∧ y = .str j ∧ i.length + j.length ≤ sizeLine ∧ Q (.str (i ++ j)) H)
            (tOp (fun x y H Q => ∃ i j, x = .str i ∧ y = .str j ∧ i.length + j.length ≤ sizeLine ∧ Q (.str (i ++ j)) H) (tVar 2)
              (tOp rTimes (tC (.str " ")) (tOp (rI0 fun i j => .int (i + j)) (tOp (rIxL K) (tVar 1) (tVar 3)) (tCB (fun xs H Q => (∃ i, xs = [.int i] ∧ Q (.int i) H) ∨ ∃ k, xs = [.bl k] ∧ Q (.int (if k then 1 else 0)) H) (tCons (tVar 4) tNil)))))
            (tOp (rIxL K) (tVar 0) (tVar 3))) (gName 2) D [some (.ref a), some (.ref g), some (.str (S (lineTo ts (fun i => gs.getD i 0) i))), some (.int (0 + (i : Int))), some (.bl b)] H2 := by
        intro D hD b hb H2 s2
        have hk : ((x : Int) + (if b = true then 1 else 0)).toNat = x + (if b = true then 1 else 0) := by
          cases b
          · rfl
          · show ((x : Int) + 1).toNat = x + 1
            omega
        have hk2 : x + (if b = true then 1 else 0) ≤ 4 := by
          cases b
          · show x + 0 ≤ 4; omega
          · show x + 1 ≤ 4; omega
        refine ⟨_, rfl, .ref g, rfl, .int (0 + (i : Int)), rfl, g, gl gs, _, .int (x : Int), rfl, rfl, aG _ s2, iG, .bl b, rfl, .inr ⟨b, rfl, _, _, rfl, rfl, 32, _, congrArg V.str sB, rfl, ?_, ?_, _, _, rfl, rfl, ?_, .ref a, rfl, .int (0 + (i : Int)), rfl, a, vl ts, _, .str (S t), rfl, rfl, aT _ s2, iT, _, _, rfl, rfl, ?_, hD _ _ ⟨s1.trans s2, some (.int (0 + (i : Int))), some (.bl b), ?_⟩⟩⟩
        · cases b
          · show (0 : Int) ≤ x + 0; omega
          · show (0 : Int) ≤ x + 1; omega
        · cases b
          · show (x : Int) + 0 ≤ 1000; omega
          · show (x : Int) + 1 ≤ 1000; omega
        · rw [hk]
          show (S (lineTo ts (fun i => gs.getD i 0) i)).length + (S (List.replicate (x + (if b = true then 1 else 0)) 32)).length ≤ sizeLine
          rw [S_len, S_len, List.length_replicate]
          have := hz 100000 (Nat.le_refl _)
          omega
        · rw [hk]
          show (S (lineTo ts (fun i => gs.getD i 0) i) ++ S (List.replicate (x + (if b = true then 1 else 0)) 32)).length + (S t).length ≤ sizeLine
          rw [S_app, S_len, S_len, List.length_append, List.length_replicate]
          have := hz 100000 (Nat.le_refl _)
          omega
        · rw [hk]
          show [some (V.ref a), some (V.ref g), some (V.str (S (lineTo ts (fun i => gs.getD i 0) i) ++ S (List.replicate (x + (if b = true then 1 else 0)) 32) ++ S t)), some (V.int (0 + (i : Int))), some (V.bl b)] = [some (V.ref a), some (V.ref g), some (V.str (S (lineTo ts (fun i => gs.getD i 0) i ++ (List.replicate (gs.getD i 0 + (if need ts i then 1 else 0)) 32 ++ ts.getD i [])))), some (V.int (0 + (i : Int))), some (V.bl b)]
          rw [S_app, S_app, hgt, hgx, hb, List.append_assoc]
      refine ⟨_, rfl, _, _, rfl, rfl, _, rfl, ite2 (fun c1 => ?_) (fun c1 => ?_)⟩
      · have i0 : 0 < i := by
          have := of_decide_eq_true c1
          omega
        obtain ⟨u, hum⟩ : ∃ u, ts[i - 1]? = some u := ⟨_, List.getElem?_eq_getElem (by omega)⟩
        obtain ⟨un, u9⟩ := ht u (List.mem_of_getElem? hum)
        have hgu : ts.getD (i - 1) [] = u := by rw [List.getD_eq_getElem?_getD, hum]; rfl
        have iU : atI (vl ts) (0 + (i : Int) - 1) = some (.str (S u)) := by
          rw [show (0 + (i : Int) - 1) = ((i - 1 : Nat) : Int) by omega]
          exact atI_nat (getT hum)
        have hne : need ts i = joined u t := by
          unfold need
          rw [decide_eq_true i0, hgu, hgt, Bool.true_and]
        refine ⟨.ref a, rfl, _, rfl, _, _, rfl, rfl, a, vl ts, _, .str (S u), rfl, rfl, aT _ (Same.refl _), iU, .ref a, rfl, _, rfl, a, vl ts, _, .str (S t), rfl, rfl, aT _ (Same.refl _), iT, S u, S t, rfl, by rw [S_len]; omega, by rw [S_len]; omega, un, tn, fun H2 s2 => ?_⟩
        exact step _ (fun _ _ h => h) _ hne H2 s2
      · have i0 : i = 0 := by
          have : ¬ 0 < i := fun h => c1 (decide_eq_true (by omega))
          omega
        have hne : need ts i = false := by
          unfold need
          rw [decide_eq_false (by omega), Bool.false_and]
        exact step _ (fun _ _ h => h) _ hne H1 (Same.refl _)
    · rintro σ H1 ⟨s1, y3, y4, rfl⟩
      have en : ((vl ts).length : Int).toNat = ts.length := by omega
      obtain ⟨x, hxm⟩ : ∃ x, gs[ts.length]? = some x := ⟨_, List.getElem?_eq_getElem (by omega)⟩
      have hx3 := hgs x (List.mem_of_getElem? hxm)
      have hgx : gs.getD ts.length 0 = x := by rw [List.getD_eq_getElem?_getD, hxm]; rfl
      have hl := lineTo_len (ts := ts) (g := fun i => gs.getD i 0) (G := 3) g3 h9 ts.length
      rw [en]
      have iG : atI (gl gs) ((vl ts).length : Int) = some (.int (x : Int)) := by rw [nlen]; exact atI_nat (getG hxm)
      refine ⟨_, rfl, .ref g, rfl, .ref a, rfl, a, vl ts, rfl, .inl (SqL.of (s1 _ _ ha)), g, gl gs, _, .int (x : Int), rfl, rfl, SqL.of (s1 _ _ hg), iG, 32, _, congrArg V.str sB, rfl, by omega, by omega, _, _, rfl, rfl, ?_, ?_⟩
      · show (S (lineTo ts (fun i => gs.getD i 0) ts.length)).length + (S (List.replicate (x : Int).toNat 32)).length ≤ sizeLine
        rw [S_len, S_len, List.length_replicate]
        have := hz 100000 (Nat.le_refl _)
        omega
      · have := q H1 s1
        unfold lawLine at this
        rw [show (fun i => gs.getD i 0) ts.length = x from hgx, ← S_app] at this
        exact this
end
end K2

set_option Elab.async false
set_option linter.all false
set_option maxRecDepth 100000
set_option maxHeartbeats 8000000
/-! k02: the law's good tokens -/
namespace K2
open PySem PySem.Spec PyProof.Rows L2 EL LW
open Ln (L isLet isFig good grp goes stepL scan addLast)
open PySem.EV (ErrC ErrI)
abbrev sGood : Stmt := topS 39
theorem scGood : FnScope ["_law_token_here", "_law_sign"] ["_law_token_here"] (defScope sGood) := ⟨rfl, rfl, rfl, by decide +kernel, rfl, by decide +kernel, by decide +kernel⟩
abbrev rLe : R2 := fun x y H Q => ∃ i j, x = .str i ∧ y = .str j ∧ Q (.bl (!decide (j.cps.toList < i.cps.toList))) H
/-- lo <= the first sign <= hi -/
def sgnB : Str := Str.ofString "+-*/<>=.,;:!?&|@^~[]{}()"
theorem sgnB_list : sgnB.cps.toList = Ln.signs ++ [40, 41] := by decide +kernel
theorem in_signs (x : Str) (z : Str) : inV (.str x) (signsOf z) = ((cp x).length == 1 && z.cps.toList.contains ((cp x).headD 0)) := by
  unfold inV signsOf
  rw [List.any_map]
  have e : ((fun y => eqV y (.str x)) ∘ fun c => V.str ⟨#[c]⟩) = fun c => (cp x == [c]) := by
    funext c
    exact eq_one x c
  rw [e]
  match cp x with
  | [] =>
    rw [Bool.eq_iff_iff, List.any_eq_true]
    simp
  | [d] =>
    rw [Bool.eq_iff_iff, List.any_eq_true]
    simp
  | d :: d2 :: ds =>
    rw [Bool.eq_iff_iff, List.any_eq_true]
    simp
section
variable {P : Program} {w : World} {K : PySem.W.Frag} {mg : Str → Option Value} {base : Heap} {C T I : Addr}
def spGood : Sp := fun vs H Q _ => ∃ (x : Str) (c : Nat) (cs : L), vs = [.str x] ∧ x.length ≤ 1000 ∧ cp x = c :: cs ∧ ∀ H', Same H H' → Q (.bl (good (cp x))) H'
theorem filter_take (p : Nat → Bool) (l : L) (i c : Nat) (h : l[i]? = some c) : (l.take (i + 1)).filter p = (l.take i).filter p ++ (if p c then [c] else []) := by
  have hi := (List.getElem?_eq_some_iff.mp h).1
  have e : l[i] = c := (List.getElem?_eq_some_iff.mp h).2
  rw [List.take_succ_eq_append_getElem hi, List.filter_append, e]
  congr 1
  rw [List.filter_cons]
  simp
theorem ok_good {f : Addr} {fd : FuncData} {k : Nat} (F : Fun K "_law_good" "_law_good" sGood f fd) (ml : mg "len" = none) (mli : mg "list" = none) : FnOk P w K mg base CX0 (k + 1) f fd ["_law_token_here"] spGood := by
  refine F.ok scGood (fun vs H Q E h => ?_) (fun cdv A outer s H vs Q E hr h => ?_)
  · obtain ⟨x, c, cs, rfl, _⟩ := h
    rfl
  · obtain ⟨x, c, cs, rfl, hz, e, q⟩ := h
    have nd := scGood.nd
    have hz' := sz x.length (by omega)
    have h0 := cp_at (x := x) (i := 0) (c := c) (by rw [e]; rfl)
    have hlen := cp_len x
    have fst : ∀ {H' : Hp} {Q' : VK}, Q' (.str ⟨#[c]⟩) H' → tOp rIxS (tVar 0) (tC (.int 0)) [some (.str x), none] H' Q' := fun q' => ⟨.str x, rfl, x, 0, c, rfl, rfl, hz', h0, q'⟩
    refine ⟨_, pss_cons (ps_if (PW.pt (pw_or (pt_chain op_le_str op_le_str pe_str (pe_ix ix_str (pv 0) pe_int (fun _ _ => rfl)) pe_str) (pw_or1 (pt_cmpR op_eq (pe_ix ix_str (pv 0) pe_int (fun _ _ => rfl)) pe_str (nomark _)))))
        (pss_one (ps_ret (pe_chain op_lt op_lt pe_int (pe_callB call_len_seq (by rfl) ml PySem.boot_len (pa_cons (pe_lc (own := [("_law_sign", 1)]) (g := gName 1) (tt := tTest (tOp rNe (tVar 1) (tC (.str "'")))) rfl nd (pi_str (pv 0)) (blkOk_by (own := [("_law_sign", 1)]) (N := ["_law_token_here", "_law_sign"]) (sc := defScope sGood) (by decide +kernel))
          (fun _ _ _ _ _ => pg_name (i := 1) nd rfl (Or.inl rfl)) (fun _ _ _ _ _ => pts_one (pt_cmpR op_ne (pv 1) pe_str (nomark _))) (fun _ _ _ _ _ => pv 1)) pa_nil)) pe_int))) pss_nil)
      (pss_cons (ps_if (pt_chain op_le_str op_le_str pe_str (pe_ix ix_str (pv 0) pe_int (fun _ _ => rfl)) pe_str)
        (pss_one (ps_ret (pe_or (pe_cmpR op_eq (pv 0) pe_str (nomark _)) (pe_one (pe_and (pe_cmpR op_ne (pe_ix ix_str (pv 0) pe_int (fun _ _ => rfl)) pe_str (nomark _)) (pe_one (pe_cmpR op_lt (pe_callB call_len_str (by rfl) ml PySem.boot_len (pa_cons (pv 0) pa_nil)) pe_int (nomark _)))))))) pss_nil)
      (pss_one (ps_ret (pe_cmpR op_in_seq (pv 0) (pe_callTy (call_listS rfl) (by rfl) mli boot_list (pa_cons pe_str pa_nil)) (by rfl))))), ?_⟩
    have isL : (decide (97 ≤ c) && decide (c ≤ 122)) = isLet c := rfl
    have isF : (decide (48 ≤ c) && decide (c ≤ 57)) = isFig c := rfl
    have qe : ∀ {b : Bool} {H' : Hp}, good (cp x) = b → Same H H' → Q (.bl b) H' := fun {b H'} hb s' => by
      have := q H' s'
      rw [hb] at this
      exact this
    have letters : (isLet c || c == 39) = true → tChain (rI0 fun i j => .bl (decide (i < j))) (rI0 fun i j => .bl (decide (i < j))) (tC (.int 0)) (tCB (fun xs H Q => ∃ p ys, xs = [.ref p] ∧ (SqL K H p ys ∨ SqT K H p ys) ∧ Q (.int ys.length) H) (tCons (tLc (iStr (tVar 0)) (gName 1) (tTest (tOp rNe (tVar 1) (tC (.str "'")))) (tVar 1) [1]) tNil)) (tC (.int 9)) [some (.str x), none] H Q := by
      intro hl
      refine ⟨.str x, rfl, x, rfl, fun D nD => ?_⟩
      refine lc_it walk_str (fun i H' => Same H H' ∧ H' D = some (.lst ((((cp x).take i).filter fun d => d != 39).map fun d => V.str ⟨#[d]⟩))) ⟨same_upd nD, by rw [upd_same]; rfl⟩ (fun _ _ _ _ => trivial) ?_ ?_
      · rintro i y H1 H1' hi ⟨s1, eD⟩ ⟨rfl, d, hd, rfl⟩
        have hd2 : (cp x)[i]? = some d := by
          unfold cp
          rw [Array.getElem?_toList]
          exact hd
        refine ⟨rfl, _, rfl, rfl, _, rfl, ?_⟩
        rw [sQ, one_str d 39 rfl]
        have ef := filter_take (fun d => d != 39) (cp x) i d hd2
        by_cases h39 : d = 39
        · rw [decide_eq_true h39]
          refine iteF ⟨s1, ?_⟩
          rw [ef, show (d != 39) = false by simp [h39], eD]
          simp
        · rw [decide_eq_false h39]
          refine iteT ⟨_, rfl, _, eD, ?_, fun b o hb => ?_, ?_⟩
          · rw [List.length_map]
            have h1 : (((cp x).take i).filter fun d => d != 39).length ≤ i := Nat.le_trans (List.length_filter_le _ _) (by rw [List.length_take]; omega)
            have h2 : i < x.length := hi
            exact Nat.lt_of_lt_of_le (by omega : _ < 100000) (sz _ (Nat.le_refl _))
          · rw [upd_ne (ne_of_none hb nD)]
            exact s1 _ _ hb
          · rw [upd_same, ef, show (d != 39) = true by simp [h39], List.map_append]
            rfl
      · rintro H1 ⟨s1, eD⟩
        have et : (cp x).take x.cps.size = cp x := List.take_of_length_le (by rw [hlen]; exact Nat.le_refl _)
        rw [et] at eD
        have hg : good (cp x) = (decide (0 < ((cp x).filter fun d => d != 39).length) && decide (((cp x).filter fun d => d != 39).length < 9)) := by
          unfold good
          rw [e, List.headD_cons, hl]
          rfl
        refine ⟨D, _, rfl, .inl (SqL.of eD), _, _, rfl, rfl, _, rfl, ?_⟩
        rw [List.length_map]
        by_cases h1 : 0 < ((cp x).filter fun d => d != 39).length
        · rw [decide_eq_true (by omega : (0 : Int) < (((cp x).filter fun d => d != 39).length : Int))]
          refine iteT ⟨_, _, rfl, rfl, ?_⟩
          refine qe ?_ s1
          rw [hg, decide_eq_true h1, Bool.true_and]
          exact decide_eq_decide.mpr (by omega)
        · rw [decide_eq_false (by omega : ¬ (0 : Int) < (((cp x).filter fun d => d != 39).length : Int))]
          refine iteF (qe ?_ s1)
          rw [hg, decide_eq_false h1, Bool.false_and]
    refine ⟨.str x, rfl, x, 0, c, rfl, rfl, hz', h0, _, _, rfl, rfl, _, rfl, ?_⟩
    rw [sA, ge_letter]
    cases hl : isLet c with
    | true =>
      have hl2 := hl
      unfold isLet at hl2
      simp only [Bool.and_eq_true, decide_eq_true_eq] at hl2
      rw [decide_eq_true hl2.1]
      refine iteT ⟨_, _, rfl, rfl, _, rfl, ?_⟩
      rw [sZ, le_letter, decide_eq_true hl2.2]
      exact iteT (iteT (letters (by rw [hl]; rfl)))
    | false =>
      have h2 : 97 ≤ c → ¬ c ≤ 122 := fun h1 h2 => by
        unfold isLet at hl
        rw [decide_eq_true h1, decide_eq_true h2] at hl
        cases hl
      rcases Decidable.em (97 ≤ c) with h1 | h1
      all_goals first
        | (rw [decide_eq_true h1]; refine iteT ⟨_, _, rfl, rfl, _, rfl, ?_⟩; rw [sZ, le_letter, decide_eq_false (h2 h1)]; refine iteF ?_)
        | (rw [decide_eq_false h1]; refine iteF ⟨_, rfl, iteF ?_⟩)
      all_goals
        refine ⟨.str x, rfl, x, 0, c, rfl, rfl, hz', h0, rfl, _, rfl, ?_⟩
        rw [sQ, one_str c 39 rfl]
        by_cases h39 : c = 39
        · rw [decide_eq_true h39]
          exact iteT (letters (by rw [hl, h39]; rfl))
        · rw [decide_eq_false h39]
          have e39 : (c == 39) = false := by simp [h39]
          refine iteF ⟨.str x, rfl, x, 0, c, rfl, rfl, hz', h0, _, _, rfl, rfl, _, rfl, ?_⟩
          rw [s0, ge_letter]
          have hg : good (cp x) = if isFig c then (cp x == [48]) || (!(c == 48) && decide ((cp x).length < 9)) else (cp x).length == 1 && (Ln.signs ++ [40, 41]).contains c := by
            unfold good
            rw [e, List.headD_cons, hl, e39]
            rfl
          cases hf : isFig c with
          | true =>
            have hf2 := hf
            unfold isFig at hf2
            simp only [Bool.and_eq_true, decide_eq_true_eq] at hf2
            rw [hf, if_pos rfl] at hg
            rw [decide_eq_true hf2.1]
            refine iteT ⟨_, _, rfl, rfl, _, rfl, ?_⟩
            rw [s9, le_letter, decide_eq_true hf2.2]
            refine iteT ⟨_, rfl, rfl, _, rfl, ?_⟩
            rw [dec_str, cp_S]
            by_cases h48 : cp x = [48]
            · rw [decide_eq_true h48]
              refine iteT (qe ?_ (Same.refl _))
              rw [hg, h48]
              rfl
            · rw [decide_eq_false h48]
              rw [show (cp x == [48]) = false by simpa using h48, Bool.false_or] at hg
              refine iteF ⟨.str x, rfl, x, 0, c, rfl, rfl, hz', h0, rfl, _, rfl, ?_⟩
              rw [one_str c 48 rfl]
              by_cases c48 : c = 48
              · rw [decide_eq_true c48]
                refine iteF (qe ?_ (Same.refl _))
                rw [hg, c48]
                rfl
              · rw [decide_eq_false c48]
                rw [show (c == 48) = false by simp [c48], Bool.not_false, Bool.true_and] at hg
                refine iteT ⟨_, rfl, x, rfl, hz', _, _, rfl, rfl, qe ?_ (Same.refl _)⟩
                rw [hg, hlen]
                exact decide_eq_decide.mpr (by omega)
          | false =>
            rw [hf, if_neg (by decide)] at hg
            have third : ∀ p, H p = none → inV (.str x) (signsOf sgnB) = good (cp x) := fun p np => by
              rw [hg, in_signs, sgnB_list, e, List.headD_cons]
            have h4 : 48 ≤ c → ¬ c ≤ 57 := fun h3 h4 => by
              unfold isFig at hf
              rw [decide_eq_true h3, decide_eq_true h4] at hf
              cases hf
            rcases Decidable.em (48 ≤ c) with h3 | h3
            all_goals first
              | (rw [decide_eq_true h3]; refine iteT ⟨_, _, rfl, rfl, _, rfl, ?_⟩; rw [s9, le_letter, decide_eq_false (h4 h3)]; refine iteF ?_)
              | (rw [decide_eq_false h3]; refine iteF ⟨_, rfl, iteF ?_⟩)
            all_goals exact ⟨_, rfl, sgnB, rfl, by rw [sizeLine_eq]; decide, fun p np => ⟨p, _, rfl, .inl (SqL.of upd_same), rfl, flat_signs _, qe (third p np).symm (same_upd np)⟩⟩
end
end K2

set_option Elab.async false
set_option linter.all false
set_option maxRecDepth 100000
set_option maxHeartbeats 8000000
/-! k02: the law's scanner -/
namespace K2
open PySem PySem.Spec PyProof.Rows L2 EL LW
open Ln (L isLet isFig good grp goes stepL scan addLast)
open PySem.EV (ErrC ErrI)
abbrev sScan : Stmt := topS 38
abbrev nSc : List Str := ["_law_line_here", "_law_found", "_law_run", "_law_sign", "_law_group", "_law_token_here"]
theorem scScan : FnScope nSc ["_law_line_here"] (defScope sScan) := ⟨rfl, rfl, rfl, by decide +kernel, rfl, by decide +kernel, by decide +kernel⟩
/-! ### lists of texts as data -/
def dS (t : L) : PyData := .str (S t)
theorem dS_all {K : PySem.W.Frag} {H : Hp} : ∀ ts : List L, DpAll K H (vl ts) (ts.map dS)
  | [] => .nil
  | t :: ts => .cons (.str (S t)) (dS_all ts)
theorem eqv_texts : ∀ ts us : List L, PyData.eqvAll (ts.map dS) (us.map dS) = decide (ts = us)
  | [], [] => rfl
  | [], _ :: _ => rfl
  | _ :: _, [] => rfl
  | t :: ts, u :: us => by
    show (PyData.eqv (dS t) (dS u) && PyData.eqvAll (ts.map dS) (us.map dS)) = _
    rw [eqv_texts ts us]
    have : PyData.eqv (dS t) (dS u) = decide (t = u) := by
      show (S t == S u) = _
      rw [Bool.eq_iff_iff, beq_iff_eq, decide_eq_true_iff]
      exact ⟨fun e => by have := congrArg cp e; simpa [cp_S] using this, fun e => by rw [e]⟩
    rw [this, Bool.eq_iff_iff]
    simp
theorem depth_texts : ∀ ts : List L, PyData.depthAll (ts.map dS) = 0
  | [] => rfl
  | t :: ts => by
    show max (PyData.depth (dS t)) (PyData.depthAll (ts.map dS)) = 0
    rw [depth_texts ts]
    rfl
def Asc (t : L) : Prop := ∀ c ∈ t, c < 128
theorem lay_texts : ∀ ts : List L, (∀ t ∈ ts, Asc t) → PyData.canLayAll0 (ts.map dS) = true
  | [], _ => rfl
  | t :: ts, h => by
    show (PyData.canLay0 (dS t) && PyData.canLayAll0 (ts.map dS)) = true
    rw [lay_texts ts fun u hu => h u (List.mem_cons_of_mem _ hu), Bool.and_true]
    show ((S t).cps.all fun c => decide (c < 0x110000)) = true
    rw [← Array.all_toList]
    rw [List.all_eq_true]
    intro c hc
    have := h t List.mem_cons_self c hc
    exact decide_eq_true (by omega)
theorem shaped_texts (ts : List L) (h : ∀ t ∈ ts, Asc t) : SeqAt.shaped (.list (ts.map dS)) = true := by
  unfold SeqAt.shaped
  have h1 : PyData.canLay0 (.list (ts.map dS)) = true := lay_texts ts h
  have h2 : PyData.depth (.list (ts.map dS)) = 1 := by
    show PyData.depthAll (ts.map dS) + 1 = 1
    rw [depth_texts]
  rw [h1, h2]
  rfl
theorem cut_mem : ∀ (n : Nat) (s : L), ∀ t ∈ Ln.cutN n s, ∀ c ∈ t, c ∈ s
  | 0, s, t, h => by simp [Ln.cutN] at h
  | n + 1, [], t, h => by simp [Ln.cutN] at h
  | n + 1, d :: cs, t, h => by
    have tw : ∀ p : Nat → Bool, ∀ c ∈ cs.takeWhile p, c ∈ cs := fun p c hc => (List.takeWhile_sublist p).subset hc
    have dw : ∀ p : Nat → Bool, ∀ c ∈ cs.dropWhile p, c ∈ cs := fun p c hc => (List.dropWhile_sublist p).subset hc
    have one : ∀ p : Nat → Bool, ∀ c ∈ d :: cs.takeWhile p, c ∈ d :: cs := fun p c hc => by
      rcases List.mem_cons.mp hc with h | h
      · exact h ▸ List.mem_cons_self
      · exact List.mem_cons_of_mem _ (tw p c h)
    unfold Ln.cutN at h
    split at h
    · rcases List.mem_cons.mp h with h | h
      · rw [h]; exact one _
      · exact fun c hc => List.mem_cons_of_mem _ (dw _ c (cut_mem n _ t h c hc))
    · split at h
      · rcases List.mem_cons.mp h with h | h
        · rw [h]; exact one _
        · exact fun c hc => List.mem_cons_of_mem _ (dw _ c (cut_mem n _ t h c hc))
      · split at h
        · rcases List.mem_cons.mp h with h | h
          · rw [h]; exact one _
          · exact fun c hc => List.mem_cons_of_mem _ (dw _ c (cut_mem n _ t h c hc))
        · split at h
          · exact fun c hc => List.mem_cons_of_mem _ (cut_mem n _ t h c hc)
          · rcases List.mem_cons.mp h with h | h
            · rw [h]
              intro c hc
              rw [List.mem_singleton.mp hc]
              exact List.mem_cons_self
            · exact fun c hc => List.mem_cons_of_mem _ (cut_mem n _ t h c hc)
theorem scan_asc {s : L} (h : Asc s) : ∀ t ∈ scan s, Asc t := fun t ht c hc => h c (by
  rw [Ln.scan_eq] at ht
  exact cut_mem _ _ t ht c hc)
theorem cut_len : ∀ (n : Nat) (s : L), (Ln.cutN n s).length ≤ s.length ∧ ∀ t ∈ Ln.cutN n s, t.length ≤ s.length
  | 0, s => by simp [Ln.cutN]
  | n + 1, [] => by simp [Ln.cutN]
  | n + 1, d :: cs => by
    have tw : ∀ p : Nat → Bool, (cs.takeWhile p).length ≤ cs.length := fun p => (List.takeWhile_sublist p).length_le
    have go : ∀ (p : Nat → Bool), ((d :: cs.takeWhile p) :: Ln.cutN n (cs.dropWhile p)).length ≤ (d :: cs).length ∧ ∀ t ∈ (d :: cs.takeWhile p) :: Ln.cutN n (cs.dropWhile p), t.length ≤ (d :: cs).length := fun p => by
      obtain ⟨h1, h2⟩ := cut_len n (cs.dropWhile p)
      have h3 := Ln.drop_le p cs
      refine ⟨by simp only [List.length_cons]; omega, fun t ht => ?_⟩
      rcases List.mem_cons.mp ht with h | h
      · rw [h]
        have := tw p
        simp only [List.length_cons]
        omega
      · have := h2 t h
        simp only [List.length_cons]
        omega
    unfold Ln.cutN
    split
    · exact go _
    · split
      · exact go _
      · split
        · exact go _
        · obtain ⟨h1, h2⟩ := cut_len n cs
          split
          · refine ⟨by simp only [List.length_cons]; omega, fun t ht => ?_⟩
            have := h2 t ht
            simp only [List.length_cons]
            omega
          · refine ⟨by simp only [List.length_cons]; omega, fun t ht => ?_⟩
            rcases List.mem_cons.mp ht with h | h
            · rw [h]
              simp
            · have := h2 t h
              simp only [List.length_cons]
              omega
theorem scan_len (s : L) : (scan s).length ≤ s.length ∧ ∀ t ∈ scan s, t.length ≤ s.length := by
  rw [Ln.scan_eq]
  exact cut_len _ _
theorem dec_S (a b : Nat) : decide (V.str (S [a]) = V.str (S [b])) = decide (a = b) := by
  rw [dec_str, cp_S, cp_S]
  simp
theorem in_a0 (g : Nat) : inV (.str (S [g])) [.str "a", .str "0"] = (g == 97 || g == 48) := by
  show (eqV (.str "a") (.str (S [g])) || (eqV (.str "0") (.str (S [g])) || false)) = _
  rw [sA, s0]
  have h : ∀ n : Nat, eqV (.str (S [n])) (.str (S [g])) = (g == n) := fun n => by
    have := eq_one (S [g]) n
    rw [cp_S] at this
    show eqV (.str ⟨#[n]⟩) (.str (S [g])) = _
    rw [this]
    simp
  rw [h, h, Bool.or_false]
section
variable {P : Program} {w : World} {K : PySem.W.Frag} {mg : Str → Option Value} {base : Heap} {C T I : Addr}
abbrev rAdd1 : R2 := fun x y H Q => ∃ i j, x = .str i ∧ y = .str j ∧ i.length + j.length ≤ sizeLine ∧ Q (.str (i ++ j)) H
def tScanIf (K : PySem.W.Frag) : TS := tIfS (tOr (tAnd (tTest (tOp rEq (tVar 4) (tVar 2))) (tTest (tOp (rIn K false) (tVar 4) (tTup (tCons (tC (.str "a")) (tCons (tC (.str "0")) tNil)))))) (tAnd (tTest (tOp rEq (tVar 4) (tC (.str "a")))) (tTest (tOp rEq (tVar 2) (tC (.str "'"))))))
  (tAsg (tOp rAdd1 (tOp (rIxL K) (tVar 1) (tUn (rU fun i => .int (-i)) (tC (.int 1)))) (tVar 3)) (gSub (tVar 1) (tUn (rU fun i => .int (-i)) (tC (.int 1))) rSetL))
  (tIfS (tTest (tOp rNe (tVar 3) (tC (.str " ")))) (tDrop (tBM K "list" rAppend (tVar 1) (tCons (tVar 3) tNil))) tNext)
theorem vl_app (a b : List L) : vl (a ++ b) = vl a ++ vl b := List.map_append
theorem ix_last {α : Type} (xs : List α) (v : α) : ixN (xs ++ [v]).length (-1) = some xs.length := by
  have hl : (xs ++ [v]).length = xs.length + 1 := by simp
  unfold ixN
  rw [hl, if_neg (by omega), if_pos (by omega)]
  congr 1
  omega
theorem scan_if {D : Ends} {x : Str} {p : Addr} {r d : Nat} {ts : List L} {y5 : Option V} {H0 H : Hp} {G : Str} (hG : G = S [grp d]) (hp : H0 p = none) (s1 : Same H0 H) (e : H p = some (.lst (vl ts))) (hne : r ≠ 32 → ts ≠ []) (hlen : ts.length ≤ 1000) (ht : ∀ t ∈ ts, t.length ≤ 1000)
    (k : ∀ H', Same H0 H' → H' p = some (.lst (vl (stepL (ts, r) d).1)) → D.nx [some (.str x), some (.ref p), some (.str (S [grp d])), some (.str ⟨#[d]⟩), some (.str G), y5] H') :
    tSeq (tScanIf K) (tAsg (tVar 4) (gName 2)) D [some (.str x), some (.ref p), some (.str (S [r])), some (.str ⟨#[d]⟩), some (.str G), y5] H := by
  subst hG
  have keep : ∀ {H2 : Hp} {o : HO}, Same H0 H2 → Same H0 (upd H2 p o) := fun s2 b o hb => by
    rw [upd_ne (ne_of_none hb hp)]
    exact s2 _ _ hb
  have yes : goes r d = true → ∀ H2, Same H H2 → tAsg (tOp rAdd1 (tOp (rIxL K) (tVar 1) (tUn (rU fun i => .int (-i)) (tC (.int 1)))) (tVar 3)) (gSub (tVar 1) (tUn (rU fun i => .int (-i)) (tC (.int 1))) rSetL) { D with nx := tAsg (tVar 4) (gName 2) D } [some (.str x), some (.ref p), some (.str (S [r])), some (.str ⟨#[d]⟩), some (.str (S [grp d])), y5] H2 := by
    intro hg H2 s2
    have r32 : r ≠ 32 := fun z => by rw [z] at hg; rw [Ln.goes_other (by decide) (by decide) (by decide)] at hg; cases hg
    have e2 := s2 _ _ e
    rcases List.eq_nil_or_concat ts with h | ⟨us, t, h⟩
    · exact absurd h (hne r32)
    · rw [List.concat_eq_append] at h
      subst h
      have ht1 := ht t (by simp)
      have ev : vl (us ++ [t]) = vl us ++ [.str (S t)] := vl_app us [t]
      have est : (stepL (us ++ [t], r) d).1 = us ++ [t ++ [d]] := by
        unfold stepL
        rw [if_pos hg]
        exact Ln.addLast_snoc us t d
      refine ⟨.ref p, rfl, 1, rfl, p, _, -1, .str (S t), rfl, rfl, SqL.of e2, by rw [ev]; exact atI_last _ _, .str ⟨#[d]⟩, rfl, S t, S [d], rfl, rfl, ?_, .ref p, rfl, 1, rfl, p, _, -1, (vl us).length, rfl, rfl, e2, by rw [ev]; exact ix_last _ _, ?_⟩
      · rw [S_len, S_len]
        have := sz 100000 (Nat.le_refl _)
        simp
        omega
      · refine ⟨_, rfl, k _ (keep (s1.trans s2)) ?_⟩
        rw [upd_same, est, ev, S_app, vl_app]
        congr 2
        rw [List.set_append_right _ _ (Nat.le_refl _), Nat.sub_self]
        rfl
  have no : goes r d = false → ∀ H2, Same H H2 → tIfS (tTest (tOp rNe (tVar 3) (tC (.str " ")))) (tDrop (tBM K "list" rAppend (tVar 1) (tCons (tVar 3) tNil))) tNext { D with nx := tAsg (tVar 4) (gName 2) D } [some (.str x), some (.ref p), some (.str (S [r])), some (.str ⟨#[d]⟩), some (.str (S [grp d])), y5] H2 := by
    intro hg H2 s2
    have e2 := s2 _ _ e
    refine ⟨_, rfl, rfl, _, rfl, ?_⟩
    rw [sB, one_str d 32 rfl]
    by_cases h32 : d = 32
    · rw [decide_eq_true h32]
      have est : (stepL (ts, r) d).1 = ts := by
        unfold stepL
        rw [if_neg (by rw [hg]; decide), if_pos h32]
      exact iteF ⟨_, rfl, k _ (s1.trans s2) (by rw [est]; exact e2)⟩
    · rw [decide_eq_false h32]
      have est : (stepL (ts, r) d).1 = ts ++ [[d]] := by
        unfold stepL
        rw [if_neg (by rw [hg]; decide), if_neg h32]
      refine iteT ⟨.ref p, rfl, .inl ⟨rfl, _, SqL.of e2⟩, _, rfl, p, vl ts, _, rfl, rfl, e2, ?_, ⟨_, rfl, k _ (keep (s1.trans s2)) ?_⟩⟩
      · unfold vl
        rw [List.length_map]
        exact Nat.lt_of_lt_of_le (by omega : _ < 100000) (sz _ (Nat.le_refl _))
      · rw [upd_same, est, vl_app]
        rfl
  -- the test
  have hgo : goes r d = ((grp d == r && (grp d == 97 || grp d == 48)) || (grp d == 97 && r == 39)) := rfl
  have second : (grp d == r && (grp d == 97 || grp d == 48)) = false → ∀ H2, Same H H2 → tAnd (tTest (tOp rEq (tVar 4) (tC (.str "a")))) (tTest (tOp rEq (tVar 2) (tC (.str "'")))) [some (.str x), some (.ref p), some (.str (S [r])), some (.str ⟨#[d]⟩), some (.str (S [grp d])), y5] H2 fun b H1 =>
      if b = true then tAsg (tOp rAdd1 (tOp (rIxL K) (tVar 1) (tUn (rU fun i => .int (-i)) (tC (.int 1)))) (tVar 3)) (gSub (tVar 1) (tUn (rU fun i => .int (-i)) (tC (.int 1))) rSetL) { D with nx := tAsg (tVar 4) (gName 2) D } [some (.str x), some (.ref p), some (.str (S [r])), some (.str ⟨#[d]⟩), some (.str (S [grp d])), y5] H1
      else tIfS (tTest (tOp rNe (tVar 3) (tC (.str " ")))) (tDrop (tBM K "list" rAppend (tVar 1) (tCons (tVar 3) tNil))) tNext { D with nx := tAsg (tVar 4) (gName 2) D } [some (.str x), some (.ref p), some (.str (S [r])), some (.str ⟨#[d]⟩), some (.str (S [grp d])), y5] H1 := by
    intro h1 H2 s2
    rw [h1, Bool.false_or] at hgo
    refine ⟨_, rfl, rfl, _, rfl, ?_⟩
    rw [sA, dec_S]
    by_cases ha : grp d = 97
    · rw [decide_eq_true ha]
      refine iteT ⟨_, rfl, rfl, _, rfl, ?_⟩
      rw [sQ, dec_S]
      by_cases hr : r = 39
      · rw [decide_eq_true hr]
        exact iteT (yes (by rw [hgo, ha, hr]; rfl) H2 s2)
      · rw [decide_eq_false hr]
        exact iteF (no (by rw [hgo, show (r == 39) = false by simp [hr], Bool.and_false]) H2 s2)
    · rw [decide_eq_false ha]
      exact iteF (iteF (no (by rw [hgo, show (grp d == 97) = false by simp [ha], Bool.false_and]) H2 s2))
  refine ⟨_, rfl, _, rfl, rfl, _, rfl, ?_⟩
  rw [dec_S]
  by_cases hgr : grp d = r
  · rw [decide_eq_true hgr]
    refine iteT ⟨_, rfl, sz 2 (by decide), fun tp ntp => ?_⟩
    have s2 := same_upd (o := .tup [.str "a", .str "0"]) ntp
    refine ⟨tp, _, rfl, .inr (SqT.of upd_same), rfl, rfl, _, rfl, ?_⟩
    show (if inV (.str (S [grp d])) [.str "a", .str "0"] = true then _ else _)
    rw [in_a0]
    cases h2 : (grp d == 97 || grp d == 48) with
    | true => exact iteT (iteT (yes (by rw [hgo, h2, show (grp d == r) = true by simp [hgr]]; rfl) _ s2))
    | false => exact iteF (second (by rw [h2, Bool.and_false]) _ s2)
  · rw [decide_eq_false hgr]
    exact iteF (iteF (second (by rw [show (grp d == r) = false by simp [hgr], Bool.false_and]) H (Same.refl H)))
/-- what runs so far: no blank, then something was found -/
theorem fold_ne : ∀ (l : L) (s : List L × Nat), (s.2 ≠ 32 → s.1 ≠ []) → ((l.foldl stepL s).2 ≠ 32 → (l.foldl stepL s).1 ≠ [])
  | [], _, h => h
  | c :: l, s, h => by
    rw [List.foldl_cons]
    refine fold_ne l _ ?_
    unfold stepL
    split
    · intro _
      unfold addLast
      simp
    · split
      · rename_i h32
        subst h32
        intro z
        exact absurd rfl z
      · intro _
        simp
theorem fold_snd : ∀ (l : L) (s : List L × Nat) (c : Nat), (((l ++ [c]).foldl stepL s)).2 = grp c := fun l s c => by
  rw [List.foldl_append]
  show (stepL _ c).2 = grp c
  unfold stepL
  split
  · rfl
  · split <;> rfl
end
section
variable {P : Program} {w : World} {K : PySem.W.Frag} {mg : Str → Option Value} {base : Heap} {C T I : Addr}
def spScan : Sp := fun vs H Q _ => ∃ x : Str, vs = [.str x] ∧ x.length ≤ 1000 ∧ Asc (cp x) ∧ ((scan (cp x)).all good = true → ∀ H' p, Same H H' → H p = none → H' p = some (.lst (vl (scan (cp x)))) → Q (.ref p) H') ∧ ((scan (cp x)).all good = false → ∀ H', Same H H' → Q .non H')
theorem filter_nil {l : List L} : decide (l.filter (fun t => !good t) = []) = l.all good := by
  rw [Bool.eq_iff_iff, decide_eq_true_iff, List.filter_eq_nil_iff, List.all_eq_true]
  simp
theorem filter_take' (p : L → Bool) (l : List L) (i : Nat) (c : L) (h : l[i]? = some c) : (l.take (i + 1)).filter p = (l.take i).filter p ++ (if p c then [c] else []) := by
  have hi := (List.getElem?_eq_some_iff.mp h).1
  have e : l[i] = c := (List.getElem?_eq_some_iff.mp h).2
  rw [List.take_succ_eq_append_getElem hi, List.filter_append, e]
  congr 1
  rw [List.filter_cons]
  simp
theorem scan_ne {s : L} : ∀ t ∈ scan s, t ≠ [] := fun t ht => by
  rw [Ln.scan_eq] at ht
  have := Ln.cut_raw _ _ t ht
  cases this <;> simp
theorem ok_scan {f fG : Addr} {fd dG : FuncData} (F : Fun K "_law_scanned" "_law_scanned" sScan f fd) (kG : PySem.W.keepIn K (.ref fG) = true) (GG : FnOk P w K mg base CX0 1 fG dG ["_law_token_here"] spGood) (bG : Binds K dG ["_law_token_here"] []) (gG : mg "_law_good" = some (.ref fG)) :
    FnOk P w K mg base CX0 2 f fd ["_law_line_here"] spScan := by
  refine F.ok scScan (fun vs H Q E h => ?_) (fun cdv A outer s H vs Q E hr h => ?_)
  · obtain ⟨x, rfl, _⟩ := h
    rfl
  · obtain ⟨x, rfl, hz, ha, q1, q2⟩ := h
    have nd := scScan.nd
    refine ⟨_, pss_cons (ps_par (i := 1) (j := 2) rfl nd rfl rfl (by decide) rfl rfl (pa_cons (pe_lst pa_nil) (pa_cons pe_str pa_nil)) (by rfl))
      (pss_cons (ps_for PassesOwn.never rfl (pi_str (pv 0)) (pg_name (i := 3) nd rfl (.inl rfl))
        (pss_cons (ps_set (i := 4) nd rfl (.inl rfl) (pe_ifExp (pt_chain op_le_str op_le_str pe_str (pv 3) pe_str) pe_str (pe_ifExp (pt_chain op_le_str op_le_str pe_str (pv 3) pe_str) pe_str (pv 3))))
        (pss_cons (ps_if (PW.pt (pw_or (PW.pt (pw_and (pt_cmpR op_eq (pv 4) (pv 2) (nomark _)) (pw_and1 (pt_cmpR op_in_seq (pv 4) (pe_tup (pa_cons pe_str (pa_cons pe_str pa_nil))) (by rfl))))) (pw_or1 (PW.pt (pw_and (pt_cmpR op_eq (pv 4) pe_str (nomark _)) (pw_and1 (pt_cmpR op_eq (pv 2) pe_str (nomark _))))))))
            (pss_one (ps_asg (pe_op op_add_str (pe_ix ix_list (pv 1) (pe_un un_neg pe_int) (fun _ _ => rfl)) (pv 3)) (pg_sub (pv 1) (pe_un un_neg pe_int) set_list)))
            (pss_one (ps_if (pt_cmpR op_ne (pv 3) pe_str (nomark _)) (pss_one (ps_expr (pe_bm PySem.F.plainAttrs_list PySem.F.slot_list_append PySem.F.type_list_append mt_append (pv 1) (pa_cons (pv 3) pa_nil)))) pss_nil)))
        (pss_one (ps_set (i := 2) nd rfl (.inl rfl) (pv 4))))))
      (pss_one (ps_ret (pe_ifExp (pt_cmpR (op_eqD hr.units) (pe_lc (own := [("_law_token_here", 5)]) (g := gName 5) (tt := tNot (tB (tCall spGood [] E0 (tCons (tVar 5) tNil)))) rfl nd (pi_list (pv 1)) (blkOk_by (own := [("_law_token_here", 5)]) (N := nSc) (sc := defScope sScan) (by decide +kernel))
          (fun _ _ _ _ _ => pg_name (i := 5) nd rfl (Or.inl rfl)) (fun _ _ _ _ _ => pts_one (pt_not (pt_val (pe_call GG hr (by rfl) gG kG bG .nil pass0 (pa_cons (pv 5) pa_nil))))) (fun _ _ _ _ _ => pv 5)) (pe_lst pa_nil) (nomark _)) (pv 1) pe_non)))), ?_⟩
    refine ⟨Nat.zero_le _, fun p np => ⟨_, _, rfl, ?_⟩⟩
    have s0 := same_upd (o := .lst []) np
    refine ⟨.str x, rfl, x, rfl, ?_⟩
    have hlen := cp_len x
    refine for_it walk_str (fun i σ H' => ∃ y3 y4 : Option V, σ = [some (.str x), some (.ref p), some (.str (S [(((cp x).take i).foldl stepL ([], 32)).2])), y3, y4, none] ∧ Same H H' ∧ H' p = some (.lst (vl (scan ((cp x).take i))))) ⟨none, none, ?_, s0, upd_same⟩ (fun _ _ _ _ _ => trivial) ?_ ?_
    · rw [sB]
      rfl
    · rintro i y σ H1 H2 hi ⟨y3, y4, rfl, s1, ep⟩ ⟨rfl, d, hd, rfl⟩
      have hd2 : (cp x)[i]? = some d := by
        unfold cp
        rw [Array.getElem?_toList]
        exact hd
      have hi2 : i < (cp x).length := (List.getElem?_eq_some_iff.mp hd2).1
      have etk : (cp x).take (i + 1) = (cp x).take i ++ [d] := by
        rw [List.take_succ_eq_append_getElem hi2, (List.getElem?_eq_some_iff.mp hd2).2]
      obtain ⟨hl1, hl2⟩ := scan_len ((cp x).take i)
      have hti : ((cp x).take i).length ≤ 1000 := by
        rw [List.length_take]
        omega
      have hne := fold_ne ((cp x).take i) ([], 32) fun z => absurd rfl z
      have kk : ∀ (y5 : Str) H', Same H H' → H' p = some (.lst (vl (stepL (scan ((cp x).take i), (((cp x).take i).foldl stepL ([], 32)).2) d).1)) →
          ∃ y3 y4 : Option V, [some (V.str x), some (.ref p), some (.str (S [grp d])), some (.str ⟨#[d]⟩), some (.str y5), none] = [some (.str x), some (.ref p), some (.str (S [(((cp x).take (i + 1)).foldl stepL ([], 32)).2])), y3, y4, none] ∧ Same H H' ∧ H' p = some (.lst (vl (scan ((cp x).take (i + 1))))) := fun y5 H' s' e' => by
        refine ⟨some (.str ⟨#[d]⟩), some (.str y5), ?_, s', ?_⟩
        · rw [etk, fold_snd]
        · rw [e']
          unfold Ln.scan
          rw [etk, List.foldl_append]
          rfl
      have go : ∀ (D : Ends) (G : Str), G = S [grp d] → (∀ H', Same H H' → H' p = some (.lst (vl (stepL (scan ((cp x).take i), (((cp x).take i).foldl stepL ([], 32)).2) d).1)) → D.nx [some (.str x), some (.ref p), some (.str (S [grp d])), some (.str ⟨#[d]⟩), some (.str G), none] H') →
          tSeq (tScanIf K) (tAsg (tVar 4) (gName 2)) D [some (.str x), some (.ref p), some (.str (S [(((cp x).take i).foldl stepL ([], 32)).2])), some (.str ⟨#[d]⟩), some (.str G), none] H2 := fun D G hG k =>
        scan_if hG np s1 ep hne (by omega) (fun t ht => by have := hl2 t ht; omega) k
      refine ⟨_, rfl, _, _, rfl, rfl, _, rfl, ?_⟩
      rw [sA, ge_letter]
      cases hl : isLet d with
      | true =>
        have hl2' := hl
        unfold isLet at hl2'
        simp only [Bool.and_eq_true, decide_eq_true_eq] at hl2'
        rw [decide_eq_true hl2'.1]
        refine iteT ⟨_, _, rfl, rfl, _, rfl, ?_⟩
        rw [sZ, le_letter, decide_eq_true hl2'.2]
        refine iteT ?_
        exact go _ _ (by rw [Ln.let_grp hl]) (kk _)
      | false =>
        have h2 : 97 ≤ d → ¬ d ≤ 122 := fun h1 h2 => by
          unfold isLet at hl
          rw [decide_eq_true h1, decide_eq_true h2] at hl
          cases hl
        rcases Decidable.em (97 ≤ d) with h1 | h1
        all_goals first
          | (rw [decide_eq_true h1]; refine iteT ⟨_, _, rfl, rfl, _, rfl, ?_⟩; rw [sZ, le_letter, decide_eq_false (h2 h1)]; refine iteF ?_)
          | (rw [decide_eq_false h1]; refine iteF ⟨_, rfl, iteF ?_⟩)
        all_goals
          refine ⟨_, rfl, _, _, rfl, rfl, _, rfl, ?_⟩
          rw [K2.s0, ge_letter]
          cases hf : isFig d with
          | true =>
            have hf2 := hf
            unfold isFig at hf2
            simp only [Bool.and_eq_true, decide_eq_true_eq] at hf2
            rw [decide_eq_true hf2.1]
            refine iteT ⟨_, _, rfl, rfl, _, rfl, ?_⟩
            rw [s9, le_letter, decide_eq_true hf2.2]
            refine iteT ?_
            exact go _ _ (by rw [Ln.fig_grp hf]) (kk _)
          | false =>
            have h4 : 48 ≤ d → ¬ d ≤ 57 := fun h3 h4 => by
              unfold isFig at hf
              rw [decide_eq_true h3, decide_eq_true h4] at hf
              cases hf
            have hg : grp d = d := by
              unfold grp
              rw [hl, hf]
              rfl
            rcases Decidable.em (48 ≤ d) with h3 | h3
            all_goals first
              | (rw [decide_eq_true h3]; refine iteT ⟨_, _, rfl, rfl, _, rfl, ?_⟩; rw [s9, le_letter, decide_eq_false (h4 h3)]; refine iteF ?_)
              | (rw [decide_eq_false h3]; refine iteF ⟨_, rfl, iteF ?_⟩)
            all_goals
              refine ⟨_, rfl, ?_⟩
              exact go _ _ (by rw [hg]; rfl) (kk _)
    · rintro σ H1 ⟨y3, y4, rfl, s1, ep⟩
      have et : (cp x).take x.cps.size = cp x := List.take_of_length_le (by rw [hlen]; exact Nat.le_refl _)
      rw [et] at ep
      obtain ⟨hl1, hl2⟩ := scan_len (cp x)
      have hasc := scan_asc ha
      have nlen : (vl (scan (cp x))).length = (scan (cp x)).length := by unfold vl; rw [List.length_map]
      refine ⟨.ref p, rfl, p, rfl, ⟨_, SqL.of ep⟩, fun D nD => ?_⟩
      refine lc_it (walk_list (K := K) (a := p) (xs := vl (scan (cp x)))) (fun i H' => Same H1 H' ∧ H' D = some (.lst (vl (((scan (cp x)).take i).filter fun t => !good t)))) ⟨same_upd nD, by rw [upd_same]; rfl⟩ (fun i H' _ h => SqL.of (h.1 _ _ ep)) ?_ ?_
      · rintro i y H2 H3 hi ⟨s2, eD⟩ ⟨rfl, hy⟩
        obtain ⟨t, ht⟩ : ∃ t, (scan (cp x))[i]? = some t := ⟨_, List.getElem?_eq_getElem (by omega)⟩
        have hy2 : y = .str (S t) := by
          have : (vl (scan (cp x)))[i]? = some (.str (S t)) := by unfold vl; rw [List.getElem?_map, ht]; rfl
          rw [this] at hy
          exact (Option.some.inj hy).symm
        subst hy2
        have htm := List.mem_of_getElem? ht
        have htl := hl2 t htm
        have ef := filter_take' (fun t => !good t) (scan (cp x)) i t ht
        match et2 : t, scan_ne t htm with
        | c :: cs, _ =>
          refine ⟨rfl, .str (S (c :: cs)), rfl, S (c :: cs), c, cs, rfl, by rw [S_len]; omega, rfl, fun H4 s4 => ⟨_, rfl, ?_⟩⟩
          rw [cp_S]
          cases hg : good (c :: cs) with
          | true =>
            refine iteF ⟨s2.trans s4, ?_⟩
            rw [ef, hg]
            simp only [Bool.not_true, Bool.false_eq_true, ↓reduceIte, List.append_nil]
            exact s4 _ _ eD
          | false =>
            refine iteT ⟨_, rfl, _, s4 _ _ eD, ?_, fun b o hb => ?_, ?_⟩
            · unfold vl
              rw [List.length_map]
              have h1 : (((scan (cp x)).take i).filter fun t => !good t).length ≤ (scan (cp x)).length := Nat.le_trans (List.length_filter_le _ _) (by rw [List.length_take]; omega)
              exact Nat.lt_of_lt_of_le (by omega : _ < 100000) (sz _ (Nat.le_refl _))
            · rw [upd_ne (ne_of_none hb nD)]
              exact s4 _ _ (s2 _ _ hb)
            · rw [upd_same, ef, hg, vl_app]
              rfl
      · rintro H2 ⟨s2, eD⟩
        rw [nlen, List.take_length] at eD
        refine ⟨Nat.zero_le _, fun q nq => ?_⟩
        have s3 := same_upd (o := .lst []) nq
        have hf : ∀ t ∈ (scan (cp x)).filter (fun t => !good t), Asc t := fun t ht => hasc t (List.mem_filter.mp ht).1
        refine ⟨.list (((scan (cp x)).filter fun t => !good t).map dS), .list [], .lst (SqL.of (s3 _ _ eD)) (dS_all _), .lst (SqL.of upd_same) .nil, shaped_texts _ hf, by decide +kernel, _, rfl, ?_⟩
        have ev : PyData.eqv (.list (((scan (cp x)).filter fun t => !good t).map dS)) (.list []) = (scan (cp x)).all good := by
          rw [← filter_nil]
          exact eqv_texts _ []
        rw [ev]
        cases hb : (scan (cp x)).all good with
        | true => exact iteT ⟨.ref p, rfl, q1 hb _ p ((s1.trans s2).trans s3) np (s3 _ _ (s2 _ _ ep))⟩
        | false => exact iteF (q2 hb _ ((s1.trans s2).trans s3))
end
end K2

set_option Elab.async false
set_option linter.all false
set_option maxRecDepth 100000
set_option maxHeartbeats 8000000
/-! k02: what is drawn -/
namespace K2
open PySem PySem.Spec PyProof.Rows L2 EL LW
open Ln (L isLet isFig isTok isNum isWord isSign isQuoted isRun)
open PySem.EV (ErrC ErrI)
abbrev sNumD : Stmt := topS 33
abbrev sTokD : Stmt := topS 34
abbrev sWild : Stmt := topS 40
abbrev nWi : List Str := ["_law_purse_here", "_law_some", "_law_menu", "_law_turn"]
theorem scNumD : FnScope ["_law_purse_here", "_law_size", "_law_turn"] ["_law_purse_here"] (defScope sNumD) := ⟨rfl, rfl, rfl, by decide +kernel, rfl, by decide +kernel, by decide +kernel⟩
theorem scTokD : FnScope ["_law_purse_here", "_law_way"] ["_law_purse_here"] (defScope sTokD) := ⟨rfl, rfl, rfl, by decide +kernel, rfl, by decide +kernel, by decide +kernel⟩
theorem scWild : FnScope nWi ["_law_purse_here"] (defScope sWild) := ⟨rfl, rfl, rfl, by decide +kernel, rfl, by decide +kernel, by decide +kernel⟩
def oneS (c : Nat) : Str := ⟨#[c]⟩
def ones (cs : L) : List V := cs.map fun c => V.str (oneS c)
theorem joinL_flat : ∀ ps : List (List Nat), TL.joinL [] ps = ps.flatten
  | [] => rfl
  | [p] => by simp [TL.joinL]
  | p :: q :: r => by
    have ih := joinL_flat (q :: r)
    show p ++ ([] ++ TL.joinL [] (q :: r)) = _
    rw [ih]
    simp
theorem join_one (cs : L) : Txt.join "" (cs.map oneS) = S cs := cp_inj (by
  rw [cp_S]
  show TL.tl _ = _
  rw [TL.join_eq, TL.tl_join, List.map_map]
  show TL.joinL [] (cs.map fun c => [c]) = cs
  rw [joinL_flat]
  induction cs with
  | nil => rfl
  | cons c cs ih => rw [List.map_cons, List.flatten_cons, ih]; rfl)
theorem ones_map (cs : L) : ones cs = (cs.map oneS).map V.str := by
  unfold ones
  rw [List.map_map]
  rfl
theorem ones_len (cs : L) : ((cs.map oneS).map (·.length)).sum = cs.length := by
  rw [List.map_map]
  induction cs with
  | nil => rfl
  | cons c cs ih => rw [List.map_cons, List.sum_cons, ih, List.length_cons, show ((fun x : Str => x.length) ∘ oneS) c = 1 from rfl]; omega
section
variable {Qd : Hp → Prop}
/-- [z[draw(purse, len z)] for turn in range(k)] -/
theorem draw_lc {vs : List Nat} {σ : L2.St} {j : Nat} {H1 : Hp} {D a : Addr} {n k : Nat} {z : Str} {tz tp tm : TE} (nD : H1 D = none) (aD : a ≠ D) (hP : Prs H1 a n) (hn : n + k < 2 ^ 39) (z0 : 0 < z.length) (z1 : z.length ≤ 1000) (hk : k ≤ 1000)
    (hσ : ∀ i : Nat, wipe ((wipe σ vs).set j (some (.int (0 + (i : Int))))) vs = wipe σ vs)
    (rz : ∀ (i : Nat) (H' : Hp) (Q' : VK), Q' (.str z) H' → tz ((wipe σ vs).set j (some (.int (0 + (i : Int))))) H' Q') (rp : ∀ (i : Nat) (H' : Hp) (Q' : VK), Q' (.ref a) H' → tp ((wipe σ vs).set j (some (.int (0 + (i : Int))))) H' Q')
    (rm : ∀ (i : Nat) (H' : Hp) (Q' : VK), Q' (.int (z.length : Int)) H' → tm ((wipe σ vs).set j (some (.int (0 + (i : Int))))) H' Q')
    (hd : ∀ (H' : Hp) (cs : L), cs.length = k → (∀ c ∈ cs, c ∈ cp z) → Keep a H1 H' → H' D = some (.lst (ones cs)) → Prs H' a (n + k) → Qd H') :
    ∃ W : Nat → Nat → Hp → Prop, (∃ m, W 0 m (upd H1 D (.lst []))) ∧ ∀ i m H, W i m H →
      ((Itr 0 k).stop i H ∧ Qd H) ∨ ((Itr 0 k).go i H ∧ ∃ Nx : Hp → Prop, (∀ H', Nx H' → ∃ m', m' < m ∧ W (i + 1) m' H') ∧ ∀ x H', (Itr 0 k).yld i H x H' → gName j x (wipe σ vs) H' fun σ2 H2 => wipe σ2 vs = wipe σ vs ∧ tYes σ2 H2 fun b H3 =>
        if b = true then tOp rIxS tz (tCall spDraw [] E0 (tCons tp (tCons tm tNil))) σ2 H3 fun y H4 => ∃ acc, H4 D = some (.lst acc) ∧ acc.length < sizeLine ∧ Nx (upd H4 D (.lst (acc ++ [y]))) else Nx H3) := by
  refine lc_range (lo := 0) (n := k) (fun i H' => ∃ cs : L, cs.length = i ∧ (∀ c ∈ cs, c ∈ cp z) ∧ Keep a H1 H' ∧ H' D = some (.lst (ones cs)) ∧ Prs H' a (n + i)) ⟨[], rfl, by simp, (same_upd nD).keep, upd_same, hP.same (same_upd nD)⟩ ?_ ?_
  · rintro i H3 hi ⟨cs, el, hc, k3, eD, P3⟩
    refine ⟨hσ i, lc_turn ?_⟩
    refine rz i _ _ (rp i _ _ (rm i _ _ ⟨a, (z.length : Int), n + i, rfl, P3, by omega, by omega, by omega, fun r4 H4 h40 h41 k4 P4 => ?_⟩))
    have hr : r4.toNat < (cp z).length := by rw [cp_len]; omega
    obtain ⟨c, hcz⟩ : ∃ c, (cp z)[r4.toNat]? = some c := ⟨_, List.getElem?_eq_getElem hr⟩
    have g : atI z.cps.toList r4 = some c := by
      have := cp_at hcz
      rw [show ((r4.toNat : Nat) : Int) = r4 by omega] at this
      exact this
    refine ⟨z, r4, c, rfl, rfl, sz _ (by omega), g, ones cs, k4 _ _ aD.symm eD, ?_, cs ++ [c], ?_, ?_, ?_, ?_, ?_⟩
    · unfold ones
      rw [List.length_map]
      exact Nat.lt_of_lt_of_le (by omega : _ < 100000) (sz _ (Nat.le_refl _))
    · rw [List.length_append, el]
      rfl
    · intro d hd'
      rw [List.mem_append, List.mem_singleton] at hd'
      rcases hd' with h | rfl
      · exact hc d h
      · exact List.mem_of_getElem? hcz
    · intro b o hb hbo
      have hbD : b ≠ D := ne_of_none hbo nD
      rw [upd_ne hbD]
      exact k4 _ _ hb (k3 _ _ hb hbo)
    · rw [upd_same]
      unfold ones
      rw [List.map_append]
      rfl
    · exact (P4.more (by omega)).keep keep_upd aD
  · rintro H3 ⟨cs, el, hc, k3, eD, P3⟩
    exact hd H3 cs el hc k3 eD P3
end
theorem run_tok {p : Nat → Bool} {t : L} (h1 : 1 ≤ t.length) (h2 : t.length ≤ 8) (h3 : ∀ d ∈ t, p d = true) : isRun p t = true := by
  unfold isRun
  rw [decide_eq_true h1, decide_eq_true h2, List.all_eq_true.mpr h3]
  rfl
theorem word_tok {t : L} (h : isWord t = true) : isTok t = true := by
  unfold isTok
  rw [h]
  simp
theorem num_tok {t : L} (h : isNum t = true) : isTok t = true := by
  unfold isTok
  rw [h]
  simp
theorem quoted_tok {t : L} (h : isQuoted t = true) : isTok t = true := by
  unfold isTok
  rw [h]
  simp
theorem letters_word {x : Str} (h1 : 1 ≤ x.length) (h8 : x.length ≤ 8) (hl : Letters x) : isWord (cp x) = true :=
  run_tok (by rw [cp_len]; exact h1) (by rw [cp_len]; exact h8) fun d hd => by
    obtain ⟨a, b⟩ := hl d hd
    unfold isLet
    rw [decide_eq_true a, decide_eq_true b]
    rfl
theorem aD_of {H : Hp} {a D : Addr} {n : Nat} (h : Prs H a n) (nD : H D = none) : a ≠ D := fun e => by
  obtain ⟨p', q', t', i', e', _⟩ := h
  rw [← e, e'] at nD
  cases nD
section
variable {P : Program} {w : World} {K : PySem.W.Frag} {mg : Str → Option Value} {base : Heap} {C T I : Addr}
/-- a drawn token -/
def spDrawn (B m : Nat) : Sp := fun vs H Q _ => ∃ (a : Addr) (n : Nat), vs = [.ref a] ∧ Prs H a n ∧ n < B ∧ ∀ (x : Str) H', isTok (cp x) = true → Keep a H H' → Prs H' a (n + m) → Q (.str x) H'
theorem ok_numD {f fD : Addr} {fd fdD : FuncData} (F : Fun K "_law_number" "_law_number" sNumD f fd) (kD : PySem.W.keepIn K (.ref fD) = true) (GD : FnOk P w K mg base CX0 2 fD fdD ["_law_purse_here", "_law_many"] spDraw) (bD : Binds K fdD ["_law_purse_here", "_law_many"] []) (gD : mg "_law_draw" = some (.ref fD)) (mr : mg "range" = none) :
    FnOk P w K mg base CX0 3 f fd ["_law_purse_here"] (spDrawn (2 ^ 30) 12) := by
  refine F.ok scNumD (fun vs H Q E h => ?_) (fun cdv A outer s H vs Q E hr h => ?_)
  · obtain ⟨a, n, rfl, _⟩ := h
    rfl
  · obtain ⟨a, n, rfl, hP, hn, q⟩ := h
    have nd := scNumD.nd
    refine ⟨_, pss_cons (ps_set (i := 1) nd rfl (.inl rfl) (pe_call GD hr (by rfl) gD kD bD .nil pass0 (pa_cons (pv 0) (pa_cons pe_int pa_nil))))
      (pss_cons (ps_if (pt_cmpR op_eq (pe_call GD hr (by rfl) gD kD bD .nil pass0 (pa_cons (pv 0) (pa_cons pe_int pa_nil))) pe_int (nomark _)) (pss_one (ps_ret pe_str)) pss_nil)
      (pss_one (ps_ret (pe_op op_add_str (pe_ix ix_str pe_str (pe_call GD hr (by rfl) gD kD bD .nil pass0 (pa_cons (pv 0) (pa_cons pe_int pa_nil))) (fun _ _ => rfl))
        (pe_join pe_str (pe_lc (own := [("_law_turn", 2)]) (g := gName 2) (tt := tYes) rfl nd (pi_range1 rfl mr (pa_cons (pv 1) pa_nil)) (blkOk_by (own := [("_law_turn", 2)]) (N := ["_law_purse_here", "_law_size", "_law_turn"]) (sc := defScope sNumD) (by decide +kernel))
          (fun _ _ _ _ _ => pg_name (i := 2) nd rfl (Or.inl rfl)) (fun _ _ _ _ _ => pts_nil) (fun _ _ _ _ _ => pe_ix ix_str pe_str (pe_call GD hr (by rfl) gD kD bD .nil pass0 (pa_cons (pv 0) (pa_cons pe_int pa_nil))) (fun _ _ => rfl)))))))), ?_⟩
    refine ⟨.ref a, rfl, a, 8, n, rfl, hP, by omega, by decide, by decide, fun r1 H1 h10 h11 k1 P1 => ?_⟩
    refine ⟨.ref a, rfl, a, 5, n + 1, rfl, P1, by omega, by decide, by decide, fun r2 H2 h20 h21 k2 P2 => ⟨rfl, _, rfl, ite2 (fun c => ?_) (fun c => ?_)⟩⟩
    · exact q _ _ (by decide +kernel) (k1.trans k2) (P2.more (by omega))
    · refine ⟨.ref a, rfl, a, 9, n + 1 + 1, rfl, P2, by omega, by decide, by decide, fun r3 H3 h30 h31 k3 P3 => ?_⟩
      have g3 : atI (Str.ofString "123456789").cps.toList r3 = some (49 + r3.toNat) := by
        have ht : ∀ i : Nat, i < 9 → (Str.ofString "123456789").cps.toList[i]? = some (49 + i) := by decide +kernel
        have := atI_nat (xs := (Str.ofString "123456789").cps.toList) (j := r3.toNat) (ht r3.toNat (by omega))
        rw [show ((r3.toNat : Nat) : Int) = r3 by omega] at this
        exact this
      refine ⟨_, r3, 49 + r3.toNat, rfl, rfl, by rw [sizeLine_eq]; decide, g3, ⟨_, rfl⟩, _, rfl, _, rfl, by show -(2 ^ 62) ≤ r1; omega, by show r1 < 2 ^ 62; omega, fun D nD => ?_⟩
      have aD := aD_of P3 nD
      refine draw_lc (k := r1.toNat) (z := figS) nD aD P3 (by omega) (by decide) (by decide) (by omega) (fun i => rfl) (fun i H' Q' q' => q') (fun i H' Q' q' => ⟨_, rfl, q'⟩) (fun i H' Q' q' => q') fun H4 cs hl hc k4 eD P4 => ?_
      refine ⟨_, D, cs.map oneS, rfl, rfl, .inl (SqL.of (by rw [← ones_map]; exact eD)), ?_, ?_⟩
      · rw [ones_len, show (Str.ofString "").length = 0 from rfl]
        omega
      · rw [join_one]
        refine ⟨oneS (49 + r3.toNat), S cs, rfl, rfl, ?_, ?_⟩
        · rw [S_len]
          have := sz 100000 (Nat.le_refl _)
          show 1 + cs.length ≤ _
          omega
        · rw [show oneS (49 + r3.toNat) = S [49 + r3.toNat] from rfl, S_app]
          refine q _ _ ?_ (((k1.trans k2).trans k3).trans k4) (P4.more (by omega))
          rw [cp_S]
          refine num_tok ?_
          unfold isNum
          rw [run_tok (p := isFig) (by simp) (by simp; omega) ?_]
          · simp
            omega
          · intro d hd
            rcases List.mem_append.mp hd with h | h
            · rw [List.mem_singleton.mp h]
              unfold isFig
              simp
              omega
            · have := hc d h
              rw [← mem_fig]
              exact decide_eq_true this
end
end K2

set_option Elab.async false
set_option linter.all false
set_option maxRecDepth 100000
set_option maxHeartbeats 8000000
/-! k02: drawn tokens and wild lines -/
namespace K2
open PySem PySem.Spec PyProof.Rows L2 EL LW
open Ln (L isLet isFig isTok isNum isWord isSign isQuoted isRun)
open PySem.EV (ErrC ErrI)
def brS : Str := Str.ofString "()"
theorem sign_tok : ∀ c ∈ Ln.signs, isTok [c] = true := by decide +kernel
theorem br_tok : ∀ c ∈ brS.cps.toList, isTok [c] = true := by decide +kernel
theorem tok_asc {t : L} (h : isTok t = true) : Asc t := by
  obtain ⟨ht, _⟩ := Ln.tok_of h
  have hl : ∀ c, isLet c = true → c < 128 := fun c h => by unfold isLet at h; simp at h; omega
  have hf : ∀ c, isFig c = true → c < 128 := fun c h => by unfold isFig at h; simp at h; omega
  intro d hd
  cases ht with
  | word h1 h2 =>
    rcases List.mem_cons.mp hd with rfl | h
    · exact hl _ h1
    · exact hl _ (h2 d h)
  | num h1 h2 =>
    rcases List.mem_cons.mp hd with rfl | h
    · exact hf _ h1
    · exact hf _ (h2 d h)
  | quoted h1 h2 =>
    rcases List.mem_cons.mp hd with rfl | h
    · decide
    · rcases List.mem_cons.mp h with rfl | h
      · exact hl _ h1
      · exact hl _ (h2 d h)
  | @sign c h1 h2 h3 h4 =>
    rw [List.mem_singleton.mp hd]
    unfold isTok at h
    simp only [Bool.or_eq_true] at h
    have nw : isWord [c] = false := by unfold isWord isRun; simp [h1]
    have nn : isNum [c] = false := by unfold isNum isRun; simp [h2]
    have nq : isQuoted [c] = false := by unfold isQuoted; simp [h3]
    rw [nw, nn, nq] at h
    simp only [Bool.false_eq_true, or_false] at h
    rcases h with (h | h) | h
    · have : c = 40 := by simpa using h
      omega
    · have : c = 41 := by simpa using h
      omega
    · unfold isSign at h
      simp only [Bool.and_eq_true] at h
      have hc : Ln.signs.contains c = true := by simpa using h.2
      have := List.contains_iff_mem.mp hc
      have hall : ∀ c ∈ Ln.signs, c < 128 := by decide +kernel
      exact hall c this
section
variable {P : Program} {w : World} {K : PySem.W.Frag} {mg : Str → Option Value} {base : Heap} {C T I : Addr}
theorem ok_tokD {f fD fW fN fO : Addr} {fd dD dW dN dO : FuncData} (F : Fun K "_law_token" "_law_token" sTokD f fd) (kD : PySem.W.keepIn K (.ref fD) = true) (GD : FnOk P w K mg base CX0 2 fD dD ["_law_purse_here", "_law_many"] spDraw) (bD : Binds K dD ["_law_purse_here", "_law_many"] []) (gD : mg "_law_draw" = some (.ref fD))
    (kW : PySem.W.keepIn K (.ref fW) = true) (GW : FnOk P w K mg base CX0 3 fW dW ["_law_purse_here"] spWord) (bW : Binds K dW ["_law_purse_here"] []) (gW : mg "_law_word" = some (.ref fW))
    (kN : PySem.W.keepIn K (.ref fN) = true) (GN : FnOk P w K mg base CX0 3 fN dN ["_law_purse_here"] (spDrawn (2 ^ 30) 12)) (bN : Binds K dN ["_law_purse_here"] []) (gN : mg "_law_number" = some (.ref fN))
    (kO : PySem.W.keepIn K (.ref fO) = true) (GO : FnOk P w K mg base CX0 3 fO dO ["_law_purse_here", "_law_some"] (spOneOf K)) (bO : Binds K dO ["_law_purse_here", "_law_some"] []) (gO : mg "_law_one_of" = some (.ref fO)) (mli : mg "list" = none) :
    FnOk P w K mg base CX0 4 f fd ["_law_purse_here"] (spDrawn (2 ^ 29) 20) := by
  refine F.ok scTokD (fun vs H Q E h => ?_) (fun cdv A outer s H vs Q E hr h => ?_)
  · obtain ⟨a, n, rfl, _⟩ := h
    rfl
  · obtain ⟨a, n, rfl, hP, hn, q⟩ := h
    have nd := scTokD.nd
    have hr2 := hr.mono (by decide : 2 ≤ 3)
    refine ⟨_, pss_cons (ps_set (i := 1) nd rfl (.inl rfl) (pe_call GD hr2 (by rfl) gD kD bD .nil pass0 (pa_cons (pv 0) (pa_cons pe_int pa_nil))))
      (pss_cons (ps_if (pt_cmpR op_lt (pv 1) pe_int (nomark _)) (pss_one (ps_ret (pe_call GW hr (by rfl) gW kW bW .nil pass0 (pa_cons (pv 0) pa_nil)))) pss_nil)
      (pss_cons (ps_if (pt_cmpR op_eq (pv 1) pe_int (nomark _)) (pss_one (ps_ret (pe_call GN hr (by rfl) gN kN bN .nil pass0 (pa_cons (pv 0) pa_nil)))) pss_nil)
      (pss_cons (ps_if (pt_cmpR op_eq (pv 1) pe_int (nomark _)) (pss_one (ps_ret (pe_op op_add_str pe_str (pe_call GW hr (by rfl) gW kW bW .nil pass0 (pa_cons (pv 0) pa_nil))))) pss_nil)
      (pss_one (ps_ret (pe_call GO hr (by rfl) gO kO bO .nil pass0 (pa_cons (pv 0) (pa_cons (pe_ifExp (pt_cmpR op_eq (pv 1) pe_int (nomark _)) (pe_callTy (call_listS rfl) (by rfl) mli boot_list (pa_cons pe_str pa_nil)) (pe_callTy (call_listS rfl) (by rfl) mli boot_list (pa_cons pe_str pa_nil))) pa_nil)))))))), ?_⟩
    refine ⟨.ref a, rfl, a, 6, n, rfl, hP, by omega, by decide, by decide, fun r1 H1 h10 h11 k1 P1 => ?_⟩
    have pick : ∀ (z : Str), (∀ c ∈ z.cps.toList, isTok [c] = true) → 0 < z.length → z.length ≤ 100 → rListS [.str z] H1 fun v H2 => spOneOf K [.ref a, v] H2 Q E0 := by
      intro z hz z0 z1
      refine ⟨z, rfl, sz _ (by omega), fun p np => ?_⟩
      have s2 := same_upd (o := .lst (signsOf z)) np
      have ln : (signsOf z).length = z.length := by unfold signsOf; rw [List.length_map]; exact Array.length_toList ..
      refine ⟨a, p, signsOf z, n + 1, rfl, P1.same s2, by omega, SqL.of upd_same, fun e => aD_of P1 np e.symm, by omega, by omega, fun v H3 hv k3 P3 => ?_⟩
      obtain ⟨c, hc, rfl⟩ := List.mem_map.mp hv
      exact q _ _ (hz c hc) ((k1.trans s2.keep).trans k3) (P3.more (by omega))
    refine ⟨_, rfl, _, _, rfl, rfl, _, rfl, ite2 (fun c1 => ?_) (fun c1 => ?_)⟩
    · refine ⟨.ref a, rfl, a, n + 1, rfl, P1, by omega, fun x H2 x1 x8 xl k2 P2 => ?_⟩
      exact q _ _ (word_tok (letters_word x1 x8 xl)) (k1.trans k2) (P2.more (by omega))
    · refine ⟨_, rfl, rfl, _, rfl, ite2 (fun c2 => ?_) (fun c2 => ?_)⟩
      · refine ⟨.ref a, rfl, a, n + 1, rfl, P1, (by show n + 1 < 2 ^ 30; omega), fun x H2 hx k2 P2 => ?_⟩
        exact q _ _ hx (k1.trans k2) (P2.more (by omega))
      · refine ⟨_, rfl, rfl, _, rfl, ite2 (fun c3 => ?_) (fun c3 => ?_)⟩
        · refine ⟨.ref a, rfl, a, n + 1, rfl, P1, by omega, fun x H2 x1 x8 xl k2 P2 => ?_⟩
          refine ⟨_, x, rfl, rfl, ?_, ?_⟩
          · rw [sQ, S_len]
            have := sz 100000 (Nat.le_refl _)
            simp
            omega
          · refine q _ _ ?_ (k1.trans k2) (P2.more (by omega))
            rw [sQ, cp_app, cp_S]
            refine quoted_tok ?_
            unfold isQuoted
            have := letters_word x1 x8 xl
            simpa using this
        · refine ⟨.ref a, rfl, _, rfl, rfl, _, rfl, ite2 (fun c4 => ?_) (fun c4 => ?_)⟩
          · exact pick brS br_tok (by decide) (by decide)
          · exact pick sgnS (fun c hc => sign_tok c (by have : sgnS.cps.toList = Ln.signs := by decide +kernel
                                                        rw [this] at hc; exact hc)) (by decide) (by decide)
/-- a wild line -/
def spWild : Sp := fun vs H Q _ => ∃ (a : Addr) (n : Nat), vs = [.ref a] ∧ Prs H a n ∧ n < 2 ^ 30 ∧ ∀ (x : Str) H', x.length ≤ 30 → Asc (cp x) → Keep a H H' → Prs H' a (n + 40) → Q (.str x) H'
def wilds : List Str := ["ab' ", "012 3", "az09'( ", "ab01 '()+-", "abcdefghijklmnopqrstuvwxyz0123456789+-*/<>=.,;:!?&|@^~[]{}()'' ", "ab+ AZ_#$`\"\\\n"]
theorem wilds_ok : ∀ z ∈ wilds, 0 < z.length ∧ z.length ≤ 1000 ∧ ∀ c ∈ z.cps.toList, c < 128 := by decide +kernel
theorem ok_wild {f fD fO : Addr} {fd dD dO : FuncData} (F : Fun K "_law_wild" "_law_wild" sWild f fd) (kD : PySem.W.keepIn K (.ref fD) = true) (GD : FnOk P w K mg base CX0 2 fD dD ["_law_purse_here", "_law_many"] spDraw) (bD : Binds K dD ["_law_purse_here", "_law_many"] []) (gD : mg "_law_draw" = some (.ref fD))
    (kO : PySem.W.keepIn K (.ref fO) = true) (GO : FnOk P w K mg base CX0 3 fO dO ["_law_purse_here", "_law_some"] (spOneOf K)) (bO : Binds K dO ["_law_purse_here", "_law_some"] []) (gO : mg "_law_one_of" = some (.ref fO)) (ml : mg "len" = none) (mr : mg "range" = none) :
    FnOk P w K mg base CX0 4 f fd ["_law_purse_here"] spWild := by
  refine F.ok scWild (fun vs H Q E h => ?_) (fun cdv A outer s H vs Q E hr h => ?_)
  · obtain ⟨a, n, rfl, _⟩ := h
    rfl
  · obtain ⟨a, n, rfl, hP, hn, q⟩ := h
    have nd := scWild.nd
    have hr2 := hr.mono (by decide : 2 ≤ 3)
    refine ⟨_, pss_cons (ps_set (i := 1) nd rfl (.inl rfl) (pe_lst (pa_cons pe_str (pa_cons pe_str (pa_cons pe_str (pa_cons pe_str pa_nil))))))
      (pss_cons (ps_set (i := 1) nd rfl (.inl rfl) (pe_op op_cat (pv 1) (pe_lst (pa_cons pe_str pa_nil))))
      (pss_cons (ps_set (i := 2) nd rfl (.inr rfl) (pe_call GO hr (by rfl) gO kO bO .nil pass0 (pa_cons (pv 0) (pa_cons (pe_op op_cat (pv 1) (pe_lst (pa_cons (pe_ix ix_list (pv 1) pe_int (fun _ _ => rfl)) (pa_cons pe_str pa_nil)))) pa_nil))))
      (pss_one (ps_ret (pe_join pe_str (pe_lc (own := [("_law_turn", 3)]) (g := gName 3) (tt := tYes) rfl nd (pi_range1 rfl mr (pa_cons (pe_call GD hr2 (by rfl) gD kD bD .nil pass0 (pa_cons (pv 0) (pa_cons pe_int pa_nil))) pa_nil)) (blkOk_by (own := [("_law_turn", 3)]) (N := nWi) (sc := defScope sWild) (by decide +kernel))
          (fun _ _ _ _ _ => pg_name (i := 3) nd rfl (Or.inl rfl)) (fun _ _ _ _ _ => pts_nil) (fun _ _ _ _ _ => pe_ix ix_str (pv 2) (pe_call GD hr2 (by rfl) gD kD bD .nil pass0 (pa_cons (pv 0) (pa_cons (pe_callB call_len_str (by rfl) ml PySem.boot_len (pa_cons (pv 2) pa_nil)) pa_nil))) (fun _ _ => rfl)))))))), ?_⟩
    refine ⟨sz 4 (by decide), fun l1 n1 => ?_⟩
    have s1 := same_upd (o := .lst [.str "ab' ", .str "012 3", .str "az09'( ", .str "ab01 '()+-"]) n1
    refine ⟨_, rfl, sz 1 (by decide), fun l2 n2 => ?_⟩
    have s2 := same_upd (o := .lst [.str "abcdefghijklmnopqrstuvwxyz0123456789+-*/<>=.,;:!?&|@^~[]{}()'' "]) n2
    refine ⟨l1, l2, _, _, rfl, rfl, s2 _ _ upd_same, upd_same, sz 5 (by decide), fun l3 n3 => ?_⟩
    have s3 := same_upd (o := .lst ([V.str "ab' ", .str "012 3", .str "az09'( ", .str "ab01 '()+-"] ++ [V.str "abcdefghijklmnopqrstuvwxyz0123456789+-*/<>=.,;:!?&|@^~[]{}()'' "])) n3
    refine ⟨.ref a, rfl, .ref l3, rfl, .ref l3, rfl, l3, _, 4, _, rfl, rfl, SqL.of upd_same, atI_nat (j := 4) rfl, sz 2 (by decide), fun l4 n4 => ?_⟩
    have s4 := same_upd (o := .lst [V.str "abcdefghijklmnopqrstuvwxyz0123456789+-*/<>=.,;:!?&|@^~[]{}()'' ", .str "ab+ AZ_#$`\"\\\n"]) n4
    refine ⟨l3, l4, _, _, rfl, rfl, s4 _ _ upd_same, upd_same, sz 7 (by decide), fun l5 n5 => ?_⟩
    have s5 := (((s1.trans s2).trans (s3.trans s4)).trans (same_upd (o := .lst ([V.str "ab' ", .str "012 3", .str "az09'( ", .str "ab01 '()+-"] ++ [V.str "abcdefghijklmnopqrstuvwxyz0123456789+-*/<>=.,;:!?&|@^~[]{}()'' "] ++ [V.str "abcdefghijklmnopqrstuvwxyz0123456789+-*/<>=.,;:!?&|@^~[]{}()'' ", .str "ab+ AZ_#$`\"\\\n"])) n5))
    have np5 : l5 ≠ a := fun e => aD_of (hP.same ((s1.trans s2).trans (s3.trans s4))) n5 e.symm
    refine ⟨a, l5, _, n, rfl, hP.same s5, by omega, SqL.of upd_same, np5, by decide, by decide, fun v H6 hv k6 P6 => ?_⟩
    obtain ⟨z, hz, rfl⟩ : ∃ z, z ∈ wilds ∧ v = .str z := by
      simp only [List.cons_append, List.nil_append, List.mem_cons, List.not_mem_nil, or_false] at hv
      rcases hv with rfl | rfl | rfl | rfl | rfl | rfl | rfl
      · exact ⟨_, by unfold wilds; simp, rfl⟩
      · exact ⟨_, by unfold wilds; simp, rfl⟩
      · exact ⟨_, by unfold wilds; simp, rfl⟩
      · exact ⟨_, by unfold wilds; simp, rfl⟩
      · exact ⟨_, by unfold wilds; simp, rfl⟩
      · exact ⟨_, by unfold wilds; simp, rfl⟩
      · exact ⟨_, by unfold wilds; simp, rfl⟩
    obtain ⟨z0, z1, za⟩ := wilds_ok z hz
    refine ⟨⟨_, rfl⟩, .ref a, rfl, a, 31, n + 1, rfl, P6, by omega, by decide, by decide, fun r1 H7 h10 h11 k7 P7 => ?_⟩
    refine ⟨_, rfl, by show -(2 ^ 62) ≤ r1; omega, by show r1 < 2 ^ 62; omega, fun D nD => ?_⟩
    have aD := aD_of P7 nD
    refine draw_lc (k := r1.toNat) (z := z) nD aD P7 (by omega) z0 z1 (by omega) (fun i => rfl) (fun i H' Q' q' => ⟨_, rfl, q'⟩) (fun i H' Q' q' => ⟨_, rfl, q'⟩) (fun i H' Q' q' => ⟨_, rfl, z, rfl, sz _ (by omega), q'⟩) fun H8 cs hl hc k8 eD P8 => ?_
    refine ⟨_, D, cs.map oneS, rfl, rfl, .inl (SqL.of (by rw [← ones_map]; exact eD)), ?_, ?_⟩
    · rw [ones_len, show (Str.ofString "").length = 0 from rfl]
      omega
    · rw [join_one]
      refine q _ _ ?_ ?_ (((s5.keep.trans k6).trans k7).trans k8) (P8.more (by omega))
      · rw [S_len]
        omega
      · rw [cp_S]
        exact fun c h => za c (hc c h)
end
end K2

set_option Elab.async false
set_option linter.all false
set_option maxRecDepth 100000
set_option maxHeartbeats 8000000
/-! k02: what is told, refused, right -/
namespace K2
open PySem PySem.Spec PyProof.Rows L2 EL LW
open Ln (L isTok scan jn)
open PySem.EV (ErrC ErrI)
abbrev sTold : Stmt := topS 41
abbrev sVery : Stmt := topS 42
abbrev sCutR : Stmt := topS 43
abbrev nTo : List Str := ["_law_way", "_law_value", "_law_told_here", "e"]
theorem scTold : FnScope nTo ["_law_way", "_law_value"] (defScope sTold) := ⟨rfl, rfl, rfl, by decide +kernel, rfl, by decide +kernel, by decide +kernel⟩
theorem scVery : FnScope ["_law_told_here", "_law_thing", "_law_same"] ["_law_told_here", "_law_thing"] (defScope sVery) := ⟨rfl, rfl, rfl, by decide +kernel, rfl, by decide +kernel, by decide +kernel⟩
theorem scCutR : FnScope ["_law_line_here", "_law_due"] ["_law_line_here", "_law_due"] (defScope sCutR) := ⟨rfl, rfl, rfl, by decide +kernel, rfl, by decide +kernel, by decide +kernel⟩
section
variable {P : Program} {w : World} {K : PySem.W.Frag} {mg : Str → Option Value} {base : Heap} {C T I : Addr}
/-- refused with the very object -/
def RefT (H : Hp) (v : V) (Q : VK) : Prop := ∀ H' t, Same H H' → H' t = some (.tup [.str "refused", v]) → Q (.ref t) H'
def spTold (K : PySem.W.Frag) : Sp := fun vs H Q _ => ∃ v : V,
  (vs = [.int 0, v] ∧ ((∃ x, v = .str x ∧ x.length ≤ 1000 ∧ ((scan (cp x)).all isTok = true → ∀ H' t p, Same H H' → H' p = some (.lst (vl (scan (cp x)))) → H' t = some (.tup [.str "told", .ref p]) → Q (.ref t) H') ∧ ((scan (cp x)).all isTok = false → RefT H v Q)) ∨ (NoS K H v ∧ RefT H v Q))) ∨
  (∃ way : Int, (way = 1 ∨ way = 2) ∧ vs = [.int way, v] ∧ TxV K H v false ∧ RefT H v Q)
def tToldTry (K : PySem.W.Frag) (C : Addr) (W : WX) : TS := tAsg (tIf (tTest (tOp rEq (tVar 0) (tC (.int 0)))) (tCallS (spCut K C) (WE W) (tCons (tVar 1) tNil)) (tIf (tTest (tOp rEq (tVar 0) (tC (.int 1)))) (tCallS (spLine K C jn) (WE W) (tCons (tVar 1) tNil)) (tCallS (spLine K C tightL) (WE W) (tCons (tVar 1) tNil)))) (gName 2)
def tToldSuite (C : Addr) : Addr → Value → Option Addr → TS := fun a cls d => tRet (tTup (tCons (tC (.str "refused")) (tCons (tByVal C a cls d (tVar 3)) tNil)))
theorem ok_told {f fC fL fT : Addr} {fd dC dL dT : FuncData} (F : Fun K "_law_told" "_law_told" sTold f fd)
    (kC : PySem.W.keepIn K (.ref fC) = true) (GC : FnOk P w K mg base (L2.CX P w) 6 fC dC ["line"] (spCut K C)) (bC : Binds K dC ["line"] []) (gC : mg "cut" = some (.ref fC))
    (kL : PySem.W.keepIn K (.ref fL) = true) (GL : FnOk P w K mg base (L2.CX P w) 7 fL dL ["text"] (spLine K C jn)) (bL : Binds K dL ["text"] []) (gL : mg "line_of" = some (.ref fL))
    (kT : PySem.W.keepIn K (.ref fT) = true) (GT : FnOk P w K mg base (L2.CX P w) 7 fT dT ["text"] (spLine K C tightL)) (bT : Binds K dT ["text"] []) (gT : mg "tight_line" = some (.ref fT))
    (Z : ErrC K C T) (mC : mg "InvalidText" = some (.ref C)) : FnOk P w K mg base CX0 8 f fd ["_law_way", "_law_value"] (spTold K) := by
  refine F.ok scTold (fun vs H Q E h => ?_) (fun cdv A outer s H vs Q E hr h => ?_)
  · obtain ⟨v, ⟨rfl, _⟩ | ⟨way, _, rfl, _⟩⟩ := h
    · rfl
    · rfl
  · have nd := scTold.nd
    have hr6 := hr.mono (by decide : 6 ≤ 7)
    refine ⟨_, pss_cons (ps_try_as (i := 3) (tb := tToldTry K C) (ts := tToldSuite C) (Wout := fun _ _ _ _ => False) rfl rfl nd rfl rfl ⟨rfl, by decide, Or.inl mC⟩ takes0
        (fun W pn xe tk _ => pss_one (ps_set (i := 2) nd rfl (Or.inl rfl) (by exact (pe_ifExp (pt_cmpR op_eq (pv 0) pe_int (nomark _)) (pe_callS GC hr6 rfl gC kC bC (fun σ => passAt tk σ) (by exact (pa_cons (pv 1) pa_nil)))
          (pe_ifExp (pt_cmpR op_eq (pv 0) pe_int (nomark _)) (pe_callS GL hr rfl gL kL bL (fun σ => passAt tk σ) (by exact (pa_cons (pv 1) pa_nil))) (pe_callS GT hr rfl gT kT bT (fun σ => passAt tk σ) (by exact (pa_cons (pv 1) pa_nil))))))))
        (fun a oe cls d pn hz hf => pss_one (ps_ret (by exact (pe_tup (pa_cons pe_str (pa_cons (pe_byVal Z hz hf (pv 3)) pa_nil)))))))
      (pss_one (ps_ret (pe_tup (pa_cons pe_str (pa_cons (pv 2) pa_nil))))), ?_⟩
    have int_eq : ∀ i j : Int, decide (V.int i = V.int j) = decide (i = j) := fun i j => by
      rw [Bool.eq_iff_iff, decide_eq_true_iff, decide_eq_true_iff]
      exact ⟨fun h => by cases h; rfl, fun h => by rw [h]⟩
    obtain ⟨v, ⟨rfl, hv⟩ | ⟨way, hw, rfl, hv, q2⟩⟩ := h
    · have caught : RefT H v Q → Refuses C H v (WE (wAs K (.ref C) 3 (tToldSuite C) (fun _ _ _ _ => False) { nx := tRet (tTup (tCons (tC (.str "told")) (tCons (tVar 2) tNil))) { nx := fun _ H' => Q .non H', rt := Q }, rt := Q }) [some (.int 0), some v, none, none]) := by
        intro q2 d H1 s1 e1
        refine ⟨true, err_exm Z, fun _ a0 na => ?_, fun q => Bool.noConfusion q⟩
        exact ⟨.ref a0, rfl, rfl, rfl, d, v, rfl, e1, sz 2 (by decide), fun t nt => q2 _ t (s1.trans (same_upd nt)) upd_same⟩
      refine ⟨_, rfl, rfl, _, rfl, ?_⟩
      rw [int_eq, decide_eq_true rfl]
      refine iteT ⟨v, rfl, v, rfl, ?_⟩
      rcases hv with ⟨x, rfl, hz, q1, q2⟩ | ⟨hv, q2⟩
      · refine .inl ⟨x, rfl, hz, fun hb H1 p s1 np e1 => ?_, fun hb => caught (q2 hb)⟩
        exact ⟨_, rfl, sz 2 (by decide), fun t nt => q1 hb _ t p (s1.trans (same_upd nt)) (same_upd nt _ _ e1) upd_same⟩
      · exact .inr ⟨hv, caught q2⟩
    · have caught : ∀ way : Int, Refuses C H v (WE (wAs K (.ref C) 3 (tToldSuite C) (fun _ _ _ _ => False) { nx := tRet (tTup (tCons (tC (.str "told")) (tCons (tVar 2) tNil))) { nx := fun _ H' => Q .non H', rt := Q }, rt := Q }) [some (.int way), some v, none, none]) := by
        intro way d H1 s1 e1
        refine ⟨true, err_exm Z, fun _ a0 na => ?_, fun q => Bool.noConfusion q⟩
        exact ⟨.ref a0, rfl, rfl, rfl, d, v, rfl, e1, sz 2 (by decide), fun t nt => q2 _ t (s1.trans (same_upd nt)) upd_same⟩
      refine ⟨_, rfl, rfl, _, rfl, ?_⟩
      rw [int_eq, decide_eq_false (by omega : ¬ way = 0)]
      refine iteF ⟨_, rfl, rfl, _, rfl, ?_⟩
      rw [int_eq]
      by_cases h1 : way = 1
      · rw [decide_eq_true h1]
        exact iteT ⟨v, rfl, v, false, rfl, hv, fun z => Bool.noConfusion z, fun _ => caught way⟩
      · rw [decide_eq_false h1]
        exact iteF ⟨v, rfl, v, false, rfl, hv, fun z => Bool.noConfusion z, fun _ => caught way⟩
/-- an item of a list that is lengthened -/
def Flat2 (H : Hp) (a : Addr) (x : V) : Prop := (∃ m, Atom x m) ∨ ∃ (b : Addr) (ys : List V), x = .ref b ∧ b ≠ a ∧ H b = some (.lst ys) ∧ ys.length ≤ 1000 ∧ ∀ y ∈ ys, ∃ m, Atom y m
theorem atoms_refl {H : Hp} {k : Nat} : ∀ {ys : List V}, (∀ y ∈ ys, ∃ m, Atom y m) → Paired (Eqv H k) ys ys
  | [], _ => .nil
  | y :: ys, h => by
    obtain ⟨m, hm⟩ := h y List.mem_cons_self
    exact .cons (atom_eqv hm k) (atoms_refl fun z hz => h z (List.mem_cons_of_mem _ hz))
theorem flats_refl {H H' : Hp} {a : Addr} {k : Nat} (hk : ∀ b o, b ≠ a → H b = some o → H' b = some o) : ∀ {xs : List V}, (∀ x ∈ xs, Flat2 H a x) → Paired (Eqv H' (k + 1)) xs xs
  | [], _ => .nil
  | x :: xs, h => by
    refine .cons ?_ (flats_refl hk fun z hz => h z (List.mem_cons_of_mem _ hz))
    rcases h x List.mem_cons_self with ⟨m, hm⟩ | ⟨b, ys, rfl, hb, e, hl, hy⟩
    · exact atom_eqv hm _
    · exact .inr (.inl ⟨b, b, ys, ys, rfl, rfl, .inl ⟨hk _ _ hb e, hk _ _ hb e⟩, atoms_refl hy, hl⟩)
/-- a thing that is refused -/
def Thing (K : PySem.W.Frag) (H : Hp) (v : V) : Prop := (NoL K H v ∧ Eqv H 3 v v) ∨ (∃ (a : Addr) (xs : List V), v = .ref a ∧ H a = some (.lst xs) ∧ xs.length ≤ 900 ∧ ∀ x ∈ xs, Flat2 H a x)
def spVery (K : PySem.W.Frag) : Sp := fun vs H Q _ => ∃ (t : Addr) (v : V), vs = [.ref t, v] ∧ H t = some (.tup [.str "refused", v]) ∧ Thing K H v ∧ ∀ H', Same H H' → Q (.bl true) H'
theorem ok_very {f fX : Addr} {fd dX : FuncData} (F : Fun K "_law_very" "_law_very" sVery f fd) (kX : PySem.W.keepIn K (.ref fX) = true) (GX : FnOk P w K mg base CX0 5 fX dX ["_law_one", "_law_other"] (spX 5)) (bX : Binds K dX ["_law_one", "_law_other"] []) (gX : mg "_law_exact" = some (.ref fX)) (mis : mg "isinstance" = none) (mli : mg "list" = none) :
    FnOk P w K mg base CX0 6 f fd ["_law_told_here", "_law_thing"] (spVery K) := by
  refine F.ok scVery (fun vs H Q E h => ?_) (fun cdv A outer s H vs Q E hr h => ?_)
  · obtain ⟨t, v, rfl, _⟩ := h
    rfl
  · obtain ⟨t, v, rfl, ht, hv, q⟩ := h
    have nd := scVery.nd
    refine ⟨_, pss_cons (ps_if (pt_not (pt_val (pe_call GX hr (by rfl) gX kX bX .nil pass0 (pa_cons (pv 0) (pa_cons (pe_tup (pa_cons pe_str (pa_cons (pv 1) pa_nil))) pa_nil))))) (pss_one (ps_ret pe_bl)) pss_nil)
      (pss_cons (ps_if (pt_val (pe_callB call_isi (by rfl) mis boot_isi (pa_cons (pv 1) (pa_cons (pe_bltn (v := .ty "list") (by rfl) mli boot_list rfl) pa_nil))))
        (pss_cons (ps_expr (pe_bm PySem.F.plainAttrs_list PySem.F.slot_list_append PySem.F.type_list_append mt_append (pv 1) (pa_cons pe_str pa_nil)))
        (pss_cons (ps_set (i := 2) nd rfl (.inl rfl) (pe_call GX hr (by rfl) gX kX bX .nil pass0 (pa_cons (pe_ix ix_tup (pv 0) pe_int (fun _ _ => rfl)) (pa_cons (pv 1) pa_nil))))
        (pss_cons (ps_expr (pe_bm0 PySem.F.plainAttrs_list PySem.F.slot_list_pop PySem.F.type_list_pop mt_pop (pv 1)))
        (pss_one (ps_ret (pv 2)))))) pss_nil)
      (pss_one (ps_ret pe_bl))), ?_⟩
    have self3 : ∀ H1, Same H H1 → Eqv H1 3 v v := fun H1 s1 => by
      rcases hv with ⟨_, h⟩ | ⟨a, xs, rfl, e, hl, hx⟩
      · exact h.same s1
      · exact .inr (.inl ⟨a, a, xs, xs, rfl, rfl, .inl ⟨s1 _ _ e, s1 _ _ e⟩, flats_refl (fun b o _ h => s1 _ _ h) hx, by omega⟩)
    refine ⟨.ref t, rfl, v, rfl, sz 2 (by decide), fun t2 n2 => ?_⟩
    have s1 := same_upd (o := .tup [.str "refused", v]) n2
    refine ⟨.ref t, .ref t2, rfl, .inr (.inl ⟨t, t2, _, _, rfl, rfl, .inr ⟨s1 _ _ ht, upd_same⟩, .cons (atom_eqv (.str _) 3) (.cons (self3 _ s1) .nil), by simp⟩), fun H2 s2 => ⟨true, rfl, iteF ?_⟩⟩
    have s02 := s1.trans s2
    rcases hv with ⟨⟨tt, kt, ty⟩, _⟩ | ⟨a, xs, rfl, e, hl, hx⟩
    · exact ⟨v, rfl, _, _, tt, _, false, rfl, ClsV.ty _, ty _ s02, kt, false, rfl, iteF (q _ s02)⟩
    · have e2 := s02 _ _ e
      refine ⟨.ref a, rfl, _, _, _, _, true, rfl, ClsV.ty _, .base (.lst e2), kit_ty (by decide +kernel), true, rfl, iteT ?_⟩
      refine ⟨.ref a, rfl, .inl ⟨rfl, _, SqL.of e2⟩, a, xs, .str "later", rfl, rfl, e2, Nat.lt_of_lt_of_le (by omega : _ < 100000) (sz _ (Nat.le_refl _)), ?_⟩
      have ta : t ≠ a := fun z => by rw [z, e] at ht; cases ht
      have hk : ∀ b o, b ≠ a → H b = some o → upd H2 a (.lst (xs ++ [.str "later"])) b = some o := fun b o hb h => by
        rw [upd_ne hb]
        exact s02 _ _ h
      refine ⟨.ref t, rfl, t, [.str "refused", .ref a], 1, .ref a, rfl, rfl, SqT.of (hk _ _ ta ht), atI_nat (j := 1) rfl, .ref a, rfl, ?_⟩
      refine ⟨.ref a, .ref a, rfl, .inr (.inl ⟨a, a, _, _, rfl, rfl, .inl ⟨upd_same, upd_same⟩, ?_, by rw [List.length_append]; simp; omega⟩), fun H3 s3 => ?_⟩
      · exact flats_refl (k := 2) (H := H) hk (xs := xs ++ [.str "later"]) fun x hxm => by
          rw [List.mem_append, List.mem_singleton] at hxm
          rcases hxm with h | rfl
          · exact hx x h
          · exact .inl ⟨_, .str _⟩
      · have e3 := s3 _ _ (upd_same (H := H2) (a := a) (o := .lst (xs ++ [.str "later"])))
        refine ⟨.ref a, rfl, .inl ⟨rfl, _, SqL.of e3⟩, a, _, .str "later", rfl, rfl, e3, by simp, ?_⟩
        refine ⟨.bl true, rfl, q _ fun b o hb => ?_⟩
        rw [List.dropLast_concat]
        by_cases hba : b = a
        · rw [hba, upd_same, ← e, ← hba]
          exact hb
        · rw [upd_ne hba]
          exact s3 _ _ (hk _ _ hba hb)
def spCutR (K : PySem.W.Frag) : Sp := fun vs H Q _ => ∃ (x : Str) (v : V), vs = [.str x, v] ∧ x.length ≤ 1000 ∧ ((v = .non ∧ (scan (cp x)).all isTok = false) ∨ (∃ p, v = .ref p ∧ H p = some (.lst (vl (scan (cp x)))) ∧ (scan (cp x)).all isTok = true)) ∧ ∀ H', Same H H' → Q (.bl true) H'
theorem vl_refl {H : Hp} {k : Nat} : ∀ ts : List L, Paired (Eqv H k) (vl ts) (vl ts)
  | [] => .nil
  | t :: ts => .cons (atom_eqv (.str (S t)) k) (vl_refl ts)
theorem vl_eqv {H : Hp} {k : Nat} {p p2 : Addr} {ts : List L} (hl : ts.length ≤ 1000) (e : H p = some (.lst (vl ts))) (e2 : H p2 = some (.lst (vl ts))) : Eqv H (k + 1) (.ref p) (.ref p2) :=
  .inr (.inl ⟨p, p2, _, _, rfl, rfl, .inl ⟨e, e2⟩, vl_refl ts, by unfold vl; rw [List.length_map]; exact hl⟩)
theorem ok_cutR {f fX fT : Addr} {fd dX dT : FuncData} (F : Fun K "_law_cut_right" "_law_cut_right" sCutR f fd) (kX : PySem.W.keepIn K (.ref fX) = true) (GX : FnOk P w K mg base CX0 5 fX dX ["_law_one", "_law_other"] (spX 5)) (bX : Binds K dX ["_law_one", "_law_other"] []) (gX : mg "_law_exact" = some (.ref fX))
    (kT : PySem.W.keepIn K (.ref fT) = true) (GT : FnOk P w K mg base CX0 8 fT dT ["_law_way", "_law_value"] (spTold K)) (bT : Binds K dT ["_law_way", "_law_value"] []) (gT : mg "_law_told" = some (.ref fT)) : FnOk P w K mg base CX0 9 f fd ["_law_line_here", "_law_due"] (spCutR K) := by
  refine F.ok scCutR (fun vs H Q E h => ?_) (fun cdv A outer s H vs Q E hr h => ?_)
  · obtain ⟨x, v, rfl, _⟩ := h
    rfl
  · obtain ⟨x, v, rfl, hz, hv, q⟩ := h
    refine ⟨_, pss_one (ps_ret (pe_call GX (hr.mono (by decide)) (by rfl) gX kX bX .nil pass0 (pa_cons (pe_call GT hr (by rfl) gT kT bT .nil pass0 (pa_cons pe_int (pa_cons (pv 0) pa_nil)))
      (pa_cons (pe_ifExp (pt_cmpR op_isN (pv 1) pe_non (nomark _)) (pe_tup (pa_cons pe_str (pa_cons (pv 0) pa_nil))) (pe_tup (pa_cons pe_str (pa_cons (pv 1) pa_nil)))) pa_nil)))), ?_⟩
    have hlen := cp_len x
    obtain ⟨hl1, hl2⟩ := scan_len (cp x)
    rcases hv with ⟨rfl, hb⟩ | ⟨p, rfl, e, hb⟩
    · refine ⟨.str x, rfl, .str x, .inl ⟨rfl, .inl ⟨x, rfl, hz, fun z => (by rw [hb] at z; cases z), fun _ H1 t s1 ht => ?_⟩⟩⟩
      refine ⟨_, rfl, rfl, _, rfl, iteT ⟨.str x, rfl, sz 2 (by decide), fun t2 n2 => ?_⟩⟩
      have s2 := same_upd (o := .tup [.str "refused", .str x]) n2
      exact ⟨.ref t, .ref t2, rfl, .inr (.inl ⟨t, t2, _, _, rfl, rfl, .inr ⟨s2 _ _ ht, upd_same⟩, .cons (atom_eqv (.str _) 3) (.cons (atom_eqv (.str _) 3) .nil), by simp⟩), fun H2 s3 => q _ ((s1.trans s2).trans s3)⟩
    · refine ⟨.str x, rfl, .str x, .inl ⟨rfl, .inl ⟨x, rfl, hz, fun _ H1 t p2 s1 e2 ht => ?_, fun z => (by rw [hb] at z; cases z)⟩⟩⟩
      refine ⟨_, rfl, rfl, _, rfl, iteF ⟨_, rfl, sz 2 (by decide), fun t2 n2 => ?_⟩⟩
      have s2 := same_upd (o := .tup [.str "told", .ref p]) n2
      exact ⟨.ref t, .ref t2, rfl, .inr (.inl ⟨t, t2, _, _, rfl, rfl, .inr ⟨s2 _ _ ht, upd_same⟩, .cons (atom_eqv (.str _) 3) (.cons (vl_eqv (by omega) (s2 _ _ e2) (s2 _ _ (s1 _ _ e))) .nil), by simp⟩), fun H2 s3 => q _ ((s1.trans s2).trans s3)⟩
end
end K2

set_option Elab.async false
set_option linter.all false
set_option maxRecDepth 100000
set_option maxHeartbeats 8000000
/-! k02: a text, all its lines -/
namespace K2
open PySem PySem.Spec PyProof.Rows L2 EL LW
open Ln (L isTok scan jn lawLine)
open PySem.EV (ErrC ErrI)
abbrev sTextR : Stmt := topS 44
abbrev nTR : List Str := ["_law_purse_here", "_law_text", "_law_handed", "_law_blank", "_law_loose", "_law_tight", "_law_line_here", "_law_told_here", "_law_at", "_law_shorter", "_law_bad", "_law_value", "_law_way", "_law_turn", "_law_token_here"]
theorem scTextR : FnScope nTR ["_law_purse_here"] (defScope sTextR) := ⟨rfl, rfl, rfl, by decide +kernel, rfl, by decide +kernel, by decide +kernel⟩
/-- a def that is called -/
structure Cl (P : Program) (w : World) (K : PySem.W.Frag) (mg : Str → Option Value) (base : Heap) (CX : CXT) (k : Nat) (x : Str) (ps : List Str) (sp : Sp) where
  f : Addr
  fd : FuncData
  kp : PySem.W.keepIn K (.ref f) = true
  G : FnOk P w K mg base CX k f fd ps sp
  b : Binds K fd ps []
  g : mg x = some (.ref f)
structure Cs (P : Program) (w : World) (K : PySem.W.Frag) (mg : Str → Option Value) (base : Heap) (C : Addr) where
  draw : Cl P w K mg base CX0 2 "_law_draw" ["_law_purse_here", "_law_many"] spDraw
  one : Cl P w K mg base CX0 3 "_law_one_of" ["_law_purse_here", "_law_some"] (spOneOf K)
  token : Cl P w K mg base CX0 4 "_law_token" ["_law_purse_here"] (spDrawn (2 ^ 29) 20)
  wild : Cl P w K mg base CX0 4 "_law_wild" ["_law_purse_here"] spWild
  line : Cl P w K mg base CX0 3 "_law_line" ["_law_text", "_law_gaps"] (spLineL K)
  exact : Cl P w K mg base CX0 5 "_law_exact" ["_law_one", "_law_other"] (spX 5)
  scanned : Cl P w K mg base CX0 2 "_law_scanned" ["_law_line_here"] spScan
  cutR : Cl P w K mg base CX0 9 "_law_cut_right" ["_law_line_here", "_law_due"] (spCutR K)
  told : Cl P w K mg base CX0 8 "_law_told" ["_law_way", "_law_value"] (spTold K)
  very : Cl P w K mg base CX0 6 "_law_very" ["_law_told_here", "_law_thing"] (spVery K)
  cut : Cl P w K mg base (L2.CX P w) 6 "cut" ["line"] (spCut K C)
  lineOf : Cl P w K mg base (L2.CX P w) 7 "line_of" ["text"] (spLine K C jn)
  tightLine : Cl P w K mg base (L2.CX P w) 7 "tight_line" ["text"] (spLine K C tightL)
  purses : Cl P w K mg base CX0 2 "_law_purses" ["_law_script", "_law_few"] (spPurses K)
  len : mg "len" = none
  range : mg "range" = none
  list : mg "list" = none
  tuple : mg "tuple" = none
  dict : mg "dict" = none
theorem vl_inj : ∀ {ts us : List L}, vl ts = vl us → ts = us
  | [], [], _ => rfl
  | [], _ :: _, h => by simp [vl] at h
  | _ :: _, [], h => by simp [vl] at h
  | t :: ts, u :: us, h => by
    have h' : V.str (S t) :: vl ts = V.str (S u) :: vl us := h
    injection h' with h1 h2
    injection h1 with h1
    have := congrArg cp h1
    rw [cp_S, cp_S] at this
    rw [this, vl_inj h2]
theorem zeros_getD (m i : Nat) : (List.replicate m 0).getD i 0 = 0 := by
  rw [List.getD_eq_getElem?_getD, List.getElem?_replicate]
  split <;> rfl
theorem law_zero (ts : List L) (m : Nat) : lawLine ts (fun i => (List.replicate m 0).getD i 0) = tightL ts := by
  have e : (fun i => (List.replicate m 0).getD i 0) = fun _ => 0 := funext fun i => zeros_getD m i
  rw [e]
  unfold lawLine tightL
  simp
theorem tight_is (ts : List L) : tightL ts = Ln.tight none ts := by
  rw [← Ln.line_tight]
  unfold lawLine tightL
  simp
theorem jn_len : ∀ {ts : List L}, (∀ t ∈ ts, t.length ≤ 9) → (jn ts).length ≤ 10 * ts.length
  | [], _ => by simp [jn]
  | [t], h => by
    have := h t (by simp)
    simp [jn]
    omega
  | t :: u :: r, h => by
    have h1 := h t (by simp)
    have h2 := jn_len (ts := u :: r) fun z hz => h z (List.mem_cons_of_mem _ hz)
    show (t ++ (32 :: jn (u :: r))).length ≤ _
    rw [List.length_append, List.length_cons]
    simp only [List.length_cons] at h2 ⊢
    omega
theorem gl_zeros (m : Nat) : (List.replicate m [V.int 0]).flatten = gl (List.replicate m 0) := by
  induction m with
  | zero => rfl
  | succ m ih => rw [List.replicate_succ, List.flatten_cons, ih, List.replicate_succ]; rfl
section
variable {Qd : Hp → Prop}
/-- a drawn list of small numbers -/
theorem gaps_lc {vs : List Nat} {σ : L2.St} {j : Nat} {H1 : Hp} {D a : Addr} {n k : Nat} {te : TE} (nD : H1 D = none) (aD : a ≠ D) (hP : Prs H1 a n) (hn : n + k < 2 ^ 39) (hk : k ≤ 1000)
    (hσ : ∀ i : Nat, wipe ((wipe σ vs).set j (some (.int (0 + (i : Int))))) vs = wipe σ vs)
    (re : ∀ (i : Nat) (H' : Hp) (n' : Nat) (Q' : VK), Prs H' a n' → n' < 2 ^ 39 → (∀ (x : Nat) H2, x ≤ 3 → Keep a H' H2 → Prs H2 a (n' + 1) → Q' (.int (x : Int)) H2) → te ((wipe σ vs).set j (some (.int (0 + (i : Int))))) H' Q')
    (hd : ∀ (H' : Hp) (gs : List Nat), gs.length = k → (∀ x ∈ gs, x ≤ 3) → Keep a H1 H' → H' D = some (.lst (gl gs)) → Prs H' a (n + k) → Qd H') :
    ∃ W : Nat → Nat → Hp → Prop, (∃ m, W 0 m (upd H1 D (.lst []))) ∧ ∀ i m H, W i m H →
      ((Itr 0 k).stop i H ∧ Qd H) ∨ ((Itr 0 k).go i H ∧ ∃ Nx : Hp → Prop, (∀ H', Nx H' → ∃ m', m' < m ∧ W (i + 1) m' H') ∧ ∀ x H', (Itr 0 k).yld i H x H' → gName j x (wipe σ vs) H' fun σ2 H2 => wipe σ2 vs = wipe σ vs ∧ tYes σ2 H2 fun b H3 =>
        if b = true then te σ2 H3 fun y H4 => ∃ acc, H4 D = some (.lst acc) ∧ acc.length < sizeLine ∧ Nx (upd H4 D (.lst (acc ++ [y]))) else Nx H3) := by
  refine lc_range (lo := 0) (n := k) (fun i H' => ∃ gs : List Nat, gs.length = i ∧ (∀ x ∈ gs, x ≤ 3) ∧ Keep a H1 H' ∧ H' D = some (.lst (gl gs)) ∧ Prs H' a (n + i)) ⟨[], rfl, by simp, (same_upd nD).keep, upd_same, hP.same (same_upd nD)⟩ ?_ ?_
  · rintro i H3 hi ⟨gs, el, hc, k3, eD, P3⟩
    refine ⟨hσ i, lc_turn ?_⟩
    refine re i _ _ _ P3 (by omega) fun x H4 hx k4 P4 => ⟨gl gs, k4 _ _ aD.symm eD, ?_, gs ++ [x], ?_, ?_, ?_, ?_, ?_⟩
    · unfold gl
      rw [List.length_map]
      exact Nat.lt_of_lt_of_le (by omega : _ < 100000) (sz _ (Nat.le_refl _))
    · rw [List.length_append, el]
      rfl
    · intro d hd'
      rw [List.mem_append, List.mem_singleton] at hd'
      rcases hd' with h | rfl
      · exact hc d h
      · exact hx
    · intro b o hb hbo
      rw [upd_ne (ne_of_none hbo nD)]
      exact k4 _ _ hb (k3 _ _ hb hbo)
    · rw [upd_same]
      unfold gl
      rw [List.map_append]
      rfl
    · exact (P4.more (by omega)).keep keep_upd aD
  · rintro H3 ⟨gs, el, hc, k3, eD, P3⟩
    exact hd H3 gs el hc k3 eD P3
end
theorem all_good_tok (l : L) : (scan l).all Ln.good = (scan l).all isTok := by
  rw [Ln.scan_eq]
  have h := Ln.cut_raw l.length l
  generalize Ln.cutN l.length l = ts at h
  induction ts with
  | nil => rfl
  | cons t ts ih => rw [List.all_cons, List.all_cons, Ln.good_tok (h t List.mem_cons_self), ih fun u hu => h u (List.mem_cons_of_mem _ hu)]
def il (ps : List Nat) : List V := ps.map fun (j : Nat) => V.int (j : Int)
theorem mem_cutV {xs : List V} {lo hi : Option Int} {x : V} (h : x ∈ cutV xs lo hi) : x ∈ xs := List.mem_of_mem_drop (List.mem_of_mem_take h)
theorem lineTo_asc {ts : List L} {g : Nat → Nat} (ht : ∀ t ∈ ts, Asc t) : ∀ i, Asc (Ln.lineTo ts g i)
  | 0 => by intro c hc; simp [Ln.lineTo] at hc
  | i + 1 => by
    intro c hc
    have hc' : c ∈ Ln.lineTo ts g i ++ (List.replicate (g i + (if Ln.need ts i then 1 else 0)) 32 ++ ts.getD i []) := hc
    rw [List.mem_append, List.mem_append] at hc'
    rcases hc' with h | h | h
    · exact lineTo_asc ht i c h
    · rw [(List.mem_replicate.mp h).2]
      decide
    · rw [List.getD_eq_getElem?_getD] at h
      cases e : ts[i]? with
      | none => rw [e] at h; simp at h
      | some t => rw [e] at h; exact ht t (List.mem_of_getElem? e) c h
/-- dicts whose values are all 1 -/
def AllOne (m : List (Key × V)) : Prop := ∀ kv ∈ m, kv.2 = .int 1
theorem put_one {m : List (Key × V)} (h : AllOne m) (k : Key) : AllOne (putK m k (.int 1)) ∧ (putK m k (.int 1)).length ≤ m.length + 1 := by
  unfold putK
  split
  · refine ⟨fun kv hkv => ?_, by rw [List.length_map]; omega⟩
    obtain ⟨kv', h1, rfl⟩ := List.mem_map.mp hkv
    split
    · rfl
    · exact h kv' h1
  · refine ⟨fun kv hkv => ?_, by rw [List.length_append]; simp⟩
    rw [List.mem_append, List.mem_singleton] at hkv
    rcases hkv with h1 | rfl
    · exact h kv h1
    · rfl
theorem one_val {m : List (Key × V)} (h : AllOne m) : ∀ kv ∈ m, (∃ i, kv.2 = .int i) ∧ valV m kv.1 = some kv.2 := fun kv hkv => by
  refine ⟨⟨1, h kv hkv⟩, ?_⟩
  unfold valV
  cases e : m.find? fun kv' => decide (kv'.1 = kv.1) with
  | none =>
    have := List.find?_eq_none.mp e kv hkv
    simp at this
  | some kv' =>
    show some kv'.2 = some kv.2
    rw [h kv' (List.mem_of_find?_eq_some e), h kv hkv]
theorem merge_one : ∀ (more m : List (Key × V)), AllOne m → AllOne more → AllOne (mergeK m more) ∧ (mergeK m more).length ≤ m.length + more.length
  | [], m, h, _ => ⟨h, Nat.le_refl _⟩
  | kv :: more, m, h, h2 => by
    have e : kv.2 = .int 1 := h2 kv List.mem_cons_self
    obtain ⟨p1, p2⟩ := put_one h kv.1
    obtain ⟨r1, r2⟩ := merge_one more (putK m kv.1 kv.2) (by rw [e]; exact p1) fun z hz => h2 z (List.mem_cons_of_mem _ hz)
    refine ⟨r1, ?_⟩
    rw [e] at r2
    show (mergeK (putK m kv.1 kv.2) more).length ≤ _
    rw [e]
    simp only [List.length_cons]
    omega
def pairs (ts : List L) : List (Key × V) := ts.map fun t => (.inr (S t), .int 1)
theorem pairs_one (ts : List L) : AllOne (pairs ts) := fun kv h => by
  obtain ⟨t, _, rfl⟩ := List.mem_map.mp h
  rfl
theorem paired_app {α β : Type} {F : α → β → Prop} : ∀ {a b : List α} {c d : List β}, Paired F a c → Paired F b d → Paired F (a ++ b) (c ++ d)
  | _, _, _, _, .nil, h => h
  | _, _, _, _, .cons x t, h => .cons x (paired_app t h)
theorem vl_atoms (ts : List L) : ∀ x ∈ vl ts, ∃ m, Atom x m := fun x h => by
  obtain ⟨t, _, rfl⟩ := List.mem_map.mp h
  exact ⟨_, .str _⟩
theorem vl_plain {K : PySem.W.Frag} {H : Hp} {ts : List L} (h9 : ∀ t ∈ ts, t.length ≤ 9) : ∀ x ∈ vl ts, Plain K H x := fun x h => by
  obtain ⟨t, ht, rfl⟩ := List.mem_map.mp h
  exact .inl ⟨S t, rfl, by rw [S_len]; have := h9 t ht; omega⟩
section
variable {P : Program} {w : World} {K : PySem.W.Frag} {mg : Str → Option Value} {base : Heap} {C T I : Addr}
def spTextR : Sp := fun vs H Q _ => ∃ (a : Addr) (n : Nat), vs = [.ref a] ∧ Prs H a n ∧ n < 2 ^ 20 ∧ ∀ H', Keep a H H' → Prs H' a (n + 2000) → Q (.bl true) H'
theorem ok_textR {f : Addr} {fd : FuncData} (F : Fun K "_law_text_right" "_law_text_right" sTextR f fd) (Z : Cs P w K mg base C) : FnOk P w K mg base CX0 10 f fd ["_law_purse_here"] spTextR := by
  refine F.ok scTextR (fun vs H Q E h => ?_) (fun cdv A outer s H vs Q E hr h => ?_)
  · obtain ⟨a, n, rfl, _⟩ := h
    rfl
  · obtain ⟨a, n, rfl, hP, hn, q⟩ := h
    have nd := scTextR.nd
    have r8 := hr.mono (by decide : 8 ≤ 9)
    have r7 := hr.mono (by decide : 7 ≤ 9)
    have r6 := hr.mono (by decide : 6 ≤ 9)
    have r5 := hr.mono (by decide : 5 ≤ 9)
    have r4 := hr.mono (by decide : 4 ≤ 9)
    have r3 := hr.mono (by decide : 3 ≤ 9)
    have r2 := hr.mono (by decide : 2 ≤ 9)
    refine ⟨_, pss_cons (ps_setLc (i := 1) (own := [("_law_turn", 13)]) (g := gName 13) (tt := tYes) rfl nd rfl rfl (sw_true rfl rfl rfl (by decide +kernel)) (pi_range1 rfl Z.range (pa_cons (pe_call Z.draw.G r2 (by rfl) Z.draw.g Z.draw.kp Z.draw.b .nil pass0 (pa_cons (pv 0) (pa_cons pe_int pa_nil))) pa_nil))
          (blkOk_by (own := [("_law_turn", 13)]) (N := nTR) (sc := defScope sTextR) (by decide +kernel)) (fun _ _ _ _ _ => pg_name (i := 13) nd rfl (Or.inl rfl)) (fun _ _ _ _ _ => pts_nil) (fun _ _ _ _ _ => pe_call Z.token.G r4 (by rfl) Z.token.g Z.token.kp Z.token.b .nil pass0 (pa_cons (pv 0) pa_nil)))
      (pss_cons (ps_par (i := 2) (j := 3) rfl nd rfl rfl (by decide) rfl rfl (pa_cons (pe_callTy call_list_of (by rfl) Z.list boot_list (pa_cons (pv 1) pa_nil)) (pa_cons (pe_lc (own := [("_law_turn", 13)]) (g := gName 13) (tt := tYes) rfl nd (pi_range1 rfl Z.range (pa_cons pe_int pa_nil))
          (blkOk_by (own := [("_law_turn", 13)]) (N := nTR) (sc := defScope sTextR) (by decide +kernel)) (fun _ _ _ _ _ => pg_name (i := 13) nd rfl (Or.inl rfl)) (fun _ _ _ _ _ => pts_nil) (fun _ _ _ _ _ => pe_op op_add pe_int (pe_call Z.draw.G r2 (by rfl) Z.draw.g Z.draw.kp Z.draw.b .nil pass0 (pa_cons (pv 0) (pa_cons pe_int pa_nil))))) pa_nil)) (by rfl))
      (pss_cons (ps_setLc (i := 4) (own := [("_law_turn", 13)]) (g := gName 13) (tt := tYes) rfl nd rfl rfl (sw_true rfl rfl rfl (by decide +kernel)) (pi_range1 rfl Z.range (pa_cons pe_int pa_nil))
          (blkOk_by (own := [("_law_turn", 13)]) (N := nTR) (sc := defScope sTextR) (by decide +kernel)) (fun _ _ _ _ _ => pg_name (i := 13) nd rfl (Or.inl rfl)) (fun _ _ _ _ _ => pts_nil) (fun _ _ _ _ _ => pe_call Z.draw.G r2 (by rfl) Z.draw.g Z.draw.kp Z.draw.b .nil pass0 (pa_cons (pv 0) (pa_cons pe_int pa_nil))))
      (pss_cons (ps_set (i := 5) nd rfl (.inr rfl) (pe_call Z.line.G r3 (by rfl) Z.line.g Z.line.kp Z.line.b .nil pass0 (pa_cons (pv 1) (pa_cons (pe_op op_rep (pe_lst (pa_cons pe_int pa_nil)) pe_int) pa_nil))))
      (pss_cons (ps_if (PW.pt (pw_or (pt_not (pt_val (pe_call Z.exact.G r5 (by rfl) Z.exact.g Z.exact.kp Z.exact.b .nil pass0 (pa_cons (pe_call Z.lineOf.G r7 (by rfl) Z.lineOf.g Z.lineOf.kp Z.lineOf.b .nil passN (pa_cons (pv 2) pa_nil)) (pa_cons (pe_join pe_str (pv 1)) pa_nil)))))
          (pw_or (pt_not (pt_val (pe_call Z.exact.G r5 (by rfl) Z.exact.g Z.exact.kp Z.exact.b .nil pass0 (pa_cons (pe_call Z.tightLine.G r7 (by rfl) Z.tightLine.g Z.tightLine.kp Z.tightLine.b .nil passN (pa_cons (pv 2) pa_nil)) (pa_cons (pv 5) pa_nil)))))
          (pw_or1 (pt_cmpR (op_neD hr.units) (pv 2) (pv 1) (nomark _)))))) (pss_one (ps_ret pe_bl)) pss_nil)
      (pss_cons (ps_for PassesOwn.never rfl (pi_tup (pe_tup (pa_cons (pe_join pe_str (pv 1)) (pa_cons (pv 5) (pa_cons (pe_call Z.line.G r3 (by rfl) Z.line.g Z.line.kp Z.line.b .nil pass0 (pa_cons (pv 1) (pa_cons (pv 3) pa_nil))) (pa_cons (pe_call Z.line.G r3 (by rfl) Z.line.g Z.line.kp Z.line.b .nil pass0 (pa_cons (pv 1) (pa_cons (pv 4) pa_nil))) pa_nil)))))) (pg_name (i := 6) nd rfl (.inl rfl))
          (pss_cons (ps_set (i := 7) nd rfl (.inl rfl) (pe_call Z.cut.G r6 (by rfl) Z.cut.g Z.cut.kp Z.cut.b .nil passN (pa_cons (pv 6) pa_nil)))
          (pss_cons (ps_if (pt_not (pt_val (pe_call Z.exact.G r5 (by rfl) Z.exact.g Z.exact.kp Z.exact.b .nil pass0 (pa_cons (pv 7) (pa_cons (pv 1) pa_nil))))) (pss_one (ps_ret pe_bl)) pss_nil)
          (pss_one (ps_expr (pe_bm PySem.F.plainAttrs_list PySem.F.slot_list_append PySem.F.type_list_append mt_append (pv 7) (pa_cons pe_str pa_nil)))))))
      (pss_cons (ps_expr (pe_bm PySem.F.plainAttrs_list PySem.F.slot_list_insert PySem.F.type_list_insert mt_insert (pv 2) (pa_cons (pe_op op_fdiv (pe_callB call_len_seq (by rfl) Z.len PySem.boot_len (pa_cons (pv 1) pa_nil)) pe_int) (pa_cons pe_str pa_nil))))
      (pss_cons (ps_if (PW.pt (pw_or (pt_cmpR op_ne (pe_call Z.lineOf.G r7 (by rfl) Z.lineOf.g Z.lineOf.kp Z.lineOf.b .nil passN (pa_cons (pv 2) pa_nil)) (pe_join pe_str (pv 2)) (nomark _))
          (pw_or1 (pt_cmpR op_ne (pe_call Z.tightLine.G r7 (by rfl) Z.tightLine.g Z.tightLine.kp Z.tightLine.b .nil passN (pa_cons (pv 2) pa_nil)) (pe_call Z.line.G r3 (by rfl) Z.line.g Z.line.kp Z.line.b .nil pass0 (pa_cons (pv 2) (pa_cons (pe_op op_rep (pe_lst (pa_cons pe_int pa_nil)) pe_int) pa_nil))) (nomark _))))) (pss_one (ps_ret pe_bl)) pss_nil)
      (pss_cons (ps_for PassesOwn.never rfl (pi_list (pe_slice sl_list (pe_lc (own := [("_law_at", 8)]) (g := gName 8) (tt := tTest (tOp rEq (tOp rIxS (tVar 5) (tVar 8)) (tC (.str " ")))) rfl nd (pi_range1 rfl Z.range (pa_cons (pe_callB call_len_str (by rfl) Z.len PySem.boot_len (pa_cons (pv 5) pa_nil)) pa_nil))
            (blkOk_by (own := [("_law_at", 8)]) (N := nTR) (sc := defScope sTextR) (by decide +kernel)) (fun _ _ _ _ _ => pg_name (i := 8) nd rfl (Or.inl rfl)) (fun _ _ _ _ _ => pts_one (pt_cmpR op_eq (pe_ix ix_str (pv 5) (pv 8) (fun _ _ => rfl)) pe_str (nomark _))) (fun _ _ _ _ _ => pv 8)) po_none (po_some pe_int))) (pg_name (i := 8) nd rfl (.inl rfl))
          (pss_cons (ps_set (i := 9) nd rfl (.inl rfl) (pe_op op_add_str (pe_slice sl_str (pv 5) po_none (po_some (pv 8))) (pe_slice sl_str (pv 5) (po_some (pe_op op_add (pv 8) pe_int)) po_none)))
          (pss_one (ps_if (PW.pt (pw_or (pt_not (pt_val (pe_call Z.cutR.G hr (by rfl) Z.cutR.g Z.cutR.kp Z.cutR.b .nil pass0 (pa_cons (pv 9) (pa_cons (pe_call Z.scanned.G r2 (by rfl) Z.scanned.g Z.scanned.kp Z.scanned.b .nil pass0 (pa_cons (pv 9) pa_nil)) pa_nil)))))
            (pw_or1 (pt_cmpR (op_eqD hr.units) (pe_call Z.scanned.G r2 (by rfl) Z.scanned.g Z.scanned.kp Z.scanned.b .nil pass0 (pa_cons (pv 9) pa_nil)) (pv 1) (nomark _))))) (pss_one (ps_ret pe_bl)) pss_nil))))
      (pss_cons (ps_set (i := 10) nd rfl (.inl rfl) (pe_call Z.one.G r3 (by rfl) Z.one.g Z.one.kp Z.one.b .nil pass0 (pa_cons (pv 0) (pa_cons (pe_lst (pa_cons pe_str (pa_cons pe_str (pa_cons pe_str (pa_cons pe_str (pa_cons pe_str (pa_cons pe_str (pa_cons pe_str (pa_cons pe_str (pa_cons pe_str (pa_cons pe_str (pa_cons pe_str
          (pa_cons pe_int (pa_cons pe_non (pa_cons (pe_lst (pa_cons pe_str pa_nil)) (pa_cons pe_bl pa_nil)))))))))))))))) pa_nil))))
      (pss_cons (ps_set (i := 8) nd rfl (.inl rfl) (pe_call Z.draw.G r2 (by rfl) Z.draw.g Z.draw.kp Z.draw.b .nil pass0 (pa_cons (pv 0) (pa_cons (pe_op op_add (pe_callB call_len_seq (by rfl) Z.len PySem.boot_len (pa_cons (pv 1) pa_nil)) pe_int) pa_nil))))
      (pss_cons (ps_for PassesOwn.never rfl (pi_tup (pe_tup (pa_cons (pe_op op_cat (pe_op op_cat (pe_slice sl_list (pv 1) po_none (po_some (pv 8))) (pe_lst (pa_cons (pv 10) pa_nil))) (pe_slice sl_list (pv 1) (po_some (pv 8)) po_none)) (pa_cons (pe_callTy call_tuple_of (by rfl) Z.tuple boot_tuple (pa_cons (pv 1) pa_nil)) (pa_cons (pe_join pe_str (pv 1))
            (pa_cons (pe_callTy (call_dictP rfl) (by rfl) Z.dict boot_dict (pa_cons (pe_lc (own := [("_law_token_here", 14)]) (g := gName 14) (tt := tYes) rfl nd (pi_list (pv 1)) (blkOk_by (own := [("_law_token_here", 14)]) (N := nTR) (sc := defScope sTextR) (by decide +kernel)) (fun _ _ _ _ _ => pg_name (i := 14) nd rfl (Or.inl rfl)) (fun _ _ _ _ _ => pts_nil)
              (fun _ _ _ _ _ => pe_tup (pa_cons (pv 14) (pa_cons pe_int pa_nil)))) pa_nil)) pa_nil)))))) (pg_name (i := 11) nd rfl (.inl rfl))
          (pss_one (ps_for PassesOwn.never rfl (pi_tup (pe_tup (pa_cons pe_int (pa_cons pe_int pa_nil)))) (pg_name (i := 12) nd rfl (.inl rfl))
            (pss_one (ps_if (pt_not (pt_val (pe_call Z.very.G r6 (by rfl) Z.very.g Z.very.kp Z.very.b .nil pass0 (pa_cons (pe_call Z.told.G r8 (by rfl) Z.told.g Z.told.kp Z.told.b .nil pass0 (pa_cons (pv 12) (pa_cons (pv 11) pa_nil))) (pa_cons (pv 11) pa_nil))))) (pss_one (ps_ret pe_bl)) pss_nil)))))
      (pss_one (ps_ret pe_bl))))))))))))), ?_⟩
    -- the text
    refine ⟨.ref a, rfl, a, 60, n, rfl, hP, by omega, by decide, by decide, fun r H1 h0 h1 k1 P1 => ⟨_, rfl, by show -(2 ^ 62) ≤ r; omega, by show r < 2 ^ 62; omega, fun D1 nD1 => ?_⟩⟩
    have aD1 := aD_of P1 nD1
    refine lc_range (lo := 0) (n := r.toNat) (fun i H' => ∃ ts : List L, ts.length = i ∧ (∀ t ∈ ts, isTok t = true) ∧ Keep a H1 H' ∧ H' D1 = some (.lst (vl ts)) ∧ Prs H' a (n + 1 + 20 * i)) ⟨[], rfl, by simp, (same_upd nD1).keep, upd_same, P1.same (same_upd nD1)⟩ ?_ ?_
    · rintro i H3 hi ⟨ts, el, hc, k3, eD, P3⟩
      refine ⟨rfl, lc_turn ?_⟩
      refine ⟨.ref a, rfl, a, n + 1 + 20 * i, rfl, P3, (by show n + 1 + 20 * i < 2 ^ 29; omega), fun x H4 hx k4 P4 => ⟨vl ts, k4 _ _ aD1.symm eD, ?_, ts ++ [cp x], ?_, ?_, ?_, ?_, ?_⟩⟩
      · unfold vl
        rw [List.length_map]
        exact Nat.lt_of_lt_of_le (by omega : _ < 100000) (sz _ (Nat.le_refl _))
      · rw [List.length_append, el]
        rfl
      · intro d hd'
        rw [List.mem_append, List.mem_singleton] at hd'
        rcases hd' with h | rfl
        · exact hc d h
        · exact hx
      · intro b o hb hbo
        rw [upd_ne (ne_of_none hbo nD1)]
        exact k4 _ _ hb (k3 _ _ hb hbo)
      · rw [upd_same, vl_app]
        show _ = some (HO.lst (vl ts ++ [V.str (S (cp x))]))
        rw [S_cp]
      · exact (P4.more (by omega)).keep keep_upd aD1
    rintro H2 ⟨ts, el, ht, k2, eT, P2⟩
    have hn59 : ts.length ≤ 59 := by omega
    have h9 : ∀ t ∈ ts, t.length ≤ 9 := fun t h => (Ln.tok_of (ht t h)).2
    have hTok : ∀ t ∈ ts, Ln.Tok t := fun t h => (Ln.tok_of (ht t h)).1
    have hne : ∀ t ∈ ts, t ≠ [] ∧ t.length ≤ 9 := fun t h => ⟨by have := hTok t h; cases this <;> simp, h9 t h⟩
    have hasc : ∀ t ∈ ts, Asc t := fun t h => tok_asc (ht t h)
    -- the copy, and the gaps
    refine ⟨.ref D1, rfl, D1, vl ts, rfl, .inl (SqL.of eT), fun hA nh => ?_⟩
    have s2 := same_upd (o := .lst (vl ts)) nh
    refine ⟨61, rfl, by decide, by decide, fun D3 nD3 => ?_⟩
    have P2' := P2.same s2
    refine gaps_lc (k := 61) nD3 (aD_of P2' nD3) P2' (by omega) (by decide) (fun i => rfl) (fun i H' n' Q' P' hn' q' => ?_) fun H3 gs lg hg k3 eG P3 => ?_
    · refine ⟨.ref a, rfl, a, 2, n', rfl, P', by omega, by decide, by decide, fun x H4 x0 x1 k4 P4 => ⟨_, _, rfl, rfl, ?_⟩⟩
      have := q' (1 + x.toNat) H4 (by omega) k4 P4
      rw [show ((1 + x.toNat : Nat) : Int) = 1 + x by omega] at this
      exact this
    refine ⟨_, _, rfl, ?_⟩
    have eT3 : H3 D1 = some (.lst (vl ts)) := k3 _ _ (aD_of P1 nD1).symm (s2 _ _ eT)
    have ah : hA ≠ a := fun e => aD_of P2 nh e.symm
    have eH3 : H3 hA = some (.lst (vl ts)) := k3 _ _ ah upd_same
    refine ⟨61, rfl, by decide, by decide, fun D4 nD4 => ?_⟩
    refine gaps_lc (k := 61) nD4 (aD_of P3 nD4) P3 (by omega) (by decide) (fun i => rfl) (fun i H' n' Q' P' hn' q' => ?_) fun H4 gs2 lg2 hg2 k4 eG2 P4 => ?_
    · refine ⟨.ref a, rfl, a, 3, n', rfl, P', by omega, by decide, by decide, fun x H5 x0 x1 k5 P5 => ?_⟩
      have := q' x.toNat H5 (by omega) k5 P5
      rw [show ((x.toNat : Nat) : Int) = x by omega] at this
      exact this
    have eT4 : H4 D1 = some (.lst (vl ts)) := k4 _ _ (aD_of P1 nD1).symm eT3
    have eH4 : H4 hA = some (.lst (vl ts)) := k4 _ _ ah eH3
    have eG4 : H4 D3 = some (.lst (gl gs)) := k4 _ _ (aD_of P2' nD3).symm eG
    have big := sz 100000 (Nat.le_refl _)
    -- the tight line
    refine ⟨.ref D1, rfl, sz 1 (by decide), fun l nl => ⟨l, 61, [.int 0], rfl, rfl, upd_same, by decide, by decide, by show 1 * 61 ≤ sizeLine; omega, fun z nz => ?_⟩⟩
    have sl := same_upd (o := .lst [V.int 0]) nl
    have szz := same_upd (o := .lst (List.replicate (Int.toNat 61) [V.int 0]).flatten) nz
    refine ⟨D1, z, ts, List.replicate 61 0, rfl, szz _ _ (sl _ _ eT4), by rw [upd_same]; exact congrArg (fun q => some (HO.lst q)) (gl_zeros 61), by rw [List.length_replicate]; omega, by omega, hne, fun x hx => by rw [(List.mem_replicate.mp hx).2]; decide, fun H5 s5 => ?_⟩
    have s45 : Same H4 H5 := (sl.trans szz).trans s5
    rw [law_zero]
    -- a text's line, told
    have txT : ∀ {p : Addr} {H6 : Hp} {us : List L}, H6 p = some (.lst (vl us)) → us.length ≤ 1000 → (∀ t ∈ us, isTok t = true) → TxV K H6 (.ref p) true := by
      intro p H6 us e hl hu
      have := vl_text (K := K) e hl fun t h => by have := (Ln.tok_of (hu t h)).2; omega
      rwa [List.all_eq_true.mpr hu] at this
    have sameT : ∀ {p a' : Addr} {H6 : Hp} {us us' : List L}, V.ref p = V.ref a' → H6 a' = some (.lst (vl us')) → H6 p = some (.lst (vl us)) → us' = us := by
      intro p a' H6 us us' e1 e2 e
      cases e1
      rw [e2] at e
      exact vl_inj (HO.lst.inj (Option.some.inj e))
    have jE : ∀ {p : Addr} {H6 : Hp} {us : List L}, H6 p = some (.lst (vl us)) → H6 p = some (.lst ((us.map S).map V.str)) := fun e => by rw [← vl_map]; exact e
    have jL : ∀ {us : List L}, (∀ t ∈ us, t.length ≤ 9) → us.length ≤ 1000 → ((us.map S).map (·.length)).sum + (us.map S).length * (Str.ofString " ").length ≤ 16777216 := by
      intro us hu hl
      have := lens_sum us hu
      rw [List.length_map, show (Str.ofString " ").length = 1 from by decide +kernel]
      omega
    -- the first three
    refine ⟨.ref hA, rfl, .ref hA, true, rfl, txT (s45 _ _ eH4) (by omega) ht, fun _ a' ts' e1 e2 _ _ H6 s6 => ?_, fun z => Bool.noConfusion z⟩
    obtain rfl := sameT e1 e2 (s45 _ _ eH4)
    clear e1 e2
    have s46 := s45.trans s6
    refine ⟨⟨_, rfl⟩, .ref D1, rfl, " ", D1, ts'.map S, rfl, rfl, .inl (SqL.of (jE (s46 _ _ eT4))), jL h9 (by omega), ?_⟩
    rw [join_S]
    refine ⟨_, _, rfl, .inl ⟨⟨_, .str _⟩, rfl⟩, fun H7 s7 => ⟨true, rfl, iteF ?_⟩⟩
    have s47 := s46.trans s7
    refine ⟨.ref hA, rfl, .ref hA, true, rfl, txT (s47 _ _ eH4) (by omega) ht, fun _ a' ts e1 e2 _ _ H8 s8 => ?_, fun z => Bool.noConfusion z⟩
    obtain rfl := sameT e1 e2 (s47 _ _ eH4)
    clear e1 e2
    refine ⟨_, rfl, _, _, rfl, .inl ⟨⟨_, .str _⟩, rfl⟩, fun H9 s9 => ⟨true, rfl, iteF ?_⟩⟩
    have s49 := (s47.trans s8).trans s9
    refine ⟨.ref hA, rfl, .ref D1, rfl, .list (ts.map dS), .list (ts.map dS), .lst (SqL.of (s49 _ _ eH4)) (dS_all _), .lst (SqL.of (s49 _ _ eT4)) (dS_all _), shaped_texts _ hasc, shaped_texts _ hasc, _, rfl, ?_⟩
    rw [show PyData.eqv (.list (ts.map dS)) (.list (ts.map dS)) = true from by
      show PyData.eqvAll (ts.map dS) (ts.map dS) = true
      rw [eqv_texts, decide_eq_true rfl]]
    refine iteF ?_
    -- four lines
    have eT9 := s49 _ _ eT4
    have g3 : ∀ gs : List Nat, (∀ x ∈ gs, x ≤ 3) → ∀ i, gs.getD i 0 ≤ 3 := fun gs hg i => by
      rw [List.getD_eq_getElem?_getD]
      cases e : gs[i]? with
      | none => exact Nat.zero_le _
      | some x => exact hg x (List.mem_of_getElem? e)
    have lawLen : ∀ gs : List Nat, (∀ x ∈ gs, x ≤ 3) → (lawLine ts fun i => gs.getD i 0).length ≤ 1000 := fun gs hg => by
      have h1 := lineTo_len (ts := ts) (g := fun i => gs.getD i 0) (G := 3) (g3 gs hg) h9 ts.length
      have h2 := g3 gs hg ts.length
      show (Ln.lineTo ts _ ts.length ++ List.replicate (gs.getD ts.length 0) 32).length ≤ 1000
      rw [List.length_append, List.length_replicate]
      omega
    have tightLen : (tightL ts).length ≤ 1000 := by
      have h1 := lineTo_len (ts := ts) (g := fun _ => 0) (G := 0) (fun _ => Nat.le_refl _) h9 ts.length
      show (Ln.lineTo ts _ ts.length).length ≤ 1000
      omega
    have tightScan : scan (tightL ts) = ts := by
      have := Ln.line_scan (ts := ts) (fun i => (List.replicate 61 0).getD i 0) hTok
      rw [law_zero] at this
      exact this
    refine ⟨⟨_, rfl⟩, .ref D1, rfl, " ", D1, ts.map S, rfl, rfl, .inl (SqL.of (jE eT9)), jL h9 (by omega), ?_⟩
    rw [join_S]
    refine ⟨_, rfl, .ref D1, rfl, .ref D3, rfl, D1, D3, ts, gs, rfl, eT9, s49 _ _ eG4, by omega, by omega, hne, hg, fun H10 s10 => ?_⟩
    have s410 := s49.trans s10
    refine ⟨.ref D1, rfl, .ref D4, rfl, D1, D4, ts, gs2, rfl, s410 _ _ eT4, s410 _ _ eG2, by omega, by omega, hne, hg2, fun H11 s11 => ⟨sz 4 (by decide), fun tp ntp => ?_⟩⟩
    have s411 := s410.trans s11
    have stp := same_upd (o := .tup [V.str (S (jn ts)), .str (S (tightL ts)), .str (S (lawLine ts fun i => gs.getD i 0)), .str (S (lawLine ts fun i => gs2.getD i 0))]) ntp
    have s4s := s411.trans stp
    refine ⟨tp, rfl, ⟨_, SqT.of upd_same⟩, for_tup (K := K) (a := tp) (xs := [V.str (S (jn ts)), .str (S (tightL ts)), .str (S (lawLine ts fun i => gs.getD i 0)), .str (S (lawLine ts fun i => gs2.getD i 0))])
      (fun i σ H' => (∃ y6 y7 : Option V, σ = [some (.ref a), some (.ref D1), some (.ref hA), some (.ref D3), some (.ref D4), some (.str (S (tightL ts))), y6, y7, none, none, none, none, none, none, none]) ∧ Same (upd H11 tp (.tup [V.str (S (jn ts)), .str (S (tightL ts)), .str (S (lawLine ts fun i => gs.getD i 0)), .str (S (lawLine ts fun i => gs2.getD i 0))])) H') ⟨⟨none, none, rfl⟩, Same.refl _⟩ (fun i σ H' _ h => SqT.of (h.2 _ _ upd_same)) ?_ ?_⟩
    · rintro i x σ H12 hx ⟨⟨y6, y7, rfl⟩, s12⟩
      obtain ⟨l, rfl, hl, hs⟩ : ∃ l, x = .str (S l) ∧ l.length ≤ 1000 ∧ scan l = ts := by
        match i, hx with
        | 0, hx =>
          obtain rfl : V.str (S (jn ts)) = x := by simpa using hx
          exact ⟨_, rfl, by have := jn_len h9; omega, Ln.jn_scan hTok⟩
        | 1, hx =>
          obtain rfl : V.str (S (tightL ts)) = x := by simpa using hx
          exact ⟨_, rfl, tightLen, tightScan⟩
        | 2, hx =>
          obtain rfl : V.str (S (lawLine ts fun i => gs.getD i 0)) = x := by simpa using hx
          exact ⟨_, rfl, lawLen gs hg, Ln.line_scan _ hTok⟩
        | 3, hx =>
          obtain rfl : V.str (S (lawLine ts fun i => gs2.getD i 0)) = x := by simpa using hx
          exact ⟨_, rfl, lawLen gs2 hg2, Ln.line_scan _ hTok⟩
        | i + 4, hx => simp at hx
      have hall : (scan (cp (S l))).all isTok = true := by rw [cp_S, hs]; exact List.all_eq_true.mpr ht
      refine ⟨_, rfl, .str (S l), rfl, .inl ⟨S l, rfl, by rw [S_len]; exact hl, fun _ H13 p s13 np e13 => ?_, fun z => (by rw [hall] at z; cases z)⟩⟩
      rw [cp_S, hs] at e13
      have eT13 := s13 _ _ (s12 _ _ (s4s _ _ eT4))
      refine ⟨.ref p, rfl, .ref D1, rfl, .ref p, .ref D1, rfl, vl_eqv (k := 3) (by omega) e13 eT13, fun H14 s14 => ⟨true, rfl, iteF ?_⟩⟩
      have e14 := s14 _ _ e13
      refine ⟨.ref p, rfl, .inl ⟨rfl, _, SqL.of e14⟩, p, vl ts, .str "+", rfl, rfl, e14, ?_, ⟨_, _, rfl⟩, fun b o hb => ?_⟩
      · unfold vl
        rw [List.length_map]
        omega
      · have := s12 _ _ hb
        rw [upd_ne (ne_of_none this np)]
        exact s14 _ _ (s13 _ _ this)
    rintro σ H12 ⟨⟨y6, y7, rfl⟩, s12⟩
    have s412 := s4s.trans s12
    have eH12 := s412 _ _ eH4
    have eT12 := s412 _ _ eT4
    have nlen : (vl ts).length = ts.length := by unfold vl; rw [List.length_map]
    -- a token more
    refine ⟨.ref hA, rfl, .inl ⟨rfl, _, SqL.of eH12⟩, .ref D1, rfl, D1, vl ts, rfl, .inl (SqL.of eT12), _, _, rfl, rfl, ⟨by decide, by decide⟩, hA, vl ts, _, .str "x", rfl, rfl, eH12, by omega, by omega, by omega, ?_⟩
    have ek : (((vl ts).length : Int) / 2).toNat = ts.length / 2 := by omega
    have xS : (Str.ofString "x") = S [120] := cp_inj (by decide +kernel)
    have e13 : upd H12 hA (.lst ((vl ts).take (((vl ts).length : Int) / 2).toNat ++ [V.str "x"] ++ (vl ts).drop (((vl ts).length : Int) / 2).toNat)) hA = some (.lst (vl (ts.take (ts.length / 2) ++ [[120]] ++ ts.drop (ts.length / 2)))) := by
      rw [upd_same, ek, xS, vl_app, vl_app]
      unfold vl
      rw [List.map_take, List.map_drop]
      rfl
    have keep13 : ∀ b o, b ≠ hA → H12 b = some o → upd H12 hA (.lst ((vl ts).take (((vl ts).length : Int) / 2).toNat ++ [V.str "x"] ++ (vl ts).drop (((vl ts).length : Int) / 2).toNat)) b = some o := fun b o hb h => by
      rw [upd_ne hb]
      exact h
    show (fun H1 => _) (upd H12 hA (.lst ((vl ts).take (((vl ts).length : Int) / 2).toNat ++ [V.str "x"] ++ (vl ts).drop (((vl ts).length : Int) / 2).toNat)))
    generalize upd H12 hA (.lst ((vl ts).take (((vl ts).length : Int) / 2).toNat ++ [V.str "x"] ++ (vl ts).drop (((vl ts).length : Int) / 2).toNat)) = H13 at e13 keep13 ⊢
    have hu : ∀ t ∈ ts.take (ts.length / 2) ++ [[120]] ++ ts.drop (ts.length / 2), isTok t = true := fun t h => by
      rw [List.mem_append, List.mem_append, List.mem_singleton] at h
      rcases h with (h | rfl) | h
      · exact ht t (List.mem_of_mem_take h)
      · decide
      · exact ht t (List.mem_of_mem_drop h)
    have lu : (ts.take (ts.length / 2) ++ [[120]] ++ ts.drop (ts.length / 2)).length ≤ 60 := by
      rw [List.length_append, List.length_append, List.length_take, List.length_drop]
      simp
      omega
    generalize ts.take (ts.length / 2) ++ [[120]] ++ ts.drop (ts.length / 2) = us at e13 hu lu
    have hu9 : ∀ t ∈ us, t.length ≤ 9 := fun t h => (Ln.tok_of (hu t h)).2
    have hune : ∀ t ∈ us, t ≠ [] ∧ t.length ≤ 9 := fun t h => ⟨by have := (Ln.tok_of (hu t h)).1; cases this <;> simp, hu9 t h⟩
    have eT13 : H13 D1 = some (.lst (vl ts)) := keep13 _ _ (fun e => by have z : H2 hA = none := nh; rw [← e, eT] at z; cases z) eT12
    -- its lines
    refine ⟨.ref hA, rfl, .ref hA, true, rfl, txT e13 (by omega) hu, fun _ a' us' e1 e2 _ _ H14 s14 => ?_, fun z => Bool.noConfusion z⟩
    obtain rfl := sameT e1 e2 e13
    clear e1 e2
    refine ⟨⟨_, rfl⟩, .ref hA, rfl, " ", hA, us'.map S, rfl, rfl, .inl (SqL.of (jE (s14 _ _ e13))), jL hu9 (by omega), ?_⟩
    rw [join_S]
    refine ⟨rfl, _, rfl, ?_⟩
    rw [decide_eq_true rfl]
    refine iteF ⟨.ref hA, rfl, .ref hA, true, rfl, txT (s14 _ _ e13) (by omega) hu, fun _ a' us e1 e2 _ _ H15 s15 => ?_, fun z => Bool.noConfusion z⟩
    obtain rfl := sameT e1 e2 (s14 _ _ e13)
    clear e1 e2
    have s1315 := s14.trans s15
    refine ⟨.ref hA, rfl, sz 1 (by decide), fun l nl => ⟨l, 62, [.int 0], rfl, rfl, upd_same, by decide, by decide, by show 1 * 62 ≤ sizeLine; omega, fun z nz => ?_⟩⟩
    have sl2 := same_upd (o := .lst [V.int 0]) nl
    have sz2 := same_upd (o := .lst (List.replicate (Int.toNat 62) [V.int 0]).flatten) nz
    refine ⟨hA, z, us, List.replicate 62 0, rfl, sz2 _ _ (sl2 _ _ (s1315 _ _ e13)), by rw [upd_same]; exact congrArg (fun q => some (HO.lst q)) (gl_zeros 62), by rw [List.length_replicate]; omega, by omega, hune, fun x hx => by rw [(List.mem_replicate.mp hx).2]; decide, fun H16 s16 => ⟨rfl, _, rfl, ?_⟩⟩
    rw [law_zero, decide_eq_true rfl]
    refine iteF ?_
    have s1316 : Same H13 H16 := (s1315.trans (sl2.trans sz2)).trans s16
    have eT16 := s1316 _ _ eT13
    -- blanks left out
    have tasc : Asc (tightL ts) := lineTo_asc hasc _
    have tlen : (tightL ts).length = (S (tightL ts)).length := (S_len _).symm
    refine ⟨_, rfl, S (tightL ts), rfl, by rw [S_len]; omega, _, rfl, ?_, ?_, fun D9 nD9 => ?_⟩
    · show -(2 ^ 62) ≤ ((S (tightL ts)).length : Int)
      omega
    · show ((S (tightL ts)).length : Int) < 2 ^ 62
      omega
    refine lc_range (lo := 0) (n := ((S (tightL ts)).length : Int).toNat) (fun i H' => Same H16 H' ∧ ∃ ps : List Nat, ps.length ≤ i ∧ (∀ j ∈ ps, (tightL ts)[j]? = some 32) ∧ H' D9 = some (.lst (il ps))) ⟨same_upd nD9, [], Nat.le_refl _, by simp, upd_same⟩ ?_ ?_
    · rintro i H17 hi ⟨s17, ps, hps, hp, eD⟩
      obtain ⟨c, hc⟩ : ∃ c, (tightL ts)[i]? = some c := ⟨_, List.getElem?_eq_getElem (by omega)⟩
      have h0 : atI (S (tightL ts)).cps.toList (0 + (i : Int)) = some c := by rw [Int.zero_add]; exact cp_at (x := S (tightL ts)) hc
      refine ⟨rfl, _, rfl, _, rfl, S (tightL ts), _, c, rfl, rfl, by rw [S_len]; omega, h0, rfl, _, rfl, ?_⟩
      rw [sB, one_str c 32 rfl]
      by_cases h32 : c = 32
      · rw [decide_eq_true h32]
        refine iteT ⟨_, rfl, _, eD, ?_, fun b o hb => ?_, ps ++ [i], ?_, fun j hj => ?_, ?_⟩
        · unfold il
          rw [List.length_map]
          omega
        · rw [upd_ne (ne_of_none hb nD9)]
          exact s17 _ _ hb
        · rw [List.length_append]
          simp
          omega
        · rw [List.mem_append, List.mem_singleton] at hj
          rcases hj with h | rfl
          · exact hp j h
          · rw [hc, h32]
        · rw [upd_same]
          unfold il
          rw [List.map_append, Int.zero_add]
          rfl
      · rw [decide_eq_false h32]
        exact iteF ⟨s17, ps, by omega, hp, eD⟩
    rintro H17 ⟨s17, ps, hps, hp, eD⟩
    refine ⟨2, rfl, D9, il ps, rfl, SqL.of eD, fun q9 nq9 => ?_⟩
    have sq9 := same_upd (o := .lst (cutV (il ps) none (some 2))) nq9
    refine ⟨q9, rfl, ⟨_, SqL.of upd_same⟩, ?_⟩
    have hcut : ∀ x ∈ cutV (il ps) none (some 2), ∃ j : Nat, x = .int (j : Int) ∧ (tightL ts)[j]? = some 32 := fun x hx => by
      obtain ⟨j, hj, rfl⟩ := List.mem_map.mp (mem_cutV hx)
      exact ⟨j, rfl, hp j hj⟩
    generalize cutV (il ps) none (some 2) = cs at hcut sq9
    refine for_list (K := K) (a := q9) (xs := cs) (fun i σ H' => (∃ y8 y9 : Option V, σ = [some (.ref a), some (.ref D1), some (.ref hA), some (.ref D3), some (.ref D4), some (.str (S (tightL ts))), y6, y7, y8, y9, none, none, none, none, none]) ∧ Same (upd H17 q9 (.lst cs)) H') ⟨⟨none, none, rfl⟩, Same.refl _⟩ (fun i σ H' _ h => SqL.of (h.2 _ _ upd_same)) ?_ ?_
    · rintro i x σ H18 hx ⟨⟨y8, y9, rfl⟩, s18⟩
      obtain ⟨j, rfl, hj⟩ := hcut x (List.mem_of_getElem? hx)
      have hjl : j < (tightL ts).length := (List.getElem?_eq_some_iff.mp hj).1
      have hz' : (S (tightL ts)).length ≤ sizeLine := by rw [S_len]; omega
      have c1 : cutS (S (tightL ts)) none (some (j : Int)) = S ((tightL ts).take j) := cp_inj (cut_take' _ _)
      have c2 : cutS (S (tightL ts)) (some ((j : Int) + 1)) none = S ((tightL ts).drop (j + 1)) := cp_inj (by
        have := cut_drop (S (tightL ts)) (j + 1)
        rw [show (((j + 1 : Nat)) : Int) = (j : Int) + 1 by omega] at this
        exact this)
      refine ⟨_, rfl, .int (j : Int), rfl, (j : Int), rfl, S (tightL ts), rfl, hz', _, rfl, .int (j : Int), rfl, _, _, rfl, rfl, (j : Int) + 1, rfl, S (tightL ts), rfl, hz', _, _, rfl, rfl, ?_, ?_⟩
      · have h1 := cut_le (S (tightL ts)) none (some (j : Int))
        have h2 := cut_le (S (tightL ts)) (some ((j : Int) + 1)) none
        rw [S_len] at h1 h2
        omega
      rw [c1, c2, S_app]
      have l2 : ((tightL ts).take j ++ (tightL ts).drop (j + 1)).length < (Ln.tight none ts).length := by
        rw [← tight_is, List.length_append, List.length_take, List.length_drop]
        omega
      have hno := Ln.shorter_not l2
      have a2 : Asc ((tightL ts).take j ++ (tightL ts).drop (j + 1)) := fun c hc => by
        rcases List.mem_append.mp hc with h | h
        · exact tasc c (List.mem_of_mem_take h)
        · exact tasc c (List.mem_of_mem_drop h)
      have l2' : ((tightL ts).take j ++ (tightL ts).drop (j + 1)).length ≤ 1000 := by
        rw [← tight_is] at l2
        omega
      generalize (tightL ts).take j ++ (tightL ts).drop (j + 1) = z2 at hno a2 l2'
      have l3 : (S z2).length ≤ 1000 := by rw [S_len]; exact l2'
      have asc2 := scan_asc a2
      have hgt := all_good_tok z2
      have eT18 := s18 _ _ (sq9 _ _ (s17 _ _ eT16))
      refine ⟨_, rfl, _, rfl, S z2, rfl, l3, a2, fun hb H19 p s19 np e19 => ?_, fun hb H19 s19 => ?_⟩
      · rw [cp_S] at hb e19
        refine ⟨S z2, .ref p, rfl, l3, .inr ⟨p, rfl, e19, by rw [cp_S, ← hgt]; exact hb⟩, fun H20 s20 => ⟨true, rfl, iteF ?_⟩⟩
        refine ⟨_, rfl, S z2, rfl, l3, a2, fun hb2 H21 p2 s21 np2 e21 => ?_, fun hb2 => (by rw [cp_S] at hb2; rw [hb] at hb2; cases hb2)⟩
        rw [cp_S] at e21
        refine ⟨.ref D1, rfl, .list ((scan z2).map dS), .list (ts.map dS), .lst (SqL.of e21) (dS_all _), .lst (SqL.of (s21 _ _ (s20 _ _ (s19 _ _ eT18)))) (dS_all _), shaped_texts _ asc2, shaped_texts _ hasc, _, rfl, ?_⟩
        rw [show PyData.eqv (.list ((scan z2).map dS)) (.list (ts.map dS)) = false from by
          show PyData.eqvAll ((scan z2).map dS) (ts.map dS) = false
          rw [eqv_texts, decide_eq_false hno]]
        exact iteF ⟨⟨_, _, rfl⟩, ((s18.trans s19).trans s20).trans s21⟩
      · rw [cp_S] at hb
        refine ⟨S z2, .non, rfl, l3, .inl ⟨rfl, by rw [cp_S, ← hgt]; exact hb⟩, fun H20 s20 => ⟨true, rfl, iteF ?_⟩⟩
        refine ⟨_, rfl, S z2, rfl, l3, a2, fun hb2 => (by rw [cp_S] at hb2; rw [hb] at hb2; cases hb2), fun hb2 H21 s21 => ?_⟩
        refine ⟨.ref D1, rfl, .none, .list (ts.map dS), .non, .lst (SqL.of (s21 _ _ (s20 _ _ (s19 _ _ eT18)))) (dS_all _), by decide +kernel, shaped_texts _ hasc, _, rfl, iteF ⟨⟨_, _, rfl⟩, ((s18.trans s19).trans s20).trans s21⟩⟩
    rintro σ H18 ⟨⟨y8, y9, rfl⟩, s18⟩
    have s1318 : Same H13 H18 := ((s1316.trans s17).trans sq9).trans s18
    have eT18 := s1318 _ _ eT13
    -- what is no token
    refine ⟨.ref a, rfl, sz 1 (by decide), fun bA nb => ⟨sz 15 (by decide), fun L1 nL1 => ?_⟩⟩
    have P12 := P4.same s412
    have hAa : a ≠ hA := fun e => aD_of P2 nh e
    have P18 : Prs H18 a (n + 1 + 20 * r.toNat + 61 + 61) := (P12.keep (b := hA) keep13 hAa).same s1318
    have sb1 := same_upd (o := .lst [V.str "a"]) nb
    have sL1 := same_upd (o := .lst [V.str "", .str "_", .str "A", .str "a b", .str "00", .str "abcdefghi", .str "'", .str "''a", .str "((", .str "123456789", .str "a1", .int 7, .non, .ref bA, .bl true]) nL1
    have sbL := sb1.trans sL1
    have bAa : bA ≠ a := fun e => aD_of P18 nb e.symm
    refine ⟨a, L1, _, _, rfl, P18.same sbL, by omega, SqL.of upd_same, fun e => aD_of (P18.same sb1) nL1 e.symm, (by show 0 < 15; decide), (by show 15 < 2 ^ 26; decide), fun v H19 hv k19 P19 => ?_⟩
    have eT19 : H19 D1 = some (.lst (vl ts)) := k19 _ _ (aD_of P1 nD1).symm (sbL _ _ eT18)
    have eb19 : H19 bA = some (.lst [.str "a"]) := k19 _ _ bAa (sL1 _ _ upd_same)
    have strB : ∀ z : Str, z.length ≤ 100 → isTok (cp z) = false → ofS isTok (.str z) = false ∧ (∀ H' : Hp, H' bA = some (.lst [.str "a"]) → Plain K H' (.str z)) ∧ ((∃ m, Atom (.str z) m) ∨ V.str z = .ref bA) := fun z hz hk => ⟨hk, fun H' _ => .inl ⟨z, rfl, by omega⟩, .inl ⟨_, .str z⟩⟩
    have atB : ∀ (u : V) (m : String), Atom u m → (∀ x, u ≠ .str x) → kitB m "str" = some false → ofS isTok u = false ∧ (∀ H' : Hp, H' bA = some (.lst [.str "a"]) → Plain K H' u) ∧ ((∃ m, Atom u m) ∨ u = .ref bA) := fun u m hm hs hk => by
      have no : ∀ H', NoS K H' u := fun H' => ⟨hs, _, kit_ty hk, fun H2 _ => hm.ty⟩
      exact ⟨ofS_no (no H19) _, fun H' _ => .inr (no H'), .inl ⟨m, hm⟩⟩
    have hbad : ofS isTok v = false ∧ (∀ H' : Hp, H' bA = some (.lst [.str "a"]) → Plain K H' v) ∧ ((∃ m, Atom v m) ∨ v = .ref bA) := by
      simp only [List.mem_cons, List.not_mem_nil, or_false] at hv
      rcases hv with rfl | rfl | rfl | rfl | rfl | rfl | rfl | rfl | rfl | rfl | rfl | rfl | rfl | rfl | rfl
      · exact strB _ (by decide) (by decide +kernel)
      · exact strB _ (by decide) (by decide +kernel)
      · exact strB _ (by decide) (by decide +kernel)
      · exact strB _ (by decide) (by decide +kernel)
      · exact strB _ (by decide) (by decide +kernel)
      · exact strB _ (by decide) (by decide +kernel)
      · exact strB _ (by decide) (by decide +kernel)
      · exact strB _ (by decide) (by decide +kernel)
      · exact strB _ (by decide) (by decide +kernel)
      · exact strB _ (by decide) (by decide +kernel)
      · exact strB _ (by decide) (by decide +kernel)
      · exact atB _ _ (.int 7) (fun x z => (by cases z)) (by decide +kernel)
      · exact atB _ _ .non (fun x z => (by cases z)) (by decide +kernel)
      · have no : ∀ H' : Hp, H' bA = some (.lst [.str "a"]) → NoS K H' (.ref bA) := fun H' e' => ⟨fun x z => (by cases z), .type "list", kit_ty (by decide +kernel), fun H2 s2 => .base (.lst (s2 _ _ e'))⟩
        exact ⟨ofS_no (no H19 eb19) _, fun H' e' => .inr (no H' e'), .inr rfl⟩
      · exact atB _ _ (.bl true) (fun x z => (by cases z)) (by decide +kernel)
    -- where it is put
    refine ⟨.ref a, rfl, .ref D1, rfl, D1, vl ts, rfl, .inl (SqL.of eT19), _, _, rfl, rfl, a, _, _, rfl, P19, by omega, by omega, by omega, fun r2 H20 r20 r21 k20 P20 => ?_⟩
    have eT20 : H20 D1 = some (.lst (vl ts)) := k20 _ _ (aD_of P1 nD1).symm eT19
    have eb20 := k20 _ _ bAa eb19
    -- the four things
    have lvl : ∀ (lo hi : Option Int), (cutV (vl ts) lo hi).length ≤ 59 := fun lo hi => by
      have := cutV_length (vl ts) lo hi
      omega
    refine ⟨.ref D1, rfl, .int r2, rfl, r2, rfl, D1, vl ts, rfl, SqL.of eT20, fun q1 m1 => ?_⟩
    have w1 := same_upd (o := .lst (cutV (vl ts) none (some r2))) m1
    refine ⟨v, rfl, sz 1 (by decide), fun q2 m2 => ?_⟩
    have w2 := same_upd (o := .lst [v]) m2
    refine ⟨q1, q2, _, _, rfl, rfl, w2 _ _ upd_same, upd_same, by have := lvl none (some r2); show (cutV (vl ts) none (some r2)).length + 1 ≤ sizeLine; omega, fun q3 m3 => ?_⟩
    have w3 := same_upd (o := .lst (cutV (vl ts) none (some r2) ++ [v])) m3
    have w13 := (w1.trans w2).trans w3
    refine ⟨.ref D1, rfl, .int r2, rfl, r2, rfl, D1, vl ts, rfl, SqL.of (w13 _ _ eT20), fun q4 m4 => ?_⟩
    have w4 := same_upd (o := .lst (cutV (vl ts) (some r2) none)) m4
    refine ⟨q3, q4, _, _, rfl, rfl, w4 _ _ upd_same, upd_same, by have := lvl none (some r2); have := lvl (some r2) none; rw [List.length_append]; show _ + 1 + _ ≤ sizeLine; omega, fun q5 m5 => ?_⟩
    have hW : ∀ x ∈ cutV (vl ts) none (some r2) ++ [v] ++ cutV (vl ts) (some r2) none, x ∈ vl ts ∨ x = v := fun x hx => by
      rw [List.mem_append, List.mem_append, List.mem_singleton] at hx
      rcases hx with (h | h) | h
      · exact .inl (mem_cutV h)
      · exact .inr h
      · exact .inl (mem_cutV h)
    have lW : (cutV (vl ts) none (some r2) ++ [v] ++ cutV (vl ts) (some r2) none).length ≤ 200 := by
      have := lvl none (some r2)
      have := lvl (some r2) none
      rw [List.length_append, List.length_append]
      show _ + 1 + _ ≤ 200
      omega
    have vW : v ∈ cutV (vl ts) none (some r2) ++ [v] ++ cutV (vl ts) (some r2) none := by simp
    generalize cutV (vl ts) none (some r2) ++ [v] ++ cutV (vl ts) (some r2) none = W at hW lW vW
    have w5 := same_upd (o := .lst W) m5
    have w15 := (w13.trans w4).trans w5
    refine ⟨.ref D1, rfl, D1, vl ts, rfl, .inl ⟨SqL.of (w15 _ _ eT20), fun q6 m6 => ?_⟩⟩
    have w6 := same_upd (o := .tup (vl ts)) m6
    have w16 := w15.trans w6
    refine ⟨⟨_, rfl⟩, .ref D1, rfl, " ", D1, ts.map S, rfl, rfl, .inl (SqL.of (jE (w16 _ _ eT20))), jL h9 (by omega), ?_⟩
    rw [join_S]
    refine ⟨.ref D1, rfl, D1, rfl, ⟨_, SqL.of (w16 _ _ eT20)⟩, fun D7 nD7 => ?_⟩
    refine lc_it (walk_list (K := K) (a := D1) (xs := vl ts)) (fun i H' => Same (upd (upd (upd (upd (upd (upd H20 q1 (.lst (cutV (vl ts) none (some r2)))) q2 (.lst [v])) q3 (.lst (cutV (vl ts) none (some r2) ++ [v]))) q4 (.lst (cutV (vl ts) (some r2) none))) q5 (.lst W)) q6 (.tup (vl ts))) H' ∧ ∃ qs : List Addr, H' D7 = some (.lst (qs.map V.ref)) ∧ qs.length = i ∧ Paired (fun p (kv : Key × V) => SqT K H' p [kV kv.1, kv.2]) qs (pairs (ts.take i))) ⟨same_upd nD7, [], upd_same, rfl, .nil⟩ (fun i H' _ h => SqL.of (h.1 _ _ (w16 _ _ eT20))) ?_ ?_
    · rintro i x H21 H22 hi ⟨s21, qs, eD, lq, hpr⟩ ⟨rfl, hx⟩
      obtain ⟨t, htm⟩ : ∃ t, ts[i]? = some t := ⟨_, List.getElem?_eq_getElem (by omega)⟩
      have hxt : x = .str (S t) := by
        have : (vl ts)[i]? = some (.str (S t)) := by unfold vl; rw [List.getElem?_map, htm]; rfl
        rw [this] at hx
        exact (Option.some.inj hx).symm
      subst hxt
      refine ⟨rfl, lc_turn ?_⟩
      refine ⟨_, rfl, sz 2 (by decide), fun q8 m8 => ?_⟩
      have w8 := same_upd (o := .tup [.str (S t), .int 1]) m8
      have Dq : D7 ≠ q8 := ne_of_none eD m8
      refine ⟨_, w8 _ _ eD, ?_, fun b o hb => ?_, qs ++ [q8], ?_, ?_, ?_⟩
      · rw [List.length_map]
        omega
      · rw [upd_ne (ne_of_none hb nD7)]
        exact w8 _ _ (s21 _ _ hb)
      · rw [upd_same, List.map_append]
        rfl
      · rw [List.length_append, lq]
        rfl
      · have hi2 : i < ts.length := by omega
        have et : pairs (ts.take (i + 1)) = pairs (ts.take i) ++ [(.inr (S t), .int 1)] := by
          unfold pairs
          rw [List.take_succ_eq_append_getElem hi2, List.map_append, (List.getElem?_eq_some_iff.mp htm).2]
          rfl
        rw [et]
        have mono : ∀ {p : Addr} {xs : List V}, SqT K H22 p xs → SqT K (upd (upd H22 q8 (.tup [.str (S t), .int 1])) D7 (.lst (qs.map V.ref ++ [V.ref q8]))) p xs := fun {p xs} h => by
          rcases h with (h | ⟨o, h⟩) | h
          · exact .inl (.inl (by rw [upd_ne (fun e => by rw [e, eD] at h; cases h)]; exact w8 _ _ h))
          · exact .inl (.inr ⟨o, by rw [upd_ne (fun e => by rw [e, eD] at h; cases h)]; exact w8 _ _ h⟩)
          · exact .inr h
        exact paired_app (Paired.mapP hpr fun _ _ z => mono z) (.cons (SqT.of (by rw [upd_ne Dq.symm]; exact upd_same)) .nil)
    rintro H21 ⟨s21, qs, eD, lq, hpr⟩
    have etk : ts.take (vl ts).length = ts := List.take_of_length_le (by omega)
    rw [etk] at hpr
    refine ⟨D7, qs, pairs ts, rfl, SqL.of eD, hpr, fun q7 m7 => ⟨sz 4 (by decide), fun tq ntq => ?_⟩⟩
    obtain ⟨mo, ml⟩ := merge_one (pairs ts) [] (fun kv h => nomatch h) (pairs_one ts)
    have lpairs : (pairs ts).length = ts.length := by unfold pairs; rw [List.length_map]
    have w7 := same_upd (o := .dK (mergeK [] (pairs ts))) m7
    have wq := same_upd (o := .tup [.ref q5, .ref q6, .str (S (jn ts)), .ref q7]) ntq
    have e5 : (upd (upd H21 q7 (.dK (mergeK [] (pairs ts)))) tq (.tup [.ref q5, .ref q6, .str (S (jn ts)), .ref q7])) q5 = some (.lst W) := wq _ _ (w7 _ _ (s21 _ _ (w6 _ _ upd_same)))
    have e6 : (upd (upd H21 q7 (.dK (mergeK [] (pairs ts)))) tq (.tup [.ref q5, .ref q6, .str (S (jn ts)), .ref q7])) q6 = some (.tup (vl ts)) := wq _ _ (w7 _ _ (s21 _ _ upd_same))
    have e7 : (upd (upd H21 q7 (.dK (mergeK [] (pairs ts)))) tq (.tup [.ref q5, .ref q6, .str (S (jn ts)), .ref q7])) q7 = some (.dK (mergeK [] (pairs ts))) := wq _ _ upd_same
    have eb22 := wq _ _ (w7 _ _ (s21 _ _ (w16 _ _ eb20)))
    have q5b : bA ≠ q5 := ne_of_none ((w13.trans w4) _ _ eb20) m5
    have sAll : Same H20 (upd (upd H21 q7 (.dK (mergeK [] (pairs ts)))) tq (.tup [.ref q5, .ref q6, .str (S (jn ts)), .ref q7])) := ((w16.trans s21).trans w7).trans wq
    have etq : (upd (upd H21 q7 (.dK (mergeK [] (pairs ts)))) tq (.tup [.ref q5, .ref q6, .str (S (jn ts)), .ref q7])) tq = some (.tup [.ref q5, .ref q6, .str (S (jn ts)), .ref q7]) := upd_same
    generalize upd (upd H21 q7 (.dK (mergeK [] (pairs ts)))) tq (.tup [.ref q5, .ref q6, .str (S (jn ts)), .ref q7]) = Hv at e5 e6 e7 eb22 sAll etq ⊢
    -- each is refused
    have things : ∀ x, x ∈ [V.ref q5, .ref q6, .str (S (jn ts)), .ref q7] → ∀ H', Same Hv H' → Thing K H' x ∧ TxV K H' x false := by
      intro x hx H' s'
      simp only [List.mem_cons, List.not_mem_nil, or_false] at hx
      rcases hx with rfl | rfl | rfl | rfl
      · refine ⟨.inr ⟨q5, W, rfl, s' _ _ e5, by omega, fun y hy => ?_⟩, .inl ⟨q5, W, rfl, s' _ _ e5, by omega, fun y hy => ?_, ?_⟩⟩
        · rcases hW y hy with h | rfl
          · exact .inl (vl_atoms ts y h)
          · rcases hbad.2.2 with h | rfl
            · exact .inl h
            · exact .inr ⟨bA, [.str "a"], rfl, q5b, s' _ _ eb22, by decide, fun z hz => by rw [List.mem_singleton.mp hz]; exact ⟨_, .str _⟩⟩
        · rcases hW y hy with h | rfl
          · exact vl_plain h9 y h
          · exact hbad.2.1 _ (s' _ _ eb22)
        · symm
          cases e : W.all (ofS isTok) with
          | false => rfl
          | true =>
            have := List.all_eq_true.mp e v vW
            rw [hbad.1] at this
            cases this
      · have no : NoL K H' (.ref q6) := ⟨.type "tuple", kit_ty (by decide +kernel), fun H2 s2 => .base (.tup ((s'.trans s2) _ _ e6))⟩
        exact ⟨.inl ⟨no, .inr (.inl ⟨q6, q6, vl ts, vl ts, rfl, rfl, .inr ⟨s' _ _ e6, s' _ _ e6⟩, vl_refl ts, by omega⟩)⟩, .inr ⟨no, rfl⟩⟩
      · have no : NoL K H' (.str (S (jn ts))) := ⟨.type "str", kit_ty (by decide +kernel), fun H2 s2 => .base (.str _)⟩
        exact ⟨.inl ⟨no, atom_eqv (.str _) 3⟩, .inr ⟨no, rfl⟩⟩
      · have no : NoL K H' (.ref q7) := ⟨.type "dict", kit_ty (by decide +kernel), fun H2 s2 => .base (.dK ((s'.trans s2) _ _ e7))⟩
        exact ⟨.inl ⟨no, .inr (.inr ⟨q7, _, by decide, rfl, rfl, s' _ _ e7, by simp at ml; omega, one_val mo⟩)⟩, .inr ⟨no, rfl⟩⟩
    refine ⟨tq, rfl, ⟨_, SqT.of etq⟩, for_tup (K := K) (a := tq) (xs := [V.ref q5, .ref q6, .str (S (jn ts)), .ref q7])
      (fun i σ H' => (∃ y11 y12 : Option V, σ = [some (.ref a), some (.ref D1), some (.ref hA), some (.ref D3), some (.ref D4), some (.str (S (tightL ts))), y6, y7, some (.int r2), y9, some v, y11, y12, none, none]) ∧ Same Hv H') ⟨⟨none, none, rfl⟩, Same.refl _⟩ (fun i σ H' _ h => SqT.of (h.2 _ _ etq)) ?_ ?_⟩
    · rintro i x σ H22 hx ⟨⟨y11, y12, rfl⟩, s22⟩
      have hmem := List.mem_of_getElem? hx
      refine ⟨sz 2 (by decide), fun tw ntw => ?_⟩
      have stw := same_upd (o := .tup [.int 1, .int 2]) ntw
      refine ⟨tw, rfl, ⟨_, SqT.of upd_same⟩, for_tup (K := K) (a := tw) (xs := [V.int 1, .int 2])
        (fun i σ H' => (∃ y12 : Option V, σ = [some (.ref a), some (.ref D1), some (.ref hA), some (.ref D3), some (.ref D4), some (.str (S (tightL ts))), y6, y7, some (.int r2), y9, some v, some x, y12, none, none]) ∧ Same (upd H22 tw (.tup [.int 1, .int 2])) H') ⟨⟨_, rfl⟩, Same.refl _⟩ (fun i σ H' _ h => SqT.of (h.2 _ _ upd_same)) ?_ ?_⟩
      · rintro i2 y σ H23 hy ⟨⟨y12', rfl⟩, s23⟩
        obtain ⟨way, rfl, hway⟩ : ∃ way : Int, y = .int way ∧ (way = 1 ∨ way = 2) := by
          have := List.mem_of_getElem? hy
          simp only [List.mem_cons, List.not_mem_nil, or_false] at this
          rcases this with rfl | rfl
          · exact ⟨1, rfl, .inl rfl⟩
          · exact ⟨2, rfl, .inr rfl⟩
        have sv := (s22.trans stw).trans s23
        obtain ⟨_, tx⟩ := things x hmem H23 sv
        refine ⟨_, rfl, x, rfl, x, .inr ⟨way, hway, rfl, tx, fun H24 t s24 e24 => ?_⟩⟩
        obtain ⟨th, _⟩ := things x hmem H24 (sv.trans s24)
        exact ⟨x, rfl, t, x, rfl, e24, th, fun H25 s25 => ⟨true, rfl, iteF ⟨⟨_, rfl⟩, (s23.trans s24).trans s25⟩⟩⟩
      · rintro σ H23 ⟨⟨y12', rfl⟩, s23⟩
        exact ⟨⟨_, _, rfl⟩, (s22.trans stw).trans s23⟩
    rintro σ H22 ⟨⟨y11, y12, rfl⟩, s22⟩
    have sEnd : Same H20 H22 := sAll.trans s22
    refine q H22 ?_ ?_
    · intro b o hb hbo
      have b2 := k2 _ _ hb (k1 _ _ hb hbo)
      have b4 := k4 _ _ hb (k3 _ _ hb (s2 _ _ b2))
      have b13 := keep13 _ _ (ne_of_none b2 nh) (s412 _ _ b4)
      exact sEnd _ _ (k20 _ _ hb (k19 _ _ hb (sbL _ _ (s1318 _ _ b13))))
    · exact (P20.same sEnd).more (by omega)
end
end K2

set_option Elab.async false
set_option linter.all false
set_option maxRecDepth 100000
set_option maxHeartbeats 8000000
/-! k02: the law, whole -/
namespace K2
open PySem PySem.Spec PyProof.Rows L2 EL LW
open Ln (L isTok scan jn)
abbrev sLaw2 : Stmt := topS 46
abbrev nLw : List Str := ["_law_script", "_law_purse_here", "_law_turn", "_law_line_here"]
theorem scLaw2 : FnScope nLw ["_law_script"] (defScope sLaw2) := ⟨rfl, rfl, rfl, by decide +kernel, rfl, by decide +kernel, by decide +kernel⟩
section
variable {P : Program} {w : World} {K : PySem.W.Frag} {mg : Str → Option Value} {base : Heap} {C : Addr}
def spEdge : Sp := fun vs _ Q _ => vs = [] ∧ ∀ H', Q (.bl true) H'
def spLaw2 (K : PySem.W.Frag) : Sp := fun vs H Q _ => ∃ (a : Addr) (ns : List Int), vs = [.ref a] ∧ SqL K H a (ns.map V.int) ∧ ns.length ≤ 63 ∧ ∀ H', Q (.bl true) H'
theorem ok_law2 {f : Addr} {fd : FuncData} (F : Fun K "law" "law" sLaw2 f fd) (Z : Cs P w K mg base C)
    (X : Cl P w K mg base CX0 10 "_law_text_right" ["_law_purse_here"] spTextR) (Y : Cl P w K mg base CX0 10 "_law_edges_right" [] spEdge) : FnOk P w K mg base CX0 11 f fd ["_law_script"] (spLaw2 K) := by
  refine F.ok scLaw2 (fun vs H Q E h => ?_) (fun cdv A outer s H vs Q E hr h => ?_)
  · obtain ⟨a, ns, rfl, _⟩ := h
    rfl
  · obtain ⟨a, ns, rfl, hS, hl, q⟩ := h
    have nd := scLaw2.nd
    have r9 := hr.mono (by decide : 9 ≤ 10)
    have r4 := hr.mono (by decide : 4 ≤ 10)
    have r2 := hr.mono (by decide : 2 ≤ 10)
    refine ⟨_, pss_cons (ps_for PassesOwn.never rfl (pi_list (pe_call Z.purses.G r2 (by rfl) Z.purses.g Z.purses.kp Z.purses.b .nil pass0 (pa_cons (pv 0) (pa_cons pe_int pa_nil)))) (pg_name (i := 1) nd rfl (.inl rfl))
        (pss_cons (ps_if (pt_not (pt_val (pe_call X.G hr (by rfl) X.g X.kp X.b .nil pass0 (pa_cons (pv 1) pa_nil)))) (pss_one (ps_ret pe_bl)) pss_nil)
        (pss_one (ps_for PassesOwn.never rfl (pi_range1 rfl Z.range (pa_cons pe_int pa_nil)) (pg_name (i := 2) nd rfl (.inl rfl))
          (pss_cons (ps_set (i := 3) nd rfl (.inl rfl) (pe_call Z.wild.G r4 (by rfl) Z.wild.g Z.wild.kp Z.wild.b .nil pass0 (pa_cons (pv 1) pa_nil)))
          (pss_one (ps_if (pt_not (pt_val (pe_call Z.cutR.G r9 (by rfl) Z.cutR.g Z.cutR.kp Z.cutR.b .nil pass0 (pa_cons (pv 3) (pa_cons (pe_call Z.scanned.G r2 (by rfl) Z.scanned.g Z.scanned.kp Z.scanned.b .nil pass0 (pa_cons (pv 3) pa_nil)) pa_nil))))) (pss_one (ps_ret pe_bl)) pss_nil)))))))
      (pss_one (ps_ret (pe_call0 Y.G hr (by rfl) Y.g Y.kp Y.b .nil pass0))), ?_⟩
    refine ⟨.ref a, rfl, a, ns, 3, rfl, hS, hl, by decide, fun H1 p as s1 np ep l60 ndp pas hP => ⟨p, rfl, ⟨_, SqL.of ep⟩, ?_⟩⟩
    refine for_list (xs := as.map V.ref) (fun i σ H' => (∃ y1 y2 y3 : Option V, σ = [some (.ref a), y1, y2, y3]) ∧ H' p = some (.lst (as.map V.ref)) ∧ ∀ (j : Nat) b, i ≤ j → as[j]? = some b → Prs H' b 0)
      ⟨⟨_, _, _, rfl⟩, ep, fun j b _ hb => (hP b (List.mem_of_getElem? hb)).1⟩ (fun i σ H' _ h => SqL.of h.2.1) ?_ ?_
    · rintro i x σ H2 hx ⟨⟨y1, y2, y3, rfl⟩, ep2, hP2⟩
      rw [List.getElem?_map] at hx
      obtain ⟨b, hb, rfl⟩ := Option.map_eq_some_iff.mp hx
      have hpb : p ≠ b := fun e => pas (e ▸ List.mem_of_getElem? hb)
      have fin : ∀ H3, Keep b H2 H3 → H3 p = some (.lst (as.map V.ref)) ∧ ∀ (j : Nat) c, i + 1 ≤ j → as[j]? = some c → Prs H3 c 0 := fun H3 k3 => by
        refine ⟨k3 _ _ hpb ep2, fun j c hj hc => ?_⟩
        refine (hP2 j c (by omega) hc).keep k3 fun e => ?_
        obtain ⟨hi, gi⟩ := List.getElem?_eq_some_iff.mp hb
        obtain ⟨hj2, gj⟩ := List.getElem?_eq_some_iff.mp hc
        exact (List.pairwise_iff_getElem.mp ndp) i j hi hj2 (by omega) (by rw [gi, gj, e])
      refine ⟨.ref b, rfl, b, 0, rfl, hP2 i b (Nat.le_refl _) hb, by decide, fun H3 k3 P3 => ⟨true, rfl, iteF ?_⟩⟩
      refine ⟨8, rfl, by decide, by decide, for_range (n := 8) (fun j σ H' => (∃ y2 y3 : Option V, σ = [some (.ref a), some (.ref b), y2, y3]) ∧ Keep b H2 H' ∧ Prs H' b (2000 + 40 * j)) ⟨⟨_, _, rfl⟩, k3, P3.more (by omega)⟩ ?_ ?_⟩
      · rintro j σ H4 hj ⟨⟨z2, z3, rfl⟩, k4, P4⟩
        refine ⟨.ref b, rfl, b, 2000 + 40 * j, rfl, P4, by omega, fun x H5 lx ax k5 P5 => ?_⟩
        have hgt := all_good_tok (cp x)
        refine ⟨_, rfl, _, rfl, x, rfl, by omega, ax, fun hg H6 t s6 nt e6 => ?_, fun hg H6 s6 => ?_⟩
        · refine ⟨x, .ref t, rfl, by omega, .inr ⟨t, rfl, e6, by rw [← hgt]; exact hg⟩, fun H7 s7 => ⟨true, rfl, iteF ⟨⟨_, _, rfl⟩, (k4.trans k5).trans (s6.trans s7).keep, ?_⟩⟩⟩
          exact (P5.same (s6.trans s7)).more (by omega)
        · refine ⟨x, .non, rfl, by omega, .inl ⟨rfl, by rw [← hgt]; exact hg⟩, fun H7 s7 => ⟨true, rfl, iteF ⟨⟨_, _, rfl⟩, (k4.trans k5).trans (s6.trans s7).keep, ?_⟩⟩⟩
          exact (P5.same (s6.trans s7)).more (by omega)
      · rintro σ H4 ⟨⟨z2, z3, rfl⟩, k4, P4⟩
        exact ⟨⟨_, _, _, rfl⟩, fin H4 k4⟩
    · rintro σ H2 ⟨⟨y1, y2, y3, rfl⟩, _, _⟩
      exact ⟨rfl, fun H3 => q H3⟩
end
end K2

set_option Elab.async false
set_option linter.all false
set_option maxRecDepth 100000
set_option maxHeartbeats 8000000
/-! k02: a call of keywords only; rows of lines and what is due -/
namespace K2
open PySem PySem.Spec PyProof.Rows L2 EL LW
open Ln (L isTok scan jn)
section
variable {X : Cx} {CX : CXT} {k : Nat} {f : Addr} {fd : FuncData} {ps ks : List Str} {sp : Sp} {E : XK} {x : Str} {p pos : Pos} {kws : List Keyword} {tk : TA} {g : List Value → List Value → List Value} {gV : List V → List V → List V}
/-- f(k = v, ..) -/
theorem pe_callK0 (F : FnOk X.prog X.w X.K X.mg X.base CX k f fd ps sp) (hr : Room k X.A) (hg : Gl X x) (hm : X.mg x = some (.ref f)) (hk : PySem.W.keepIn X.K (.ref f) = true) (hb : KBinds X.K fd ps ks g gV) (hx : Passes CX X E)
    (hkw : PK X kws tk) (hall : (backToKw pos (keywordEach kws X.env)).all (·.1.isSome) = true := by rfl) (hks : (backToKw pos (keywordEach kws X.env)).filterMap (·.1) = ks := by rfl)
    (hdb : (x == ("__debug__" : Str)) = false := by decide)
    (hpl : ((backTo pos (starEach [] X.env)).any (·.1) || (backToKw pos (keywordEach kws X.env)).any (·.1.isNone)) = false := by rfl) :
    PE X (.Call (.Name x p) [] kws pos) (tCallK sp gV E tNil tk) := by
  refine ⟨fun pins s σ H Q I h => ?_⟩
  refine wpAny_Call_Name_kw (ld_glob I hg hm ?_ hdb)
  refine PySem.W.callWith_KW0 (h₀ := X.base) I.ok.mod.kin hk hall ?_ hpl
  refine thn (hkw.run pos pins s σ H _ I h) fun ws s2 ⟨zs, H2, I2, rz, q2⟩ => ⟨I2.kIn, ?_⟩
  rw [hks]
  exact run_fnk (us := []) (vs := []) F hr hb hx I2 .nil rz q2
end
def only {α : Type} : List α → List α → List α
  | [], [w] => [w]
  | _, _ => []
/-- cut(line = v) -/
theorem kb_line {K : PySem.W.Frag} {qual : Str} {x : Str} {st : Stmt} {f : Addr} {fd : FuncData} (F : Fun K x qual st f fd)
    (h : ∀ (kV doc pm : Value) (an : Option Addr) (cdv ct u : Value), bindArgs (PySem.W.fnOf x qual (defArgs st) (defBody st) (defScope st) .none kV doc pm an cdv ct) ⟨[], [(("line" : Str), u)]⟩ = pure [(("line" : Str), u)]) :
    KBinds K fd ["line"] ["line"] only only := by
  obtain ⟨oc, od, kV, doc, pm, an, cdv, ct, osl, rfl, lk, hcd⟩ := F.ex
  refine ⟨fun s us ws _ hl => ?_, fun r rz => ?_⟩
  · match us, ws, hl with
    | [], [u], _ => exact .of_eq (h kV doc pm an cdv ct u)
    | [], [], hl => cases hl
    | [], _ :: _ :: _, hl => cases hl
    | _ :: _, _, hl => cases hl
  · cases r with
    | cons _ _ => exact .nil
    | nil =>
      cases rz with
      | nil => exact .nil
      | cons a b =>
        cases b with
        | nil => exact .cons a .nil
        | cons _ _ => exact .nil
/-! ### rows -/
abbrev Row := Str × Option (List Str)
def tStrs : List Str → TA
  | [] => tNil
  | y :: ys => tCons (tC (.str y)) (tStrs ys)
def tDue : Option (List Str) → TE
  | none => tC .non
  | some ys => tLst (tStrs ys)
def tRow (r : Row) : TE := tTup (tCons (tC (.str r.1)) (tCons (tDue r.2) tNil))
def tRows : List Row → TA
  | [] => tNil
  | r :: rs => tCons (tRow r) (tRows rs)
theorem strs_run {σ : L2.St} {H : Hp} : ∀ {ys : List Str} {Q : List V → Hp → Prop}, Q (ys.map V.str) H → tStrs ys σ H Q
  | [], _, h => h
  | y :: ys, Q, h => strs_run (ys := ys) (Q := fun xs H2 => Q (.str y :: xs) H2) h
def DueAt (H : Hp) (d : V) : Option (List Str) → Prop
  | none => d = .non
  | some ys => ∃ p, d = .ref p ∧ H p = some (.lst (ys.map V.str))
def RowAt (H : Hp) (v : V) (r : Row) : Prop := ∃ t d, v = .ref t ∧ H t = some (.tup [.str r.1, d]) ∧ DueAt H d r.2
theorem DueAt.same {H H' : Hp} (s : Same H H') {d : V} : ∀ {o : Option (List Str)}, DueAt H d o → DueAt H' d o
  | none, h => h
  | some _, ⟨p, e, h⟩ => ⟨p, e, s _ _ h⟩
theorem RowAt.same {H H' : Hp} (s : Same H H') {v : V} {r : Row} : RowAt H v r → RowAt H' v r := fun ⟨t, d, e, h, k⟩ => ⟨t, d, e, s _ _ h, k.same s⟩
def smallR (r : Row) : Bool := match r.2 with | none => true | some ys => decide (ys.length ≤ 100)
theorem due_run {σ : L2.St} {H : Hp} {Q : VK} {o : Option (List Str)} (hz : ∀ ys, o = some ys → ys.length ≤ 100) (h : ∀ d H', Same H H' → DueAt H' d o → Q d H') : tDue o σ H Q := by
  cases o with
  | none => exact h _ _ (Same.refl _) rfl
  | some ys =>
    refine strs_run ⟨by rw [List.length_map]; exact Nat.le_trans (hz _ rfl) (sz 100 (by decide)), fun p np => ?_⟩
    exact h _ _ (same_upd np) ⟨p, rfl, upd_same⟩
theorem row_run {σ : L2.St} {H : Hp} {Q : VK} {r : Row} (hz : smallR r = true) (h : ∀ v H', Same H H' → RowAt H' v r → Q v H') : tRow r σ H Q := by
  refine due_run (fun ys e => by unfold smallR at hz; rw [e] at hz; exact of_decide_eq_true hz) fun d H1 s1 hd => ⟨sz 2 (by decide), fun t nt => ?_⟩
  exact h _ _ (s1.trans (same_upd nt)) ⟨t, d, rfl, upd_same, hd.same (same_upd nt)⟩
theorem rows_run {σ : L2.St} : ∀ {rs : List Row} {H : Hp} {Q : List V → Hp → Prop}, rs.all smallR = true → (∀ vs H', Same H H' → Paired (RowAt H') vs rs → Q vs H') → tRows rs σ H Q
  | [], H, Q, _, h => h _ _ (Same.refl _) .nil
  | r :: rs, H, Q, hz, h => by
    rw [List.all_cons, Bool.and_eq_true] at hz
    refine row_run hz.1 fun v H1 s1 hv => rows_run (rs := rs) hz.2 fun vs H2 s2 hp => h _ _ (s1.trans s2) (.cons (hv.same s2) hp)
theorem rowsAt_same {H H' : Hp} (s : Same H H') {vs : List V} {rs : List Row} (h : Paired (RowAt H) vs rs) : Paired (RowAt H') vs rs := Paired.mapP h fun _ _ z => z.same s
theorem paired_row {α β : Type} {F : α → β → Prop} : ∀ {a : List α} {b : List β} {i : Nat} {x : α}, Paired F a b → a[i]? = some x → ∃ y, b[i]? = some y ∧ F x y
  | _, _, 0, x, .cons h _, e => by
    obtain rfl : _ = x := by simpa using e
    exact ⟨_, rfl, h⟩
  | _, _, i + 1, x, .cons _ t, e => paired_row (i := i) t (by simpa using e)
  | _, _, _, _, .nil, e => by simp at e
/-- a row that is right -/
def rowB (r : Row) : Bool := decide (r.1.length ≤ 1000) && match r.2 with
  | none => !((scan (cp r.1)).all isTok)
  | some ys => (scan (cp r.1)).all isTok && decide (ys = (scan (cp r.1)).map S)
end K2

set_option Elab.async false
set_option linter.all false
set_option maxRecDepth 100000
set_option maxHeartbeats 8000000
/-! k02: rows grown, rows of signs -/
namespace K2
open PySem PySem.Spec PyProof.Rows L2 EL LW
open Ln (L isTok scan jn)
def signStrs (x : Str) : List Str := x.cps.toList.map fun c => ⟨#[c]⟩
theorem signs_strs (x : Str) : signsOf x = (signStrs x).map V.str := by
  unfold signsOf signStrs
  rw [List.map_map]
  rfl
theorem signStrs_len (x : Str) : (signStrs x).length = x.length := by
  unfold signStrs
  rw [List.length_map, Array.length_toList]
  rfl
theorem rowAt_updD {H : Hp} {D : Addr} {vs us : List V} {rs : List Row} {v : V} {r : Row} (hp : Paired (RowAt H) vs rs) (eD : H D = some (.lst vs)) (hr : r.2 ≠ some []) (h : RowAt H v r) : RowAt (upd H D (.lst us)) v r := by
  obtain ⟨t, d, rfl, ht, hd⟩ := h
  have n1 : t ≠ D := fun e => by rw [e, eD] at ht; cases ht
  refine ⟨t, d, rfl, by rw [upd_ne n1]; exact ht, ?_⟩
  obtain ⟨a, o⟩ := r
  cases o with
  | none => exact hd
  | some ys =>
    obtain ⟨p, rfl, hpp⟩ := hd
    have n2 : p ≠ D := fun e => by
      rw [e, eD] at hpp
      cases ys with
      | nil => exact hr rfl
      | cons y ys =>
        have e2 : vs = V.str y :: ys.map V.str := by
          injection hpp with e3
          injection e3 with e4
        subst e2
        cases hp with
        | cons h _ =>
          obtain ⟨_, _, e5, _⟩ := h
          cases e5
    exact ⟨p, rfl, by rw [upd_ne n2]; exact hpp⟩
section
variable {K : PySem.W.Frag}
theorem lc_rows {a0 : Option V} {H : Hp} {Q : VK} {x : Str} {te : TE} {mk : Str → Row} (hx : x.length ≤ 100) (hmk : ∀ y, (mk y).2 ≠ some [])
    (hte : ∀ (y : Str) (H1 : Hp) (Q' : VK), (∀ v H', Same H1 H' → RowAt H' v (mk y) → Q' v H') → te [a0, none, none, none, some (.str y)] H1 Q')
    (q : ∀ D vs H', Same H H' → H' D = some (.lst vs) → Paired (RowAt H') vs ((signStrs x).map mk) → Q (.ref D) H') :
    tLc (iList K (tCB rListS (tCons (tC (.str x)) tNil))) (gName 4) tYes te [4] [a0, none, none, none, none] H Q := by
  refine ⟨x, rfl, Nat.le_trans hx (sz 100 (by decide)), fun p np => ⟨p, rfl, ⟨_, SqL.of upd_same⟩, fun D nD => ?_⟩⟩
  have sp0 := same_upd (o := .lst (signsOf x)) np
  have hlen : (signsOf x).length = x.length := by rw [signs_strs, List.length_map, signStrs_len]
  refine lc_list (K := K) (a := p) (xs := signsOf x) (fun i H' => Same (upd H p (.lst (signsOf x))) H' ∧ ∃ vs : List V, H' D = some (.lst vs) ∧ vs.length = i ∧ Paired (fun v r => RowAt H' v r ∧ r.2 ≠ some []) vs (((signStrs x).take i).map mk))
    ⟨same_upd nD, [], upd_same, rfl, .nil⟩ (fun i H' _ h => SqL.of (h.1 _ _ upd_same)) ?_ ?_
  · rintro i y H1 hi ⟨s1, vs, eD, lv, hp⟩
    have hi1 : i < x.length := by
      have := (List.getElem?_eq_some_iff.mp hi).1
      omega
    rw [signs_strs, List.getElem?_map] at hi
    obtain ⟨z, hz, rfl⟩ := Option.map_eq_some_iff.mp hi
    refine ⟨rfl, lc_turn (hte z H1 _ fun v H2 s2 hv => ?_)⟩
    have hp2 : Paired (RowAt H2) vs (((signStrs x).take i).map mk) := Paired.mapP hp fun _ _ h => h.1.same s2
    have eD2 := s2 _ _ eD
    refine ⟨vs, eD2, ?_, fun b o hb => ?_, vs ++ [v], upd_same, ?_, ?_⟩
    · have := sz 100 (by decide)
      omega
    · rw [upd_ne (ne_of_none hb nD)]
      exact s2 _ _ (s1 _ _ hb)
    · rw [List.length_append, lv]
      rfl
    · have hi2 : i < (signStrs x).length := by rw [signStrs_len]; exact hi1
      have et : ((signStrs x).take (i + 1)).map mk = ((signStrs x).take i).map mk ++ [mk z] := by
        rw [List.take_succ_eq_append_getElem hi2, List.map_append, (List.getElem?_eq_some_iff.mp hz).2]
        rfl
      rw [et]
      exact paired_app (Paired.mapP hp fun _ _ h => ⟨rowAt_updD hp2 eD2 h.2 (h.1.same s2), h.2⟩) (.cons ⟨rowAt_updD hp2 eD2 (hmk z) hv, hmk z⟩ .nil)
  · rintro H1 ⟨s1, vs, eD, lv, hp⟩
    rw [List.take_of_length_le (by rw [hlen, signStrs_len]; exact Nat.le_refl _)] at hp
    exact q D vs H1 (sp0.trans s1) eD (Paired.mapP hp fun _ _ h => h.1)
/-- rows + [..] -/
theorem cat_rows {te : TE} {σ : L2.St} {rs0 rs : List Row} {H : Hp} {Q : VK} {tl : TE} (hl : rs0.length ≤ 100) (hl2 : rs.length ≤ 100)
    (h1 : ∀ Q' : VK, (∀ (R' : Addr) vs' H', Same H H' → H' R' = some (.lst vs') → Paired (RowAt H') vs' rs0 → Q' (.ref R') H') → te σ H Q')
    (h2 : ∀ (H1 : Hp) (Q' : VK), Same H H1 → (∀ (R' : Addr) vs' H', Same H1 H' → H' R' = some (.lst vs') → Paired (RowAt H') vs' rs → Q' (.ref R') H') → tl σ H1 Q')
    (q : ∀ (R' : Addr) vs' H', Same H H' → H' R' = some (.lst vs') → Paired (RowAt H') vs' (rs0 ++ rs) → Q (.ref R') H') : tOp rCat te tl σ H Q := by
  refine h1 _ fun R1 vs1 H1 s1 e1 p1 => h2 H1 _ s1 fun R2 vs2 H2 s2 e2 p2 => ?_
  have l1 := Paired.length p1
  have l2 := Paired.length p2
  refine ⟨R1, R2, vs1, vs2, rfl, rfl, s2 _ _ e1, e2, Nat.le_trans (by omega : _ ≤ 200) (sz 200 (by decide)), fun p np => ?_⟩
  have s3 := same_upd (o := .lst (vs1 ++ vs2)) np
  exact q p _ _ ((s1.trans s2).trans s3) upd_same (paired_app (rowsAt_same (s2.trans s3) p1) (rowsAt_same s3 p2))
theorem lst_rows {σ : L2.St} {rs : List Row} {H : Hp} {Q : VK} (hz : rs.all smallR = true) (hl : rs.length ≤ 100)
    (q : ∀ (R' : Addr) vs' H', Same H H' → H' R' = some (.lst vs') → Paired (RowAt H') vs' rs → Q (.ref R') H') : tLst (tRows rs) σ H Q := by
  refine rows_run hz fun vs H1 s1 hp => ⟨Nat.le_trans (by rw [Paired.length hp]; exact hl) (sz 100 (by decide)), fun p np => ?_⟩
  have s2 := same_upd (o := .lst vs) np
  exact q p vs _ (s1.trans s2) upd_same (rowsAt_same s2 hp)
theorem var_rows {σ : L2.St} {R : Addr} {vs : List V} {rs : List Row} {H : Hp} {Q : VK} (e : σ[0]? = some (some (.ref R))) (eR : H R = some (.lst vs)) (hp : Paired (RowAt H) vs rs)
    (q : ∀ (R' : Addr) vs' H', Same H H' → H' R' = some (.lst vs') → Paired (RowAt H') vs' rs → Q (.ref R') H') : tVar 0 σ H Q := ⟨_, e, q R vs H (Same.refl _) eR hp⟩
end
end K2

set_option Elab.async false
set_option linter.all false
set_option maxRecDepth 100000
set_option maxHeartbeats 8000000
/-! k02: the edges -/
namespace K2
open PySem PySem.Spec PyProof.Rows L2 EL LW
open Ln (L isTok scan jn)
open PySem.EV (ErrC ErrI)
abbrev sEdge : Stmt := topS 45
abbrev nEd : List Str := ["_law_rows", "_law_line_here", "_law_due", "_law_value", "_law_sign"]
theorem scEdge : FnScope nEd [] (defScope sEdge) := ⟨rfl, rfl, rfl, by decide +kernel, rfl, by decide +kernel, by decide +kernel⟩
def rs0 : List Row := [("", some []), ("   ", some []), ("abcdefgh'abcdefgh", some ["abcdefgh", "'abcdefgh"]), ("abcdefghi", none), ("12345678", some ["12345678"])]
def rs1 : List Row := [("123456789", none), ("00", none), ("0 0", some ["0", "0"]), ("01", none), ("10", some ["10"]), ("'", none), ("' a", none)]
def rs2 : List Row := [("''a", none), ("'a'b", some ["'a", "'b"]), ("a'b", some ["a", "'b"]), ("3x3", some ["3", "x", "3"]), ("'abcdefghi", none)]
def rs3 : List Row := [("a\nb", none), ("a_b", none), ("A", none), ("'3", none), ("()((", some ["(", ")", "(", "("]), ("a\\b", none)]
def rs5 : List Row := [("a\tb", none), ("\t", none), ("\n", none), (" a", some ["a"]), ("a ", some ["a"]), ("a  7", some ["a", "7"]), ("a7b", some ["a", "7", "b"])]
section
variable {P : Program} {w : World} {K : PySem.W.Frag} {mg : Str → Option Value} {base : Heap} {C : Addr}
theorem ok_edges {f : Addr} {fd : FuncData} (F : Fun K "_law_edges_right" "_law_edges_right" sEdge f fd) (Z : Cs P w K mg base C) (kb : KBinds K Z.cut.fd ["line"] ["line"] only only) : FnOk P w K mg base CX0 10 f fd [] spEdge := by
  refine F.ok scEdge (fun vs H Q E h => ?_) (fun cdv A outer s H vs Q E hr h => ?_)
  · rw [h.1]
    rfl
  · obtain ⟨rfl, q⟩ := h
    have nd := scEdge.nd
    have r8 := hr.mono (by decide : 8 ≤ 9)
    have r7 := hr.mono (by decide : 7 ≤ 9)
    have r6 := hr.mono (by decide : 6 ≤ 9)
    refine ⟨_, pss_cons (ps_set (i := 0) nd rfl (.inl rfl) (pe_lst (show PA _ _ (tRows rs0) from (pa_cons (pe_tup (pa_cons pe_str (pa_cons (pe_lst pa_nil) pa_nil))) (pa_cons (pe_tup (pa_cons pe_str (pa_cons (pe_lst pa_nil) pa_nil))) (pa_cons (pe_tup (pa_cons pe_str (pa_cons (pe_lst (pa_cons pe_str (pa_cons pe_str pa_nil))) pa_nil))) (pa_cons (pe_tup (pa_cons pe_str (pa_cons pe_non pa_nil))) (pa_cons (pe_tup (pa_cons pe_str (pa_cons (pe_lst (pa_cons pe_str pa_nil)) pa_nil))) pa_nil))))))))
      (pss_cons (ps_set (i := 0) nd rfl (.inl rfl) (pe_op op_cat (pv 0) (pe_lst (show PA _ _ (tRows rs1) from (pa_cons (pe_tup (pa_cons pe_str (pa_cons pe_non pa_nil))) (pa_cons (pe_tup (pa_cons pe_str (pa_cons pe_non pa_nil))) (pa_cons (pe_tup (pa_cons pe_str (pa_cons (pe_lst (pa_cons pe_str (pa_cons pe_str pa_nil))) pa_nil))) (pa_cons (pe_tup (pa_cons pe_str (pa_cons pe_non pa_nil))) (pa_cons (pe_tup (pa_cons pe_str (pa_cons (pe_lst (pa_cons pe_str pa_nil)) pa_nil))) (pa_cons (pe_tup (pa_cons pe_str (pa_cons pe_non pa_nil))) (pa_cons (pe_tup (pa_cons pe_str (pa_cons pe_non pa_nil))) pa_nil)))))))))))
      (pss_cons (ps_set (i := 0) nd rfl (.inl rfl) (pe_op op_cat (pv 0) (pe_lst (show PA _ _ (tRows rs2) from (pa_cons (pe_tup (pa_cons pe_str (pa_cons pe_non pa_nil))) (pa_cons (pe_tup (pa_cons pe_str (pa_cons (pe_lst (pa_cons pe_str (pa_cons pe_str pa_nil))) pa_nil))) (pa_cons (pe_tup (pa_cons pe_str (pa_cons (pe_lst (pa_cons pe_str (pa_cons pe_str pa_nil))) pa_nil))) (pa_cons (pe_tup (pa_cons pe_str (pa_cons (pe_lst (pa_cons pe_str (pa_cons pe_str (pa_cons pe_str pa_nil)))) pa_nil))) (pa_cons (pe_tup (pa_cons pe_str (pa_cons pe_non pa_nil))) pa_nil)))))))))
      (pss_cons (ps_set (i := 0) nd rfl (.inl rfl) (pe_op op_cat (pv 0) (pe_lst (show PA _ _ (tRows rs3) from (pa_cons (pe_tup (pa_cons pe_str (pa_cons pe_non pa_nil))) (pa_cons (pe_tup (pa_cons pe_str (pa_cons pe_non pa_nil))) (pa_cons (pe_tup (pa_cons pe_str (pa_cons pe_non pa_nil))) (pa_cons (pe_tup (pa_cons pe_str (pa_cons pe_non pa_nil))) (pa_cons (pe_tup (pa_cons pe_str (pa_cons (pe_lst (pa_cons pe_str (pa_cons pe_str (pa_cons pe_str (pa_cons pe_str pa_nil))))) pa_nil))) (pa_cons (pe_tup (pa_cons pe_str (pa_cons pe_non pa_nil))) pa_nil))))))))))
      (pss_cons (ps_set (i := 0) nd rfl (.inl rfl) (pe_op op_cat (pe_op op_cat (pv 0) (pe_lc (own := [("_law_sign", 4)]) (g := gName 4) (tt := tYes) rfl nd (pi_list (pe_callTy (call_listS rfl) (by rfl) Z.list boot_list (pa_cons pe_str pa_nil))) (blkOk_by (own := [("_law_sign", 4)]) (N := nEd) (sc := defScope sEdge) (by decide +kernel)) (fun _ _ _ _ _ => pg_name (i := 4) nd rfl (Or.inl rfl)) (fun _ _ _ _ _ => pts_nil) (fun _ _ _ _ _ => pe_tup (pa_cons (pv 4) (pa_cons (pe_lst (pa_cons (pv 4) pa_nil)) pa_nil))))) (pe_lc (own := [("_law_sign", 4)]) (g := gName 4) (tt := tYes) rfl nd (pi_list (pe_callTy (call_listS rfl) (by rfl) Z.list boot_list (pa_cons pe_str pa_nil))) (blkOk_by (own := [("_law_sign", 4)]) (N := nEd) (sc := defScope sEdge) (by decide +kernel)) (fun _ _ _ _ _ => pg_name (i := 4) nd rfl (Or.inl rfl)) (fun _ _ _ _ _ => pts_nil) (fun _ _ _ _ _ => pe_tup (pa_cons (pv 4) (pa_cons pe_non pa_nil))))))
      (pss_cons (ps_set (i := 0) nd rfl (.inl rfl) (pe_op op_cat (pv 0) (pe_lst (show PA _ _ (tRows rs5) from (pa_cons (pe_tup (pa_cons pe_str (pa_cons pe_non pa_nil))) (pa_cons (pe_tup (pa_cons pe_str (pa_cons pe_non pa_nil))) (pa_cons (pe_tup (pa_cons pe_str (pa_cons pe_non pa_nil))) (pa_cons (pe_tup (pa_cons pe_str (pa_cons (pe_lst (pa_cons pe_str pa_nil)) pa_nil))) (pa_cons (pe_tup (pa_cons pe_str (pa_cons (pe_lst (pa_cons pe_str pa_nil)) pa_nil))) (pa_cons (pe_tup (pa_cons pe_str (pa_cons (pe_lst (pa_cons pe_str (pa_cons pe_str pa_nil))) pa_nil))) (pa_cons (pe_tup (pa_cons pe_str (pa_cons (pe_lst (pa_cons pe_str (pa_cons pe_str (pa_cons pe_str pa_nil)))) pa_nil))) pa_nil)))))))))))
      (pss_cons (ps_for PassesOwn.never rfl (pi_list (pv 0)) (pg_tup (by rfl) (pgs_cons (pg_name (i := 1) nd rfl (.inl rfl)) (pgs_cons (pg_name (i := 2) nd rfl (.inl rfl)) pgs_nil)))
        (pss_one (ps_if (pt_not (pt_val (pe_call Z.cutR.G hr (by rfl) Z.cutR.g Z.cutR.kp Z.cutR.b .nil pass0 (pa_cons (pv 1) (pa_cons (pv 2) pa_nil))))) (pss_one (ps_ret pe_bl)) pss_nil)))
      (pss_cons (ps_for PassesOwn.never rfl (pi_tup (pe_tup (pa_cons pe_non (pa_cons pe_int (pa_cons pe_bl (pa_cons (pe_lst (pa_cons pe_str pa_nil)) (pa_cons (pe_tup (pa_cons pe_str pa_nil)) (pa_cons (pe_disp (pps_cons pe_str pe_int pps_nil) rfl rfl (by simp) (by decide)) (pa_cons (pe_lst pa_nil) pa_nil))))))))) (pg_name (i := 3) nd rfl (.inl rfl))
        (pss_one (ps_if (pt_not (pt_val (pe_call Z.very.G r6 (by rfl) Z.very.g Z.very.kp Z.very.b .nil pass0 (pa_cons (pe_call Z.told.G r8 (by rfl) Z.told.g Z.told.kp Z.told.b .nil pass0 (pa_cons pe_int (pa_cons (pv 3) pa_nil))) (pa_cons (pv 3) pa_nil))))) (pss_one (ps_ret pe_bl)) pss_nil)))
      (pss_one (ps_ret (pe_and (pe_cmpR op_eq (pe_call Z.lineOf.G r7 (by rfl) Z.lineOf.g Z.lineOf.kp Z.lineOf.b .nil passN (pa_cons (pe_lst pa_nil) pa_nil)) pe_str (nomark _)) (pe_and (pe_cmpR op_eq (pe_call Z.tightLine.G r7 (by rfl) Z.tightLine.g Z.tightLine.kp Z.tightLine.b .nil passN (pa_cons (pe_lst pa_nil) pa_nil)) pe_str (nomark _)) (pe_one (pe_cmpR (op_eqD hr.units) (pe_callK0 Z.cut.G r6 (by rfl) Z.cut.g Z.cut.kp kb passN (pk_cons pe_str pk_nil)) (pe_lst (pa_cons pe_str (pa_cons pe_str (pa_cons pe_str pa_nil)))) (nomark _)))))))))))))), ?_⟩
    have rowsOk : (rs0 ++ rs1 ++ rs2 ++ rs3 ++ (signStrs "+-*/<>=.,;:!?&|@^~[]{}()").map (fun y => (y, some [y])) ++ (signStrs "#$`_\"'").map (fun y => (y, none)) ++ rs5).all rowB = true := by decide +kernel
    have go : ∀ {t : TE} {u : TS} {D : Ends} {σ : L2.St} {H : Hp}, t σ H (fun v H' => u D (σ.set 0 (some v)) H') → tSeq (tAsg t (gName 0)) u D σ H := fun h => h
    refine go ?_
    refine lst_rows (rs := rs0) (by decide +kernel) (by decide) fun R0 v0 H0 s0 e0 p0 => ?_
    refine go ?_
    refine cat_rows (rs0 := rs0) (rs := rs1) (by decide) (by decide) (fun Q' => var_rows rfl e0 p0) (fun H1 Q' _ q => lst_rows (by decide +kernel) (by decide) q) fun R1 v1 H1 s1 e1 p1 => ?_
    refine go ?_
    refine cat_rows (rs0 := rs0 ++ rs1) (rs := rs2) (by decide) (by decide) (fun Q' => var_rows rfl e1 p1) (fun H1 Q' _ q => lst_rows (by decide +kernel) (by decide) q) fun R2 v2 H2 s2 e2 p2 => ?_
    refine go ?_
    refine cat_rows (rs0 := rs0 ++ rs1 ++ rs2) (rs := rs3) (by decide) (by decide) (fun Q' => var_rows rfl e2 p2) (fun H1 Q' _ q => lst_rows (by decide +kernel) (by decide) q) fun R3 v3 H3 s3 e3 p3 => ?_
    refine go ?_
    refine cat_rows (rs0 := rs0 ++ rs1 ++ rs2 ++ rs3 ++ (signStrs "+-*/<>=.,;:!?&|@^~[]{}()").map (fun y => (y, some [y]))) (rs := (signStrs "#$`_\"'").map (fun y => (y, none))) (by decide +kernel) (by decide +kernel)
      (fun Q' q' => cat_rows (rs0 := rs0 ++ rs1 ++ rs2 ++ rs3) (by decide) (by decide +kernel) (fun Q' => var_rows rfl e3 p3)
        (fun H1 Q' _ q => lc_rows (mk := fun y => (y, some [y])) (by decide +kernel) (fun y z => by cases z) (fun y H2 Q2 q2 => ⟨_, rfl, _, rfl, sz 1 (by decide), fun p np => ⟨sz 2 (by decide), fun t nt => q2 _ _ ((same_upd np).trans (same_upd nt)) ⟨t, _, rfl, upd_same, p, rfl, same_upd nt _ _ upd_same⟩⟩⟩) q) q')
      (fun H1 Q' _ q => lc_rows (mk := fun y => (y, none)) (by decide +kernel) (fun y z => by cases z) (fun y H2 Q2 q2 => ⟨_, rfl, sz 2 (by decide), fun t nt => q2 _ _ (same_upd nt) ⟨t, _, rfl, upd_same, rfl⟩⟩) q) fun R4 v4 H4 s4 e4 p4 => ?_
    refine go ?_
    refine cat_rows (rs := rs5) (by decide +kernel) (by decide) (fun Q' => var_rows rfl e4 p4) (fun H1 Q' _ q => lst_rows (by decide +kernel) (by decide) q) fun R5 v5 H5 s5 e5 p5 => ?_
    have hok := List.all_eq_true.mp rowsOk
    generalize rs0 ++ rs1 ++ rs2 ++ rs3 ++ (signStrs "+-*/<>=.,;:!?&|@^~[]{}()").map (fun y => (y, some [y])) ++ (signStrs "#$`_\"'").map (fun y => (y, none)) ++ rs5 = RS at hok p5
    -- each row
    refine ⟨.ref R5, rfl, R5, rfl, ⟨_, SqL.of e5⟩, ?_⟩
    refine for_list (xs := v5) (fun i σ H' => (∃ a b : Option V, σ = [some (.ref R5), a, b, none, none]) ∧ Same H5 H') ⟨⟨_, _, rfl⟩, Same.refl _⟩ (fun i σ H' _ h => SqL.of (h.2 _ _ e5)) ?_ ?_
    · rintro i x σ H6 hx ⟨⟨a, b, rfl⟩, s6⟩
      obtain ⟨r, hr5, hrow⟩ := paired_row p5 hx
      have hb := hok r (List.mem_of_getElem? hr5)
      obtain ⟨t, d, rfl, ht, hd⟩ := hrow.same s6
      refine ⟨t, _, rfl, SqT.of ht, rfl, _, _, rfl, _, _, rfl, rfl, ?_⟩
      refine ⟨_, rfl, _, rfl, r.1, d, rfl, ?_, ?_, fun H7 s7 => ⟨true, rfl, iteF ⟨⟨_, _, rfl⟩, s6.trans s7⟩⟩⟩
      · unfold rowB at hb
        exact of_decide_eq_true (Bool.and_eq_true_iff.mp hb).1
      · obtain ⟨x, o⟩ := r
        cases o with
        | none => exact .inl ⟨hd, by
            have := (Bool.and_eq_true_iff.mp hb).2
            simpa using this⟩
        | some ys =>
          obtain ⟨p, rfl, hp⟩ := hd
          have h2 := (Bool.and_eq_true_iff.mp hb).2
          have h3 := Bool.and_eq_true_iff.mp h2
          have h4 : ys = (scan (cp x)).map S := of_decide_eq_true h3.2
          refine .inr ⟨p, rfl, ?_, h3.1⟩
          rw [hp, h4, List.map_map]
          rfl
    rintro σ H6 ⟨⟨a, b, rfl⟩, s6⟩
    -- what is no text
    refine ⟨sz 1 (by decide), fun q1 m1 => ⟨sz 1 (by decide), fun q2 m2 => fun q3 m3 => ⟨upd_same, [(.inr "a", .int 1)], rfl, by decide, ⟨Nat.zero_le _, fun q4 m4 => ⟨sz 7 (by decide), fun tq ntq => ?_⟩⟩⟩⟩⟩
    have n3 : Same (upd (upd H6 q1 (HO.lst [V.str "a"])) q2 (HO.tup [V.str "a"])) (upd (upd (upd (upd H6 q1 (HO.lst [V.str "a"])) q2 (HO.tup [V.str "a"])) q3 (HO.dK [])) q3 (HO.dK (mergeK [] [(Sum.inr "a", V.int 1)]))) := fun c o e => by
      rw [upd_ne (ne_of_none e m3), upd_ne (ne_of_none e m3)]
      exact e
    have w1 := same_upd (o := .lst [V.str "a"]) m1
    have w2 := same_upd (o := .tup [V.str "a"]) m2
    have w4 := same_upd (o := .lst []) m4
    have wq := same_upd (o := .tup [V.non, .int 7, .bl true, .ref q1, .ref q2, .ref q3, .ref q4]) ntq
    have sAll := (((w1.trans w2).trans n3).trans w4).trans wq
    have e1 := wq _ _ (w4 _ _ (n3 _ _ (w2 _ _ (upd_same (H := H6) (a := q1) (o := .lst [V.str "a"])))))
    have e2 := wq _ _ (w4 _ _ (n3 _ _ (upd_same (H := upd H6 q1 (HO.lst [V.str "a"])) (a := q2) (o := .tup [V.str "a"]))))
    have e3 := wq _ _ (w4 _ _ (upd_same (H := upd (upd (upd H6 q1 (HO.lst [V.str "a"])) q2 (HO.tup [V.str "a"])) q3 (HO.dK [])) (a := q3) (o := HO.dK (mergeK [] [(Sum.inr "a", V.int 1)]))))
    have e4 := wq _ _ (upd_same (H := upd (upd (upd (upd H6 q1 (HO.lst [V.str "a"])) q2 (HO.tup [V.str "a"])) q3 (HO.dK [])) q3 (HO.dK (mergeK [] [(Sum.inr "a", V.int 1)]))) (a := q4) (o := HO.lst []))
    have etq := upd_same (H := upd (upd (upd (upd (upd H6 q1 (HO.lst [V.str "a"])) q2 (HO.tup [V.str "a"])) q3 (HO.dK [])) q3 (HO.dK (mergeK [] [(Sum.inr "a", V.int 1)]))) q4 (HO.lst [])) (a := tq) (o := .tup [V.non, .int 7, .bl true, .ref q1, .ref q2, .ref q3, .ref q4])
    generalize upd (upd (upd (upd (upd (upd H6 q1 (HO.lst [V.str "a"])) q2 (HO.tup [V.str "a"])) q3 (HO.dK [])) q3 (HO.dK (mergeK [] [(Sum.inr "a", V.int 1)]))) q4 (HO.lst [])) tq (HO.tup [V.non, V.int 7, V.bl true, V.ref q1, V.ref q2, V.ref q3, V.ref q4]) = Hv at e1 e2 e3 e4 etq sAll ⊢
    obtain ⟨mo, ml⟩ := merge_one [(Sum.inr ("a" : Str), V.int 1)] [] (fun kv h => nomatch h) (fun kv h => by rw [List.mem_singleton.mp h])
    have things : ∀ x, x ∈ [V.non, V.int 7, V.bl true, V.ref q1, V.ref q2, V.ref q3, V.ref q4] → ∀ H', Same Hv H' → Thing K H' x ∧ NoS K H' x := by
      intro x hx H' s'
      have at2 : ∀ (u : V) (m : String), Atom u m → (∀ x, u ≠ .str x) → kitB m "str" = some false → kitB m "list" = some false → Thing K H' u ∧ NoS K H' u := fun u m hm hs hk hk2 =>
        ⟨.inl ⟨⟨_, kit_ty hk2, fun H2 _ => hm.ty⟩, atom_eqv hm 3⟩, ⟨hs, _, kit_ty hk, fun H2 _ => hm.ty⟩⟩
      simp only [List.mem_cons, List.not_mem_nil, or_false] at hx
      rcases hx with rfl | rfl | rfl | rfl | rfl | rfl | rfl
      · exact at2 _ _ .non (fun x z => (by cases z)) (by decide +kernel) (by decide +kernel)
      · exact at2 _ _ (.int 7) (fun x z => (by cases z)) (by decide +kernel) (by decide +kernel)
      · exact at2 _ _ (.bl true) (fun x z => (by cases z)) (by decide +kernel) (by decide +kernel)
      · exact ⟨.inr ⟨q1, [V.str "a"], rfl, s' _ _ e1, by decide, fun y hy => by rw [List.mem_singleton.mp hy]; exact .inl ⟨_, .str _⟩⟩, ⟨fun x z => (by cases z), .type "list", kit_ty (by decide +kernel), fun H2 s2 => .base (.lst ((s'.trans s2) _ _ e1))⟩⟩
      · exact ⟨.inl ⟨⟨.type "tuple", kit_ty (by decide +kernel), fun H2 s2 => .base (.tup ((s'.trans s2) _ _ e2))⟩, .inr (.inl ⟨q2, q2, [V.str "a"], [V.str "a"], rfl, rfl, .inr ⟨s' _ _ e2, s' _ _ e2⟩, .cons (atom_eqv (.str _) _) .nil, by decide⟩)⟩, ⟨fun x z => (by cases z), .type "tuple", kit_ty (by decide +kernel), fun H2 s2 => .base (.tup ((s'.trans s2) _ _ e2))⟩⟩
      · exact ⟨.inl ⟨⟨.type "dict", kit_ty (by decide +kernel), fun H2 s2 => .base (.dK ((s'.trans s2) _ _ e3))⟩, .inr (.inr ⟨q3, _, by decide, rfl, rfl, s' _ _ e3, (by simp at ml; omega), one_val mo⟩)⟩, ⟨fun x z => (by cases z), .type "dict", kit_ty (by decide +kernel), fun H2 s2 => .base (.dK ((s'.trans s2) _ _ e3))⟩⟩
      · exact ⟨.inr ⟨q4, [], rfl, s' _ _ e4, by decide, fun y hy => nomatch hy⟩, ⟨fun x z => (by cases z), .type "list", kit_ty (by decide +kernel), fun H2 s2 => .base (.lst ((s'.trans s2) _ _ e4))⟩⟩
    refine ⟨tq, rfl, ⟨_, SqT.of etq⟩, for_tup (K := K) (a := tq) (xs := [V.non, V.int 7, V.bl true, V.ref q1, V.ref q2, V.ref q3, V.ref q4])
      (fun i σ H' => (∃ c : Option V, σ = [some (.ref R5), a, b, c, none]) ∧ Same Hv H') ⟨⟨none, rfl⟩, Same.refl _⟩ (fun i σ H' _ h => SqT.of (h.2 _ _ etq)) ?_ ?_⟩
    · rintro i x σ H22 hx ⟨⟨c, rfl⟩, s22⟩
      have hmem := List.mem_of_getElem? hx
      obtain ⟨_, nos⟩ := things x hmem H22 s22
      refine ⟨x, rfl, x, .inl ⟨rfl, .inr ⟨nos, fun H24 t s24 e24 => ?_⟩⟩⟩
      obtain ⟨th, _⟩ := things x hmem H24 (s22.trans s24)
      exact ⟨x, rfl, t, x, rfl, e24, th, fun H25 s25 => ⟨true, rfl, iteF ⟨⟨_, rfl⟩, (s22.trans s24).trans s25⟩⟩⟩
    rintro σ H22 ⟨⟨c, rfl⟩, s22⟩
    refine ⟨Nat.zero_le _, fun q5 m5 => ?_⟩
    have empty : ∀ (qq : Addr) (H7 : Hp) (f7 : L → L) (g7 : List L → L), g7 [] = [] → ∀ (a7 : Addr) (ts7 : List L), (V.ref qq) = V.ref a7 → upd H7 qq (HO.lst []) a7 = some (.lst (vl ts7)) → V.str (S (g7 ts7)) = V.str "" := by
      intro qq H7 _ g7 hg a7 ts7 e7 h7
      cases e7
      rw [upd_same] at h7
      cases ts7 with
      | nil => rw [hg]; rfl
      | cons t ts => simp [vl] at h7
    refine ⟨.ref q5, true, rfl, vl_text (ts := []) upd_same (by decide) (fun t h => nomatch h), fun _ a7 ts7 e7 h7 _ _ H23 s23 => ⟨rfl, true, ?_, iteT ?_⟩, fun z => Bool.noConfusion z⟩
    · rw [empty q5 _ id jn rfl a7 ts7 e7 h7]
      rfl
    refine ⟨Nat.zero_le _, fun q6 m6 => ?_⟩
    refine ⟨.ref q6, true, rfl, vl_text (ts := []) upd_same (by decide) (fun t h => nomatch h), fun _ a8 ts8 e8 h8 _ _ H24 s24 => ⟨rfl, true, ?_, iteT ?_⟩, fun z => Bool.noConfusion z⟩
    · rw [empty q6 _ id tightL rfl a8 ts8 e8 h8]
      rfl
    refine ⟨.str "a+b", rfl, .inl ⟨"a+b", rfl, by decide, fun _ H25 p s25 np e25 => ?_, fun hb => ?_⟩⟩
    · refine ⟨sz 3 (by decide), fun q7 m7 => ?_⟩
      have ev : vl (scan (cp "a+b")) = [V.str "a", V.str "+", V.str "b"] := by decide +kernel
      have w7 := same_upd (o := .lst [V.str "a", V.str "+", V.str "b"]) m7
      have e26 : upd H25 q7 (.lst [V.str "a", V.str "+", V.str "b"]) q7 = some (.lst (vl (scan (cp "a+b")))) := by rw [upd_same, ev]
      refine ⟨.list ((scan (cp "a+b")).map dS), .list ((scan (cp "a+b")).map dS), .lst (SqL.of (w7 _ _ e25)) (dS_all _), .lst (SqL.of e26) (dS_all _), by decide +kernel, by decide +kernel, ?_⟩
      rw [show PyData.eqv (.list ((scan (cp "a+b")).map dS)) (.list ((scan (cp "a+b")).map dS)) = true from by
        show PyData.eqvAll ((scan (cp "a+b")).map dS) ((scan (cp "a+b")).map dS) = true
        rw [eqv_texts, decide_eq_true rfl]]
      exact q _
    · have : (scan (cp "a+b")).all isTok = true := by decide +kernel
      rw [this] at hb
      cases hb

end
end K2

set_option Elab.async false
set_option linter.all false
set_option maxRecDepth 100000
set_option maxHeartbeats 8000000
/-! k02: from the top to the law; what the top has left -/
namespace K2
open PySem PySem.Spec PyProof.Rows L2 EL LW
open Ln (L isTok scan jn)
open PySem.EV (ErrC ErrI iA iB iS)
open PySem.W (nsIn findIn keepIn typeIn codeIn fnOf)
/-! ### a call of the law's def where nothing is being shown -/
section
variable {P : Program} {w : World} {K : PySem.W.Frag} {mg mb : Str → Option Value} {k : Nat} {fa a : Addr} {fd : FuncData} {x : Str} {sp : Sp} {s : Shared} {vs : List Value}
/-- what the law's call must come to -/
abbrev Told (s : Shared) : Result → Shared → Prop := fun r s' => r = .ok (.ret (.bool true)) ∧ OldK s.heap s'.heap ∧ s'.os = s.os ∧ AllBare s'.gens
/-- the world as the top left it, seen over a base in which what H tracks is hidden -/
structure Stage (K : PySem.W.Frag) (mg : Str → Option Value) (s : Shared) : Prop where
  kin : K.In s.heap
  ns : s.heap.Ns mainGlobals mg
  bs : ∃ mb, s.heap.Ns builtinsNs mb ∧ ∀ x : Str, x ≠ "__name__" → mb x = bootBuiltins x
  lim : s.heap.NoLimit
  gens : s.gens = #[]
theorem told_at (S : Stage K mg s) (ha : s.heap.get? a = some { cls := .type "list", data := .seq vs.toArray }) (hr : Room k callerA)
    (F : ∀ base : Heap, K.In base → base.Ns mainGlobals mg → FnOk P w K mg base CX0 k fa fd [x] sp) (hbind : ∀ (s : Shared) (u : Value), BindsTo s fd ⟨[u], []⟩ [(x, u)])
    {H : Hp} (one : ∀ b, b ≠ a → H b = none) (frozen : H a = none ∨ ∃ o xs, H a = some (.frz o (.lst xs))) (hok : HOk P w H s.heap) (hK : H a ≠ none → K.lookup a = none)
    (hsp : sp [.ref a] H (fun v _ => v = .bl true) fun _ _ _ => False) : codeAny (model P w) callerA (.call (.ref fa) ⟨[.ref a], []⟩) (Told s) s := by
  have out : ∀ {b : Addr}, H b ≠ none → b = a := fun {b} h => by
    rcases Nat.decEq b a with n | e
    · exact absurd (one b n) h
    · exact e
  have seen : ∀ {b : Addr} {o : Obj}, s.heap.get? b = some o → H b = none → (hidT s.heap H).get? b = some o := fun e n => hidT_get e n
  have dictsSeen : ∀ {b : Addr} {m : Str → Option Value}, s.heap.Ns b m → (hidT s.heap H).Ns b m := by
    rintro b m ⟨o, es, ep, e, d, r⟩
    refine ⟨o, es, ep, seen e ?_, d, r⟩
    cases q : H b with
    | none => rfl
    | some u =>
      cases out (b := b) (by rw [q]; simp)
      rw [ha] at e
      cases e
      cases (show Data.seq vs.toArray _ = Data.dict es ep from d)
  have kin : K.In (hidT s.heap H) := by
    intro b o e
    refine seen (S.kin b o e) ?_
    cases q : H b with
    | none => rfl
    | some u =>
      cases out (b := b) (by rw [q]; simp)
      rw [hK (by rw [q]; simp)] at e
      cases e
  obtain ⟨mb, b1, b2⟩ := S.bs
  obtain ⟨mc, l1, l2⟩ := S.lim
  have e0 : Env0 P w K mg (hidT s.heap H) callerA [] s H :=
    ⟨rfl, ⟨kin, dictsSeen S.ns, ⟨mb, dictsSeen b1, b2⟩, ⟨mc, dictsSeen l1, l2⟩⟩, fun b o e => of_hidT e, Nat.le_of_eq (hidT_size _ _), trivial, fun b hb => absurd (show b ∈ ([] : List Addr) from hb) (by simp), hok, .of_eq S.gens⟩
  refine codeAny_mono ((F _ kin (dictsSeen S.ns)).run callerA [] s H ⟨[.ref a], []⟩ [.ref a] [.ref a] _ _ hr e0 (hbind s (.ref a)) (.cons rfl .nil) hsp) fun r s' h => ?_
  match r, h with
  | .error e, h => exact False.elim h
  | .ok .next, h => exact False.elim h
  | .ok .brk, h => exact False.elim h
  | .ok .cont, h => exact False.elim h
  | .ok (.ret u), ⟨v, H', os, bare, un, hok', r', q⟩ =>
    obtain rfl : v = .bl true := q
    obtain rfl : u = Value.bool true := r'
    refine ⟨rfl, OldK.of_keep fun b o e => ?_, os, bare⟩
    cases q : H b with
    | none => exact un.keep b o e q (by intro z; exact absurd (show b ∈ ([] : List Addr) from z) (by simp)) (by simp)
    | some u =>
      cases out (b := b) (by rw [q]; simp)
      rcases frozen with z | ⟨ob, xs, z⟩
      · rw [q] at z
        cases z
      · obtain ⟨e1, _⟩ := hok _ _ z
        obtain ⟨e2, _⟩ := hok' _ _ (un.frzs _ ob _ z)
        rw [e] at e1
        cases e1
        exact e2
theorem told {ns : List Int} (S : Stage K mg s) (ha : s.heap.get? a = some { cls := .type "list", data := .seq vs.toArray }) (hi : IntsAre vs ns) (hl : ns.length ≤ sizeLine) (hr : Room k callerA)
    (F : ∀ base : Heap, K.In base → base.Ns mainGlobals mg → FnOk P w K mg base CX0 k fa fd [x] sp) (hbind : ∀ (s : Shared) (u : Value), BindsTo s fd ⟨[u], []⟩ [(x, u)])
    (hsp : ∀ H : Hp, SqL K H a (ns.map V.int) → sp [.ref a] H (fun v _ => v = .bl true) fun _ _ _ => False) : codeAny (model P w) callerA (.call (.ref fa) ⟨[.ref a], []⟩) (Told s) s := by
  have rv := vals_ints hi
  have lz : vs.length ≤ sizeLine := by rw [hi.length]; exact hl
  cases hk : K.lookup a with
  | some o =>
    have e := S.kin a o hk
    rw [ha] at e
    cases e
    refine told_at S ha hr F hbind (H := fun _ => none) (fun _ _ => rfl) (.inl rfl) (fun b u z => nomatch (show (none : Option HO) = some u from z)) (fun z => absurd rfl z) (hsp _ (.inr ⟨_, vs.toArray, _, hk, rfl, rfl, rfl, ?_, ?_⟩))
    · rw [List.size_toArray]
      exact lz
    · simpa using rv
  | none =>
    have g : upd (fun _ => none) a (HO.frz { cls := .type "list", data := .seq vs.toArray } (.lst (ns.map V.int))) a = some (.frz { cls := .type "list", data := .seq vs.toArray } (.lst (ns.map V.int))) := upd_same
    refine told_at S ha hr F hbind (H := upd (fun _ => none) a (.frz { cls := .type "list", data := .seq vs.toArray } (.lst (ns.map V.int)))) (fun b n => by rw [upd_ne n]) (.inr ⟨_, _, g⟩) (fun b u z => ?_) (fun _ => hk) (hsp _ (.inl (.inr ⟨_, g⟩)))
    by_cases hb : b = a
    · subst hb
      rw [g] at z
      cases z
      exact ⟨ha, by rw [List.length_map]; exact hl, vs, _, rv, ha⟩
    · rw [upd_ne hb] at z
      cases z
end
/-- the goal that the head leaves -/
theorem walk {l : PySem.W.OpenLaw} {k : Nat} {q : Program} {loose : List Str} {XP : (Str → Option Value) → Heap → Prop} {YP : World → Heap → Prop} {d : DefRec} {K : Params → PySem.W.Frag} (hn : l.most = some 63) (hdf : d.params.defaults = []) (hr : Room k callerA)
    (hY : ∀ (w : World) (h : Heap), YP w h → (K w.params).In h)
    (F : ∀ (w : World) (mg : Str → Option Value) (fa : Addr) (h : Heap), (K w.params).In h → h.Ns mainGlobals mg → mg d.name = some (.ref fa) →
      ∃ fd : FuncData, (∀ (s : Shared) (u : Value), BindsTo s fd ⟨[u], []⟩ [("_law_script", u)]) ∧ ∀ base : Heap, (K w.params).In base → base.Ns mainGlobals mg → FnOk l.prog w (K w.params) mg base CX0 k fa fd ["_law_script"] (spLaw2 (K w.params))) :
    PySem.W.WalkO q loose XP YP l.row.toRowW d [] (fun f vs => PySem.call f vs) := by
  refine Att.attach_call hn hdf fun w s₀ s₁ mg mb fa o pm cd doc a vs ns G Y _ _ _ hmg hobj hints hlen hg => ?_
  have KX := hY w _ Y
  obtain ⟨fd, hb, hF⟩ := F w mg fa _ KX G.T.g hmg
  exact told ⟨KX, G.T.g, ⟨mb, G.T.b, G.T.builtins⟩, G.T.nolimit, hg⟩ hobj hints (Nat.le_trans hlen (by decide)) hr hF hb fun H hS => ⟨a, ns, rfl, hS, hlen, fun _ => rfl⟩

/-! ### classes of the top -/
structure Cls (K : PySem.W.Frag) (T : Addr) (x : Str) (C I : Addr) : Prop where
  at_ : nsIn K mainGlobals x = some (some (.ref C))
  z : ErrC K C T
  i : ErrI K C I

section
variable {K : PySem.W.Frag} {T C I : Addr} {x : Str}
theorem cls_mk {nm q : Str} {N : Addr} {bs : List Value} {sn : List Str} {sub : List Value} {ab : Bool} {col : Option Bool} {dd : Option Addr} {k0 k1 k2 k3 k5 : Option Value}
    {oc doc pm kV cdv ct : Value} {od an : Option Addr} {osl : Array (Option Value)} {qn : Str} {D : Addr} {oD : Obj} {nD : Nat} {p1 p2 p3 q1 q2 q3 q4 : Pos}
    (a : nsIn K mainGlobals x = some (some (.ref C))) (l : K.lookup C = some (excClassObj nm q C N bs (.ref T :: HandSPX.veTail) true sn sub ab col dd k0 k1 k2 k3 k5 "ValueError.__new__"))
    (sa : findIn K (.ref C) "__setattr__" = some (some (.builtin "object.__setattr__"))) (ga : findIn K (.ref C) "__getattribute__" = some (some (.builtin "BaseException.__getattribute__")))
    (gg : findIn K (.ref C) "__getattr__" = some none) (nv : findIn K (.ref C) "value" = some none) (ca : findIn K (.ref C) "__class__" = some (some (.builtin "object.__class__"))) (kC : keepIn K (.ref C) = true)
    (iC : findIn K (.ref C) "__init__" = some (some (.ref I))) (tC : typeIn K (.ref I) = some (.type "function"))
    (lI : K.lookup I = some ⟨oc, od, .func (fnOf "__init__" qn (iA p1 p2 p3) (iB q1 q2 q3 q4) iS (.ref D) kV doc pm an cdv ct), osl⟩) (cI : codeIn K cdv qn = true) (lD : K.lookup D = some oD) (dD : oD.data = .seq #[.none] nD) : Cls K T x C I :=
  ⟨a, ⟨⟨_, _, _, _, _, _, _, _, _, _, _, _, _, _, l⟩, sa, ga, gg, nv, ca, kC⟩, iC, tC, _, _, _, _, _, _, _, _, _, _, _, _, _, _, _, _, _, _, _, _, lI, cI, lD, dD⟩
end
/-! ### defs of the top -/
structure Fn (K : PySem.W.Frag) (x : Str) (st : Stmt) (f : Addr) (fd : FuncData) : Prop where
  at_ : nsIn K mainGlobals x = some (some (.ref f))
  F : Fun K x x st f fd
theorem fn_mk {K : PySem.W.Frag} {x : Str} {st : Stmt} {f : Addr} {oc : Value} {od an : Option Addr} {osl : Array (Option Value)} {kV doc pm cdv ct : Value} (a : nsIn K mainGlobals x = some (some (.ref f)))
    (l : K.lookup f = some ⟨oc, od, .func (fnOf x x (defArgs st) (defBody st) (defScope st) .none kV doc pm an cdv ct), osl⟩) (c : codeIn K cdv x = true) (k : keepIn K (.ref f) = true) : Fn K x st f (fnOf x x (defArgs st) (defBody st) (defScope st) .none kV doc pm an cdv ct) :=
  ⟨a, fun_mk l c k⟩


theorem all_mk {l : PySem.W.OpenLaw} {w : World} {K : PySem.W.Frag} {h : Heap} {mg : Str → Option Value} {fa T C I aB : Addr} (X : K.In h) (G : h.Ns mainGlobals mg) (hfa : mg "law" = some (.ref fa))
    (hc : Cls K T "InvalidText" C I) {t1 t2 t3 t4 t5 : Tok} (cL : nsIn K mainGlobals "LETTERS" = some (some (.str letS t1))) (cF : nsIn K mainGlobals "FIGURES" = some (some (.str figS t2))) (cS : nsIn K mainGlobals "SIGNS" = some (some (.str sgnS t3)))
    (cQ : nsIn K mainGlobals "QUOTE" = some (some (.str "'" t4))) (cM : nsIn K mainGlobals "MOST_SIGNS" = some (some (.int 8 t5))) (cB : nsIn K mainGlobals "BRACKETS" = some (some (.ref aB)))
    {oB : Obj} {its : Array Value} {nB : Nat} {u1 u2 : Tok} (lB : K.lookup aB = some oB) (tB : oB.cls = .type "tuple") (dB : oB.data = .seq its nB) (iB : its = #[.str "(" u1, .str ")" u2])
    {a0 : Addr} {d0 : FuncData} (f0 : Fn K "is_run" sRun a0 d0)
    {a1 : Addr} {d1 : FuncData} (f1 : Fn K "is_word" sIsWord a1 d1)
    {a2 : Addr} {d2 : FuncData} (f2 : Fn K "is_sign" sIsSign a2 d2)
    {a3 : Addr} {d3 : FuncData} (f3 : Fn K "is_number" sIsNum a3 d3)
    {a4 : Addr} {d4 : FuncData} (f4 : Fn K "is_quoted" sIsQuoted a4 d4)
    {a5 : Addr} {d5 : FuncData} (f5 : Fn K "is_token" sIsToken a5 d5)
    {a6 : Addr} {d6 : FuncData} (f6 : Fn K "is_text" sIsText a6 d6)
    {a7 : Addr} {d7 : FuncData} (f7 : Fn K "require_text" sReqText a7 d7)
    {a8 : Addr} {d8 : FuncData} (f8 : Fn K "run_end" sRunEnd a8 d8)
    {a9 : Addr} {d9 : FuncData} (f9 : Fn K "token_end" sTokEnd a9 d9)
    {a10 : Addr} {d10 : FuncData} (f10 : Fn K "cut" sCut a10 d10)
    {a11 : Addr} {d11 : FuncData} (f11 : Fn K "line_of" sLineOf a11 d11)
    {a12 : Addr} {d12 : FuncData} (f12 : Fn K "run_together" sTog a12 d12)
    {a13 : Addr} {d13 : FuncData} (f13 : Fn K "tight_line" sTight a13 d13)
    {a14 : Addr} {d14 : FuncData} (f14 : Fn K "_law_purse" sPurse a14 d14)
    {a15 : Addr} {d15 : FuncData} (f15 : Fn K "_law_mixed" sMixed a15 d15)
    {a16 : Addr} {d16 : FuncData} (f16 : Fn K "_law_draw" sDraw a16 d16)
    {a17 : Addr} {d17 : FuncData} (f17 : Fn K "_law_purses" sPurses a17 d17)
    {a18 : Addr} {d18 : FuncData} (f18 : Fn K "_law_one_of" sOneOf a18 d18)
    {a19 : Addr} {d19 : FuncData} (f19 : Fn K "_law_word" sWord a19 d19)
    {a20 : Addr} {d20 : FuncData} (f20 : Fn K "_law_number" sNumD a20 d20)
    {a21 : Addr} {d21 : FuncData} (f21 : Fn K "_law_token" sTokD a21 d21)
    {a22 : Addr} {d22 : FuncData} (f22 : Fn K "_law_wild" sWild a22 d22)
    {a23 : Addr} {d23 : FuncData} (f23 : Fn K "_law_kind" sKind a23 d23)
    {a24 : Addr} {d24 : FuncData} (f24 : Fn K "_law_joined" sJoined a24 d24)
    {a25 : Addr} {d25 : FuncData} (f25 : Fn K "_law_line" sLine a25 d25)
    {a26 : Addr} {d26 : FuncData} (f26 : Fn K "_law_good" sGood a26 d26)
    {a27 : Addr} {d27 : FuncData} (f27 : Fn K "_law_scanned" sScan a27 d27)
    {a28 : Addr} {d28 : FuncData} (f28 : Fn K "_law_exact" sExact a28 d28)
    {a29 : Addr} {d29 : FuncData} (f29 : Fn K "_law_told" sTold a29 d29)
    {a30 : Addr} {d30 : FuncData} (f30 : Fn K "_law_very" sVery a30 d30)
    {a31 : Addr} {d31 : FuncData} (f31 : Fn K "_law_cut_right" sCutR a31 d31)
    {a32 : Addr} {d32 : FuncData} (f32 : Fn K "_law_text_right" sTextR a32 d32)
    {a33 : Addr} {d33 : FuncData} (f33 : Fn K "_law_edges_right" sEdge a33 d33)
    {a34 : Addr} {d34 : FuncData} (f34 : Fn K "law" sLaw2 a34 d34)
    (zsum : nsIn K mainGlobals "sum" = some none)
    (zint : nsIn K mainGlobals "int" = some none)
    (zmax : nsIn K mainGlobals "max" = some none)
    (zmin : nsIn K mainGlobals "min" = some none)
    (zlen : nsIn K mainGlobals "len" = some none)
    (zrange : nsIn K mainGlobals "range" = some none)
    (zisinstance : nsIn K mainGlobals "isinstance" = some none)
    (zstr : nsIn K mainGlobals "str" = some none)
    (zlist : nsIn K mainGlobals "list" = some none)
    (ztuple : nsIn K mainGlobals "tuple" = some none)
    (zdict : nsIn K mainGlobals "dict" = some none)
    (zbool : nsIn K mainGlobals "bool" = some none)
    (zall : nsIn K mainGlobals "all" = some none)
    (zzip : nsIn K mainGlobals "zip" = some none)
    (zenumerate : nsIn K mainGlobals "enumerate" = some none)
    : ∃ fd : FuncData, (∀ (s : Shared) (u : Value), BindsTo s fd ⟨[u], []⟩ [("_law_script", u)]) ∧ ∀ base : Heap, K.In base → base.Ns mainGlobals mg → FnOk l.prog w K mg base CX0 11 fa fd ["_law_script"] (spLaw2 K) := by
  have e := hfa.symm.trans (PySem.W.mg_of X G f34.at_)
  cases e
  have mL := PySem.W.mg_of X G cL
  have mF := PySem.W.mg_of X G cF
  have mS := PySem.W.mg_of X G cS
  have mQ := PySem.W.mg_of X G cQ
  have mM := PySem.W.mg_of X G cM
  have mB := PySem.W.mg_of X G cB
  have mC := PySem.W.mg_of X G hc.at_
  have hB : ∀ H : Hp, SqT K H aB [.str "(", .str ")"] := fun H => .inr ⟨oB, its, nB, lB, tB, dB, by subst iB; exact sz 2 (by decide), by subst iB; exact .cons ⟨_, rfl⟩ (.cons ⟨_, rfl⟩ .nil)⟩
  have nsum := PySem.W.mg_none_of X G zsum
  have nint := PySem.W.mg_none_of X G zint
  have nmax := PySem.W.mg_none_of X G zmax
  have nmin := PySem.W.mg_none_of X G zmin
  have nlen := PySem.W.mg_none_of X G zlen
  have nrange := PySem.W.mg_none_of X G zrange
  have nisinstance := PySem.W.mg_none_of X G zisinstance
  have nstr := PySem.W.mg_none_of X G zstr
  have nlist := PySem.W.mg_none_of X G zlist
  have ntuple := PySem.W.mg_none_of X G ztuple
  have ndict := PySem.W.mg_none_of X G zdict
  have nbool := PySem.W.mg_none_of X G zbool
  have nall := PySem.W.mg_none_of X G zall
  have nzip := PySem.W.mg_none_of X G zzip
  have nenumerate := PySem.W.mg_none_of X G zenumerate
  have b0 := f0.F.binds (ps := ["value"]) fun _ _ _ _ _ _ us hl => match us, hl with | [_], _ => rfl
  have g0 := PySem.W.mg_of X G f0.at_
  have b1 := f1.F.binds (ps := ["value"]) fun _ _ _ _ _ _ us hl => match us, hl with | [_], _ => rfl
  have g1 := PySem.W.mg_of X G f1.at_
  have b2 := f2.F.binds (ps := ["value"]) fun _ _ _ _ _ _ us hl => match us, hl with | [_], _ => rfl
  have g2 := PySem.W.mg_of X G f2.at_
  have b3 := f3.F.binds (ps := ["value"]) fun _ _ _ _ _ _ us hl => match us, hl with | [_], _ => rfl
  have g3 := PySem.W.mg_of X G f3.at_
  have b4 := f4.F.binds (ps := ["value"]) fun _ _ _ _ _ _ us hl => match us, hl with | [_], _ => rfl
  have g4 := PySem.W.mg_of X G f4.at_
  have b5 := f5.F.binds (ps := ["value"]) fun _ _ _ _ _ _ us hl => match us, hl with | [_], _ => rfl
  have g5 := PySem.W.mg_of X G f5.at_
  have b6 := f6.F.binds (ps := ["value"]) fun _ _ _ _ _ _ us hl => match us, hl with | [_], _ => rfl
  have g6 := PySem.W.mg_of X G f6.at_
  have b7 := f7.F.binds (ps := ["text"]) fun _ _ _ _ _ _ us hl => match us, hl with | [_], _ => rfl
  have g7 := PySem.W.mg_of X G f7.at_
  have b8 := f8.F.binds (ps := ["line", "begin"]) fun _ _ _ _ _ _ us hl => match us, hl with | [_, _], _ => rfl
  have g8 := PySem.W.mg_of X G f8.at_
  have b9 := f9.F.binds (ps := ["line", "begin"]) fun _ _ _ _ _ _ us hl => match us, hl with | [_, _], _ => rfl
  have g9 := PySem.W.mg_of X G f9.at_
  have b10 := f10.F.binds (ps := ["line"]) fun _ _ _ _ _ _ us hl => match us, hl with | [_], _ => rfl
  have g10 := PySem.W.mg_of X G f10.at_
  have b11 := f11.F.binds (ps := ["text"]) fun _ _ _ _ _ _ us hl => match us, hl with | [_], _ => rfl
  have g11 := PySem.W.mg_of X G f11.at_
  have b12 := f12.F.binds (ps := ["token", "after"]) fun _ _ _ _ _ _ us hl => match us, hl with | [_, _], _ => rfl
  have g12 := PySem.W.mg_of X G f12.at_
  have b13 := f13.F.binds (ps := ["text"]) fun _ _ _ _ _ _ us hl => match us, hl with | [_], _ => rfl
  have g13 := PySem.W.mg_of X G f13.at_
  have b14 := f14.F.binds (ps := ["_law_script", "_law_at"]) fun _ _ _ _ _ _ us hl => match us, hl with | [_, _], _ => rfl
  have g14 := PySem.W.mg_of X G f14.at_
  have b15 := f15.F.binds (ps := ["_law_seed", "_law_turn", "_law_at"]) fun _ _ _ _ _ _ us hl => match us, hl with | [_, _, _], _ => rfl
  have g15 := PySem.W.mg_of X G f15.at_
  have b16 := f16.F.binds (ps := ["_law_purse_here", "_law_many"]) fun _ _ _ _ _ _ us hl => match us, hl with | [_, _], _ => rfl
  have g16 := PySem.W.mg_of X G f16.at_
  have b17 := f17.F.binds (ps := ["_law_script", "_law_few"]) fun _ _ _ _ _ _ us hl => match us, hl with | [_, _], _ => rfl
  have g17 := PySem.W.mg_of X G f17.at_
  have b18 := f18.F.binds (ps := ["_law_purse_here", "_law_some"]) fun _ _ _ _ _ _ us hl => match us, hl with | [_, _], _ => rfl
  have g18 := PySem.W.mg_of X G f18.at_
  have b19 := f19.F.binds (ps := ["_law_purse_here"]) fun _ _ _ _ _ _ us hl => match us, hl with | [_], _ => rfl
  have g19 := PySem.W.mg_of X G f19.at_
  have b20 := f20.F.binds (ps := ["_law_purse_here"]) fun _ _ _ _ _ _ us hl => match us, hl with | [_], _ => rfl
  have g20 := PySem.W.mg_of X G f20.at_
  have b21 := f21.F.binds (ps := ["_law_purse_here"]) fun _ _ _ _ _ _ us hl => match us, hl with | [_], _ => rfl
  have g21 := PySem.W.mg_of X G f21.at_
  have b22 := f22.F.binds (ps := ["_law_purse_here"]) fun _ _ _ _ _ _ us hl => match us, hl with | [_], _ => rfl
  have g22 := PySem.W.mg_of X G f22.at_
  have b23 := f23.F.binds (ps := ["_law_token_here"]) fun _ _ _ _ _ _ us hl => match us, hl with | [_], _ => rfl
  have g23 := PySem.W.mg_of X G f23.at_
  have b24 := f24.F.binds (ps := ["_law_one", "_law_other"]) fun _ _ _ _ _ _ us hl => match us, hl with | [_, _], _ => rfl
  have g24 := PySem.W.mg_of X G f24.at_
  have b25 := f25.F.binds (ps := ["_law_text", "_law_gaps"]) fun _ _ _ _ _ _ us hl => match us, hl with | [_, _], _ => rfl
  have g25 := PySem.W.mg_of X G f25.at_
  have b26 := f26.F.binds (ps := ["_law_token_here"]) fun _ _ _ _ _ _ us hl => match us, hl with | [_], _ => rfl
  have g26 := PySem.W.mg_of X G f26.at_
  have b27 := f27.F.binds (ps := ["_law_line_here"]) fun _ _ _ _ _ _ us hl => match us, hl with | [_], _ => rfl
  have g27 := PySem.W.mg_of X G f27.at_
  have b28 := f28.F.binds (ps := ["_law_one", "_law_other"]) fun _ _ _ _ _ _ us hl => match us, hl with | [_, _], _ => rfl
  have g28 := PySem.W.mg_of X G f28.at_
  have b29 := f29.F.binds (ps := ["_law_way", "_law_value"]) fun _ _ _ _ _ _ us hl => match us, hl with | [_, _], _ => rfl
  have g29 := PySem.W.mg_of X G f29.at_
  have b30 := f30.F.binds (ps := ["_law_told_here", "_law_thing"]) fun _ _ _ _ _ _ us hl => match us, hl with | [_, _], _ => rfl
  have g30 := PySem.W.mg_of X G f30.at_
  have b31 := f31.F.binds (ps := ["_law_line_here", "_law_due"]) fun _ _ _ _ _ _ us hl => match us, hl with | [_, _], _ => rfl
  have g31 := PySem.W.mg_of X G f31.at_
  have b32 := f32.F.binds (ps := ["_law_purse_here"]) fun _ _ _ _ _ _ us hl => match us, hl with | [_], _ => rfl
  have g32 := PySem.W.mg_of X G f32.at_
  have b33 := f33.F.binds (ps := []) fun _ _ _ _ _ _ us hl => match us, hl with | [], _ => rfl
  have g33 := PySem.W.mg_of X G f33.at_
  have b34 := f34.F.binds (ps := ["_law_script"]) fun _ _ _ _ _ _ us hl => match us, hl with | [_], _ => rfl
  have g34 := PySem.W.mg_of X G f34.at_
  refine ⟨d34, fun s u => ?_, fun base _ _ => ?_⟩
  · obtain ⟨_, _, _, _, _, _, _, _, _, rfl, _, _⟩ := f34.F.ex
    exact .of_eq rfl
  · have nm : Nms mg := ⟨nisinstance, nstr, nlist, ntuple, ndict, nbool, nlen, nall, nzip⟩
    have G0 := ok_run (P := l.prog) (w := w) (base := base) f0.F nisinstance nstr nlen mM
    have G1 := ok_word' (P := l.prog) (w := w) (base := base) f1.F f0.F.kp G0 b0 g0
    have G2 := ok_sign (P := l.prog) (w := w) (base := base) f2.F nisinstance nstr nlen mS
    have G3 := ok_num (P := l.prog) (w := w) (base := base) f3.F f0.F.kp G0 b0 g0
    have G4 := ok_quoted (P := l.prog) (w := w) (base := base) f4.F f1.F.kp G1 b1 g1 nisinstance nstr mQ
    have G5 := ok_token (P := l.prog) (w := w) (base := base) f5.F f1.F.kp G1 b1 g1 f2.F.kp G2 b2 g2 f3.F.kp G3 b3 g3 f4.F.kp G4 b4 g4 nisinstance nstr mB hB
    have G6 := ok_isText (P := l.prog) (w := w) (base := base) f6.F f5.F.kp G5 b5 g5 nisinstance nlist nall
    have G7 := ok_req (P := l.prog) (w := w) (base := base) f7.F f6.F.kp G6 b6 g6 hc.z hc.i mC
    have G8 := ok_runEnd (P := l.prog) (w := w) (base := base) f8.F nlen mL mF
    have G9 := ok_tokEnd (P := l.prog) (w := w) (base := base) f9.F f8.F.kp G8 b8 g8 nlist mL mF mQ
    have G10 := ok_cut (P := l.prog) (w := w) (base := base) f10.F f9.F.kp G9 b9 g9 f6.F.kp G6 b6 g6 hc.z hc.i mC nisinstance nstr nlen
    have G11 := ok_lineOf (P := l.prog) (w := w) (base := base) f11.F f7.F.kp G7 b7 g7
    have G12 := ok_tog (P := l.prog) (w := w) (base := base) f12.F f1.F.kp G1 b1 g1 f3.F.kp G3 b3 g3 f4.F.kp G4 b4 g4
    have G13 := ok_tight (P := l.prog) (w := w) (base := base) f13.F f7.F.kp G7 b7 g7 f12.F.kp G12 b12 g12 nenumerate
    have G14 := ok_purse (P := l.prog) (w := w) (base := base) (k := 0) f14.F nsum nint nmax
    have G16 := ok_draw (P := l.prog) (w := w) (base := base) f16.F f15.F b15 g15 nint nrange
    have G17 := ok_purses (P := l.prog) (w := w) (base := base) f17.F f14.F.kp G14 b14 g14 nlen nrange nmax nmin
    have G18 := ok_oneof (P := l.prog) (w := w) (base := base) f18.F f16.F.kp G16 b16 g16 nlen
    have G19 := ok_word (P := l.prog) (w := w) (base := base) f19.F f16.F.kp G16 b16 g16 nrange
    have G20 := ok_numD (P := l.prog) (w := w) (base := base) f20.F f16.F.kp G16 b16 g16 nrange
    have G21 := ok_tokD (P := l.prog) (w := w) (base := base) f21.F f16.F.kp G16 b16 g16 f19.F.kp G19 b19 g19 f20.F.kp G20 b20 g20 f18.F.kp G18 b18 g18 nlist
    have G22 := ok_wild (P := l.prog) (w := w) (base := base) f22.F f16.F.kp G16 b16 g16 f18.F.kp G18 b18 g18 nlen nrange
    have G23 := ok_kind (P := l.prog) (w := w) (base := base) (k := 0) (mg := mg) f23.F 
    have G24 := ok_joined (P := l.prog) (w := w) (base := base) f24.F f23.F.kp G23 b23 g23
    have G25 := ok_lineL (P := l.prog) (w := w) (base := base) f25.F f24.F.kp G24 b24 g24 nlen nrange nint
    have G26 := ok_good (P := l.prog) (w := w) (base := base) (k := 0) f26.F nlen nlist
    have G27 := ok_scan (P := l.prog) (w := w) (base := base) f27.F f26.F.kp G26 b26 g26
    have G28 := ok_exact (P := l.prog) (w := w) (base := base) f28.F b28 g28 nm 5
    have G29 := ok_told (P := l.prog) (w := w) (base := base) f29.F f10.F.kp G10 b10 g10 f11.F.kp G11 b11 g11 f13.F.kp G13 b13 g13 hc.z mC
    have G30 := ok_very (P := l.prog) (w := w) (base := base) f30.F f28.F.kp G28 b28 g28 nisinstance nlist
    have G31 := ok_cutR (P := l.prog) (w := w) (base := base) f31.F f28.F.kp G28 b28 g28 f29.F.kp G29 b29 g29
    let Z : Cs l.prog w K mg base C := { draw := ⟨a16, d16, f16.F.kp, G16, b16, g16⟩, one := ⟨a18, d18, f18.F.kp, G18, b18, g18⟩, token := ⟨a21, d21, f21.F.kp, G21, b21, g21⟩, wild := ⟨a22, d22, f22.F.kp, G22, b22, g22⟩, line := ⟨a25, d25, f25.F.kp, G25, b25, g25⟩, exact := ⟨a28, d28, f28.F.kp, G28, b28, g28⟩, scanned := ⟨a27, d27, f27.F.kp, G27, b27, g27⟩, cutR := ⟨a31, d31, f31.F.kp, G31, b31, g31⟩, told := ⟨a29, d29, f29.F.kp, G29, b29, g29⟩, very := ⟨a30, d30, f30.F.kp, G30, b30, g30⟩, cut := ⟨a10, d10, f10.F.kp, G10, b10, g10⟩, lineOf := ⟨a11, d11, f11.F.kp, G11, b11, g11⟩, tightLine := ⟨a13, d13, f13.F.kp, G13, b13, g13⟩, purses := ⟨a17, d17, f17.F.kp, G17, b17, g17⟩, len := nlen, range := nrange, list := nlist, tuple := ntuple, dict := ndict }
    have G32 := ok_textR (P := l.prog) (w := w) (base := base) f32.F Z
    have kb : KBinds K d10 ["line"] ["line"] only only := kb_line f10.F fun _ _ _ _ _ _ _ => rfl
    have G33 := ok_edges (P := l.prog) (w := w) (base := base) f33.F Z kb
    exact ok_law2 (P := l.prog) (w := w) (base := base) f34.F Z ⟨a32, d32, f32.F.kp, G32, b32, g32⟩ ⟨a33, d33, f33.F.kp, G33, b33, g33⟩
end K2


open PySem PySem.W PyProof.Rows
set_option maxRecDepth 100000 in
set_option maxHeartbeats 0 in
theorem PySem.Challenge.cw_keptreadings_k02_whole_cut_and_lines_holds : PySem.Challenge.rw_keptreadings_k02_whole_cut_and_lines.Holds := by
  w_on; o_law; k_headL; (case hw => w_witness2)
  k_fill
  refine K2.walk (l := PySem.Challenge.rw_keptreadings_k02_whole_cut_and_lines) (k := 11) rfl rfl ⟨rfl, by decide, by decide⟩ (fun w h Y => PySem.W.kIn_of Y) ?F
  case F =>
    intro w mg fa h KX G hmg
    exact K2.all_mk KX G hmg (K2.cls_mk (by k_is) (by k_is) (by k_is) (by k_is) (by k_is) (by k_is) (by k_is) (by k_is) (by k_is) (by k_is) (by k_is) (by k_is) (by k_is) rfl)
      (by k_is) (by k_is) (by k_is) (by k_is) (by k_is) (by k_is)
      (by k_is) rfl rfl rfl
      (K2.fn_mk (by k_is) (by k_is) (by k_is) (by k_is))
      (K2.fn_mk (by k_is) (by k_is) (by k_is) (by k_is))
      (K2.fn_mk (by k_is) (by k_is) (by k_is) (by k_is))
      (K2.fn_mk (by k_is) (by k_is) (by k_is) (by k_is))
      (K2.fn_mk (by k_is) (by k_is) (by k_is) (by k_is))
      (K2.fn_mk (by k_is) (by k_is) (by k_is) (by k_is))
      (K2.fn_mk (by k_is) (by k_is) (by k_is) (by k_is))
      (K2.fn_mk (by k_is) (by k_is) (by k_is) (by k_is))
      (K2.fn_mk (by k_is) (by k_is) (by k_is) (by k_is))
      (K2.fn_mk (by k_is) (by k_is) (by k_is) (by k_is))
      (K2.fn_mk (by k_is) (by k_is) (by k_is) (by k_is))
      (K2.fn_mk (by k_is) (by k_is) (by k_is) (by k_is))
      (K2.fn_mk (by k_is) (by k_is) (by k_is) (by k_is))
      (K2.fn_mk (by k_is) (by k_is) (by k_is) (by k_is))
      (K2.fn_mk (by k_is) (by k_is) (by k_is) (by k_is))
      (K2.fn_mk (by k_is) (by k_is) (by k_is) (by k_is))
      (K2.fn_mk (by k_is) (by k_is) (by k_is) (by k_is))
      (K2.fn_mk (by k_is) (by k_is) (by k_is) (by k_is))
      (K2.fn_mk (by k_is) (by k_is) (by k_is) (by k_is))
      (K2.fn_mk (by k_is) (by k_is) (by k_is) (by k_is))
      (K2.fn_mk (by k_is) (by k_is) (by k_is) (by k_is))
      (K2.fn_mk (by k_is) (by k_is) (by k_is) (by k_is))
      (K2.fn_mk (by k_is) (by k_is) (by k_is) (by k_is))
      (K2.fn_mk (by k_is) (by k_is) (by k_is) (by k_is))
      (K2.fn_mk (by k_is) (by k_is) (by k_is) (by k_is))
      (K2.fn_mk (by k_is) (by k_is) (by k_is) (by k_is))
      (K2.fn_mk (by k_is) (by k_is) (by k_is) (by k_is))
      (K2.fn_mk (by k_is) (by k_is) (by k_is) (by k_is))
      (K2.fn_mk (by k_is) (by k_is) (by k_is) (by k_is))
      (K2.fn_mk (by k_is) (by k_is) (by k_is) (by k_is))
      (K2.fn_mk (by k_is) (by k_is) (by k_is) (by k_is))
      (K2.fn_mk (by k_is) (by k_is) (by k_is) (by k_is))
      (K2.fn_mk (by k_is) (by k_is) (by k_is) (by k_is))
      (K2.fn_mk (by k_is) (by k_is) (by k_is) (by k_is))
      (K2.fn_mk (by k_is) (by k_is) (by k_is) (by k_is))
      (by k_is) (by k_is) (by k_is) (by k_is) (by k_is) (by k_is) (by k_is) (by k_is) (by k_is) (by k_is) (by k_is) (by k_is) (by k_is) (by k_is) (by k_is)
