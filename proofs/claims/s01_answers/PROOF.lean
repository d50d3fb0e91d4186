import PyProof.Rows.All
import Wide.All
import OpenK.AllK
import Wide.FinOn
import PyProof.EqAt
import PyProof.EqKinds
import PyProof.TupleCall
import KE.KStateDown
import KE.KExcInit
import Lean
import Open.SpecLaws
import KE.OsGo
import HandS.ForSpec
import HandS.ForMost
import HandS.Defaults
import HandS.Deep
import HandS.Codes
import HandS.FStr
import HandS.ExcField
import HandS.ExcSuper
import HandS.Head0
import HandS.Head1
import HandS.Head2
import HandS.Head3
import HandS.Head4
import HandS.HeadHook1
import HandS.HeadHook2
import HandS.Conv
import HandS.Walk
import HandS.TupSets
import HandS.Rev
import PySem.Challenge.RW_indexneeds_s01_answers
import KE.KSortTupG
import PyFlatLaws
set_option Elab.async false
set_option linter.all false
set_option maxRecDepth 100000
-- part IxR
set_option maxHeartbeats 4000000
/-! own rules: an own error over Exception with two fields, made and raised -/
namespace PySem
namespace FtX
open PySem.W PySem.Calls PyProof.Rows PySem.HandSPX
def iA (p1 p2 p3 : Pos) : Arguments := { posonlyargs := [], args := [{ arg := "self", annotation := none, pos := p1 }, { arg := "kind", annotation := none, pos := p2 }, { arg := "place", annotation := none, pos := p3 }], vararg := none, kwonlyargs := [], kw_defaults := [], kwarg := none, defaults := [] }
def iB (q1 q2 q3 q4 r1 r2 r3 r4 : Pos) : List Stmt := [.Assign [.Attribute (.Name "self" q1) "kind" q2] (.Name "kind" q3) q4, .Assign [.Attribute (.Name "self" r1) "place" r2] (.Name "place" r3) r4]
def iS : Scope := { kind := .function, names := [(PySem.Str.ofString "self", .local), (PySem.Str.ofString "kind", .local), (PySem.Str.ofString "place", .local)], isGenerator := false, isCoroutine := false, more := [] }
/-- the tail of the class's chain -/
abbrev exT : List Value := [.type "Exception", .type "BaseException", .type "object"]
/-- what the written part says of Fault, at C, and of its __init__, at fI -/
structure FtTxt (K : Frag) (mg : Str → Option Value) (C fI : Addr) : Prop where
  gC : mg "Fault" = some (.ref C)
  cls : ∃ nm q N bs sn sub ab col dd k0 k1 k2 k3 k5, K.lookup C = some (excClassObj nm q C N bs exT true sn sub ab col dd k0 k1 k2 k3 k5 "Exception.__new__")
  sa : findIn K (.ref C) "__setattr__" = some (some (.builtin "object.__setattr__"))
  xf : L2.XfC K C
  noK : findIn K (.ref C) "kind" = some none
  noP : findIn K (.ref C) "place" = some none
  iC : findIn K (.ref C) "__init__" = some (some (.ref fI))
  tI : typeIn K (.ref fI) = some (.type "function")
  kC : keepIn K (.ref C) = true
  tyC : typeIn K (.ref C) = some (.type "type")
  te : exmOne K (.ref C) (.ref C) = some true
  fn : ∃ (oc : Value) (od : Option Addr) (kV doc pm : Value) (an : Option Addr) (cdv ct : Value) (osl : Array (Option Value)) (p1 p2 p3 q1 q2 q3 q4 r1 r2 r3 r4 : Pos),
    K.lookup fI = some ⟨oc, od, .func (fnOf "__init__" "Fault.__init__" (iA p1 p2 p3) (iB q1 q2 q3 q4 r1 r2 r3 r4) iS .none kV doc pm an cdv ct), osl⟩ ∧ codeIn K cdv "Fault.__init__" = true
theorem two_size (v u : Value) : [v, u].length ≤ sizeLine := by
  rw [sizeLine_eq]
  exact (by decide : 2 ≤ 16777216)
theorem ldC {M : Model} {s : Shared} {name : Str} {scope : Scope} {L a : Addr} {cd : Value} {m : Str → Option Value} {x : Str} {pos : Pos} {v : Value} {Q : Value → Shared → Prop} {A : Around} {E : Value → Shared → Prop} (hn : s.heap.Ns L m) (hv : m x = some v) (h : Q v s)
    (hk : scope.kind = .function := by rfl) (hl : (envOfC name scope L a cd).kindOf x = some .local := by rfl) (hd : (x == ("__debug__" : Str)) = false := by decide) :
    wpAny M A (eval (.Name x pos) (envOfC name scope L a cd)) Q E s := wpAny_Name (wpAny_loadName_local hk hl hn hv h) hd
/-- what __init__ leaves of a fresh error at x -/
structure InitEnd (h h' : Heap) (x C dx t1 : Addr) (v u : Value) : Prop where
  keep : ∀ b o, b ≠ x → h.get? b = some o → h'.get? b = some o
  obj : h'.get? x = some { cls := .ref C, dict := some dx, data := .fields #[.ref t1, .none, .none, .none, .bool false, .none] }
  dbig : h.objs.size ≤ dx
  dne : dx ≠ x
  ns : h'.Ns1 dx (fun y => if y = "place" then some u else if y = "kind" then some v else none)
/-- a made error -/
structure OwnMade (h h' : Heap) (e C d : Addr) (v u : Value) : Prop where
  keep : ∀ b o, h.get? b = some o → h'.get? b = some o
  new : h.objs.size ≤ e
  obj : ∃ oe vs, h'.get? e = some oe ∧ oe.cls = .ref C ∧ oe.dict = some d ∧ oe.data = .fields vs ∧ vs[1]? = some .none
  dbig : h.objs.size ≤ d
  dne : d ≠ e
  ns : h'.Ns1 d (fun y => if y = "place" then some u else if y = "kind" then some v else none)
section
variable {prog : Program} {w : World} {A : Around} {E : Value → Shared → Prop} {R : Result → Shared → Prop} {s : Shared} {K : Frag} {mg : Str → Option Value} {C fI : Addr}
theorem ft_init (T : FtTxt K mg C fI) {x t0 : Addr} {v u : Value} (X : K.In s.heap) (hlim : s.heap.NoLimit) (hx : s.heap.get? x = some (excO C t0)) (hnx : K.lookup x = none) (hroom : A.depth < recursionLimit)
    (hq : ∀ h' tk dx, InitEnd s.heap h' x C dx t0 v u → R (.ok (.ret .none)) { s with heap := h', toks := tk }) :
    codeAny (model prog w) A (.call (.ref fI) ⟨[.ref x, v, u], []⟩) R s := by
  obtain ⟨oc, od, kV, doc, pm, an, cdv, ct, osl, p1, p2, p3, q1, q2, q3, q4, r1, r2, r3, r4, ho, hcd⟩ := T.fn
  obtain ⟨nm, q, N, bs, sn, sub, ab, col, dd, k0, k1, k2, k3, k5, hC⟩ := T.cls
  have hcl : clsIn K C = some { name := nm, bases := bs, mro := .ref C :: exT, ns := N, qualname := q, hasDict := true, slotNames := sn, subclasses := sub, abstract := ab, collection := col, hasDel := false } := by unfold clsIn; rw [hC] <;> rfl
  refine Att.call_fn (binds := [("self", .ref x), ("kind", v), ("place", u)]) X hlim ho hcd hroom (BindsTo.of_eq (by first | rfl | with_unfolding_all rfl)) (by first | rfl | decide | with_unfolding_all rfl) (fun s₁ IC => ?_) rfl rfl rfl
  obtain ⟨h₁, tk₁, rfl⟩ := IC.toInCall.same
  have k : ∀ b o, s.heap.get? b = some o → h₁.get? b = some o := IC.toInCall.keep
  have hn := IC.toInCall.ns
  have hxL : s.heap.objs.size ≠ x := Nat.ne_of_gt (Heap.lt_size hx)
  have X₁ : K.In h₁ := X.keeps k
  have hx₁ := k _ _ hx
  show wpAny _ _ (execs _ _) _ _ _
  refine wpAny_execs_cons (plainObj_wpAny_Assign_Attribute ?_)
  refine ldC (v := v) hn (by first | rfl | with_unfolding_all rfl | kernel_rfl) (ldC (v := .ref x) hn (by first | rfl | with_unfolding_all rfl | kernel_rfl) ?_)
  refine set_plain X₁ (ox := excO C t0) (od := none) ⟨hx₁, rfl, rfl, trivial⟩ T.sa ?_
  refine PySem.ESX.osa_new X₁ hx₁ hcl rfl rfl T.noK (fun h₃ tk₃ dx k₃ dn dne hx₃ hn₃ => ?_)
  have z : s.heap.objs.size < h₁.objs.size := hn.lt
  have X₃ : K.In h₃ := fun b o e => k₃ b o (fun y => by rw [y, hnx] at e; cases e) (X₁ b o e)
  have hw : Within (fun y => if y = "kind" then some v else none) ["kind"] := Within.cons _ _ Within.nil
  obtain ⟨oD, esD, epD, hoD, _, _⟩ := hn₃.count hw
  refine wpAny_execs_cons (plainObj_wpAny_Assign_Attribute ?_)
  have hn3 := hn.at (fun o e => k₃ _ o hxL e)
  refine ldC (v := u) hn3 (by first | rfl | with_unfolding_all rfl | kernel_rfl) (ldC (v := .ref x) hn3 (by first | rfl | with_unfolding_all rfl | kernel_rfl) ?_)
  refine set_plain X₃ (ox := { cls := .ref C, dict := some dx, data := .fields #[.ref t0, .none, .none, .none, .bool false, .none] }) (od := some oD) ⟨hx₃, rfl, rfl, hoD⟩ T.sa ?_
  refine PySem.ESX.osa_old X₃ hx₃ hn₃ hw (by decide) hcl rfl rfl T.noP (fun h₄ tk₄ k₄ hn₄ => ?_)
  show wpAny _ _ (execs _ _) _ _ _
  refine wpAny_execs_nil (hq h₄ tk₄ dx ⟨fun b o hb e => ?_, k₄ _ _ (Ne.symm dne) hx₃, Nat.le_of_lt (Nat.lt_of_lt_of_le z dn), dne, hn₄⟩)
  have e1 := k b o e
  exact k₄ b o (Nat.ne_of_lt (Nat.lt_of_lt_of_le (Heap.lt_size e1) dn)) (k₃ b o hb e1)
theorem ft_made (T : FtTxt K mg C fI) {v u : Value} (X : K.In s.heap) (hlim : s.heap.NoLimit) (hroom : A.depth + 1 < recursionLimit)
    (hq : ∀ h' tk e d, OwnMade s.heap h' e C d v u → R (.ok (.ret (.ref e))) { s with heap := h', toks := tk }) :
    codeAny (model prog w) A (.call (.ref C) ⟨[v, u], []⟩) R s := by
  obtain ⟨nm, q, N, bs, sn, sub, ab, col, dd, k0, k1, k2, k3, k5, hC⟩ := T.cls
  obtain ⟨hp, g, dr, tk, os⟩ := s
  have k : ∀ b o, hp.get? b = some o → ((hp.push (kdv_tup [v, u])).push (excO C hp.objs.size)).get? b = some o := fun b o e => Heap.get?_push_of_some _ (Heap.get?_push_of_some _ e)
  have hget : ((hp.push (kdv_tup [v, u])).push (excO C hp.objs.size)).get? (hp.objs.size + 1) = some (excO C hp.objs.size) := by heap_get
  have hnx : K.lookup (hp.objs.size + 1) = none := by
    cases e : K.lookup (hp.objs.size + 1) with
    | none => rfl
    | some o =>
      have z : hp.get? (hp.objs.size + 1) = some o := X _ _ e
      exact absurd (Nat.lt_of_succ_lt (Heap.lt_size z)) (Nat.lt_irrefl _)
  refine call_own F.excBase_Exception (fun _ => rfl) (X _ _ hC) (looks_findIn X T.iC) (fun self => bind_fn X self T.tI) (two_size v u) ?_
  refine ft_init (s := ⟨(hp.push (kdv_tup [v, u])).push (excO C hp.objs.size), g, dr, tk, os⟩) T (X.keeps k) (hlim.keeps k) hget hnx ?_ fun h' tk' dx ⟨k', hx, dn, dne, hns⟩ => ?_
  · show A.depth + 1 < recursionLimit
    exact hroom
  · have old : ∀ b o, hp.get? b = some o → h'.get? b = some o := fun b o e => k' b o (Nat.ne_of_lt (Nat.lt_succ_of_lt (Heap.lt_size e))) (k b o e)
    have z : hp.objs.size + 1 + 1 ≤ dx := by
      first
        | (simpa only [Heap.size_push] using dn)
        | exact dn
        | (have q := dn; rw [Heap.size_push, Heap.size_push] at q; exact q)
    exact ⟨rfl, hq h' tk' (hp.objs.size + 1) dx ⟨old, Nat.le_succ _, ⟨_, _, hx, rfl, rfl, rfl, rfl⟩, Nat.le_trans (Nat.le_trans (Nat.le_succ _) (Nat.le_succ _)) z, dne, hns⟩⟩
end
end FtX
end PySem
namespace L2
open PySem PySem.Spec PyProof.Rows
/-- the error's own fields -/
abbrev ftF (v u : V) : List (Str × V) := [(("place" : Str), u), (("kind" : Str), v)]
theorem relO_ft {v u : V} {v' u' : Value} (r : RelV v v') (t : RelV u u') (f : Str) : RelO (List.lookup f (ftF v u)) (if f = "place" then some u' else if f = "kind" then some v' else none) := by
  by_cases hp : f = "place"
  · subst hp
    rw [if_pos rfl]
    have q : List.lookup ("place" : Str) (ftF v u) = some u := by simp [List.lookup]
    rw [q]
    exact t
  · rw [if_neg hp]
    have qp : (f == ("place" : Str)) = false := by simpa using hp
    by_cases hk : f = "kind"
    · subst hk
      rw [if_pos rfl]
      have q : List.lookup ("kind" : Str) (ftF v u) = some v := by simp only [ftF, List.lookup, qp, beq_self_eq_true]
      rw [q]
      exact r
    · rw [if_neg hk]
      have qk : (f == ("kind" : Str)) = false := by simpa using hk
      have q : List.lookup f (ftF v u) = none := by simp only [ftF, List.lookup, qp, qk]
      rw [q]
      trivial
section
variable {X : Cx} {C fI : Addr}
/-- Fault(e, g) -/
def tMkFt (C : Addr) (ta : TA) : St → Hp → XK → Prop := fun σ H Q => ta σ H fun vs H1 => ∃ v u, vs = [v, u] ∧ ∀ d, H1 d = none → Q (.ref C) (some d) (upd H1 d (.xd (ftF v u)))
theorem pmk_ft {a b : Expr} {ta : TA} {p pos : Pos} {k : Nat} (T : PySem.FtX.FtTxt X.K X.mg C fI) (hr : Room k X.A) (ha : PA X [a, b] ta) (hg : Gl X "Fault" := by rfl)
    (he : starEach (a :: b :: []) X.env = (false, eval a X.env) :: starEach [b] X.env := by rfl) (hpl : (backTo pos (starEach [b] X.env)).any (·.1) = false := by rfl) :
    PMk X (.Call (.Name "Fault" p) [a, b] [] pos) (tMkFt C ta) := by
  intro pins s σ H Q I h
  refine wpAny_Call_Name_kw (ld_glob I hg T.gC ?_)
  refine PySem.W.callWith_K (h₀ := X.base) I.ok.mod.kin T.kC (thn (ha.run pos pins s σ H _ I h) fun us s1 hh => ?_) he hpl
  obtain ⟨vs, H1, I1, r1, v, u, ev, q1⟩ := hh
  subst ev
  refine ⟨I1.kIn, ?_⟩
  cases r1 with
  | cons rv rn =>
    cases rn with
    | cons ru rn =>
      rename_i v' u' us'
      cases rn
      show wpAny _ _ (call (.ref C) [v', _]) _ _ _
      have hlim := I1.nolimit
      obtain ⟨hp, g, dr, tk, os⟩ := s1
      refine wpAny_call (PySem.FtX.ft_made T I1.kIn hlim (by have := hr.dp; omega) fun h' tk' e d M => ?_)
      show MkP X pins σ Q (.ref e) ⟨h', g, dr, tk', os⟩
      obtain ⟨oe, fv, hoe, hc, hd, hdat, h1⟩ := M.obj
      have hns := M.ns
      obtain ⟨G', g1, g2⟩ := restrict h' fun b => decide (b ≠ e)
      have gk : ∀ b, b ≠ e → G'.get? b = h'.get? b := fun b hb => g1 b (decide_eq_true hb)
      have ge : G'.get? e = none := g2 e (by simp)
      have old : ∀ b o, hp.get? b = some o → G'.get? b = some o := fun b o q => (gk b (Nat.ne_of_lt (Nat.lt_of_lt_of_le (Heap.lt_size q) M.new))).trans (M.keep b o q)
      have ob : ObjOk X.prog X.w (upd H1 d (.xd (ftF v u))) G' d (.xd (ftF v u)) :=
        ⟨_, hns.at (fun o q => (gk d M.dne).trans q), fun f => relO_ft rv ru f⟩
      have J : Inv X pins σ (upd H1 d (.xd (ftF v u))) ⟨G', g, dr, tk', os⟩ := I1.laid (t' := tk') old M.dbig ob
      refine ⟨e, oe, fv, ⟨G', g, dr, tk', os⟩, _, .ref C, some d, rfl, J, fun b o q => ?_, ge, hoe, ⟨hc, hd⟩, hdat, h1, ?_, rfl, I1.bare, raises_own T.xf.exC T.tyC, q1 d (I1.hok.fresh M.dbig)⟩
      · by_cases hb : b = e
        · have q' : G'.get? b = some o := q
          rw [hb, ge] at q'; cases q'
        · exact (gk b hb).symm.trans q
      · rw [upd_ne (Ne.symm M.dne)]
        exact I1.hok.fresh M.new
/-- raise Fault(e, g) -/
def tRaiseFt (C : Addr) (E : XK) (ta : TA) : TS := fun _ σ H => tMkFt C ta σ H fun cls d H' => E cls d H'
theorem ps_raiseFt {a b : Expr} {ta : TA} {E : XK} {p pos pos2 : Pos} {k : Nat} (hc : X.calm = true) (T : PySem.FtX.FtTxt X.K X.mg C fI) (hr : Room k X.A) (tk : Takes X (fun cls d _ H => E cls d H)) (ha : PA X [a, b] ta) (hg : Gl X "Fault" := by rfl)
    (he : starEach (a :: b :: []) X.env = (false, eval a X.env) :: starEach [b] X.env := by rfl) (hpl : (backTo pos (starEach [b] X.env)).any (·.1) = false := by rfl) :
    PS X (.Raise (some (.Call (.Name "Fault" p) [a, b] [] pos)) none pos2) (tRaiseFt C E ta) := ps_raise hc tk (pmk_ft T hr ha hg he hpl)
end
/-! ### chains of three -/
section
variable {X : Cx} {a b c e : Expr} {ta tb tc td : TE} {pos : Pos}
def tChain3 (r r' r'' : R2) (ta tb tc td : TE) : TE := fun σ H Q => ta σ H fun x H1 => tb σ H1 fun y H2 => r x y H2 fun z H3 => ∃ k, z = .bl k ∧
  (if k = true then tc σ H3 fun x2 H4 => r' y x2 H4 fun z2 H5 => ∃ k2, z2 = .bl k2 ∧ (if k2 = true then td σ H5 fun x3 H6 => r'' x2 x3 H6 Q else Q (.bl false) H5) else Q (.bl false) H3)
theorem pe_chain3 {op op' op'' : CmpOp} {r r' r'' : R2} (ho : OpR X (compareOp op) r) (ho' : OpR X (compareOp op') r') (ho'' : OpR X (compareOp op'') r'') (ha : PE X a ta) (hb : PE X b tb) (hc : PE X c tc) (hd : PE X e td)
    (hm : lastMarks [op, op', op''] [b, c, e] = false := by with_unfolding_all rfl) : PE X (.Compare a [op, op', op''] [b, c, e] pos) (tChain3 r r' r'' ta tb tc td) := by
  refine ⟨fun pins s σ H Q I h => ?_⟩
  refine Compare_chain (thn (ha.run pins s σ H _ I h) fun v s1 ⟨x, H1, I1, r1, q1⟩ => chain_link (thn (hb.run pins s1 σ H1 _ I1 q1) fun u s2 ⟨y, H2, I2, r2, q2⟩ =>
    thn (ho pins s2 σ H2 x y v u _ I2 r1 r2 q2) fun d s3 ⟨z, H3, I3, r3, k, ek, q3⟩ => ?_)) hm
  subst ek
  cases r3
  refine wpAny_truthy_bool ?_
  cases k with
  | false => exact ite_ff ⟨.bl false, H3, I3, rfl, q3⟩
  | true =>
    refine ite_tt (chain_link (thn (hc.run pins s3 σ H3 _ I3 q3) fun w' s4 ⟨z', H4, I4, r4, q4⟩ => thn (ho' pins s4 σ H4 y z' u w' _ I4 r2 r4 q4) fun d2 s5 ⟨z2, H5, I5, r5, k2, ek2, q5⟩ => ?_))
    subst ek2
    cases r5
    refine wpAny_truthy_bool ?_
    cases k2 with
    | false => exact ite_ff ⟨.bl false, H5, I5, rfl, q5⟩
    | true => exact ite_tt (chain_last (thn (hd.run pins s5 σ H5 _ I5 q5) fun w2 s6 ⟨z3, H6, I6, r6, q6⟩ => ho'' pins s6 σ H6 z' z3 w' w2 Q I6 r4 r6 q6))
end
/-! ### a written dict with whole numbers as keys -/
/-- at a the written part has a dict of these -/
def WDct (K : PySem.W.Frag) (a : Addr) (kvs : List (Int × V)) : Prop := (a == sysModules) = false ∧ ∃ (es : Array DictEntry) (ep : Nat), K.lookup a = some ⟨.type "dict", none, .dict es ep, #[]⟩ ∧
  (kvs.map (·.1)).Nodup ∧ Paired (fun (p : Int × V) (e : DictEntry) => (∃ t, e.key = .int p.1 t) ∧ e.hash = hashInt p.1 ∧ RelV p.2 e.val) kvs es.toList
def rIxW (K : PySem.W.Frag) : R2 := fun x y H Q => ∃ (a : Addr) (kvs : List (Int × V)) (k : Int) (v : V), x = .ref a ∧ y = .int k ∧ WDct K a kvs ∧ kvs.lookup k = some v ∧ Q v H
def rInW (K : PySem.W.Frag) : R2 := fun x y H Q => ∃ (a : Addr) (kvs : List (Int × V)) (k : Int), x = .int k ∧ y = .ref a ∧ WDct K a kvs ∧ Q (.bl (kvs.lookup k).isSome) H
theorem wd_pairs {P : Program} {w : World} : ∀ {kvs : List (Int × V)} {es : List DictEntry}, Paired (fun (p : Int × V) (e : DictEntry) => (∃ t, e.key = .int p.1 t) ∧ e.hash = hashInt p.1 ∧ RelV p.2 e.val) kvs es →
    ∃ vs : List (Int × Value), Pairs (intKind P w) es vs ∧ vs.map (·.1) = kvs.map (·.1) ∧ (∀ e ∈ es, ∃ k, (intKind P w).is k e.key = true ∧ e.hash = (intKind P w).hash k) ∧ ∀ k, RelO (kvs.lookup k) (valueAt vs k)
  | _, _, .nil => ⟨[], .nil, rfl, fun e h => (List.not_mem_nil h).elim, fun k => trivial⟩
  | _, _, .cons (a := p) (b := e) h t => by
    obtain ⟨vs, h1, h2, h3, h4⟩ := wd_pairs (P := P) (w := w) t
    obtain ⟨⟨tk, hk⟩, hh, hv⟩ := h
    have is1 : (intKind P w).is p.1 e.key = true := by rw [hk]; exact intKind_is P w p.1 tk
    refine ⟨(p.1, e.val) :: vs, .cons is1 rfl h1, by rw [List.map_cons, List.map_cons, h2], fun e' he' => ?_, fun k => ?_⟩
    · rcases List.mem_cons.mp he' with z | z
      · rw [z]
        exact ⟨p.1, is1, hh⟩
      · exact h3 e' z
    · have e1 : ∀ r : List (Int × V), (p :: r).lookup k = if k = p.1 then some p.2 else List.lookup k r := fun r => by
        by_cases z : k = p.1
        · rw [if_pos z, z]
          simp [List.lookup]
        · rw [if_neg z]
          have z' : (k == p.1) = false := by simpa using z
          obtain ⟨p1, p2⟩ := p
          simp only [List.lookup, z']
      have e2 : valueAt ((p.1, e.val) :: vs) k = if k = p.1 then some e.val else valueAt vs k := by
        by_cases z : k = p.1
        · rw [if_pos z, z]
          simp [valueAt, List.find?_cons]
        · rw [if_neg z]
          have z' : ¬ p.1 = k := fun q => z q.symm
          simp [valueAt, List.find?_cons, z']
      rw [e1, e2]
      by_cases z : k = p.1
      · rw [if_pos z, if_pos z]
        exact hv
      · rw [if_neg z, if_neg z]
        exact h4 k
theorem wd_of {P : Program} {w : World} {K : PySem.W.Frag} {h : Heap} {a : Addr} {kvs : List (Int × V)} (X : K.In h) (W : WDct K a kvs) :
    ∃ vs : List (Int × Value), h.DictOf (intKind P w) a vs ∧ ∀ k, RelO (kvs.lookup k) (valueAt vs k) := by
  obtain ⟨_, es, ep, hl, nd, pr⟩ := W
  obtain ⟨vs, h1, h2, h3, h4⟩ := wd_pairs (P := P) (w := w) pr
  refine ⟨vs, ⟨_, es, ep, X _ _ hl, ⟨rfl, rfl, rfl⟩, rfl, fun e he => h3 e (Array.mem_toList_iff.mpr he), h1, by rw [h2]; exact nd⟩, h4⟩
section
variable {X : Cx}
theorem ix_wd : IxR X (rIxW X.K) := by
  intro value slice pins s σ H x y v u Q I rx ry h hs
  obtain ⟨a, kvs, k, r, rfl, rfl, W, e, q⟩ := h
  obtain rfl : v = Value.ref a := rx
  obtain ⟨t, rfl⟩ := ry
  obtain ⟨vs, hd, hv⟩ := wd_of (P := X.prog) (w := X.w) I.kIn W
  obtain ⟨u0, hu0, ru0⟩ := RelO.some_of (v := r) (o := valueAt vs k) (by rw [← e]; exact hv k)
  exact tail_any hd.mapOf.typeIs slot_dict_getitem.lookup (wpAny_getItem_of (intKind_is X.prog X.w k t) hd.mapOf hu0 ⟨r, H, I.tok _, ru0, q⟩) hs
theorem op_in_wd : OpR X (compareOp .In) (rInW X.K) := by
  intro pins s σ H x y v u Q I rx ry h
  obtain ⟨a, kvs, k, rfl, rfl, W, q⟩ := h
  obtain rfl : u = Value.ref a := ry
  obtain ⟨t, rfl⟩ := rx
  obtain ⟨vs, hd, hv⟩ := wd_of (P := X.prog) (w := X.w) I.kIn W
  refine wpAny_in_of (intKind_is X.prog X.w k t) W.1 hd.mapOf ?_
  have e := (hv k).isSome_eq
  rw [← e]
  exact ⟨.bl (kvs.lookup k).isSome, H, I.tok _, rfl, q⟩
end
end L2
-- part IxQ
set_option maxHeartbeats 1000000
/-! own rules: list(reversed(xs)), xs.extend(t), sorted of tuples of ints -/
namespace Ix
namespace Rl
open PySem PySem.Spec PyProof.Rows
section
variable {prog : Program} {w : World} {A : Around} {E : Value → Shared → Prop} {s : Shared} {it l S : Addr} {items : Array Value}
/-- the new list at S takes what the backward walk at it gives -/
theorem ext_rev {R : Result → Shared → Prop} (hh : A.handled = none) (hit : s.heap.IsRevIter it l ((items.size : Int) - 1)) (hl : s.heap.IsList l items) (hne : l ≠ it) (hn : items.size ≤ sizeLine) (hSi : S ≠ it) (hSl : S ≠ l) (c0 : Nat) (hS : s.heap.get? S = some { cls := .type "list", data := .seq #[] c0 })
    (hR : ∀ h' tk acc c, (∀ b o, b ≠ it → b ≠ S → s.heap.get? b = some o → h'.get? b = some o) → h'.get? S = some { cls := .type "list", dict := none, data := .seq acc c, slots := #[] } → ItemsOf (fun i v => items[items.size - 1 - i]? = some v) acc items.size → R (.ok (.ret .none)) { s with heap := h', toks := tk }) :
    wpAny (model prog w) A.in1 (Builtin.List.listExtendWith (.ref S) (.ref it) .none)
      (fun fin u => match fin with | .done f => R (.ok f) u | .again c => c.quiet = true ∧ codeAny (model prog w) A c R u) (fun e u => R (.error e) u) s := by
  have W := (Walks.listRev (prog := prog) (w := w) (A := A.in1) hh it l hne items).toS
  have hSf : S ∉ [it, l] := by
    intro z
    rcases List.mem_cons.mp z with z | z
    · exact hSi z
    · exact hSl (List.mem_singleton.mp z)
  have hT : s.TypeIs (.ref it) "list_reverseiterator" := hit.typeIs
  have nr : Builtin.List.listSameRef (.ref S) (.ref it) = false := by simp [Builtin.List.listSameRef, hSi]
  unfold Builtin.List.listExtendWith
  refine wpAny_bind (wpAny_typeOf hT ?_)
  rw [if_neg (show ¬ (_ : Bool) = true by rw [nr]; decide)]
  refine wpAny_bind (wpAny_pyIter_revIter hit (wpAny_bind (wpAny_holding ?_)))
  unfold Builtin.List.listLengthHint
  refine wpAny_bind (wpAny_specialOf hT RT.nolen_lri ?_)
  show wpAny _ A.in1 (specialOf (.ref it) (Str.ofString "__length_hint__") >>= _) _ _ s
  refine wpAny_bind (wpAny_specialOf hT RT.hint_lri ?_)
  generalize hd0 : ("list_reverseiterator.__length_hint__" : String) = hid
  wp_delta
  rw [show splitId hid = some ("list_reverseiterator", "__length_hint__") by subst hd0; decide +kernel]
  subst hd0
  refine wpAny_bind (wpAny_isInstance (b := true) hT (by rw [isSubtype_type]; kernel_rfl) (wpAny_pure ?_))
  rw [if_neg (by decide)]
  have e0 : (items.size : Int) - 1 - ((0 : Nat) : Int) = (items.size : Int) - 1 := by omega
  refine wpAny_pure ⟨plainId_quiet F.plain_extend_loop _, codeAny_extend_loopS W hn S hSf _ items.size 0 _ #[] c0 rfl (Nat.zero_le _) ⟨Nat.zero_le _, by rw [e0]; exact hit, hl⟩ hS (ItemsOf.nil _) fun u acc c hm hu hacc => ?_⟩
  rw [Moved.eq_with hm]
  refine hR u.heap u.toks acc c (fun b o h1 h2 e => hm.heap b o (fun z => ?_) e) hu hacc
  rcases List.mem_cons.mp z with z | z
  · exact h2 z
  · exact h1 (List.mem_singleton.mp z)
/-- list(it), it a backward walk of a list: a new list -/
theorem list_rev {Q : Value → Shared → Prop} (hh : A.handled = none) (hit : s.heap.IsRevIter it l ((items.size : Int) - 1)) (hl : s.heap.IsList l items) (hne : l ≠ it) (hn : items.size ≤ sizeLine)
    (hQ : ∀ h' tk acc c, (∀ b o, b ≠ it → s.heap.get? b = some o → h'.get? b = some o) → h'.get? s.heap.objs.size = some { cls := .type "list", dict := none, data := .seq acc c, slots := #[] } → ItemsOf (fun i v => items[items.size - 1 - i]? = some v) acc items.size → Q (.ref s.heap.objs.size) { s with heap := h', toks := tk }) :
    wpAny (model prog w) A (call (.type "list") [.ref it]) Q E s := by
  have z1 : s.heap.objs.size ≠ it := by
    obtain ⟨o, ho, _⟩ := id hit
    exact Nat.ne_of_gt (Heap.lt_size ho)
  have z2 : s.heap.objs.size ≠ l := by
    obtain ⟨o, ho, _⟩ := id hl
    exact Nat.ne_of_gt (Heap.lt_size ho)
  refine callType_codes (Q₁ := fun ob u => ob = .ref s.heap.objs.size ∧ u = { s with heap := s.heap.push { cls := .type "list", data := .seq #[] } }) PySem.F.called_list (PySem.F.typeCall_list_1 _) PySem.F.entry_list_init (code_list_new _ ⟨rfl, rfl⟩) ?_
  rintro ob u ⟨rfl, rfl⟩
  have a0 : (s.heap.push { cls := .type "list", data := .seq #[] }).get? s.heap.objs.size = some { cls := .type "list", data := .seq #[] } := Heap.get?_push_size _ rfl
  have up : ∀ b o, s.heap.get? b = some o → (s.heap.push { cls := .type "list", data := .seq #[] }).get? b = some o := fun b o e => Heap.get?_push_of_some _ e
  have a2 := Heap.get?_update_self (Obj.mapSeq (fun _ => (#[] : Array Value))) a0 rfl
  have on : ∀ b o, b ≠ s.heap.objs.size → s.heap.get? b = some o → ((s.heap.push { cls := .type "list", data := .seq #[] }).update s.heap.objs.size (Obj.mapSeq (fun _ => (#[] : Array Value)))).get? b = some o := fun b o hb e => (Heap.get?_update_other _ _ (Ne.symm hb)).trans (up b o e)
  refine ⟨⟨_, a0, rfl⟩, PySem.F.args_list_init_2 _ _, ?_⟩
  show wpAny _ _ (Builtin.List.listItems (.ref s.heap.objs.size) >>= fun old => Builtin.List.listUpdate (.ref s.heap.objs.size) (fun _ => #[]) >>= fun _ => letGo old.toList.reverse >>= fun _ => Builtin.List.listExtendWith (.ref s.heap.objs.size) (.ref it) .none) _ _ _
  refine wpAny_bind ?_
  unfold Builtin.List.listItems
  refine wpAny_bind (wpAny_seqItems a0 rfl (wpAny_pure ?_))
  show wpAny _ _ (updateSeq s.heap.objs.size (fun _ => #[]) >>= fun _ => letGo (#[] : Array Value).toList.reverse >>= fun _ => Builtin.List.listExtendWith (.ref s.heap.objs.size) (.ref it) .none) _ _ _
  refine wpAny_bind (wpAny_updateSeq a0 rfl (wpAny_bind (wpAny_letGo ?_)))
  refine ext_rev (A := A.in1) hh (hit.at fun o e => on it o (Ne.symm z1) e) (hl.at fun o e => on l o (Ne.symm z2) e) hne hn z1 z2 _ a2 fun h' tk acc c hk hS hacc => ?_
  exact ⟨rfl, hQ h' tk acc c (fun b o hb e => hk b o hb (Nat.ne_of_lt (Heap.lt_size e)) (on b o (Nat.ne_of_lt (Heap.lt_size e)) e)) hS hacc⟩
end
end Rl
end Ix
namespace L2
open PySem PySem.Spec PyProof.Rows
section
variable {X : Cx}
/-- list(reversed(xs)), xs a list: a new list -/
def tListRev (K : PySem.W.Frag) (te : TE) : TE := fun σ H Q => te σ H fun v H1 => ∃ (a : Addr) (xs : List V), v = .ref a ∧ SqL K H1 a xs ∧ ∀ q, H1 q = none → Q (.ref q) (upd H1 q (.lst xs.reverse))
theorem pe_listRev {e : Expr} {te : TE} {p p2 pos pos2 : Pos} (hc : X.calm = true) (hg : Gl X "list") (hm : X.mg "list" = none) (hg2 : Gl X "reversed") (hm2 : X.mg "reversed" = none) (he : PE X e te)
    (s1 : starEach [e] X.env = (false, eval e X.env) :: starEach [] X.env := by rfl) (s2 : starEach [.Call (.Name "reversed" p2) [e] [] pos2] X.env = (false, eval (.Call (.Name "reversed" p2) [e] [] pos2) X.env) :: starEach [] X.env := by rfl) :
    PE X (.Call (.Name "list" p) [.Call (.Name "reversed" p2) [e] [] pos2] [] pos) (tListRev X.K te) := by
  refine ⟨fun pins s σ H Q I h => ?_⟩
  refine Call_ (ld_blt I hg hm boot_list (PyProof.Rows.callWith_type1 (args_cons ?_ s2) s2 rfl))
  refine Call_ (ld_blt I hg2 hm2 PyProof.Rows.boot_reversed (PyProof.Rows.callWith_type1 (args_cons (thn (he.run pins s σ H _ I h) ?_) s1) s1 rfl))
  rintro u t ⟨v, H1, I1, r1, a, xs, rfl, hq, k⟩
  refine args_nil ?_
  obtain rfl : u = Value.ref a := r1
  obtain ⟨its, rv, hL, hz⟩ := I1.list hq
  refine call_reversed_list hL.isList (args_nil ?_)
  have up : ∀ b o, t.heap.get? b = some o → (t.heap.push (revObj a ((its.toArray.size : Int) - 1))).get? b = some o := fun b o e => Heap.get?_push_of_some _ e
  have I2 : Inv X pins σ H1 { t with heap := t.heap.push (revObj a ((its.toArray.size : Int) - 1)) } := I1.kept (t' := t.toks) up
  obtain ⟨f0, f1, f2, f3, f4, f5⟩ := I1.fpOk (H' := H1) (b := t.heap.objs.size) (Nat.le_refl _) (I1.hok.fresh (Nat.le_refl _))
  have hn : its.toArray.size ≤ sizeLine := by
    rw [List.size_toArray, ← rv.length]
    exact hz
  have hne : a ≠ t.heap.objs.size := by
    obtain ⟨o, ho, _⟩ := id hL.isList
    exact Nat.ne_of_lt (Heap.lt_size ho)
  refine Ix.Rl.list_rev (s := { t with heap := t.heap.push (revObj a ((its.toArray.size : Int) - 1)) }) (I1.ok.hd hc) ⟨_, Heap.get?_push_size _ rfl, rfl, rfl⟩ (hL.isList.push _) hne hn fun h' tk acc c hk hS hi => ?_
  have hsz : (t.heap.push (revObj a ((its.toArray.size : Int) - 1))).objs.size = t.heap.objs.size + 1 := Heap.size_push _ _
  rw [hsz] at hS ⊢
  refine ⟨.ref (t.heap.objs.size + 1), upd H1 (t.heap.objs.size + 1) (.lst xs.reverse), I1.laid (t' := tk) (h' := h') (fun b o e => hk b o (Nat.ne_of_lt (Heap.lt_size e)) (up b o e)) (Nat.le_succ _) ?_, rfl, k _ (I1.hok.fresh (Nat.le_succ _))⟩
  refine ⟨by rw [List.length_reverse]; exact hz, acc.toList, c, RT.vals_rev rv hi, ?_⟩
  rw [Array.toArray_toList]
  exact hS
/-- xs.extend(t), t a tuple -/
def rExtendT (K : PySem.W.Frag) : V → List V → Hp → VK → Prop := fun x vs H Q => ∃ (l b : Addr) (xs zs : List V), x = .ref l ∧ vs = [.ref b] ∧ H l = some (.lst xs) ∧ H b = some (.tup zs) ∧ xs.length + zs.length ≤ sizeLine ∧ Q .non (upd H l (.lst (xs ++ zs)))
theorem mt_extendT : MtM X "list.extend" (rExtendT X.K) := by
  rintro pins s σ H x vs v us Q I rx rv ⟨l, b, xs, zs, rfl, rfl, hH, hB, hz, q⟩
  cases rx
  obtain ⟨u, rfl, ru⟩ := rv.one
  cases ru
  obtain ⟨z, its, n, r, hl, e⟩ := I.lstM hH
  obtain ⟨its2, r2, ⟨o2, e2, c2, n2, d2⟩, hz2⟩ := I.tuple (SqT.of hB)
  have l2 := r2.length
  have both : its.toArray.size + its2.toArray.size ≤ sizeLine := by
    rw [List.size_toArray, List.size_toArray]
    omega
  have short : ¬ (!its.toArray.isEmpty && Builtin.List.listTooLong (its.toArray.size + its2.toArray.size)) = true := by
    rw [notLongL both, Bool.and_false]
    exact Bool.false_ne_true
  refine wpAny_call_entry F.slot_list_extend ⟨_, e, rfl⟩ F.entry_list_extend ?_ (F.args_list_extend_2 _ _)
  show wpAny _ _ (Builtin.List.listExtendWith (.ref l) (.ref b) .none) _ _ s
  unfold Builtin.List.listExtendWith
  refine wpAny_bind (wpAny_typeOf (T := "tuple") ⟨o2, e2, c2⟩ ?_)
  rw [if_pos (by simp)]
  unfold Builtin.List.listItems
  refine wpAny_bind (wpAny_bind (wpAny_seqItems e2 d2 (wpAny_pure ?_)))
  refine wpAny_bind (wpAny_bind (wpAny_seqItems e rfl (wpAny_pure ?_)))
  rw [if_neg short]
  refine wpAny_bind (wpAny_updateSeq e rfl ?_ (by rw [List.size_toArray]; omega) (by rw [Array.size_append]; omega))
  refine wpAny_bind (wpAny_pure (wpAny_pure ⟨_, rfl, ?_⟩))
  refine ⟨.non, _, I.lset (its' := its ++ its2) hH e (by simp) (r.append r2) ?_, rfl, q⟩
  rw [List.length_append]
  exact hz
theorem pw_one {α : Type} {R : α → α → Prop} : ∀ {l : List α}, l.length ≤ 1 → l.Pairwise R
  | [], _ => List.Pairwise.nil
  | [x], _ => List.pairwise_singleton _ _
  | _ :: _ :: _, h => absurd h (by simp)
theorem zip_one {st : List (Value × Value)} : ∀ {l : List Value}, l.length ≤ 1 → st.Perm (l.zip l) → st.map (·.2) = l
  | [], _, h => by
    rw [List.Perm.eq_nil h]
    rfl
  | [u], _, h => by
    rw [List.perm_singleton.mp h]
    rfl
  | _ :: _ :: _, h, _ => absurd h (by simp)
/-- sorted(xs), xs a list of tuples of d digits (k says which), one at most if d is 0 -/
def rSortX (K : PySem.W.Frag) : List V → Hp → VK → Prop := fun vs H Q => ∃ (a : Addr) (xs : List V) (k : V → List Int) (d : Nat), vs = [V.ref a] ∧ SqL K H a xs ∧ xs.length < 64 ∧ (∀ x ∈ xs, TupI K H x (k x) ∧ (k x).length = d ∧ TS.Bd 10 (k x)) ∧ (d = 0 → xs.length ≤ 1) ∧
  ∀ (ys : List V) (p : Addr), ys.Perm xs → ys.Pairwise (fun x y => TS.code 10 (k x) ≤ TS.code 10 (k y)) → H p = none → Q (.ref p) (upd H p (.lst ys))
theorem cr_sortX : CallR X (.builtin "sorted") (rSortX X.K) := by
  intro pins s σ H vs us Q I r h
  obtain ⟨a, xs, k, d, rfl, hs, h64, hx, h1, q⟩ := h
  by_cases hd : 1 ≤ d
  · refine cr_sortT (X := X) (d := d) (B := 10) hd pins s σ H [V.ref a] us Q I r ⟨a, xs, rfl, hs, h64, fun x hm => ⟨k x, (hx x hm).1, (hx x hm).2.1, (hx x hm).2.2⟩, fun ys p hp hw hn => q ys p hp ?_ hn⟩
    exact List.Pairwise.imp_of_mem (fun {x y} mx my hxy => hxy _ _ (hx x (hp.mem_iff.mp mx)).1 (hx y (hp.mem_iff.mp my)).1) hw
  · have hd0 : d = 0 := by omega
    have hl1 := h1 hd0
    obtain ⟨its, rv, hl, hz⟩ := I.list hs
    rw [Vals.ref1 r]
    have hli : its.length = xs.length := rv.length.symm
    refine PyProof.Rows.G.sortedG (κ := PyProof.Rows.G.tupKindC s.heap fun _ => false) (kd := tuples' true) hl.isList (PyProof.Rows.G.tupKeys fun v hv => ?_) (fun s₂ kp => PyProof.Rows.G.tupC_ltAt (s := s₂) true kp) (fun h2 => absurd h2 (by omega)) (by rw [hli]; exact hz) fun st hp _ _ => ?_
    · obtain ⟨i, hi, e⟩ := List.mem_iff_getElem.mp hv
      have hix : i < xs.length := by omega
      obtain ⟨u, hu, ru⟩ := rv.get (List.getElem?_eq_getElem hix)
      rw [List.getElem?_eq_getElem hi, e] at hu
      injection hu with hu
      subst hu
      obtain ⟨⟨t, et, ht⟩, hkl, _⟩ := hx _ (List.getElem_mem hix)
      rw [et] at ru
      cases ru
      obtain ⟨ts, rt, ⟨o, ho, hc, n, hdt⟩, _⟩ := I.tuple ht
      have et0 : ts = [] := by
        have := rt.length
        rw [List.length_map, hkl, hd0] at this
        exact List.length_eq_zero_iff.mp this.symm
      subst et0
      refine ⟨[], ?_⟩
      unfold PyProof.Rows.G.tupKeyC
      rw [if_pos (by simp [PyProof.Rows.G.isTupObj, ho, hc])]
      simp [tupKey, ho, hdt, tupItems]
    · obtain ⟨ep, he'⟩ := PyProof.Rows.sortedAll_at s.heap its ((arrOf st).map (·.2))
      have eo : ((arrOf st).map (·.2)).toList = its := by
        have hp' : (arrOf st).toList.Perm (its.zip its) := by
          have := hp.toList
          rwa [pairsOf_toList] at this
        rw [Array.toList_map]
        exact zip_one (by omega) hp'
      refine ⟨.ref _, upd H (s.heap.objs.size + 1) (.lst xs), I.laid (t' := s.toks) (fun _ _ => PyProof.Rows.sortedAll_old) (Nat.le_succ _) ⟨hz, ((arrOf st).map (·.2)).toList, ep, by rw [eo]; exact rv, he'⟩, rfl, q xs _ (List.Perm.refl _) ?_ (I.hok.fresh (Nat.le_succ _))⟩
      exact pw_one hl1
abbrev rKeysT : List V → Hp → VK → Prop := fun xs H Q => ∃ d kvs, xs = [V.ref d] ∧ Rd H d (.dT kvs) ∧ ∀ p bs, H p = none → IsKeys H kvs bs → Q (.ref p) (upd H p (.lst (bs.map V.ref)))
abbrev rTupOf_ (K : PySem.W.Frag) : List V → Hp → VK → Prop := fun xs H Q => ∃ p ys, xs = [.ref p] ∧ ((SqL K H p ys ∧ ∀ l, H l = none → Q (.ref l) (upd H l (.tup ys))) ∨ (SqT K H p ys ∧ Q (.ref p) H))
end
end L2
-- part IxA
set_option maxHeartbeats 4000000
namespace Ix
open PySem PySem.Spec PyProof.Rows L2
/-- the i-th statement of the program's top -/
def top (i : Nat) : Stmt := PySem.Challenge.pw_indexneeds_s01_answers.main.body.getD i (.Pass ⟨0, 0, 0, 0⟩)
abbrev s_Fault_init : Stmt := L2.inClass (top 6) 0
abbrev s_Sheet_init : Stmt := L2.inClass (top 15) 0
abbrev s_Group_init : Stmt := L2.inClass (top 16) 0
abbrev s_Filter_init : Stmt := L2.inClass (top 17) 0
abbrev s_Question_init : Stmt := L2.inClass (top 18) 0
abbrev s_Index_init : Stmt := L2.inClass (top 19) 0
abbrev s_Token_init : Stmt := L2.inClass (top 54) 0
abbrev s_Reader_init : Stmt := L2.inClass (top 62) 0
abbrev s_Reader_current : Stmt := L2.inClass (top 62) 1
abbrev s_Reader_stands : Stmt := L2.inClass (top 62) 2
abbrev s_Reader_skip_if : Stmt := L2.inClass (top 62) 3
abbrev s_Reader_expect : Stmt := L2.inClass (top 62) 4
abbrev s_Reader_expect_end : Stmt := L2.inClass (top 62) 5
abbrev s_Reader_take_name : Stmt := L2.inClass (top 62) 6
abbrev s_Reader_take_number : Stmt := L2.inClass (top 62) 7
abbrev s_Call_init : Stmt := L2.inClass (top 85) 0
abbrev s_Line_init : Stmt := L2.inClass (top 86) 0
abbrev s_Line_has_more : Stmt := L2.inClass (top 86) 1
abbrev s_Line_next_call : Stmt := L2.inClass (top 86) 2
abbrev s_Line_next_number : Stmt := L2.inClass (top 86) 3
abbrev s_Line_next_row : Stmt := L2.inClass (top 86) 4
abbrev s_Part_init : Stmt := L2.inClass (top 88) 0
abbrev s_Desk_init : Stmt := L2.inClass (top 114) 0
abbrev s_table_numbers : Stmt := top 8
abbrev s_question_numbers : Stmt := top 9
abbrev s_index_numbers : Stmt := top 10
abbrev s_filter_numbers : Stmt := top 11
abbrev s_counted : Stmt := top 12
abbrev s_filters_of : Stmt := top 21
abbrev s_filter_of : Stmt := top 22
abbrev s_is_sound : Stmt := top 23
abbrev s_rows_passing : Stmt := top 24
abbrev s_rows_split : Stmt := top 25
abbrev s_passes_all : Stmt := top 26
abbrev s_passes : Stmt := top 27
abbrev s_say : Stmt := top 28
abbrev s_lets_all_pass : Stmt := top 29
abbrev s_is_within : Stmt := top 30
abbrev s_say_in_table : Stmt := top 31
abbrev s_one_form : Stmt := top 33
abbrev s_table_line : Stmt := top 34
abbrev s_group_line : Stmt := top 35
abbrev s_question_line : Stmt := top 36
abbrev s_index_line : Stmt := top 37
abbrev s_ended : Stmt := top 38
abbrev s_column_words : Stmt := top 39
abbrev s_filter_words : Stmt := top 40
abbrev s_tokens_of : Stmt := top 55
abbrev s_token_at : Stmt := top 56
abbrev s_word_at : Stmt := top 57
abbrev s_number_at : Stmt := top 58
abbrev s_run_end : Stmt := top 59
abbrev s_sheet_of : Stmt := top 71
abbrev s_check_room : Stmt := top 72
abbrev s_read_table : Stmt := top 73
abbrev s_read_new_name : Stmt := top 74
abbrev s_read_group : Stmt := top 75
abbrev s_read_cells : Stmt := top 76
abbrev s_read_question : Stmt := top 77
abbrev s_read_index : Stmt := top 78
abbrev s_read_columns : Stmt := top 79
abbrev s_read_column : Stmt := top 80
abbrev s_read_filters : Stmt := top 81
abbrev s_read_filter : Stmt := top 82
abbrev s_answered_parts : Stmt := top 89
abbrev s_ordered_parts : Stmt := top 90
abbrev s_found_by_cells : Stmt := top 91
abbrev s_up_to_limit : Stmt := top 92
abbrev s_serves : Stmt := top 94
abbrev s_covers : Stmt := top 95
abbrev s_columns_of : Stmt := top 96
abbrev s_needs_of : Stmt := top 97
abbrev s_is_free_by : Stmt := top 98
abbrev s_entries_of : Stmt := top 99
abbrev s_room_of : Stmt := top 100
abbrev s_answers : Stmt := top 115
abbrev s_answer_to : Stmt := top 116
abbrev s_answer_from : Stmt := top 117
abbrev s_load : Stmt := top 118
abbrev s_shown : Stmt := top 119
abbrev s_about_question : Stmt := top 120
abbrev s_rows_answered : Stmt := top 121
abbrev s_filters_alone : Stmt := top 122
abbrev s_indexes_serving : Stmt := top 123
abbrev s_about_index : Stmt := top 124
abbrev s_column_split : Stmt := top 125
abbrev s_about_filters : Stmt := top 126
abbrev s_one_if : Stmt := top 127
/-! facts of the written part -/
def d_Fault_init : He.DefD := ⟨("Fault", some "__init__"), "__init__", "Fault.__init__", defArgs s_Fault_init, defBody s_Fault_init, defScope s_Fault_init, [], []⟩
def d_Sheet_init : He.DefD := ⟨("Sheet", some "__init__"), "__init__", "Sheet.__init__", defArgs s_Sheet_init, defBody s_Sheet_init, defScope s_Sheet_init, [], []⟩
def d_Group_init : He.DefD := ⟨("Group", some "__init__"), "__init__", "Group.__init__", defArgs s_Group_init, defBody s_Group_init, defScope s_Group_init, [], []⟩
def d_Filter_init : He.DefD := ⟨("Filter", some "__init__"), "__init__", "Filter.__init__", defArgs s_Filter_init, defBody s_Filter_init, defScope s_Filter_init, [], []⟩
def d_Question_init : He.DefD := ⟨("Question", some "__init__"), "__init__", "Question.__init__", defArgs s_Question_init, defBody s_Question_init, defScope s_Question_init, [], []⟩
def d_Index_init : He.DefD := ⟨("Index", some "__init__"), "__init__", "Index.__init__", defArgs s_Index_init, defBody s_Index_init, defScope s_Index_init, [], []⟩
def d_Token_init : He.DefD := ⟨("Token", some "__init__"), "__init__", "Token.__init__", defArgs s_Token_init, defBody s_Token_init, defScope s_Token_init, [], []⟩
def d_Reader_init : He.DefD := ⟨("Reader", some "__init__"), "__init__", "Reader.__init__", defArgs s_Reader_init, defBody s_Reader_init, defScope s_Reader_init, [], []⟩
def d_Reader_current : He.DefD := ⟨("Reader", some "current"), "current", "Reader.current", defArgs s_Reader_current, defBody s_Reader_current, defScope s_Reader_current, [], []⟩
def d_Reader_stands : He.DefD := ⟨("Reader", some "stands"), "stands", "Reader.stands", defArgs s_Reader_stands, defBody s_Reader_stands, defScope s_Reader_stands, [], []⟩
def d_Reader_skip_if : He.DefD := ⟨("Reader", some "skip_if"), "skip_if", "Reader.skip_if", defArgs s_Reader_skip_if, defBody s_Reader_skip_if, defScope s_Reader_skip_if, [], []⟩
def d_Reader_expect : He.DefD := ⟨("Reader", some "expect"), "expect", "Reader.expect", defArgs s_Reader_expect, defBody s_Reader_expect, defScope s_Reader_expect, [], []⟩
def d_Reader_expect_end : He.DefD := ⟨("Reader", some "expect_end"), "expect_end", "Reader.expect_end", defArgs s_Reader_expect_end, defBody s_Reader_expect_end, defScope s_Reader_expect_end, [], []⟩
def d_Reader_take_name : He.DefD := ⟨("Reader", some "take_name"), "take_name", "Reader.take_name", defArgs s_Reader_take_name, defBody s_Reader_take_name, defScope s_Reader_take_name, [], []⟩
def d_Reader_take_number : He.DefD := ⟨("Reader", some "take_number"), "take_number", "Reader.take_number", defArgs s_Reader_take_number, defBody s_Reader_take_number, defScope s_Reader_take_number, [], []⟩
def d_Call_init : He.DefD := ⟨("Call", some "__init__"), "__init__", "Call.__init__", defArgs s_Call_init, defBody s_Call_init, defScope s_Call_init, [], []⟩
def d_Line_init : He.DefD := ⟨("Line", some "__init__"), "__init__", "Line.__init__", defArgs s_Line_init, defBody s_Line_init, defScope s_Line_init, [], []⟩
def d_Line_has_more : He.DefD := ⟨("Line", some "has_more"), "has_more", "Line.has_more", defArgs s_Line_has_more, defBody s_Line_has_more, defScope s_Line_has_more, [], []⟩
def d_Line_next_call : He.DefD := ⟨("Line", some "next_call"), "next_call", "Line.next_call", defArgs s_Line_next_call, defBody s_Line_next_call, defScope s_Line_next_call, [], []⟩
def d_Line_next_number : He.DefD := ⟨("Line", some "next_number"), "next_number", "Line.next_number", defArgs s_Line_next_number, defBody s_Line_next_number, defScope s_Line_next_number, [], []⟩
def d_Line_next_row : He.DefD := ⟨("Line", some "next_row"), "next_row", "Line.next_row", defArgs s_Line_next_row, defBody s_Line_next_row, defScope s_Line_next_row, [], []⟩
def d_Part_init : He.DefD := ⟨("Part", some "__init__"), "__init__", "Part.__init__", defArgs s_Part_init, defBody s_Part_init, defScope s_Part_init, [], []⟩
def d_Desk_init : He.DefD := ⟨("Desk", some "__init__"), "__init__", "Desk.__init__", defArgs s_Desk_init, defBody s_Desk_init, defScope s_Desk_init, [], []⟩
def d_table_numbers : He.DefD := ⟨("table_numbers", none), "table_numbers", "table_numbers", defArgs s_table_numbers, defBody s_table_numbers, defScope s_table_numbers, [], []⟩
def d_question_numbers : He.DefD := ⟨("question_numbers", none), "question_numbers", "question_numbers", defArgs s_question_numbers, defBody s_question_numbers, defScope s_question_numbers, [], []⟩
def d_index_numbers : He.DefD := ⟨("index_numbers", none), "index_numbers", "index_numbers", defArgs s_index_numbers, defBody s_index_numbers, defScope s_index_numbers, [], []⟩
def d_filter_numbers : He.DefD := ⟨("filter_numbers", none), "filter_numbers", "filter_numbers", defArgs s_filter_numbers, defBody s_filter_numbers, defScope s_filter_numbers, [], []⟩
def d_counted : He.DefD := ⟨("counted", none), "counted", "counted", defArgs s_counted, defBody s_counted, defScope s_counted, [], []⟩
def d_filters_of : He.DefD := ⟨("filters_of", none), "filters_of", "filters_of", defArgs s_filters_of, defBody s_filters_of, defScope s_filters_of, [], []⟩
def d_filter_of : He.DefD := ⟨("filter_of", none), "filter_of", "filter_of", defArgs s_filter_of, defBody s_filter_of, defScope s_filter_of, [], []⟩
def d_is_sound : He.DefD := ⟨("is_sound", none), "is_sound", "is_sound", defArgs s_is_sound, defBody s_is_sound, defScope s_is_sound, [], []⟩
def d_rows_passing : He.DefD := ⟨("rows_passing", none), "rows_passing", "rows_passing", defArgs s_rows_passing, defBody s_rows_passing, defScope s_rows_passing, [], []⟩
def d_rows_split : He.DefD := ⟨("rows_split", none), "rows_split", "rows_split", defArgs s_rows_split, defBody s_rows_split, defScope s_rows_split, [], []⟩
def d_passes_all : He.DefD := ⟨("passes_all", none), "passes_all", "passes_all", defArgs s_passes_all, defBody s_passes_all, defScope s_passes_all, [], []⟩
def d_passes : He.DefD := ⟨("passes", none), "passes", "passes", defArgs s_passes, defBody s_passes, defScope s_passes, [], []⟩
def d_say : He.DefD := ⟨("say", none), "say", "say", defArgs s_say, defBody s_say, defScope s_say, [], []⟩
def d_lets_all_pass : He.DefD := ⟨("lets_all_pass", none), "lets_all_pass", "lets_all_pass", defArgs s_lets_all_pass, defBody s_lets_all_pass, defScope s_lets_all_pass, [], []⟩
def d_is_within : He.DefD := ⟨("is_within", none), "is_within", "is_within", defArgs s_is_within, defBody s_is_within, defScope s_is_within, [], []⟩
def d_say_in_table : He.DefD := ⟨("say_in_table", none), "say_in_table", "say_in_table", defArgs s_say_in_table, defBody s_say_in_table, defScope s_say_in_table, [], []⟩
def d_one_form : He.DefD := ⟨("one_form", none), "one_form", "one_form", defArgs s_one_form, defBody s_one_form, defScope s_one_form, [], []⟩
def d_table_line : He.DefD := ⟨("table_line", none), "table_line", "table_line", defArgs s_table_line, defBody s_table_line, defScope s_table_line, [], []⟩
def d_group_line : He.DefD := ⟨("group_line", none), "group_line", "group_line", defArgs s_group_line, defBody s_group_line, defScope s_group_line, [], []⟩
def d_question_line : He.DefD := ⟨("question_line", none), "question_line", "question_line", defArgs s_question_line, defBody s_question_line, defScope s_question_line, [], []⟩
def d_index_line : He.DefD := ⟨("index_line", none), "index_line", "index_line", defArgs s_index_line, defBody s_index_line, defScope s_index_line, [], []⟩
def d_ended : He.DefD := ⟨("ended", none), "ended", "ended", defArgs s_ended, defBody s_ended, defScope s_ended, [], []⟩
def d_column_words : He.DefD := ⟨("column_words", none), "column_words", "column_words", defArgs s_column_words, defBody s_column_words, defScope s_column_words, [], []⟩
def d_filter_words : He.DefD := ⟨("filter_words", none), "filter_words", "filter_words", defArgs s_filter_words, defBody s_filter_words, defScope s_filter_words, [], []⟩
def d_tokens_of : He.DefD := ⟨("tokens_of", none), "tokens_of", "tokens_of", defArgs s_tokens_of, defBody s_tokens_of, defScope s_tokens_of, [], []⟩
def d_token_at : He.DefD := ⟨("token_at", none), "token_at", "token_at", defArgs s_token_at, defBody s_token_at, defScope s_token_at, [], []⟩
def d_word_at : He.DefD := ⟨("word_at", none), "word_at", "word_at", defArgs s_word_at, defBody s_word_at, defScope s_word_at, [], []⟩
def d_number_at : He.DefD := ⟨("number_at", none), "number_at", "number_at", defArgs s_number_at, defBody s_number_at, defScope s_number_at, [], []⟩
def d_run_end : He.DefD := ⟨("run_end", none), "run_end", "run_end", defArgs s_run_end, defBody s_run_end, defScope s_run_end, [], []⟩
def d_sheet_of : He.DefD := ⟨("sheet_of", none), "sheet_of", "sheet_of", defArgs s_sheet_of, defBody s_sheet_of, defScope s_sheet_of, [], []⟩
def d_check_room : He.DefD := ⟨("check_room", none), "check_room", "check_room", defArgs s_check_room, defBody s_check_room, defScope s_check_room, [], []⟩
def d_read_table : He.DefD := ⟨("read_table", none), "read_table", "read_table", defArgs s_read_table, defBody s_read_table, defScope s_read_table, [], []⟩
def d_read_new_name : He.DefD := ⟨("read_new_name", none), "read_new_name", "read_new_name", defArgs s_read_new_name, defBody s_read_new_name, defScope s_read_new_name, [], []⟩
def d_read_group : He.DefD := ⟨("read_group", none), "read_group", "read_group", defArgs s_read_group, defBody s_read_group, defScope s_read_group, [], []⟩
def d_read_cells : He.DefD := ⟨("read_cells", none), "read_cells", "read_cells", defArgs s_read_cells, defBody s_read_cells, defScope s_read_cells, [], []⟩
def d_read_question : He.DefD := ⟨("read_question", none), "read_question", "read_question", defArgs s_read_question, defBody s_read_question, defScope s_read_question, [], []⟩
def d_read_index : He.DefD := ⟨("read_index", none), "read_index", "read_index", defArgs s_read_index, defBody s_read_index, defScope s_read_index, [], []⟩
def d_read_columns : He.DefD := ⟨("read_columns", none), "read_columns", "read_columns", defArgs s_read_columns, defBody s_read_columns, defScope s_read_columns, [], []⟩
def d_read_column : He.DefD := ⟨("read_column", none), "read_column", "read_column", defArgs s_read_column, defBody s_read_column, defScope s_read_column, [], []⟩
def d_read_filters : He.DefD := ⟨("read_filters", none), "read_filters", "read_filters", defArgs s_read_filters, defBody s_read_filters, defScope s_read_filters, [], []⟩
def d_read_filter : He.DefD := ⟨("read_filter", none), "read_filter", "read_filter", defArgs s_read_filter, defBody s_read_filter, defScope s_read_filter, [], []⟩
def d_answered_parts : He.DefD := ⟨("answered_parts", none), "answered_parts", "answered_parts", defArgs s_answered_parts, defBody s_answered_parts, defScope s_answered_parts, [], []⟩
def d_ordered_parts : He.DefD := ⟨("ordered_parts", none), "ordered_parts", "ordered_parts", defArgs s_ordered_parts, defBody s_ordered_parts, defScope s_ordered_parts, [], []⟩
def d_found_by_cells : He.DefD := ⟨("found_by_cells", none), "found_by_cells", "found_by_cells", defArgs s_found_by_cells, defBody s_found_by_cells, defScope s_found_by_cells, [], []⟩
def d_up_to_limit : He.DefD := ⟨("up_to_limit", none), "up_to_limit", "up_to_limit", defArgs s_up_to_limit, defBody s_up_to_limit, defScope s_up_to_limit, [], []⟩
def d_serves : He.DefD := ⟨("serves", none), "serves", "serves", defArgs s_serves, defBody s_serves, defScope s_serves, [], []⟩
def d_covers : He.DefD := ⟨("covers", none), "covers", "covers", defArgs s_covers, defBody s_covers, defScope s_covers, [], []⟩
def d_columns_of : He.DefD := ⟨("columns_of", none), "columns_of", "columns_of", defArgs s_columns_of, defBody s_columns_of, defScope s_columns_of, [], []⟩
def d_needs_of : He.DefD := ⟨("needs_of", none), "needs_of", "needs_of", defArgs s_needs_of, defBody s_needs_of, defScope s_needs_of, [], []⟩
def d_is_free_by : He.DefD := ⟨("is_free_by", none), "is_free_by", "is_free_by", defArgs s_is_free_by, defBody s_is_free_by, defScope s_is_free_by, [], []⟩
def d_entries_of : He.DefD := ⟨("entries_of", none), "entries_of", "entries_of", defArgs s_entries_of, defBody s_entries_of, defScope s_entries_of, [], []⟩
def d_room_of : He.DefD := ⟨("room_of", none), "room_of", "room_of", defArgs s_room_of, defBody s_room_of, defScope s_room_of, [], []⟩
def d_answers : He.DefD := ⟨("answers", none), "answers", "answers", defArgs s_answers, defBody s_answers, defScope s_answers, [], []⟩
def d_answer_to : He.DefD := ⟨("answer_to", none), "answer_to", "answer_to", defArgs s_answer_to, defBody s_answer_to, defScope s_answer_to, [], []⟩
def d_answer_from : He.DefD := ⟨("answer_from", none), "answer_from", "answer_from", defArgs s_answer_from, defBody s_answer_from, defScope s_answer_from, [], []⟩
def d_load : He.DefD := ⟨("load", none), "load", "load", defArgs s_load, defBody s_load, defScope s_load, [], []⟩
def d_shown : He.DefD := ⟨("shown", none), "shown", "shown", defArgs s_shown, defBody s_shown, defScope s_shown, [], []⟩
def d_about_question : He.DefD := ⟨("about_question", none), "about_question", "about_question", defArgs s_about_question, defBody s_about_question, defScope s_about_question, [], []⟩
def d_rows_answered : He.DefD := ⟨("rows_answered", none), "rows_answered", "rows_answered", defArgs s_rows_answered, defBody s_rows_answered, defScope s_rows_answered, [], []⟩
def d_filters_alone : He.DefD := ⟨("filters_alone", none), "filters_alone", "filters_alone", defArgs s_filters_alone, defBody s_filters_alone, defScope s_filters_alone, [], []⟩
def d_indexes_serving : He.DefD := ⟨("indexes_serving", none), "indexes_serving", "indexes_serving", defArgs s_indexes_serving, defBody s_indexes_serving, defScope s_indexes_serving, [], []⟩
def d_about_index : He.DefD := ⟨("about_index", none), "about_index", "about_index", defArgs s_about_index, defBody s_about_index, defScope s_about_index, [], []⟩
def d_column_split : He.DefD := ⟨("column_split", none), "column_split", "column_split", defArgs s_column_split, defBody s_column_split, defScope s_column_split, [], []⟩
def d_about_filters : He.DefD := ⟨("about_filters", none), "about_filters", "about_filters", defArgs s_about_filters, defBody s_about_filters, defScope s_about_filters, [], []⟩
def d_one_if : He.DefD := ⟨("one_if", none), "one_if", "one_if", defArgs s_one_if, defBody s_one_if, defScope s_one_if, [], []⟩
def fn0 : List He.DefD := [d_Fault_init, d_Sheet_init, d_Group_init, d_Filter_init, d_Question_init, d_Index_init, d_Token_init, d_Reader_init, d_Reader_current, d_Reader_stands, d_Reader_skip_if, d_Reader_expect, d_Reader_expect_end, d_Reader_take_name, d_Reader_take_number, d_Call_init, d_Line_init, d_Line_has_more, d_Line_next_call, d_Line_next_number, d_Line_next_row, d_Part_init, d_Desk_init, d_table_numbers, d_question_numbers, d_index_numbers, d_filter_numbers, d_counted, d_filters_of, d_filter_of]
def fn1 : List He.DefD := [d_is_sound, d_rows_passing, d_rows_split, d_passes_all, d_passes, d_say, d_lets_all_pass, d_is_within, d_say_in_table, d_one_form, d_table_line, d_group_line, d_question_line, d_index_line, d_ended, d_column_words, d_filter_words, d_tokens_of, d_token_at, d_word_at, d_number_at, d_run_end, d_sheet_of, d_check_room, d_read_table, d_read_new_name, d_read_group, d_read_cells, d_read_question, d_read_index]
def fn2 : List He.DefD := [d_read_columns, d_read_column, d_read_filters, d_read_filter, d_answered_parts, d_ordered_parts, d_found_by_cells, d_up_to_limit, d_serves, d_covers, d_columns_of, d_needs_of, d_is_free_by, d_entries_of, d_room_of, d_answers, d_answer_to, d_answer_from, d_load, d_shown, d_about_question, d_rows_answered, d_filters_alone, d_indexes_serving, d_about_index, d_column_split, d_about_filters, d_one_if]
def fn : List He.DefD := fn0 ++ fn1 ++ fn2
def fa0 : List He.Fa := [.glo "Fault", .exm "Fault" "Fault" true, .keep "Fault", .noat "Fault" "kind", .noat "Fault" "place", .glo "Sheet", .cls "Sheet", .mkr "Sheet", .noat "Sheet" "columns", .noat "Sheet" "groups", .noat "Sheet" "questions", .noat "Sheet" "indexes", .glo "Group", .cls "Group", .mkr "Group", .noat "Group" "cells", .noat "Group" "rows", .glo "Filter", .cls "Filter", .mkr "Filter", .noat "Filter" "column", .noat "Filter" "low", .noat "Filter" "high", .glo "Question", .cls "Question", .mkr "Question", .noat "Question" "name", .noat "Question" "filters", .noat "Question" "order", .noat "Question" "backwards"]
def fa1 : List He.Fa := [.noat "Question" "wanted", .noat "Question" "limit", .noat "Question" "times", .glo "Index", .cls "Index", .mkr "Index", .noat "Index" "name", .noat "Index" "key_columns", .noat "Index" "included", .noat "Index" "condition", .glo "Token", .cls "Token", .mkr "Token", .noat "Token" "kind", .noat "Token" "spelling", .noat "Token" "number", .noat "Token" "place", .noat "Token" "end", .glo "Reader", .cls "Reader", .mkr "Reader", .noat "Reader" "tokens", .noat "Reader" "position", .meth "Reader" "current", .meth "Reader" "stands", .meth "Reader" "skip_if", .meth "Reader" "expect", .meth "Reader" "expect_end", .meth "Reader" "take_name", .meth "Reader" "take_number"]
def fa2 : List He.Fa := [.glo "Call", .cls "Call", .mkr "Call", .noat "Call" "kind", .noat "Call" "numbers", .noat "Call" "rows", .glo "Line", .cls "Line", .mkr "Line", .noat "Line" "figures", .noat "Line" "position", .meth "Line" "has_more", .meth "Line" "next_call", .meth "Line" "next_number", .meth "Line" "next_row", .glo "Part", .cls "Part", .mkr "Part", .noat "Part" "cells", .noat "Part" "rows", .glo "Desk", .cls "Desk", .mkr "Desk", .noat "Desk" "sheet", .glo "table_numbers", .glo "question_numbers", .glo "index_numbers", .glo "filter_numbers", .glo "counted", .glo "filters_of"]
def fa3 : List He.Fa := [.glo "filter_of", .glo "is_sound", .glo "rows_passing", .glo "rows_split", .glo "passes_all", .glo "passes", .glo "say", .glo "lets_all_pass", .glo "is_within", .glo "say_in_table", .glo "one_form", .glo "table_line", .glo "group_line", .glo "question_line", .glo "index_line", .glo "ended", .glo "column_words", .glo "filter_words", .glo "tokens_of", .glo "token_at", .glo "word_at", .glo "number_at", .glo "run_end", .glo "sheet_of", .glo "check_room", .glo "read_table", .glo "read_new_name", .glo "read_group", .glo "read_cells", .glo "read_question"]
def fa4 : List He.Fa := [.glo "read_index", .glo "read_columns", .glo "read_column", .glo "read_filters", .glo "read_filter", .glo "answered_parts", .glo "ordered_parts", .glo "found_by_cells", .glo "up_to_limit", .glo "serves", .glo "covers", .glo "columns_of", .glo "needs_of", .glo "is_free_by", .glo "entries_of", .glo "room_of", .glo "answers", .glo "answer_to", .glo "answer_from", .glo "load", .glo "shown", .glo "about_question", .glo "rows_answered", .glo "filters_alone", .glo "indexes_serving", .glo "about_index", .glo "column_split", .glo "about_filters", .glo "one_if", .int "NO_TOKEN" 1]
def fa5 : List He.Fa := [.int "MISPLACED" 2, .int "OUT_OF_RANGE" 3, .int "WRONG_WORD" 4, .int "TOO_MANY" 5, .int "HIGHEST_VALUE" 9, .str "WORD" "word", .str "NUMBER" "number", .str "SIGN" "sign", .str "END" "end", .str "LETTERS" "abcdefghijklmnopqrstuvwxyz", .int "LETTER_A" 97, .int "LETTER_Z" 122, .int "DIGIT_0" 48, .int "DIGIT_9" 57, .glo "BLANKS", .glo "SIGNS", .int "LONGEST_RUN" 7, .glo "RESERVED", .int "MOST_COLUMNS" 4, .int "MOST_GROUPS" 12, .int "MOST_QUESTIONS" 6, .int "MOST_INDEXES" 8, .int "MOST_ROWS" 1000000, .int "HIGHEST_LIMIT" 1000000, .int "MOST_TIMES" 1000, .glo "SHAPES", .int "LOAD" 0, .int "SHOWN" 1, .int "TABLE" 2, .int "ASK" 3]
def fa6 : List He.Fa := [.int "INDEX" 4, .int "COUNT" 5, .int "SPLIT" 6, .int "ANSWER" 7, .int "ALONE" 8, .int "SERVES" 10, .int "ROOM" 11, .int "LONGEST_TEXT" 1200, .free "len", .free "range", .free "sum", .free "all", .free "any", .free "ord", .free "str", .free "enumerate", .free "min", .free "sorted", .free "reversed", .free "list", .free "tuple"]
def fa : List He.Fa := fa0 ++ fa1 ++ fa2 ++ fa3 ++ fa4 ++ fa5 ++ fa6
def tab_BLANKS : List He.Dv := [.int 32, .int 10]
def tab_RESERVED : List He.Dv := [.str "table", .str "row", .str "ask", .str "index", .str "where", .str "and", .str "from", .str "to", .str "by", .str "back", .str "wants", .str "first", .str "times", .str "on", .str "with", .str "only"]

/-- a written dict with whole numbers as keys: its pairs, by a look -/
def wdB (K : PySem.W.Frag) (a : Addr) (kvs : List (Int × V)) : Bool := match K.lookup a with
  | some ⟨.type c, none, .dict es _, sl⟩ => decide (c = "dict") && sl.isEmpty && !(a == sysModules) && decide ((kvs.map (·.1)).Nodup) && wdAll kvs es.toList
  | _ => false
where wdAll : List (Int × V) → List DictEntry → Bool
  | [], [] => true
  | p :: ps, e :: es => (match e.key with
    | .int k _ => decide (k = p.1)
    | _ => false) && decide (e.hash = hashInt p.1) && He.relB p.2 e.val && wdAll ps es
  | _, _ => false
theorem wdAll_ok : ∀ {kvs : List (Int × V)} {es : List DictEntry}, wdB.wdAll kvs es = true → Paired (fun (p : Int × V) (e : DictEntry) => (∃ t, e.key = .int p.1 t) ∧ e.hash = hashInt p.1 ∧ RelV p.2 e.val) kvs es
  | [], [], _ => .nil
  | [], _ :: _, h => by cases h
  | _ :: _, [], h => by cases h
  | p :: ps, e :: es, h => by
    obtain ⟨h1, h4⟩ := He.ba (show ((_ && _ && _) && wdB.wdAll ps es) = true from h)
    obtain ⟨h2, h3⟩ := He.ba h1
    obtain ⟨h5, h6⟩ := He.ba h2
    refine .cons ⟨?_, of_decide_eq_true h6, He.relB_ok h3⟩ (wdAll_ok h4)
    cases e1 : e.key with
    | int k t =>
      rw [e1] at h5
      have z : k = p.1 := of_decide_eq_true h5
      exact ⟨t, by rw [z]⟩
    | _ =>
      rw [e1] at h5
      cases h5
theorem wdB_ok {K : PySem.W.Frag} {a : Addr} {kvs : List (Int × V)} (h : wdB K a kvs = true) : WDct K a kvs := by
  unfold wdB at h
  cases q : K.lookup a with
  | none =>
    rw [q] at h
    cases h
  | some o =>
    obtain ⟨oc, od, dt, osl⟩ := o
    rw [q] at h
    cases oc with
    | type c =>
      cases od with
      | none =>
        cases dt with
        | dict es n =>
          obtain ⟨h1, h2⟩ := He.ba h
          obtain ⟨h3, h4⟩ := He.ba h1
          obtain ⟨h5, h6⟩ := He.ba h3
          obtain ⟨h7, h8⟩ := He.ba h5
          have e1 : c = "dict" := of_decide_eq_true h7
          have e2 : osl = #[] := Array.isEmpty_iff.mp h8
          subst e1 e2
          exact ⟨by simpa using h6, es, n, q, of_decide_eq_true h4, wdAll_ok h2⟩
        | _ => cases h
      | some d => cases dt <;> cases h
    | _ => cases od <;> cases dt <;> cases h
/-- a written tuple of whole numbers -/
def itB (K : PySem.W.Frag) (a : Addr) (ns : List Int) : Bool := match K.lookup a with
  | some ⟨.type c, _, .seq its _, _⟩ => decide (c = "tuple") && (decide (its.size ≤ sizeLine) && He.relAll (ns.map V.int) its.toList)
  | _ => false
theorem itB_ok {K : PySem.W.Frag} {a : Addr} {ns : List Int} (h : itB K a ns = true) (H : Hp) : SqT K H a (ns.map V.int) := by
  unfold itB at h
  cases q : K.lookup a with
  | none =>
    rw [q] at h
    cases h
  | some o =>
    obtain ⟨oc, od, dt, osl⟩ := o
    rw [q] at h
    cases oc with
    | type c =>
      cases dt with
      | seq its n =>
        obtain ⟨h1, h2⟩ := He.ba h
        obtain ⟨h3, h4⟩ := He.ba h2
        exact .inr ⟨_, its, n, q, congrArg Value.type (of_decide_eq_true h1), rfl, of_decide_eq_true h3, He.relAll_ok h4⟩
      | _ => cases h
    | _ => cases dt <;> cases h
/-- the k-th value of a written dict, if it is an object -/
def wvA (K : PySem.W.Frag) (a : Addr) (i : Nat) : Addr := match K.lookup a with
  | some ⟨_, _, .dict es _, _⟩ => (match es.toList[i]? with
    | some e => (match e.val with
      | .ref b => b
      | _ => 0)
    | none => 0)
  | _ => 0
def tab_SIGNS : List (Int × V) := [(40, .str "("), (41, .str ")"), (44, .str ","), (59, .str ";"), (61, .str "=")]
abbrev kv_SIGNS (K : PySem.W.Frag) : List (Int × V) := tab_SIGNS
def kv_SHAPES (K : PySem.W.Frag) : List (Int × V) := [(0, .ref (wvA K (He.ga K "SHAPES") 0)), (1, .ref (wvA K (He.ga K "SHAPES") 1)), (2, .ref (wvA K (He.ga K "SHAPES") 2)), (3, .ref (wvA K (He.ga K "SHAPES") 3)), (4, .ref (wvA K (He.ga K "SHAPES") 4)), (5, .ref (wvA K (He.ga K "SHAPES") 5)), (6, .ref (wvA K (He.ga K "SHAPES") 6)), (7, .ref (wvA K (He.ga K "SHAPES") 7)), (8, .ref (wvA K (He.ga K "SHAPES") 8)), (9, .ref (wvA K (He.ga K "SHAPES") 9)), (10, .ref (wvA K (He.ga K "SHAPES") 10)), (11, .ref (wvA K (He.ga K "SHAPES") 11))]
def tp_SHAPES : List (List Int) := [[0, 1], [0, 0], [0, 0], [1, 0], [1, 0], [0, 1], [1, 0], [1, 0], [1, 0], [0, 2], [1, 0], [1, 0]]
/-- Fault, by a look -/
def ftB (K : PySem.W.Frag) : Bool := ftCls K && (decide (PySem.W.findIn K (.ref (He.ga K "Fault")) "__setattr__" = some (some (.builtin "object.__setattr__"))) && (xfB K (He.ga K "Fault") &&
  (decide (PySem.W.findIn K (.ref (He.ga K "Fault")) "__init__" = some (some (.ref (He.ma K (He.ga K "Fault") "__init__")))) && (decide (PySem.W.typeIn K (.ref (He.ma K (He.ga K "Fault") "__init__")) = some (.type "function")) && decide (PySem.W.typeIn K (.ref (He.ga K "Fault")) = some (.type "type"))))))
where ftCls (K : PySem.W.Frag) : Bool := match K.lookup (He.ga K "Fault") with
  | some ⟨.type "type", _, .cls cd, sl⟩ => (match sl.toList with
    | [_, _, _, _, some (.builtin n), _] => decide (cd.mro = .ref (He.ga K "Fault") :: PySem.FtX.exT) && (n == "Exception.__new__" && (cd.hasDict && !cd.hasDel))
    | _ => false)
  | _ => false
theorem ftCls_ok {K : PySem.W.Frag} (h : ftB.ftCls K = true) : ∃ nm q N bs sn sub ab col dd k0 k1 k2 k3 k5, K.lookup (He.ga K "Fault") = some (excClassObj nm q (He.ga K "Fault") N bs PySem.FtX.exT true sn sub ab col dd k0 k1 k2 k3 k5 "Exception.__new__") := by
  unfold ftB.ftCls at h
  split at h
  · rename_i dd cd sl ho
    split at h
    · rename_i a0 a1 a2 a3 n a5 hs
      obtain ⟨h1, h2⟩ := He.ba h
      obtain ⟨h3, h4⟩ := He.ba h2
      obtain ⟨h5, h6⟩ := He.ba h4
      obtain ⟨nm, bs, mro, ns, qn, hd, sn, sb, ab, col, del⟩ := cd
      have e1 : mro = _ := of_decide_eq_true h1
      have e2 : n = "Exception.__new__" := eq_of_beq h3
      have e3 : hd = true := h5
      have e4 : del = false := by simpa using h6
      have e5 : sl = #[a0, a1, a2, a3, some (.builtin n), a5] := by
        have := congrArg List.toArray hs
        simpa using this
      subst e1 e2 e3 e4 e5
      exact ⟨nm, qn, ns, bs, sn, sb, ab, col, dd, a0, a1, a2, a3, a5, ho⟩
    · cases h
  · cases h
def exB (K : PySem.W.Frag) : Bool := ftB K && (He.tupB K "BLANKS" tab_BLANKS) && (He.tupB K "RESERVED" tab_RESERVED) && (wdB K (He.ga K "SIGNS") tab_SIGNS) && (wdB K (He.ga K "SHAPES") (kv_SHAPES K)) && (tp_SHAPES.zipIdx.all (fun p => itB K (wvA K (He.ga K "SHAPES") p.2) p.1))
/-- what the end leans on -/
structure Txt (K : PySem.W.Frag) (mg : Str → Option Value) : Prop where
  heap : ∃ h : Heap, K.In h ∧ h.Ns mainGlobals mg
  says : He.SaysD fa fn K
  more : exB K = true
section
variable {K : PySem.W.Frag} {mg : Str → Option Value}
theorem int_c {x : Str} {i : Int} (h : ∃ t, mg x = some (.int i t)) : ∃ u, mg x = some u ∧ RelV (.int i) u := by
  obtain ⟨t, e⟩ := h
  exact ⟨_, e, t, rfl⟩
theorem str_c {x z : Str} (h : ∃ t, mg x = some (.str z t)) : ∃ u, mg x = some u ∧ RelV (.str z) u := by
  obtain ⟨t, e⟩ := h
  exact ⟨_, e, t, rfl⟩
noncomputable def Txt.hp (T : Txt K mg) : Heap := T.heap.choose
theorem Txt.kin (T : Txt K mg) : K.In T.hp := T.heap.choose_spec.1
theorem Txt.ns (T : Txt K mg) : T.hp.Ns mainGlobals mg := T.heap.choose_spec.2
theorem g_Fault (T : Txt K mg) : mg "Fault" = some (.ref (He.ga K "Fault")) := He.glo_ok T.kin T.ns (T.says.fact 0 rfl)
theorem e_Fault (T : Txt K mg) : PySem.W.exmOne K (.ref (He.ga K "Fault")) (.ref (He.ga K "Fault")) = some true := He.exm_ok (T.says.fact 1 rfl)
theorem kp_Fault (T : Txt K mg) : PySem.W.keepIn K (.ref (He.ga K "Fault")) = true := He.keep_ok (T.says.fact 2 rfl)
theorem n_Fault_kind (T : Txt K mg) : NoAttr K (He.ga K "Fault") "kind" := He.noat_ok (T.says.fact 3 rfl)
theorem n_Fault_place (T : Txt K mg) : NoAttr K (He.ga K "Fault") "place" := He.noat_ok (T.says.fact 4 rfl)
theorem g_Sheet (T : Txt K mg) : mg "Sheet" = some (.ref (He.ga K "Sheet")) := He.glo_ok T.kin T.ns (T.says.fact 5 rfl)
theorem cl_Sheet (T : Txt K mg) : Cls K (He.ga K "Sheet") := He.cls_ok (T.says.fact 6 rfl)
theorem k_Sheet_init (T : Txt K mg) : Mk K (He.ga K "Sheet") (He.ma K (He.ga K "Sheet") "__init__") := He.mkr_ok (T.says.fact 7 rfl)
theorem n_Sheet_columns (T : Txt K mg) : NoAttr K (He.ga K "Sheet") "columns" := He.noat_ok (T.says.fact 8 rfl)
theorem n_Sheet_groups (T : Txt K mg) : NoAttr K (He.ga K "Sheet") "groups" := He.noat_ok (T.says.fact 9 rfl)
theorem n_Sheet_questions (T : Txt K mg) : NoAttr K (He.ga K "Sheet") "questions" := He.noat_ok (T.says.fact 10 rfl)
theorem n_Sheet_indexes (T : Txt K mg) : NoAttr K (He.ga K "Sheet") "indexes" := He.noat_ok (T.says.fact 11 rfl)
theorem g_Group (T : Txt K mg) : mg "Group" = some (.ref (He.ga K "Group")) := He.glo_ok T.kin T.ns (T.says.fact 12 rfl)
theorem cl_Group (T : Txt K mg) : Cls K (He.ga K "Group") := He.cls_ok (T.says.fact 13 rfl)
theorem k_Group_init (T : Txt K mg) : Mk K (He.ga K "Group") (He.ma K (He.ga K "Group") "__init__") := He.mkr_ok (T.says.fact 14 rfl)
theorem n_Group_cells (T : Txt K mg) : NoAttr K (He.ga K "Group") "cells" := He.noat_ok (T.says.fact 15 rfl)
theorem n_Group_rows (T : Txt K mg) : NoAttr K (He.ga K "Group") "rows" := He.noat_ok (T.says.fact 16 rfl)
theorem g_Filter (T : Txt K mg) : mg "Filter" = some (.ref (He.ga K "Filter")) := He.glo_ok T.kin T.ns (T.says.fact 17 rfl)
theorem cl_Filter (T : Txt K mg) : Cls K (He.ga K "Filter") := He.cls_ok (T.says.fact 18 rfl)
theorem k_Filter_init (T : Txt K mg) : Mk K (He.ga K "Filter") (He.ma K (He.ga K "Filter") "__init__") := He.mkr_ok (T.says.fact 19 rfl)
theorem n_Filter_column (T : Txt K mg) : NoAttr K (He.ga K "Filter") "column" := He.noat_ok (T.says.fact 20 rfl)
theorem n_Filter_low (T : Txt K mg) : NoAttr K (He.ga K "Filter") "low" := He.noat_ok (T.says.fact 21 rfl)
theorem n_Filter_high (T : Txt K mg) : NoAttr K (He.ga K "Filter") "high" := He.noat_ok (T.says.fact 22 rfl)
theorem g_Question (T : Txt K mg) : mg "Question" = some (.ref (He.ga K "Question")) := He.glo_ok T.kin T.ns (T.says.fact 23 rfl)
theorem cl_Question (T : Txt K mg) : Cls K (He.ga K "Question") := He.cls_ok (T.says.fact 24 rfl)
theorem k_Question_init (T : Txt K mg) : Mk K (He.ga K "Question") (He.ma K (He.ga K "Question") "__init__") := He.mkr_ok (T.says.fact 25 rfl)
theorem n_Question_name (T : Txt K mg) : NoAttr K (He.ga K "Question") "name" := He.noat_ok (T.says.fact 26 rfl)
theorem n_Question_filters (T : Txt K mg) : NoAttr K (He.ga K "Question") "filters" := He.noat_ok (T.says.fact 27 rfl)
theorem n_Question_order (T : Txt K mg) : NoAttr K (He.ga K "Question") "order" := He.noat_ok (T.says.fact 28 rfl)
theorem n_Question_backwards (T : Txt K mg) : NoAttr K (He.ga K "Question") "backwards" := He.noat_ok (T.says.fact 29 rfl)
theorem n_Question_wanted (T : Txt K mg) : NoAttr K (He.ga K "Question") "wanted" := He.noat_ok (T.says.fact 30 rfl)
theorem n_Question_limit (T : Txt K mg) : NoAttr K (He.ga K "Question") "limit" := He.noat_ok (T.says.fact 31 rfl)
theorem n_Question_times (T : Txt K mg) : NoAttr K (He.ga K "Question") "times" := He.noat_ok (T.says.fact 32 rfl)
theorem g_Index (T : Txt K mg) : mg "Index" = some (.ref (He.ga K "Index")) := He.glo_ok T.kin T.ns (T.says.fact 33 rfl)
theorem cl_Index (T : Txt K mg) : Cls K (He.ga K "Index") := He.cls_ok (T.says.fact 34 rfl)
theorem k_Index_init (T : Txt K mg) : Mk K (He.ga K "Index") (He.ma K (He.ga K "Index") "__init__") := He.mkr_ok (T.says.fact 35 rfl)
theorem n_Index_name (T : Txt K mg) : NoAttr K (He.ga K "Index") "name" := He.noat_ok (T.says.fact 36 rfl)
theorem n_Index_key_columns (T : Txt K mg) : NoAttr K (He.ga K "Index") "key_columns" := He.noat_ok (T.says.fact 37 rfl)
theorem n_Index_included (T : Txt K mg) : NoAttr K (He.ga K "Index") "included" := He.noat_ok (T.says.fact 38 rfl)
theorem n_Index_condition (T : Txt K mg) : NoAttr K (He.ga K "Index") "condition" := He.noat_ok (T.says.fact 39 rfl)
theorem g_Token (T : Txt K mg) : mg "Token" = some (.ref (He.ga K "Token")) := He.glo_ok T.kin T.ns (T.says.fact 40 rfl)
theorem cl_Token (T : Txt K mg) : Cls K (He.ga K "Token") := He.cls_ok (T.says.fact 41 rfl)
theorem k_Token_init (T : Txt K mg) : Mk K (He.ga K "Token") (He.ma K (He.ga K "Token") "__init__") := He.mkr_ok (T.says.fact 42 rfl)
theorem n_Token_kind (T : Txt K mg) : NoAttr K (He.ga K "Token") "kind" := He.noat_ok (T.says.fact 43 rfl)
theorem n_Token_spelling (T : Txt K mg) : NoAttr K (He.ga K "Token") "spelling" := He.noat_ok (T.says.fact 44 rfl)
theorem n_Token_number (T : Txt K mg) : NoAttr K (He.ga K "Token") "number" := He.noat_ok (T.says.fact 45 rfl)
theorem n_Token_place (T : Txt K mg) : NoAttr K (He.ga K "Token") "place" := He.noat_ok (T.says.fact 46 rfl)
theorem n_Token_end (T : Txt K mg) : NoAttr K (He.ga K "Token") "end" := He.noat_ok (T.says.fact 47 rfl)
theorem g_Reader (T : Txt K mg) : mg "Reader" = some (.ref (He.ga K "Reader")) := He.glo_ok T.kin T.ns (T.says.fact 48 rfl)
theorem cl_Reader (T : Txt K mg) : Cls K (He.ga K "Reader") := He.cls_ok (T.says.fact 49 rfl)
theorem k_Reader_init (T : Txt K mg) : Mk K (He.ga K "Reader") (He.ma K (He.ga K "Reader") "__init__") := He.mkr_ok (T.says.fact 50 rfl)
theorem n_Reader_tokens (T : Txt K mg) : NoAttr K (He.ga K "Reader") "tokens" := He.noat_ok (T.says.fact 51 rfl)
theorem n_Reader_position (T : Txt K mg) : NoAttr K (He.ga K "Reader") "position" := He.noat_ok (T.says.fact 52 rfl)
theorem h_Reader_current (T : Txt K mg) : Meth K (He.ga K "Reader") "current" (He.ma K (He.ga K "Reader") "current") := He.meth_ok (T.says.fact 53 rfl)
theorem h_Reader_stands (T : Txt K mg) : Meth K (He.ga K "Reader") "stands" (He.ma K (He.ga K "Reader") "stands") := He.meth_ok (T.says.fact 54 rfl)
theorem h_Reader_skip_if (T : Txt K mg) : Meth K (He.ga K "Reader") "skip_if" (He.ma K (He.ga K "Reader") "skip_if") := He.meth_ok (T.says.fact 55 rfl)
theorem h_Reader_expect (T : Txt K mg) : Meth K (He.ga K "Reader") "expect" (He.ma K (He.ga K "Reader") "expect") := He.meth_ok (T.says.fact 56 rfl)
theorem h_Reader_expect_end (T : Txt K mg) : Meth K (He.ga K "Reader") "expect_end" (He.ma K (He.ga K "Reader") "expect_end") := He.meth_ok (T.says.fact 57 rfl)
theorem h_Reader_take_name (T : Txt K mg) : Meth K (He.ga K "Reader") "take_name" (He.ma K (He.ga K "Reader") "take_name") := He.meth_ok (T.says.fact 58 rfl)
theorem h_Reader_take_number (T : Txt K mg) : Meth K (He.ga K "Reader") "take_number" (He.ma K (He.ga K "Reader") "take_number") := He.meth_ok (T.says.fact 59 rfl)
theorem g_Call (T : Txt K mg) : mg "Call" = some (.ref (He.ga K "Call")) := He.glo_ok T.kin T.ns (T.says.fact 60 rfl)
theorem cl_Call (T : Txt K mg) : Cls K (He.ga K "Call") := He.cls_ok (T.says.fact 61 rfl)
theorem k_Call_init (T : Txt K mg) : Mk K (He.ga K "Call") (He.ma K (He.ga K "Call") "__init__") := He.mkr_ok (T.says.fact 62 rfl)
theorem n_Call_kind (T : Txt K mg) : NoAttr K (He.ga K "Call") "kind" := He.noat_ok (T.says.fact 63 rfl)
theorem n_Call_numbers (T : Txt K mg) : NoAttr K (He.ga K "Call") "numbers" := He.noat_ok (T.says.fact 64 rfl)
theorem n_Call_rows (T : Txt K mg) : NoAttr K (He.ga K "Call") "rows" := He.noat_ok (T.says.fact 65 rfl)
theorem g_Line (T : Txt K mg) : mg "Line" = some (.ref (He.ga K "Line")) := He.glo_ok T.kin T.ns (T.says.fact 66 rfl)
theorem cl_Line (T : Txt K mg) : Cls K (He.ga K "Line") := He.cls_ok (T.says.fact 67 rfl)
theorem k_Line_init (T : Txt K mg) : Mk K (He.ga K "Line") (He.ma K (He.ga K "Line") "__init__") := He.mkr_ok (T.says.fact 68 rfl)
theorem n_Line_figures (T : Txt K mg) : NoAttr K (He.ga K "Line") "figures" := He.noat_ok (T.says.fact 69 rfl)
theorem n_Line_position (T : Txt K mg) : NoAttr K (He.ga K "Line") "position" := He.noat_ok (T.says.fact 70 rfl)
theorem h_Line_has_more (T : Txt K mg) : Meth K (He.ga K "Line") "has_more" (He.ma K (He.ga K "Line") "has_more") := He.meth_ok (T.says.fact 71 rfl)
theorem h_Line_next_call (T : Txt K mg) : Meth K (He.ga K "Line") "next_call" (He.ma K (He.ga K "Line") "next_call") := He.meth_ok (T.says.fact 72 rfl)
theorem h_Line_next_number (T : Txt K mg) : Meth K (He.ga K "Line") "next_number" (He.ma K (He.ga K "Line") "next_number") := He.meth_ok (T.says.fact 73 rfl)
theorem h_Line_next_row (T : Txt K mg) : Meth K (He.ga K "Line") "next_row" (He.ma K (He.ga K "Line") "next_row") := He.meth_ok (T.says.fact 74 rfl)
theorem g_Part (T : Txt K mg) : mg "Part" = some (.ref (He.ga K "Part")) := He.glo_ok T.kin T.ns (T.says.fact 75 rfl)
theorem cl_Part (T : Txt K mg) : Cls K (He.ga K "Part") := He.cls_ok (T.says.fact 76 rfl)
theorem k_Part_init (T : Txt K mg) : Mk K (He.ga K "Part") (He.ma K (He.ga K "Part") "__init__") := He.mkr_ok (T.says.fact 77 rfl)
theorem n_Part_cells (T : Txt K mg) : NoAttr K (He.ga K "Part") "cells" := He.noat_ok (T.says.fact 78 rfl)
theorem n_Part_rows (T : Txt K mg) : NoAttr K (He.ga K "Part") "rows" := He.noat_ok (T.says.fact 79 rfl)
theorem g_Desk (T : Txt K mg) : mg "Desk" = some (.ref (He.ga K "Desk")) := He.glo_ok T.kin T.ns (T.says.fact 80 rfl)
theorem cl_Desk (T : Txt K mg) : Cls K (He.ga K "Desk") := He.cls_ok (T.says.fact 81 rfl)
theorem k_Desk_init (T : Txt K mg) : Mk K (He.ga K "Desk") (He.ma K (He.ga K "Desk") "__init__") := He.mkr_ok (T.says.fact 82 rfl)
theorem n_Desk_sheet (T : Txt K mg) : NoAttr K (He.ga K "Desk") "sheet" := He.noat_ok (T.says.fact 83 rfl)
theorem g_table_numbers (T : Txt K mg) : mg "table_numbers" = some (.ref (He.ga K "table_numbers")) := He.glo_ok T.kin T.ns (T.says.fact 84 rfl)
theorem g_question_numbers (T : Txt K mg) : mg "question_numbers" = some (.ref (He.ga K "question_numbers")) := He.glo_ok T.kin T.ns (T.says.fact 85 rfl)
theorem g_index_numbers (T : Txt K mg) : mg "index_numbers" = some (.ref (He.ga K "index_numbers")) := He.glo_ok T.kin T.ns (T.says.fact 86 rfl)
theorem g_filter_numbers (T : Txt K mg) : mg "filter_numbers" = some (.ref (He.ga K "filter_numbers")) := He.glo_ok T.kin T.ns (T.says.fact 87 rfl)
theorem g_counted (T : Txt K mg) : mg "counted" = some (.ref (He.ga K "counted")) := He.glo_ok T.kin T.ns (T.says.fact 88 rfl)
theorem g_filters_of (T : Txt K mg) : mg "filters_of" = some (.ref (He.ga K "filters_of")) := He.glo_ok T.kin T.ns (T.says.fact 89 rfl)
theorem g_filter_of (T : Txt K mg) : mg "filter_of" = some (.ref (He.ga K "filter_of")) := He.glo_ok T.kin T.ns (T.says.fact 90 rfl)
theorem g_is_sound (T : Txt K mg) : mg "is_sound" = some (.ref (He.ga K "is_sound")) := He.glo_ok T.kin T.ns (T.says.fact 91 rfl)
theorem g_rows_passing (T : Txt K mg) : mg "rows_passing" = some (.ref (He.ga K "rows_passing")) := He.glo_ok T.kin T.ns (T.says.fact 92 rfl)
theorem g_rows_split (T : Txt K mg) : mg "rows_split" = some (.ref (He.ga K "rows_split")) := He.glo_ok T.kin T.ns (T.says.fact 93 rfl)
theorem g_passes_all (T : Txt K mg) : mg "passes_all" = some (.ref (He.ga K "passes_all")) := He.glo_ok T.kin T.ns (T.says.fact 94 rfl)
theorem g_passes (T : Txt K mg) : mg "passes" = some (.ref (He.ga K "passes")) := He.glo_ok T.kin T.ns (T.says.fact 95 rfl)
theorem g_say (T : Txt K mg) : mg "say" = some (.ref (He.ga K "say")) := He.glo_ok T.kin T.ns (T.says.fact 96 rfl)
theorem g_lets_all_pass (T : Txt K mg) : mg "lets_all_pass" = some (.ref (He.ga K "lets_all_pass")) := He.glo_ok T.kin T.ns (T.says.fact 97 rfl)
theorem g_is_within (T : Txt K mg) : mg "is_within" = some (.ref (He.ga K "is_within")) := He.glo_ok T.kin T.ns (T.says.fact 98 rfl)
theorem g_say_in_table (T : Txt K mg) : mg "say_in_table" = some (.ref (He.ga K "say_in_table")) := He.glo_ok T.kin T.ns (T.says.fact 99 rfl)
theorem g_one_form (T : Txt K mg) : mg "one_form" = some (.ref (He.ga K "one_form")) := He.glo_ok T.kin T.ns (T.says.fact 100 rfl)
theorem g_table_line (T : Txt K mg) : mg "table_line" = some (.ref (He.ga K "table_line")) := He.glo_ok T.kin T.ns (T.says.fact 101 rfl)
theorem g_group_line (T : Txt K mg) : mg "group_line" = some (.ref (He.ga K "group_line")) := He.glo_ok T.kin T.ns (T.says.fact 102 rfl)
theorem g_question_line (T : Txt K mg) : mg "question_line" = some (.ref (He.ga K "question_line")) := He.glo_ok T.kin T.ns (T.says.fact 103 rfl)
theorem g_index_line (T : Txt K mg) : mg "index_line" = some (.ref (He.ga K "index_line")) := He.glo_ok T.kin T.ns (T.says.fact 104 rfl)
theorem g_ended (T : Txt K mg) : mg "ended" = some (.ref (He.ga K "ended")) := He.glo_ok T.kin T.ns (T.says.fact 105 rfl)
theorem g_column_words (T : Txt K mg) : mg "column_words" = some (.ref (He.ga K "column_words")) := He.glo_ok T.kin T.ns (T.says.fact 106 rfl)
theorem g_filter_words (T : Txt K mg) : mg "filter_words" = some (.ref (He.ga K "filter_words")) := He.glo_ok T.kin T.ns (T.says.fact 107 rfl)
theorem g_tokens_of (T : Txt K mg) : mg "tokens_of" = some (.ref (He.ga K "tokens_of")) := He.glo_ok T.kin T.ns (T.says.fact 108 rfl)
theorem g_token_at (T : Txt K mg) : mg "token_at" = some (.ref (He.ga K "token_at")) := He.glo_ok T.kin T.ns (T.says.fact 109 rfl)
theorem g_word_at (T : Txt K mg) : mg "word_at" = some (.ref (He.ga K "word_at")) := He.glo_ok T.kin T.ns (T.says.fact 110 rfl)
theorem g_number_at (T : Txt K mg) : mg "number_at" = some (.ref (He.ga K "number_at")) := He.glo_ok T.kin T.ns (T.says.fact 111 rfl)
theorem g_run_end (T : Txt K mg) : mg "run_end" = some (.ref (He.ga K "run_end")) := He.glo_ok T.kin T.ns (T.says.fact 112 rfl)
theorem g_sheet_of (T : Txt K mg) : mg "sheet_of" = some (.ref (He.ga K "sheet_of")) := He.glo_ok T.kin T.ns (T.says.fact 113 rfl)
theorem g_check_room (T : Txt K mg) : mg "check_room" = some (.ref (He.ga K "check_room")) := He.glo_ok T.kin T.ns (T.says.fact 114 rfl)
theorem g_read_table (T : Txt K mg) : mg "read_table" = some (.ref (He.ga K "read_table")) := He.glo_ok T.kin T.ns (T.says.fact 115 rfl)
theorem g_read_new_name (T : Txt K mg) : mg "read_new_name" = some (.ref (He.ga K "read_new_name")) := He.glo_ok T.kin T.ns (T.says.fact 116 rfl)
theorem g_read_group (T : Txt K mg) : mg "read_group" = some (.ref (He.ga K "read_group")) := He.glo_ok T.kin T.ns (T.says.fact 117 rfl)
theorem g_read_cells (T : Txt K mg) : mg "read_cells" = some (.ref (He.ga K "read_cells")) := He.glo_ok T.kin T.ns (T.says.fact 118 rfl)
theorem g_read_question (T : Txt K mg) : mg "read_question" = some (.ref (He.ga K "read_question")) := He.glo_ok T.kin T.ns (T.says.fact 119 rfl)
theorem g_read_index (T : Txt K mg) : mg "read_index" = some (.ref (He.ga K "read_index")) := He.glo_ok T.kin T.ns (T.says.fact 120 rfl)
theorem g_read_columns (T : Txt K mg) : mg "read_columns" = some (.ref (He.ga K "read_columns")) := He.glo_ok T.kin T.ns (T.says.fact 121 rfl)
theorem g_read_column (T : Txt K mg) : mg "read_column" = some (.ref (He.ga K "read_column")) := He.glo_ok T.kin T.ns (T.says.fact 122 rfl)
theorem g_read_filters (T : Txt K mg) : mg "read_filters" = some (.ref (He.ga K "read_filters")) := He.glo_ok T.kin T.ns (T.says.fact 123 rfl)
theorem g_read_filter (T : Txt K mg) : mg "read_filter" = some (.ref (He.ga K "read_filter")) := He.glo_ok T.kin T.ns (T.says.fact 124 rfl)
theorem g_answered_parts (T : Txt K mg) : mg "answered_parts" = some (.ref (He.ga K "answered_parts")) := He.glo_ok T.kin T.ns (T.says.fact 125 rfl)
theorem g_ordered_parts (T : Txt K mg) : mg "ordered_parts" = some (.ref (He.ga K "ordered_parts")) := He.glo_ok T.kin T.ns (T.says.fact 126 rfl)
theorem g_found_by_cells (T : Txt K mg) : mg "found_by_cells" = some (.ref (He.ga K "found_by_cells")) := He.glo_ok T.kin T.ns (T.says.fact 127 rfl)
theorem g_up_to_limit (T : Txt K mg) : mg "up_to_limit" = some (.ref (He.ga K "up_to_limit")) := He.glo_ok T.kin T.ns (T.says.fact 128 rfl)
theorem g_serves (T : Txt K mg) : mg "serves" = some (.ref (He.ga K "serves")) := He.glo_ok T.kin T.ns (T.says.fact 129 rfl)
theorem g_covers (T : Txt K mg) : mg "covers" = some (.ref (He.ga K "covers")) := He.glo_ok T.kin T.ns (T.says.fact 130 rfl)
theorem g_columns_of (T : Txt K mg) : mg "columns_of" = some (.ref (He.ga K "columns_of")) := He.glo_ok T.kin T.ns (T.says.fact 131 rfl)
theorem g_needs_of (T : Txt K mg) : mg "needs_of" = some (.ref (He.ga K "needs_of")) := He.glo_ok T.kin T.ns (T.says.fact 132 rfl)
theorem g_is_free_by (T : Txt K mg) : mg "is_free_by" = some (.ref (He.ga K "is_free_by")) := He.glo_ok T.kin T.ns (T.says.fact 133 rfl)
theorem g_entries_of (T : Txt K mg) : mg "entries_of" = some (.ref (He.ga K "entries_of")) := He.glo_ok T.kin T.ns (T.says.fact 134 rfl)
theorem g_room_of (T : Txt K mg) : mg "room_of" = some (.ref (He.ga K "room_of")) := He.glo_ok T.kin T.ns (T.says.fact 135 rfl)
theorem g_answers (T : Txt K mg) : mg "answers" = some (.ref (He.ga K "answers")) := He.glo_ok T.kin T.ns (T.says.fact 136 rfl)
theorem g_answer_to (T : Txt K mg) : mg "answer_to" = some (.ref (He.ga K "answer_to")) := He.glo_ok T.kin T.ns (T.says.fact 137 rfl)
theorem g_answer_from (T : Txt K mg) : mg "answer_from" = some (.ref (He.ga K "answer_from")) := He.glo_ok T.kin T.ns (T.says.fact 138 rfl)
theorem g_load (T : Txt K mg) : mg "load" = some (.ref (He.ga K "load")) := He.glo_ok T.kin T.ns (T.says.fact 139 rfl)
theorem g_shown (T : Txt K mg) : mg "shown" = some (.ref (He.ga K "shown")) := He.glo_ok T.kin T.ns (T.says.fact 140 rfl)
theorem g_about_question (T : Txt K mg) : mg "about_question" = some (.ref (He.ga K "about_question")) := He.glo_ok T.kin T.ns (T.says.fact 141 rfl)
theorem g_rows_answered (T : Txt K mg) : mg "rows_answered" = some (.ref (He.ga K "rows_answered")) := He.glo_ok T.kin T.ns (T.says.fact 142 rfl)
theorem g_filters_alone (T : Txt K mg) : mg "filters_alone" = some (.ref (He.ga K "filters_alone")) := He.glo_ok T.kin T.ns (T.says.fact 143 rfl)
theorem g_indexes_serving (T : Txt K mg) : mg "indexes_serving" = some (.ref (He.ga K "indexes_serving")) := He.glo_ok T.kin T.ns (T.says.fact 144 rfl)
theorem g_about_index (T : Txt K mg) : mg "about_index" = some (.ref (He.ga K "about_index")) := He.glo_ok T.kin T.ns (T.says.fact 145 rfl)
theorem g_column_split (T : Txt K mg) : mg "column_split" = some (.ref (He.ga K "column_split")) := He.glo_ok T.kin T.ns (T.says.fact 146 rfl)
theorem g_about_filters (T : Txt K mg) : mg "about_filters" = some (.ref (He.ga K "about_filters")) := He.glo_ok T.kin T.ns (T.says.fact 147 rfl)
theorem g_one_if (T : Txt K mg) : mg "one_if" = some (.ref (He.ga K "one_if")) := He.glo_ok T.kin T.ns (T.says.fact 148 rfl)
theorem c_NO_TOKEN (T : Txt K mg) : ∃ u, mg "NO_TOKEN" = some u ∧ RelV (.int 1) u := int_c (He.int_ok T.kin T.ns (T.says.fact 149 rfl))
theorem c_MISPLACED (T : Txt K mg) : ∃ u, mg "MISPLACED" = some u ∧ RelV (.int 2) u := int_c (He.int_ok T.kin T.ns (T.says.fact 150 rfl))
theorem c_OUT_OF_RANGE (T : Txt K mg) : ∃ u, mg "OUT_OF_RANGE" = some u ∧ RelV (.int 3) u := int_c (He.int_ok T.kin T.ns (T.says.fact 151 rfl))
theorem c_WRONG_WORD (T : Txt K mg) : ∃ u, mg "WRONG_WORD" = some u ∧ RelV (.int 4) u := int_c (He.int_ok T.kin T.ns (T.says.fact 152 rfl))
theorem c_TOO_MANY (T : Txt K mg) : ∃ u, mg "TOO_MANY" = some u ∧ RelV (.int 5) u := int_c (He.int_ok T.kin T.ns (T.says.fact 153 rfl))
theorem c_HIGHEST_VALUE (T : Txt K mg) : ∃ u, mg "HIGHEST_VALUE" = some u ∧ RelV (.int 9) u := int_c (He.int_ok T.kin T.ns (T.says.fact 154 rfl))
theorem c_WORD (T : Txt K mg) : ∃ u, mg "WORD" = some u ∧ RelV (.str "word") u := str_c (He.str_ok T.kin T.ns (T.says.fact 155 rfl))
theorem c_NUMBER (T : Txt K mg) : ∃ u, mg "NUMBER" = some u ∧ RelV (.str "number") u := str_c (He.str_ok T.kin T.ns (T.says.fact 156 rfl))
theorem c_SIGN (T : Txt K mg) : ∃ u, mg "SIGN" = some u ∧ RelV (.str "sign") u := str_c (He.str_ok T.kin T.ns (T.says.fact 157 rfl))
theorem c_END (T : Txt K mg) : ∃ u, mg "END" = some u ∧ RelV (.str "end") u := str_c (He.str_ok T.kin T.ns (T.says.fact 158 rfl))
theorem c_LETTERS (T : Txt K mg) : ∃ u, mg "LETTERS" = some u ∧ RelV (.str "abcdefghijklmnopqrstuvwxyz") u := str_c (He.str_ok T.kin T.ns (T.says.fact 159 rfl))
theorem c_LETTER_A (T : Txt K mg) : ∃ u, mg "LETTER_A" = some u ∧ RelV (.int 97) u := int_c (He.int_ok T.kin T.ns (T.says.fact 160 rfl))
theorem c_LETTER_Z (T : Txt K mg) : ∃ u, mg "LETTER_Z" = some u ∧ RelV (.int 122) u := int_c (He.int_ok T.kin T.ns (T.says.fact 161 rfl))
theorem c_DIGIT_0 (T : Txt K mg) : ∃ u, mg "DIGIT_0" = some u ∧ RelV (.int 48) u := int_c (He.int_ok T.kin T.ns (T.says.fact 162 rfl))
theorem c_DIGIT_9 (T : Txt K mg) : ∃ u, mg "DIGIT_9" = some u ∧ RelV (.int 57) u := int_c (He.int_ok T.kin T.ns (T.says.fact 163 rfl))
theorem g_BLANKS (T : Txt K mg) : mg "BLANKS" = some (.ref (He.ga K "BLANKS")) := He.glo_ok T.kin T.ns (T.says.fact 164 rfl)
theorem g_SIGNS (T : Txt K mg) : mg "SIGNS" = some (.ref (He.ga K "SIGNS")) := He.glo_ok T.kin T.ns (T.says.fact 165 rfl)
theorem c_LONGEST_RUN (T : Txt K mg) : ∃ u, mg "LONGEST_RUN" = some u ∧ RelV (.int 7) u := int_c (He.int_ok T.kin T.ns (T.says.fact 166 rfl))
theorem g_RESERVED (T : Txt K mg) : mg "RESERVED" = some (.ref (He.ga K "RESERVED")) := He.glo_ok T.kin T.ns (T.says.fact 167 rfl)
theorem c_MOST_COLUMNS (T : Txt K mg) : ∃ u, mg "MOST_COLUMNS" = some u ∧ RelV (.int 4) u := int_c (He.int_ok T.kin T.ns (T.says.fact 168 rfl))
theorem c_MOST_GROUPS (T : Txt K mg) : ∃ u, mg "MOST_GROUPS" = some u ∧ RelV (.int 12) u := int_c (He.int_ok T.kin T.ns (T.says.fact 169 rfl))
theorem c_MOST_QUESTIONS (T : Txt K mg) : ∃ u, mg "MOST_QUESTIONS" = some u ∧ RelV (.int 6) u := int_c (He.int_ok T.kin T.ns (T.says.fact 170 rfl))
theorem c_MOST_INDEXES (T : Txt K mg) : ∃ u, mg "MOST_INDEXES" = some u ∧ RelV (.int 8) u := int_c (He.int_ok T.kin T.ns (T.says.fact 171 rfl))
theorem c_MOST_ROWS (T : Txt K mg) : ∃ u, mg "MOST_ROWS" = some u ∧ RelV (.int 1000000) u := int_c (He.int_ok T.kin T.ns (T.says.fact 172 rfl))
theorem c_HIGHEST_LIMIT (T : Txt K mg) : ∃ u, mg "HIGHEST_LIMIT" = some u ∧ RelV (.int 1000000) u := int_c (He.int_ok T.kin T.ns (T.says.fact 173 rfl))
theorem c_MOST_TIMES (T : Txt K mg) : ∃ u, mg "MOST_TIMES" = some u ∧ RelV (.int 1000) u := int_c (He.int_ok T.kin T.ns (T.says.fact 174 rfl))
theorem g_SHAPES (T : Txt K mg) : mg "SHAPES" = some (.ref (He.ga K "SHAPES")) := He.glo_ok T.kin T.ns (T.says.fact 175 rfl)
theorem c_LOAD (T : Txt K mg) : ∃ u, mg "LOAD" = some u ∧ RelV (.int 0) u := int_c (He.int_ok T.kin T.ns (T.says.fact 176 rfl))
theorem c_SHOWN (T : Txt K mg) : ∃ u, mg "SHOWN" = some u ∧ RelV (.int 1) u := int_c (He.int_ok T.kin T.ns (T.says.fact 177 rfl))
theorem c_TABLE (T : Txt K mg) : ∃ u, mg "TABLE" = some u ∧ RelV (.int 2) u := int_c (He.int_ok T.kin T.ns (T.says.fact 178 rfl))
theorem c_ASK (T : Txt K mg) : ∃ u, mg "ASK" = some u ∧ RelV (.int 3) u := int_c (He.int_ok T.kin T.ns (T.says.fact 179 rfl))
theorem c_INDEX (T : Txt K mg) : ∃ u, mg "INDEX" = some u ∧ RelV (.int 4) u := int_c (He.int_ok T.kin T.ns (T.says.fact 180 rfl))
theorem c_COUNT (T : Txt K mg) : ∃ u, mg "COUNT" = some u ∧ RelV (.int 5) u := int_c (He.int_ok T.kin T.ns (T.says.fact 181 rfl))
theorem c_SPLIT (T : Txt K mg) : ∃ u, mg "SPLIT" = some u ∧ RelV (.int 6) u := int_c (He.int_ok T.kin T.ns (T.says.fact 182 rfl))
theorem c_ANSWER (T : Txt K mg) : ∃ u, mg "ANSWER" = some u ∧ RelV (.int 7) u := int_c (He.int_ok T.kin T.ns (T.says.fact 183 rfl))
theorem c_ALONE (T : Txt K mg) : ∃ u, mg "ALONE" = some u ∧ RelV (.int 8) u := int_c (He.int_ok T.kin T.ns (T.says.fact 184 rfl))
theorem c_SERVES (T : Txt K mg) : ∃ u, mg "SERVES" = some u ∧ RelV (.int 10) u := int_c (He.int_ok T.kin T.ns (T.says.fact 185 rfl))
theorem c_ROOM (T : Txt K mg) : ∃ u, mg "ROOM" = some u ∧ RelV (.int 11) u := int_c (He.int_ok T.kin T.ns (T.says.fact 186 rfl))
theorem c_LONGEST_TEXT (T : Txt K mg) : ∃ u, mg "LONGEST_TEXT" = some u ∧ RelV (.int 1200) u := int_c (He.int_ok T.kin T.ns (T.says.fact 187 rfl))
theorem g_len (T : Txt K mg) : mg "len" = none := He.free_ok T.kin T.ns (T.says.fact 188 rfl)
theorem g_range (T : Txt K mg) : mg "range" = none := He.free_ok T.kin T.ns (T.says.fact 189 rfl)
theorem g_sum (T : Txt K mg) : mg "sum" = none := He.free_ok T.kin T.ns (T.says.fact 190 rfl)
theorem g_all (T : Txt K mg) : mg "all" = none := He.free_ok T.kin T.ns (T.says.fact 191 rfl)
theorem g_any (T : Txt K mg) : mg "any" = none := He.free_ok T.kin T.ns (T.says.fact 192 rfl)
theorem g_ord (T : Txt K mg) : mg "ord" = none := He.free_ok T.kin T.ns (T.says.fact 193 rfl)
theorem g_str (T : Txt K mg) : mg "str" = none := He.free_ok T.kin T.ns (T.says.fact 194 rfl)
theorem g_enumerate (T : Txt K mg) : mg "enumerate" = none := He.free_ok T.kin T.ns (T.says.fact 195 rfl)
theorem g_min (T : Txt K mg) : mg "min" = none := He.free_ok T.kin T.ns (T.says.fact 196 rfl)
theorem g_sorted (T : Txt K mg) : mg "sorted" = none := He.free_ok T.kin T.ns (T.says.fact 197 rfl)
theorem g_reversed (T : Txt K mg) : mg "reversed" = none := He.free_ok T.kin T.ns (T.says.fact 198 rfl)
theorem g_list (T : Txt K mg) : mg "list" = none := He.free_ok T.kin T.ns (T.says.fact 199 rfl)
theorem g_tuple (T : Txt K mg) : mg "tuple" = none := He.free_ok T.kin T.ns (T.says.fact 200 rfl)
theorem w_BLANKS (T : Txt K mg) (H : Hp) : SqT K H (He.ga K "BLANKS") (tab_BLANKS.map (He.Dv.v K)) := He.tupB_ok (He.ba (He.ba (He.ba (He.ba (He.ba T.more).1).1).1).1).2 H
theorem w_RESERVED (T : Txt K mg) (H : Hp) : SqT K H (He.ga K "RESERVED") (tab_RESERVED.map (He.Dv.v K)) := He.tupB_ok (He.ba (He.ba (He.ba (He.ba T.more).1).1).1).2 H
theorem w_SIGNS (T : Txt K mg) : WDct K (He.ga K "SIGNS") (kv_SIGNS K) := wdB_ok (He.ba (He.ba (He.ba T.more).1).1).2
theorem w_SHAPES (T : Txt K mg) : WDct K (He.ga K "SHAPES") (kv_SHAPES K) := wdB_ok (He.ba (He.ba T.more).1).2
theorem wt_SHAPES (T : Txt K mg) (H : Hp) {i : Nat} {ns : List Int} (h : tp_SHAPES[i]? = some ns) : SqT K H (wvA K (He.ga K "SHAPES") i) (ns.map V.int) := by
  have h1 := List.all_eq_true.mp (He.ba T.more).2 (ns, i) (List.mem_zipIdx_iff_getElem?.mpr h)
  exact itB_ok h1 H
theorem x_Fault_init (T : Txt K mg) : PySem.FtX.FtTxt K mg (He.ga K "Fault") (He.ma K (He.ga K "Fault") "__init__") := by
  have h0 : ftB K = true := (He.ba (He.ba (He.ba (He.ba (He.ba T.more).1).1).1).1).1
  obtain ⟨h1, h0⟩ := He.ba h0
  obtain ⟨h2, h0⟩ := He.ba h0
  obtain ⟨h3, h0⟩ := He.ba h0
  obtain ⟨h4, h0⟩ := He.ba h0
  obtain ⟨h5, h6⟩ := He.ba h0
  obtain ⟨fd, F⟩ := T.says.def_ 0 (d := d_Fault_init) rfl
  obtain ⟨oc, od, dV, kV, doc, pm, an, cdv, ct, osl, rfl, lk, hcd, hdv, _⟩ := F.ex
  have edv : dV = .none := by
    rcases hdv with ⟨_, e⟩ | ⟨e, _⟩
    · exact e
    · exact absurd rfl e
  subst edv
  exact ⟨g_Fault T, ftCls_ok h1, of_decide_eq_true h2, xfB_ok h3, n_Fault_kind T, n_Fault_place T, of_decide_eq_true h4, of_decide_eq_true h5, kp_Fault T, of_decide_eq_true h6, e_Fault T, oc, od, kV, doc, pm, an, cdv, ct, osl, _, _, _, _, _, _, _, _, _, _, _, lk, hcd⟩
theorem f_Fault (T : Txt K mg) : XfC K (He.ga K "Fault") := (x_Fault_init T).xf
end

/-! what is known of a def, a method, a class -/
structure Call1 (P : Program) (w : World) (K : PySem.W.Frag) (mg : Str → Option Value) (base : Heap) (k : Nat) (x : Str) (sp : Sp) : Prop where
  ex : ∃ (fd : FuncData) (ps : List Str), FnOk P w K mg base (L2.CX P w) k (He.ga K x) fd ps sp ∧ mg x = some (.ref (He.ga K x)) ∧ PySem.W.keepIn K (.ref (He.ga K x)) = true ∧ Binds K fd ps []
structure Meth1 (P : Program) (w : World) (K : PySem.W.Frag) (mg : Str → Option Value) (base : Heap) (k : Nat) (x m : Str) (sp : Sp) : Prop where
  ex : ∃ (f : Addr) (fd : FuncData) (ps : List Str), Cls K (He.ga K x) ∧ Meth K (He.ga K x) m f ∧ FnOk P w K mg base (L2.CX P w) k f fd ps sp ∧ Binds K fd ps []
structure Make1 (P : Program) (w : World) (K : PySem.W.Frag) (mg : Str → Option Value) (base : Heap) (k : Nat) (x : Str) (sp : Sp) : Prop where
  ex : ∃ (f : Addr) (fd : FuncData) (ps : List Str), Mk K (He.ga K x) f ∧ FnOk P w K mg base (L2.CX P w) k f fd ps sp ∧ mg x = some (.ref (He.ga K x)) ∧ Binds K fd ps []
/-! readings by short names -/
abbrev rLt_ : R2 := rI0 fun i j => .bl (decide (i < j))
abbrev rLe_ : R2 := rI0 fun i j => .bl (decide (i ≤ j))
abbrev rGt_ : R2 := rI0 fun i j => .bl (decide (j < i))
abbrev rGe_ : R2 := rI0 fun i j => .bl (decide (j ≤ i))
abbrev rAdd_ : R2 := rI0 fun i j => .int (i + j)
abbrev rSub_ : R2 := rI0 fun i j => .int (i - j)
abbrev rMul_ : R2 := rI CMul fun i j => .int (i * j)
abbrev rNeg_ : V → Hp → VK → Prop := rU fun i => .int (-i)
abbrev rIsN_ : R2 := fun x y H Q => y = .non ∧ Q (.bl (decide (x = .non))) H
abbrev rNotN_ : R2 := fun x y H Q => y = .non ∧ Q (.bl (!decide (x = .non))) H
abbrev rLen_ (K : PySem.W.Frag) : List V → Hp → VK → Prop := fun xs H Q => ∃ x n, xs = [x] ∧ LenV K x H n ∧ Q (.int n) H
abbrev rOrd_ : List V → Hp → VK → Prop := fun xs H Q => ∃ x, xs = [.str x] ∧ x.length = 1 ∧ Q (.int (x.cps.getD 0 0 : Nat)) H
abbrev rStr_ : List V → Hp → VK → Prop := fun xs H Q => ∃ i, xs = [.int i] ∧ i.natAbs.log2 < 1920 ∧ Q (.str (toString i)) H
abbrev rMin2_ : List V → Hp → VK → Prop := fun xs H Q => ∃ i j, xs = [.int i, .int j] ∧ Q (.int (if j < i then j else i)) H
abbrev rMax2_ : List V → Hp → VK → Prop := fun xs H Q => ∃ i j, xs = [.int i, .int j] ∧ Q (.int (if j > i then j else i)) H
abbrev rJoin_ (K : PySem.W.Frag) : V → List V → Hp → VK → Prop := fun x xs H Q => ∃ a p, ∃ ys : List Str, x = .str a ∧ xs = [.ref p] ∧ (SqL K H p (ys.map V.str) ∨ SqT K H p (ys.map V.str)) ∧ (ys.map (·.length)).sum + ys.length * a.length ≤ 16777216 ∧ Q (.str (Txt.join a ys)) H
abbrev tTru_ (K : PySem.W.Frag) (ta : TE) : TT := fun σ H Q => ta σ H fun x H' => ∃ k, TruV K x H' k ∧ Q k H'
abbrev tJoined (ts : List TE) : TE := fun σ H Q => tJs ts Str.empty σ H fun out H1 => Q (.str out) H1
theorem pe_gk {X : Cx} {x : Str} {v : V} {pos : Pos} (hg : Gl X x) (h : ∃ u, X.mg x = some u ∧ RelV v u) (hd : (x == ("__debug__" : Str)) = false := by decide) : PE X (.Name x pos) (tC v) := by
  obtain ⟨u, hm, r⟩ := h
  exact pe_glob hg hm r hd
theorem hu65 {A : Around} {k : Nat} (hr : Room k A) : A.units + 65 < cLine := by
  have := hr.un
  omega
end Ix
-- part IxF
set_option maxHeartbeats 4000000
namespace Ix
open PySem PySem.Spec PyProof.Rows L2
theorem lk_here {k : Str} {v : V} {r : List (Str × V)} : List.lookup k ((k, v) :: r) = some v := by
  have e : (k == k) = true := beq_self_eq_true k
  simp only [List.lookup, e]
theorem lk_past {k g : Str} {v : V} {r : List (Str × V)} (h : (k == g) = false) : List.lookup k ((g, v) :: r) = List.lookup k r := by
  simp only [List.lookup, h]
theorem put_here {f : Str} {v x : V} {r : List (Str × V)} : putF f v ((f, x) :: r) = (f, v) :: r := if_pos rfl
theorem put_past {f g : Str} {v x : V} {r : List (Str × V)} (h : ¬ g = f) : putF f v ((g, x) :: r) = (g, x) :: putF f v r := if_neg h
/-! Sheet -/
def F_Sheet (v0 v1 v2 v3 : V) : List (Str × V) := [("columns", v0), ("groups", v1), ("questions", v2), ("indexes", v3)]
theorem l_Sheet_columns {v0 v1 v2 v3 : V} : (F_Sheet v0 v1 v2 v3).lookup ("columns" : Str) = some v0 := lk_here
theorem l_Sheet_groups {v0 v1 v2 v3 : V} : (F_Sheet v0 v1 v2 v3).lookup ("groups" : Str) = some v1 := (lk_past (by decide +kernel)).trans (lk_here)
theorem l_Sheet_questions {v0 v1 v2 v3 : V} : (F_Sheet v0 v1 v2 v3).lookup ("questions" : Str) = some v2 := (lk_past (by decide +kernel)).trans ((lk_past (by decide +kernel)).trans (lk_here))
theorem l_Sheet_indexes {v0 v1 v2 v3 : V} : (F_Sheet v0 v1 v2 v3).lookup ("indexes" : Str) = some v3 := (lk_past (by decide +kernel)).trans ((lk_past (by decide +kernel)).trans ((lk_past (by decide +kernel)).trans (lk_here)))
theorem p_Sheet_columns {v0 v1 v2 v3 y : V} : putF "columns" y (F_Sheet v0 v1 v2 v3) = F_Sheet y v1 v2 v3 := put_here
theorem p_Sheet_groups {v0 v1 v2 v3 y : V} : putF "groups" y (F_Sheet v0 v1 v2 v3) = F_Sheet v0 y v2 v3 := (put_past (by decide +kernel)).trans (congrArg _ (put_here))
theorem p_Sheet_questions {v0 v1 v2 v3 y : V} : putF "questions" y (F_Sheet v0 v1 v2 v3) = F_Sheet v0 v1 y v3 := (put_past (by decide +kernel)).trans (congrArg _ ((put_past (by decide +kernel)).trans (congrArg _ (put_here))))
theorem p_Sheet_indexes {v0 v1 v2 v3 y : V} : putF "indexes" y (F_Sheet v0 v1 v2 v3) = F_Sheet v0 v1 v2 y := (put_past (by decide +kernel)).trans (congrArg _ ((put_past (by decide +kernel)).trans (congrArg _ ((put_past (by decide +kernel)).trans (congrArg _ (put_here))))))
theorem m_Sheet_0 {v0 : V} : putF "columns" v0 ([] : List (Str × V)) = ([("columns", v0)] : List (Str × V)) := rfl
theorem m_Sheet_1 {v0 v1 : V} : putF "groups" v1 ([("columns", v0)] : List (Str × V)) = ([("columns", v0), ("groups", v1)] : List (Str × V)) := (put_past (by decide +kernel)).trans (congrArg _ (rfl))
theorem m_Sheet_2 {v0 v1 v2 : V} : putF "questions" v2 ([("columns", v0), ("groups", v1)] : List (Str × V)) = ([("columns", v0), ("groups", v1), ("questions", v2)] : List (Str × V)) := (put_past (by decide +kernel)).trans (congrArg _ ((put_past (by decide +kernel)).trans (congrArg _ (rfl))))
theorem m_Sheet_3 {v0 v1 v2 v3 : V} : putF "indexes" v3 ([("columns", v0), ("groups", v1), ("questions", v2)] : List (Str × V)) = ([("columns", v0), ("groups", v1), ("questions", v2), ("indexes", v3)] : List (Str × V)) := (put_past (by decide +kernel)).trans (congrArg _ ((put_past (by decide +kernel)).trans (congrArg _ ((put_past (by decide +kernel)).trans (congrArg _ (rfl))))))
theorem m_Sheet {v0 v1 v2 v3 : V} : (putF "indexes" v3 (putF "questions" v2 (putF "groups" v1 (putF "columns" v0 ([] : List (Str × V)))))) = F_Sheet v0 v1 v2 v3 := by rw [m_Sheet_0, m_Sheet_1, m_Sheet_2, m_Sheet_3]; rfl
/-! Group -/
def F_Group (v0 v1 : V) : List (Str × V) := [("cells", v0), ("rows", v1)]
theorem l_Group_cells {v0 v1 : V} : (F_Group v0 v1).lookup ("cells" : Str) = some v0 := lk_here
theorem l_Group_rows {v0 v1 : V} : (F_Group v0 v1).lookup ("rows" : Str) = some v1 := (lk_past (by decide +kernel)).trans (lk_here)
theorem p_Group_cells {v0 v1 y : V} : putF "cells" y (F_Group v0 v1) = F_Group y v1 := put_here
theorem p_Group_rows {v0 v1 y : V} : putF "rows" y (F_Group v0 v1) = F_Group v0 y := (put_past (by decide +kernel)).trans (congrArg _ (put_here))
theorem m_Group_0 {v0 : V} : putF "cells" v0 ([] : List (Str × V)) = ([("cells", v0)] : List (Str × V)) := rfl
theorem m_Group_1 {v0 v1 : V} : putF "rows" v1 ([("cells", v0)] : List (Str × V)) = ([("cells", v0), ("rows", v1)] : List (Str × V)) := (put_past (by decide +kernel)).trans (congrArg _ (rfl))
theorem m_Group {v0 v1 : V} : (putF "rows" v1 (putF "cells" v0 ([] : List (Str × V)))) = F_Group v0 v1 := by rw [m_Group_0, m_Group_1]; rfl
/-! Filter -/
def F_Filter (v0 v1 v2 : V) : List (Str × V) := [("column", v0), ("low", v1), ("high", v2)]
theorem l_Filter_column {v0 v1 v2 : V} : (F_Filter v0 v1 v2).lookup ("column" : Str) = some v0 := lk_here
theorem l_Filter_low {v0 v1 v2 : V} : (F_Filter v0 v1 v2).lookup ("low" : Str) = some v1 := (lk_past (by decide +kernel)).trans (lk_here)
theorem l_Filter_high {v0 v1 v2 : V} : (F_Filter v0 v1 v2).lookup ("high" : Str) = some v2 := (lk_past (by decide +kernel)).trans ((lk_past (by decide +kernel)).trans (lk_here))
theorem p_Filter_column {v0 v1 v2 y : V} : putF "column" y (F_Filter v0 v1 v2) = F_Filter y v1 v2 := put_here
theorem p_Filter_low {v0 v1 v2 y : V} : putF "low" y (F_Filter v0 v1 v2) = F_Filter v0 y v2 := (put_past (by decide +kernel)).trans (congrArg _ (put_here))
theorem p_Filter_high {v0 v1 v2 y : V} : putF "high" y (F_Filter v0 v1 v2) = F_Filter v0 v1 y := (put_past (by decide +kernel)).trans (congrArg _ ((put_past (by decide +kernel)).trans (congrArg _ (put_here))))
theorem m_Filter_0 {v0 : V} : putF "column" v0 ([] : List (Str × V)) = ([("column", v0)] : List (Str × V)) := rfl
theorem m_Filter_1 {v0 v1 : V} : putF "low" v1 ([("column", v0)] : List (Str × V)) = ([("column", v0), ("low", v1)] : List (Str × V)) := (put_past (by decide +kernel)).trans (congrArg _ (rfl))
theorem m_Filter_2 {v0 v1 v2 : V} : putF "high" v2 ([("column", v0), ("low", v1)] : List (Str × V)) = ([("column", v0), ("low", v1), ("high", v2)] : List (Str × V)) := (put_past (by decide +kernel)).trans (congrArg _ ((put_past (by decide +kernel)).trans (congrArg _ (rfl))))
theorem m_Filter {v0 v1 v2 : V} : (putF "high" v2 (putF "low" v1 (putF "column" v0 ([] : List (Str × V))))) = F_Filter v0 v1 v2 := by rw [m_Filter_0, m_Filter_1, m_Filter_2]; rfl
/-! Question -/
def F_Question (v0 v1 v2 v3 v4 v5 v6 : V) : List (Str × V) := [("name", v0), ("filters", v1), ("order", v2), ("backwards", v3), ("wanted", v4), ("limit", v5), ("times", v6)]
theorem l_Question_name {v0 v1 v2 v3 v4 v5 v6 : V} : (F_Question v0 v1 v2 v3 v4 v5 v6).lookup ("name" : Str) = some v0 := lk_here
theorem l_Question_filters {v0 v1 v2 v3 v4 v5 v6 : V} : (F_Question v0 v1 v2 v3 v4 v5 v6).lookup ("filters" : Str) = some v1 := (lk_past (by decide +kernel)).trans (lk_here)
theorem l_Question_order {v0 v1 v2 v3 v4 v5 v6 : V} : (F_Question v0 v1 v2 v3 v4 v5 v6).lookup ("order" : Str) = some v2 := (lk_past (by decide +kernel)).trans ((lk_past (by decide +kernel)).trans (lk_here))
theorem l_Question_backwards {v0 v1 v2 v3 v4 v5 v6 : V} : (F_Question v0 v1 v2 v3 v4 v5 v6).lookup ("backwards" : Str) = some v3 := (lk_past (by decide +kernel)).trans ((lk_past (by decide +kernel)).trans ((lk_past (by decide +kernel)).trans (lk_here)))
theorem l_Question_wanted {v0 v1 v2 v3 v4 v5 v6 : V} : (F_Question v0 v1 v2 v3 v4 v5 v6).lookup ("wanted" : Str) = some v4 := (lk_past (by decide +kernel)).trans ((lk_past (by decide +kernel)).trans ((lk_past (by decide +kernel)).trans ((lk_past (by decide +kernel)).trans (lk_here))))
theorem l_Question_limit {v0 v1 v2 v3 v4 v5 v6 : V} : (F_Question v0 v1 v2 v3 v4 v5 v6).lookup ("limit" : Str) = some v5 := (lk_past (by decide +kernel)).trans ((lk_past (by decide +kernel)).trans ((lk_past (by decide +kernel)).trans ((lk_past (by decide +kernel)).trans ((lk_past (by decide +kernel)).trans (lk_here)))))
theorem l_Question_times {v0 v1 v2 v3 v4 v5 v6 : V} : (F_Question v0 v1 v2 v3 v4 v5 v6).lookup ("times" : Str) = some v6 := (lk_past (by decide +kernel)).trans ((lk_past (by decide +kernel)).trans ((lk_past (by decide +kernel)).trans ((lk_past (by decide +kernel)).trans ((lk_past (by decide +kernel)).trans ((lk_past (by decide +kernel)).trans (lk_here))))))
theorem p_Question_name {v0 v1 v2 v3 v4 v5 v6 y : V} : putF "name" y (F_Question v0 v1 v2 v3 v4 v5 v6) = F_Question y v1 v2 v3 v4 v5 v6 := put_here
theorem p_Question_filters {v0 v1 v2 v3 v4 v5 v6 y : V} : putF "filters" y (F_Question v0 v1 v2 v3 v4 v5 v6) = F_Question v0 y v2 v3 v4 v5 v6 := (put_past (by decide +kernel)).trans (congrArg _ (put_here))
theorem p_Question_order {v0 v1 v2 v3 v4 v5 v6 y : V} : putF "order" y (F_Question v0 v1 v2 v3 v4 v5 v6) = F_Question v0 v1 y v3 v4 v5 v6 := (put_past (by decide +kernel)).trans (congrArg _ ((put_past (by decide +kernel)).trans (congrArg _ (put_here))))
theorem p_Question_backwards {v0 v1 v2 v3 v4 v5 v6 y : V} : putF "backwards" y (F_Question v0 v1 v2 v3 v4 v5 v6) = F_Question v0 v1 v2 y v4 v5 v6 := (put_past (by decide +kernel)).trans (congrArg _ ((put_past (by decide +kernel)).trans (congrArg _ ((put_past (by decide +kernel)).trans (congrArg _ (put_here))))))
theorem p_Question_wanted {v0 v1 v2 v3 v4 v5 v6 y : V} : putF "wanted" y (F_Question v0 v1 v2 v3 v4 v5 v6) = F_Question v0 v1 v2 v3 y v5 v6 := (put_past (by decide +kernel)).trans (congrArg _ ((put_past (by decide +kernel)).trans (congrArg _ ((put_past (by decide +kernel)).trans (congrArg _ ((put_past (by decide +kernel)).trans (congrArg _ (put_here))))))))
theorem p_Question_limit {v0 v1 v2 v3 v4 v5 v6 y : V} : putF "limit" y (F_Question v0 v1 v2 v3 v4 v5 v6) = F_Question v0 v1 v2 v3 v4 y v6 := (put_past (by decide +kernel)).trans (congrArg _ ((put_past (by decide +kernel)).trans (congrArg _ ((put_past (by decide +kernel)).trans (congrArg _ ((put_past (by decide +kernel)).trans (congrArg _ ((put_past (by decide +kernel)).trans (congrArg _ (put_here))))))))))
theorem p_Question_times {v0 v1 v2 v3 v4 v5 v6 y : V} : putF "times" y (F_Question v0 v1 v2 v3 v4 v5 v6) = F_Question v0 v1 v2 v3 v4 v5 y := (put_past (by decide +kernel)).trans (congrArg _ ((put_past (by decide +kernel)).trans (congrArg _ ((put_past (by decide +kernel)).trans (congrArg _ ((put_past (by decide +kernel)).trans (congrArg _ ((put_past (by decide +kernel)).trans (congrArg _ ((put_past (by decide +kernel)).trans (congrArg _ (put_here))))))))))))
theorem m_Question_0 {v0 : V} : putF "name" v0 ([] : List (Str × V)) = ([("name", v0)] : List (Str × V)) := rfl
theorem m_Question_1 {v0 v1 : V} : putF "filters" v1 ([("name", v0)] : List (Str × V)) = ([("name", v0), ("filters", v1)] : List (Str × V)) := (put_past (by decide +kernel)).trans (congrArg _ (rfl))
theorem m_Question_2 {v0 v1 v2 : V} : putF "order" v2 ([("name", v0), ("filters", v1)] : List (Str × V)) = ([("name", v0), ("filters", v1), ("order", v2)] : List (Str × V)) := (put_past (by decide +kernel)).trans (congrArg _ ((put_past (by decide +kernel)).trans (congrArg _ (rfl))))
theorem m_Question_3 {v0 v1 v2 v3 : V} : putF "backwards" v3 ([("name", v0), ("filters", v1), ("order", v2)] : List (Str × V)) = ([("name", v0), ("filters", v1), ("order", v2), ("backwards", v3)] : List (Str × V)) := (put_past (by decide +kernel)).trans (congrArg _ ((put_past (by decide +kernel)).trans (congrArg _ ((put_past (by decide +kernel)).trans (congrArg _ (rfl))))))
theorem m_Question_4 {v0 v1 v2 v3 v4 : V} : putF "wanted" v4 ([("name", v0), ("filters", v1), ("order", v2), ("backwards", v3)] : List (Str × V)) = ([("name", v0), ("filters", v1), ("order", v2), ("backwards", v3), ("wanted", v4)] : List (Str × V)) := (put_past (by decide +kernel)).trans (congrArg _ ((put_past (by decide +kernel)).trans (congrArg _ ((put_past (by decide +kernel)).trans (congrArg _ ((put_past (by decide +kernel)).trans (congrArg _ (rfl))))))))
theorem m_Question_5 {v0 v1 v2 v3 v4 v5 : V} : putF "limit" v5 ([("name", v0), ("filters", v1), ("order", v2), ("backwards", v3), ("wanted", v4)] : List (Str × V)) = ([("name", v0), ("filters", v1), ("order", v2), ("backwards", v3), ("wanted", v4), ("limit", v5)] : List (Str × V)) := (put_past (by decide +kernel)).trans (congrArg _ ((put_past (by decide +kernel)).trans (congrArg _ ((put_past (by decide +kernel)).trans (congrArg _ ((put_past (by decide +kernel)).trans (congrArg _ ((put_past (by decide +kernel)).trans (congrArg _ (rfl))))))))))
theorem m_Question_6 {v0 v1 v2 v3 v4 v5 v6 : V} : putF "times" v6 ([("name", v0), ("filters", v1), ("order", v2), ("backwards", v3), ("wanted", v4), ("limit", v5)] : List (Str × V)) = ([("name", v0), ("filters", v1), ("order", v2), ("backwards", v3), ("wanted", v4), ("limit", v5), ("times", v6)] : List (Str × V)) := (put_past (by decide +kernel)).trans (congrArg _ ((put_past (by decide +kernel)).trans (congrArg _ ((put_past (by decide +kernel)).trans (congrArg _ ((put_past (by decide +kernel)).trans (congrArg _ ((put_past (by decide +kernel)).trans (congrArg _ ((put_past (by decide +kernel)).trans (congrArg _ (rfl))))))))))))
theorem m_Question {v0 v1 v2 v3 v4 v5 v6 : V} : (putF "times" v6 (putF "limit" v5 (putF "wanted" v4 (putF "backwards" v3 (putF "order" v2 (putF "filters" v1 (putF "name" v0 ([] : List (Str × V))))))))) = F_Question v0 v1 v2 v3 v4 v5 v6 := by rw [m_Question_0, m_Question_1, m_Question_2, m_Question_3, m_Question_4, m_Question_5, m_Question_6]; rfl
/-! Index -/
def F_Index (v0 v1 v2 v3 : V) : List (Str × V) := [("name", v0), ("key_columns", v1), ("included", v2), ("condition", v3)]
theorem l_Index_name {v0 v1 v2 v3 : V} : (F_Index v0 v1 v2 v3).lookup ("name" : Str) = some v0 := lk_here
theorem l_Index_key_columns {v0 v1 v2 v3 : V} : (F_Index v0 v1 v2 v3).lookup ("key_columns" : Str) = some v1 := (lk_past (by decide +kernel)).trans (lk_here)
theorem l_Index_included {v0 v1 v2 v3 : V} : (F_Index v0 v1 v2 v3).lookup ("included" : Str) = some v2 := (lk_past (by decide +kernel)).trans ((lk_past (by decide +kernel)).trans (lk_here))
theorem l_Index_condition {v0 v1 v2 v3 : V} : (F_Index v0 v1 v2 v3).lookup ("condition" : Str) = some v3 := (lk_past (by decide +kernel)).trans ((lk_past (by decide +kernel)).trans ((lk_past (by decide +kernel)).trans (lk_here)))
theorem p_Index_name {v0 v1 v2 v3 y : V} : putF "name" y (F_Index v0 v1 v2 v3) = F_Index y v1 v2 v3 := put_here
theorem p_Index_key_columns {v0 v1 v2 v3 y : V} : putF "key_columns" y (F_Index v0 v1 v2 v3) = F_Index v0 y v2 v3 := (put_past (by decide +kernel)).trans (congrArg _ (put_here))
theorem p_Index_included {v0 v1 v2 v3 y : V} : putF "included" y (F_Index v0 v1 v2 v3) = F_Index v0 v1 y v3 := (put_past (by decide +kernel)).trans (congrArg _ ((put_past (by decide +kernel)).trans (congrArg _ (put_here))))
theorem p_Index_condition {v0 v1 v2 v3 y : V} : putF "condition" y (F_Index v0 v1 v2 v3) = F_Index v0 v1 v2 y := (put_past (by decide +kernel)).trans (congrArg _ ((put_past (by decide +kernel)).trans (congrArg _ ((put_past (by decide +kernel)).trans (congrArg _ (put_here))))))
theorem m_Index_0 {v0 : V} : putF "name" v0 ([] : List (Str × V)) = ([("name", v0)] : List (Str × V)) := rfl
theorem m_Index_1 {v0 v1 : V} : putF "key_columns" v1 ([("name", v0)] : List (Str × V)) = ([("name", v0), ("key_columns", v1)] : List (Str × V)) := (put_past (by decide +kernel)).trans (congrArg _ (rfl))
theorem m_Index_2 {v0 v1 v2 : V} : putF "included" v2 ([("name", v0), ("key_columns", v1)] : List (Str × V)) = ([("name", v0), ("key_columns", v1), ("included", v2)] : List (Str × V)) := (put_past (by decide +kernel)).trans (congrArg _ ((put_past (by decide +kernel)).trans (congrArg _ (rfl))))
theorem m_Index_3 {v0 v1 v2 v3 : V} : putF "condition" v3 ([("name", v0), ("key_columns", v1), ("included", v2)] : List (Str × V)) = ([("name", v0), ("key_columns", v1), ("included", v2), ("condition", v3)] : List (Str × V)) := (put_past (by decide +kernel)).trans (congrArg _ ((put_past (by decide +kernel)).trans (congrArg _ ((put_past (by decide +kernel)).trans (congrArg _ (rfl))))))
theorem m_Index {v0 v1 v2 v3 : V} : (putF "condition" v3 (putF "included" v2 (putF "key_columns" v1 (putF "name" v0 ([] : List (Str × V)))))) = F_Index v0 v1 v2 v3 := by rw [m_Index_0, m_Index_1, m_Index_2, m_Index_3]; rfl
/-! Token -/
def F_Token (v0 v1 v2 v3 v4 : V) : List (Str × V) := [("kind", v0), ("spelling", v1), ("number", v2), ("place", v3), ("end", v4)]
theorem l_Token_kind {v0 v1 v2 v3 v4 : V} : (F_Token v0 v1 v2 v3 v4).lookup ("kind" : Str) = some v0 := lk_here
theorem l_Token_spelling {v0 v1 v2 v3 v4 : V} : (F_Token v0 v1 v2 v3 v4).lookup ("spelling" : Str) = some v1 := (lk_past (by decide +kernel)).trans (lk_here)
theorem l_Token_number {v0 v1 v2 v3 v4 : V} : (F_Token v0 v1 v2 v3 v4).lookup ("number" : Str) = some v2 := (lk_past (by decide +kernel)).trans ((lk_past (by decide +kernel)).trans (lk_here))
theorem l_Token_place {v0 v1 v2 v3 v4 : V} : (F_Token v0 v1 v2 v3 v4).lookup ("place" : Str) = some v3 := (lk_past (by decide +kernel)).trans ((lk_past (by decide +kernel)).trans ((lk_past (by decide +kernel)).trans (lk_here)))
theorem l_Token_end {v0 v1 v2 v3 v4 : V} : (F_Token v0 v1 v2 v3 v4).lookup ("end" : Str) = some v4 := (lk_past (by decide +kernel)).trans ((lk_past (by decide +kernel)).trans ((lk_past (by decide +kernel)).trans ((lk_past (by decide +kernel)).trans (lk_here))))
theorem p_Token_kind {v0 v1 v2 v3 v4 y : V} : putF "kind" y (F_Token v0 v1 v2 v3 v4) = F_Token y v1 v2 v3 v4 := put_here
theorem p_Token_spelling {v0 v1 v2 v3 v4 y : V} : putF "spelling" y (F_Token v0 v1 v2 v3 v4) = F_Token v0 y v2 v3 v4 := (put_past (by decide +kernel)).trans (congrArg _ (put_here))
theorem p_Token_number {v0 v1 v2 v3 v4 y : V} : putF "number" y (F_Token v0 v1 v2 v3 v4) = F_Token v0 v1 y v3 v4 := (put_past (by decide +kernel)).trans (congrArg _ ((put_past (by decide +kernel)).trans (congrArg _ (put_here))))
theorem p_Token_place {v0 v1 v2 v3 v4 y : V} : putF "place" y (F_Token v0 v1 v2 v3 v4) = F_Token v0 v1 v2 y v4 := (put_past (by decide +kernel)).trans (congrArg _ ((put_past (by decide +kernel)).trans (congrArg _ ((put_past (by decide +kernel)).trans (congrArg _ (put_here))))))
theorem p_Token_end {v0 v1 v2 v3 v4 y : V} : putF "end" y (F_Token v0 v1 v2 v3 v4) = F_Token v0 v1 v2 v3 y := (put_past (by decide +kernel)).trans (congrArg _ ((put_past (by decide +kernel)).trans (congrArg _ ((put_past (by decide +kernel)).trans (congrArg _ ((put_past (by decide +kernel)).trans (congrArg _ (put_here))))))))
theorem m_Token_0 {v0 : V} : putF "kind" v0 ([] : List (Str × V)) = ([("kind", v0)] : List (Str × V)) := rfl
theorem m_Token_1 {v0 v1 : V} : putF "spelling" v1 ([("kind", v0)] : List (Str × V)) = ([("kind", v0), ("spelling", v1)] : List (Str × V)) := (put_past (by decide +kernel)).trans (congrArg _ (rfl))
theorem m_Token_2 {v0 v1 v2 : V} : putF "number" v2 ([("kind", v0), ("spelling", v1)] : List (Str × V)) = ([("kind", v0), ("spelling", v1), ("number", v2)] : List (Str × V)) := (put_past (by decide +kernel)).trans (congrArg _ ((put_past (by decide +kernel)).trans (congrArg _ (rfl))))
theorem m_Token_3 {v0 v1 v2 v3 : V} : putF "place" v3 ([("kind", v0), ("spelling", v1), ("number", v2)] : List (Str × V)) = ([("kind", v0), ("spelling", v1), ("number", v2), ("place", v3)] : List (Str × V)) := (put_past (by decide +kernel)).trans (congrArg _ ((put_past (by decide +kernel)).trans (congrArg _ ((put_past (by decide +kernel)).trans (congrArg _ (rfl))))))
theorem m_Token_4 {v0 v1 v2 v3 v4 : V} : putF "end" v4 ([("kind", v0), ("spelling", v1), ("number", v2), ("place", v3)] : List (Str × V)) = ([("kind", v0), ("spelling", v1), ("number", v2), ("place", v3), ("end", v4)] : List (Str × V)) := (put_past (by decide +kernel)).trans (congrArg _ ((put_past (by decide +kernel)).trans (congrArg _ ((put_past (by decide +kernel)).trans (congrArg _ ((put_past (by decide +kernel)).trans (congrArg _ (rfl))))))))
theorem m_Token {v0 v1 v2 v3 v4 : V} : (putF "end" v4 (putF "place" v3 (putF "number" v2 (putF "spelling" v1 (putF "kind" v0 ([] : List (Str × V))))))) = F_Token v0 v1 v2 v3 v4 := by rw [m_Token_0, m_Token_1, m_Token_2, m_Token_3, m_Token_4]; rfl
/-! Reader -/
def F_Reader (v0 v1 : V) : List (Str × V) := [("tokens", v0), ("position", v1)]
theorem l_Reader_tokens {v0 v1 : V} : (F_Reader v0 v1).lookup ("tokens" : Str) = some v0 := lk_here
theorem l_Reader_position {v0 v1 : V} : (F_Reader v0 v1).lookup ("position" : Str) = some v1 := (lk_past (by decide +kernel)).trans (lk_here)
theorem l_Reader_current {v0 v1 : V} : (F_Reader v0 v1).lookup ("current" : Str) = none := (lk_past (by decide +kernel)).trans ((lk_past (by decide +kernel)).trans (rfl))
theorem l_Reader_stands {v0 v1 : V} : (F_Reader v0 v1).lookup ("stands" : Str) = none := (lk_past (by decide +kernel)).trans ((lk_past (by decide +kernel)).trans (rfl))
theorem l_Reader_skip_if {v0 v1 : V} : (F_Reader v0 v1).lookup ("skip_if" : Str) = none := (lk_past (by decide +kernel)).trans ((lk_past (by decide +kernel)).trans (rfl))
theorem l_Reader_expect {v0 v1 : V} : (F_Reader v0 v1).lookup ("expect" : Str) = none := (lk_past (by decide +kernel)).trans ((lk_past (by decide +kernel)).trans (rfl))
theorem l_Reader_expect_end {v0 v1 : V} : (F_Reader v0 v1).lookup ("expect_end" : Str) = none := (lk_past (by decide +kernel)).trans ((lk_past (by decide +kernel)).trans (rfl))
theorem l_Reader_take_name {v0 v1 : V} : (F_Reader v0 v1).lookup ("take_name" : Str) = none := (lk_past (by decide +kernel)).trans ((lk_past (by decide +kernel)).trans (rfl))
theorem l_Reader_take_number {v0 v1 : V} : (F_Reader v0 v1).lookup ("take_number" : Str) = none := (lk_past (by decide +kernel)).trans ((lk_past (by decide +kernel)).trans (rfl))
theorem p_Reader_tokens {v0 v1 y : V} : putF "tokens" y (F_Reader v0 v1) = F_Reader y v1 := put_here
theorem p_Reader_position {v0 v1 y : V} : putF "position" y (F_Reader v0 v1) = F_Reader v0 y := (put_past (by decide +kernel)).trans (congrArg _ (put_here))
theorem m_Reader_0 {v0 : V} : putF "tokens" v0 ([] : List (Str × V)) = ([("tokens", v0)] : List (Str × V)) := rfl
theorem m_Reader_1 {v0 v1 : V} : putF "position" v1 ([("tokens", v0)] : List (Str × V)) = ([("tokens", v0), ("position", v1)] : List (Str × V)) := (put_past (by decide +kernel)).trans (congrArg _ (rfl))
theorem m_Reader {v0 v1 : V} : (putF "position" v1 (putF "tokens" v0 ([] : List (Str × V)))) = F_Reader v0 v1 := by rw [m_Reader_0, m_Reader_1]; rfl
/-! Call -/
def F_Call (v0 v1 v2 : V) : List (Str × V) := [("kind", v0), ("numbers", v1), ("rows", v2)]
theorem l_Call_kind {v0 v1 v2 : V} : (F_Call v0 v1 v2).lookup ("kind" : Str) = some v0 := lk_here
theorem l_Call_numbers {v0 v1 v2 : V} : (F_Call v0 v1 v2).lookup ("numbers" : Str) = some v1 := (lk_past (by decide +kernel)).trans (lk_here)
theorem l_Call_rows {v0 v1 v2 : V} : (F_Call v0 v1 v2).lookup ("rows" : Str) = some v2 := (lk_past (by decide +kernel)).trans ((lk_past (by decide +kernel)).trans (lk_here))
theorem p_Call_kind {v0 v1 v2 y : V} : putF "kind" y (F_Call v0 v1 v2) = F_Call y v1 v2 := put_here
theorem p_Call_numbers {v0 v1 v2 y : V} : putF "numbers" y (F_Call v0 v1 v2) = F_Call v0 y v2 := (put_past (by decide +kernel)).trans (congrArg _ (put_here))
theorem p_Call_rows {v0 v1 v2 y : V} : putF "rows" y (F_Call v0 v1 v2) = F_Call v0 v1 y := (put_past (by decide +kernel)).trans (congrArg _ ((put_past (by decide +kernel)).trans (congrArg _ (put_here))))
theorem m_Call_0 {v0 : V} : putF "kind" v0 ([] : List (Str × V)) = ([("kind", v0)] : List (Str × V)) := rfl
theorem m_Call_1 {v0 v1 : V} : putF "numbers" v1 ([("kind", v0)] : List (Str × V)) = ([("kind", v0), ("numbers", v1)] : List (Str × V)) := (put_past (by decide +kernel)).trans (congrArg _ (rfl))
theorem m_Call_2 {v0 v1 v2 : V} : putF "rows" v2 ([("kind", v0), ("numbers", v1)] : List (Str × V)) = ([("kind", v0), ("numbers", v1), ("rows", v2)] : List (Str × V)) := (put_past (by decide +kernel)).trans (congrArg _ ((put_past (by decide +kernel)).trans (congrArg _ (rfl))))
theorem m_Call {v0 v1 v2 : V} : (putF "rows" v2 (putF "numbers" v1 (putF "kind" v0 ([] : List (Str × V))))) = F_Call v0 v1 v2 := by rw [m_Call_0, m_Call_1, m_Call_2]; rfl
/-! Line -/
def F_Line (v0 v1 : V) : List (Str × V) := [("figures", v0), ("position", v1)]
theorem l_Line_figures {v0 v1 : V} : (F_Line v0 v1).lookup ("figures" : Str) = some v0 := lk_here
theorem l_Line_position {v0 v1 : V} : (F_Line v0 v1).lookup ("position" : Str) = some v1 := (lk_past (by decide +kernel)).trans (lk_here)
theorem l_Line_has_more {v0 v1 : V} : (F_Line v0 v1).lookup ("has_more" : Str) = none := (lk_past (by decide +kernel)).trans ((lk_past (by decide +kernel)).trans (rfl))
theorem l_Line_next_call {v0 v1 : V} : (F_Line v0 v1).lookup ("next_call" : Str) = none := (lk_past (by decide +kernel)).trans ((lk_past (by decide +kernel)).trans (rfl))
theorem l_Line_next_number {v0 v1 : V} : (F_Line v0 v1).lookup ("next_number" : Str) = none := (lk_past (by decide +kernel)).trans ((lk_past (by decide +kernel)).trans (rfl))
theorem l_Line_next_row {v0 v1 : V} : (F_Line v0 v1).lookup ("next_row" : Str) = none := (lk_past (by decide +kernel)).trans ((lk_past (by decide +kernel)).trans (rfl))
theorem p_Line_figures {v0 v1 y : V} : putF "figures" y (F_Line v0 v1) = F_Line y v1 := put_here
theorem p_Line_position {v0 v1 y : V} : putF "position" y (F_Line v0 v1) = F_Line v0 y := (put_past (by decide +kernel)).trans (congrArg _ (put_here))
theorem m_Line_0 {v0 : V} : putF "figures" v0 ([] : List (Str × V)) = ([("figures", v0)] : List (Str × V)) := rfl
theorem m_Line_1 {v0 v1 : V} : putF "position" v1 ([("figures", v0)] : List (Str × V)) = ([("figures", v0), ("position", v1)] : List (Str × V)) := (put_past (by decide +kernel)).trans (congrArg _ (rfl))
theorem m_Line {v0 v1 : V} : (putF "position" v1 (putF "figures" v0 ([] : List (Str × V)))) = F_Line v0 v1 := by rw [m_Line_0, m_Line_1]; rfl
/-! Part -/
def F_Part (v0 v1 : V) : List (Str × V) := [("cells", v0), ("rows", v1)]
theorem l_Part_cells {v0 v1 : V} : (F_Part v0 v1).lookup ("cells" : Str) = some v0 := lk_here
theorem l_Part_rows {v0 v1 : V} : (F_Part v0 v1).lookup ("rows" : Str) = some v1 := (lk_past (by decide +kernel)).trans (lk_here)
theorem p_Part_cells {v0 v1 y : V} : putF "cells" y (F_Part v0 v1) = F_Part y v1 := put_here
theorem p_Part_rows {v0 v1 y : V} : putF "rows" y (F_Part v0 v1) = F_Part v0 y := (put_past (by decide +kernel)).trans (congrArg _ (put_here))
theorem m_Part_0 {v0 : V} : putF "cells" v0 ([] : List (Str × V)) = ([("cells", v0)] : List (Str × V)) := rfl
theorem m_Part_1 {v0 v1 : V} : putF "rows" v1 ([("cells", v0)] : List (Str × V)) = ([("cells", v0), ("rows", v1)] : List (Str × V)) := (put_past (by decide +kernel)).trans (congrArg _ (rfl))
theorem m_Part {v0 v1 : V} : (putF "rows" v1 (putF "cells" v0 ([] : List (Str × V)))) = F_Part v0 v1 := by rw [m_Part_0, m_Part_1]; rfl
/-! Desk -/
def F_Desk (v0 : V) : List (Str × V) := [("sheet", v0)]
theorem l_Desk_sheet {v0 : V} : (F_Desk v0).lookup ("sheet" : Str) = some v0 := lk_here
theorem p_Desk_sheet {v0 y : V} : putF "sheet" y (F_Desk v0) = F_Desk y := put_here
theorem m_Desk_0 {v0 : V} : putF "sheet" v0 ([] : List (Str × V)) = ([("sheet", v0)] : List (Str × V)) := rfl
theorem m_Desk {v0 : V} : (putF "sheet" v0 ([] : List (Str × V))) = F_Desk v0 := by rw [m_Desk_0]; rfl
end Ix
-- part IxS
set_option maxHeartbeats 4000000
/-! what lies in the heap, and the promises -/
namespace Ix
open PySem PySem.Spec PyProof.Rows L2
/-! ### texts -/
/-- a text's codes as a text -/
def sS (t : List Nat) : Str := ⟨t.toArray⟩
theorem sS_inj {a b : List Nat} (h : sS a = sS b) : a = b := by
  have e : a.toArray = b.toArray := congrArg Str.cps h
  simpa using congrArg Array.toList e
theorem sS_iff {a b : List Nat} : sS a = sS b ↔ a = b := ⟨sS_inj, fun h => by rw [h]⟩
/-! ### tokens -/
def kindS : Vaidxa.Tok → Str
  | .word _ => "word"
  | .num _ => "number"
  | .sign _ => "sign"
  | .ending => "end"
def spellL : Vaidxa.Tok → List Nat
  | .word w => w
  | .num _ => []
  | .sign b => [b]
  | .ending => []
def numI : Vaidxa.Tok → Int
  | .num n => (n : Int)
  | _ => 0
abbrev VToks := List Vaidxa.Token
def TokAt (K : PySem.W.Frag) (H : Hp) (a : Addr) (t : Vaidxa.Token) : Prop := ∃ (dx : Addr) (e : Int), H a = some (.ins (He.ga K "Token") dx (F_Token (.str (kindS t.tok)) (.str (sS (spellL t.tok))) (.int (numI t.tok)) (.int t.place) (.int e)))
def tokOk : Vaidxa.Tok → Bool
  | .word w => !w.isEmpty && w.all Vaidxa.isLetter
  | .num _ => true
  | .sign b => Vaidxa.SIGNS.contains b
  | .ending => false
/-- tokens, the text's end behind them and nowhere else -/
inductive GoodL : VToks → Prop
  | last (p : Nat) : GoodL [⟨p, .ending⟩]
  | cons {t : Vaidxa.Token} {l : VToks} (h : tokOk t.tok = true) (g : GoodL l) : GoodL (t :: l)
theorem GoodL.ne {l : VToks} (g : GoodL l) : l ≠ [] := by
  cases g <;> simp
theorem GoodL.tail {t : Vaidxa.Token} {l : VToks} (g : GoodL (t :: l)) (h : t.tok ≠ .ending) : GoodL l := by
  cases g with
  | last p => exact absurd rfl h
  | cons _ g => exact g
/-! ### the reader -/
structure RdI where
  r : Addr
  dx : Addr
  tl : Addr
  as : List Addr
  ts : VToks
/-- all stands as it was, but what is at r -/
def Keep (r : Addr) (H H' : Hp) : Prop := ∀ b o, b ≠ r → H b = some o → H' b = some o
theorem Keep.refl (r : Addr) (H : Hp) : Keep r H H := fun _ _ _ h => h
theorem Keep.trans {r : Addr} {H H1 H2 : Hp} (a : Keep r H H1) (b : Keep r H1 H2) : Keep r H H2 := fun c o n h => b c o n (a c o n h)
theorem Keep.same {r : Addr} {H H1 : Hp} (a : Same H H1) : Keep r H H1 := fun c o _ h => a c o h
theorem Keep.new {r p : Addr} {H H1 : Hp} {o : HO} (a : Keep r H H1) (n : H p = none) : Keep r H (upd H1 p o) := fun c u hc h => by
  rw [upd_ne (ne_of_none h n)]
  exact a c u hc h
theorem Keep.upd {r : Addr} {H H1 : Hp} {o : HO} (a : Keep r H H1) : Keep r H (upd H1 r o) := fun c u hc h => by
  rw [upd_ne hc]
  exact a c u hc h
def RdO (K : PySem.W.Frag) (R : RdI) (n : Nat) : HO := .ins (He.ga K "Reader") R.dx (F_Reader (.ref R.tl) (.int n))
structure RdI.At (K : PySem.W.Frag) (R : RdI) (H : Hp) (l : VToks) : Prop where
  pos : ∃ n : Nat, H R.r = some (RdO K R n) ∧ R.ts.drop n = l
  lst : H R.tl = some (.lst (R.as.map V.ref))
  toks : ∀ (i : Nat) (t : Vaidxa.Token), R.ts[i]? = some t → ∃ a, R.as[i]? = some a ∧ TokAt K H a t
  good : GoodL l
theorem tok_ne_rd {K : PySem.W.Frag} {C dx dy : Addr} {a b c d e x y : V} : HO.ins (He.ga K "Token") dx (F_Token a b c d e) ≠ HO.ins C dy (F_Reader x y) := by
  intro z
  injection z with _ _ z
  have z2 := congrArg List.length z
  simp [F_Token, F_Reader] at z2
/-- the reader elsewhere: what is behind a place -/
theorem RdI.At.keep {K : PySem.W.Frag} {R : RdI} {H H' : Hp} {l l' : VToks} {n : Nat} (A : R.At K H l) (k : Keep R.r H H') (h : H' R.r = some (RdO K R n)) (hl : R.ts.drop n = l') (g : GoodL l') : R.At K H' l' := by
  obtain ⟨m, hm, _⟩ := A.pos
  refine ⟨⟨n, h, hl⟩, k _ _ (ne_of A.lst hm (by intro z; cases z)) A.lst, fun i t ht => ?_, g⟩
  obtain ⟨a, ha, dx, e, hx⟩ := A.toks i t ht
  exact ⟨a, ha, dx, e, k _ _ (ne_of hx hm tok_ne_rd) hx⟩
/-- .. nothing is taken -/
theorem RdI.At.same {K : PySem.W.Frag} {R : RdI} {H H' : Hp} {l : VToks} (A : R.At K H l) (k : Same H H') : R.At K H' l := by
  obtain ⟨m, hm, hl⟩ := A.pos
  exact A.keep (Keep.same k) (k _ _ hm) hl A.good
/-- .. another object, new ahead of H, is changed -/
theorem RdI.At.upd {K : PySem.W.Frag} {R : RdI} {H0 H : Hp} {l0 l : VToks} {p : Addr} {o : HO} (A0 : R.At K H0 l0) (A : R.At K H l) (k : Keep R.r H0 H) (n : H0 p = none) : R.At K (upd H p o) l := by
  obtain ⟨m0, hm0, _⟩ := A0.pos
  obtain ⟨m, hm, hl⟩ := A.pos
  refine A0.keep (k.new n) ?_ hl A.good
  rw [upd_ne (ne_of_none hm0 n)]
  exact hm
theorem RdI.At.cur {K : PySem.W.Frag} {R : RdI} {H : Hp} {t : Vaidxa.Token} {l : VToks} (A : R.At K H (t :: l)) : ∃ (n : Nat) (a : Addr), H R.r = some (RdO K R n) ∧ R.as[n]? = some a ∧ TokAt K H a t ∧ R.ts.drop (n + 1) = l := by
  obtain ⟨n, hn, hl⟩ := A.pos
  have e : R.ts[n]? = some t := by
    have h2 := congrArg (fun x => x[0]?) hl
    simpa using h2
  obtain ⟨a, ha, ht⟩ := A.toks n t e
  refine ⟨n, a, hn, ha, ht, ?_⟩
  have h3 := congrArg List.tail hl
  simpa using h3
/-! ### what the readers hand back -/
/-- the fault told -/
def Err (K : PySem.W.Frag) (r : Addr) (H : Hp) (E : XK) (f : Vaidxa.Fault) : Prop := ∀ (d : Addr) (H' : Hp), H' d = some (.xd (ftF (.int f.kind) (.int f.place))) → Keep r H H' → E (.ref (He.ga K "Fault")) (some d) H'
theorem Err.mono {K : PySem.W.Frag} {r : Addr} {H H1 : Hp} {E : XK} {f : Vaidxa.Fault} (h : Err K r H E f) (k : Keep r H H1) : Err K r H1 E f := fun d H' hd k' => h d H' hd (k.trans k')
/-- what is read, or the fault -/
def Ret {α : Type} (K : PySem.W.Frag) (R : RdI) (H : Hp) (E : XK) (res : Vaidxa.Got (α × VToks)) (k : α → Hp → Prop) : Prop := match res with
  | .error f => Err K R.r H E f
  | .ok x => ∀ H' : Hp, R.At K H' x.2 → Keep R.r H H' → k x.1 H'
/-! ### promises: the reader -/
def standsB (l : VToks) (s : Str) : Bool := match l with
  | [] => false
  | t :: _ => decide (sS (spellL t.tok) = s)
def sp_Reader_init (K : PySem.W.Frag) : Sp := fun vs H Q _ => ∃ (p dx a : Addr), vs = [.ref p, .ref a] ∧ H p = some (.ins (He.ga K "Reader") dx []) ∧
  ∀ H' : Hp, H' p = some (.ins (He.ga K "Reader") dx (F_Reader (.ref a) (.int 0))) → (∀ b o, H b = some o → b ≠ p → H' b = some o) → Q .non H'
def sp_Reader_current (K : PySem.W.Frag) : Sp := fun vs H Q _ => ∃ (R : RdI) (t : Vaidxa.Token) (l : VToks), vs = [.ref R.r] ∧ R.At K H (t :: l) ∧ ∀ a, TokAt K H a t → Q (.ref a) H
def sp_Reader_stands (K : PySem.W.Frag) : Sp := fun vs H Q _ => ∃ (R : RdI) (l : VToks) (s : Str), vs = [.ref R.r, .str s] ∧ R.At K H l ∧ Q (.bl (standsB l s)) H
def sp_Reader_skip_if (K : PySem.W.Frag) : Sp := fun vs H Q _ => ∃ (R : RdI) (l : VToks) (s : Str), vs = [.ref R.r, .str s] ∧ R.At K H l ∧ s ≠ sS [] ∧
  (standsB l s = false → Q (.bl false) H) ∧ (standsB l s = true → ∀ H' : Hp, R.At K H' (l.drop 1) → Keep R.r H H' → Q (.bl true) H')
def sp_Reader_expect (K : PySem.W.Frag) : Sp := fun vs H Q E => ∃ (R : RdI) (l : VToks) (s : Str), vs = [.ref R.r, .str s] ∧ R.At K H l ∧ s ≠ sS [] ∧
  (standsB l s = false → Err K R.r H E ⟨2, Vaidxa.here l⟩) ∧ (standsB l s = true → ∀ H' : Hp, R.At K H' (l.drop 1) → Keep R.r H H' → Q .non H')
def isEnd : VToks → Bool
  | ⟨_, .ending⟩ :: _ => true
  | _ => false
def sp_Reader_expect_end (K : PySem.W.Frag) : Sp := fun vs H Q E => ∃ (R : RdI) (l : VToks), vs = [.ref R.r] ∧ R.At K H l ∧
  (isEnd l = false → Err K R.r H E ⟨2, Vaidxa.here l⟩) ∧ (isEnd l = true → Q .non H)
def sp_Reader_take_name (K : PySem.W.Frag) : Sp := fun vs H Q E => ∃ (R : RdI) (l : VToks), vs = [.ref R.r] ∧ R.At K H l ∧
  (Vaidxa.nameNext l = none → Err K R.r H E ⟨2, Vaidxa.here l⟩) ∧ (∀ w, Vaidxa.nameNext l = some w → ∀ H' : Hp, R.At K H' (l.drop 1) → Keep R.r H H' → Q (.str (sS w)) H')
def sp_Reader_take_number (K : PySem.W.Frag) : Sp := fun vs H Q E => ∃ (R : RdI) (l : VToks) (lo hi : Nat), vs = [.ref R.r, .int lo, .int hi] ∧ R.At K H l ∧ Ret K R H E (Vaidxa.takeNum lo hi l) fun n H' => Q (.int (n : Nat)) H'
end Ix
-- part IxI
set_option maxHeartbeats 4000000
namespace Ix
open PySem PySem.Spec PyProof.Rows L2
def sp_Sheet_init (K : PySem.W.Frag) : Sp := fun vs H Q _ => ∃ (p dx : Addr) (x0 : V), vs = [.ref p, x0] ∧ H p = some (.ins (He.ga K "Sheet") dx []) ∧
  ∀ (H' : Hp) (g0 g1 g2 : Addr), H' p = some (.ins (He.ga K "Sheet") dx (F_Sheet x0 (.ref g0) (.ref g1) (.ref g2))) → H' g0 = some (.lst []) → H g0 = none → H' g1 = some (.lst []) → H g1 = none → H' g2 = some (.lst []) → H g2 = none → g1 ≠ g0 → g2 ≠ g0 → g2 ≠ g1 → (∀ b o, H b = some o → b ≠ p → H' b = some o) → Q .non H'
def sp_Group_init (K : PySem.W.Frag) : Sp := fun vs H Q _ => ∃ (p dx : Addr) (x0 x1 : V), vs = [.ref p, x0, x1] ∧ H p = some (.ins (He.ga K "Group") dx []) ∧
  ∀ (H' : Hp), H' p = some (.ins (He.ga K "Group") dx (F_Group x0 x1)) → (∀ b o, H b = some o → b ≠ p → H' b = some o) → Q .non H'
def sp_Filter_init (K : PySem.W.Frag) : Sp := fun vs H Q _ => ∃ (p dx : Addr) (x0 x1 x2 : V), vs = [.ref p, x0, x1, x2] ∧ H p = some (.ins (He.ga K "Filter") dx []) ∧
  ∀ (H' : Hp), H' p = some (.ins (He.ga K "Filter") dx (F_Filter x0 x1 x2)) → (∀ b o, H b = some o → b ≠ p → H' b = some o) → Q .non H'
def sp_Question_init (K : PySem.W.Frag) : Sp := fun vs H Q _ => ∃ (p dx : Addr) (x0 : V), vs = [.ref p, x0] ∧ H p = some (.ins (He.ga K "Question") dx []) ∧
  ∀ (H' : Hp) (g0 g1 g2 : Addr), H' p = some (.ins (He.ga K "Question") dx (F_Question x0 (.ref g0) (.ref g1) (.bl false) (.ref g2) (.int 0) (.int 1))) → H' g0 = some (.lst []) → H g0 = none → H' g1 = some (.lst []) → H g1 = none → H' g2 = some (.lst []) → H g2 = none → g1 ≠ g0 → g2 ≠ g0 → g2 ≠ g1 → (∀ b o, H b = some o → b ≠ p → H' b = some o) → Q .non H'
def sp_Index_init (K : PySem.W.Frag) : Sp := fun vs H Q _ => ∃ (p dx : Addr) (x0 x1 : V), vs = [.ref p, x0, x1] ∧ H p = some (.ins (He.ga K "Index") dx []) ∧
  ∀ (H' : Hp) (g0 : Addr), H' p = some (.ins (He.ga K "Index") dx (F_Index x0 x1 (.ref g0) .non)) → H' g0 = some (.lst []) → H g0 = none → (∀ b o, H b = some o → b ≠ p → H' b = some o) → Q .non H'
def sp_Token_init (K : PySem.W.Frag) : Sp := fun vs H Q _ => ∃ (p dx : Addr) (x0 x1 x2 x3 x4 : V), vs = [.ref p, x0, x1, x2, x3, x4] ∧ H p = some (.ins (He.ga K "Token") dx []) ∧
  ∀ (H' : Hp), H' p = some (.ins (He.ga K "Token") dx (F_Token x0 x1 x2 x3 x4)) → (∀ b o, H b = some o → b ≠ p → H' b = some o) → Q .non H'
def sp_Call_init (K : PySem.W.Frag) : Sp := fun vs H Q _ => ∃ (p dx : Addr) (x0 x1 x2 : V), vs = [.ref p, x0, x1, x2] ∧ H p = some (.ins (He.ga K "Call") dx []) ∧
  ∀ (H' : Hp), H' p = some (.ins (He.ga K "Call") dx (F_Call x0 x1 x2)) → (∀ b o, H b = some o → b ≠ p → H' b = some o) → Q .non H'
def sp_Line_init (K : PySem.W.Frag) : Sp := fun vs H Q _ => ∃ (p dx : Addr) (x0 : V), vs = [.ref p, x0] ∧ H p = some (.ins (He.ga K "Line") dx []) ∧
  ∀ (H' : Hp), H' p = some (.ins (He.ga K "Line") dx (F_Line x0 (.int 0))) → (∀ b o, H b = some o → b ≠ p → H' b = some o) → Q .non H'
def sp_Part_init (K : PySem.W.Frag) : Sp := fun vs H Q _ => ∃ (p dx : Addr) (x0 x1 : V), vs = [.ref p, x0, x1] ∧ H p = some (.ins (He.ga K "Part") dx []) ∧
  ∀ (H' : Hp), H' p = some (.ins (He.ga K "Part") dx (F_Part x0 x1)) → (∀ b o, H b = some o → b ≠ p → H' b = some o) → Q .non H'
def sp_Desk_init (K : PySem.W.Frag) : Sp := fun vs H Q _ => ∃ (p dx : Addr), vs = [.ref p] ∧ H p = some (.ins (He.ga K "Desk") dx []) ∧
  ∀ (H' : Hp), H' p = some (.ins (He.ga K "Desk") dx (F_Desk .non)) → (∀ b o, H b = some o → b ≠ p → H' b = some o) → Q .non H'
abbrev N_Sheet_init : List Str := ["self", "columns"]
def t_Sheet_init (K : PySem.W.Frag) (E : XK) : TS :=
  (tSeq (sFld K (tVar 0) (tVar 1) "columns")
    (tSeq (sFld K (tVar 0) (tLst tNil) "groups")
    (tSeq (sFld K (tVar 0) (tLst tNil) "questions")
    (sFld K (tVar 0) (tLst tNil) "indexes"))))
abbrev N_Group_init : List Str := ["self", "cells", "rows"]
def t_Group_init (K : PySem.W.Frag) (E : XK) : TS :=
  (tSeq (sFld K (tVar 0) (tVar 1) "cells")
    (sFld K (tVar 0) (tVar 2) "rows"))
abbrev N_Filter_init : List Str := ["self", "column", "low", "high"]
def t_Filter_init (K : PySem.W.Frag) (E : XK) : TS :=
  (tSeq (sFld K (tVar 0) (tVar 1) "column")
    (tSeq (sFld K (tVar 0) (tVar 2) "low")
    (sFld K (tVar 0) (tVar 3) "high")))
abbrev N_Question_init : List Str := ["self", "name"]
def t_Question_init (K : PySem.W.Frag) (E : XK) : TS :=
  (tSeq (sFld K (tVar 0) (tVar 1) "name")
    (tSeq (sFld K (tVar 0) (tLst tNil) "filters")
    (tSeq (sFld K (tVar 0) (tLst tNil) "order")
    (tSeq (sFld K (tVar 0) (tC (.bl false)) "backwards")
    (tSeq (sFld K (tVar 0) (tLst tNil) "wanted")
    (tSeq (sFld K (tVar 0) (tC (.int 0)) "limit")
    (sFld K (tVar 0) (tC (.int 1)) "times")))))))
abbrev N_Index_init : List Str := ["self", "name", "key_columns"]
def t_Index_init (K : PySem.W.Frag) (E : XK) : TS :=
  (tSeq (sFld K (tVar 0) (tVar 1) "name")
    (tSeq (sFld K (tVar 0) (tVar 2) "key_columns")
    (tSeq (sFld K (tVar 0) (tLst tNil) "included")
    (sFld K (tVar 0) (tC .non) "condition"))))
abbrev N_Token_init : List Str := ["self", "kind", "spelling", "number", "place", "end"]
def t_Token_init (K : PySem.W.Frag) (E : XK) : TS :=
  (tSeq (sFld K (tVar 0) (tVar 1) "kind")
    (tSeq (sFld K (tVar 0) (tVar 2) "spelling")
    (tSeq (sFld K (tVar 0) (tVar 3) "number")
    (tSeq (sFld K (tVar 0) (tVar 4) "place")
    (sFld K (tVar 0) (tVar 5) "end")))))
abbrev N_Call_init : List Str := ["self", "kind", "numbers", "rows"]
def t_Call_init (K : PySem.W.Frag) (E : XK) : TS :=
  (tSeq (sFld K (tVar 0) (tVar 1) "kind")
    (tSeq (sFld K (tVar 0) (tVar 2) "numbers")
    (sFld K (tVar 0) (tVar 3) "rows")))
abbrev N_Line_init : List Str := ["self", "figures"]
def t_Line_init (K : PySem.W.Frag) (E : XK) : TS :=
  (tSeq (sFld K (tVar 0) (tVar 1) "figures")
    (sFld K (tVar 0) (tC (.int 0)) "position"))
abbrev N_Part_init : List Str := ["self", "cells", "rows"]
def t_Part_init (K : PySem.W.Frag) (E : XK) : TS :=
  (tSeq (sFld K (tVar 0) (tVar 1) "cells")
    (sFld K (tVar 0) (tVar 2) "rows"))
abbrev N_Desk_init : List Str := ["self"]
def t_Desk_init (K : PySem.W.Frag) (E : XK) : TS :=
  (sFld K (tVar 0) (tC .non) "sheet")
section
variable {K : PySem.W.Frag} {mg : Str → Option Value}
/-- a new object's fields are set, lists for them made -/
structure St1 (H Hc : Hp) (p : Addr) (o : HO) (gs : List Addr) : Prop where
  at_ : Hc p = some o
  keep : ∀ b u, H b = some u → b ≠ p → Hc b = some u
  ls : ∀ g ∈ gs, Hc g = some (.lst []) ∧ H g = none
  nd : gs.Nodup
theorem St1.start {H : Hp} {p : Addr} {o : HO} (h : H p = some o) : St1 H H p o [] := ⟨h, fun _ _ e _ => e, fun _ m => (List.not_mem_nil m).elim, List.nodup_nil⟩
theorem St1.store {H Hc : Hp} {p C dx : Addr} {fs : List (Str × V)} {gs : List Addr} (S : St1 H Hc p (.ins C dx fs) gs) (f : Str) (y : V) : St1 H (upd Hc p (.ins C dx (putF f y fs))) p (.ins C dx (putF f y fs)) gs :=
  ⟨upd_same, fun b u e hb => by rw [upd_ne hb]; exact S.keep b u e hb, fun g hg => ⟨by rw [upd_ne (ne_of (S.ls g hg).1 S.at_ (by intro z; cases z))]; exact (S.ls g hg).1, (S.ls g hg).2⟩, S.nd⟩
theorem St1.list {H Hc : Hp} {p g : Addr} {o : HO} {gs : List Addr} (S : St1 H Hc p o gs) (n : Hc g = none) : St1 H (upd Hc g (.lst [])) p o (gs ++ [g]) := by
  have hg : H g = none := by
    cases e : H g with
    | none => rfl
    | some u =>
      by_cases z : g = p
      · rw [z, S.at_] at n
        cases n
      · rw [S.keep g u e z] at n
        cases n
  refine ⟨by rw [upd_ne (ne_of_none S.at_ n)]; exact S.at_, fun b u e hb => by rw [upd_ne (ne_of_none (S.keep b u e hb) n)]; exact S.keep b u e hb, fun x hx => ?_, ?_⟩
  · rcases List.mem_append.mp hx with h | h
    · have e := (S.ls x h).1
      exact ⟨by rw [upd_ne (ne_of_none e n)]; exact e, (S.ls x h).2⟩
    · rw [List.mem_singleton.mp h]
      exact ⟨upd_same, hg⟩
  · rw [List.nodup_append]
    refine ⟨S.nd, List.nodup_cons.mpr ⟨List.not_mem_nil, List.nodup_nil⟩, fun a ha b hb z => ?_⟩
    rw [List.mem_singleton.mp hb] at z
    have e := (S.ls a ha).1
    rw [z, n] at e
    cases e
theorem len_Sheet_init {vs : List V} {H : Hp} {Q : VK} {E : XK} (h : sp_Sheet_init K vs H Q E) : vs.length = 2 := by
  obtain ⟨p, dx, x0, rfl, _⟩ := h
  rfl
theorem pure_Sheet_init (T : Txt K mg) (vs : List V) (H : Hp) (Q : VK) (E : XK) (h : sp_Sheet_init K vs H Q E) : t_Sheet_init K E { nx := fun _ H' => Q .non H', rt := Q } (start N_Sheet_init vs) H := by
  obtain ⟨p, dx, x0, rfl, hp, k⟩ := h
  have S0 := St1.start hp
  refine ⟨_, rfl, _, rfl, p, _, dx, _, rfl, S0.at_, cl_Sheet T, n_Sheet_columns T, (by show 0 < 1000; decide), ?_⟩
  have S1 := S0.store "columns" x0
  refine ⟨(by show 0 ≤ sizeLine; decide), fun g0 ng0 => ?_⟩
  have S2 := S1.list ng0
  refine ⟨_, rfl, p, _, dx, _, rfl, S2.at_, cl_Sheet T, n_Sheet_groups T, (by show 1 < 1000; decide), ?_⟩
  have S3 := S2.store "groups" (.ref g0)
  refine ⟨(by show 0 ≤ sizeLine; decide), fun g1 ng1 => ?_⟩
  have S4 := S3.list ng1
  refine ⟨_, rfl, p, _, dx, _, rfl, S4.at_, cl_Sheet T, n_Sheet_questions T, (by show 2 < 1000; decide), ?_⟩
  have S5 := S4.store "questions" (.ref g1)
  refine ⟨(by show 0 ≤ sizeLine; decide), fun g2 ng2 => ?_⟩
  have S6 := S5.list ng2
  refine ⟨_, rfl, p, _, dx, _, rfl, S6.at_, cl_Sheet T, n_Sheet_indexes T, (by show 3 < 1000; decide), ?_⟩
  have S7 := S6.store "indexes" (.ref g2)
  have nd := S7.nd
  simp only [List.nil_append, List.cons_append, List.nodup_cons, List.mem_cons, List.not_mem_nil, not_or, or_false] at nd
  refine k _ g0 g1 g2 (S7.at_.trans (congrArg (fun q => some (HO.ins _ dx q)) m_Sheet)) (S7.ls g0 (by simp)).1 (S7.ls g0 (by simp)).2 (S7.ls g1 (by simp)).1 (S7.ls g1 (by simp)).2 (S7.ls g2 (by simp)).1 (S7.ls g2 (by simp)).2 ?_ ?_ ?_ S7.keep
  all_goals (intro z; subst z; simp at nd)
theorem len_Group_init {vs : List V} {H : Hp} {Q : VK} {E : XK} (h : sp_Group_init K vs H Q E) : vs.length = 3 := by
  obtain ⟨p, dx, x0, x1, rfl, _⟩ := h
  rfl
theorem pure_Group_init (T : Txt K mg) (vs : List V) (H : Hp) (Q : VK) (E : XK) (h : sp_Group_init K vs H Q E) : t_Group_init K E { nx := fun _ H' => Q .non H', rt := Q } (start N_Group_init vs) H := by
  obtain ⟨p, dx, x0, x1, rfl, hp, k⟩ := h
  have S0 := St1.start hp
  refine ⟨_, rfl, _, rfl, p, _, dx, _, rfl, S0.at_, cl_Group T, n_Group_cells T, (by show 0 < 1000; decide), ?_⟩
  have S1 := S0.store "cells" x0
  refine ⟨_, rfl, _, rfl, p, _, dx, _, rfl, S1.at_, cl_Group T, n_Group_rows T, (by show 1 < 1000; decide), ?_⟩
  have S2 := S1.store "rows" x1
  exact k _ (S2.at_.trans (congrArg (fun q => some (HO.ins _ dx q)) m_Group)) S2.keep
theorem len_Filter_init {vs : List V} {H : Hp} {Q : VK} {E : XK} (h : sp_Filter_init K vs H Q E) : vs.length = 4 := by
  obtain ⟨p, dx, x0, x1, x2, rfl, _⟩ := h
  rfl
theorem pure_Filter_init (T : Txt K mg) (vs : List V) (H : Hp) (Q : VK) (E : XK) (h : sp_Filter_init K vs H Q E) : t_Filter_init K E { nx := fun _ H' => Q .non H', rt := Q } (start N_Filter_init vs) H := by
  obtain ⟨p, dx, x0, x1, x2, rfl, hp, k⟩ := h
  have S0 := St1.start hp
  refine ⟨_, rfl, _, rfl, p, _, dx, _, rfl, S0.at_, cl_Filter T, n_Filter_column T, (by show 0 < 1000; decide), ?_⟩
  have S1 := S0.store "column" x0
  refine ⟨_, rfl, _, rfl, p, _, dx, _, rfl, S1.at_, cl_Filter T, n_Filter_low T, (by show 1 < 1000; decide), ?_⟩
  have S2 := S1.store "low" x1
  refine ⟨_, rfl, _, rfl, p, _, dx, _, rfl, S2.at_, cl_Filter T, n_Filter_high T, (by show 2 < 1000; decide), ?_⟩
  have S3 := S2.store "high" x2
  exact k _ (S3.at_.trans (congrArg (fun q => some (HO.ins _ dx q)) m_Filter)) S3.keep
theorem len_Question_init {vs : List V} {H : Hp} {Q : VK} {E : XK} (h : sp_Question_init K vs H Q E) : vs.length = 2 := by
  obtain ⟨p, dx, x0, rfl, _⟩ := h
  rfl
theorem pure_Question_init (T : Txt K mg) (vs : List V) (H : Hp) (Q : VK) (E : XK) (h : sp_Question_init K vs H Q E) : t_Question_init K E { nx := fun _ H' => Q .non H', rt := Q } (start N_Question_init vs) H := by
  obtain ⟨p, dx, x0, rfl, hp, k⟩ := h
  have S0 := St1.start hp
  refine ⟨_, rfl, _, rfl, p, _, dx, _, rfl, S0.at_, cl_Question T, n_Question_name T, (by show 0 < 1000; decide), ?_⟩
  have S1 := S0.store "name" x0
  refine ⟨(by show 0 ≤ sizeLine; decide), fun g0 ng0 => ?_⟩
  have S2 := S1.list ng0
  refine ⟨_, rfl, p, _, dx, _, rfl, S2.at_, cl_Question T, n_Question_filters T, (by show 1 < 1000; decide), ?_⟩
  have S3 := S2.store "filters" (.ref g0)
  refine ⟨(by show 0 ≤ sizeLine; decide), fun g1 ng1 => ?_⟩
  have S4 := S3.list ng1
  refine ⟨_, rfl, p, _, dx, _, rfl, S4.at_, cl_Question T, n_Question_order T, (by show 2 < 1000; decide), ?_⟩
  have S5 := S4.store "order" (.ref g1)
  refine ⟨_, rfl, p, _, dx, _, rfl, S5.at_, cl_Question T, n_Question_backwards T, (by show 3 < 1000; decide), ?_⟩
  have S6 := S5.store "backwards" (.bl false)
  refine ⟨(by show 0 ≤ sizeLine; decide), fun g2 ng2 => ?_⟩
  have S7 := S6.list ng2
  refine ⟨_, rfl, p, _, dx, _, rfl, S7.at_, cl_Question T, n_Question_wanted T, (by show 4 < 1000; decide), ?_⟩
  have S8 := S7.store "wanted" (.ref g2)
  refine ⟨_, rfl, p, _, dx, _, rfl, S8.at_, cl_Question T, n_Question_limit T, (by show 5 < 1000; decide), ?_⟩
  have S9 := S8.store "limit" (.int 0)
  refine ⟨_, rfl, p, _, dx, _, rfl, S9.at_, cl_Question T, n_Question_times T, (by show 6 < 1000; decide), ?_⟩
  have S10 := S9.store "times" (.int 1)
  have nd := S10.nd
  simp only [List.nil_append, List.cons_append, List.nodup_cons, List.mem_cons, List.not_mem_nil, not_or, or_false] at nd
  refine k _ g0 g1 g2 (S10.at_.trans (congrArg (fun q => some (HO.ins _ dx q)) m_Question)) (S10.ls g0 (by simp)).1 (S10.ls g0 (by simp)).2 (S10.ls g1 (by simp)).1 (S10.ls g1 (by simp)).2 (S10.ls g2 (by simp)).1 (S10.ls g2 (by simp)).2 ?_ ?_ ?_ S10.keep
  all_goals (intro z; subst z; simp at nd)
theorem len_Index_init {vs : List V} {H : Hp} {Q : VK} {E : XK} (h : sp_Index_init K vs H Q E) : vs.length = 3 := by
  obtain ⟨p, dx, x0, x1, rfl, _⟩ := h
  rfl
theorem pure_Index_init (T : Txt K mg) (vs : List V) (H : Hp) (Q : VK) (E : XK) (h : sp_Index_init K vs H Q E) : t_Index_init K E { nx := fun _ H' => Q .non H', rt := Q } (start N_Index_init vs) H := by
  obtain ⟨p, dx, x0, x1, rfl, hp, k⟩ := h
  have S0 := St1.start hp
  refine ⟨_, rfl, _, rfl, p, _, dx, _, rfl, S0.at_, cl_Index T, n_Index_name T, (by show 0 < 1000; decide), ?_⟩
  have S1 := S0.store "name" x0
  refine ⟨_, rfl, _, rfl, p, _, dx, _, rfl, S1.at_, cl_Index T, n_Index_key_columns T, (by show 1 < 1000; decide), ?_⟩
  have S2 := S1.store "key_columns" x1
  refine ⟨(by show 0 ≤ sizeLine; decide), fun g0 ng0 => ?_⟩
  have S3 := S2.list ng0
  refine ⟨_, rfl, p, _, dx, _, rfl, S3.at_, cl_Index T, n_Index_included T, (by show 2 < 1000; decide), ?_⟩
  have S4 := S3.store "included" (.ref g0)
  refine ⟨_, rfl, p, _, dx, _, rfl, S4.at_, cl_Index T, n_Index_condition T, (by show 3 < 1000; decide), ?_⟩
  have S5 := S4.store "condition" .non
  have nd := S5.nd
  simp only [List.nil_append, List.cons_append, List.nodup_cons, List.mem_cons, List.not_mem_nil, not_or, or_false] at nd
  refine k _ g0 (S5.at_.trans (congrArg (fun q => some (HO.ins _ dx q)) m_Index)) (S5.ls g0 (by simp)).1 (S5.ls g0 (by simp)).2 S5.keep
  all_goals (intro z; subst z; simp at nd)
theorem len_Token_init {vs : List V} {H : Hp} {Q : VK} {E : XK} (h : sp_Token_init K vs H Q E) : vs.length = 6 := by
  obtain ⟨p, dx, x0, x1, x2, x3, x4, rfl, _⟩ := h
  rfl
theorem pure_Token_init (T : Txt K mg) (vs : List V) (H : Hp) (Q : VK) (E : XK) (h : sp_Token_init K vs H Q E) : t_Token_init K E { nx := fun _ H' => Q .non H', rt := Q } (start N_Token_init vs) H := by
  obtain ⟨p, dx, x0, x1, x2, x3, x4, rfl, hp, k⟩ := h
  have S0 := St1.start hp
  refine ⟨_, rfl, _, rfl, p, _, dx, _, rfl, S0.at_, cl_Token T, n_Token_kind T, (by show 0 < 1000; decide), ?_⟩
  have S1 := S0.store "kind" x0
  refine ⟨_, rfl, _, rfl, p, _, dx, _, rfl, S1.at_, cl_Token T, n_Token_spelling T, (by show 1 < 1000; decide), ?_⟩
  have S2 := S1.store "spelling" x1
  refine ⟨_, rfl, _, rfl, p, _, dx, _, rfl, S2.at_, cl_Token T, n_Token_number T, (by show 2 < 1000; decide), ?_⟩
  have S3 := S2.store "number" x2
  refine ⟨_, rfl, _, rfl, p, _, dx, _, rfl, S3.at_, cl_Token T, n_Token_place T, (by show 3 < 1000; decide), ?_⟩
  have S4 := S3.store "place" x3
  refine ⟨_, rfl, _, rfl, p, _, dx, _, rfl, S4.at_, cl_Token T, n_Token_end T, (by show 4 < 1000; decide), ?_⟩
  have S5 := S4.store "end" x4
  exact k _ (S5.at_.trans (congrArg (fun q => some (HO.ins _ dx q)) m_Token)) S5.keep
theorem len_Call_init {vs : List V} {H : Hp} {Q : VK} {E : XK} (h : sp_Call_init K vs H Q E) : vs.length = 4 := by
  obtain ⟨p, dx, x0, x1, x2, rfl, _⟩ := h
  rfl
theorem pure_Call_init (T : Txt K mg) (vs : List V) (H : Hp) (Q : VK) (E : XK) (h : sp_Call_init K vs H Q E) : t_Call_init K E { nx := fun _ H' => Q .non H', rt := Q } (start N_Call_init vs) H := by
  obtain ⟨p, dx, x0, x1, x2, rfl, hp, k⟩ := h
  have S0 := St1.start hp
  refine ⟨_, rfl, _, rfl, p, _, dx, _, rfl, S0.at_, cl_Call T, n_Call_kind T, (by show 0 < 1000; decide), ?_⟩
  have S1 := S0.store "kind" x0
  refine ⟨_, rfl, _, rfl, p, _, dx, _, rfl, S1.at_, cl_Call T, n_Call_numbers T, (by show 1 < 1000; decide), ?_⟩
  have S2 := S1.store "numbers" x1
  refine ⟨_, rfl, _, rfl, p, _, dx, _, rfl, S2.at_, cl_Call T, n_Call_rows T, (by show 2 < 1000; decide), ?_⟩
  have S3 := S2.store "rows" x2
  exact k _ (S3.at_.trans (congrArg (fun q => some (HO.ins _ dx q)) m_Call)) S3.keep
theorem len_Line_init {vs : List V} {H : Hp} {Q : VK} {E : XK} (h : sp_Line_init K vs H Q E) : vs.length = 2 := by
  obtain ⟨p, dx, x0, rfl, _⟩ := h
  rfl
theorem pure_Line_init (T : Txt K mg) (vs : List V) (H : Hp) (Q : VK) (E : XK) (h : sp_Line_init K vs H Q E) : t_Line_init K E { nx := fun _ H' => Q .non H', rt := Q } (start N_Line_init vs) H := by
  obtain ⟨p, dx, x0, rfl, hp, k⟩ := h
  have S0 := St1.start hp
  refine ⟨_, rfl, _, rfl, p, _, dx, _, rfl, S0.at_, cl_Line T, n_Line_figures T, (by show 0 < 1000; decide), ?_⟩
  have S1 := S0.store "figures" x0
  refine ⟨_, rfl, p, _, dx, _, rfl, S1.at_, cl_Line T, n_Line_position T, (by show 1 < 1000; decide), ?_⟩
  have S2 := S1.store "position" (.int 0)
  exact k _ (S2.at_.trans (congrArg (fun q => some (HO.ins _ dx q)) m_Line)) S2.keep
theorem len_Part_init {vs : List V} {H : Hp} {Q : VK} {E : XK} (h : sp_Part_init K vs H Q E) : vs.length = 3 := by
  obtain ⟨p, dx, x0, x1, rfl, _⟩ := h
  rfl
theorem pure_Part_init (T : Txt K mg) (vs : List V) (H : Hp) (Q : VK) (E : XK) (h : sp_Part_init K vs H Q E) : t_Part_init K E { nx := fun _ H' => Q .non H', rt := Q } (start N_Part_init vs) H := by
  obtain ⟨p, dx, x0, x1, rfl, hp, k⟩ := h
  have S0 := St1.start hp
  refine ⟨_, rfl, _, rfl, p, _, dx, _, rfl, S0.at_, cl_Part T, n_Part_cells T, (by show 0 < 1000; decide), ?_⟩
  have S1 := S0.store "cells" x0
  refine ⟨_, rfl, _, rfl, p, _, dx, _, rfl, S1.at_, cl_Part T, n_Part_rows T, (by show 1 < 1000; decide), ?_⟩
  have S2 := S1.store "rows" x1
  exact k _ (S2.at_.trans (congrArg (fun q => some (HO.ins _ dx q)) m_Part)) S2.keep
theorem len_Desk_init {vs : List V} {H : Hp} {Q : VK} {E : XK} (h : sp_Desk_init K vs H Q E) : vs.length = 1 := by
  obtain ⟨p, dx, rfl, _⟩ := h
  rfl
theorem pure_Desk_init (T : Txt K mg) (vs : List V) (H : Hp) (Q : VK) (E : XK) (h : sp_Desk_init K vs H Q E) : t_Desk_init K E { nx := fun _ H' => Q .non H', rt := Q } (start N_Desk_init vs) H := by
  obtain ⟨p, dx, rfl, hp, k⟩ := h
  have S0 := St1.start hp
  refine ⟨_, rfl, p, _, dx, _, rfl, S0.at_, cl_Desk T, n_Desk_sheet T, (by show 0 < 1000; decide), ?_⟩
  have S1 := S0.store "sheet" .non
  exact k _ (S1.at_.trans (congrArg (fun q => some (HO.ins _ dx q)) m_Desk)) S1.keep
end
end Ix
-- part IxT1
set_option maxHeartbeats 4000000
namespace Ix
open PySem PySem.Spec PyProof.Rows L2
abbrev N_Reader_init : List Str := ["self", "tokens"]
def t_Reader_init (K : PySem.W.Frag) (E : XK) : TS :=
  (tSeq (sFld K (tVar 0) (tVar 1) "tokens")
    (sFld K (tVar 0) (tC (.int 0)) "position"))
abbrev N_Reader_current : List Str := ["self"]
def t_Reader_current (K : PySem.W.Frag) (E : XK) : TS :=
  (tRet (tOp (rIxL K) (tFld K (tVar 0) "tokens") (tFld K (tVar 0) "position")))
abbrev N_Reader_stands : List Str := ["self", "spelling"]
def t_Reader_stands (K : PySem.W.Frag) (E : XK) : TS :=
  (tRet (tOp rEq (tFld K (tMeth (He.ga K "Reader") "current" (sp_Reader_current K) [] E0 (tVar 0) tNil) "spelling") (tVar 1)))
abbrev N_Reader_skip_if : List Str := ["self", "spelling"]
def t_Reader_skip_if (K : PySem.W.Frag) (E : XK) : TS :=
  (tSeq (tIfS (tNot (tB (tMeth (He.ga K "Reader") "stands" (sp_Reader_stands K) [] E0 (tVar 0) (tCons (tVar 1) tNil)))) (tRet (tC (.bl false))) tNext)
    (tSeq (sFldAug K (tVar 0) (tC (.int 1)) rAdd "position")
    (tRet (tC (.bl true)))))
abbrev N_Reader_expect : List Str := ["self", "spelling"]
def t_Reader_expect (K : PySem.W.Frag) (E : XK) : TS :=
  (tIfS (tNot (tB (tMeth (He.ga K "Reader") "skip_if" (sp_Reader_skip_if K) [] E0 (tVar 0) (tCons (tVar 1) tNil)))) (tRaiseFt (He.ga K "Fault") E (tCons (tC (.int 2)) (tCons (tFld K (tMeth (He.ga K "Reader") "current" (sp_Reader_current K) [] E0 (tVar 0) tNil) "place") tNil))) tNext)
abbrev N_Reader_expect_end : List Str := ["self"]
def t_Reader_expect_end (K : PySem.W.Frag) (E : XK) : TS :=
  (tIfS (tTest (tOp rNe (tFld K (tMeth (He.ga K "Reader") "current" (sp_Reader_current K) [] E0 (tVar 0) tNil) "kind") (tC (.str "end")))) (tRaiseFt (He.ga K "Fault") E (tCons (tC (.int 2)) (tCons (tFld K (tMeth (He.ga K "Reader") "current" (sp_Reader_current K) [] E0 (tVar 0) tNil) "place") tNil))) tNext)
abbrev N_Reader_take_name : List Str := ["self", "token"]
def t_Reader_take_name (K : PySem.W.Frag) (E : XK) : TS :=
  (tSeq (tAsg (tMeth (He.ga K "Reader") "current" (sp_Reader_current K) [] E0 (tVar 0) tNil) (gName 1))
    (tSeq (tIfS (tOr (tTest (tOp rNe (tFld K (tVar 1) "kind") (tC (.str "word")))) (tTest (tOp (rIn K false) (tFld K (tVar 1) "spelling") (tC (.ref (He.ga K "RESERVED")))))) (tRaiseFt (He.ga K "Fault") E (tCons (tC (.int 2)) (tCons (tFld K (tVar 1) "place") tNil))) tNext)
    (tSeq (sFldAug K (tVar 0) (tC (.int 1)) rAdd "position")
    (tRet (tFld K (tVar 1) "spelling")))))
abbrev N_Reader_take_number : List Str := ["self", "lowest", "highest", "token"]
def t_Reader_take_number (K : PySem.W.Frag) (E : XK) : TS :=
  (tSeq (tAsg (tMeth (He.ga K "Reader") "current" (sp_Reader_current K) [] E0 (tVar 0) tNil) (gName 3))
    (tSeq (tIfS (tTest (tOp rNe (tFld K (tVar 3) "kind") (tC (.str "number")))) (tRaiseFt (He.ga K "Fault") E (tCons (tC (.int 2)) (tCons (tFld K (tVar 3) "place") tNil))) tNext)
    (tSeq (tIfS (tNot (tTest (tChain rLe_ rLe_ (tVar 1) (tFld K (tVar 3) "number") (tVar 2)))) (tRaiseFt (He.ga K "Fault") E (tCons (tC (.int 3)) (tCons (tFld K (tVar 3) "place") tNil))) tNext)
    (tSeq (sFldAug K (tVar 0) (tC (.int 1)) rAdd "position")
    (tRet (tFld K (tVar 3) "number"))))))
end Ix
-- part IxP1
set_option maxHeartbeats 4000000
namespace Ix
open PySem PySem.Spec PyProof.Rows L2
theorem if_true_of {c : Bool} {A B : Prop} (hc : c = true) (h : A) : if c = true then A else B := by
  rw [if_pos hc]
  exact h
theorem if_false_of {c : Bool} {A B : Prop} (hc : c = false) (h : B) : if c = true then A else B := by
  rw [hc, if_neg Bool.false_ne_true]
  exact h
section
variable {K : PySem.W.Frag} {mg : Str → Option Value}
theorem len_Reader_init {vs : List V} {H : Hp} {Q : VK} {E : XK} (h : sp_Reader_init K vs H Q E) : vs.length = 2 := by
  obtain ⟨p, dx, a, rfl, _⟩ := h
  rfl
theorem pure_Reader_init (T : Txt K mg) (vs : List V) (H : Hp) (Q : VK) (E : XK) (h : sp_Reader_init K vs H Q E) : t_Reader_init K E { nx := fun _ H' => Q .non H', rt := Q } (start N_Reader_init vs) H := by
  obtain ⟨p, dx, a, rfl, hp, k⟩ := h
  refine ⟨_, rfl, _, rfl, p, _, dx, [], rfl, hp, cl_Reader T, n_Reader_tokens T, (by show 0 < 1000; decide), ?_⟩
  refine ⟨_, rfl, p, _, dx, _, rfl, upd_same, cl_Reader T, n_Reader_position T, (by show 1 < 1000; decide), ?_⟩
  refine k _ (Eq.trans upd_same (congrArg (fun q => some (HO.ins _ dx q)) m_Reader)) fun b o e hb => ?_
  rw [upd_ne hb, upd_ne hb]
  exact e
theorem len_Reader_current {vs : List V} {H : Hp} {Q : VK} {E : XK} (h : sp_Reader_current K vs H Q E) : vs.length = 1 := by
  obtain ⟨_, _, _, rfl, _⟩ := h
  rfl
theorem pure_Reader_current (T : Txt K mg) (vs : List V) (H : Hp) (Q : VK) (E : XK) (h : sp_Reader_current K vs H Q E) : t_Reader_current K E { nx := fun _ H' => Q .non H', rt := Q } (start N_Reader_current vs) H := by
  obtain ⟨R, t, l, rfl, A, k⟩ := h
  obtain ⟨n, a, hn, ha, ht, hl⟩ := A.cur
  refine ⟨_, rfl, R.r, _, R.dx, _, _, rfl, hn, cl_Reader T, n_Reader_tokens T, l_Reader_tokens, ?_⟩
  refine ⟨_, rfl, R.r, _, R.dx, _, _, rfl, hn, cl_Reader T, n_Reader_position T, l_Reader_position, ?_⟩
  refine ⟨R.tl, _, _, .ref a, rfl, rfl, SqL.of A.lst, atI_nat (j := n) ?_, k a ht⟩
  rw [List.getElem?_map, ha]
  rfl
theorem len_Reader_stands {vs : List V} {H : Hp} {Q : VK} {E : XK} (h : sp_Reader_stands K vs H Q E) : vs.length = 2 := by
  obtain ⟨_, _, _, rfl, _⟩ := h
  rfl
theorem pure_Reader_stands (T : Txt K mg) (vs : List V) (H : Hp) (Q : VK) (E : XK) (h : sp_Reader_stands K vs H Q E) : t_Reader_stands K E { nx := fun _ H' => Q .non H', rt := Q } (start N_Reader_stands vs) H := by
  obtain ⟨R, l, s, rfl, A, k⟩ := h
  cases l with
  | nil => exact absurd rfl A.good.ne
  | cons t l =>
    obtain ⟨n, a, hn, ha, ht, hl⟩ := A.cur
    refine ⟨_, rfl, R.r, R.dx, _, rfl, hn, l_Reader_current, R, t, l, rfl, A, fun a ⟨dx, e, hx⟩ => ?_⟩
    refine ⟨a, _, dx, _, _, rfl, hx, cl_Token T, n_Token_spelling T, l_Token_spelling, _, rfl, rfl, ?_⟩
    have e : decide (V.str (sS (spellL t.tok)) = V.str s) = standsB (t :: l) s := by
      show _ = decide (sS (spellL t.tok) = s)
      simp
    show Q (.bl (decide (V.str (sS (spellL t.tok)) = V.str s))) H
    rw [e]
    exact k
/-! ### a step on -/
theorem standsB_tok {t : Vaidxa.Token} {l : VToks} {s : Str} (h : standsB (t :: l) s = true) (hs : s ≠ sS []) : t.tok ≠ .ending := by
  intro e
  have h2 : sS (spellL t.tok) = s := of_decide_eq_true h
  rw [e] at h2
  exact hs h2.symm
/-- behind position += 1 -/
theorem stepped {R : RdI} {H : Hp} {t : Vaidxa.Token} {l : VToks} {n : Nat} {dx : Addr} {fs : List (Str × V)} (A : R.At K H (t :: l)) (hn : H R.r = some (RdO K R n)) (hl : R.ts.drop (n + 1) = l) (ht : t.tok ≠ .ending)
    (he : HO.ins (He.ga K "Reader") dx (putF "position" (.int ((n : Int) + 1)) fs) = RdO K R (n + 1)) :
    R.At K (upd H R.r (.ins (He.ga K "Reader") dx (putF "position" (.int ((n : Int) + 1)) fs))) l ∧ Keep R.r H (upd H R.r (.ins (He.ga K "Reader") dx (putF "position" (.int ((n : Int) + 1)) fs))) := by
  have k : Keep R.r H (upd H R.r (.ins (He.ga K "Reader") dx (putF "position" (.int ((n : Int) + 1)) fs))) := (Keep.refl R.r H).upd
  exact ⟨A.keep k (upd_same.trans (congrArg some he)) hl (A.good.tail ht), k⟩
theorem rdO_put {R : RdI} {n : Nat} : HO.ins (He.ga K "Reader") R.dx (putF "position" (.int ((n : Int) + 1)) (F_Reader (.ref R.tl) (.int n))) = RdO K R (n + 1) := by
  rw [p_Reader_position]
  rfl
theorem len_Reader_skip_if {vs : List V} {H : Hp} {Q : VK} {E : XK} (h : sp_Reader_skip_if K vs H Q E) : vs.length = 2 := by
  obtain ⟨_, _, _, rfl, _⟩ := h
  rfl
theorem pure_Reader_skip_if (T : Txt K mg) (vs : List V) (H : Hp) (Q : VK) (E : XK) (h : sp_Reader_skip_if K vs H Q E) : t_Reader_skip_if K E { nx := fun _ H' => Q .non H', rt := Q } (start N_Reader_skip_if vs) H := by
  obtain ⟨R, l, s, rfl, A, hs, k0, k1⟩ := h
  cases l with
  | nil => exact absurd rfl A.good.ne
  | cons t l =>
    obtain ⟨n, a, hn, ha, ht, hl⟩ := A.cur
    refine ⟨_, rfl, R.r, R.dx, _, rfl, hn, l_Reader_stands, _, rfl, R, t :: l, s, rfl, A, _, rfl, ?_⟩
    cases e : standsB (t :: l) s with
    | false => exact if_true_of rfl (k0 e)
    | true =>
      refine if_false_of rfl ?_
      refine ⟨_, rfl, R.r, _, R.dx, _, _, rfl, hn, cl_Reader T, n_Reader_position T, l_Reader_position, _, _, rfl, rfl, R.dx, _, hn, (by show 2 < 1000; decide), ?_⟩
      obtain ⟨A2, kp⟩ := stepped A hn hl (standsB_tok e hs) rdO_put
      exact k1 e _ A2 kp
theorem len_Reader_expect {vs : List V} {H : Hp} {Q : VK} {E : XK} (h : sp_Reader_expect K vs H Q E) : vs.length = 2 := by
  obtain ⟨_, _, _, rfl, _⟩ := h
  rfl
theorem Err.out {r : Addr} {H : Hp} {E : XK} {f : Vaidxa.Fault} (h : Err K r H E f) {a b : Int} (ha : (f.kind : Int) = a) (hb : (f.place : Int) = b) {d : Addr} (hd : H d = none) : E (.ref (He.ga K "Fault")) (some d) (upd H d (.xd (ftF (.int a) (.int b)))) := by
  subst ha hb
  exact h d _ upd_same ((Keep.refl r H).new hd)
theorem pure_Reader_expect (T : Txt K mg) (vs : List V) (H : Hp) (Q : VK) (E : XK) (h : sp_Reader_expect K vs H Q E) : t_Reader_expect K E { nx := fun _ H' => Q .non H', rt := Q } (start N_Reader_expect vs) H := by
  obtain ⟨R, l, s, rfl, A, hs, k0, k1⟩ := h
  obtain ⟨m, hm, _⟩ := A.pos
  refine ⟨_, rfl, R.r, R.dx, _, rfl, hm, l_Reader_skip_if, _, rfl, R, l, s, rfl, A, hs, fun e => ⟨_, rfl, if_true_of rfl ?_⟩, fun e H' A2 kp => ⟨_, rfl, if_false_of rfl (k1 e H' A2 kp)⟩⟩
  cases l with
  | nil => exact absurd rfl A.good.ne
  | cons t l =>
    refine ⟨_, rfl, R.r, R.dx, _, rfl, hm, l_Reader_current, R, t, l, rfl, A, fun a ⟨dx, ee, hx⟩ => ?_⟩
    refine ⟨a, _, dx, _, _, rfl, hx, cl_Token T, n_Token_place T, l_Token_place, _, _, rfl, fun d hd => ?_⟩
    exact (k0 e).out rfl rfl hd
theorem len_Reader_expect_end {vs : List V} {H : Hp} {Q : VK} {E : XK} (h : sp_Reader_expect_end K vs H Q E) : vs.length = 1 := by
  obtain ⟨_, _, rfl, _⟩ := h
  rfl
theorem kindS_end (t : Vaidxa.Token) (l : VToks) : (!decide (V.str (kindS t.tok) = V.str "end")) = !isEnd (t :: l) := by
  obtain ⟨p, t⟩ := t
  cases t with
  | ending => exact congrArg _ (decide_eq_true rfl)
  | _ => exact congrArg _ (decide_eq_false (fun h => by injection h with h; simp only [kindS] at h; exact absurd h (by decide +kernel)))
theorem pure_Reader_expect_end (T : Txt K mg) (vs : List V) (H : Hp) (Q : VK) (E : XK) (h : sp_Reader_expect_end K vs H Q E) : t_Reader_expect_end K E { nx := fun _ H' => Q .non H', rt := Q } (start N_Reader_expect_end vs) H := by
  obtain ⟨R, l, rfl, A, k0, k1⟩ := h
  obtain ⟨m, hm, _⟩ := A.pos
  cases l with
  | nil => exact absurd rfl A.good.ne
  | cons t l =>
    refine ⟨_, rfl, R.r, R.dx, _, rfl, hm, l_Reader_current, R, t, l, rfl, A, fun a ⟨dx, ee, hx⟩ => ?_⟩
    refine ⟨a, _, dx, _, _, rfl, hx, cl_Token T, n_Token_kind T, l_Token_kind, rfl, _, rfl, ?_⟩
    rw [kindS_end t l]
    cases e : isEnd (t :: l) with
    | true => exact if_false_of rfl (k1 e)
    | false =>
      refine if_true_of rfl ?_
      refine ⟨_, rfl, R.r, R.dx, _, rfl, hm, l_Reader_current, R, t, l, rfl, A, fun a ⟨dx, ee, hx⟩ => ?_⟩
      refine ⟨a, _, dx, _, _, rfl, hx, cl_Token T, n_Token_place T, l_Token_place, _, _, rfl, fun d hd => ?_⟩
      exact (k0 e).out rfl rfl hd
theorem len_Reader_take_name {vs : List V} {H : Hp} {Q : VK} {E : XK} (h : sp_Reader_take_name K vs H Q E) : vs.length = 1 := by
  obtain ⟨_, _, rfl, _⟩ := h
  rfl
theorem kindS_word (t : Vaidxa.Tok) : (!decide (V.str (kindS t) = V.str "word")) = match t with | .word _ => false | _ => true := by
  cases t with
  | word w => exact congrArg not (decide_eq_true rfl)
  | _ => exact congrArg not (decide_eq_false (fun h => by injection h with h; simp only [kindS] at h; exact absurd h (by decide +kernel)))
theorem reserved_eq : tab_RESERVED.map (He.Dv.v K) = Vaidxa.RESERVED.map fun w => V.str (sS w) := by
  have e : Vaidxa.RESERVED = [[116, 97, 98, 108, 101], [114, 111, 119], [97, 115, 107], [105, 110, 100, 101, 120], [119, 104, 101, 114, 101], [97, 110, 100], [102, 114, 111, 109], [116, 111], [98, 121], [98, 97, 99, 107], [119, 97, 110, 116, 115], [102, 105, 114, 115, 116], [116, 105, 109, 101, 115], [111, 110], [119, 105, 116, 104], [111, 110, 108, 121]] := by decide +kernel
  rw [e]
  have h : ([("table" : Str), "row", "ask", "index", "where", "and", "from", "to", "by", "back", "wants", "first", "times", "on", "with", "only"] : List Str) = [sS [116, 97, 98, 108, 101], sS [114, 111, 119], sS [97, 115, 107], sS [105, 110, 100, 101, 120], sS [119, 104, 101, 114, 101], sS [97, 110, 100], sS [102, 114, 111, 109], sS [116, 111], sS [98, 121], sS [98, 97, 99, 107], sS [119, 97, 110, 116, 115], sS [102, 105, 114, 115, 116], sS [116, 105, 109, 101, 115], sS [111, 110], sS [119, 105, 116, 104], sS [111, 110, 108, 121]] := by decide +kernel
  exact congrArg (List.map V.str) h
theorem inV_strs (w : List Nat) : ∀ l : List (List Nat), inV (.str (sS w)) (l.map fun w => V.str (sS w)) = l.contains w
  | [] => rfl
  | a :: l => by
    have ih := inV_strs w l
    unfold inV at ih ⊢
    rw [List.map_cons, List.any_cons, ih, List.contains_cons]
    have e : eqV (V.str (sS a)) (V.str (sS w)) = (w == a) := by
      show (sS a == sS w) = (w == a)
      by_cases h : a = w
      · subst h
        simp
      · have h2 : ¬ sS a = sS w := fun z => h (sS_inj z)
        have h3 : ¬ w = a := fun z => h z.symm
        rw [beq_eq_false_iff_ne.mpr h2, beq_eq_false_iff_ne.mpr h3]
    rw [e]
theorem flat_strs : ∀ l : List (List Nat), (l.map fun w => V.str (sS w)).all flatV = true
  | [] => rfl
  | a :: l => by
    rw [List.map_cons, List.all_cons, flat_strs l]
    rfl
theorem pure_Reader_take_name (T : Txt K mg) (vs : List V) (H : Hp) (Q : VK) (E : XK) (h : sp_Reader_take_name K vs H Q E) : t_Reader_take_name K E { nx := fun _ H' => Q .non H', rt := Q } (start N_Reader_take_name vs) H := by
  obtain ⟨R, l, rfl, A, k0, k1⟩ := h
  cases l with
  | nil => exact absurd rfl A.good.ne
  | cons t l =>
    obtain ⟨n, a0, hn, ha, ht, hl⟩ := A.cur
    refine ⟨_, rfl, R.r, R.dx, _, rfl, hn, l_Reader_current, R, t, l, rfl, A, fun a ⟨dx, ee, hx⟩ => ?_⟩
    refine ⟨_, rfl, a, _, dx, _, _, rfl, hx, cl_Token T, n_Token_kind T, l_Token_kind, rfl, _, rfl, ?_⟩
    rw [kindS_word]
    have fault : Vaidxa.nameNext (t :: l) = none → tRaiseFt (He.ga K "Fault") E (tCons (tC (.int 2)) (tCons (tFld K (tVar 1) "place") tNil)) { nx := fun _ _ => True, rt := Q } [some (.ref R.r), some (.ref a)] H := fun e =>
      ⟨_, rfl, a, _, dx, _, _, rfl, hx, cl_Token T, n_Token_place T, l_Token_place, _, _, rfl, fun d hd => (k0 e).out rfl rfl hd⟩
    obtain ⟨p, tk⟩ := t
    cases tk with
    | word w =>
      refine if_false_of rfl ?_
      refine ⟨_, rfl, a, _, dx, _, _, rfl, hx, cl_Token T, n_Token_spelling T, l_Token_spelling, He.ga K "RESERVED", _, rfl, .inr (w_RESERVED T H), rfl, ?_, _, rfl, ?_⟩
      · rw [reserved_eq]
        exact flat_strs _
      · show if (if false = true then _ else inV (.str (sS w)) (tab_RESERVED.map (He.Dv.v K))) = true then _ else _
        rw [if_neg Bool.false_ne_true, reserved_eq, inV_strs]
        cases e : Vaidxa.RESERVED.contains w with
        | true => exact if_true_of rfl (fault (if_pos e))
        | false =>
          refine if_false_of rfl ?_
          refine ⟨_, rfl, R.r, _, R.dx, _, _, rfl, hn, cl_Reader T, n_Reader_position T, l_Reader_position, _, _, rfl, rfl, R.dx, _, hn, (by show 2 < 1000; decide), ?_⟩
          obtain ⟨A2, kp⟩ := stepped A hn hl (fun z => by cases z) rdO_put
          obtain ⟨m, hm, _⟩ := A.pos
          refine ⟨_, rfl, a, _, dx, _, _, rfl, kp _ _ (ne_of hx hn tok_ne_rd) hx, cl_Token T, n_Token_spelling T, l_Token_spelling, ?_⟩
          exact k1 w (if_neg (by rw [e]; exact Bool.false_ne_true)) _ A2 kp
    | num m => exact if_true_of rfl (if_true_of rfl (fault rfl))
    | sign b => exact if_true_of rfl (if_true_of rfl (fault rfl))
    | ending => exact if_true_of rfl (if_true_of rfl (fault rfl))
theorem len_Reader_take_number {vs : List V} {H : Hp} {Q : VK} {E : XK} (h : sp_Reader_take_number K vs H Q E) : vs.length = 3 := by
  obtain ⟨_, _, _, _, rfl, _⟩ := h
  rfl
theorem kindS_num (t : Vaidxa.Tok) : (!decide (V.str (kindS t) = V.str "number")) = match t with | .num _ => false | _ => true := by
  cases t with
  | num w => exact congrArg not (decide_eq_true rfl)
  | _ => exact congrArg not (decide_eq_false (fun h => by injection h with h; simp only [kindS] at h; exact absurd h (by decide +kernel)))
theorem pure_Reader_take_number (T : Txt K mg) (vs : List V) (H : Hp) (Q : VK) (E : XK) (h : sp_Reader_take_number K vs H Q E) : t_Reader_take_number K E { nx := fun _ H' => Q .non H', rt := Q } (start N_Reader_take_number vs) H := by
  obtain ⟨R, l, lo, hi, rfl, A, k⟩ := h
  cases l with
  | nil => exact absurd rfl A.good.ne
  | cons t l =>
    obtain ⟨n, a0, hn, ha, ht, hl⟩ := A.cur
    refine ⟨_, rfl, R.r, R.dx, _, rfl, hn, l_Reader_current, R, t, l, rfl, A, fun a ⟨dx, ee, hx⟩ => ?_⟩
    refine ⟨_, rfl, a, _, dx, _, _, rfl, hx, cl_Token T, n_Token_kind T, l_Token_kind, rfl, _, rfl, ?_⟩
    rw [kindS_num]
    obtain ⟨p, tk⟩ := t
    have f2 : Vaidxa.takeNum lo hi (⟨p, tk⟩ :: l) = .error ⟨2, p⟩ → tRaiseFt (He.ga K "Fault") E (tCons (tC (.int 2)) (tCons (tFld K (tVar 3) "place") tNil)) { nx := fun _ _ => True, rt := Q } [some (.ref R.r), some (.int lo), some (.int hi), some (.ref a)] H := fun e => by
      rw [e] at k
      exact ⟨_, rfl, a, _, dx, _, _, rfl, hx, cl_Token T, n_Token_place T, l_Token_place, _, _, rfl, fun d hd => Err.out (K := K) k rfl rfl hd⟩
    cases tk with
    | num m =>
      refine if_false_of rfl ?_
      have ek : Vaidxa.takeNum lo hi (⟨p, .num m⟩ :: l) = if lo ≤ m ∧ m ≤ hi then .ok (m, l) else .error ⟨3, p⟩ := rfl
      rw [ek] at k
      have f3 : ¬ (lo ≤ m ∧ m ≤ hi) → tRaiseFt (He.ga K "Fault") E (tCons (tC (.int 3)) (tCons (tFld K (tVar 3) "place") tNil)) { nx := fun _ _ => True, rt := Q } [some (.ref R.r), some (.int lo), some (.int hi), some (.ref a)] H := fun e => by
        rw [if_neg e] at k
        exact ⟨_, rfl, a, _, dx, _, _, rfl, hx, cl_Token T, n_Token_place T, l_Token_place, _, _, rfl, fun d hd => Err.out (K := K) k rfl rfl hd⟩
      refine ⟨_, rfl, _, rfl, a, _, dx, _, _, rfl, hx, cl_Token T, n_Token_number T, l_Token_number, _, _, rfl, rfl, _, rfl, ?_⟩
      by_cases c1 : lo ≤ m
      · refine if_true_of (decide_eq_true (by show (lo : Int) ≤ (m : Int); omega)) ?_
        refine ⟨_, rfl, _, _, rfl, rfl, _, rfl, ?_⟩
        by_cases c2 : m ≤ hi
        · have d2 : decide ((m : Int) ≤ (hi : Int)) = true := decide_eq_true (by omega)
          show if (!decide ((m : Int) ≤ (hi : Int))) = true then _ else _
          rw [d2]
          refine if_false_of rfl ?_
          rw [if_pos ⟨c1, c2⟩] at k
          refine ⟨_, rfl, R.r, _, R.dx, _, _, rfl, hn, cl_Reader T, n_Reader_position T, l_Reader_position, _, _, rfl, rfl, R.dx, _, hn, (by show 2 < 1000; decide), ?_⟩
          obtain ⟨A2, kp⟩ := stepped A hn hl (fun z => by cases z) rdO_put
          refine ⟨_, rfl, a, _, dx, _, _, rfl, kp _ _ (ne_of hx hn tok_ne_rd) hx, cl_Token T, n_Token_number T, l_Token_number, ?_⟩
          exact k _ A2 kp
        · have d2 : decide ((m : Int) ≤ (hi : Int)) = false := decide_eq_false (by omega)
          show if (!decide ((m : Int) ≤ (hi : Int))) = true then _ else _
          rw [d2]
          exact if_true_of rfl (f3 (fun z => c2 z.2))
      · refine if_false_of (decide_eq_false (by show ¬ (lo : Int) ≤ (m : Int); omega)) ?_
        exact ⟨_, rfl, if_true_of rfl (f3 (fun z => c1 z.1))⟩
    | word w => exact if_true_of rfl (f2 rfl)
    | sign b => exact if_true_of rfl (f2 rfl)
    | ending => exact if_true_of rfl (f2 rfl)
end
end Ix
-- part IxB
set_option maxHeartbeats 4000000
namespace Ix
open PySem PySem.Spec PyProof.Rows L2
/-! ### texts -/
theorem sS_append (a b : List Nat) : sS a ++ sS b = sS (a ++ b) := by
  show (⟨a.toArray ++ b.toArray⟩ : Str) = ⟨(a ++ b).toArray⟩
  simp
theorem sS_length (a : List Nat) : (sS a).length = a.length := by
  show a.toArray.size = a.length
  simp
theorem tl_sS (a : List Nat) : TL.tl (sS a) = a := by
  show a.toArray.toList = a
  simp
theorem sS_tl (z : Str) : sS (TL.tl z) = z := by
  obtain ⟨c⟩ := z
  show (⟨c.toList.toArray⟩ : Str) = ⟨c⟩
  simp
theorem sS_of {z : Str} {a : List Nat} (h : TL.tl z = a) : z = sS a := by
  rw [← h, sS_tl]
theorem joinL_parted (s : List Nat) : ∀ l : List (List Nat), TL.joinL s l = Vaidxa.parted s l
  | [] => rfl
  | [p] => by
    show p = ([p].intersperse s).flatMap fun x => x
    simp
  | p :: q :: r => by
    show p ++ (s ++ TL.joinL s (q :: r)) = ((p :: q :: r).intersperse s).flatMap fun x => x
    rw [joinL_parted s (q :: r)]
    show p ++ (s ++ ((q :: r).intersperse s).flatMap fun x => x) = _
    simp
theorem join_sS (s : List Nat) (l : List (List Nat)) : Txt.join (sS s) (l.map sS) = sS (Vaidxa.parted s l) := by
  refine sS_of ?_
  rw [TL.join_eq, TL.tl_join, tl_sS, List.map_map, ← joinL_parted]
  have e : TL.tl ∘ sS = id := funext fun a => tl_sS a
  rw [e, List.map_id]
/-! ### lists that are built by a comprehension -/
section
variable {K : PySem.W.Frag}
theorem take_more {α : Type} : ∀ {l : List α} {i : Nat} {x : α}, l[i]? = some x → l.take (i + 1) = l.take i ++ [x]
  | [], i, x, h => by simp at h
  | a :: l, 0, x, h => by
    have e : a = x := Option.some.inj h
    subst e
    rfl
  | a :: l, i + 1, x, h => by
    have ih := take_more (l := l) (i := i) (x := x) h
    show a :: l.take (i + 1) = a :: l.take i ++ [x]
    rw [ih]
    rfl
theorem wipe_one {σ : L2.St} {i : Nat} {x : V} : wipe ((wipe σ [i]).set i (some x)) [i] = wipe σ [i] := by
  show ((σ.set i none).set i (some x)).set i none = σ.set i none
  rw [List.set_set, List.set_set]
theorem same_new {H H1 : Hp} {p : Addr} {o : HO} (a : Same H H1) (n : H p = none) : Same H (upd H1 p o) := fun c u h => by
  rw [upd_ne (ne_of_none h n)]
  exact a c u h
theorem size_ok {n : Nat} (h : n ≤ 100000) : n < sizeLine := by
  rw [sizeLine_eq]
  omega
/-- [e for x in xs if c]: of each item whether it is kept, and what it gives -/
theorem lc_if {a : Addr} {xs : List V} {i : Nat} {tt : TT} {te : TE} {σ : L2.St} {H1 : Hp} {D : Addr} {Qd : Hp → Prop} (ys : List (Bool × V)) (hl : ys.length = xs.length) (hD : H1 D = none) (hS : SqL K H1 a xs) (hz : xs.length ≤ 100000)
    (ht : ∀ (j : Nat) (x : V) (y : Bool × V), xs[j]? = some x → ys[j]? = some y → ∀ H', Same H1 H' → ∀ Qe : Bool → Hp → Prop, (∀ H'', Same H' H'' → Qe y.1 H'') → tt ((σ.set i none).set i (some x)) H' Qe)
    (he : ∀ (j : Nat) (x : V) (y : Bool × V), xs[j]? = some x → ys[j]? = some y → y.1 = true → ∀ H', Same H1 H' → ∀ Qe : VK, (∀ H'', Same H' H'' → Qe y.2 H'') → te ((σ.set i none).set i (some x)) H' Qe)
    (hq : ∀ H', H' D = some (.lst ((ys.filter (·.1)).map (·.2))) → Same H1 H' → Qd H') :
    ∃ W : Nat → Nat → Hp → Prop, (∃ m, W 0 m (upd H1 D (.lst []))) ∧ ∀ i' m H, W i' m H →
      ((Itl K a).stop i' H ∧ Qd H) ∨ ((Itl K a).go i' H ∧ ∃ Nx : Hp → Prop, (∀ H', Nx H' → ∃ m', m' < m ∧ W (i' + 1) m' H') ∧ ∀ x H', (Itl K a).yld i' H x H' → gName i x (wipe σ [i]) H' fun σ2 H2 => wipe σ2 [i] = wipe σ [i] ∧ tt σ2 H2 fun b H3 =>
        if b = true then te σ2 H3 fun y H4 => ∃ acc, H4 D = some (.lst acc) ∧ acc.length < sizeLine ∧ Nx (upd H4 D (.lst (acc ++ [y]))) else Nx H3) := by
  refine lc_list (xs := xs) (fun j H => H D = some (.lst (((ys.take j).filter (·.1)).map (·.2))) ∧ Same H1 H) ⟨upd_same, same_new (Same.refl H1) hD⟩ (fun j H _ p => p.2.seq hS) ?_ ?_
  · rintro j x H hx ⟨hd, hs⟩
    obtain ⟨y, hy⟩ : ∃ y, ys[j]? = some y := by
      have : j < ys.length := by rw [hl]; exact (List.getElem?_eq_some_iff.mp hx).1
      exact ⟨_, List.getElem?_eq_getElem this⟩
    refine ⟨wipe_one, ?_⟩
    refine ht j x y hx hy H hs _ fun H2 s2 => ?_
    have hd2 := s2 _ _ hd
    rw [take_more hy, List.filter_append, List.map_append]
    cases e : y.1 with
    | true =>
      refine if_true_of rfl ?_
      refine he j x y hx hy e H2 (hs.trans s2) _ fun H3 s3 => ⟨_, s3 _ _ hd2, size_ok ?_, ?_, ?_⟩
      · rw [List.length_map]
        refine Nat.le_trans (List.length_filter_le _ _) ?_
        rw [List.length_take, hl]
        omega
      · have e2 : [y].filter (·.1) = [y] := by simp [List.filter, e]
        rw [e2]
        exact upd_same
      · exact same_new ((hs.trans s2).trans s3) hD
    | false =>
      refine if_false_of rfl ⟨?_, hs.trans s2⟩
      have e2 : [y].filter (·.1) = [] := by simp [List.filter, e]
      rw [e2, List.map_nil, List.append_nil]
      exact hd2
  · rintro H ⟨hd, hs⟩
    refine hq H ?_ hs
    rw [← hl, List.take_length] at hd
    exact hd
/-- [e for x in xs] -/
theorem lc_ys {a : Addr} {xs : List V} {i : Nat} {te : TE} {σ : L2.St} {H1 : Hp} {D : Addr} {Qd : Hp → Prop} (ys : List V) (hl : ys.length = xs.length) (hD : H1 D = none) (hS : SqL K H1 a xs) (hz : xs.length ≤ 100000)
    (he : ∀ (j : Nat) (x y : V), xs[j]? = some x → ys[j]? = some y → ∀ H', Same H1 H' → ∀ Qe : VK, (∀ H'', Same H' H'' → Qe y H'') → te ((σ.set i none).set i (some x)) H' Qe)
    (hq : ∀ H', H' D = some (.lst ys) → Same H1 H' → Qd H') :
    ∃ W : Nat → Nat → Hp → Prop, (∃ m, W 0 m (upd H1 D (.lst []))) ∧ ∀ i' m H, W i' m H →
      ((Itl K a).stop i' H ∧ Qd H) ∨ ((Itl K a).go i' H ∧ ∃ Nx : Hp → Prop, (∀ H', Nx H' → ∃ m', m' < m ∧ W (i' + 1) m' H') ∧ ∀ x H', (Itl K a).yld i' H x H' → gName i x (wipe σ [i]) H' fun σ2 H2 => wipe σ2 [i] = wipe σ [i] ∧ tYes σ2 H2 fun b H3 =>
        if b = true then te σ2 H3 fun y H4 => ∃ acc, H4 D = some (.lst acc) ∧ acc.length < sizeLine ∧ Nx (upd H4 D (.lst (acc ++ [y]))) else Nx H3) := by
  have ey : ∀ (l : List V), ((l.map fun y => (true, y)).filter (·.1)).map (·.2) = l := fun l => by
    induction l with
    | nil => rfl
    | cons y l ih =>
      show y :: ((l.map fun y => (true, y)).filter (·.1)).map (·.2) = y :: l
      rw [ih]
  refine lc_if (K := K) (ys.map fun y => (true, y)) (by rw [List.length_map]; exact hl) hD hS hz (fun j x y hx hy H' hs Qe hQ => ?_) (fun j x y hx hy _ H' hs Qe hQ => ?_) (fun H' hd hs => hq H' (by rw [hd, ey]) hs)
  · rw [List.getElem?_map] at hy
    obtain ⟨z, _, rfl⟩ := Option.map_eq_some_iff.mp hy
    exact hQ H' (Same.refl H')
  · rw [List.getElem?_map] at hy
    obtain ⟨z, hz', rfl⟩ := Option.map_eq_some_iff.mp hy
    exact he j x z hx hz' H' hs Qe hQ
end
end Ix
-- part IxScan
set_option maxHeartbeats 4000000
namespace Ix
open PySem PySem.Spec PyProof.Rows L2
/-! ### the scan: promises -/
/-- a list of bytes -/
def BytesAt (K : PySem.W.Frag) (H : Hp) (a : Addr) (t : List Nat) : Prop := SqL K H a (t.map fun b => V.int (b : Nat))
def ErrS (K : PySem.W.Frag) (H : Hp) (E : XK) (f : Vaidxa.Fault) : Prop := ∀ (d : Addr) (H' : Hp), H' d = some (.xd (ftF (.int f.kind) (.int f.place))) → Same H H' → E (.ref (He.ga K "Fault")) (some d) H'
theorem ErrS.out {K : PySem.W.Frag} {H : Hp} {E : XK} {f : Vaidxa.Fault} (h : ErrS K H E f) {a b : Int} (ha : (f.kind : Int) = a) (hb : (f.place : Int) = b) {d : Addr} (hd : H d = none) : E (.ref (He.ga K "Fault")) (some d) (upd H d (.xd (ftF (.int a) (.int b)))) := by
  subst ha hb
  refine h d _ upd_same fun c o e => ?_
  rw [upd_ne (ne_of_none e hd)]
  exact e
theorem ErrS.mono {K : PySem.W.Frag} {H H1 : Hp} {E : XK} {f : Vaidxa.Fault} (h : ErrS K H E f) (k : Same H H1) : ErrS K H1 E f := fun d H' hd k' => h d H' hd (k.trans k')
def inR (lo hi b : Nat) : Bool := decide (lo ≤ b) && decide (b ≤ hi)
def runN (lo hi p : Nat) (t : List Nat) : Nat := ((t.drop p).takeWhile (inR lo hi)).length
def sp_run_end (K : PySem.W.Frag) : Sp := fun vs H Q E => ∃ (a : Addr) (t : List Nat) (p lo hi : Nat), vs = [.ref a, .int p, .int lo, .int hi] ∧ BytesAt K H a t ∧ p ≤ t.length ∧
  (7 < runN lo hi p t → ErrS K H E ⟨1, p⟩) ∧ (runN lo hi p t ≤ 7 → Q (.int ((p + runN lo hi p t : Nat) : Int)) H)
/-- a token at a, with where it ends -/
def TokE (K : PySem.W.Frag) (H : Hp) (a : Addr) (t : Vaidxa.Token) (e : Nat) : Prop := ∃ dx : Addr, H a = some (.ins (He.ga K "Token") dx (F_Token (.str (kindS t.tok)) (.str (sS (spellL t.tok))) (.int (numI t.tok)) (.int t.place) (.int e)))
/-- one token, from a place on -/
def tokOne (p : Nat) (t : List Nat) : Vaidxa.Got (Vaidxa.Token × Nat) := match t with
  | [] => .error ⟨1, p⟩
  | b :: r =>
    if Vaidxa.isLetter b then (if 7 < ((b :: r).takeWhile Vaidxa.isLetter).length then .error ⟨1, p⟩ else .ok (⟨p, .word ((b :: r).takeWhile Vaidxa.isLetter)⟩, ((b :: r).takeWhile Vaidxa.isLetter).length))
    else if Vaidxa.isDigit b then (if 7 < ((b :: r).takeWhile Vaidxa.isDigit).length ∨ (b = 48 ∧ 1 < ((b :: r).takeWhile Vaidxa.isDigit).length) then .error ⟨1, p⟩ else .ok (⟨p, .num (Vaidxa.numberOf ((b :: r).takeWhile Vaidxa.isDigit))⟩, ((b :: r).takeWhile Vaidxa.isDigit).length))
    else if Vaidxa.SIGNS.contains b then .ok (⟨p, .sign b⟩, 1)
    else .error ⟨1, p⟩
def RetT (K : PySem.W.Frag) (H : Hp) (E : XK) (Q : VK) (p : Nat) (res : Vaidxa.Got (Vaidxa.Token × Nat)) : Prop := match res with
  | .error f => ErrS K H E f
  | .ok x => ∀ (a : Addr) (H' : Hp), TokE K H' a x.1 (p + x.2) → Same H H' → Q (.ref a) H'
def sp_word_at (K : PySem.W.Frag) : Sp := fun vs H Q E => ∃ (a : Addr) (t : List Nat) (p b : Nat), vs = [.ref a, .int p] ∧ BytesAt K H a t ∧ t[p]? = some b ∧ Vaidxa.isLetter b = true ∧ RetT K H E Q p (tokOne p (t.drop p))
def sp_number_at (K : PySem.W.Frag) : Sp := fun vs H Q E => ∃ (a : Addr) (t : List Nat) (p b : Nat), vs = [.ref a, .int p] ∧ BytesAt K H a t ∧ t[p]? = some b ∧ Vaidxa.isDigit b = true ∧ RetT K H E Q p (tokOne p (t.drop p))
def sp_token_at (K : PySem.W.Frag) : Sp := fun vs H Q E => ∃ (a : Addr) (t : List Nat) (p b : Nat), vs = [.ref a, .int p] ∧ BytesAt K H a t ∧ t[p]? = some b ∧ RetT K H E Q p (tokOne p (t.drop p))
def RetL (K : PySem.W.Frag) (H : Hp) (E : XK) (Q : VK) (res : Vaidxa.Got VToks) : Prop := match res with
  | .error f => ErrS K H E f
  | .ok ts => ∀ (tl : Addr) (as : List Addr) (H' : Hp), H' tl = some (.lst (as.map V.ref)) → (∀ (i : Nat) (t : Vaidxa.Token), ts[i]? = some t → ∃ a, as[i]? = some a ∧ TokAt K H' a t) → GoodL ts → Same H H' → Q (.ref tl) H'
def sp_tokens_of (K : PySem.W.Frag) : Sp := fun vs H Q E => ∃ (a : Addr) (t : List Nat), vs = [.ref a] ∧ BytesAt K H a t ∧ t.length ≤ 1200 ∧ RetL K H E Q (Vaidxa.tokens t)
abbrev N_run_end : List Str := ["text", "place", "lowest", "highest", "end"]
def t_run_end (K : PySem.W.Frag) (E : XK) : TS :=
  (tSeq (tAsg (tVar 1) (gName 4))
    (tSeq (tWhile (tAnd (tTest (tOp rLt_ (tVar 4) (tCB (rLen_ K) (tCons (tVar 0) tNil)))) (tTest (tChain rLe_ rLe_ (tVar 2) (tOp (rIxL K) (tVar 0) (tVar 4)) (tVar 3)))) (tAug 4 (tC (.int 1)) (ipI fun i j => i + j)))
    (tSeq (tIfS (tTest (tOp rGt_ (tOp rSub_ (tVar 4) (tVar 1)) (tC (.int 7)))) (tRaiseFt (He.ga K "Fault") E (tCons (tC (.int 1)) (tCons (tVar 1) tNil))) tNext)
    (tRet (tVar 4)))))
abbrev N_word_at : List Str := ["text", "place", "end", "spelling", "byte"]
def t_word_at (K : PySem.W.Frag) (E : XK) : TS :=
  (tSeq (tAsg (tCall (sp_run_end K) [] E (tCons (tVar 0) (tCons (tVar 1) (tCons (tC (.int 97)) (tCons (tC (.int 122)) tNil))))) (gName 2))
    (tSeq (tAsg (tM1 (rJoin_ K) (tC (.str "")) (tLc (iList K (tSl (rSlL K) (tVar 0) (tPart (tVar 1)) (tPart (tVar 2)))) (gName 4) tYes (tOp rIxS (tC (.str "abcdefghijklmnopqrstuvwxyz")) (tOp rSub_ (tVar 4) (tC (.int 97)))) [4])) (gName 3))
    (tRet (tMake (He.ga K "Token") (sp_Token_init K) [] E0 (tCons (tC (.str "word")) (tCons (tVar 3) (tCons (tC (.int 0)) (tCons (tVar 1) (tCons (tVar 2) tNil)))))))))
abbrev N_number_at : List Str := ["text", "place", "end", "number", "byte"]
def t_number_at (K : PySem.W.Frag) (E : XK) : TS :=
  (tSeq (tAsg (tCall (sp_run_end K) [] E (tCons (tVar 0) (tCons (tVar 1) (tCons (tC (.int 48)) (tCons (tC (.int 57)) tNil))))) (gName 2))
    (tSeq (tIfS (tAnd (tTest (tOp rEq (tOp (rIxL K) (tVar 0) (tVar 1)) (tC (.int 48)))) (tTest (tOp rGt_ (tVar 2) (tOp rAdd_ (tVar 1) (tC (.int 1)))))) (tRaiseFt (He.ga K "Fault") E (tCons (tC (.int 1)) (tCons (tVar 1) tNil))) tNext)
    (tSeq (tAsg (tC (.int 0)) (gName 3))
    (tSeq (tFor (iList K (tSl (rSlL K) (tVar 0) (tPart (tVar 1)) (tPart (tVar 2)))) (gName 4) (tAsg (tOp rSub_ (tOp rAdd_ (tOp rMul_ (tVar 3) (tC (.int 10))) (tVar 4)) (tC (.int 48))) (gName 3)))
    (tRet (tMake (He.ga K "Token") (sp_Token_init K) [] E0 (tCons (tC (.str "number")) (tCons (tC (.str "")) (tCons (tVar 3) (tCons (tVar 1) (tCons (tVar 2) tNil)))))))))))
abbrev N_token_at : List Str := ["text", "place", "byte"]
def t_token_at (K : PySem.W.Frag) (E : XK) : TS :=
  (tSeq (tAsg (tOp (rIxL K) (tVar 0) (tVar 1)) (gName 2))
    (tSeq (tIfS (tTest (tChain rLe_ rLe_ (tC (.int 97)) (tVar 2) (tC (.int 122)))) (tRet (tCall (sp_word_at K) [] E (tCons (tVar 0) (tCons (tVar 1) tNil)))) tNext)
    (tSeq (tIfS (tTest (tChain rLe_ rLe_ (tC (.int 48)) (tVar 2) (tC (.int 57)))) (tRet (tCall (sp_number_at K) [] E (tCons (tVar 0) (tCons (tVar 1) tNil)))) tNext)
    (tSeq (tIfS (tTest (tOp (rInW K) (tVar 2) (tC (.ref (He.ga K "SIGNS"))))) (tRet (tMake (He.ga K "Token") (sp_Token_init K) [] E0 (tCons (tC (.str "sign")) (tCons (tOp (rIxW K) (tC (.ref (He.ga K "SIGNS"))) (tVar 2)) (tCons (tC (.int 0)) (tCons (tVar 1) (tCons (tOp rAdd_ (tVar 1) (tC (.int 1))) tNil))))))) tNext)
    (tRaiseFt (He.ga K "Fault") E (tCons (tC (.int 1)) (tCons (tVar 1) tNil)))))))
abbrev N_tokens_of : List Str := ["text", "tokens", "place", "token"]
def t_tokens_of (K : PySem.W.Frag) (E : XK) : TS :=
  (tSeq (tAsg (tLst tNil) (gName 1))
    (tSeq (tAsg (tC (.int 0)) (gName 2))
    (tSeq (tWhile (tTest (tOp rLt_ (tVar 2) (tCB (rLen_ K) (tCons (tVar 0) tNil)))) (tIfS (tTest (tOp (rIn K false) (tOp (rIxL K) (tVar 0) (tVar 2)) (tC (.ref (He.ga K "BLANKS"))))) (tAug 2 (tC (.int 1)) (ipI fun i j => i + j)) (tSeq (tAsg (tCall (sp_token_at K) [] E (tCons (tVar 0) (tCons (tVar 2) tNil))) (gName 3))
    (tSeq (tDrop (tBM K "list" rAppend (tVar 1) (tCons (tVar 3) tNil)))
    (tAsg (tFld K (tVar 3) "end") (gName 2))))))
    (tSeq (tDrop (tBM K "list" rAppend (tVar 1) (tCons (tMake (He.ga K "Token") (sp_Token_init K) [] E0 (tCons (tC (.str "end")) (tCons (tC (.str "")) (tCons (tC (.int 0)) (tCons (tCB (rLen_ K) (tCons (tVar 0) tNil)) (tCons (tCB (rLen_ K) (tCons (tVar 0) tNil)) tNil)))))) tNil)))
    (tRet (tVar 1))))))
section
variable {K : PySem.W.Frag} {mg : Str → Option Value}
theorem bytes_at {H : Hp} {a : Addr} {t : List Nat} {i b : Nat} (h : t[i]? = some b) : atI (t.map fun b => V.int ((b : Nat) : Int)) (i : Int) = some (V.int (b : Int)) := by
  refine atI_nat ?_
  rw [List.getElem?_map, h]
  rfl
theorem len_run_end {vs : List V} {H : Hp} {Q : VK} {E : XK} (h : sp_run_end K vs H Q E) : vs.length = 4 := by
  obtain ⟨_, _, _, _, _, rfl, _⟩ := h
  rfl
/-- the run goes on -/
theorem take_on {f : Nat → Bool} : ∀ {l : List Nat} {j : Nat} {b : Nat}, (∀ i c, i < j → l[i]? = some c → f c = true) → l[j]? = some b → f b = true → j < (l.takeWhile f).length
  | [], j, b, _, h, _ => by simp at h
  | c :: l, 0, b, _, h, hb => by
    have e : c = b := Option.some.inj h
    subst e
    rw [List.takeWhile_cons, if_pos hb]
    exact Nat.zero_lt_succ _
  | c :: l, j + 1, b, ha, h, hb => by
    have hc : f c = true := ha 0 c (Nat.zero_lt_succ _) rfl
    rw [List.takeWhile_cons, if_pos hc]
    exact Nat.succ_lt_succ (take_on (l := l) (j := j) (fun i d hi hd => ha (i + 1) d (Nat.succ_lt_succ hi) hd) h hb)
theorem take_stop {f : Nat → Bool} : ∀ {l : List Nat} {j : Nat}, (∀ i c, i < j → l[i]? = some c → f c = true) → j ≤ l.length → (∀ b, l[j]? = some b → f b = false) → (l.takeWhile f).length = j
  | [], j, _, h, _ => by
    have : j = 0 := by simpa using h
    subst this
    rfl
  | c :: l, 0, _, _, hs => by
    rw [List.takeWhile_cons, hs c rfl]
    rfl
  | c :: l, j + 1, ha, h, hs => by
    have hc : f c = true := ha 0 c (Nat.zero_lt_succ _) rfl
    rw [List.takeWhile_cons, if_pos hc, List.length_cons]
    exact congrArg (· + 1) (take_stop (l := l) (j := j) (fun i d hi hd => ha (i + 1) d (Nat.succ_lt_succ hi) hd) (Nat.le_of_succ_le_succ h) fun b hb => hs b hb)
theorem pure_run_end (T : Txt K mg) (vs : List V) (H : Hp) (Q : VK) (E : XK) (h : sp_run_end K vs H Q E) : t_run_end K E { nx := fun _ H' => Q .non H', rt := Q } (start N_run_end vs) H := by
  obtain ⟨a, t, p, lo, hi, rfl, hB, hp, k1, k2⟩ := h
  refine ⟨_, rfl, ?_⟩
  -- the loop: j bytes of the run are behind
  refine ⟨fun m σ H' => ∃ j : Nat, m = t.length - (p + j) ∧ H' = H ∧ σ = [some (.ref a), some (.int p), some (.int lo), some (.int hi), some (.int ((p + j : Nat) : Int))] ∧ p + j ≤ t.length ∧ ∀ i c, i < j → (t.drop p)[i]? = some c → inR lo hi c = true, ⟨_, 0, rfl, rfl, rfl, hp, fun i c hi => absurd hi (Nat.not_lt_zero _)⟩, ?_⟩
  rintro m σ H' ⟨j, rfl, rfl, rfl, hj, ha⟩
  have fin : (runN lo hi p t = j) → tSeq (tIfS (tTest (tOp rGt_ (tOp rSub_ (tVar 4) (tVar 1)) (tC (.int 7)))) (tRaiseFt (He.ga K "Fault") E (tCons (tC (.int 1)) (tCons (tVar 1) tNil))) tNext) (tRet (tVar 4)) { nx := fun _ H' => Q .non H', rt := Q } [some (.ref a), some (.int p), some (.int lo), some (.int hi), some (.int ((p + j : Nat) : Int))] H' := fun hr => by
    refine ⟨_, rfl, _, rfl, _, _, rfl, rfl, _, _, rfl, rfl, _, rfl, ?_⟩
    by_cases c : 7 < j
    · refine if_true_of (decide_eq_true (by omega)) ?_
      exact ⟨_, rfl, _, _, rfl, fun d hd => (k1 (by rw [hr]; exact c)).out rfl rfl hd⟩
    · refine if_false_of (decide_eq_false (by omega)) ?_
      refine ⟨_, rfl, ?_⟩
      have := k2 (by rw [hr]; omega)
      rw [hr] at this
      exact this
  refine ⟨_, rfl, _, rfl, _, _, rfl, .inl ⟨_, hB, rfl⟩, _, _, rfl, rfl, _, rfl, ?_⟩
  rw [List.length_map]
  by_cases c : p + j < t.length
  · refine if_true_of (decide_eq_true (by omega)) ?_
    obtain ⟨b, hb⟩ : ∃ b, t[p + j]? = some b := ⟨_, List.getElem?_eq_getElem c⟩
    have hb2 : (t.drop p)[j]? = some b := by rw [List.getElem?_drop]; exact hb
    refine ⟨_, rfl, _, rfl, _, rfl, a, _, _, _, rfl, rfl, hB, bytes_at (H := H') (a := a) hb, _, _, rfl, rfl, _, rfl, ?_⟩
    have stop : inR lo hi b = false → runN lo hi p t = j := fun hf => by
      refine take_stop ha (by rw [List.length_drop]; omega) fun b' hb' => ?_
      rw [hb2] at hb'
      cases hb'
      exact hf
    by_cases c1 : lo ≤ b
    · refine if_true_of (decide_eq_true (by omega)) ?_
      refine ⟨_, rfl, _, _, rfl, rfl, _, rfl, ?_⟩
      by_cases c2 : b ≤ hi
      · refine if_true_of (decide_eq_true (by omega)) ?_
        refine ⟨fun σ' H'' => ∃ m', m' < t.length - (p + j) ∧ ∃ j' : Nat, m' = t.length - (p + j') ∧ H'' = H' ∧ σ' = [some (.ref a), some (.int p), some (.int lo), some (.int hi), some (.int ((p + j' : Nat) : Int))] ∧ p + j' ≤ t.length ∧ ∀ i c, i < j' → (t.drop p)[i]? = some c → inR lo hi c = true, fun _ _ h => h, ?_⟩
        refine ⟨_, rfl, _, _, rfl, rfl, t.length - (p + (j + 1)), by omega, j + 1, rfl, rfl, ?_, by omega, fun i c' hi' hc' => ?_⟩
        · show [_, _, _, _, some (V.int (((p + j : Nat) : Int) + 1))] = _
          have e : ((p + j : Nat) : Int) + 1 = ((p + (j + 1) : Nat) : Int) := by omega
          rw [e]
        · by_cases z : i = j
          · subst z
            rw [hb2] at hc'
            cases hc'
            simp [inR, c1, c2]
          · exact ha i c' (by omega) hc'
      · refine if_false_of (decide_eq_false (by omega)) ?_
        exact fin (stop (by simp [inR, c2]))
    · refine if_false_of (decide_eq_false (by omega)) ?_
      exact ⟨_, rfl, if_false_of rfl (fin (stop (by simp [inR, c1])))⟩
  · refine if_false_of (decide_eq_false (by omega)) ?_
    refine if_false_of rfl (fin (take_stop ha (by rw [List.length_drop]; omega) fun b' hb' => ?_))
    rw [List.getElem?_drop, List.getElem?_eq_none (by omega)] at hb'
    cases hb'
theorem drop_at {α : Type} {t : List α} {p : Nat} {b : α} (h : t[p]? = some b) : t.drop p = b :: t.drop (p + 1) := by
  obtain ⟨hp, e⟩ := List.getElem?_eq_some_iff.mp h
  rw [List.drop_eq_getElem_cons hp, e]
theorem take_tw {f : Nat → Bool} (l : List Nat) : l.take (l.takeWhile f).length = l.takeWhile f := by
  induction l with
  | nil => rfl
  | cons c l ih =>
    rw [List.takeWhile_cons]
    cases f c with
    | true =>
      show (c :: l).take ((l.takeWhile f).length + 1) = c :: l.takeWhile f
      rw [List.take_succ_cons, ih]
    | false => rfl
theorem tw_le {f : Nat → Bool} (l : List Nat) : (l.takeWhile f).length ≤ l.length := by
  induction l with
  | nil => exact Nat.le_refl _
  | cons c l ih =>
    rw [List.takeWhile_cons]
    cases f c with
    | true => exact Nat.succ_le_succ ih
    | false => exact Nat.zero_le _
theorem tw_all {f : Nat → Bool} (l : List Nat) : ∀ c ∈ l.takeWhile f, f c = true := by
  induction l with
  | nil => intro c h; exact (List.not_mem_nil h).elim
  | cons d l ih =>
    intro c h
    rw [List.takeWhile_cons] at h
    cases e : f d with
    | true =>
      rw [e] at h
      rcases List.mem_cons.mp h with z | z
      · rw [z]
        exact e
      · exact ih c z
    | false =>
      rw [e] at h
      exact (List.not_mem_nil h).elim
/-- a slice that is a run -/
theorem cut_run {f : Nat → Bool} {t : List Nat} {p n : Nat} (hp : p ≤ t.length) (hn : ((t.drop p).takeWhile f).length = n) :
    cutV (t.map fun b => V.int ((b : Nat) : Int)) (some (p : Int)) (some ((p + n : Nat) : Int)) = ((t.drop p).takeWhile f).map fun b => V.int ((b : Nat) : Int) := by
  have hle : n ≤ t.length - p := by
    rw [← hn, ← List.length_drop]
    exact tw_le _
  unfold cutV
  rw [HT.sIx_nat, HT.sIx_nat, List.length_map, Nat.min_eq_left hp, Nat.min_eq_left (by omega), ← List.map_drop, ← List.map_take]
  have e : p + n - p = n := by omega
  rw [e, ← hn, take_tw]
theorem letters_all : ∀ k : Fin 26, ("abcdefghijklmnopqrstuvwxyz" : Str).cps.toList[k.val]? = some (97 + k.val) := by decide +kernel
theorem letters_at {c : Nat} (h : Vaidxa.isLetter c = true) : atI ("abcdefghijklmnopqrstuvwxyz" : Str).cps.toList ((c : Int) - 97) = some c := by
  have h2 : 97 ≤ c ∧ c ≤ 122 := by simpa [Vaidxa.isLetter] using h
  have e : (c : Int) - 97 = ((c - 97 : Nat) : Int) := by omega
  rw [e]
  refine atI_nat ?_
  have := letters_all ⟨c - 97, by omega⟩
  have e2 : 97 + (c - 97) = c := by omega
  rw [this]
  exact congrArg some e2
theorem parted_nil : ∀ w : List Nat, Vaidxa.parted [] (w.map fun c => [c]) = w := fun w => by
  rw [← joinL_parted]
  induction w with
  | nil => rfl
  | cons c w ih =>
    cases w with
    | nil => rfl
    | cons d w =>
      show [c] ++ ([] ++ TL.joinL [] ((d :: w).map fun c => [c])) = c :: d :: w
      rw [ih]
      rfl
theorem sum_ones : ∀ w : List Nat, (((w.map fun c => [c]).map sS).map (·.length)).sum = w.length
  | [] => rfl
  | c :: w => by
    show (sS [c]).length + (((w.map fun c => [c]).map sS).map (·.length)).sum = w.length + 1
    rw [sum_ones w, sS_length]
    show 1 + w.length = w.length + 1
    omega
theorem len_word_at {vs : List V} {H : Hp} {Q : VK} {E : XK} (h : sp_word_at K vs H Q E) : vs.length = 2 := by
  obtain ⟨_, _, _, _, rfl, _⟩ := h
  rfl
theorem pure_word_at (T : Txt K mg) (vs : List V) (H : Hp) (Q : VK) (E : XK) (h : sp_word_at K vs H Q E) : t_word_at K E { nx := fun _ H' => Q .non H', rt := Q } (start N_word_at vs) H := by
  obtain ⟨a, t, p, b, rfl, hB, hb, hL, k⟩ := h
  have hp : p < t.length := (List.getElem?_eq_some_iff.mp hb).1
  have ek : tokOne p (t.drop p) = if 7 < ((t.drop p).takeWhile Vaidxa.isLetter).length then .error ⟨1, p⟩ else .ok (⟨p, .word ((t.drop p).takeWhile Vaidxa.isLetter)⟩, ((t.drop p).takeWhile Vaidxa.isLetter).length) := by
    rw [drop_at hb]
    exact if_pos hL
  rw [ek] at k
  generalize hw : (t.drop p).takeWhile Vaidxa.isLetter = w at k
  have hn : runN 97 122 p t = w.length := congrArg List.length hw
  refine ⟨_, rfl, _, rfl, a, t, p, 97, 122, rfl, hB, Nat.le_of_lt hp, fun h7 => ?_, fun h7 => ?_⟩
  · rw [hn] at h7
    rw [if_pos h7] at k
    exact k
  · rw [hn] at h7 ⊢
    rw [if_neg (by omega)] at k
    refine ⟨⟨_, rfl⟩, _, rfl, _, rfl, _, rfl, _, rfl, _, rfl, a, _, rfl, hB, fun s ns => ⟨s, rfl, ⟨_, SqL.of upd_same⟩, fun D nD => ?_⟩⟩
    have cut : cutV (t.map fun b => V.int ((b : Nat) : Int)) (some (p : Int)) (some ((p + w.length : Nat) : Int)) = w.map fun b => V.int ((b : Nat) : Int) := by
      rw [cut_run (f := Vaidxa.isLetter) (Nat.le_of_lt hp) (congrArg List.length hw), hw]
    rw [cut] at nD ⊢
    refine lc_ys (K := K) (xs := w.map fun b => V.int ((b : Nat) : Int)) (w.map fun c => V.str (sS [c])) (by rw [List.length_map, List.length_map]) nD (SqL.of upd_same) (by rw [List.length_map]; omega) (fun j x y hx hy H' hs Qe hQ => ?_) (fun H' hd hs => ?_)
    · rw [List.getElem?_map] at hx hy
      obtain ⟨c, hc, rfl⟩ := Option.map_eq_some_iff.mp hx
      rw [hc] at hy
      cases hy
      have hl : Vaidxa.isLetter c = true := tw_all (t.drop p) c (by rw [hw]; exact List.mem_of_getElem? hc)
      exact ⟨_, rfl, _, _, rfl, rfl, _, _, c, rfl, rfl, (by decide +kernel), letters_at hl, hQ H' (Same.refl _)⟩
    · refine ⟨sS [], D, (w.map fun c => [c]).map sS, (by decide +kernel), rfl, .inl (SqL.of (hd.trans ?_)), ?_, ?_⟩
      · rw [List.map_map, List.map_map]
        rfl
      · rw [sum_ones]
        have : (sS []).length = 0 := rfl
        rw [this]
        omega
      · rw [join_sS, parted_nil]
        refine ⟨_, rfl, _, rfl, _, rfl, fun x dx nx nd ne => ⟨x, dx, _, _, _, _, _, rfl, upd_same, fun H2 h2 k2 => ⟨rfl, ?_⟩⟩⟩
        have s1 : Same H H' := (same_new (Same.refl H) ns).trans hs
        exact k x H2 ⟨dx, h2⟩ (s1.trans (Same.made nx nd k2))
theorem numberOf_snoc (l : List Nat) (b : Nat) : Vaidxa.numberOf (l ++ [b]) = 10 * Vaidxa.numberOf l + (b - 48) := by
  unfold Vaidxa.numberOf
  rw [List.foldl_append]
  rfl
theorem numberOf_lt : ∀ (l : List Nat), (∀ c ∈ l, c ≤ 57) → Vaidxa.numberOf l < 10 ^ l.length := fun l => by
  have key : ∀ n (l : List Nat), l.length = n → (∀ c ∈ l, c ≤ 57) → Vaidxa.numberOf l < 10 ^ l.length := fun n => by
    induction n with
    | zero =>
      intro l hl _
      have : l = [] := List.eq_nil_of_length_eq_zero hl
      subst this
      decide
    | succ n ih =>
      intro l hl ha
      have hne : l ≠ [] := by intro z; subst z; simp at hl
      have e := List.dropLast_concat_getLast hne
      have h1 := ih l.dropLast (by rw [List.length_dropLast, hl]; rfl) fun c hc => ha c (List.dropLast_subset l hc)
      have h2 := ha (l.getLast hne) (List.getLast_mem hne)
      rw [← e, numberOf_snoc, List.length_append]
      show _ < 10 ^ (l.dropLast.length + 1)
      rw [Nat.pow_succ]
      omega
  exact key l.length l rfl
theorem len_number_at {vs : List V} {H : Hp} {Q : VK} {E : XK} (h : sp_number_at K vs H Q E) : vs.length = 2 := by
  obtain ⟨_, _, _, _, rfl, _⟩ := h
  rfl
theorem pure_number_at (T : Txt K mg) (vs : List V) (H : Hp) (Q : VK) (E : XK) (h : sp_number_at K vs H Q E) : t_number_at K E { nx := fun _ H' => Q .non H', rt := Q } (start N_number_at vs) H := by
  obtain ⟨a, t, p, b, rfl, hB, hb, hD, k⟩ := h
  have hp : p < t.length := (List.getElem?_eq_some_iff.mp hb).1
  have hL : Vaidxa.isLetter b = false := by
    have h2 : 48 ≤ b ∧ b ≤ 57 := by simpa [Vaidxa.isDigit] using hD
    simp [Vaidxa.isLetter]
    omega
  have ek : tokOne p (t.drop p) = if 7 < ((t.drop p).takeWhile Vaidxa.isDigit).length ∨ (b = 48 ∧ 1 < ((t.drop p).takeWhile Vaidxa.isDigit).length) then .error ⟨1, p⟩ else .ok (⟨p, .num (Vaidxa.numberOf ((t.drop p).takeWhile Vaidxa.isDigit))⟩, ((t.drop p).takeWhile Vaidxa.isDigit).length) := by
    rw [drop_at hb]
    unfold tokOne
    dsimp only
    rw [if_neg (by rw [hL]; exact Bool.false_ne_true), if_pos hD]
  rw [ek] at k
  generalize hw : (t.drop p).takeWhile Vaidxa.isDigit = w at k
  have hn : runN 48 57 p t = w.length := congrArg List.length hw
  have hd57 : ∀ c ∈ w, c ≤ 57 := fun c hc => by
    have := tw_all (f := Vaidxa.isDigit) (t.drop p) c (by rw [hw]; exact hc)
    have h2 : 48 ≤ c ∧ c ≤ 57 := by simpa [Vaidxa.isDigit] using this
    exact h2.2
  have hd48 : ∀ c ∈ w, 48 ≤ c := fun c hc => by
    have := tw_all (f := Vaidxa.isDigit) (t.drop p) c (by rw [hw]; exact hc)
    have h2 : 48 ≤ c ∧ c ≤ 57 := by simpa [Vaidxa.isDigit] using this
    exact h2.1
  refine ⟨_, rfl, _, rfl, a, t, p, 48, 57, rfl, hB, Nat.le_of_lt hp, fun h7 => ?_, fun h7 => ?_⟩
  · rw [hn] at h7
    rw [if_pos (.inl h7)] at k
    exact k
  · rw [hn] at h7 ⊢
    refine ⟨_, rfl, _, rfl, a, _, _, _, rfl, rfl, hB, bytes_at (H := H) (a := a) hb, rfl, _, rfl, ?_⟩
    -- behind the zero's look
    have rest : ¬ (b = 48 ∧ 1 < w.length) → tSeq (tAsg (tC (.int 0)) (gName 3)) (tSeq (tFor (iList K (tSl (rSlL K) (tVar 0) (tPart (tVar 1)) (tPart (tVar 2)))) (gName 4) (tAsg (tOp rSub_ (tOp rAdd_ (tOp rMul_ (tVar 3) (tC (.int 10))) (tVar 4)) (tC (.int 48))) (gName 3)))
        (tRet (tMake (He.ga K "Token") (sp_Token_init K) [] E0 (tCons (tC (.str "number")) (tCons (tC (.str "")) (tCons (tVar 3) (tCons (tVar 1) (tCons (tVar 2) tNil)))))))) { nx := fun _ H' => Q .non H', rt := Q } [some (.ref a), some (.int p), some (.int ((p + w.length : Nat) : Int)), none, none] H := fun hz => by
      rw [if_neg (by omega)] at k
      refine ⟨_, rfl, _, rfl, _, rfl, _, rfl, _, rfl, a, _, rfl, hB, fun s ns => ⟨s, rfl, ⟨_, SqL.of upd_same⟩, ?_⟩⟩
      have cut : cutV (t.map fun b => V.int ((b : Nat) : Int)) (some (p : Int)) (some ((p + w.length : Nat) : Int)) = w.map fun b => V.int ((b : Nat) : Int) := by
        rw [cut_run (f := Vaidxa.isDigit) (Nat.le_of_lt hp) (congrArg List.length hw), hw]
      rw [cut]
      refine for_list (K := K) (a := s) (xs := w.map fun b => V.int ((b : Nat) : Int)) (fun i σ H' => H' = upd H s (.lst (w.map fun b => V.int ((b : Nat) : Int))) ∧ ∃ v : Option V, σ = [some (.ref a), some (.int p), some (.int ((p + w.length : Nat) : Int)), some (.int ((Vaidxa.numberOf (w.take i) : Nat) : Int)), v]) ⟨rfl, none, rfl⟩ (fun i σ H' _ ⟨e, _⟩ => by rw [e]; exact SqL.of upd_same) ?_ ?_
      · rintro i x σ H' hx ⟨rfl, v, rfl⟩
        rw [List.getElem?_map] at hx
        obtain ⟨c, hc, rfl⟩ := Option.map_eq_some_iff.mp hx
        have c1 := hd48 c (List.mem_of_getElem? hc)
        have c2 : Vaidxa.numberOf (w.take i) < 10 ^ (w.take i).length := numberOf_lt _ fun d hd => hd57 d (List.mem_of_mem_take hd)
        have c3 : (10 : Nat) ^ (w.take i).length ≤ 10 ^ 7 := Nat.pow_le_pow_right (by decide) (by rw [List.length_take]; omega)
        have c4 : Vaidxa.numberOf (w.take i) < 10000000 := Nat.lt_of_lt_of_le c2 (Nat.le_trans c3 (by decide))
        refine ⟨_, rfl, _, _, rfl, rfl, .inl ⟨?_, ?_⟩, _, rfl, _, _, rfl, rfl, _, _, rfl, rfl, rfl, some (.int c), ?_⟩
        · have : (-(2 ^ 64) : Int) < 0 := by decide
          omega
        · have : (10000000 : Int) < 2 ^ 64 := by decide
          omega
        · rw [take_more hc, numberOf_snoc]
          have e : ((Vaidxa.numberOf (w.take i) : Nat) : Int) * 10 + (c : Int) - 48 = ((10 * Vaidxa.numberOf (w.take i) + (c - 48) : Nat) : Int) := by omega
          show [_, _, _, some (V.int (((Vaidxa.numberOf (w.take i) : Nat) : Int) * 10 + (c : Int) - 48)), _] = _
          rw [e]
      · rintro σ H' ⟨rfl, v, rfl⟩
        rw [List.length_map, List.take_length]
        refine ⟨_, rfl, _, rfl, _, rfl, fun x dx nx nd ne => ⟨x, dx, _, _, _, _, _, rfl, upd_same, fun H2 h2 k2 => ⟨rfl, ?_⟩⟩⟩
        exact k x H2 ⟨dx, h2⟩ ((same_new (Same.refl H) ns).trans (Same.made nx nd k2))
    by_cases z : b = 48
    · subst z
      refine if_true_of (decide_eq_true rfl) ?_
      refine ⟨_, rfl, _, rfl, _, _, rfl, rfl, _, _, rfl, rfl, _, rfl, ?_⟩
      by_cases z1 : 1 < w.length
      · refine if_true_of (decide_eq_true (by omega)) ?_
        rw [if_pos (.inr ⟨rfl, z1⟩)] at k
        exact ⟨_, rfl, _, _, rfl, fun d hd => ErrS.out (K := K) k rfl rfl hd⟩
      · exact if_false_of (decide_eq_false (by omega)) (rest (fun q => z1 q.2))
    · refine if_false_of (decide_eq_false (fun q => z (by injection q with q; omega))) ?_
      exact if_false_of rfl (rest (fun q => z q.1))
theorem len_token_at {vs : List V} {H : Hp} {Q : VK} {E : XK} (h : sp_token_at K vs H Q E) : vs.length = 2 := by
  obtain ⟨_, _, _, _, rfl, _⟩ := h
  rfl
theorem signs_look (b : Nat) : (kv_SIGNS K).lookup (b : Int) = if Vaidxa.SIGNS.contains b then some (.str (sS [b])) else none := by
  have z : ∀ (c : Nat) (l : List Nat), (if (c :: l).contains b then some (V.str (sS [b])) else none) = if b = c then some (V.str (sS [c])) else if l.contains b then some (V.str (sS [b])) else none := fun c l => by
    by_cases e : b = c
    · subst e
      simp
    · rw [if_neg e]
      have e2 : (b == c) = false := by simpa using e
      rw [List.contains_cons, e2, Bool.false_or]
  have y : ∀ (c : Nat) (v : V) (l : List (Int × V)), ((((c : Nat) : Int), v) :: l).lookup (b : Int) = if b = c then some v else l.lookup (b : Int) := fun c v l => by
    by_cases e : b = c
    · subst e
      simp [List.lookup]
    · rw [if_neg e]
      have e2 : ((b : Int) == (c : Int)) = false := by
        rw [beq_eq_false_iff_ne]
        omega
      simp only [List.lookup, e2]
  have t : kv_SIGNS K = [(((40 : Nat) : Int), .str (sS [40])), (((41 : Nat) : Int), .str (sS [41])), (((44 : Nat) : Int), .str (sS [44])), (((59 : Nat) : Int), .str (sS [59])), (((61 : Nat) : Int), .str (sS [61]))] := by
    show tab_SIGNS = _
    decide +kernel
  rw [t, y, y, y, y, y]
  unfold Vaidxa.SIGNS
  rw [z, z, z, z, z]
  rfl
theorem pure_token_at (T : Txt K mg) (vs : List V) (H : Hp) (Q : VK) (E : XK) (h : sp_token_at K vs H Q E) : t_token_at K E { nx := fun _ H' => Q .non H', rt := Q } (start N_token_at vs) H := by
  obtain ⟨a, t, p, b, rfl, hB, hb, k⟩ := h
  have hp : p < t.length := (List.getElem?_eq_some_iff.mp hb).1
  refine ⟨_, rfl, _, rfl, a, _, _, _, rfl, rfl, hB, bytes_at (H := H) (a := a) hb, ?_⟩
  -- letters
  have step3 : Vaidxa.isLetter b = false → Vaidxa.isDigit b = false → tSeq (tIfS (tTest (tOp (rInW K) (tVar 2) (tC (.ref (He.ga K "SIGNS"))))) (tRet (tMake (He.ga K "Token") (sp_Token_init K) [] E0 (tCons (tC (.str "sign")) (tCons (tOp (rIxW K) (tC (.ref (He.ga K "SIGNS"))) (tVar 2)) (tCons (tC (.int 0)) (tCons (tVar 1) (tCons (tOp rAdd_ (tVar 1) (tC (.int 1))) tNil))))))) tNext)
      (tRaiseFt (He.ga K "Fault") E (tCons (tC (.int 1)) (tCons (tVar 1) tNil))) { nx := fun _ H' => Q .non H', rt := Q } [some (.ref a), some (.int p), some (.int b)] H := fun n1 n2 => by
    have ek : tokOne p (t.drop p) = if Vaidxa.SIGNS.contains b then .ok (⟨p, .sign b⟩, 1) else .error ⟨1, p⟩ := by
      rw [drop_at hb]
      unfold tokOne
      dsimp only
      rw [if_neg (by rw [n1]; exact Bool.false_ne_true), if_neg (by rw [n2]; exact Bool.false_ne_true)]
    rw [ek] at k
    refine ⟨_, rfl, _, _, _, rfl, rfl, w_SIGNS T, _, rfl, ?_⟩
    rw [signs_look]
    cases e : Vaidxa.SIGNS.contains b with
    | true =>
      rw [if_pos rfl]
      refine if_true_of rfl ?_
      rw [if_pos e] at k
      refine ⟨_, rfl, _, _, _, _, rfl, rfl, w_SIGNS T, (by rw [signs_look, if_pos e]), _, rfl, _, rfl, _, _, rfl, rfl, fun x dx nx nd ne => ⟨x, dx, _, _, _, _, _, rfl, upd_same, fun H2 h2 k2 => ⟨rfl, ?_⟩⟩⟩
      exact k x H2 ⟨dx, h2⟩ (Same.made nx nd k2)
    | false =>
      rw [if_neg Bool.false_ne_true]
      refine if_false_of rfl ?_
      rw [if_neg (by rw [e]; exact Bool.false_ne_true)] at k
      exact ⟨_, rfl, _, _, rfl, fun d hd => ErrS.out (K := K) k rfl rfl hd⟩
  have step2 : Vaidxa.isLetter b = false → tSeq (tIfS (tTest (tChain rLe_ rLe_ (tC (.int 48)) (tVar 2) (tC (.int 57)))) (tRet (tCall (sp_number_at K) [] E (tCons (tVar 0) (tCons (tVar 1) tNil)))) tNext) (tSeq (tIfS (tTest (tOp (rInW K) (tVar 2) (tC (.ref (He.ga K "SIGNS"))))) (tRet (tMake (He.ga K "Token") (sp_Token_init K) [] E0 (tCons (tC (.str "sign")) (tCons (tOp (rIxW K) (tC (.ref (He.ga K "SIGNS"))) (tVar 2)) (tCons (tC (.int 0)) (tCons (tVar 1) (tCons (tOp rAdd_ (tVar 1) (tC (.int 1))) tNil))))))) tNext)
      (tRaiseFt (He.ga K "Fault") E (tCons (tC (.int 1)) (tCons (tVar 1) tNil)))) { nx := fun _ H' => Q .non H', rt := Q } [some (.ref a), some (.int p), some (.int b)] H := fun n1 => by
    refine ⟨_, rfl, _, _, rfl, rfl, _, rfl, ?_⟩
    by_cases c1 : 48 ≤ b
    · refine if_true_of (decide_eq_true (by omega)) ?_
      refine ⟨_, _, rfl, rfl, _, rfl, ?_⟩
      by_cases c2 : b ≤ 57
      · refine if_true_of (decide_eq_true (by omega)) ?_
        exact ⟨_, rfl, _, rfl, a, t, p, b, rfl, hB, hb, by simp [Vaidxa.isDigit, c1, c2], k⟩
      · exact if_false_of (decide_eq_false (by omega)) (step3 n1 (by simp [Vaidxa.isDigit, c2]))
    · refine if_false_of (decide_eq_false (by omega)) ?_
      exact ⟨_, rfl, if_false_of rfl (step3 n1 (by simp [Vaidxa.isDigit, c1]))⟩
  refine ⟨_, rfl, _, _, rfl, rfl, _, rfl, ?_⟩
  by_cases c1 : 97 ≤ b
  · refine if_true_of (decide_eq_true (by omega)) ?_
    refine ⟨_, _, rfl, rfl, _, rfl, ?_⟩
    by_cases c2 : b ≤ 122
    · refine if_true_of (decide_eq_true (by omega)) ?_
      exact ⟨_, rfl, _, rfl, a, t, p, b, rfl, hB, hb, by simp [Vaidxa.isLetter, c1, c2], k⟩
    · exact if_false_of (decide_eq_false (by omega)) (step2 (by simp [Vaidxa.isLetter, c2]))
  · refine if_false_of (decide_eq_false (by omega)) ?_
    exact ⟨_, rfl, if_false_of rfl (step2 (by simp [Vaidxa.isLetter, c1]))⟩
end
end Ix
-- part IxTok
set_option maxHeartbeats 4000000
namespace Ix
open PySem PySem.Spec PyProof.Rows L2
section
variable {K : PySem.W.Frag} {mg : Str → Option Value}
/-! ### the specification's walk over a text, one token at a time -/
theorem tf_step (f p b : Nat) (r : List Nat) : Vaidxa.tokensFrom (f + 1) p (b :: r) = if Vaidxa.isBlank b = true then Vaidxa.tokensFrom f (p + 1) r else match tokOne p (b :: r) with
    | .error e => .error e
    | .ok x => (Vaidxa.tokensFrom f (p + x.2) ((b :: r).drop x.2)).map (x.1 :: ·) := by
  show (if Vaidxa.isBlank b = true then Vaidxa.tokensFrom f (p + 1) r
      else if Vaidxa.isLetter b = true then (if Vaidxa.LONG < ((b :: r).takeWhile Vaidxa.isLetter).length then .error ⟨1, p⟩ else (Vaidxa.tokensFrom f (p + ((b :: r).takeWhile Vaidxa.isLetter).length) ((b :: r).drop ((b :: r).takeWhile Vaidxa.isLetter).length)).map fun l => ⟨p, .word ((b :: r).takeWhile Vaidxa.isLetter)⟩ :: l)
      else if Vaidxa.isDigit b = true then (if Vaidxa.DIGITS < ((b :: r).takeWhile Vaidxa.isDigit).length ∨ (b = 48 ∧ 1 < ((b :: r).takeWhile Vaidxa.isDigit).length) then .error ⟨1, p⟩ else (Vaidxa.tokensFrom f (p + ((b :: r).takeWhile Vaidxa.isDigit).length) ((b :: r).drop ((b :: r).takeWhile Vaidxa.isDigit).length)).map fun l => ⟨p, .num (Vaidxa.numberOf ((b :: r).takeWhile Vaidxa.isDigit))⟩ :: l)
      else if Vaidxa.SIGNS.contains b = true then (Vaidxa.tokensFrom f (p + 1) r).map fun l => ⟨p, .sign b⟩ :: l
      else .error ⟨1, p⟩) = _
  by_cases h0 : Vaidxa.isBlank b = true
  · rw [if_pos h0, if_pos h0]
  · rw [if_neg h0, if_neg h0]
    unfold tokOne
    dsimp only
    by_cases h1 : Vaidxa.isLetter b = true
    · rw [if_pos h1, if_pos h1]
      by_cases h2 : 7 < ((b :: r).takeWhile Vaidxa.isLetter).length
      · rw [if_pos h2, if_pos (show Vaidxa.LONG < _ from h2)]
      · rw [if_neg h2, if_neg (show ¬ Vaidxa.LONG < _ from h2)]
    · rw [if_neg h1, if_neg h1]
      by_cases h3 : Vaidxa.isDigit b = true
      · rw [if_pos h3, if_pos h3]
        by_cases h4 : 7 < ((b :: r).takeWhile Vaidxa.isDigit).length ∨ (b = 48 ∧ 1 < ((b :: r).takeWhile Vaidxa.isDigit).length)
        · rw [if_pos h4, if_pos (show Vaidxa.DIGITS < _ ∨ _ from h4)]
        · rw [if_neg h4, if_neg (show ¬ (Vaidxa.DIGITS < _ ∨ _) from h4)]
      · rw [if_neg h3, if_neg h3]
        by_cases h5 : Vaidxa.SIGNS.contains b = true
        · rw [if_pos h5, if_pos h5]
          rfl
        · rw [if_neg h5, if_neg h5]
theorem tok_pos {p b : Nat} {r : List Nat} {x : Vaidxa.Token × Nat} (h : tokOne p (b :: r) = .ok x) : 1 ≤ x.2 ∧ x.2 ≤ (b :: r).length ∧ tokOk x.1.tok = true := by
  unfold tokOne at h
  dsimp only at h
  by_cases h1 : Vaidxa.isLetter b = true
  · rw [if_pos h1] at h
    by_cases h2 : 7 < ((b :: r).takeWhile Vaidxa.isLetter).length
    · rw [if_pos h2] at h
      cases h
    · rw [if_neg h2] at h
      injection h with h
      subst h
      have e : (b :: r).takeWhile Vaidxa.isLetter = b :: r.takeWhile Vaidxa.isLetter := by rw [List.takeWhile_cons, if_pos h1]
      refine ⟨by show 1 ≤ ((b :: r).takeWhile Vaidxa.isLetter).length; rw [e]; exact Nat.succ_le_succ (Nat.zero_le _), tw_le _, ?_⟩
      show (!((b :: r).takeWhile Vaidxa.isLetter).isEmpty && ((b :: r).takeWhile Vaidxa.isLetter).all Vaidxa.isLetter) = true
      rw [Bool.and_eq_true]
      exact ⟨by rw [e]; rfl, List.all_eq_true.mpr (tw_all _)⟩
  · rw [if_neg h1] at h
    by_cases h3 : Vaidxa.isDigit b = true
    · rw [if_pos h3] at h
      by_cases h4 : 7 < ((b :: r).takeWhile Vaidxa.isDigit).length ∨ (b = 48 ∧ 1 < ((b :: r).takeWhile Vaidxa.isDigit).length)
      · rw [if_pos h4] at h
        cases h
      · rw [if_neg h4] at h
        injection h with h
        subst h
        have e : (b :: r).takeWhile Vaidxa.isDigit = b :: r.takeWhile Vaidxa.isDigit := by rw [List.takeWhile_cons, if_pos h3]
        exact ⟨by show 1 ≤ ((b :: r).takeWhile Vaidxa.isDigit).length; rw [e]; exact Nat.succ_le_succ (Nat.zero_le _), tw_le _, rfl⟩
    · rw [if_neg h3] at h
      by_cases h5 : Vaidxa.SIGNS.contains b = true
      · rw [if_pos h5] at h
        injection h with h
        subst h
        exact ⟨Nat.le_refl _, Nat.succ_le_succ (Nat.zero_le _), h5⟩
      · rw [if_neg h5] at h
        cases h
theorem tf_good : ∀ (f p : Nat) (t : List Nat) (l : VToks), Vaidxa.tokensFrom f p t = .ok l → GoodL l
  | 0, p, t, l, h => by cases h
  | f + 1, p, [], l, h => by
    have e : Vaidxa.tokensFrom (f + 1) p [] = .ok [⟨p, .ending⟩] := rfl
    rw [e] at h
    injection h with h
    subst h
    exact .last p
  | f + 1, p, b :: r, l, h => by
    rw [tf_step] at h
    by_cases h0 : Vaidxa.isBlank b = true
    · rw [if_pos h0] at h
      exact tf_good f (p + 1) r l h
    · rw [if_neg h0] at h
      cases e : tokOne p (b :: r) with
      | error z =>
        rw [e] at h
        cases h
      | ok x =>
        rw [e] at h
        dsimp only at h
        cases e2 : Vaidxa.tokensFrom f (p + x.2) ((b :: r).drop x.2) with
        | error z =>
          rw [e2] at h
          cases h
        | ok m =>
          rw [e2] at h
          have h3 : (Except.ok (x.1 :: m) : Vaidxa.Got VToks) = .ok l := h
          injection h3 with h3
          subst h3
          exact .cons (tok_pos e).2.2 (tf_good f _ _ m e2)
theorem blanks_eq (b : Nat) : inV (.int (b : Int)) (tab_BLANKS.map (He.Dv.v K)) = Vaidxa.isBlank b := by
  show ((32 : Int) == (b : Int) || ((10 : Int) == (b : Int) || false)) = (b == 32 || b == 10)
  have e1 : ((32 : Int) == (b : Int)) = (b == 32) := by
    by_cases h : b = 32
    · subst h
      rfl
    · rw [beq_eq_false_iff_ne.mpr h, beq_eq_false_iff_ne]
      omega
  have e2 : ((10 : Int) == (b : Int)) = (b == 10) := by
    by_cases h : b = 10
    · subst h
      rfl
    · rw [beq_eq_false_iff_ne.mpr h, beq_eq_false_iff_ne]
      omega
  rw [e1, e2, Bool.or_false]
theorem tokAt_upd {H : Hp} {a tl : Addr} {t : Vaidxa.Token} {xs ys : List V} (h : TokAt K H a t) (hl : H tl = some (.lst xs)) : TokAt K (upd H tl (.lst ys)) a t := by
  obtain ⟨dx, e, hx⟩ := h
  refine ⟨dx, e, ?_⟩
  rw [upd_ne (ne_of hx hl (by intro z; cases z))]
  exact hx
theorem tokAt_same {H H' : Hp} {a : Addr} {t : Vaidxa.Token} (h : TokAt K H a t) (s : Same H H') : TokAt K H' a t := by
  obtain ⟨dx, e, hx⟩ := h
  exact ⟨dx, e, s _ _ hx⟩
theorem len_tokens_of {vs : List V} {H : Hp} {Q : VK} {E : XK} (h : sp_tokens_of K vs H Q E) : vs.length = 1 := by
  obtain ⟨_, _, rfl, _⟩ := h
  rfl
/-- the tokens so far, as they lie -/
structure AccAt (K : PySem.W.Frag) (H : Hp) (tl : Addr) (as : List Addr) (acc : VToks) : Prop where
  lst : H tl = some (.lst (as.map V.ref))
  len : as.length = acc.length
  toks : ∀ (i : Nat) (t : Vaidxa.Token), acc[i]? = some t → ∃ a, as[i]? = some a ∧ TokAt K H a t
theorem AccAt.same {H H' : Hp} {tl : Addr} {as : List Addr} {acc : VToks} (A : AccAt K H tl as acc) (s : Same H H') : AccAt K H' tl as acc :=
  ⟨s _ _ A.lst, A.len, fun i t h => by
    obtain ⟨a, ha, ht⟩ := A.toks i t h
    exact ⟨a, ha, tokAt_same ht s⟩⟩
theorem AccAt.push {H : Hp} {tl x : Addr} {as : List Addr} {acc : VToks} {t : Vaidxa.Token} (A : AccAt K H tl as acc) (ht : TokAt K H x t) : AccAt K (upd H tl (.lst (as.map V.ref ++ [.ref x]))) tl (as ++ [x]) (acc ++ [t]) := by
  refine ⟨by rw [upd_same, List.map_append]; rfl, by rw [List.length_append, List.length_append, A.len]; rfl, fun i t' h => ?_⟩
  by_cases hi : i < acc.length
  · rw [List.getElem?_append_left hi] at h
    obtain ⟨a, ha, ht'⟩ := A.toks i t' h
    exact ⟨a, by rw [List.getElem?_append_left (by rw [A.len]; exact hi)]; exact ha, tokAt_upd ht' A.lst⟩
  · rw [List.getElem?_append_right (by omega)] at h
    have h0 : i - acc.length = 0 := by
      cases e : i - acc.length with
      | zero => rfl
      | succ k =>
        rw [e] at h
        simp at h
    rw [h0] at h
    cases h
    refine ⟨x, ?_, tokAt_upd ht A.lst⟩
    rw [List.getElem?_append_right (by rw [A.len]; omega), A.len, h0]
    rfl
theorem map_map_got {α β γ : Type} (r : Vaidxa.Got α) (f : α → β) (g : β → γ) : (r.map f).map g = r.map fun x => g (f x) := by
  cases r <;> rfl
theorem pure_tokens_of (T : Txt K mg) (vs : List V) (H : Hp) (Q : VK) (E : XK) (h : sp_tokens_of K vs H Q E) : t_tokens_of K E { nx := fun _ H' => Q .non H', rt := Q } (start N_tokens_of vs) H := by
  obtain ⟨a, t, rfl, hB, hlen, k⟩ := h
  refine ⟨(by show 0 ≤ sizeLine; decide), fun tl ntl => ?_⟩
  refine ⟨fun m σ H' => ∃ (p f : Nat) (acc : VToks) (as : List Addr) (v : Option V), m = t.length - p ∧ σ = [some (.ref a), some (.ref tl), some (.int (p : Nat)), v] ∧ p ≤ t.length ∧ acc.length ≤ p ∧ t.length - p < f ∧
      Vaidxa.tokens t = (Vaidxa.tokensFrom f p (t.drop p)).map (acc ++ ·) ∧ AccAt K H' tl as acc ∧ Same H H',
    ⟨_, 0, t.length + 1, [], [], none, rfl, rfl, Nat.zero_le _, Nat.zero_le _, by omega, ?_, ⟨upd_same, rfl, fun i t h => by simp at h⟩, same_new (Same.refl H) ntl⟩, ?_⟩
  · show Vaidxa.tokensFrom (t.length + 1) 0 t = (Vaidxa.tokensFrom (t.length + 1) 0 (t.drop 0)).map fun x => x
    rw [List.drop_zero]
    cases Vaidxa.tokensFrom (t.length + 1) 0 t <;> rfl
  rintro m σ H' ⟨p, f, acc, as, v, rfl, rfl, hp, hacc, hf, htk, A, s1⟩
  have hB' : BytesAt K H' a t := s1.seq hB
  refine ⟨_, rfl, _, rfl, _, _, rfl, .inl ⟨_, hB', rfl⟩, _, _, rfl, rfl, _, rfl, ?_⟩
  rw [List.length_map]
  by_cases c : p < t.length
  · refine if_true_of (decide_eq_true (by omega)) ?_
    obtain ⟨b, hb⟩ : ∃ b, t[p]? = some b := ⟨_, List.getElem?_eq_getElem c⟩
    refine ⟨fun σ' H'' => ∃ m', m' < t.length - p ∧ ∃ (p' f : Nat) (acc : VToks) (as : List Addr) (v : Option V), m' = t.length - p' ∧ σ' = [some (.ref a), some (.ref tl), some (.int (p' : Nat)), v] ∧ p' ≤ t.length ∧ acc.length ≤ p' ∧ t.length - p' < f ∧
      Vaidxa.tokens t = (Vaidxa.tokensFrom f p' (t.drop p')).map (acc ++ ·) ∧ AccAt K H'' tl as acc ∧ Same H H'', fun _ _ h => h, ?_⟩
    cases f with
    | zero => omega
    | succ f =>
      rw [drop_at hb, tf_step] at htk
      refine ⟨_, rfl, _, rfl, a, _, _, _, rfl, rfl, hB', bytes_at (H := H') (a := a) hb, He.ga K "BLANKS", _, rfl, .inr (w_BLANKS T H'), rfl, rfl, _, rfl, ?_⟩
      show if (if false = true then _ else inV (.int (b : Int)) (tab_BLANKS.map (He.Dv.v K))) = true then _ else _
      rw [if_neg Bool.false_ne_true, blanks_eq]
      by_cases hbl : Vaidxa.isBlank b = true
      · rw [if_pos hbl] at htk ⊢
        refine ⟨_, rfl, _, _, rfl, rfl, t.length - (p + 1), by omega, p + 1, f, acc, as, v, rfl, ?_, by omega, by omega, by omega, htk, A, s1⟩
        show [_, _, some (V.int ((p : Int) + 1)), _] = _
        rfl
      · rw [if_neg hbl] at htk ⊢
        cases e : tokOne p (b :: t.drop (p + 1)) with
        | error z =>
          rw [e] at htk
          have k2 : ErrS K H E z := by
            rw [htk] at k
            exact k
          refine ⟨_, rfl, _, rfl, a, t, p, b, rfl, hB', hb, ?_⟩
          rw [drop_at hb, e]
          exact k2.mono s1
        | ok x =>
          rw [e] at htk
          dsimp only at htk
          obtain ⟨x1, x2, x3⟩ := tok_pos e
          have x2' : x.2 ≤ t.length - p := by
            have : (b :: t.drop (p + 1)).length = t.length - p := by rw [← drop_at hb, List.length_drop]
            omega
          refine ⟨_, rfl, _, rfl, a, t, p, b, rfl, hB', hb, ?_⟩
          rw [drop_at hb, e]
          intro y H2 hy s2
          have A2 := A.same s2
          obtain ⟨dx, hx⟩ := hy
          have hta : TokAt K H2 y x.1 := ⟨dx, _, hx⟩
          refine ⟨_, rfl, .inl ⟨rfl, _, SqL.of A2.lst⟩, _, rfl, tl, _, _, rfl, rfl, A2.lst, ?_, ?_⟩
          · rw [List.length_map, A2.len]
            exact size_ok (by omega)
          have hx2 : upd H2 tl (.lst (as.map V.ref ++ [.ref y])) y = _ := (upd_ne (ne_of hx A2.lst (by intro z; cases z))).trans hx
          refine ⟨_, rfl, y, _, dx, _, _, rfl, hx2, cl_Token T, n_Token_end T, l_Token_end, t.length - (p + x.2), by omega, p + x.2, f, acc ++ [x.1], as ++ [y], some (.ref y), rfl, rfl, by omega, by rw [List.length_append]; show acc.length + 1 ≤ _; omega, by omega, ?_, A2.push hta, same_new (s1.trans s2) ntl⟩
          rw [htk, map_map_got]
          have ed : (b :: t.drop (p + 1)).drop x.2 = t.drop (p + x.2) := by rw [← drop_at hb, List.drop_drop]
          rw [ed]
          congr 1
          funext l
          show acc ++ (x.1 :: l) = acc ++ [x.1] ++ l
          rw [List.append_assoc]
          rfl
  · refine if_false_of (decide_eq_false (by omega)) ?_
    have ep : p = t.length := by omega
    subst ep
    cases f with
    | zero => omega
    | succ f =>
      have e0 : Vaidxa.tokensFrom (f + 1) t.length (t.drop t.length) = .ok [⟨t.length, .ending⟩] := by
        rw [List.drop_length]
        rfl
      rw [e0] at htk
      have htk2 : Vaidxa.tokens t = .ok (acc ++ [⟨t.length, .ending⟩]) := htk
      rw [htk2] at k
      refine ⟨_, rfl, .inl ⟨rfl, _, SqL.of A.lst⟩, _, rfl, _, _, rfl, .inl ⟨_, hB', rfl⟩, _, rfl, _, _, rfl, .inl ⟨_, hB', rfl⟩, fun y dx ny nd ne => ⟨y, dx, _, _, _, _, _, rfl, upd_same, fun H2 h2 k2 => ⟨rfl, ?_⟩⟩⟩
      rw [List.length_map] at h2
      have s2 : Same H' H2 := Same.made ny nd k2
      have A2 := A.same s2
      refine ⟨tl, _, _, rfl, rfl, A2.lst, ?_, _, rfl, ?_⟩
      · rw [List.length_map, A2.len]
        exact size_ok (by omega)
      have hta : TokAt K H2 y ⟨t.length, .ending⟩ := ⟨dx, t.length, h2⟩
      have A3 := A2.push hta
      exact k tl (as ++ [y]) _ A3.lst A3.toks (tf_good _ _ _ _ htk2) (same_new (s1.trans s2) ntl)
end
end Ix
-- part IxG
set_option maxHeartbeats 4000000
namespace Ix
open PySem PySem.Spec PyProof.Rows L2
/-! ### what the grammar reads, as it lies -/
def NamesAt (K : PySem.W.Frag) (H : Hp) (a : Addr) (ns : List (List Nat)) : Prop := SqL K H a (ns.map fun w => V.str (sS w))
def IntsAt (K : PySem.W.Frag) (H : Hp) (a : Addr) (ns : List Nat) : Prop := H a = some (.lst (ns.map fun n => V.int ((n : Nat) : Int)))
def FilterAt (K : PySem.W.Frag) (H : Hp) (a : Addr) (f : VaidxBase.Filter) : Prop := ∃ dx, H a = some (.ins (He.ga K "Filter") dx (F_Filter (.int (f.col : Nat)) (.int (f.lo : Nat)) (.int (f.hi : Nat))))
/-- objects one by one -/
def Each {α : Type} (P : Addr → α → Prop) (as : List Addr) (xs : List α) : Prop := as.length = xs.length ∧ ∀ (i : Nat) (x : α), xs[i]? = some x → ∃ a, as[i]? = some a ∧ P a x
def FiltersAt (K : PySem.W.Frag) (H : Hp) (a : Addr) (fs : List VaidxBase.Filter) : Prop := ∃ as : List Addr, H a = some (.lst (as.map V.ref)) ∧ Each (FilterAt K H) as fs
theorem Each.nil {α : Type} {P : Addr → α → Prop} : Each P [] [] := ⟨rfl, fun i x h => by simp at h⟩
theorem Each.mono {α : Type} {P P' : Addr → α → Prop} {as : List Addr} {xs : List α} (e : Each P as xs) (h : ∀ a x, P a x → P' a x) : Each P' as xs :=
  ⟨e.1, fun i x hx => by
    obtain ⟨a, ha, p⟩ := e.2 i x hx
    exact ⟨a, ha, h a x p⟩⟩
theorem Each.push {α : Type} {P : Addr → α → Prop} {as : List Addr} {xs : List α} {a : Addr} {x : α} (e : Each P as xs) (h : P a x) : Each P (as ++ [a]) (xs ++ [x]) := by
  refine ⟨by rw [List.length_append, List.length_append, e.1]; rfl, fun i y hy => ?_⟩
  by_cases hi : i < xs.length
  · rw [List.getElem?_append_left hi] at hy
    obtain ⟨b, hb, p⟩ := e.2 i y hy
    exact ⟨b, by rw [List.getElem?_append_left (by rw [e.1]; exact hi)]; exact hb, p⟩
  · rw [List.getElem?_append_right (by omega)] at hy
    have h0 : i - xs.length = 0 := by
      cases z : i - xs.length with
      | zero => rfl
      | succ k =>
        rw [z] at hy
        simp at hy
    rw [h0] at hy
    cases hy
    refine ⟨a, ?_, h⟩
    rw [List.getElem?_append_right (by rw [e.1]; omega), e.1, h0]
    rfl
/-! ### what is new -/
/-- what H' has and H has not -/
def diff (H H' : Hp) : Hp := fun b => match H b with
  | none => H' b
  | some _ => none
/-- what H has H1 has -/
def Dom (H H1 : Hp) : Prop := ∀ b, H1 b = none → H b = none
theorem diff_new {H H' : Hp} {b : Addr} {o : HO} (n : H b = none) (h : H' b = some o) : diff H H' b = some o := by
  unfold diff
  rw [n]
  exact h
theorem diff_get {H H' : Hp} {b : Addr} {o : HO} (h : diff H H' b = some o) : H b = none ∧ H' b = some o := by
  unfold diff at h
  cases e : H b with
  | none =>
    rw [e] at h
    exact ⟨rfl, h⟩
  | some u =>
    rw [e] at h
    cases h
theorem same_diff {H H' : Hp} : Same (diff H H') H' := fun b o h => (diff_get h).2
theorem diff_dom {H H1 H2 : Hp} (d : Dom H H1) : Same (diff H1 H2) (diff H H2) := fun b o h => diff_new (d b (diff_get h).1) (diff_get h).2
theorem diff_on {H1 H2 H3 : Hp} (k : ∀ b o, H1 b = none → H2 b = some o → H3 b = some o) : Same (diff H1 H2) (diff H1 H3) := fun b o h => diff_new (diff_get h).1 (k b o (diff_get h).1 (diff_get h).2)
theorem Dom.refl (H : Hp) : Dom H H := fun _ h => h
theorem Dom.trans {H H1 H2 : Hp} (a : Dom H H1) (b : Dom H1 H2) : Dom H H2 := fun c h => a c (b c h)
theorem Dom.upd {H H1 : Hp} {p : Addr} {o : HO} (a : Dom H H1) : Dom H (upd H1 p o) := fun c h => by
  by_cases z : c = p
  · rw [z, upd_same] at h
    cases h
  · rw [upd_ne z] at h
    exact a c h
theorem dom_same {H H1 : Hp} (s : Same H H1) : Dom H H1 := fun b h => by
  cases e : H b with
  | none => rfl
  | some o =>
    rw [s b o e] at h
    cases h
theorem filterAt_same {K : PySem.W.Frag} {H H' : Hp} {a : Addr} {f : VaidxBase.Filter} (h : FilterAt K H a f) (s : Same H H') : FilterAt K H' a f := by
  obtain ⟨dx, e⟩ := h
  exact ⟨dx, s _ _ e⟩
theorem filtersAt_same {K : PySem.W.Frag} {H H' : Hp} {a : Addr} {fs : List VaidxBase.Filter} (h : FiltersAt K H a fs) (s : Same H H') : FiltersAt K H' a fs := by
  obtain ⟨as, e, ea⟩ := h
  exact ⟨as, s _ _ e, ea.mono fun _ _ z => filterAt_same z s⟩
theorem intsAt_same {K : PySem.W.Frag} {H H' : Hp} {a : Addr} {ns : List Nat} (h : IntsAt K H a ns) (s : Same H H') : IntsAt K H' a ns := s _ _ h
section
variable {K : PySem.W.Frag} {mg : Str → Option Value}
theorem dom_keep {H H1 : Hp} {R : RdI} {l : VToks} (k : Keep R.r H H1) (A : R.At K H1 l) : Dom H H1 := fun b h => by
  cases e : H b with
  | none => rfl
  | some o =>
    obtain ⟨m, hm, _⟩ := A.pos
    by_cases z : b = R.r
    · rw [z, hm] at h
      cases h
    · rw [k b o z e] at h
      cases h
/-- what came behind H1 stands, while the reader goes on -/
theorem diff_keep {H1 H2 H3 : Hp} {R : RdI} {l : VToks} (A : R.At K H1 l) (k : Keep R.r H2 H3) : Same (diff H1 H2) (diff H1 H3) := diff_on fun b o n h => by
  obtain ⟨m, hm, _⟩ := A.pos
  exact k b o (fun z => by rw [z, hm] at n; cases n) h
/-! ### steps of what is read -/
theorem Ret.mono {α : Type} {R : RdI} {H H1 : Hp} {E : XK} {res : Vaidxa.Got (α × VToks)} {k : α → Hp → Prop} (h : Ret K R H E res k) (kp : Keep R.r H H1) : Ret K R H1 E res k := by
  cases res with
  | error f => exact Err.mono h kp
  | ok x => exact fun H' A kp' => h H' A (kp.trans kp')
theorem Ret.step {α β : Type} {R : RdI} {H : Hp} {E : XK} {r : Vaidxa.Got α} {f : α → Vaidxa.Got (β × VToks)} {k : β → Hp → Prop} (h : Ret K R H E (r.bind f) k) : (∀ z, r = .error z → Err K R.r H E z) ∧ (∀ x, r = .ok x → Ret K R H E (f x) k) := by
  refine ⟨fun z e => ?_, fun x e => ?_⟩
  · rw [e] at h
    exact h
  · rw [e] at h
    exact h
theorem Ret.stepM {α β : Type} {R : RdI} {H : Hp} {E : XK} {r : Vaidxa.Got α} {g : α → β × VToks} {k : β → Hp → Prop} (h : Ret K R H E (r.map g) k) : (∀ z, r = .error z → Err K R.r H E z) ∧ (∀ x, r = .ok x → ∀ H', R.At K H' (g x).2 → Keep R.r H H' → k (g x).1 H') := by
  refine ⟨fun z e => ?_, fun x e => ?_⟩
  · rw [e] at h
    exact h
  · rw [e] at h
    exact h
theorem Ret.intro {α : Type} {R : RdI} {H : Hp} {E : XK} {res : Vaidxa.Got (α × VToks)} {k : α → Hp → Prop} (he : ∀ z, res = .error z → Err K R.r H E z) (hq : ∀ x, res = .ok x → ∀ H1, R.At K H1 x.2 → Keep R.r H H1 → k x.1 H1) : Ret K R H E res k := by
  cases e : res with
  | error z => exact he z e
  | ok x => exact fun H1 A kp => hq x e H1 A kp
/-! ### words and signs -/
theorem good_spell {t : Vaidxa.Token} {l : VToks} (g : GoodL (t :: l)) : tokOk t.tok = true ∨ t.tok = .ending := by
  cases g with
  | last p => exact .inr rfl
  | cons h _ => exact .inl h
theorem stands_word {l : VToks} (g : GoodL l) {w : List Nat} (hw : (!w.isEmpty && w.all Vaidxa.isLetter) = true) : standsB l (sS w) = ((l.head?.map fun x => x.tok) == some (.word w)) := by
  cases l with
  | nil => exact absurd rfl g.ne
  | cons t l =>
    obtain ⟨p, tk⟩ := t
    show decide (sS (spellL tk) = sS w) = (some tk == some (.word w))
    rw [Bool.and_eq_true] at hw
    have hne : w ≠ [] := by
      intro z
      rw [z] at hw
      exact absurd hw.1 (by decide)
    cases tk with
    | word v =>
      show decide (sS v = sS w) = _
      by_cases e : v = w
      · subst e
        rw [decide_eq_true rfl]
        exact (beq_self_eq_true _).symm
      · rw [decide_eq_false (fun z => e (sS_inj z))]
        refine (beq_eq_false_iff_ne.mpr fun z => e ?_).symm
        injection z with z
        injection z
    | num n =>
      show decide (sS [] = sS w) = _
      rw [decide_eq_false (fun z => hne (sS_inj z).symm)]
      exact (beq_eq_false_iff_ne.mpr fun z => by injection z with z; injection z).symm
    | ending =>
      show decide (sS [] = sS w) = _
      rw [decide_eq_false (fun z => hne (sS_inj z).symm)]
      exact (beq_eq_false_iff_ne.mpr fun z => by injection z with z; injection z).symm
    | sign b =>
      have hb : ¬ [b] = w := fun z => by
        subst z
        rcases good_spell g with h | h
        · have h1 : Vaidxa.SIGNS.contains b = true := h
          have h2 : Vaidxa.isLetter b = true := List.all_eq_true.mp hw.2 b (List.mem_singleton.mpr rfl)
          have h3 : b = 40 ∨ b = 41 ∨ b = 44 ∨ b = 59 ∨ b = 61 := by simpa [Vaidxa.SIGNS] using h1
          have h4 : 97 ≤ b ∧ b ≤ 122 := by simpa [Vaidxa.isLetter] using h2
          omega
        · cases h
      show decide (sS [b] = sS w) = _
      rw [decide_eq_false (fun z => hb (sS_inj z))]
      exact (beq_eq_false_iff_ne.mpr fun z => by injection z with z; injection z).symm
theorem stands_sign {l : VToks} (g : GoodL l) {b : Nat} (hb : Vaidxa.isLetter b = false) : standsB l (sS [b]) = Vaidxa.signIs b l := by
  cases l with
  | nil => exact absurd rfl g.ne
  | cons t l =>
    obtain ⟨p, tk⟩ := t
    show decide (sS (spellL tk) = sS [b]) = (some tk == some (.sign b))
    cases tk with
    | sign c =>
      show decide (sS [c] = sS [b]) = _
      by_cases e : c = b
      · subst e
        rw [decide_eq_true rfl]
        exact (beq_self_eq_true _).symm
      · rw [decide_eq_false (fun z => e (by have := sS_inj z; injection this))]
        refine (beq_eq_false_iff_ne.mpr fun z => e ?_).symm
        injection z with z
        injection z
    | num n =>
      show decide (sS [] = sS [b]) = _
      rw [decide_eq_false (fun z => by have := sS_inj z; cases this)]
      exact (beq_eq_false_iff_ne.mpr fun z => by injection z with z; injection z).symm
    | ending =>
      show decide (sS [] = sS [b]) = _
      rw [decide_eq_false (fun z => by have := sS_inj z; cases this)]
      exact (beq_eq_false_iff_ne.mpr fun z => by injection z with z; injection z).symm
    | word v =>
      have hv : ¬ v = [b] := fun z => by
        subst z
        rcases good_spell g with h | h
        · have h1 : (!([b] : List Nat).isEmpty && ([b] : List Nat).all Vaidxa.isLetter) = true := h
          have h2 : Vaidxa.isLetter b = true := by simpa using h1
          rw [hb] at h2
          cases h2
        · cases h
      show decide (sS v = sS [b]) = _
      rw [decide_eq_false (fun z => hv (sS_inj z))]
      exact (beq_eq_false_iff_ne.mpr fun z => by injection z with z; injection z).symm
/-- a written word -/
structure LitW (s : String) : Prop where
  eq : Str.ofString s = sS (Vaidxa.word s)
  ok : (!(Vaidxa.word s).isEmpty && (Vaidxa.word s).all Vaidxa.isLetter) = true
structure LitS (s : String) (b : Nat) : Prop where
  eq : Str.ofString s = sS [b]
  ok : Vaidxa.isLetter b = false
theorem LitW.ne {s : String} (L : LitW s) : Str.ofString s ≠ sS [] := fun z => by
  have h := L.ok
  rw [L.eq] at z
  rw [sS_inj z] at h
  cases h
theorem LitS.ne {s : String} {b : Nat} (L : LitS s b) : Str.ofString s ≠ sS [] := fun z => by
  rw [L.eq] at z
  cases sS_inj z
theorem LitW.stands {s : String} (L : LitW s) {l : VToks} (g : GoodL l) : standsB l (Str.ofString s) = Vaidxa.wordIs s l := by
  rw [L.eq]
  exact stands_word g L.ok
theorem LitS.stands {s : String} {b : Nat} (L : LitS s b) {l : VToks} (g : GoodL l) : standsB l (Str.ofString s) = Vaidxa.signIs b l := by
  rw [L.eq]
  exact stands_sign g L.ok
theorem w_table : LitW "table" := ⟨by decide +kernel, by decide +kernel⟩
theorem w_row : LitW "row" := ⟨by decide +kernel, by decide +kernel⟩
theorem w_ask : LitW "ask" := ⟨by decide +kernel, by decide +kernel⟩
theorem w_index : LitW "index" := ⟨by decide +kernel, by decide +kernel⟩
theorem w_where : LitW "where" := ⟨by decide +kernel, by decide +kernel⟩
theorem w_and : LitW "and" := ⟨by decide +kernel, by decide +kernel⟩
theorem w_from : LitW "from" := ⟨by decide +kernel, by decide +kernel⟩
theorem w_to : LitW "to" := ⟨by decide +kernel, by decide +kernel⟩
theorem w_by : LitW "by" := ⟨by decide +kernel, by decide +kernel⟩
theorem w_back : LitW "back" := ⟨by decide +kernel, by decide +kernel⟩
theorem w_wants : LitW "wants" := ⟨by decide +kernel, by decide +kernel⟩
theorem w_first : LitW "first" := ⟨by decide +kernel, by decide +kernel⟩
theorem w_times : LitW "times" := ⟨by decide +kernel, by decide +kernel⟩
theorem w_on : LitW "on" := ⟨by decide +kernel, by decide +kernel⟩
theorem w_with : LitW "with" := ⟨by decide +kernel, by decide +kernel⟩
theorem w_only : LitW "only" := ⟨by decide +kernel, by decide +kernel⟩
theorem s_open : LitS "(" 40 := ⟨by decide +kernel, by decide +kernel⟩
theorem s_close : LitS ")" 41 := ⟨by decide +kernel, by decide +kernel⟩
theorem s_comma : LitS "," 44 := ⟨by decide +kernel, by decide +kernel⟩
theorem s_semi : LitS ";" 59 := ⟨by decide +kernel, by decide +kernel⟩
theorem s_eq : LitS "=" 61 := ⟨by decide +kernel, by decide +kernel⟩
section
variable {σ : L2.St} {H : Hp} {R : RdI} {l : VToks} {E : XK} {Q : VK} {i : Nat}
theorem exp_word {s : String} (L : LitW s) (h0 : σ[i]? = some (some (.ref R.r))) (A : R.At K H l) (ke : ∀ z, Vaidxa.takeWord s l = .error z → Err K R.r H E z) (kq : ∀ l1, Vaidxa.takeWord s l = .ok l1 → ∀ H1, R.At K H1 l1 → Keep R.r H H1 → Q .non H1) :
    tMeth (He.ga K "Reader") "expect" (sp_Reader_expect K) [] E (tVar i) (tCons (tC (.str (Str.ofString s))) tNil) σ H Q := by
  obtain ⟨m, hm, _⟩ := A.pos
  refine ⟨_, h0, R.r, R.dx, _, rfl, hm, l_Reader_expect, R, l, _, rfl, A, L.ne, fun e => ke _ ?_, fun e H1 A1 p1 => kq _ ?_ H1 A1 p1⟩
  · rw [L.stands A.good] at e
    exact if_neg (by rw [e]; exact Bool.false_ne_true)
  · rw [L.stands A.good] at e
    exact if_pos e
theorem exp_sign {s : String} {b : Nat} (L : LitS s b) (h0 : σ[i]? = some (some (.ref R.r))) (A : R.At K H l) (ke : ∀ z, Vaidxa.takeSign b l = .error z → Err K R.r H E z) (kq : ∀ l1, Vaidxa.takeSign b l = .ok l1 → ∀ H1, R.At K H1 l1 → Keep R.r H H1 → Q .non H1) :
    tMeth (He.ga K "Reader") "expect" (sp_Reader_expect K) [] E (tVar i) (tCons (tC (.str (Str.ofString s))) tNil) σ H Q := by
  obtain ⟨m, hm, _⟩ := A.pos
  refine ⟨_, h0, R.r, R.dx, _, rfl, hm, l_Reader_expect, R, l, _, rfl, A, L.ne, fun e => ke _ ?_, fun e H1 A1 p1 => kq _ ?_ H1 A1 p1⟩
  · rw [L.stands A.good] at e
    exact if_neg (by rw [e]; exact Bool.false_ne_true)
  · rw [L.stands A.good] at e
    exact if_pos e
theorem skip_word {s : String} (L : LitW s) (h0 : σ[i]? = some (some (.ref R.r))) (A : R.At K H l) (k0 : Vaidxa.wordIs s l = false → Q (.bl false) H) (k1 : Vaidxa.wordIs s l = true → ∀ H1, R.At K H1 (l.drop 1) → Keep R.r H H1 → Q (.bl true) H1) :
    tMeth (He.ga K "Reader") "skip_if" (sp_Reader_skip_if K) [] E0 (tVar i) (tCons (tC (.str (Str.ofString s))) tNil) σ H Q := by
  obtain ⟨m, hm, _⟩ := A.pos
  refine ⟨_, h0, R.r, R.dx, _, rfl, hm, l_Reader_skip_if, R, l, _, rfl, A, L.ne, fun e => k0 ?_, fun e => k1 ?_⟩ <;> exact (L.stands A.good).symm.trans e
theorem skip_sign {s : String} {b : Nat} (L : LitS s b) (h0 : σ[i]? = some (some (.ref R.r))) (A : R.At K H l) (k0 : Vaidxa.signIs b l = false → Q (.bl false) H) (k1 : Vaidxa.signIs b l = true → ∀ H1, R.At K H1 (l.drop 1) → Keep R.r H H1 → Q (.bl true) H1) :
    tMeth (He.ga K "Reader") "skip_if" (sp_Reader_skip_if K) [] E0 (tVar i) (tCons (tC (.str (Str.ofString s))) tNil) σ H Q := by
  obtain ⟨m, hm, _⟩ := A.pos
  refine ⟨_, h0, R.r, R.dx, _, rfl, hm, l_Reader_skip_if, R, l, _, rfl, A, L.ne, fun e => k0 ?_, fun e => k1 ?_⟩ <;> exact (L.stands A.good).symm.trans e
theorem stands_w {s : String} (L : LitW s) (h0 : σ[i]? = some (some (.ref R.r))) (A : R.At K H l) (k : Q (.bl (Vaidxa.wordIs s l)) H) :
    tMeth (He.ga K "Reader") "stands" (sp_Reader_stands K) [] E0 (tVar i) (tCons (tC (.str (Str.ofString s))) tNil) σ H Q := by
  obtain ⟨m, hm, _⟩ := A.pos
  refine ⟨_, h0, R.r, R.dx, _, rfl, hm, l_Reader_stands, R, l, _, rfl, A, ?_⟩
  rw [L.stands A.good]
  exact k
/-- reader.current().place -/
theorem cur_place (T : Txt K mg) (h0 : σ[i]? = some (some (.ref R.r))) (A : R.At K H l) (k : Q (.int (Vaidxa.here l : Nat)) H) : tFld K (tMeth (He.ga K "Reader") "current" (sp_Reader_current K) [] E0 (tVar i) tNil) "place" σ H Q := by
  obtain ⟨m, hm, _⟩ := A.pos
  cases l with
  | nil => exact absurd rfl A.good.ne
  | cons t l => exact ⟨_, h0, R.r, R.dx, _, rfl, hm, l_Reader_current, R, t, l, rfl, A, fun a ⟨dx, ee, hx⟩ => ⟨a, _, dx, _, _, rfl, hx, cl_Token T, n_Token_place T, l_Token_place, k⟩⟩
/-- raise Fault(n, place), the place in a slot -/
theorem raise_at {n p j : Nat} (hj : σ[j]? = some (some (.int (p : Nat)))) (k : Err K R.r H E ⟨n, p⟩) {D : Ends} : tRaiseFt (He.ga K "Fault") E (tCons (tC (.int (n : Nat))) (tCons (tVar j) tNil)) D σ H :=
  ⟨_, hj, _, _, rfl, fun d hd => k.out rfl rfl hd⟩
end
end
end Ix
-- part IxG1
set_option maxHeartbeats 4000000
namespace Ix
open PySem PySem.Spec PyProof.Rows L2
/-! ### promises -/
def sp_check_room (K : PySem.W.Frag) : Sp := fun vs H Q E => ∃ (R : RdI) (l : VToks) (a : Addr) (xs : List V) (n : Nat), vs = [.ref R.r, .ref a, .int (n : Nat)] ∧ R.At K H l ∧ SqL K H a xs ∧ (xs.length = n → Err K R.r H E ⟨5, Vaidxa.here l⟩) ∧ (xs.length ≠ n → Q .non H)
def sp_read_new_name (K : PySem.W.Frag) : Sp := fun vs H Q E => ∃ (R : RdI) (l : VToks) (a : Addr) (ns : List (List Nat)), vs = [.ref R.r, .ref a] ∧ R.At K H l ∧ NamesAt K H a ns ∧ a ≠ R.r ∧ Ret K R H E (Vaidxa.takeNew ns l) fun w H' => Q (.str (sS w)) H'
/-- the table's head -/
def tableRes (n : Nat) (l : VToks) : Vaidxa.Got (List (List Nat) × VToks) := (Vaidxa.takeWord "table" l).bind fun a => (Vaidxa.takeSign 40 a).bind fun b => (Vaidxa.takeNames 4 n [] b).bind fun c => (Vaidxa.takeSign 41 c.2).bind fun d => (Vaidxa.takeSign 59 d).map fun e => (c.1, e)
def sp_read_table (K : PySem.W.Frag) : Sp := fun vs H Q E => ∃ (R : RdI) (l : VToks) (n : Nat), vs = [.ref R.r] ∧ R.At K H l ∧ l.length ≤ n ∧ Ret K R H E (tableRes n l) fun cs H' => ∀ p : Addr, H' p = some (.lst (cs.map fun w => V.str (sS w))) → H p = none → Q (.ref p) H'
def colRes (ns : List (List Nat)) (tk : List Nat) (l : VToks) : Vaidxa.Got (Nat × VToks) := (Vaidxa.takeCol ns l).bind fun c => if tk.contains c.1 then .error ⟨4, Vaidxa.here l⟩ else .ok c
def sp_read_column (K : PySem.W.Frag) : Sp := fun vs H Q E => ∃ (R : RdI) (l : VToks) (a b : Addr) (ns : List (List Nat)) (tk : List Nat), vs = [.ref R.r, .ref a, .ref b] ∧ R.At K H l ∧ NamesAt K H a ns ∧ a ≠ R.r ∧ IntsAt K H b tk ∧ Ret K R H E (colRes ns tk l) fun c H' => Q (.int (c : Nat)) H'
def sp_read_columns (K : PySem.W.Frag) : Sp := fun vs H Q E => ∃ (R : RdI) (l : VToks) (a b : Addr) (ns : List (List Nat)) (tk : List Nat) (n : Nat), vs = [.ref R.r, .ref a, .ref b] ∧ R.At K H l ∧ NamesAt K H a ns ∧ a ≠ R.r ∧ IntsAt K H b tk ∧ tk.length + l.length ≤ 50000 ∧ l.length ≤ n ∧
  Ret K R H E ((Vaidxa.takeCols ns n tk l).map fun x => (x.1.drop tk.length, x.2)) fun cs H' => ∀ p : Addr, IntsAt K (diff H H') p cs → Q (.ref p) H'
def sp_read_filter (K : PySem.W.Frag) : Sp := fun vs H Q E => ∃ (R : RdI) (l : VToks) (a : Addr) (ns : List (List Nat)), vs = [.ref R.r, .ref a] ∧ R.At K H l ∧ NamesAt K H a ns ∧ a ≠ R.r ∧ Ret K R H E (Vaidxa.takeFilter ns l) fun f H' => ∀ p : Addr, FilterAt K (diff H H') p f → Q (.ref p) H'
def sp_read_filters (K : PySem.W.Frag) : Sp := fun vs H Q E => ∃ (R : RdI) (l : VToks) (a : Addr) (ns : List (List Nat)) (n : Nat), vs = [.ref R.r, .ref a] ∧ R.At K H l ∧ NamesAt K H a ns ∧ a ≠ R.r ∧ l.length ≤ 50000 ∧ l.length ≤ n ∧
  Ret K R H E (Vaidxa.takeFilters ns n [] l) fun fs H' => ∀ p : Addr, FiltersAt K (diff H H') p fs → Q (.ref p) H'
abbrev N_check_room : List Str := ["reader", "earlier", "most"]
def t_check_room (K : PySem.W.Frag) (E : XK) : TS :=
  (tIfS (tTest (tOp rEq (tCB (rLen_ K) (tCons (tVar 1) tNil)) (tVar 2))) (tRaiseFt (He.ga K "Fault") E (tCons (tC (.int 5)) (tCons (tFld K (tMeth (He.ga K "Reader") "current" (sp_Reader_current K) [] E0 (tVar 0) tNil) "place") tNil))) tNext)
abbrev N_read_new_name : List Str := ["reader", "earlier", "place", "name"]
def t_read_new_name (K : PySem.W.Frag) (E : XK) : TS :=
  (tSeq (tAsg (tFld K (tMeth (He.ga K "Reader") "current" (sp_Reader_current K) [] E0 (tVar 0) tNil) "place") (gName 2))
    (tSeq (tAsg (tMeth (He.ga K "Reader") "take_name" (sp_Reader_take_name K) [] E (tVar 0) tNil) (gName 3))
    (tSeq (tIfS (tTest (tOp (rIn K false) (tVar 3) (tVar 1))) (tRaiseFt (He.ga K "Fault") E (tCons (tC (.int 4)) (tCons (tVar 2) tNil))) tNext)
    (tRet (tVar 3)))))
abbrev N_read_table : List Str := ["reader", "columns", "place", "name"]
def t_read_table (K : PySem.W.Frag) (E : XK) : TS :=
  (tSeq (tDrop (tMeth (He.ga K "Reader") "expect" (sp_Reader_expect K) [] E (tVar 0) (tCons (tC (.str "table")) tNil)))
    (tSeq (tDrop (tMeth (He.ga K "Reader") "expect" (sp_Reader_expect K) [] E (tVar 0) (tCons (tC (.str "(")) tNil)))
    (tSeq (tAsg (tLst (tCons (tCall (sp_read_new_name K) [] E (tCons (tVar 0) (tCons (tLst tNil) tNil))) tNil)) (gName 1))
    (tSeq (tWhile (tB (tMeth (He.ga K "Reader") "skip_if" (sp_Reader_skip_if K) [] E0 (tVar 0) (tCons (tC (.str ",")) tNil))) (tSeq (tAsg (tFld K (tMeth (He.ga K "Reader") "current" (sp_Reader_current K) [] E0 (tVar 0) tNil) "place") (gName 2))
    (tSeq (tAsg (tCall (sp_read_new_name K) [] E (tCons (tVar 0) (tCons (tVar 1) tNil))) (gName 3))
    (tSeq (tIfS (tTest (tOp rEq (tCB (rLen_ K) (tCons (tVar 1) tNil)) (tC (.int 4)))) (tRaiseFt (He.ga K "Fault") E (tCons (tC (.int 5)) (tCons (tVar 2) tNil))) tNext)
    (tDrop (tBM K "list" rAppend (tVar 1) (tCons (tVar 3) tNil)))))))
    (tSeq (tDrop (tMeth (He.ga K "Reader") "expect" (sp_Reader_expect K) [] E (tVar 0) (tCons (tC (.str ")")) tNil)))
    (tSeq (tDrop (tMeth (He.ga K "Reader") "expect" (sp_Reader_expect K) [] E (tVar 0) (tCons (tC (.str ";")) tNil)))
    (tRet (tVar 1))))))))
abbrev N_read_column : List Str := ["reader", "names", "taken", "place", "name", "column"]
def t_read_column (K : PySem.W.Frag) (E : XK) : TS :=
  (tSeq (tAsg (tFld K (tMeth (He.ga K "Reader") "current" (sp_Reader_current K) [] E0 (tVar 0) tNil) "place") (gName 3))
    (tSeq (tAsg (tMeth (He.ga K "Reader") "take_name" (sp_Reader_take_name K) [] E (tVar 0) tNil) (gName 4))
    (tSeq (tIfS (tTest (tOp (rIn K true) (tVar 4) (tVar 1))) (tRaiseFt (He.ga K "Fault") E (tCons (tC (.int 4)) (tCons (tVar 3) tNil))) tNext)
    (tSeq (tAsg (tBM K "list" (rIndex K) (tVar 1) (tCons (tVar 4) tNil)) (gName 5))
    (tSeq (tIfS (tTest (tOp (rIn K false) (tVar 5) (tVar 2))) (tRaiseFt (He.ga K "Fault") E (tCons (tC (.int 4)) (tCons (tVar 3) tNil))) tNext)
    (tRet (tVar 5)))))))
abbrev N_read_columns : List Str := ["reader", "names", "taken", "columns"]
def t_read_columns (K : PySem.W.Frag) (E : XK) : TS :=
  (tSeq (tAsg (tLst (tCons (tCall (sp_read_column K) [] E (tCons (tVar 0) (tCons (tVar 1) (tCons (tVar 2) tNil)))) tNil)) (gName 3))
    (tSeq (tWhile (tB (tMeth (He.ga K "Reader") "skip_if" (sp_Reader_skip_if K) [] E0 (tVar 0) (tCons (tC (.str ",")) tNil))) (tDrop (tBM K "list" rAppend (tVar 3) (tCons (tCall (sp_read_column K) [] E (tCons (tVar 0) (tCons (tVar 1) (tCons (tOp rCat (tVar 2) (tVar 3)) tNil)))) tNil))))
    (tRet (tVar 3))))
abbrev N_read_filter : List Str := ["reader", "names", "column", "value", "low", "high"]
def t_read_filter (K : PySem.W.Frag) (E : XK) : TS :=
  (tSeq (tAsg (tCall (sp_read_column K) [] E (tCons (tVar 0) (tCons (tVar 1) (tCons (tLst tNil) tNil)))) (gName 2))
    (tSeq (tIfS (tB (tMeth (He.ga K "Reader") "skip_if" (sp_Reader_skip_if K) [] E0 (tVar 0) (tCons (tC (.str "=")) tNil))) (tSeq (tAsg (tMeth (He.ga K "Reader") "take_number" (sp_Reader_take_number K) [] E (tVar 0) (tCons (tC (.int 0)) (tCons (tC (.int 9)) tNil))) (gName 3))
    (tRet (tMake (He.ga K "Filter") (sp_Filter_init K) [] E0 (tCons (tVar 2) (tCons (tVar 3) (tCons (tVar 3) tNil)))))) tNext)
    (tSeq (tDrop (tMeth (He.ga K "Reader") "expect" (sp_Reader_expect K) [] E (tVar 0) (tCons (tC (.str "from")) tNil)))
    (tSeq (tAsg (tMeth (He.ga K "Reader") "take_number" (sp_Reader_take_number K) [] E (tVar 0) (tCons (tC (.int 0)) (tCons (tC (.int 9)) tNil))) (gName 4))
    (tSeq (tDrop (tMeth (He.ga K "Reader") "expect" (sp_Reader_expect K) [] E (tVar 0) (tCons (tC (.str "to")) tNil)))
    (tSeq (tAsg (tMeth (He.ga K "Reader") "take_number" (sp_Reader_take_number K) [] E (tVar 0) (tCons (tVar 4) (tCons (tC (.int 9)) tNil))) (gName 5))
    (tRet (tMake (He.ga K "Filter") (sp_Filter_init K) [] E0 (tCons (tVar 2) (tCons (tVar 4) (tCons (tVar 5) tNil)))))))))))
abbrev N_read_filters : List Str := ["reader", "names", "filters", "place", "sieve", "earlier"]
def t_read_filters (K : PySem.W.Frag) (E : XK) : TS :=
  (tSeq (tAsg (tLst (tCons (tCall (sp_read_filter K) [] E (tCons (tVar 0) (tCons (tVar 1) tNil))) tNil)) (gName 2))
    (tSeq (tWhile (tB (tMeth (He.ga K "Reader") "skip_if" (sp_Reader_skip_if K) [] E0 (tVar 0) (tCons (tC (.str "and")) tNil))) (tSeq (tAsg (tFld K (tMeth (He.ga K "Reader") "current" (sp_Reader_current K) [] E0 (tVar 0) tNil) "place") (gName 3))
    (tSeq (tAsg (tCall (sp_read_filter K) [] E (tCons (tVar 0) (tCons (tVar 1) tNil))) (gName 4))
    (tSeq (tIfS (tTest (tOp (rIn K false) (tFld K (tVar 4) "column") (tLc (iList K (tVar 2)) (gName 5) tYes (tFld K (tVar 5) "column") [5]))) (tRaiseFt (He.ga K "Fault") E (tCons (tC (.int 4)) (tCons (tVar 3) tNil))) tNext)
    (tDrop (tBM K "list" rAppend (tVar 2) (tCons (tVar 4) tNil)))))))
    (tRet (tVar 2))))
section
variable {K : PySem.W.Frag} {mg : Str → Option Value}
theorem len_check_room {vs : List V} {H : Hp} {Q : VK} {E : XK} (h : sp_check_room K vs H Q E) : vs.length = 3 := by
  obtain ⟨_, _, _, _, _, rfl, _⟩ := h
  rfl
theorem pure_check_room (T : Txt K mg) (vs : List V) (H : Hp) (Q : VK) (E : XK) (h : sp_check_room K vs H Q E) : t_check_room K E { nx := fun _ H' => Q .non H', rt := Q } (start N_check_room vs) H := by
  obtain ⟨R, l, a, xs, n, rfl, A, hS, k0, k1⟩ := h
  refine ⟨_, rfl, _, _, rfl, .inl ⟨_, hS, rfl⟩, _, rfl, rfl, _, rfl, ?_⟩
  by_cases c : xs.length = n
  · refine if_true_of (decide_eq_true (by rw [c])) ?_
    exact cur_place T rfl A ⟨_, _, rfl, fun d hd => (k0 c).out rfl rfl hd⟩
  · refine if_false_of (decide_eq_false (fun z => c (by injection z with z; omega))) ?_
    exact k1 c
theorem len_read_new_name {vs : List V} {H : Hp} {Q : VK} {E : XK} (h : sp_read_new_name K vs H Q E) : vs.length = 2 := by
  obtain ⟨_, _, _, _, rfl, _⟩ := h
  rfl
theorem names_keep {H H1 : Hp} {r a : Addr} {ns : List (List Nat)} (h : NamesAt K H a ns) (hr : a ≠ r) (k : Keep r H H1) : NamesAt K H1 a ns := by
  rcases h with (h | ⟨o, h⟩) | h
  · exact .inl (.inl (k _ _ hr h))
  · exact .inl (.inr ⟨o, k _ _ hr h⟩)
  · exact .inr h
theorem pure_read_new_name (T : Txt K mg) (vs : List V) (H : Hp) (Q : VK) (E : XK) (h : sp_read_new_name K vs H Q E) : t_read_new_name K E { nx := fun _ H' => Q .non H', rt := Q } (start N_read_new_name vs) H := by
  obtain ⟨R, l, a, ns, rfl, A, hN, hr, k⟩ := h
  obtain ⟨m, hm, _⟩ := A.pos
  refine cur_place T rfl A ?_
  refine ⟨_, rfl, R.r, R.dx, _, rfl, hm, l_Reader_take_name, R, l, rfl, A, fun e => ?_, fun w e H1 A1 p1 => ?_⟩
  · have e2 : Vaidxa.takeNew ns l = .error ⟨2, Vaidxa.here l⟩ := by
      unfold Vaidxa.takeNew
      rw [e]
      rfl
    rw [e2] at k
    exact k
  · have e2 : Vaidxa.takeNew ns l = if ns.contains w then .error ⟨4, Vaidxa.here l⟩ else .ok (w, l.drop 1) := by
      unfold Vaidxa.takeNew
      rw [e]
    rw [e2] at k
    refine ⟨_, rfl, _, rfl, a, _, rfl, .inl (names_keep hN hr p1), rfl, flat_strs ns, _, rfl, ?_⟩
    show if (if false = true then _ else inV (.str (sS w)) (ns.map fun w => V.str (sS w))) = true then _ else _
    rw [if_neg Bool.false_ne_true, inV_strs]
    cases c : ns.contains w with
    | true =>
      rw [if_pos c] at k
      exact if_true_of rfl (raise_at (n := 4) rfl (Err.mono k p1))
    | false =>
      rw [if_neg (by rw [c]; exact Bool.false_ne_true)] at k
      exact if_false_of rfl ⟨_, rfl, k H1 A1 p1⟩
theorem new_ne {H : Hp} {R : RdI} {l : VToks} {p : Addr} (A : R.At K H l) (n : H p = none) : p ≠ R.r := by
  obtain ⟨m, hm, _⟩ := A.pos
  exact fun z => by rw [z, hm] at n; cases n
theorem At_new {H : Hp} {R : RdI} {l : VToks} {p : Addr} {o : HO} (A : R.At K H l) (n : H p = none) : R.At K (upd H p o) l := A.same (same_new (Same.refl H) n)
theorem len_read_table {vs : List V} {H : Hp} {Q : VK} {E : XK} (h : sp_read_table K vs H Q E) : vs.length = 1 := by
  obtain ⟨_, _, _, rfl, _⟩ := h
  rfl
/-- the specification's names from some on -/
def namesOn (n : Nat) (done : List (List Nat)) (l : VToks) : Vaidxa.Got (List (List Nat) × VToks) := if Vaidxa.signIs 44 l then Vaidxa.takeNames 4 n done (l.drop 1) else .ok (done, l)
theorem takeNames_new (n : Nat) (done : List (List Nat)) (l : VToks) : Vaidxa.takeNames 4 (n + 1) done l = (Vaidxa.takeNew done l).bind fun w => if 4 ≤ done.length then .error ⟨5, Vaidxa.here l⟩ else namesOn n (done ++ [w.1]) w.2 := by
  show (match Vaidxa.nameNext l with
    | none => Vaidxa.wrong l
    | some w => if done.contains w then .error ⟨4, Vaidxa.here l⟩ else if 4 ≤ done.length then .error ⟨5, Vaidxa.here l⟩ else if Vaidxa.signIs 44 (l.drop 1) then Vaidxa.takeNames 4 n (done ++ [w]) (l.drop 2) else .ok (done ++ [w], l.drop 1)) = _
  unfold Vaidxa.takeNew
  cases Vaidxa.nameNext l with
  | none => rfl
  | some w =>
    dsimp only
    cases c : done.contains w with
    | true => rfl
    | false =>
      rw [if_neg Bool.false_ne_true, if_neg Bool.false_ne_true]
      show _ = if 4 ≤ done.length then _ else namesOn n (done ++ [w]) (l.drop 1)
      unfold namesOn
      rw [List.drop_drop]
theorem At_len {H : Hp} {R : RdI} {l : VToks} (A : R.At K H l) : 1 ≤ l.length := by
  have := A.good.ne
  cases l with
  | nil => exact absurd rfl this
  | cons t l => exact Nat.succ_le_succ (Nat.zero_le _)
theorem takeSign_len {b : Nat} {l l1 : VToks} (h : Vaidxa.takeSign b l = .ok l1) : l1 = l.drop 1 := by
  unfold Vaidxa.takeSign at h
  split at h
  · injection h with h
    exact h.symm
  · cases h
theorem takeWord_len {s : String} {l l1 : VToks} (h : Vaidxa.takeWord s l = .ok l1) : l1 = l.drop 1 := by
  unfold Vaidxa.takeWord at h
  split at h
  · injection h with h
    exact h.symm
  · cases h
theorem takeNew_len {ns : List (List Nat)} {l : VToks} {x : List Nat × VToks} (h : Vaidxa.takeNew ns l = .ok x) : x.2 = l.drop 1 := by
  unfold Vaidxa.takeNew at h
  split at h
  · cases h
  · split at h
    · cases h
    · injection h with h
      rw [← h]
theorem pure_read_table (T : Txt K mg) (vs : List V) (H : Hp) (Q : VK) (E : XK) (h : sp_read_table K vs H Q E) : t_read_table K E { nx := fun _ H' => Q .non H', rt := Q } (start N_read_table vs) H := by
  obtain ⟨R, l, n, rfl, A, hn, k⟩ := h
  obtain ⟨ke, kq⟩ := k.step
  refine exp_word w_table rfl A ke fun l1 e1 H1 A1 p1 => ?_
  have k1 := (kq l1 e1).mono p1
  obtain ⟨ke, kq⟩ := k1.step
  refine exp_sign s_open rfl A1 ke fun l2 e2 H2 A2 p2 => ?_
  have k2 := (kq l2 e2).mono p2
  have hl2 : l2.length + 2 ≤ n := by
    have h1 := At_len A1
    have h2 := At_len A2
    rw [takeWord_len e1] at e2 h1
    rw [takeSign_len e2] at h2 ⊢
    simp only [List.length_drop] at *
    omega
  cases n with
  | zero => omega
  | succ n =>
    rw [takeNames_new] at k2
    -- the first name
    obtain ⟨ke, kq⟩ := k2.step
    refine ⟨_, rfl, (by show 0 ≤ sizeLine; decide), fun z nz => ⟨R, l2, z, [], rfl, At_new A2 nz, SqL.of upd_same, new_ne A2 nz, Ret.intro (fun y e => ?_) fun x e H3 A3 p3 => ?_⟩⟩
    · exact (ke y (by rw [e]; rfl)).mono ((Keep.refl R.r H2).new nz)
    have p3' : Keep R.r H2 H3 := ((Keep.refl R.r H2).new nz).trans p3
    refine ⟨(by show 1 ≤ sizeLine; decide), fun cl ncl => ?_⟩
    have A3' : R.At K (upd H3 cl (.lst [.str (sS x.1)])) x.2 := At_new A3 ncl
    have k3 : Ret K R H3 E ((namesOn n [x.1] x.2).bind fun c => (Vaidxa.takeSign 41 c.2).bind fun d => (Vaidxa.takeSign 59 d).map fun e => (c.1, e)) fun cs H' => ∀ p : Addr, H' p = some (.lst (cs.map fun w => V.str (sS w))) → H p = none → Q (.ref p) H' := by
      have := k2
      rw [e] at this
      exact Ret.mono this p3'
    have hx : x.2.length ≤ n := by
      have h2 := At_len A2
      have h3 := At_len A3
      rw [takeNew_len e, List.length_drop]
      omega
    have hcl : H cl = none := by
      have z2 : Keep R.r H H3 := (p1.trans p2).trans p3'
      cases e : H cl with
      | none => rfl
      | some o => rw [z2 cl o (new_ne A3 ncl) e] at ncl; cases ncl
    -- the loop
    refine ⟨fun m σ H' => ∃ (f : Nat) (done : List (List Nat)) (l' : VToks) (v w : Option V), m = l'.length ∧ σ = [some (.ref R.r), some (.ref cl), v, w] ∧ R.At K H' l' ∧ H' cl = some (.lst (done.map fun w => V.str (sS w))) ∧ done.length ≤ 4 ∧ l'.length ≤ f ∧ Keep R.r H3 H' ∧
      Ret K R H3 E ((namesOn f done l').bind fun c => (Vaidxa.takeSign 41 c.2).bind fun d => (Vaidxa.takeSign 59 d).map fun e => (c.1, e)) fun cs H' => ∀ p : Addr, H' p = some (.lst (cs.map fun w => V.str (sS w))) → H p = none → Q (.ref p) H',
      ⟨_, n, [x.1], x.2, none, none, rfl, rfl, A3', upd_same, (by show 1 ≤ 4; decide), hx, (Keep.refl R.r H3).new ncl, k3⟩, ?_⟩
    rintro m σ H4 ⟨f, done, l4, v, w, rfl, rfl, A4, hc4, hd4, hf4, p4, k4⟩
    refine skip_sign s_comma rfl A4 (fun e => ⟨_, rfl, if_false_of rfl ?_⟩) fun e H5 A5 p5 => ⟨_, rfl, if_true_of rfl ?_⟩
    · -- behind the names
      have e4 : namesOn f done l4 = .ok (done, l4) := if_neg (by rw [e]; exact Bool.false_ne_true)
      rw [e4] at k4
      have k4 : Ret K R H3 E ((Vaidxa.takeSign 41 l4).bind fun d => (Vaidxa.takeSign 59 d).map fun e => (done, e)) _ := k4
      obtain ⟨ke, kq⟩ := k4.step
      refine exp_sign s_close rfl A4 (fun z e => (ke z e).mono p4) fun l6 e6 H6 A6 p6 => ?_
      obtain ⟨ke, kq⟩ := (kq l6 e6).stepM
      refine exp_sign s_semi rfl A6 (fun z e => (ke z e).mono (p4.trans p6)) fun l7 e7 H7 A7 p7 => ?_
      exact ⟨_, rfl, kq l7 e7 H7 A7 ((p4.trans p6).trans p7) cl ((p6.trans p7) _ _ (new_ne A3 ncl) hc4) hcl⟩
    · have e5 : namesOn f done l4 = Vaidxa.takeNames 4 f done (l4.drop 1) := if_pos e
      rw [e5] at k4
      have hl5 := At_len A5
      cases f with
      | zero => rw [List.length_drop] at hl5; omega
      | succ f =>
        rw [takeNames_new] at k4
        have p35 := p4.trans p5
        refine ⟨fun σ' H'' => ∃ m', m' < l4.length ∧ ∃ (f : Nat) (done : List (List Nat)) (l' : VToks) (v w : Option V), m' = l'.length ∧ σ' = [some (.ref R.r), some (.ref cl), v, w] ∧ R.At K H'' l' ∧ H'' cl = some (.lst (done.map fun w => V.str (sS w))) ∧ done.length ≤ 4 ∧ l'.length ≤ f ∧ Keep R.r H3 H'' ∧
          Ret K R H3 E ((namesOn f done l').bind fun c => (Vaidxa.takeSign 41 c.2).bind fun d => (Vaidxa.takeSign 59 d).map fun e => (c.1, e)) fun cs H' => ∀ p : Addr, H' p = some (.lst (cs.map fun w => V.str (sS w))) → H p = none → Q (.ref p) H', fun _ _ h => h, ?_⟩
        have hc5 := p5 _ _ (new_ne A3 ncl) hc4
        refine cur_place T rfl A5 ?_
        refine ⟨_, rfl, _, rfl, R, l4.drop 1, cl, done, rfl, A5, SqL.of hc5, new_ne A3 ncl, Ret.intro (fun y e => ?_) fun y e H6 A6 p6 => ?_⟩
        · rw [e] at k4
          exact Err.mono k4 p35
        rw [e] at k4
        have k6 : Ret K R H3 E ((if 4 ≤ done.length then (.error ⟨5, Vaidxa.here (l4.drop 1)⟩ : Vaidxa.Got (List (List Nat) × VToks)) else namesOn f (done ++ [y.1]) y.2).bind fun c => (Vaidxa.takeSign 41 c.2).bind fun d => (Vaidxa.takeSign 59 d).map fun e => (c.1, e)) fun cs H' => ∀ p : Addr, H' p = some (.lst (cs.map fun w => V.str (sS w))) → H p = none → Q (.ref p) H' := k4
        have hc6 := p6 _ _ (new_ne A3 ncl) hc5
        refine ⟨_, rfl, _, _, rfl, .inl ⟨_, SqL.of hc6, rfl⟩, rfl, _, rfl, ?_⟩
        rw [List.length_map]
        by_cases c : done.length = 4
        · rw [if_pos (by omega)] at k6
          refine if_true_of (decide_eq_true (by rw [c]; rfl)) ?_
          exact raise_at (n := 5) rfl (Err.mono k6 (p35.trans p6))
        · rw [if_neg (by omega)] at k6
          refine if_false_of (decide_eq_false (fun z => c (by injection z with z; omega))) ?_
          have A7 : R.At K (upd H6 cl (.lst (done.map (fun w => V.str (sS w)) ++ [.str (sS y.1)]))) y.2 := A3.upd A6 (p35.trans p6) ncl
          have p7 : Keep R.r H3 (upd H6 cl (.lst (done.map (fun w => V.str (sS w)) ++ [.str (sS y.1)]))) := (p35.trans p6).new ncl
          have hy : y.2.length + 1 ≤ (l4.drop 1).length := by
            have h6 := At_len A6
            rw [takeNew_len e, List.length_drop] at h6 ⊢
            omega
          rw [List.length_drop] at hy
          refine ⟨_, rfl, .inl ⟨rfl, _, SqL.of hc6⟩, _, rfl, cl, _, _, rfl, rfl, hc6, ?_, y.2.length, by omega, f, done ++ [y.1], y.2, _, _, rfl, rfl, A7, ?_, ?_, by omega, p7, k6⟩
          · rw [List.length_map]
            exact size_ok (by omega)
          · rw [upd_same, List.map_append]
            rfl
          · rw [List.length_append]
            show done.length + 1 ≤ 4
            omega
end
end Ix
-- part IxG2
set_option maxHeartbeats 4000000
namespace Ix
open PySem PySem.Spec PyProof.Rows L2
section
variable {K : PySem.W.Frag} {mg : Str → Option Value}
theorem findIdx_none {w : List Nat} : ∀ {ns : List (List Nat)}, ns.contains w = false → ns.findIdx? (fun x => x == w) = none
  | [], _ => rfl
  | a :: ns, h => by
    rw [List.contains_cons, Bool.or_eq_false_iff] at h
    have e : (a == w) = false := by
      rw [beq_eq_false_iff_ne]
      intro z
      rw [z] at h
      simp at h
    rw [List.findIdx?_cons, e, findIdx_none h.2]
    rfl
theorem findIdx_some {w : List Nat} : ∀ {ns : List (List Nat)}, ns.contains w = true → ∃ c, ns.findIdx? (fun x => x == w) = some c ∧ ns[c]? = some w ∧ ∀ (m : Nat) (z : List Nat), m < c → ns[m]? = some z → z ≠ w
  | [], h => by cases h
  | a :: ns, h => by
    by_cases e : a = w
    · subst e
      refine ⟨0, ?_, rfl, fun m z hm => absurd hm (Nat.not_lt_zero _)⟩
      rw [List.findIdx?_cons, beq_self_eq_true]
      rfl
    · have e2 : (a == w) = false := beq_eq_false_iff_ne.mpr e
      have h2 : ns.contains w = true := by
        rw [List.contains_cons, Bool.or_eq_true] at h
        rcases h with z | z
        · exact absurd (eq_of_beq z).symm e
        · exact z
      obtain ⟨c, h3, h4, h5⟩ := findIdx_some h2
      refine ⟨c + 1, ?_, h4, fun m z hm hz => ?_⟩
      · rw [List.findIdx?_cons, e2, h3]
        rfl
      · cases m with
        | zero =>
          cases hz
          exact e
        | succ m => exact h5 m z (Nat.lt_of_succ_lt_succ hm) hz
theorem inV_ints (c : Nat) : ∀ l : List Nat, inV (.int (c : Nat)) (l.map fun n => V.int ((n : Nat) : Int)) = l.contains c
  | [] => rfl
  | a :: l => by
    have ih := inV_ints c l
    unfold inV at ih ⊢
    rw [List.map_cons, List.any_cons, ih, List.contains_cons]
    have e : eqV (V.int (a : Int)) (V.int (c : Int)) = (c == a) := by
      show ((a : Int) == (c : Int)) = (c == a)
      by_cases h : a = c
      · subst h
        simp
      · have h3 : ¬ c = a := fun z => h z.symm
        rw [beq_eq_false_iff_ne.mpr h3, beq_eq_false_iff_ne]
        omega
    rw [e]
theorem flat_ints : ∀ l : List Nat, (l.map fun n => V.int ((n : Nat) : Int)).all flatV = true
  | [] => rfl
  | a :: l => by
    rw [List.map_cons, List.all_cons, flat_ints l]
    rfl
theorem lst_ne_rd {H : Hp} {R : RdI} {l : VToks} {a : Addr} {xs : List V} (A : R.At K H l) (h : H a = some (.lst xs)) : a ≠ R.r := by
  obtain ⟨m, hm, _⟩ := A.pos
  exact ne_of h hm (by intro z; cases z)
theorem colRes_none {ns : List (List Nat)} {tk : List Nat} {l : VToks} (e : Vaidxa.nameNext l = none) : colRes ns tk l = .error ⟨2, Vaidxa.here l⟩ := by
  unfold colRes Vaidxa.takeCol
  rw [e]
  rfl
theorem colRes_miss {ns : List (List Nat)} {tk : List Nat} {l : VToks} {w : List Nat} (e : Vaidxa.nameNext l = some w) (h : ns.contains w = false) : colRes ns tk l = .error ⟨4, Vaidxa.here l⟩ := by
  unfold colRes Vaidxa.takeCol
  rw [e]
  dsimp only
  rw [findIdx_none h]
  rfl
theorem colRes_hit {ns : List (List Nat)} {tk : List Nat} {l : VToks} {w : List Nat} {c : Nat} (e : Vaidxa.nameNext l = some w) (h : ns.findIdx? (fun x => x == w) = some c) : colRes ns tk l = if tk.contains c then .error ⟨4, Vaidxa.here l⟩ else .ok (c, l.drop 1) := by
  unfold colRes Vaidxa.takeCol
  rw [e]
  dsimp only
  rw [h]
  rfl
theorem len_read_column {vs : List V} {H : Hp} {Q : VK} {E : XK} (h : sp_read_column K vs H Q E) : vs.length = 3 := by
  obtain ⟨_, _, _, _, _, _, rfl, _⟩ := h
  rfl
theorem pure_read_column (T : Txt K mg) (vs : List V) (H : Hp) (Q : VK) (E : XK) (h : sp_read_column K vs H Q E) : t_read_column K E { nx := fun _ H' => Q .non H', rt := Q } (start N_read_column vs) H := by
  obtain ⟨R, l, a, b, ns, tk, rfl, A, hN, hr, hI, k⟩ := h
  obtain ⟨m, hm, _⟩ := A.pos
  refine cur_place T rfl A ?_
  refine ⟨_, rfl, R.r, R.dx, _, rfl, hm, l_Reader_take_name, R, l, rfl, A, fun e => ?_, fun w e H1 A1 p1 => ?_⟩
  · rw [colRes_none e] at k
    exact k
  · have hN1 := names_keep hN hr p1
    refine ⟨_, rfl, _, rfl, a, _, rfl, .inl hN1, rfl, flat_strs ns, _, rfl, ?_⟩
    show if (if true = true then !inV (.str (sS w)) (ns.map fun w => V.str (sS w)) else _) = true then _ else _
    rw [if_pos rfl, inV_strs]
    cases c : ns.contains w with
    | false =>
      rw [colRes_miss e c] at k
      exact if_true_of rfl (raise_at (n := 4) rfl (Err.mono k p1))
    | true =>
      refine if_false_of rfl ?_
      obtain ⟨j, h1, h2, h3⟩ := findIdx_some c
      rw [colRes_hit e h1] at k
      have hj : (ns.map fun w => V.str (sS w))[j]? = some (V.str (sS w)) := by
        rw [List.getElem?_map, h2]
        rfl
      refine ⟨_, rfl, .inl ⟨rfl, _, hN1⟩, _, rfl, a, _, _, j, _, rfl, rfl, hN1, rfl, flat_strs ns, hj, (by show (sS w == sS w) = true; exact beq_self_eq_true _), fun m z' hm' hz' => ?_, ?_⟩
      · rw [List.getElem?_map] at hz'
        obtain ⟨u, hu, rfl⟩ := Option.map_eq_some_iff.mp hz'
        show (sS u == sS w) = false
        rw [beq_eq_false_iff_ne]
        exact fun q => h3 m u hm' hu (sS_inj q)
      have hI1 := p1 _ _ (lst_ne_rd A hI) hI
      refine ⟨_, rfl, _, rfl, b, _, rfl, .inl (SqL.of hI1), rfl, flat_ints tk, _, rfl, ?_⟩
      show if (if false = true then _ else inV (.int (j : Nat)) (tk.map fun n => V.int ((n : Nat) : Int))) = true then _ else _
      rw [if_neg Bool.false_ne_true, inV_ints]
      cases c2 : tk.contains j with
      | true =>
        rw [if_pos c2] at k
        exact if_true_of rfl (raise_at (n := 4) rfl (Err.mono k p1))
      | false =>
        rw [if_neg (by rw [c2]; exact Bool.false_ne_true)] at k
        exact if_false_of rfl ⟨_, rfl, k H1 A1 p1⟩
/-! ### columns -/
def colsOn (ns : List (List Nat)) (n : Nat) (done : List Nat) (l : VToks) : Vaidxa.Got (List Nat × VToks) := if Vaidxa.signIs 44 l then Vaidxa.takeCols ns n done (l.drop 1) else .ok (done, l)
theorem takeCols_step (ns : List (List Nat)) (n : Nat) (done : List Nat) (l : VToks) : Vaidxa.takeCols ns (n + 1) done l = (colRes ns done l).bind fun c => colsOn ns n (done ++ [c.1]) c.2 := by
  show ((Vaidxa.takeCol ns l).bind fun c => if done.contains c.1 then .error ⟨4, Vaidxa.here l⟩ else if Vaidxa.signIs 44 c.2 then Vaidxa.takeCols ns n (done ++ [c.1]) (c.2.drop 1) else .ok (done ++ [c.1], c.2)) = _
  unfold colRes
  cases Vaidxa.takeCol ns l with
  | error z => rfl
  | ok c =>
    show (if done.contains c.1 then _ else _) = ((if done.contains c.1 then (.error ⟨4, Vaidxa.here l⟩ : Vaidxa.Got (Nat × VToks)) else .ok c).bind fun c => colsOn ns n (done ++ [c.1]) c.2)
    cases done.contains c.1 with
    | true => rfl
    | false => rfl
theorem bind_map_got {α β γ : Type} (r : Vaidxa.Got α) (f : α → Vaidxa.Got β) (g : β → γ) : (r.bind f).map g = r.bind fun x => (f x).map g := by
  cases r <;> rfl
theorem colRes_len {ns : List (List Nat)} {tk : List Nat} {l : VToks} {x : Nat × VToks} (h : colRes ns tk l = .ok x) : x.2 = l.drop 1 := by
  unfold colRes Vaidxa.takeCol at h
  cases e : Vaidxa.nameNext l with
  | none =>
    rw [e] at h
    cases h
  | some w =>
    rw [e] at h
    dsimp only at h
    cases e2 : ns.findIdx? (fun x => x == w) with
    | none =>
      rw [e2] at h
      cases h
    | some c =>
      rw [e2] at h
      have h2 : (if tk.contains c then (.error ⟨4, Vaidxa.here l⟩ : Vaidxa.Got (Nat × VToks)) else .ok (c, l.drop 1)) = .ok x := h
      split at h2
      · cases h2
      · injection h2 with h2
        rw [← h2]
theorem len_read_columns {vs : List V} {H : Hp} {Q : VK} {E : XK} (h : sp_read_columns K vs H Q E) : vs.length = 3 := by
  obtain ⟨_, _, _, _, _, _, _, rfl, _⟩ := h
  rfl
theorem pure_read_columns (T : Txt K mg) (vs : List V) (H : Hp) (Q : VK) (E : XK) (h : sp_read_columns K vs H Q E) : t_read_columns K E { nx := fun _ H' => Q .non H', rt := Q } (start N_read_columns vs) H := by
  obtain ⟨R, l, a, b, ns, tk, n, rfl, A, hN, hr, hI, hsz, hn, k⟩ := h
  have hl := At_len A
  cases n with
  | zero => omega
  | succ n =>
    rw [takeCols_step, bind_map_got] at k
    obtain ⟨ke, kq⟩ := k.step
    refine ⟨_, rfl, _, rfl, _, rfl, R, l, a, b, ns, tk, rfl, A, hN, hr, hI, Ret.intro ke fun x e H3 A3 p3 => ?_⟩
    have k3 := (kq x e).mono p3
    refine ⟨(by show 1 ≤ sizeLine; decide), fun cl ncl => ?_⟩
    have hx : x.2.length + 1 ≤ l.length := by
      have h3 := At_len A3
      rw [colRes_len e, List.length_drop] at h3 ⊢
      omega
    have hI3 := p3 _ _ (lst_ne_rd A hI) hI
    have hN3 := names_keep hN hr p3
    refine ⟨fun m σ H' => ∃ (f : Nat) (cs : List Nat) (l' : VToks), m = l'.length ∧ σ = [some (.ref R.r), some (.ref a), some (.ref b), some (.ref cl)] ∧ R.At K H' l' ∧ IntsAt K H' cl cs ∧ cs.length + l'.length ≤ l.length ∧ l'.length ≤ f ∧ Keep R.r H3 H' ∧
        Ret K R H3 E ((colsOn ns f (tk ++ cs) l').map fun x => (x.1.drop tk.length, x.2)) fun cs H' => ∀ p : Addr, IntsAt K (diff H H') p cs → Q (.ref p) H',
      ⟨_, n, [x.1], x.2, rfl, rfl, At_new A3 ncl, upd_same, by show 1 + x.2.length ≤ _; omega, by omega, (Keep.refl R.r H3).new ncl, k3⟩, ?_⟩
    rintro m σ H4 ⟨f, cs, l4, rfl, rfl, A4, hc4, hz4, hf4, p4, k4⟩
    refine skip_sign s_comma rfl A4 (fun e => ⟨_, rfl, if_false_of rfl ?_⟩) fun e H5 A5 p5 => ⟨_, rfl, if_true_of rfl ?_⟩
    · have e4 : colsOn ns f (tk ++ cs) l4 = .ok (tk ++ cs, l4) := if_neg (by rw [e]; exact Bool.false_ne_true)
      rw [e4] at k4
      refine ⟨_, rfl, ?_⟩
      have k5 := k4 H4 A4 p4 cl
      dsimp only at k5
      rw [List.drop_left] at k5
      exact k5 (diff_new (dom_keep p3 A3 cl ncl) hc4)
    · have e5 : colsOn ns f (tk ++ cs) l4 = Vaidxa.takeCols ns f (tk ++ cs) (l4.drop 1) := if_pos e
      rw [e5] at k4
      have hl5 := At_len A5
      rw [List.length_drop] at hl5
      cases f with
      | zero => omega
      | succ f =>
        rw [takeCols_step, bind_map_got] at k4
        have p35 := p4.trans p5
        refine ⟨fun σ' H'' => ∃ m', m' < l4.length ∧ ∃ (f : Nat) (cs : List Nat) (l' : VToks), m' = l'.length ∧ σ' = [some (.ref R.r), some (.ref a), some (.ref b), some (.ref cl)] ∧ R.At K H'' l' ∧ IntsAt K H'' cl cs ∧ cs.length + l'.length ≤ l.length ∧ l'.length ≤ f ∧ Keep R.r H3 H'' ∧
          Ret K R H3 E ((colsOn ns f (tk ++ cs) l').map fun x => (x.1.drop tk.length, x.2)) fun cs H' => ∀ p : Addr, IntsAt K (diff H H') p cs → Q (.ref p) H', fun _ _ h => h, ?_⟩
        have hc5 : H5 cl = some (.lst (cs.map fun n => V.int ((n : Nat) : Int))) := p5 _ _ (new_ne A3 ncl) hc4
        have hI5 := p35 _ _ (lst_ne_rd A3 hI3) hI3
        refine ⟨_, rfl, .inl ⟨rfl, _, SqL.of hc5⟩, _, rfl, _, rfl, _, rfl, _, rfl, b, cl, _, _, rfl, rfl, hI5, hc5, ?_, fun q nq => ?_⟩
        · rw [List.length_map, List.length_map]
          exact Nat.le_of_lt (size_ok (by omega))
        refine ⟨R, l4.drop 1, a, q, ns, tk ++ cs, rfl, At_new A5 nq, ?_, hr, ?_, Ret.intro (fun y e => ?_) fun y e H6 A6 p6 => ?_⟩
        · exact names_keep (names_keep hN3 hr p35) hr ((Keep.refl R.r H5).new nq)
        · show upd _ _ _ q = _
          rw [upd_same, List.map_append]
        · rw [e] at k4
          exact Err.mono k4 (p35.trans ((Keep.refl R.r H5).new nq))
        · rw [e] at k4
          have k6 : Ret K R H3 E ((colsOn ns f (tk ++ cs ++ [y.1]) y.2).map fun x => (x.1.drop tk.length, x.2)) fun cs H' => ∀ p : Addr, IntsAt K (diff H H') p cs → Q (.ref p) H' := k4
          have p56 : Keep R.r H5 H6 := ((Keep.refl R.r H5).new nq).trans p6
          have hc6 := p56 _ _ (new_ne A3 ncl) hc5
          have hy : y.2.length + 1 ≤ l4.length - 1 := by
            have h6 := At_len A6
            rw [colRes_len e, List.length_drop, List.length_drop] at h6 ⊢
            omega
          refine ⟨cl, _, _, rfl, rfl, hc6, ?_, y.2.length, by omega, f, cs ++ [y.1], y.2, rfl, rfl, A3.upd A6 (p35.trans p56) ncl, ?_, ?_, by omega, (p35.trans p56).new ncl, ?_⟩
          · rw [List.length_map]
            exact size_ok (by omega)
          · show upd _ _ _ cl = _
            rw [upd_same, List.map_append]
            rfl
          · rw [List.length_append]
            show cs.length + 1 + y.2.length ≤ _
            omega
          · rw [← List.append_assoc]
            exact k6
/-! ### filters -/
theorem colRes_nil (ns : List (List Nat)) (l : VToks) : colRes ns [] l = Vaidxa.takeCol ns l := by
  unfold colRes
  cases Vaidxa.takeCol ns l <;> rfl
theorem ne_rdO {R : RdI} {n : Nat} {C dx : Addr} {fs : List (Str × V)} (h : fs.length ≠ 2) : HO.ins C dx fs ≠ RdO K R n := by
  intro z
  unfold RdO at z
  injection z with _ _ z
  rw [z] at h
  exact h rfl
theorem At_ne {H : Hp} {R : RdI} {l : VToks} {a C dx : Addr} {fs : List (Str × V)} (A : R.At K H l) (h : H a = some (.ins C dx fs)) (hf : fs.length ≠ 2) : a ≠ R.r := by
  obtain ⟨m, hm, _⟩ := A.pos
  exact ne_of h hm (ne_rdO hf)
/-- reader.take_number(lo, hi) -/
theorem num_call {σ : L2.St} {H : Hp} {R : RdI} {l : VToks} {E : XK} {Q : VK} {i lo hi : Nat} {ta tb : TE} (h0 : σ[i]? = some (some (.ref R.r))) (A : R.At K H l) (ha : ∀ Q' : VK, Q' (.int (lo : Nat)) H → ta σ H Q') (hb : ∀ Q' : VK, Q' (.int (hi : Nat)) H → tb σ H Q')
    (ke : ∀ z, Vaidxa.takeNum lo hi l = .error z → Err K R.r H E z) (kq : ∀ x, Vaidxa.takeNum lo hi l = .ok x → ∀ H1, R.At K H1 x.2 → Keep R.r H H1 → Q (.int (x.1 : Nat)) H1) :
    tMeth (He.ga K "Reader") "take_number" (sp_Reader_take_number K) [] E (tVar i) (tCons ta (tCons tb tNil)) σ H Q := by
  obtain ⟨m, hm, _⟩ := A.pos
  refine ⟨_, h0, R.r, R.dx, _, rfl, hm, l_Reader_take_number, ha _ (hb _ ?_)⟩
  exact ⟨R, l, lo, hi, rfl, A, Ret.intro ke kq⟩
theorem takeNum_len {lo hi : Nat} {l : VToks} {x : Nat × VToks} (h : Vaidxa.takeNum lo hi l = .ok x) : x.2 = l.drop 1 := by
  unfold Vaidxa.takeNum at h
  split at h
  · split at h
    · injection h with h
      rw [← h]
      rfl
    · cases h
  · cases h
theorem len_read_filter {vs : List V} {H : Hp} {Q : VK} {E : XK} (h : sp_read_filter K vs H Q E) : vs.length = 2 := by
  obtain ⟨_, _, _, _, rfl, _⟩ := h
  rfl
theorem pure_read_filter (T : Txt K mg) (vs : List V) (H : Hp) (Q : VK) (E : XK) (h : sp_read_filter K vs H Q E) : t_read_filter K E { nx := fun _ H' => Q .non H', rt := Q } (start N_read_filter vs) H := by
  obtain ⟨R, l, a, ns, rfl, A, hN, hr, k⟩ := h
  unfold Vaidxa.takeFilter at k
  rw [← colRes_nil] at k
  obtain ⟨ke, kq⟩ := k.step
  refine ⟨_, rfl, _, rfl, (by show 0 ≤ sizeLine; decide), fun z nz => ⟨R, l, a, z, ns, [], rfl, At_new A nz, names_keep hN hr ((Keep.refl R.r H).new nz), hr, upd_same, Ret.intro (fun y e => (ke y e).mono ((Keep.refl R.r H).new nz)) fun c e H1 A1 p1 => ?_⟩⟩
  have p01 : Keep R.r H H1 := ((Keep.refl R.r H).new nz).trans p1
  have k1 := (kq c e).mono p01
  refine skip_sign s_eq rfl A1 (fun e2 => ⟨_, rfl, if_false_of rfl ?_⟩) fun e2 H2 A2 p2 => ⟨_, rfl, if_true_of rfl ?_⟩
  · rw [if_neg (by rw [e2]; exact Bool.false_ne_true)] at k1
    obtain ⟨ke, kq⟩ := k1.step
    refine exp_word w_from rfl A1 ke fun l2 e3 H2 A2 p2 => ?_
    obtain ⟨ke, kq⟩ := ((kq l2 e3).mono p2).step
    refine num_call (lo := 0) (hi := 9) rfl A2 (fun _ q => q) (fun _ q => q) ke fun x e4 H3 A3 p3 => ?_
    obtain ⟨ke, kq⟩ := ((kq x e4).mono p3).step
    refine exp_word w_to rfl A3 ke fun l4 e5 H4 A4 p4 => ?_
    obtain ⟨ke, kq⟩ := ((kq l4 e5).mono p4).stepM
    refine num_call (lo := x.1) (hi := 9) rfl A4 (fun _ q => ⟨_, rfl, q⟩) (fun _ q => q) ke fun y e6 H5 A5 p5 => ?_
    refine ⟨_, rfl, _, rfl, _, rfl, fun u dx nu nd ne => ⟨u, dx, _, _, _, rfl, upd_same, fun H6 h6 k6 => ⟨rfl, ?_⟩⟩⟩
    have s6 := Same.made nu nd k6
    exact kq y e6 H6 (A5.same s6) (p5.trans (Keep.same s6)) u ⟨dx, diff_new (dom_keep ((((p01.trans p2).trans p3).trans p4).trans p5) A5 u nu) h6⟩
  · rw [if_pos e2] at k1
    obtain ⟨ke, kq⟩ := (k1.mono p2).stepM
    refine num_call (lo := 0) (hi := 9) rfl A2 (fun _ q => q) (fun _ q => q) ke fun x e4 H3 A3 p3 => ?_
    refine ⟨_, rfl, _, rfl, _, rfl, fun u dx nu nd ne => ⟨u, dx, _, _, _, rfl, upd_same, fun H6 h6 k6 => ⟨rfl, ?_⟩⟩⟩
    have s6 := Same.made nu nd k6
    exact kq x e4 H6 (A3.same s6) (p3.trans (Keep.same s6)) u ⟨dx, diff_new (dom_keep ((p01.trans p2).trans p3) A3 u nu) h6⟩
end
end Ix
-- part IxG3
set_option maxHeartbeats 4000000
namespace Ix
open PySem PySem.Spec PyProof.Rows L2
/-! ### a table's parts, as they lie -/
def GroupAt (K : PySem.W.Frag) (H : Hp) (a : Addr) (g : VaidxBase.Group) : Prop := ∃ dx cl : Addr, H a = some (.ins (He.ga K "Group") dx (F_Group (.ref cl) (.int (g.count : Nat)))) ∧ IntsAt K H cl g.row
def GroupsAt (K : PySem.W.Frag) (H : Hp) (a : Addr) (gs : List VaidxBase.Group) : Prop := ∃ as : List Addr, H a = some (.lst (as.map V.ref)) ∧ Each (GroupAt K H) as gs
theorem groupAt_same {K : PySem.W.Frag} {H H' : Hp} {a : Addr} {g : VaidxBase.Group} (h : GroupAt K H a g) (s : Same H H') : GroupAt K H' a g := by
  obtain ⟨dx, cl, e, i⟩ := h
  exact ⟨dx, cl, s _ _ e, s _ _ i⟩
theorem groupsAt_same {K : PySem.W.Frag} {H H' : Hp} {a : Addr} {gs : List VaidxBase.Group} (h : GroupsAt K H a gs) (s : Same H H') : GroupsAt K H' a gs := by
  obtain ⟨as, e, ea⟩ := h
  exact ⟨as, s _ _ e, ea.mono fun _ _ z => groupAt_same z s⟩
def cellsRes (n : Nat) (gs : List VaidxBase.Group) (l : VToks) : Vaidxa.Got (List Nat × VToks) := (Vaidxa.takeValues n l).bind fun v => if gs.any (fun g => g.row == v.1) then .error ⟨4, Vaidxa.here l⟩ else .ok v
def sp_read_cells (K : PySem.W.Frag) : Sp := fun vs H Q E => ∃ (R : RdI) (l : VToks) (s dx c g : Addr) (x y : V) (ns : List (List Nat)) (gs : List VaidxBase.Group), vs = [.ref R.r, .ref s] ∧ R.At K H l ∧ H s = some (.ins (He.ga K "Sheet") dx (F_Sheet (.ref c) (.ref g) x y)) ∧ H c = some (.lst (ns.map fun w => V.str (sS w))) ∧ GroupsAt K H g gs ∧
  1 ≤ ns.length ∧ ns.length ≤ 4 ∧ gs.length ≤ 1000 ∧ Ret K R H E (cellsRes ns.length gs l) fun row H' => ∀ p : Addr, IntsAt K (diff H H') p row → Q (.ref p) H'
def groupRes (n : Nat) (gs : List VaidxBase.Group) (l : VToks) : Vaidxa.Got (VaidxBase.Group × VToks) := (Vaidxa.takeWord "row" l).bind fun l1 => (cellsRes n gs l1).bind fun v => (Vaidxa.takeWord "times" v.2).bind fun x => (Vaidxa.takeNum 1 1000000 x).bind fun c => (Vaidxa.takeSign 59 c.2).map fun r => (⟨v.1, c.1⟩, r)
def sp_read_group (K : PySem.W.Frag) : Sp := fun vs H Q E => ∃ (R : RdI) (l : VToks) (s dx c g : Addr) (x y : V) (ns : List (List Nat)) (gs : List VaidxBase.Group), vs = [.ref R.r, .ref s] ∧ R.At K H l ∧ H s = some (.ins (He.ga K "Sheet") dx (F_Sheet (.ref c) (.ref g) x y)) ∧ H c = some (.lst (ns.map fun w => V.str (sS w))) ∧ GroupsAt K H g gs ∧
  1 ≤ ns.length ∧ ns.length ≤ 4 ∧ gs.length ≤ 1000 ∧ Ret K R H E (groupRes ns.length gs l) fun gr H' => ∀ p : Addr, GroupAt K (diff H H') p gr → Q (.ref p) H'
abbrev N_read_cells : List Str := ["reader", "sheet", "place", "cells", "group"]
def t_read_cells (K : PySem.W.Frag) (E : XK) : TS :=
  (tSeq (tAsg (tFld K (tMeth (He.ga K "Reader") "current" (sp_Reader_current K) [] E0 (tVar 0) tNil) "place") (gName 2))
    (tSeq (tAsg (tLst (tCons (tMeth (He.ga K "Reader") "take_number" (sp_Reader_take_number K) [] E (tVar 0) (tCons (tC (.int 0)) (tCons (tC (.int 9)) tNil))) tNil)) (gName 3))
    (tSeq (tWhile (tTest (tOp rLt_ (tCB (rLen_ K) (tCons (tVar 3) tNil)) (tCB (rLen_ K) (tCons (tFld K (tVar 1) "columns") tNil)))) (tSeq (tDrop (tMeth (He.ga K "Reader") "expect" (sp_Reader_expect K) [] E (tVar 0) (tCons (tC (.str ",")) tNil)))
    (tDrop (tBM K "list" rAppend (tVar 3) (tCons (tMeth (He.ga K "Reader") "take_number" (sp_Reader_take_number K) [] E (tVar 0) (tCons (tC (.int 0)) (tCons (tC (.int 9)) tNil))) tNil)))))
    (tSeq (tIfS (tTest (tOp (rInD K) (tVar 3) (tLc (iList K (tFld K (tVar 1) "groups")) (gName 4) tYes (tFld K (tVar 4) "cells") [4]))) (tRaiseFt (He.ga K "Fault") E (tCons (tC (.int 4)) (tCons (tVar 2) tNil))) tNext)
    (tRet (tVar 3))))))
abbrev N_read_group : List Str := ["reader", "sheet", "cells", "rows"]
def t_read_group (K : PySem.W.Frag) (E : XK) : TS :=
  (tSeq (tDrop (tMeth (He.ga K "Reader") "expect" (sp_Reader_expect K) [] E (tVar 0) (tCons (tC (.str "row")) tNil)))
    (tSeq (tAsg (tCall (sp_read_cells K) [] E (tCons (tVar 0) (tCons (tVar 1) tNil))) (gName 2))
    (tSeq (tDrop (tMeth (He.ga K "Reader") "expect" (sp_Reader_expect K) [] E (tVar 0) (tCons (tC (.str "times")) tNil)))
    (tSeq (tAsg (tMeth (He.ga K "Reader") "take_number" (sp_Reader_take_number K) [] E (tVar 0) (tCons (tC (.int 1)) (tCons (tC (.int 1000000)) tNil))) (gName 3))
    (tSeq (tDrop (tMeth (He.ga K "Reader") "expect" (sp_Reader_expect K) [] E (tVar 0) (tCons (tC (.str ";")) tNil)))
    (tRet (tMake (He.ga K "Group") (sp_Group_init K) [] E0 (tCons (tVar 2) (tCons (tVar 3) tNil)))))))))
section
variable {K : PySem.W.Frag} {mg : Str → Option Value}
/-! ### filters -/
def filtsOn (ns : List (List Nat)) (n : Nat) (done : List VaidxBase.Filter) (l : VToks) : Vaidxa.Got (List VaidxBase.Filter × VToks) := if Vaidxa.wordIs "and" l then Vaidxa.takeFilters ns n done (l.drop 1) else .ok (done, l)
theorem takeFilters_step (ns : List (List Nat)) (n : Nat) (done : List VaidxBase.Filter) (l : VToks) : Vaidxa.takeFilters ns (n + 1) done l = (Vaidxa.takeFilter ns l).bind fun f => if done.any (fun x => x.col == f.1.col) then .error ⟨4, Vaidxa.here l⟩ else filtsOn ns n (done ++ [f.1]) f.2 := rfl
theorem takeFilter_len {ns : List (List Nat)} {l : VToks} {x : VaidxBase.Filter × VToks} (h : Vaidxa.takeFilter ns l = .ok x) : x.2.length ≤ l.length := by
  unfold Vaidxa.takeFilter at h
  cases e : Vaidxa.takeCol ns l with
  | error z =>
    rw [e] at h
    cases h
  | ok c =>
    have hc : c.2 = l.drop 1 := colRes_len (ns := ns) (tk := []) (by rw [colRes_nil]; exact e)
    rw [e] at h
    have h : (if Vaidxa.signIs 61 c.2 then (Vaidxa.takeNum 0 VaidxBase.VALUE (c.2.drop 1)).map fun v => ((⟨c.1, v.1, v.1⟩ : VaidxBase.Filter), v.2)
      else (Vaidxa.takeWord "from" c.2).bind fun f => (Vaidxa.takeNum 0 VaidxBase.VALUE f).bind fun a => (Vaidxa.takeWord "to" a.2).bind fun t => (Vaidxa.takeNum a.1 VaidxBase.VALUE t).map fun b => ((⟨c.1, a.1, b.1⟩ : VaidxBase.Filter), b.2)) = .ok x := h
    split at h
    · cases e2 : Vaidxa.takeNum 0 VaidxBase.VALUE (c.2.drop 1) with
      | error z =>
        rw [e2] at h
        cases h
      | ok v =>
        rw [e2] at h
        have h : (Except.ok ((⟨c.1, v.1, v.1⟩ : VaidxBase.Filter), v.2) : Vaidxa.Got _) = .ok x := h
        injection h with h
        rw [← h]
        show v.2.length ≤ _
        rw [takeNum_len e2, hc, List.length_drop, List.length_drop, List.length_drop]
        omega
    · cases e2 : Vaidxa.takeWord "from" c.2 with
      | error z =>
        rw [e2] at h
        cases h
      | ok f =>
        rw [e2] at h
        have h : ((Vaidxa.takeNum 0 VaidxBase.VALUE f).bind fun a => (Vaidxa.takeWord "to" a.2).bind fun t => (Vaidxa.takeNum a.1 VaidxBase.VALUE t).map fun b => ((⟨c.1, a.1, b.1⟩ : VaidxBase.Filter), b.2)) = .ok x := h
        cases e3 : Vaidxa.takeNum 0 VaidxBase.VALUE f with
        | error z =>
          rw [e3] at h
          cases h
        | ok a =>
          rw [e3] at h
          have h : ((Vaidxa.takeWord "to" a.2).bind fun t => (Vaidxa.takeNum a.1 VaidxBase.VALUE t).map fun b => ((⟨c.1, a.1, b.1⟩ : VaidxBase.Filter), b.2)) = .ok x := h
          cases e4 : Vaidxa.takeWord "to" a.2 with
          | error z =>
            rw [e4] at h
            cases h
          | ok t =>
            rw [e4] at h
            have h : ((Vaidxa.takeNum a.1 VaidxBase.VALUE t).map fun b => ((⟨c.1, a.1, b.1⟩ : VaidxBase.Filter), b.2)) = .ok x := h
            cases e5 : Vaidxa.takeNum a.1 VaidxBase.VALUE t with
            | error z =>
              rw [e5] at h
              cases h
            | ok b =>
              rw [e5] at h
              have h : (Except.ok ((⟨c.1, a.1, b.1⟩ : VaidxBase.Filter), b.2) : Vaidxa.Got _) = .ok x := h
              injection h with h
              rw [← h]
              show b.2.length ≤ _
              rw [takeNum_len e5, takeWord_len e4, takeNum_len e3, takeWord_len e2, hc]
              simp only [List.length_drop]
              omega
theorem filterAt_upd {H0 H : Hp} {a p : Addr} {f : VaidxBase.Filter} {xs ys : List V} (h : FilterAt K (diff H0 H) a f) (hl : H p = some (.lst xs)) : FilterAt K (diff H0 (upd H p (.lst ys))) a f := by
  obtain ⟨dx, e⟩ := h
  obtain ⟨e1, e2⟩ := diff_get e
  refine ⟨dx, diff_new e1 ?_⟩
  rw [upd_ne (ne_of e2 hl (by intro z; cases z))]
  exact e2
theorem any_cols (c : Nat) : ∀ fs : List VaidxBase.Filter, (fs.map fun f => f.col).contains c = fs.any (fun x => x.col == c)
  | [] => rfl
  | f :: fs => by
    rw [List.map_cons, List.contains_cons, any_cols c fs, List.any_cons]
    have e : (c == f.col) = (f.col == c) := by
      by_cases h : c = f.col
      · rw [h]
      · have h2 : ¬ f.col = c := fun z => h z.symm
        rw [beq_eq_false_iff_ne.mpr h, beq_eq_false_iff_ne.mpr h2]
    rw [e]
theorem len_read_filters {vs : List V} {H : Hp} {Q : VK} {E : XK} (h : sp_read_filters K vs H Q E) : vs.length = 2 := by
  obtain ⟨_, _, _, _, _, rfl, _⟩ := h
  rfl
theorem pure_read_filters (T : Txt K mg) (vs : List V) (H : Hp) (Q : VK) (E : XK) (h : sp_read_filters K vs H Q E) : t_read_filters K E { nx := fun _ H' => Q .non H', rt := Q } (start N_read_filters vs) H := by
  obtain ⟨R, l, a, ns, n, rfl, A, hN, hr, hsz, hn, k⟩ := h
  have hl := At_len A
  cases n with
  | zero => omega
  | succ n =>
    rw [takeFilters_step] at k
    obtain ⟨ke, kq⟩ := k.step
    refine ⟨_, rfl, _, rfl, R, l, a, ns, rfl, A, hN, hr, Ret.intro ke fun x e H3 A3 p3 u hu => ?_⟩
    have k3 := (kq x e).mono p3
    rw [if_neg (by exact Bool.false_ne_true)] at k3
    refine ⟨(by show 1 ≤ sizeLine; decide), fun fl nfl => ?_⟩
    have hx := takeFilter_len e
    have hN3 := names_keep hN hr p3
    have d3 : Dom H H3 := dom_keep p3 A3
    have hu' : FilterAt K (diff H (upd H3 fl (.lst [.ref u]))) u x.1 := filterAt_same hu (diff_on fun b o _ hb => by rw [upd_ne (ne_of_none hb nfl)]; exact hb)
    refine ⟨fun m σ H' => ∃ (f : Nat) (done : List VaidxBase.Filter) (as : List Addr) (l' : VToks) (v w : Option V), m = l'.length ∧ σ = [some (.ref R.r), some (.ref a), some (.ref fl), v, w, none] ∧ R.At K H' l' ∧ H' fl = some (.lst (as.map V.ref)) ∧ Each (FilterAt K (diff H H')) as done ∧ done.length + l'.length ≤ l.length + 1 ∧ l'.length ≤ f + 1 ∧ Keep R.r H3 H' ∧
        Ret K R H3 E (filtsOn ns f done l') fun fs H' => ∀ p : Addr, FiltersAt K (diff H H') p fs → Q (.ref p) H',
      ⟨_, n, [x.1], [u], x.2, none, none, rfl, rfl, At_new A3 nfl, upd_same, Each.push Each.nil hu', by show 1 + x.2.length ≤ _; omega, by omega, (Keep.refl R.r H3).new nfl, k3⟩, ?_⟩
    rintro m σ H4 ⟨f, done, as, l4, v, w, rfl, rfl, A4, hc4, hE4, hz4, hf4, p4, k4⟩
    refine skip_word w_and rfl A4 (fun e => ⟨_, rfl, if_false_of rfl ?_⟩) fun e H5 A5 p5 => ⟨_, rfl, if_true_of rfl ?_⟩
    · have e4 : filtsOn ns f done l4 = .ok (done, l4) := if_neg (by rw [e]; exact Bool.false_ne_true)
      rw [e4] at k4
      exact ⟨_, rfl, k4 H4 A4 p4 fl ⟨as, diff_new (d3 fl nfl) hc4, hE4⟩⟩
    · have e5 : filtsOn ns f done l4 = Vaidxa.takeFilters ns f done (l4.drop 1) := if_pos e
      rw [e5] at k4
      have hl5 := At_len A5
      rw [List.length_drop] at hl5
      cases f with
      | zero => omega
      | succ f =>
        rw [takeFilters_step] at k4
        have p35 := p4.trans p5
        refine ⟨fun σ' H'' => ∃ m', m' < l4.length ∧ ∃ (f : Nat) (done : List VaidxBase.Filter) (as : List Addr) (l' : VToks) (v w : Option V), m' = l'.length ∧ σ' = [some (.ref R.r), some (.ref a), some (.ref fl), v, w, none] ∧ R.At K H'' l' ∧ H'' fl = some (.lst (as.map V.ref)) ∧ Each (FilterAt K (diff H H'')) as done ∧ done.length + l'.length ≤ l.length + 1 ∧ l'.length ≤ f + 1 ∧ Keep R.r H3 H'' ∧
          Ret K R H3 E (filtsOn ns f done l') fun fs H' => ∀ p : Addr, FiltersAt K (diff H H') p fs → Q (.ref p) H', fun _ _ h => h, ?_⟩
        have hc5 := p5 _ _ (new_ne A3 nfl) hc4
        have hE5 : Each (FilterAt K (diff H H5)) as done := hE4.mono fun _ _ z => filterAt_same z (diff_keep A p5)
        refine cur_place T rfl A5 ?_
        refine ⟨_, rfl, _, rfl, R, l4.drop 1, a, ns, rfl, A5, names_keep hN3 hr p35, hr, Ret.intro (fun y e => ?_) fun y e H6 A6 p6 u6 hu6 => ?_⟩
        · rw [e] at k4
          exact Err.mono k4 p35
        rw [e] at k4
        have k6 : Ret K R H3 E (if done.any (fun x => x.col == y.1.col) then (.error ⟨4, Vaidxa.here (l4.drop 1)⟩ : Vaidxa.Got (List VaidxBase.Filter × VToks)) else filtsOn ns f (done ++ [y.1]) y.2) fun fs H' => ∀ p : Addr, FiltersAt K (diff H H') p fs → Q (.ref p) H' := k4
        have hc6 := p6 _ _ (new_ne A3 nfl) hc5
        have d5 : Dom H H5 := d3.trans (dom_keep p35 A5)
        have hu6' : FilterAt K (diff H H6) u6 y.1 := filterAt_same hu6 (diff_dom d5)
        have hE6 : Each (FilterAt K (diff H H6)) as done := hE5.mono fun _ _ z => filterAt_same z (diff_keep A p6)
        obtain ⟨dx6, hx6⟩ := hu6'
        have hx6' := same_diff _ _ hx6
        refine ⟨_, rfl, u6, _, dx6, _, _, rfl, hx6', cl_Filter T, n_Filter_column T, l_Filter_column, _, rfl, fl, rfl, ⟨_, SqL.of hc6⟩, fun D nD => ?_⟩
        refine lc_ys (K := K) (xs := as.map V.ref) ((done.map fun f => f.col).map fun n => V.int ((n : Nat) : Int)) (by rw [List.length_map, List.length_map, List.length_map, hE6.1]) nD (SqL.of hc6) (by rw [List.length_map, hE6.1]; omega) (fun j q y' hq hy' H' hs Qe hQ => ?_) (fun H7 hd hs => ?_)
        · rw [List.getElem?_map] at hq hy'
          obtain ⟨c', hc', rfl⟩ := Option.map_eq_some_iff.mp hy'
          rw [List.getElem?_map] at hc'
          obtain ⟨fj, hfj, rfl⟩ := Option.map_eq_some_iff.mp hc'
          obtain ⟨aj, haj, dj, hdj⟩ := hE6.2 j fj hfj
          rw [haj] at hq
          cases hq
          exact ⟨_, rfl, aj, _, dj, _, _, rfl, hs _ _ (same_diff _ _ hdj), cl_Filter T, n_Filter_column T, l_Filter_column, hQ H' (Same.refl _)⟩
        · refine ⟨D, _, rfl, .inl (SqL.of hd), rfl, flat_ints _, _, rfl, ?_⟩
          show if (if false = true then _ else inV (.int ((y.1.col : Nat) : Int)) ((done.map fun f => f.col).map fun n => V.int ((n : Nat) : Int))) = true then _ else _
          rw [if_neg Bool.false_ne_true, inV_ints, any_cols]
          have p67 : Keep R.r H6 H7 := Keep.same hs
          cases c : done.any (fun x => x.col == y.1.col) with
          | true =>
            rw [if_pos c] at k6
            exact if_true_of rfl (raise_at (n := 4) rfl (Err.mono k6 ((p35.trans p6).trans p67)))
          | false =>
            rw [if_neg (by rw [c]; exact Bool.false_ne_true)] at k6
            refine if_false_of rfl ?_
            have hc7 := hs _ _ hc6
            have hE7 : Each (FilterAt K (diff H H7)) as done := hE6.mono fun _ _ z => filterAt_same z (diff_keep A p67)
            have hu7 : FilterAt K (diff H H7) u6 y.1 := filterAt_same ⟨dx6, hx6⟩ (diff_keep A p67)
            have hy := takeFilter_len e
            rw [List.length_drop] at hy
            refine ⟨_, rfl, .inl ⟨rfl, _, SqL.of hc7⟩, _, rfl, fl, _, _, rfl, rfl, hc7, ?_, y.2.length, by omega, f, done ++ [y.1], as ++ [u6], y.2, _, _, rfl, rfl, A3.upd (A6.same hs) ((p35.trans p6).trans p67) nfl, ?_, ?_, ?_, by omega, ((p35.trans p6).trans p67).new nfl, k6⟩
            · rw [List.length_map, hE7.1]
              exact size_ok (by omega)
            · rw [upd_same, List.map_append]
              rfl
            · exact Each.push (hE7.mono fun _ _ z => filterAt_upd z hc7) (filterAt_upd hu7 hc7)
            · rw [List.length_append]
              show done.length + 1 + y.2.length ≤ _
              omega
/-! ### a row's values -/
def iD (row : List Nat) : PyData := .list (row.map fun n => .int (n : Nat))
theorem dp_ints {H : Hp} : ∀ row : List Nat, DpAll K H (row.map fun n => V.int ((n : Nat) : Int)) (row.map fun n => PyData.int (n : Nat))
  | [] => .nil
  | n :: row => .cons (.int _) (dp_ints row)
theorem eqvAll_ints : ∀ a b : List Nat, PyData.eqvAll (a.map fun n => PyData.int (n : Nat)) (b.map fun n => PyData.int (n : Nat)) = (a == b)
  | [], [] => rfl
  | [], _ :: _ => rfl
  | _ :: _, [] => rfl
  | x :: a, y :: b => by
    show (PyData.eqv (.int (x : Nat)) (.int (y : Nat)) && PyData.eqvAll (a.map fun n => PyData.int (n : Nat)) (b.map fun n => PyData.int (n : Nat))) = (x == y && a == b)
    rw [eqvAll_ints a b]
    have e : PyData.eqv (.int (x : Nat)) (.int (y : Nat)) = (x == y) := by
      unfold PyData.eqv
      by_cases h : x = y
      · subst h
        simp
      · rw [beq_eq_false_iff_ne.mpr h, beq_eq_false_iff_ne]
        omega
    rw [e]
theorem eqv_iD (a b : List Nat) : PyData.eqv (iD a) (iD b) = (a == b) := by
  unfold iD
  rw [PyData.eqv]
  exact eqvAll_ints a b
theorem lay_ints : ∀ row : List Nat, PyData.canLayAll0 (row.map fun n => PyData.int (n : Nat)) = true
  | [] => by simp [PyData.canLayAll0]
  | n :: row => by
    rw [List.map_cons, PyData.canLayAll0, lay_ints row, PyData.canLay0]
    rfl
theorem dep_ints : ∀ row : List Nat, PyData.depthAll (row.map fun n => PyData.int (n : Nat)) = 0
  | [] => by simp [PyData.depthAll]
  | n :: row => by
    rw [List.map_cons, PyData.depthAll, dep_ints row, PyData.depth]
    rfl
theorem dep_iD (row : List Nat) : (iD row).depth = 1 := by
  unfold iD
  rw [PyData.depth, dep_ints]
theorem shaped_iD (row : List Nat) : SeqAt.shaped (iD row) = true := by
  unfold SeqAt.shaped
  rw [dep_iD]
  unfold iD
  rw [PyData.canLay0, lay_ints]
  rfl
theorem shaped_rows (rows : List (List Nat)) : SeqAt.shaped (.list (rows.map iD)) = true := by
  have h1 : ∀ l : List (List Nat), PyData.canLayAll0 (l.map iD) = true := fun l => by
    induction l with
    | nil => simp [PyData.canLayAll0]
    | cons r l ih =>
      rw [List.map_cons, PyData.canLayAll0, ih]
      have := (Bool.and_eq_true_iff.mp (shaped_iD r)).1
      rw [this]
      rfl
  have h2 : ∀ l : List (List Nat), PyData.depthAll (l.map iD) ≤ 1 := fun l => by
    induction l with
    | nil => simp [PyData.depthAll]
    | cons r l ih =>
      rw [List.map_cons, PyData.depthAll, dep_iD]
      omega
  unfold SeqAt.shaped
  rw [PyData.canLay0, h1, PyData.depth]
  have := h2 rows
  simp
  omega
theorem any_rows (v : List Nat) : ∀ gs : List VaidxBase.Group, ((gs.map fun g => g.row).map iD).any (fun z => PyData.eqv z (iD v)) = gs.any (fun g => g.row == v)
  | [] => rfl
  | g :: gs => by
    rw [List.map_cons, List.map_cons, List.any_cons, any_rows v gs, eqv_iD, List.any_cons]
/-- one thing more of each -/
theorem Each.choose {α : Type} {P : Addr → α → Addr → Prop} : ∀ {as : List Addr} {xs : List α}, Each (fun a x => ∃ c, P a x c) as xs → ∃ cs : List Addr, cs.length = xs.length ∧ ∀ (j : Nat) (x : α) (a : Addr), xs[j]? = some x → as[j]? = some a → ∃ c, cs[j]? = some c ∧ P a x c := fun {as xs} h => by
  induction xs generalizing as with
  | nil => exact ⟨[], rfl, fun j x a hx => by simp at hx⟩
  | cons x xs ih =>
    obtain ⟨hl, hp⟩ := h
    cases as with
    | nil => simp at hl
    | cons a as =>
      obtain ⟨a', ha', c, hc⟩ := hp 0 x rfl
      cases ha'
      obtain ⟨cs, h1, h2⟩ := ih (as := as) ⟨by simpa using hl, fun i y hy => hp (i + 1) y hy⟩
      refine ⟨c :: cs, by rw [List.length_cons, List.length_cons, h1], fun j y b hy hb => ?_⟩
      cases j with
      | zero =>
        cases hy
        cases hb
        exact ⟨c, rfl, hc⟩
      | succ j => exact h2 j y b hy hb
theorem dp_rows {H : Hp} : ∀ {cs : List Addr} {rows : List (List Nat)}, cs.length = rows.length → (∀ (j : Nat) (r : List Nat), rows[j]? = some r → ∃ c, cs[j]? = some c ∧ IntsAt K H c r) → DpAll K H (cs.map V.ref) (rows.map iD)
  | [], [], _, _ => .nil
  | [], _ :: _, h, _ => by simp at h
  | _ :: _, [], h, _ => by simp at h
  | c :: cs, r :: rows, h, hp => by
    obtain ⟨c', hc', hi⟩ := hp 0 r rfl
    cases hc'
    exact .cons (.lst (SqL.of hi) (dp_ints r)) (dp_rows (by simpa using h) fun j r hr => hp (j + 1) r hr)
end
end Ix
-- part IxG4
set_option maxHeartbeats 4000000
namespace Ix
open PySem PySem.Spec PyProof.Rows L2
section
variable {K : PySem.W.Frag} {mg : Str → Option Value}
def valsOn (m : Nat) (l : VToks) : Vaidxa.Got (List Nat × VToks) := match m with
  | 0 => .ok ([], l)
  | m + 1 => (Vaidxa.takeSign 44 l).bind fun r => Vaidxa.takeValues (m + 1) r
theorem takeValues_step (m : Nat) (l : VToks) : Vaidxa.takeValues (m + 1) l = (Vaidxa.takeNum 0 9 l).bind fun v => (valsOn m v.2).map fun x => (v.1 :: x.1, x.2) := by
  show ((Vaidxa.takeNum 0 VaidxBase.VALUE l).bind fun v => if m = 0 then .ok ([v.1], v.2) else (Vaidxa.takeSign 44 v.2).bind fun r => (Vaidxa.takeValues m r).map fun x => (v.1 :: x.1, x.2)) = _
  show ((Vaidxa.takeNum 0 9 l).bind _) = _
  cases Vaidxa.takeNum 0 9 l with
  | error z => rfl
  | ok v =>
    show (if m = 0 then _ else _) = (valsOn m v.2).map fun x => (v.1 :: x.1, x.2)
    cases m with
    | zero => rfl
    | succ m =>
      rw [if_neg (by omega)]
      show _ = ((Vaidxa.takeSign 44 v.2).bind fun r => Vaidxa.takeValues (m + 1) r).map fun x => (v.1 :: x.1, x.2)
      rw [bind_map_got]
theorem map_bind_got {α β γ : Type} (r : Vaidxa.Got α) (g : α → β) (f : β → Vaidxa.Got γ) : (r.map g).bind f = r.bind fun x => f (g x) := by
  cases r <;> rfl
theorem bind_bind_got {α β γ : Type} (r : Vaidxa.Got α) (g : α → Vaidxa.Got β) (f : β → Vaidxa.Got γ) : (r.bind g).bind f = r.bind fun x => (g x).bind f := by
  cases r <;> rfl
theorem len_read_cells {vs : List V} {H : Hp} {Q : VK} {E : XK} (h : sp_read_cells K vs H Q E) : vs.length = 2 := by
  obtain ⟨_, _, _, _, _, _, _, _, _, _, rfl, _⟩ := h
  rfl
theorem grp_ne_rd {R : RdI} {n : Nat} {C dx : Addr} {x y : V} : HO.ins C dx (F_Group x y) ≠ RdO K R n := by
  intro z
  unfold RdO F_Group F_Reader at z
  injection z with _ _ z
  injection z with z _
  injection z with z _
  exact absurd z (by decide +kernel)
theorem groups_keep {H H1 : Hp} {R : RdI} {l : VToks} {g : Addr} {gs : List VaidxBase.Group} (A : R.At K H l) (k : Keep R.r H H1) (h : GroupsAt K H g gs) : GroupsAt K H1 g gs := by
  obtain ⟨as, e, ea⟩ := h
  obtain ⟨m, hm, _⟩ := A.pos
  refine ⟨as, k _ _ (lst_ne_rd A e) e, ea.mono fun a x z => ?_⟩
  obtain ⟨dx, cl, h1, h2⟩ := z
  exact ⟨dx, cl, k _ _ (ne_of h1 hm grp_ne_rd) h1, k _ _ (lst_ne_rd A h2) h2⟩
theorem groups_same {H H1 : Hp} {g : Addr} {gs : List VaidxBase.Group} (k : Same H H1) (h : GroupsAt K H g gs) : GroupsAt K H1 g gs := groupsAt_same h k
theorem pure_read_cells (T : Txt K mg) (vs : List V) (H : Hp) (Q : VK) (E : XK) (h : sp_read_cells K vs H Q E) : t_read_cells K E { nx := fun _ H' => Q .non H', rt := Q } (start N_read_cells vs) H := by
  obtain ⟨R, l, s, sdx, cA, gA, sx, sy, ns, gs, rfl, A, hS, hC, hG, n1, n4, hgs, k⟩ := h
  obtain ⟨n, hn⟩ : ∃ n, ns.length = n + 1 := ⟨ns.length - 1, by omega⟩
  have hsr : s ≠ R.r := At_ne A hS (by show 4 ≠ 2; decide)
  have hcr : cA ≠ R.r := lst_ne_rd A hC
  unfold cellsRes at k
  rw [hn, takeValues_step, bind_bind_got] at k
  obtain ⟨ke, kq⟩ := k.step
  refine cur_place T rfl A ?_
  refine num_call (lo := 0) (hi := 9) rfl A (fun _ q => q) (fun _ q => q) ke fun x e H3 A3 p3 => ?_
  have k3 := (kq x e).mono p3
  rw [map_bind_got] at k3
  refine ⟨(by show 1 ≤ sizeLine; decide), fun cl ncl => ?_⟩
  have d3 : Dom H H3 := dom_keep p3 A3
  refine ⟨fun m σ H' => ∃ (cs : List Nat) (l' : VToks), 1 ≤ cs.length ∧ cs.length + m = n + 1 ∧ σ = [some (.ref R.r), some (.ref s), some (.int (Vaidxa.here l : Nat)), some (.ref cl), none] ∧ R.At K H' l' ∧ IntsAt K H' cl cs ∧ Keep R.r H3 H' ∧
      Ret K R H3 E ((valsOn m l').bind fun y => if gs.any (fun g => g.row == cs ++ y.1) then (.error ⟨4, Vaidxa.here l⟩ : Vaidxa.Got (List Nat × VToks)) else .ok (cs ++ y.1, y.2)) fun row H' => ∀ p : Addr, IntsAt K (diff H H') p row → Q (.ref p) H',
    ⟨n, [x.1], x.2, by show 1 ≤ 1; decide, by show 1 + n = _; omega, rfl, At_new A3 ncl, upd_same, (Keep.refl R.r H3).new ncl, k3⟩, ?_⟩
  rintro m σ H4 ⟨cs, l4, hcs, hm, rfl, A4, hc4, p4, k4⟩
  have p34 := p3.trans p4
  have hS4 := p34 _ _ hsr hS
  have hC4 := p34 _ _ hcr hC
  refine ⟨_, rfl, _, _, rfl, .inl ⟨_, SqL.of hc4, rfl⟩, _, rfl, s, _, sdx, _, _, rfl, hS4, cl_Sheet T, n_Sheet_columns T, l_Sheet_columns, _, _, rfl, .inl ⟨_, SqL.of hC4, rfl⟩, _, _, rfl, rfl, _, rfl, ?_⟩
  rw [List.length_map, List.length_map, hn]
  cases m with
  | succ m =>
    refine if_true_of (decide_eq_true (by omega)) ?_
    have k4 : Ret K R H3 E (((Vaidxa.takeSign 44 l4).bind fun r => Vaidxa.takeValues (m + 1) r).bind fun y => if gs.any (fun g => g.row == cs ++ y.1) then (.error ⟨4, Vaidxa.here l⟩ : Vaidxa.Got (List Nat × VToks)) else .ok (cs ++ y.1, y.2)) fun row H' => ∀ p : Addr, IntsAt K (diff H H') p row → Q (.ref p) H' := k4
    rw [bind_bind_got] at k4
    obtain ⟨ke, kq⟩ := k4.step
    refine ⟨fun σ' H'' => ∃ m', m' < m + 1 ∧ ∃ (cs : List Nat) (l' : VToks), 1 ≤ cs.length ∧ cs.length + m' = n + 1 ∧ σ' = [some (.ref R.r), some (.ref s), some (.int (Vaidxa.here l : Nat)), some (.ref cl), none] ∧ R.At K H'' l' ∧ IntsAt K H'' cl cs ∧ Keep R.r H3 H'' ∧
      Ret K R H3 E ((valsOn m' l').bind fun y => if gs.any (fun g => g.row == cs ++ y.1) then (.error ⟨4, Vaidxa.here l⟩ : Vaidxa.Got (List Nat × VToks)) else .ok (cs ++ y.1, y.2)) fun row H' => ∀ p : Addr, IntsAt K (diff H H') p row → Q (.ref p) H', fun _ _ h => h, ?_⟩
    refine exp_sign s_comma rfl A4 (fun z e => (ke z e).mono p4) fun l5 e5 H5 A5 p5 => ?_
    have k5 := kq l5 e5
    rw [takeValues_step, bind_bind_got] at k5
    obtain ⟨ke, kq⟩ := k5.step
    have hc5 := p5 _ _ (new_ne A3 ncl) hc4
    refine ⟨_, rfl, .inl ⟨rfl, _, SqL.of hc5⟩, ?_⟩
    refine num_call (lo := 0) (hi := 9) rfl A5 (fun _ q => q) (fun _ q => q) (fun z e => (ke z e).mono (p4.trans p5)) fun y e6 H6 A6 p6 => ?_
    have k6 := kq y e6
    rw [map_bind_got] at k6
    have hc6 := p6 _ _ (new_ne A3 ncl) hc5
    have p36 := (p4.trans p5).trans p6
    refine ⟨cl, _, _, rfl, rfl, hc6, ?_, m, by omega, cs ++ [y.1], y.2, ?_, ?_, rfl, A3.upd A6 p36 ncl, ?_, p36.new ncl, ?_⟩
    · rw [List.length_map]
      exact size_ok (by omega)
    · rw [List.length_append]
      omega
    · rw [List.length_append]
      show cs.length + 1 + m = _
      omega
    · show upd _ _ _ cl = _
      rw [upd_same, List.map_append]
      rfl
    · have ea : ∀ z : List Nat, cs ++ [y.1] ++ z = cs ++ y.1 :: z := fun z => by
        rw [List.append_assoc]
        rfl
      simp only [ea]
      exact k6
  | zero =>
    refine if_false_of (decide_eq_false (by omega)) ?_
    have k4 : Ret K R H3 E (if gs.any (fun g => g.row == cs ++ []) then (.error ⟨4, Vaidxa.here l⟩ : Vaidxa.Got (List Nat × VToks)) else .ok (cs ++ [], l4)) fun row H' => ∀ p : Addr, IntsAt K (diff H H') p row → Q (.ref p) H' := k4
    rw [List.append_nil] at k4
    have hG4 := groups_keep A p34 hG
    obtain ⟨as, hgl, hE⟩ := hG4
    obtain ⟨cls, hcl1, hcl2⟩ := Each.choose (P := fun a (g : VaidxBase.Group) c => ∃ dx : Addr, H4 a = some (.ins (He.ga K "Group") dx (F_Group (.ref c) (.int (g.count : Nat)))) ∧ IntsAt K H4 c g.row) (hE.mono fun a g z => by
      obtain ⟨dx, c, h1, h2⟩ := z
      exact ⟨c, dx, h1, h2⟩)
    refine ⟨_, rfl, _, rfl, s, _, sdx, _, _, rfl, hS4, cl_Sheet T, n_Sheet_groups T, l_Sheet_groups, gA, rfl, ⟨_, SqL.of hgl⟩, fun D nD => ?_⟩
    refine lc_ys (K := K) (xs := as.map V.ref) (cls.map V.ref) (by rw [List.length_map, List.length_map, hcl1, hE.1]) nD (SqL.of hgl) (by rw [List.length_map, hE.1]; omega) (fun j q y' hq hy' H' hs Qe hQ => ?_) (fun H7 hd hs => ?_)
    · rw [List.getElem?_map] at hq hy'
      obtain ⟨a', ha', rfl⟩ := Option.map_eq_some_iff.mp hq
      obtain ⟨c', hc', rfl⟩ := Option.map_eq_some_iff.mp hy'
      have hj : j < gs.length := by
        rw [← hE.1]
        exact (List.getElem?_eq_some_iff.mp ha').1
      obtain ⟨c'', hc'', dx, h1, _⟩ := hcl2 j gs[j] a' (List.getElem?_eq_getElem hj) ha'
      rw [hc'] at hc''
      cases hc''
      exact ⟨_, rfl, a', _, dx, _, _, rfl, hs _ _ h1, cl_Group T, n_Group_cells T, l_Group_cells, hQ H' (Same.refl _)⟩
    · have hc7 := hs _ _ hc4
      refine ⟨iD cs, (gs.map fun g => g.row).map iD, .lst (SqL.of hc7) (dp_ints cs), .lst (SqL.of hd) (dp_rows (by rw [List.length_map, hcl1]) fun j r hr => ?_), shaped_iD cs, shaped_rows _, _, rfl, ?_⟩
      · rw [List.getElem?_map] at hr
        obtain ⟨g, hg, rfl⟩ := Option.map_eq_some_iff.mp hr
        obtain ⟨a', ha', _⟩ := hE.2 j g hg
        obtain ⟨c, hc, dx, _, hi⟩ := hcl2 j g a' hg ha'
        exact ⟨c, hc, hs _ _ hi⟩
      · rw [any_rows]
        have p47 : Keep R.r H4 H7 := Keep.same hs
        cases c : gs.any (fun g => g.row == cs) with
        | true =>
          rw [if_pos c] at k4
          exact if_true_of rfl (raise_at (n := 4) rfl (Err.mono k4 (p4.trans p47)))
        | false =>
          rw [if_neg (by rw [c]; exact Bool.false_ne_true)] at k4
          exact if_false_of rfl ⟨_, rfl, k4 H7 (A4.same hs) (p4.trans p47) cl (diff_new (d3 cl ncl) hc7)⟩
theorem len_read_group {vs : List V} {H : Hp} {Q : VK} {E : XK} (h : sp_read_group K vs H Q E) : vs.length = 2 := by
  obtain ⟨_, _, _, _, _, _, _, _, _, _, rfl, _⟩ := h
  rfl
theorem pure_read_group (T : Txt K mg) (vs : List V) (H : Hp) (Q : VK) (E : XK) (h : sp_read_group K vs H Q E) : t_read_group K E { nx := fun _ H' => Q .non H', rt := Q } (start N_read_group vs) H := by
  obtain ⟨R, l, s, sdx, cA, gA, sx, sy, ns, gs, rfl, A, hS, hC, hG, n1, n4, hgs, k⟩ := h
  have hsr : s ≠ R.r := At_ne A hS (by show 4 ≠ 2; decide)
  have hcr : cA ≠ R.r := lst_ne_rd A hC
  unfold groupRes at k
  obtain ⟨ke, kq⟩ := k.step
  refine exp_word w_row rfl A ke fun l1 e1 H1 A1 p1 => ?_
  obtain ⟨ke, kq⟩ := ((kq l1 e1).mono p1).step
  refine ⟨_, rfl, _, rfl, R, l1, s, sdx, cA, gA, sx, sy, ns, gs, rfl, A1, p1 _ _ hsr hS, p1 _ _ hcr hC, groups_keep A p1 hG, n1, n4, hgs, Ret.intro ke fun v e2 H2 A2 p2 cl hcl => ?_⟩
  obtain ⟨ke, kq⟩ := ((kq v e2).mono p2).step
  refine exp_word w_times rfl A2 ke fun l3 e3 H3 A3 p3 => ?_
  obtain ⟨ke, kq⟩ := ((kq l3 e3).mono p3).step
  refine num_call (lo := 1) (hi := 1000000) rfl A3 (fun _ q => q) (fun _ q => q) ke fun c e4 H4 A4 p4 => ?_
  obtain ⟨ke, kq⟩ := ((kq c e4).mono p4).stepM
  refine exp_sign s_semi rfl A4 ke fun l5 e5 H5 A5 p5 => ?_
  refine ⟨_, rfl, _, rfl, fun u dx nu nd ne => ⟨u, dx, _, _, rfl, upd_same, fun H6 h6 k6 => ⟨rfl, ?_⟩⟩⟩
  have s6 := Same.made nu nd k6
  have p25 : Keep R.r H2 H5 := (p3.trans p4).trans p5
  have p26 : Keep R.r H2 H6 := p25.trans (Keep.same s6)
  have d1 : Dom H H1 := dom_keep p1 A1
  refine kq l5 e5 H6 (A5.same s6) (p5.trans (Keep.same s6)) u ⟨dx, cl, diff_new (dom_keep ((p1.trans p2).trans p25) A5 u nu) h6, ?_⟩
  exact intsAt_same hcl (fun b o hb => diff_dom d1 b o (diff_keep A1 p26 b o hb))
end
end Ix
-- part IxG5
set_option maxHeartbeats 4000000
namespace Ix
open PySem PySem.Spec PyProof.Rows L2
/-! ### questions and indexes, as they lie -/
abbrev NQ := List Nat × VaidxBase.Question
abbrev NI := List Nat × VaidxBase.Index
def QuestionAt (K : PySem.W.Frag) (H : Hp) (a : Addr) (x : NQ) : Prop := ∃ dx fl ol wl : Addr, H a = some (.ins (He.ga K "Question") dx (F_Question (.str (sS x.1)) (.ref fl) (.ref ol) (.bl x.2.back) (.ref wl) (.int (x.2.limit : Nat)) (.int (x.2.times : Nat)))) ∧
  FiltersAt K H fl x.2.filters ∧ IntsAt K H ol x.2.order ∧ IntsAt K H wl x.2.wants
def CondAt (K : PySem.W.Frag) (H : Hp) (c : V) (o : Option VaidxBase.Filter) : Prop := match o with
  | none => c = .non
  | some f => ∃ a, c = .ref a ∧ FilterAt K H a f
def IndexAt (K : PySem.W.Frag) (H : Hp) (a : Addr) (x : NI) : Prop := ∃ (dx kl ol : Addr) (c : V), H a = some (.ins (He.ga K "Index") dx (F_Index (.str (sS x.1)) (.ref kl) (.ref ol) c)) ∧ IntsAt K H kl x.2.keys ∧ IntsAt K H ol x.2.others ∧ CondAt K H c x.2.only
def QuestionsAt (K : PySem.W.Frag) (H : Hp) (a : Addr) (qs : List NQ) : Prop := ∃ as : List Addr, H a = some (.lst (as.map V.ref)) ∧ Each (QuestionAt K H) as qs
def IndexesAt (K : PySem.W.Frag) (H : Hp) (a : Addr) (is : List NI) : Prop := ∃ as : List Addr, H a = some (.lst (as.map V.ref)) ∧ Each (IndexAt K H) as is
theorem questionAt_same {K : PySem.W.Frag} {H H' : Hp} {a : Addr} {x : NQ} (h : QuestionAt K H a x) (s : Same H H') : QuestionAt K H' a x := by
  obtain ⟨dx, fl, ol, wl, e, h1, h2, h3⟩ := h
  exact ⟨dx, fl, ol, wl, s _ _ e, filtersAt_same h1 s, s _ _ h2, s _ _ h3⟩
theorem condAt_same {K : PySem.W.Frag} {H H' : Hp} {c : V} {o : Option VaidxBase.Filter} (h : CondAt K H c o) (s : Same H H') : CondAt K H' c o := by
  cases o with
  | none => exact h
  | some f =>
    obtain ⟨a, e, ha⟩ := h
    exact ⟨a, e, filterAt_same ha s⟩
theorem indexAt_same {K : PySem.W.Frag} {H H' : Hp} {a : Addr} {x : NI} (h : IndexAt K H a x) (s : Same H H') : IndexAt K H' a x := by
  obtain ⟨dx, kl, ol, c, e, h1, h2, h3⟩ := h
  exact ⟨dx, kl, ol, c, s _ _ e, s _ _ h1, s _ _ h2, condAt_same h3 s⟩
theorem questionsAt_same {K : PySem.W.Frag} {H H' : Hp} {a : Addr} {qs : List NQ} (h : QuestionsAt K H a qs) (s : Same H H') : QuestionsAt K H' a qs := by
  obtain ⟨as, e, ea⟩ := h
  exact ⟨as, s _ _ e, ea.mono fun _ _ z => questionAt_same z s⟩
theorem indexesAt_same {K : PySem.W.Frag} {H H' : Hp} {a : Addr} {is : List NI} (h : IndexesAt K H a is) (s : Same H H') : IndexesAt K H' a is := by
  obtain ⟨as, e, ea⟩ := h
  exact ⟨as, s _ _ e, ea.mono fun _ _ z => indexAt_same z s⟩
/-! what the specification does with a question's rest, part by part -/
section
variable (ns : List (List Nat)) (N : Nat) (w : List Nat)
def rTimes (f : List VaidxBase.Filter) (o : List Nat) (b : Bool) (wn : List Nat) (m : Nat) (l : VToks) : Vaidxa.Got (NQ × VToks) := (if Vaidxa.wordIs "times" l then Vaidxa.takeNum 0 1000 (l.drop 1) else .ok (1, l)).bind fun t => (Vaidxa.takeSign 59 t.2).map fun e => ((w, ⟨f, o, b, wn, m, t.1⟩), e)
def rFirst (f : List VaidxBase.Filter) (o : List Nat) (b : Bool) (wn : List Nat) (l : VToks) : Vaidxa.Got (NQ × VToks) := (if Vaidxa.wordIs "first" l then Vaidxa.takeNum 1 1000000 (l.drop 1) else .ok (0, l)).bind fun m => rTimes w f o b wn m.1 m.2
def rWants (f : List VaidxBase.Filter) (o : List Nat) (b : Bool) (l : VToks) : Vaidxa.Got (NQ × VToks) := (if Vaidxa.wordIs "wants" l then Vaidxa.takeCols ns N [] (l.drop 1) else .ok ([], l)).bind fun x => rFirst w f o b x.1 x.2
def rBack (f : List VaidxBase.Filter) (o : List Nat) (l : VToks) : Vaidxa.Got (NQ × VToks) := rWants ns N w f o (!o.isEmpty && Vaidxa.wordIs "back" l) (if !o.isEmpty && Vaidxa.wordIs "back" l then l.drop 1 else l)
def rBy (f : List VaidxBase.Filter) (l : VToks) : Vaidxa.Got (NQ × VToks) := (if Vaidxa.wordIs "by" l then Vaidxa.takeCols ns N [] (l.drop 1) else .ok ([], l)).bind fun x => rBack ns N w f x.1 x.2
def rWhere (l : VToks) : Vaidxa.Got (NQ × VToks) := (if Vaidxa.wordIs "where" l then Vaidxa.takeFilters ns N [] (l.drop 1) else .ok ([], l)).bind fun x => rBy ns N w x.1 x.2
end
theorem takeAsk_eq (ns : List (List Nat)) (w : List Nat) (l : VToks) : ((Vaidxa.takeAsk ns l).map fun q => ((w, q.1), q.2)) = rWhere ns (l.length + 1) w l := by
  unfold Vaidxa.takeAsk rWhere rBy rBack rWants rFirst rTimes
  simp only [bind_map_got, map_map_got]
  try rfl
def questionRes (ns qn : List (List Nat)) (l : VToks) : Vaidxa.Got (NQ × VToks) := (Vaidxa.takeWord "ask" l).bind fun l1 => (Vaidxa.takeNew qn l1).bind fun w => rWhere ns (w.2.length + 1) w.1 w.2
def sp_read_question (K : PySem.W.Frag) : Sp := fun vs H Q E => ∃ (R : RdI) (l : VToks) (s dx c q : Addr) (x y : V) (ns : List (List Nat)) (qs : List NQ), vs = [.ref R.r, .ref s] ∧ R.At K H l ∧ H s = some (.ins (He.ga K "Sheet") dx (F_Sheet (.ref c) x (.ref q) y)) ∧ H c = some (.lst (ns.map fun w => V.str (sS w))) ∧ QuestionsAt K H q qs ∧ qs.length ≤ 1000 ∧ l.length ≤ 40000 ∧
  Ret K R H E (questionRes ns (qs.map (·.1)) l) fun z H' => ∀ p : Addr, QuestionAt K (diff H H') p z → Q (.ref p) H'
section
variable (ns : List (List Nat)) (N : Nat) (w : List Nat)
def rOnly (k o : List Nat) (l : VToks) : Vaidxa.Got (NI × VToks) := (if Vaidxa.wordIs "only" l then (Vaidxa.takeFilter ns (l.drop 1)).map fun f => (some f.1, f.2) else .ok (none, l)).bind fun c => (Vaidxa.takeSign 59 c.2).map fun e => ((w, ⟨k, o, c.1⟩), e)
def rWith (k : List Nat) (l : VToks) : Vaidxa.Got (NI × VToks) := (if Vaidxa.wordIs "with" l then (Vaidxa.takeCols ns N k (l.drop 1)).map fun x => (x.1.drop k.length, x.2) else .ok ([], l)).bind fun x => rOnly ns w k x.1 x.2
def rOn (l : VToks) : Vaidxa.Got (NI × VToks) := (Vaidxa.takeWord "on" l).bind fun r => (Vaidxa.takeCols ns N [] r).bind fun k => rWith ns N w k.1 k.2
end
theorem takeIndex_eq (ns : List (List Nat)) (w : List Nat) (l : VToks) : ((Vaidxa.takeIndex ns l).map fun q => ((w, q.1), q.2)) = rOn ns (l.length + 1) w l := by
  unfold Vaidxa.takeIndex rOn rWith rOnly
  simp only [bind_map_got, map_map_got]
  try rfl
def indexRes (ns inn : List (List Nat)) (l : VToks) : Vaidxa.Got (NI × VToks) := (Vaidxa.takeWord "index" l).bind fun l1 => (Vaidxa.takeNew inn l1).bind fun w => rOn ns (w.2.length + 1) w.1 w.2
def sp_read_index (K : PySem.W.Frag) : Sp := fun vs H Q E => ∃ (R : RdI) (l : VToks) (s dx c i : Addr) (x y : V) (ns : List (List Nat)) (is : List NI), vs = [.ref R.r, .ref s] ∧ R.At K H l ∧ H s = some (.ins (He.ga K "Sheet") dx (F_Sheet (.ref c) x y (.ref i))) ∧ H c = some (.lst (ns.map fun w => V.str (sS w))) ∧ IndexesAt K H i is ∧ is.length ≤ 1000 ∧ l.length ≤ 40000 ∧
  Ret K R H E (indexRes ns (is.map (·.1)) l) fun z H' => ∀ p : Addr, IndexAt K (diff H H') p z → Q (.ref p) H'
abbrev N_read_question : List Str := ["reader", "sheet", "question", "earlier"]
def t_read_question (K : PySem.W.Frag) (E : XK) : TS :=
  (tSeq (tDrop (tMeth (He.ga K "Reader") "expect" (sp_Reader_expect K) [] E (tVar 0) (tCons (tC (.str "ask")) tNil)))
    (tSeq (tAsg (tMake (He.ga K "Question") (sp_Question_init K) [] E0 (tCons (tCall (sp_read_new_name K) [] E (tCons (tVar 0) (tCons (tLc (iList K (tFld K (tVar 1) "questions")) (gName 3) tYes (tFld K (tVar 3) "name") [3]) tNil))) tNil)) (gName 2))
    (tSeq (tIfS (tB (tMeth (He.ga K "Reader") "skip_if" (sp_Reader_skip_if K) [] E0 (tVar 0) (tCons (tC (.str "where")) tNil))) (sFld K (tVar 2) (tCall (sp_read_filters K) [] E (tCons (tVar 0) (tCons (tFld K (tVar 1) "columns") tNil))) "filters") tNext)
    (tSeq (tIfS (tB (tMeth (He.ga K "Reader") "skip_if" (sp_Reader_skip_if K) [] E0 (tVar 0) (tCons (tC (.str "by")) tNil))) (tSeq (sFld K (tVar 2) (tCall (sp_read_columns K) [] E (tCons (tVar 0) (tCons (tFld K (tVar 1) "columns") (tCons (tLst tNil) tNil)))) "order")
    (sFld K (tVar 2) (tMeth (He.ga K "Reader") "skip_if" (sp_Reader_skip_if K) [] E0 (tVar 0) (tCons (tC (.str "back")) tNil)) "backwards")) tNext)
    (tSeq (tIfS (tB (tMeth (He.ga K "Reader") "skip_if" (sp_Reader_skip_if K) [] E0 (tVar 0) (tCons (tC (.str "wants")) tNil))) (sFld K (tVar 2) (tCall (sp_read_columns K) [] E (tCons (tVar 0) (tCons (tFld K (tVar 1) "columns") (tCons (tLst tNil) tNil)))) "wanted") tNext)
    (tSeq (tIfS (tB (tMeth (He.ga K "Reader") "skip_if" (sp_Reader_skip_if K) [] E0 (tVar 0) (tCons (tC (.str "first")) tNil))) (sFld K (tVar 2) (tMeth (He.ga K "Reader") "take_number" (sp_Reader_take_number K) [] E (tVar 0) (tCons (tC (.int 1)) (tCons (tC (.int 1000000)) tNil))) "limit") tNext)
    (tSeq (tIfS (tB (tMeth (He.ga K "Reader") "skip_if" (sp_Reader_skip_if K) [] E0 (tVar 0) (tCons (tC (.str "times")) tNil))) (sFld K (tVar 2) (tMeth (He.ga K "Reader") "take_number" (sp_Reader_take_number K) [] E (tVar 0) (tCons (tC (.int 0)) (tCons (tC (.int 1000)) tNil))) "times") tNext)
    (tSeq (tDrop (tMeth (He.ga K "Reader") "expect" (sp_Reader_expect K) [] E (tVar 0) (tCons (tC (.str ";")) tNil)))
    (tRet (tVar 2))))))))))
abbrev N_read_index : List Str := ["reader", "sheet", "name", "index", "earlier"]
def t_read_index (K : PySem.W.Frag) (E : XK) : TS :=
  (tSeq (tDrop (tMeth (He.ga K "Reader") "expect" (sp_Reader_expect K) [] E (tVar 0) (tCons (tC (.str "index")) tNil)))
    (tSeq (tAsg (tCall (sp_read_new_name K) [] E (tCons (tVar 0) (tCons (tLc (iList K (tFld K (tVar 1) "indexes")) (gName 4) tYes (tFld K (tVar 4) "name") [4]) tNil))) (gName 2))
    (tSeq (tDrop (tMeth (He.ga K "Reader") "expect" (sp_Reader_expect K) [] E (tVar 0) (tCons (tC (.str "on")) tNil)))
    (tSeq (tAsg (tMake (He.ga K "Index") (sp_Index_init K) [] E0 (tCons (tVar 2) (tCons (tCall (sp_read_columns K) [] E (tCons (tVar 0) (tCons (tFld K (tVar 1) "columns") (tCons (tLst tNil) tNil)))) tNil))) (gName 3))
    (tSeq (tIfS (tB (tMeth (He.ga K "Reader") "skip_if" (sp_Reader_skip_if K) [] E0 (tVar 0) (tCons (tC (.str "with")) tNil))) (sFld K (tVar 3) (tCall (sp_read_columns K) [] E (tCons (tVar 0) (tCons (tFld K (tVar 1) "columns") (tCons (tFld K (tVar 3) "key_columns") tNil)))) "included") tNext)
    (tSeq (tIfS (tB (tMeth (He.ga K "Reader") "skip_if" (sp_Reader_skip_if K) [] E0 (tVar 0) (tCons (tC (.str "only")) tNil))) (sFld K (tVar 3) (tCall (sp_read_filter K) [] E (tCons (tVar 0) (tCons (tFld K (tVar 1) "columns") tNil))) "condition") tNext)
    (tSeq (tDrop (tMeth (He.ga K "Reader") "expect" (sp_Reader_expect K) [] E (tVar 0) (tCons (tC (.str ";")) tNil)))
    (tRet (tVar 3)))))))))
section
variable {K : PySem.W.Frag} {mg : Str → Option Value}
/-! ### an object's own fields change -/
theorem ints_upd {H0 H : Hp} {p a C dx : Addr} {fs : List (Str × V)} {o : HO} {cs : List Nat} (h : IntsAt K (diff H0 H) p cs) (hq : H a = some (.ins C dx fs)) : IntsAt K (diff H0 (upd H a o)) p cs := by
  obtain ⟨e1, e2⟩ := diff_get h
  refine diff_new e1 ?_
  rw [upd_ne (ne_of e2 hq (by intro z; cases z))]
  exact e2
theorem filter_upd {H0 H : Hp} {p a C dx : Addr} {fs : List (Str × V)} {o : HO} {f : VaidxBase.Filter} (h : FilterAt K (diff H0 H) p f) (hq : H a = some (.ins C dx fs)) (hf : fs.length ≠ 3) : FilterAt K (diff H0 (upd H a o)) p f := by
  obtain ⟨d, e⟩ := h
  obtain ⟨e1, e2⟩ := diff_get e
  refine ⟨d, diff_new e1 ?_⟩
  rw [upd_ne (ne_of e2 hq (by
    intro z
    injection z with _ _ z
    rw [← z] at hf
    exact hf rfl))]
  exact e2
theorem filters_upd {H0 H : Hp} {p a C dx : Addr} {fs : List (Str × V)} {o : HO} {l : List VaidxBase.Filter} (h : FiltersAt K (diff H0 H) p l) (hq : H a = some (.ins C dx fs)) (hf : fs.length ≠ 3) : FiltersAt K (diff H0 (upd H a o)) p l := by
  obtain ⟨as, e, ea⟩ := h
  obtain ⟨e1, e2⟩ := diff_get e
  refine ⟨as, diff_new e1 ?_, ea.mono fun _ _ z => filter_upd z hq hf⟩
  rw [upd_ne (ne_of e2 hq (by intro z; cases z))]
  exact e2
theorem takeCols_more (ns : List (List Nat)) : ∀ (n : Nat) (done : List Nat) (l : VToks) (x : List Nat × VToks), Vaidxa.takeCols ns n done l = .ok x → done.length < x.1.length ∧ x.2.length ≤ l.length
  | 0, done, l, x, h => by cases h
  | n + 1, done, l, x, h => by
    rw [takeCols_step] at h
    cases e : colRes ns done l with
    | error z =>
      rw [e] at h
      cases h
    | ok c =>
      rw [e] at h
      have h : colsOn ns n (done ++ [c.1]) c.2 = .ok x := h
      have hc := colRes_len e
      unfold colsOn at h
      split at h
      · obtain ⟨h1, h2⟩ := takeCols_more ns n _ _ x h
        rw [List.length_append] at h1
        have h3 : (c.2.drop 1).length ≤ l.length := by
          rw [hc, List.length_drop, List.length_drop]
          omega
        exact ⟨by simp at h1; omega, Nat.le_trans h2 h3⟩
      · injection h with h
        rw [← h]
        refine ⟨by show done.length < (done ++ [c.1]).length; rw [List.length_append]; simp, ?_⟩
        show c.2.length ≤ _
        rw [hc, List.length_drop]
        omega
theorem takeFilters_less (ns : List (List Nat)) : ∀ (n : Nat) (done : List VaidxBase.Filter) (l : VToks) (x : List VaidxBase.Filter × VToks), Vaidxa.takeFilters ns n done l = .ok x → x.2.length ≤ l.length
  | 0, done, l, x, h => by cases h
  | n + 1, done, l, x, h => by
    rw [takeFilters_step] at h
    cases e : Vaidxa.takeFilter ns l with
    | error z =>
      rw [e] at h
      cases h
    | ok c =>
      rw [e] at h
      have h : (if done.any (fun x => x.col == c.1.col) then (.error ⟨4, Vaidxa.here l⟩ : Vaidxa.Got (List VaidxBase.Filter × VToks)) else filtsOn ns n (done ++ [c.1]) c.2) = .ok x := h
      have hc := takeFilter_len e
      split at h
      · cases h
      · unfold filtsOn at h
        split at h
        · have h2 := takeFilters_less ns n _ _ x h
          rw [List.length_drop] at h2
          omega
        · injection h with h
          rw [← h]
          exact hc
theorem questions_keep {H H1 : Hp} {R : RdI} {l : VToks} {q : Addr} {qs : List NQ} (A : R.At K H l) (k : Keep R.r H H1) (h : QuestionsAt K H q qs) : QuestionsAt K H1 q qs := by
  obtain ⟨as, e, ea⟩ := h
  refine ⟨as, k _ _ (lst_ne_rd A e) e, ea.mono fun a x z => ?_⟩
  obtain ⟨dx, fl, ol, wl, h1, ⟨fas, h2, h3⟩, h4, h5⟩ := z
  refine ⟨dx, fl, ol, wl, k _ _ (At_ne A h1 (by show 7 ≠ 2; decide)) h1, ⟨fas, k _ _ (lst_ne_rd A h2) h2, h3.mono fun b f zf => ?_⟩, k _ _ (lst_ne_rd A h4) h4, k _ _ (lst_ne_rd A h5) h5⟩
  obtain ⟨d, hd⟩ := zf
  exact ⟨d, k _ _ (At_ne A hd (by show 3 ≠ 2; decide)) hd⟩
theorem indexes_keep {H H1 : Hp} {R : RdI} {l : VToks} {i : Addr} {is : List NI} (A : R.At K H l) (k : Keep R.r H H1) (h : IndexesAt K H i is) : IndexesAt K H1 i is := by
  obtain ⟨as, e, ea⟩ := h
  refine ⟨as, k _ _ (lst_ne_rd A e) e, ea.mono fun a x z => ?_⟩
  obtain ⟨dx, kl, ol, c, h1, h2, h3, h4⟩ := z
  refine ⟨dx, kl, ol, c, k _ _ (At_ne A h1 (by show 4 ≠ 2; decide)) h1, k _ _ (lst_ne_rd A h2) h2, k _ _ (lst_ne_rd A h3) h3, ?_⟩
  cases e : x.2.only with
  | none =>
    rw [e] at h4
    exact h4
  | some f =>
    rw [e] at h4
    obtain ⟨b, eb, d, hd⟩ := h4
    exact ⟨b, eb, d, k _ _ (At_ne A hd (by show 3 ≠ 2; decide)) hd⟩
theorem strs_map {α : Type} (f : α → List Nat) (xs : List α) : ((xs.map f).map fun w => V.str (sS w)).length = xs.length := by
  rw [List.length_map, List.length_map]
theorem map_ok {α β : Type} {r : Vaidxa.Got α} {g : α → β} {y : β} (h : r.map g = .ok y) : ∃ x, r = .ok x ∧ y = g x := by
  cases r with
  | error z => cases h
  | ok x =>
    have h : (Except.ok (g x) : Vaidxa.Got β) = .ok y := h
    injection h with h
    exact ⟨x, rfl, h.symm⟩
theorem map_err {α β : Type} {r : Vaidxa.Got α} {g : α → β} {z : Vaidxa.Fault} (h : r.map g = .error z) : r = .error z := by
  cases r with
  | error y =>
    have h : (Except.error y : Vaidxa.Got β) = .error z := h
    injection h with h
    rw [h]
  | ok x => cases h
/-- read_columns(reader, sheet.columns, []) -/
theorem cols_call (T : Txt K mg) {σ : L2.St} {H : Hp} {R : RdI} {l : VToks} {E : XK} {Q : VK} {s sdx cA : Addr} {x y z : V} {ns : List (List Nat)} {N : Nat} (h0 : σ[0]? = some (some (.ref R.r))) (h1 : σ[1]? = some (some (.ref s))) (A : R.At K H l) (hS : H s = some (.ins (He.ga K "Sheet") sdx (F_Sheet (.ref cA) x y z)))
    (hC : H cA = some (.lst (ns.map fun w => V.str (sS w)))) (hn : l.length ≤ N) (hz : l.length ≤ 40000) (ke : ∀ z, Vaidxa.takeCols ns N [] l = .error z → Err K R.r H E z)
    (kq : ∀ c, Vaidxa.takeCols ns N [] l = .ok c → ∀ (H1 : Hp) (p : Addr), R.At K H1 c.2 → Keep R.r H H1 → IntsAt K (diff H H1) p c.1 → Q (.ref p) H1) :
    tCall (sp_read_columns K) [] E (tCons (tVar 0) (tCons (tFld K (tVar 1) "columns") (tCons (tLst tNil) tNil))) σ H Q := by
  refine ⟨_, h0, _, h1, s, _, sdx, _, _, rfl, hS, cl_Sheet T, n_Sheet_columns T, l_Sheet_columns, (by show 0 ≤ sizeLine; decide), fun u nu => ?_⟩
  have p0 : Keep R.r H (upd H u (.lst [])) := (Keep.refl R.r H).new nu
  refine ⟨R, l, cA, u, ns, [], N, rfl, At_new A nu, SqL.of (p0 _ _ (lst_ne_rd A hC) hC), lst_ne_rd A hC, upd_same, (by show 0 + l.length ≤ 50000; omega), hn, Ret.intro (fun e he => (ke e (map_err he)).mono p0) fun c hc H1 A1 p1 p hp => ?_⟩
  obtain ⟨c', e', rfl⟩ := map_ok hc
  exact kq c' e' H1 p A1 (p0.trans p1) (intsAt_same hp (diff_dom (dom_keep p0 (At_new A nu))))
theorem len_read_question {vs : List V} {H : Hp} {Q : VK} {E : XK} (h : sp_read_question K vs H Q E) : vs.length = 2 := by
  obtain ⟨_, _, _, _, _, _, _, _, _, _, rfl, _⟩ := h
  rfl
theorem pure_read_question (T : Txt K mg) (vs : List V) (H : Hp) (Q : VK) (E : XK) (h : sp_read_question K vs H Q E) : t_read_question K E { nx := fun _ H' => Q .non H', rt := Q } (start N_read_question vs) H := by
  obtain ⟨R, l, s, sdx, cA, qA, sx, sy, ns, qs, rfl, A, hS, hC, hQ, hqs, hsz, k⟩ := h
  have hsr : s ≠ R.r := At_ne A hS (by show 4 ≠ 2; decide)
  have hcr : cA ≠ R.r := lst_ne_rd A hC
  unfold questionRes at k
  obtain ⟨ke, kq⟩ := k.step
  refine exp_word w_ask rfl A ke fun l1 e1 H1 A1 p1 => ?_
  have k1 := kq l1 e1
  obtain ⟨ke, kq⟩ := k1.step
  have hl1 : l1.length ≤ 40000 := by
    rw [takeWord_len e1, List.length_drop]
    omega
  obtain ⟨as, hql, hE⟩ := questions_keep A p1 hQ
  -- the names so far
  refine ⟨_, rfl, _, rfl, s, _, sdx, _, _, rfl, p1 _ _ hsr hS, cl_Sheet T, n_Sheet_questions T, l_Sheet_questions, qA, rfl, ⟨_, SqL.of hql⟩, fun D nD => ?_⟩
  refine lc_ys (K := K) (xs := as.map V.ref) ((qs.map (·.1)).map fun w => V.str (sS w)) (by rw [List.length_map, List.length_map, List.length_map, hE.1]) nD (SqL.of hql) (by rw [List.length_map, hE.1]; omega) (fun j q y' hq hy' H' hs Qe hQe => ?_) (fun H2 hd hs => ?_)
  · rw [List.getElem?_map] at hq hy'
    obtain ⟨w', hw', rfl⟩ := Option.map_eq_some_iff.mp hy'
    rw [List.getElem?_map] at hw'
    obtain ⟨x, hx, rfl⟩ := Option.map_eq_some_iff.mp hw'
    obtain ⟨a', ha', dx, fl, ol, wl, h1, _⟩ := hE.2 j x hx
    rw [ha'] at hq
    cases hq
    exact ⟨_, rfl, a', _, dx, _, _, rfl, hs _ _ h1, cl_Question T, n_Question_name T, l_Question_name, hQe H' (Same.refl _)⟩
  have p12 : Keep R.r H1 H2 := Keep.same hs
  have A2 := A1.same hs
  refine ⟨R, l1, D, qs.map (·.1), rfl, A2, SqL.of hd, new_ne A1 nD, Ret.intro (fun z e => (ke z e).mono (p1.trans p12)) fun w e2 H3 A3 p3 => ?_⟩
  have k3 := kq w e2
  have p03 : Keep R.r H H3 := (p1.trans p12).trans p3
  have hl3 : w.2.length ≤ 40000 := by
    rw [takeNew_len e2, List.length_drop]
    omega
  have d3 : Dom H H3 := dom_keep p03 A3
  -- the question
  refine fun qo qdx nqo nqd nqe => ⟨qo, qdx, _, rfl, upd_same, fun H4 g0 g1 g2 h4 l0 n0 l1' n1 l2 n2 _ _ _ kk4 => ⟨rfl, ?_⟩⟩
  have s4 : Same H3 H4 := Same.made nqo nqd kk4
  have fr : ∀ {g : Addr}, (upd (upd H3 qdx (.own qo)) qo (.ins (He.ga K "Question") qdx [])) g = none → H g = none := fun {g} hg => d3 g (by
    by_cases z : g = qo
    · rw [z, upd_same] at hg
      cases hg
    · rw [upd_ne z] at hg
      by_cases z2 : g = qdx
      · rw [z2, upd_same] at hg
        cases hg
      · rw [upd_ne z2] at hg
        exact hg)
  have hqo : H qo = none := d3 qo nqo
  have q4 : QuestionAt K (diff H H4) qo (w.1, ⟨[], [], false, [], 0, 1⟩) := ⟨qdx, g0, g1, g2, diff_new hqo h4, ⟨[], diff_new (fr n0) l0, Each.nil⟩, diff_new (fr n1) l1', diff_new (fr n2) l2⟩
  have A4 := A3.same s4
  have p04 : Keep R.r H H4 := p03.trans (Keep.same s4)
  -- the rest, from its end
  have names : ∀ {H' : Hp}, Keep R.r H H' → H' cA = some (.lst (ns.map fun w => V.str (sS w))) ∧ H' s = some (.ins (He.ga K "Sheet") sdx (F_Sheet (.ref cA) sx (.ref qA) sy)) := fun {H'} p => ⟨p _ _ hcr hC, p _ _ hsr hS⟩
  have tail5 : ∀ (H' : Hp) (l' : VToks) (q : VaidxBase.Question), R.At K H' l' → Keep R.r H H' → QuestionAt K (diff H H') qo (w.1, q) → Ret K R H E ((Vaidxa.takeSign 59 l').map fun e => ((w.1, q), e)) (fun z H' => ∀ p : Addr, QuestionAt K (diff H H') p z → Q (.ref p) H') →
      tSeq (tDrop (tMeth (He.ga K "Reader") "expect" (sp_Reader_expect K) [] E (tVar 0) (tCons (tC (.str ";")) tNil))) (tRet (tVar 2)) { nx := fun _ H' => Q .non H', rt := Q } [some (.ref R.r), some (.ref s), some (.ref qo), none] H' := fun H' l' q A' p' q' k' => by
    obtain ⟨ke, kq⟩ := k'.stepM
    refine exp_sign s_semi rfl A' (fun z e => (ke z e).mono p') fun l2 e2 H2 A2 p2 => ?_
    exact ⟨_, rfl, kq l2 e2 H2 A2 (p'.trans p2) qo (questionAt_same q' (diff_keep A p2))⟩
  have tail4 : ∀ (H' : Hp) (l' : VToks) (f : List VaidxBase.Filter) (o : List Nat) (b : Bool) (wn : List Nat) (m : Nat), R.At K H' l' → Keep R.r H H' → QuestionAt K (diff H H') qo (w.1, ⟨f, o, b, wn, m, 1⟩) → Ret K R H E (rTimes w.1 f o b wn m l') (fun z H' => ∀ p : Addr, QuestionAt K (diff H H') p z → Q (.ref p) H') →
      tSeq (tIfS (tB (tMeth (He.ga K "Reader") "skip_if" (sp_Reader_skip_if K) [] E0 (tVar 0) (tCons (tC (.str "times")) tNil))) (sFld K (tVar 2) (tMeth (He.ga K "Reader") "take_number" (sp_Reader_take_number K) [] E (tVar 0) (tCons (tC (.int 0)) (tCons (tC (.int 1000)) tNil))) "times") tNext)
        (tSeq (tDrop (tMeth (He.ga K "Reader") "expect" (sp_Reader_expect K) [] E (tVar 0) (tCons (tC (.str ";")) tNil))) (tRet (tVar 2))) { nx := fun _ H' => Q .non H', rt := Q } [some (.ref R.r), some (.ref s), some (.ref qo), none] H' := fun H' l' f o b wn m A' p' q' k' => by
    unfold rTimes at k'
    refine skip_word w_times rfl A' (fun e => ⟨_, rfl, if_false_of rfl ?_⟩) fun e H2 A2 p2 => ⟨_, rfl, if_true_of rfl ?_⟩
    · rw [if_neg (by rw [e]; exact Bool.false_ne_true)] at k'
      exact tail5 H' l' _ A' p' q' k'
    · rw [if_pos e] at k'
      obtain ⟨ke, kq⟩ := k'.step
      refine num_call (lo := 0) (hi := 1000) rfl A2 (fun _ q => q) (fun _ q => q) (fun z e => (ke z e).mono (p'.trans p2)) fun x e3 H3 A3 p3 => ?_
      obtain ⟨dx, fl, ol, wl, h1, h2, h3, h4⟩ := questionAt_same q' (fun b o hb => diff_keep A (p2.trans p3) b o hb)
      have h1' := same_diff _ _ h1
      refine ⟨_, rfl, qo, _, dx, _, rfl, h1', cl_Question T, n_Question_times T, (by show 7 < 1000; decide), ?_⟩
      refine tail5 _ x.2 ⟨f, o, b, wn, m, x.1⟩ (A.upd A3 ((p'.trans p2).trans p3) hqo) (((p'.trans p2).trans p3).new hqo) ?_ (kq x e3)
      refine ⟨dx, fl, ol, wl, diff_new hqo ?_, filters_upd h2 h1' (by show 7 ≠ 3; decide), ints_upd h3 h1', ints_upd h4 h1'⟩
      rw [upd_same, p_Question_times]
  have tail3 : ∀ (H' : Hp) (l' : VToks) (f : List VaidxBase.Filter) (o : List Nat) (b : Bool) (wn : List Nat), R.At K H' l' → Keep R.r H H' → QuestionAt K (diff H H') qo (w.1, ⟨f, o, b, wn, 0, 1⟩) → Ret K R H E (rFirst w.1 f o b wn l') (fun z H' => ∀ p : Addr, QuestionAt K (diff H H') p z → Q (.ref p) H') →
      tSeq (tIfS (tB (tMeth (He.ga K "Reader") "skip_if" (sp_Reader_skip_if K) [] E0 (tVar 0) (tCons (tC (.str "first")) tNil))) (sFld K (tVar 2) (tMeth (He.ga K "Reader") "take_number" (sp_Reader_take_number K) [] E (tVar 0) (tCons (tC (.int 1)) (tCons (tC (.int 1000000)) tNil))) "limit") tNext)
        (tSeq (tIfS (tB (tMeth (He.ga K "Reader") "skip_if" (sp_Reader_skip_if K) [] E0 (tVar 0) (tCons (tC (.str "times")) tNil))) (sFld K (tVar 2) (tMeth (He.ga K "Reader") "take_number" (sp_Reader_take_number K) [] E (tVar 0) (tCons (tC (.int 0)) (tCons (tC (.int 1000)) tNil))) "times") tNext)
        (tSeq (tDrop (tMeth (He.ga K "Reader") "expect" (sp_Reader_expect K) [] E (tVar 0) (tCons (tC (.str ";")) tNil))) (tRet (tVar 2)))) { nx := fun _ H' => Q .non H', rt := Q } [some (.ref R.r), some (.ref s), some (.ref qo), none] H' := fun H' l' f o b wn A' p' q' k' => by
    unfold rFirst at k'
    refine skip_word w_first rfl A' (fun e => ⟨_, rfl, if_false_of rfl ?_⟩) fun e H2 A2 p2 => ⟨_, rfl, if_true_of rfl ?_⟩
    · rw [if_neg (by rw [e]; exact Bool.false_ne_true)] at k'
      exact tail4 H' l' f o b wn 0 A' p' q' k'
    · rw [if_pos e] at k'
      obtain ⟨ke, kq⟩ := k'.step
      refine num_call (lo := 1) (hi := 1000000) rfl A2 (fun _ q => q) (fun _ q => q) (fun z e => (ke z e).mono (p'.trans p2)) fun x e3 H3 A3 p3 => ?_
      obtain ⟨dx, fl, ol, wl, h1, h2, h3, h4⟩ := questionAt_same q' (fun b o hb => diff_keep A (p2.trans p3) b o hb)
      have h1' := same_diff _ _ h1
      refine ⟨_, rfl, qo, _, dx, _, rfl, h1', cl_Question T, n_Question_limit T, (by show 7 < 1000; decide), ?_⟩
      refine tail4 _ x.2 f o b wn x.1 (A.upd A3 ((p'.trans p2).trans p3) hqo) (((p'.trans p2).trans p3).new hqo) ?_ (kq x e3)
      refine ⟨dx, fl, ol, wl, diff_new hqo ?_, filters_upd h2 h1' (by show 7 ≠ 3; decide), ints_upd h3 h1', ints_upd h4 h1'⟩
      rw [upd_same, p_Question_limit]
  have tail2 : ∀ (H' : Hp) (l' : VToks) (f : List VaidxBase.Filter) (o : List Nat) (b : Bool), l'.length ≤ w.2.length → R.At K H' l' → Keep R.r H H' → QuestionAt K (diff H H') qo (w.1, ⟨f, o, b, [], 0, 1⟩) → Ret K R H E (rWants ns (w.2.length + 1) w.1 f o b l') (fun z H' => ∀ p : Addr, QuestionAt K (diff H H') p z → Q (.ref p) H') →
      tSeq (tIfS (tB (tMeth (He.ga K "Reader") "skip_if" (sp_Reader_skip_if K) [] E0 (tVar 0) (tCons (tC (.str "wants")) tNil))) (sFld K (tVar 2) (tCall (sp_read_columns K) [] E (tCons (tVar 0) (tCons (tFld K (tVar 1) "columns") (tCons (tLst tNil) tNil)))) "wanted") tNext)
        (tSeq (tIfS (tB (tMeth (He.ga K "Reader") "skip_if" (sp_Reader_skip_if K) [] E0 (tVar 0) (tCons (tC (.str "first")) tNil))) (sFld K (tVar 2) (tMeth (He.ga K "Reader") "take_number" (sp_Reader_take_number K) [] E (tVar 0) (tCons (tC (.int 1)) (tCons (tC (.int 1000000)) tNil))) "limit") tNext)
        (tSeq (tIfS (tB (tMeth (He.ga K "Reader") "skip_if" (sp_Reader_skip_if K) [] E0 (tVar 0) (tCons (tC (.str "times")) tNil))) (sFld K (tVar 2) (tMeth (He.ga K "Reader") "take_number" (sp_Reader_take_number K) [] E (tVar 0) (tCons (tC (.int 0)) (tCons (tC (.int 1000)) tNil))) "times") tNext)
        (tSeq (tDrop (tMeth (He.ga K "Reader") "expect" (sp_Reader_expect K) [] E (tVar 0) (tCons (tC (.str ";")) tNil))) (tRet (tVar 2))))) { nx := fun _ H' => Q .non H', rt := Q } [some (.ref R.r), some (.ref s), some (.ref qo), none] H' := fun H' l' f o b hl' A' p' q' k' => by
    unfold rWants at k'
    refine skip_word w_wants rfl A' (fun e => ⟨_, rfl, if_false_of rfl ?_⟩) fun e H2 A2 p2 => ⟨_, rfl, if_true_of rfl ?_⟩
    · rw [if_neg (by rw [e]; exact Bool.false_ne_true)] at k'
      exact tail3 H' l' f o b [] A' p' q' k'
    · rw [if_pos e] at k'
      obtain ⟨ke, kq⟩ := k'.step
      obtain ⟨hC2, hS2⟩ := names (p'.trans p2)
      have hd : (l'.drop 1).length ≤ w.2.length := by
        rw [List.length_drop]
        omega
      refine cols_call T rfl rfl A2 hS2 hC2 (by omega) (by omega) (fun z e => (ke z e).mono (p'.trans p2)) fun x e3 H3 pl A3 p3 hi => ?_
      obtain ⟨dx, fl, ol, wl, h1, h2, h3, h4⟩ := questionAt_same q' (fun b o hb => diff_keep A (p2.trans p3) b o hb)
      have h1' := same_diff _ _ h1
      have hi' : IntsAt K (diff H H3) pl x.1 := intsAt_same hi (diff_dom (dom_keep (p'.trans p2) A2))
      refine ⟨_, rfl, qo, _, dx, _, rfl, h1', cl_Question T, n_Question_wanted T, (by show 7 < 1000; decide), ?_⟩
      refine tail3 _ x.2 f o b x.1 (A.upd A3 ((p'.trans p2).trans p3) hqo) (((p'.trans p2).trans p3).new hqo) ?_ (kq x e3)
      refine ⟨dx, fl, ol, pl, diff_new hqo ?_, filters_upd h2 h1' (by show 7 ≠ 3; decide), ints_upd h3 h1', ints_upd hi' h1'⟩
      rw [upd_same, p_Question_wanted]
  have tail1 : ∀ (H' : Hp) (l' : VToks) (f : List VaidxBase.Filter), l'.length ≤ w.2.length → R.At K H' l' → Keep R.r H H' → QuestionAt K (diff H H') qo (w.1, ⟨f, [], false, [], 0, 1⟩) → Ret K R H E (rBy ns (w.2.length + 1) w.1 f l') (fun z H' => ∀ p : Addr, QuestionAt K (diff H H') p z → Q (.ref p) H') →
      tSeq (tIfS (tB (tMeth (He.ga K "Reader") "skip_if" (sp_Reader_skip_if K) [] E0 (tVar 0) (tCons (tC (.str "by")) tNil))) (tSeq (sFld K (tVar 2) (tCall (sp_read_columns K) [] E (tCons (tVar 0) (tCons (tFld K (tVar 1) "columns") (tCons (tLst tNil) tNil)))) "order")
          (sFld K (tVar 2) (tMeth (He.ga K "Reader") "skip_if" (sp_Reader_skip_if K) [] E0 (tVar 0) (tCons (tC (.str "back")) tNil)) "backwards")) tNext)
        (tSeq (tIfS (tB (tMeth (He.ga K "Reader") "skip_if" (sp_Reader_skip_if K) [] E0 (tVar 0) (tCons (tC (.str "wants")) tNil))) (sFld K (tVar 2) (tCall (sp_read_columns K) [] E (tCons (tVar 0) (tCons (tFld K (tVar 1) "columns") (tCons (tLst tNil) tNil)))) "wanted") tNext)
        (tSeq (tIfS (tB (tMeth (He.ga K "Reader") "skip_if" (sp_Reader_skip_if K) [] E0 (tVar 0) (tCons (tC (.str "first")) tNil))) (sFld K (tVar 2) (tMeth (He.ga K "Reader") "take_number" (sp_Reader_take_number K) [] E (tVar 0) (tCons (tC (.int 1)) (tCons (tC (.int 1000000)) tNil))) "limit") tNext)
        (tSeq (tIfS (tB (tMeth (He.ga K "Reader") "skip_if" (sp_Reader_skip_if K) [] E0 (tVar 0) (tCons (tC (.str "times")) tNil))) (sFld K (tVar 2) (tMeth (He.ga K "Reader") "take_number" (sp_Reader_take_number K) [] E (tVar 0) (tCons (tC (.int 0)) (tCons (tC (.int 1000)) tNil))) "times") tNext)
        (tSeq (tDrop (tMeth (He.ga K "Reader") "expect" (sp_Reader_expect K) [] E (tVar 0) (tCons (tC (.str ";")) tNil))) (tRet (tVar 2)))))) { nx := fun _ H' => Q .non H', rt := Q } [some (.ref R.r), some (.ref s), some (.ref qo), none] H' := fun H' l' f hl' A' p' q' k' => by
    unfold rBy at k'
    refine skip_word w_by rfl A' (fun e => ⟨_, rfl, if_false_of rfl ?_⟩) fun e H2 A2 p2 => ⟨_, rfl, if_true_of rfl ?_⟩
    · rw [if_neg (by rw [e]; exact Bool.false_ne_true)] at k'
      exact tail2 H' l' f [] false hl' A' p' q' k'
    · rw [if_pos e] at k'
      obtain ⟨ke, kq⟩ := k'.step
      obtain ⟨hC2, hS2⟩ := names (p'.trans p2)
      have hd : (l'.drop 1).length ≤ w.2.length := by
        rw [List.length_drop]
        omega
      refine cols_call T rfl rfl A2 hS2 hC2 (by omega) (by omega) (fun z e => (ke z e).mono (p'.trans p2)) fun x e3 H3 pl A3 p3 hi => ?_
      obtain ⟨dx, fl, ol, wl, h1, h2, h3, h4⟩ := questionAt_same q' (fun b o hb => diff_keep A (p2.trans p3) b o hb)
      have h1' := same_diff _ _ h1
      have hi' : IntsAt K (diff H H3) pl x.1 := intsAt_same hi (diff_dom (dom_keep (p'.trans p2) A2))
      refine ⟨_, rfl, qo, _, dx, _, rfl, h1', cl_Question T, n_Question_order T, (by show 7 < 1000; decide), ?_⟩
      have p3' := ((p'.trans p2).trans p3).new (p := qo) (o := .ins (He.ga K "Question") dx (putF "order" (.ref pl) (F_Question (.str (sS w.1)) (.ref fl) (.ref ol) (.bl false) (.ref wl) (.int 0) (.int 1)))) hqo
      have A3' := A.upd A3 ((p'.trans p2).trans p3) (o := .ins (He.ga K "Question") dx (putF "order" (.ref pl) (F_Question (.str (sS w.1)) (.ref fl) (.ref ol) (.bl false) (.ref wl) (.int 0) (.int 1)))) hqo
      have q3 : QuestionAt K (diff H (upd H3 qo (.ins (He.ga K "Question") dx (putF "order" (.ref pl) (F_Question (.str (sS w.1)) (.ref fl) (.ref ol) (.bl false) (.ref wl) (.int 0) (.int 1)))))) qo (w.1, ⟨f, x.1, false, [], 0, 1⟩) := by
        refine ⟨dx, fl, pl, wl, diff_new hqo ?_, filters_upd h2 h1' (by show 7 ≠ 3; decide), ints_upd hi' h1', ints_upd h4 h1'⟩
        rw [upd_same, p_Question_order]
        rfl
      obtain ⟨m1, m2⟩ := takeCols_more ns _ _ _ x e3
      have hne : x.1.isEmpty = false := by
        cases hx : x.1 with
        | nil =>
          rw [hx] at m1
          simp at m1
        | cons c cs => rfl
      have kb : Ret K R H E (rBack ns (w.2.length + 1) w.1 f x.1 x.2) (fun z H' => ∀ p : Addr, QuestionAt K (diff H H') p z → Q (.ref p) H') := kq x e3
      unfold rBack at kb
      rw [hne] at kb
      have fin : ∀ (H4 : Hp) (l4 : VToks) (b : Bool), l4.length ≤ w.2.length → R.At K H4 l4 → Keep R.r H H4 → QuestionAt K (diff H H4) qo (w.1, ⟨f, x.1, false, [], 0, 1⟩) → Ret K R H E (rWants ns (w.2.length + 1) w.1 f x.1 b l4) (fun z H' => ∀ p : Addr, QuestionAt K (diff H H') p z → Q (.ref p) H') → ∃ (a C dx : Addr) (fs : List (Str × V)), V.ref qo = .ref a ∧ H4 a = some (.ins C dx fs) ∧ Cls K C ∧ NoAttr K C "backwards" ∧ fs.length < 1000 ∧
          (tSeq (tIfS (tB (tMeth (He.ga K "Reader") "skip_if" (sp_Reader_skip_if K) [] E0 (tVar 0) (tCons (tC (.str "wants")) tNil))) (sFld K (tVar 2) (tCall (sp_read_columns K) [] E (tCons (tVar 0) (tCons (tFld K (tVar 1) "columns") (tCons (tLst tNil) tNil)))) "wanted") tNext)
        (tSeq (tIfS (tB (tMeth (He.ga K "Reader") "skip_if" (sp_Reader_skip_if K) [] E0 (tVar 0) (tCons (tC (.str "first")) tNil))) (sFld K (tVar 2) (tMeth (He.ga K "Reader") "take_number" (sp_Reader_take_number K) [] E (tVar 0) (tCons (tC (.int 1)) (tCons (tC (.int 1000000)) tNil))) "limit") tNext)
        (tSeq (tIfS (tB (tMeth (He.ga K "Reader") "skip_if" (sp_Reader_skip_if K) [] E0 (tVar 0) (tCons (tC (.str "times")) tNil))) (sFld K (tVar 2) (tMeth (He.ga K "Reader") "take_number" (sp_Reader_take_number K) [] E (tVar 0) (tCons (tC (.int 0)) (tCons (tC (.int 1000)) tNil))) "times") tNext)
        (tSeq (tDrop (tMeth (He.ga K "Reader") "expect" (sp_Reader_expect K) [] E (tVar 0) (tCons (tC (.str ";")) tNil))) (tRet (tVar 2)))))) { nx := fun _ H' => Q .non H', rt := Q } [some (.ref R.r), some (.ref s), some (.ref qo), none] (upd H4 a (.ins C dx (putF "backwards" (.bl b) fs))) := fun H4 l4 b hl4 A4 p4 q4 k4 => by
        obtain ⟨dx, fl, ol, wl, h1, h2, h3, h4⟩ := q4
        have h1' := same_diff _ _ h1
        refine ⟨qo, _, dx, _, rfl, h1', cl_Question T, n_Question_backwards T, (by show 7 < 1000; decide), ?_⟩
        refine tail2 _ l4 f x.1 b hl4 (A.upd A4 p4 hqo) (p4.new hqo) ?_ k4
        refine ⟨dx, fl, ol, wl, diff_new hqo ?_, filters_upd h2 h1' (by show 7 ≠ 3; decide), ints_upd h3 h1', ints_upd h4 h1'⟩
        rw [upd_same, p_Question_backwards]
      refine skip_word w_back rfl A3' (fun e4 => ⟨_, rfl, ?_⟩) fun e4 H4 A4 p4 => ⟨_, rfl, ?_⟩
      · rw [e4] at kb
        exact fin _ x.2 false (by omega) A3' p3' q3 kb
      · rw [e4] at kb
        exact fin _ (x.2.drop 1) true (by rw [List.length_drop]; omega) A4 (p3'.trans p4) (questionAt_same q3 (diff_keep A p4)) kb
  -- where
  unfold rWhere at k3
  refine skip_word w_where rfl A4 (fun e => ⟨_, rfl, if_false_of rfl ?_⟩) fun e H5 A5 p5 => ⟨_, rfl, if_true_of rfl ?_⟩
  · rw [if_neg (by rw [e]; exact Bool.false_ne_true)] at k3
    exact tail1 H4 w.2 [] (Nat.le_refl _) A4 p04 q4 k3
  · rw [if_pos e] at k3
    obtain ⟨ke, kq⟩ := k3.step
    have p05 := p04.trans p5
    obtain ⟨hC5, hS5⟩ := names p05
    have hd : (w.2.drop 1).length ≤ w.2.length := by
      rw [List.length_drop]
      omega
    refine ⟨_, rfl, _, rfl, s, _, sdx, _, _, rfl, hS5, cl_Sheet T, n_Sheet_columns T, l_Sheet_columns, R, w.2.drop 1, cA, ns, w.2.length + 1, rfl, A5, SqL.of hC5, hcr, by omega, by omega, Ret.intro (fun z e => (ke z e).mono p05) fun x e6 H6 A6 p6 pl hf => ?_⟩
    obtain ⟨dx, fl, ol, wl, h1, h2, h3, h4⟩ := questionAt_same q4 (fun b o hb => diff_keep A (p5.trans p6) b o hb)
    have h1' := same_diff _ _ h1
    have hf' : FiltersAt K (diff H H6) pl x.1 := filtersAt_same hf (diff_dom (dom_keep p05 A5))
    refine ⟨_, rfl, qo, _, dx, _, rfl, h1', cl_Question T, n_Question_filters T, (by show 7 < 1000; decide), ?_⟩
    have hx := takeFilters_less ns _ _ _ x e6
    refine tail1 _ x.2 x.1 (by omega) (A.upd A6 (p05.trans p6) hqo) ((p05.trans p6).new hqo) ?_ (kq x e6)
    refine ⟨dx, pl, ol, wl, diff_new hqo ?_, filters_upd hf' h1' (by show 7 ≠ 3; decide), ints_upd h3 h1', ints_upd h4 h1'⟩
    rw [upd_same, p_Question_filters]
end
end Ix
-- part IxG6
set_option maxHeartbeats 4000000
namespace Ix
open PySem PySem.Spec PyProof.Rows L2
section
variable {K : PySem.W.Frag} {mg : Str → Option Value}
/-- so many columns at most -/
theorem cols_le (ns : List (List Nat)) : ∀ (n : Nat) (done : List Nat) (l : VToks) (x : List Nat × VToks), Vaidxa.takeCols ns n done l = .ok x → x.1.length + x.2.length ≤ done.length + l.length
  | 0, done, l, x, h => by cases h
  | n + 1, done, l, x, h => by
    rw [takeCols_step] at h
    cases e : colRes ns done l with
    | error z =>
      rw [e] at h
      cases h
    | ok c =>
      rw [e] at h
      have h : colsOn ns n (done ++ [c.1]) c.2 = .ok x := h
      have hc := colRes_len e
      have hl : 1 ≤ l.length := by
        cases l with
        | nil => 
          unfold colRes Vaidxa.takeCol Vaidxa.nameNext at e
          cases e
        | cons t l => exact Nat.succ_le_succ (Nat.zero_le _)
      unfold colsOn at h
      split at h
      · have h1 := cols_le ns n _ _ x h
        rw [List.length_append, hc, List.length_drop, List.length_drop] at h1
        simp at h1
        omega
      · injection h with h
        rw [← h]
        show (done ++ [c.1]).length + c.2.length ≤ _
        rw [hc, List.length_append, List.length_drop]
        simp
        omega
/-! ### read_index -/
theorem len_read_index {vs : List V} {H : Hp} {Q : VK} {E : XK} (h : sp_read_index K vs H Q E) : vs.length = 2 := by
  obtain ⟨_, _, _, _, _, _, _, _, _, _, rfl, _⟩ := h
  rfl
theorem cond_upd {H0 H : Hp} {a C dx : Addr} {fs : List (Str × V)} {o : HO} {c : V} {oc : Option VaidxBase.Filter} (h : CondAt K (diff H0 H) c oc) (hq : H a = some (.ins C dx fs)) (hf : fs.length ≠ 3) : CondAt K (diff H0 (upd H a o)) c oc := by
  cases oc with
  | none => exact h
  | some f =>
    obtain ⟨b, e, hb⟩ := h
    exact ⟨b, e, filter_upd hb hq hf⟩
theorem pure_read_index (T : Txt K mg) (vs : List V) (H : Hp) (Q : VK) (E : XK) (h : sp_read_index K vs H Q E) : t_read_index K E { nx := fun _ H' => Q .non H', rt := Q } (start N_read_index vs) H := by
  obtain ⟨R, l, s, sdx, cA, iA, sx, sy, ns, is, rfl, A, hS, hC, hI, his, hsz, k⟩ := h
  have hsr : s ≠ R.r := At_ne A hS (by show 4 ≠ 2; decide)
  have hcr : cA ≠ R.r := lst_ne_rd A hC
  unfold indexRes at k
  obtain ⟨ke, kq⟩ := k.step
  refine exp_word w_index rfl A ke fun l1 e1 H1 A1 p1 => ?_
  have k1 := kq l1 e1
  obtain ⟨ke, kq⟩ := k1.step
  have hl1 : l1.length ≤ 40000 := by
    rw [takeWord_len e1, List.length_drop]
    omega
  obtain ⟨as, hql, hE⟩ := indexes_keep A p1 hI
  refine ⟨_, rfl, _, rfl, s, _, sdx, _, _, rfl, p1 _ _ hsr hS, cl_Sheet T, n_Sheet_indexes T, l_Sheet_indexes, iA, rfl, ⟨_, SqL.of hql⟩, fun D nD => ?_⟩
  refine lc_ys (K := K) (xs := as.map V.ref) ((is.map (·.1)).map fun w => V.str (sS w)) (by rw [List.length_map, List.length_map, List.length_map, hE.1]) nD (SqL.of hql) (by rw [List.length_map, hE.1]; omega) (fun j q y' hq hy' H' hs Qe hQe => ?_) (fun H2 hd hs => ?_)
  · rw [List.getElem?_map] at hq hy'
    obtain ⟨w', hw', rfl⟩ := Option.map_eq_some_iff.mp hy'
    rw [List.getElem?_map] at hw'
    obtain ⟨x, hx, rfl⟩ := Option.map_eq_some_iff.mp hw'
    obtain ⟨a', ha', dx, kl, ol, c, h1, _⟩ := hE.2 j x hx
    rw [ha'] at hq
    cases hq
    exact ⟨_, rfl, a', _, dx, _, _, rfl, hs _ _ h1, cl_Index T, n_Index_name T, l_Index_name, hQe H' (Same.refl _)⟩
  have p12 : Keep R.r H1 H2 := Keep.same hs
  have A2 := A1.same hs
  refine ⟨R, l1, D, is.map (·.1), rfl, A2, SqL.of hd, new_ne A1 nD, Ret.intro (fun z e => (ke z e).mono (p1.trans p12)) fun w e2 H3 A3 p3 => ?_⟩
  have k3 := kq w e2
  have p03 : Keep R.r H H3 := (p1.trans p12).trans p3
  have hl3 : w.2.length ≤ 40000 := by
    rw [takeNew_len e2, List.length_drop]
    omega
  unfold rOn at k3
  obtain ⟨ke, kq⟩ := k3.step
  refine exp_word w_on rfl A3 (fun z e => (ke z e).mono p03) fun l4 e4 H4 A4 p4 => ?_
  have k4 := kq l4 e4
  obtain ⟨ke, kq⟩ := k4.step
  have p04 := p03.trans p4
  have hl4 : l4.length ≤ w.2.length := by
    rw [takeWord_len e4, List.length_drop]
    omega
  have names : ∀ {H' : Hp}, Keep R.r H H' → H' cA = some (.lst (ns.map fun w => V.str (sS w))) ∧ H' s = some (.ins (He.ga K "Sheet") sdx (F_Sheet (.ref cA) sx sy (.ref iA))) := fun {H'} p => ⟨p _ _ hcr hC, p _ _ hsr hS⟩
  refine ⟨_, rfl, ?_⟩
  refine cols_call T rfl rfl A4 (names p04).2 (names p04).1 (by omega) (by omega) (fun z e => (ke z e).mono p04) fun x e5 H5 kl A5 p5 hk => ?_
  have k5 := kq x e5
  have p05 := p04.trans p5
  have d5 : Dom H H5 := dom_keep p05 A5
  have hk5 : IntsAt K (diff H H5) kl x.1 := intsAt_same hk (diff_dom (dom_keep p04 A4))
  refine fun io idx nio nid nie => ⟨io, idx, _, _, rfl, upd_same, fun H6 g0 h6 l0 n0 kk6 => ⟨rfl, ?_⟩⟩
  have s6 : Same H5 H6 := Same.made nio nid kk6
  have hio : H io = none := d5 io nio
  have hg0 : H g0 = none := d5 g0 (by
    by_cases z : g0 = io
    · rw [z, upd_same] at n0
      cases n0
    · rw [upd_ne z] at n0
      by_cases z2 : g0 = idx
      · rw [z2, upd_same] at n0
        cases n0
      · rw [upd_ne z2] at n0
        exact n0)
  have A6 := A5.same s6
  have p06 : Keep R.r H H6 := p05.trans (Keep.same s6)
  have i6 : IndexAt K (diff H H6) io (w.1, ⟨x.1, [], none⟩) := ⟨idx, kl, g0, .non, diff_new hio h6, intsAt_same hk5 (diff_keep A (Keep.same s6)), diff_new hg0 l0, rfl⟩
  obtain ⟨_, m2⟩ := takeCols_more ns _ _ _ x e5
  -- the rest, from its end
  have tail3 : ∀ (H' : Hp) (l' : VToks) (i : VaidxBase.Index), R.At K H' l' → Keep R.r H H' → IndexAt K (diff H H') io (w.1, i) → Ret K R H E ((Vaidxa.takeSign 59 l').map fun e => ((w.1, i), e)) (fun z H' => ∀ p : Addr, IndexAt K (diff H H') p z → Q (.ref p) H') →
      tSeq (tDrop (tMeth (He.ga K "Reader") "expect" (sp_Reader_expect K) [] E (tVar 0) (tCons (tC (.str ";")) tNil))) (tRet (tVar 3)) { nx := fun _ H' => Q .non H', rt := Q } [some (.ref R.r), some (.ref s), some (.str (sS w.1)), some (.ref io), none] H' := fun H' l' i A' p' i' k' => by
    obtain ⟨ke, kq⟩ := k'.stepM
    refine exp_sign s_semi rfl A' (fun z e => (ke z e).mono p') fun l2 e2 H2 A2 p2 => ?_
    exact ⟨_, rfl, kq l2 e2 H2 A2 (p'.trans p2) io (indexAt_same i' (diff_keep A p2))⟩
  have tail2 : ∀ (H' : Hp) (l' : VToks) (o : List Nat), R.At K H' l' → Keep R.r H H' → IndexAt K (diff H H') io (w.1, ⟨x.1, o, none⟩) → Ret K R H E (rOnly ns w.1 x.1 o l') (fun z H' => ∀ p : Addr, IndexAt K (diff H H') p z → Q (.ref p) H') →
      tSeq (tIfS (tB (tMeth (He.ga K "Reader") "skip_if" (sp_Reader_skip_if K) [] E0 (tVar 0) (tCons (tC (.str "only")) tNil))) (sFld K (tVar 3) (tCall (sp_read_filter K) [] E (tCons (tVar 0) (tCons (tFld K (tVar 1) "columns") tNil))) "condition") tNext)
        (tSeq (tDrop (tMeth (He.ga K "Reader") "expect" (sp_Reader_expect K) [] E (tVar 0) (tCons (tC (.str ";")) tNil))) (tRet (tVar 3))) { nx := fun _ H' => Q .non H', rt := Q } [some (.ref R.r), some (.ref s), some (.str (sS w.1)), some (.ref io), none] H' := fun H' l' o A' p' i' k' => by
    unfold rOnly at k'
    refine skip_word w_only rfl A' (fun e => ⟨_, rfl, if_false_of rfl ?_⟩) fun e H2 A2 p2 => ⟨_, rfl, if_true_of rfl ?_⟩
    · rw [if_neg (by rw [e]; exact Bool.false_ne_true)] at k'
      exact tail3 H' l' _ A' p' i' k'
    · rw [if_pos e, map_bind_got] at k'
      obtain ⟨ke, kq⟩ := k'.step
      have p02 := p'.trans p2
      refine ⟨_, rfl, _, rfl, s, _, sdx, _, _, rfl, (names p02).2, cl_Sheet T, n_Sheet_columns T, l_Sheet_columns, R, l'.drop 1, cA, ns, rfl, A2, SqL.of (names p02).1, hcr, Ret.intro (fun z e => (ke z e).mono p02) fun y e3 H3 A3 p3 pf hf => ?_⟩
      obtain ⟨dx, kl', ol, c, h1, h2, h3, h4⟩ := indexAt_same i' (fun b o hb => diff_keep A (p2.trans p3) b o hb)
      have h1' := same_diff _ _ h1
      have hf' : FilterAt K (diff H H3) pf y.1 := filterAt_same hf (diff_dom (dom_keep p02 A2))
      refine ⟨_, rfl, io, _, dx, _, rfl, h1', cl_Index T, n_Index_condition T, (by show 4 < 1000; decide), ?_⟩
      refine tail3 _ y.2 ⟨x.1, o, some y.1⟩ (A.upd A3 (p02.trans p3) hio) ((p02.trans p3).new hio) ?_ (kq y e3)
      refine ⟨dx, kl', ol, .ref pf, diff_new hio ?_, ints_upd h2 h1', ints_upd h3 h1', pf, rfl, filter_upd hf' h1' (by show 4 ≠ 3; decide)⟩
      rw [upd_same, p_Index_condition]
  -- with
  unfold rWith at k5
  refine skip_word w_with rfl A6 (fun e => ⟨_, rfl, if_false_of rfl ?_⟩) fun e H7 A7 p7 => ⟨_, rfl, if_true_of rfl ?_⟩
  · rw [if_neg (by rw [e]; exact Bool.false_ne_true)] at k5
    exact tail2 H6 x.2 [] A6 p06 i6 k5
  · rw [if_pos e] at k5
    obtain ⟨ke, kq⟩ := k5.step
    have p07 := p06.trans p7
    obtain ⟨dx, kl', ol, c, h1, h2, h3, h4⟩ := indexAt_same i6 (fun b o hb => diff_keep A p7 b o hb)
    have h1' := same_diff _ _ h1
    refine ⟨_, rfl, _, rfl, s, _, sdx, _, _, rfl, (names p07).2, cl_Sheet T, n_Sheet_columns T, l_Sheet_columns, _, rfl, io, _, dx, _, _, rfl, h1', cl_Index T, n_Index_key_columns T, l_Index_key_columns, R, x.2.drop 1, cA, kl', ns, x.1, w.2.length + 1, rfl, A7, SqL.of (names p07).1, hcr, same_diff _ _ h2, ?_, ?_, Ret.intro (fun z e => (ke z e).mono p07) fun y e8 H8 A8 p8 pl hi => ?_⟩
    · rw [List.length_drop]
      have := cols_le ns _ _ _ x e5
      simp at this
      omega
    · rw [List.length_drop]
      omega
    obtain ⟨dx, kl'', ol, c, h1, h2, h3, h4⟩ := indexAt_same i6 (fun b o hb => diff_keep A (p7.trans p8) b o hb)
    have h1' := same_diff _ _ h1
    have hi' : IntsAt K (diff H H8) pl y.1 := intsAt_same hi (diff_dom (dom_keep p07 A7))
    refine ⟨_, rfl, io, _, dx, _, rfl, h1', cl_Index T, n_Index_included T, (by show 4 < 1000; decide), ?_⟩
    refine tail2 _ y.2 y.1 (A.upd A8 (p07.trans p8) hio) ((p07.trans p8).new hio) ?_ (kq y e8)
    refine ⟨dx, kl'', pl, c, diff_new hio ?_, ints_upd h2 h1', ints_upd hi' h1', cond_upd h4 h1' (by show 4 ≠ 3; decide)⟩
    rw [upd_same, p_Index_included]
end
end Ix
-- part IxG7
set_option maxHeartbeats 4000000
namespace Ix
open PySem PySem.Spec PyProof.Rows L2
/-! ### a whole text -/
def SheetAt (K : PySem.W.Frag) (H : Hp) (p : Addr) (S : Vaidxa.Source) : Prop := ∃ dx cl gl ql il : Addr, H p = some (.ins (He.ga K "Sheet") dx (F_Sheet (.ref cl) (.ref gl) (.ref ql) (.ref il))) ∧ H cl = some (.lst (S.cols.map fun w => V.str (sS w))) ∧ GroupsAt K H gl S.table.groups ∧
  QuestionsAt K H ql (S.askNames.zip S.asks) ∧ IndexesAt K H il (S.indexNames.zip S.indexes) ∧ S.askNames.length = S.asks.length ∧ S.indexNames.length = S.indexes.length
def RetS (K : PySem.W.Frag) (H : Hp) (E : XK) (Q : VK) (res : Vaidxa.Got Vaidxa.Source) : Prop := match res with
  | .error f => ErrS K H E f
  | .ok S => ∀ (p : Addr) (H' : Hp), SheetAt K (diff H H') p S → Same H H' → Q (.ref p) H'
def sp_sheet_of (K : PySem.W.Frag) : Sp := fun vs H Q E => ∃ (a : Addr) (t : List Nat), vs = [.ref a] ∧ BytesAt K H a t ∧ t.length ≤ 1200 ∧ RetS K H E Q (Vaidxa.read t)
abbrev N_sheet_of : List Str := ["text", "reader", "sheet"]
def t_sheet_of (K : PySem.W.Frag) (E : XK) : TS :=
  (tSeq (tAsg (tMake (He.ga K "Reader") (sp_Reader_init K) [] E0 (tCons (tCall (sp_tokens_of K) [] E (tCons (tVar 0) tNil)) tNil)) (gName 1))
    (tSeq (tAsg (tMake (He.ga K "Sheet") (sp_Sheet_init K) [] E0 (tCons (tCall (sp_read_table K) [] E (tCons (tVar 1) tNil)) tNil)) (gName 2))
    (tSeq (tWhile (tB (tMeth (He.ga K "Reader") "stands" (sp_Reader_stands K) [] E0 (tVar 1) (tCons (tC (.str "row")) tNil))) (tSeq (tDrop (tCall (sp_check_room K) [] E (tCons (tVar 1) (tCons (tFld K (tVar 2) "groups") (tCons (tC (.int 12)) tNil)))))
    (tDrop (tBM K "list" rAppend (tFld K (tVar 2) "groups") (tCons (tCall (sp_read_group K) [] E (tCons (tVar 1) (tCons (tVar 2) tNil))) tNil)))))
    (tSeq (tWhile (tB (tMeth (He.ga K "Reader") "stands" (sp_Reader_stands K) [] E0 (tVar 1) (tCons (tC (.str "ask")) tNil))) (tSeq (tDrop (tCall (sp_check_room K) [] E (tCons (tVar 1) (tCons (tFld K (tVar 2) "questions") (tCons (tC (.int 6)) tNil)))))
    (tDrop (tBM K "list" rAppend (tFld K (tVar 2) "questions") (tCons (tCall (sp_read_question K) [] E (tCons (tVar 1) (tCons (tVar 2) tNil))) tNil)))))
    (tSeq (tWhile (tB (tMeth (He.ga K "Reader") "stands" (sp_Reader_stands K) [] E0 (tVar 1) (tCons (tC (.str "index")) tNil))) (tSeq (tDrop (tCall (sp_check_room K) [] E (tCons (tVar 1) (tCons (tFld K (tVar 2) "indexes") (tCons (tC (.int 8)) tNil)))))
    (tDrop (tBM K "list" rAppend (tFld K (tVar 2) "indexes") (tCons (tCall (sp_read_index K) [] E (tCons (tVar 1) (tCons (tVar 2) tNil))) tNil)))))
    (tSeq (tDrop (tMeth (He.ga K "Reader") "expect_end" (sp_Reader_expect_end K) [] E (tVar 1) tNil))
    (tRet (tVar 2))))))))
section
variable {K : PySem.W.Frag} {mg : Str → Option Value}
theorem RetS.step {α : Type} {H : Hp} {E : XK} {Q : VK} {r : Vaidxa.Got α} {f : α → Vaidxa.Got Vaidxa.Source} (h : RetS K H E Q (r.bind f)) : (∀ z, r = .error z → ErrS K H E z) ∧ (∀ x, r = .ok x → RetS K H E Q (f x)) := by
  refine ⟨fun z e => ?_, fun x e => ?_⟩
  · rw [e] at h
    exact h
  · rw [e] at h
    exact h
theorem ErrS.rd {r : Addr} {H H2 : Hp} {E : XK} {f : Vaidxa.Fault} (h : ErrS K H E f) (s : Same H H2) (n : H r = none) : Err K r H2 E f := fun d H' hd k => h d H' hd fun b o hb => k b o (ne_of_none hb n) (s b o hb)
theorem bind_ok {α β : Type} {r : Vaidxa.Got α} {f : α → Vaidxa.Got β} {y : β} (h : r.bind f = .ok y) : ∃ x, r = .ok x ∧ f x = .ok y := by
  cases r with
  | error z => cases h
  | ok x => exact ⟨x, rfl, h⟩
theorem wordIs_len {s : String} {l : VToks} (h : Vaidxa.wordIs s l = true) : 1 ≤ l.length := by
  cases l with
  | nil => cases h
  | cons t l => exact Nat.succ_le_succ (Nat.zero_le _)
theorem takeWord_one {s : String} {l l1 : VToks} (h : Vaidxa.takeWord s l = .ok l1) : l1.length + 1 = l.length := by
  have e := takeWord_len h
  unfold Vaidxa.takeWord at h
  split at h
  · rename_i hw
    have := wordIs_len hw
    rw [e, List.length_drop]
    omega
  · cases h
theorem takeSign_le {b : Nat} {l l1 : VToks} (h : Vaidxa.takeSign b l = .ok l1) : l1.length ≤ l.length := by
  rw [takeSign_len h, List.length_drop]
  omega
theorem takeNum_le {lo hi : Nat} {l : VToks} {x : Nat × VToks} (h : Vaidxa.takeNum lo hi l = .ok x) : x.2.length ≤ l.length := by
  rw [takeNum_len h, List.length_drop]
  omega
theorem takeNew_le {ns : List (List Nat)} {l : VToks} {x : List Nat × VToks} (h : Vaidxa.takeNew ns l = .ok x) : x.2.length ≤ l.length := by
  rw [takeNew_len h, List.length_drop]
  omega
theorem takeValues_le : ∀ (n : Nat) (l : VToks) (x : List Nat × VToks), Vaidxa.takeValues n l = .ok x → x.2.length ≤ l.length
  | 0, l, x, h => by
    have h : (Except.ok ([], l) : Vaidxa.Got (List Nat × VToks)) = .ok x := h
    injection h with h
    rw [← h]
    exact Nat.le_refl _
  | n + 1, l, x, h => by
    rw [takeValues_step] at h
    obtain ⟨v, e1, h⟩ := bind_ok h
    obtain ⟨y, e2, rfl⟩ := map_ok h
    have h1 := takeNum_le e1
    show y.2.length ≤ _
    cases n with
    | zero =>
      have e2 : (Except.ok ([], v.2) : Vaidxa.Got (List Nat × VToks)) = .ok y := e2
      injection e2 with e2
      rw [← e2]
      exact h1
    | succ n =>
      have e2 : ((Vaidxa.takeSign 44 v.2).bind fun r => Vaidxa.takeValues (n + 1) r) = .ok y := e2
      obtain ⟨r, e3, e4⟩ := bind_ok e2
      have h2 := takeSign_le e3
      have h3 := takeValues_le (n + 1) r y e4
      omega
theorem groupRes_lt {n : Nat} {gs : List VaidxBase.Group} {l : VToks} {x : VaidxBase.Group × VToks} (h : groupRes n gs l = .ok x) : x.2.length < l.length := by
  unfold groupRes at h
  obtain ⟨l1, e1, h⟩ := bind_ok h
  obtain ⟨v, e2, h⟩ := bind_ok h
  obtain ⟨l3, e3, h⟩ := bind_ok h
  obtain ⟨c, e4, h⟩ := bind_ok h
  obtain ⟨l5, e5, rfl⟩ := map_ok h
  unfold cellsRes at e2
  obtain ⟨v', e6, h⟩ := bind_ok e2
  have : v = v' := by
    split at h
    · cases h
    · injection h with h
      exact h.symm
  subst this
  have h1 := takeWord_one e1
  have h2 := takeValues_le _ _ _ e6
  have h3 := takeWord_one e3
  have h4 := takeNum_le e4
  have h5 := takeSign_le e5
  show l5.length < _
  omega
theorem opt_num {s : String} {lo hi d : Nat} {l : VToks} {x : Nat × VToks} (h : (if Vaidxa.wordIs s l then Vaidxa.takeNum lo hi (l.drop 1) else .ok (d, l)) = .ok x) : x.2.length ≤ l.length := by
  split at h
  · have := takeNum_le h
    rw [List.length_drop] at this
    omega
  · injection h with h
    rw [← h]
    exact Nat.le_refl _
theorem opt_cols {s : String} {ns : List (List Nat)} {N : Nat} {l : VToks} {x : List Nat × VToks} (h : (if Vaidxa.wordIs s l then Vaidxa.takeCols ns N [] (l.drop 1) else .ok ([], l)) = .ok x) : x.2.length ≤ l.length := by
  split at h
  · have := (takeCols_more ns _ _ _ x h).2
    rw [List.length_drop] at this
    omega
  · injection h with h
    rw [← h]
    exact Nat.le_refl _
theorem questionRes_lt {ns qn : List (List Nat)} {l : VToks} {x : NQ × VToks} (h : questionRes ns qn l = .ok x) : x.2.length < l.length := by
  unfold questionRes at h
  obtain ⟨l1, e1, h⟩ := bind_ok h
  obtain ⟨w, e2, h⟩ := bind_ok h
  unfold rWhere at h
  obtain ⟨f, e3, h⟩ := bind_ok h
  unfold rBy at h
  obtain ⟨o, e4, h⟩ := bind_ok h
  unfold rBack rWants at h
  obtain ⟨wn, e5, h⟩ := bind_ok h
  unfold rFirst at h
  obtain ⟨m, e6, h⟩ := bind_ok h
  unfold rTimes at h
  obtain ⟨t, e7, h⟩ := bind_ok h
  obtain ⟨e, e8, rfl⟩ := map_ok h
  have h1 := takeWord_one e1
  have h2 := takeNew_le e2
  have h3 : f.2.length ≤ w.2.length := by
    split at e3
    · have := takeFilters_less ns _ _ _ f e3
      rw [List.length_drop] at this
      omega
    · injection e3 with e3
      rw [← e3]
      exact Nat.le_refl _
  have h4 := opt_cols e4
  have h5 := opt_cols e5
  have h5' : (if (!o.1.isEmpty && Vaidxa.wordIs "back" o.2) = true then o.2.drop 1 else o.2).length ≤ o.2.length := by
    split
    · rw [List.length_drop]
      omega
    · exact Nat.le_refl _
  have h6 := opt_num e6
  have h7 := opt_num e7
  have h8 := takeSign_le e8
  show e.length < _
  omega
theorem indexRes_lt {ns inn : List (List Nat)} {l : VToks} {x : NI × VToks} (h : indexRes ns inn l = .ok x) : x.2.length < l.length := by
  unfold indexRes at h
  obtain ⟨l1, e1, h⟩ := bind_ok h
  obtain ⟨w, e2, h⟩ := bind_ok h
  unfold rOn at h
  obtain ⟨l3, e3, h⟩ := bind_ok h
  obtain ⟨k, e4, h⟩ := bind_ok h
  unfold rWith at h
  obtain ⟨o, e5, h⟩ := bind_ok h
  unfold rOnly at h
  obtain ⟨c, e6, h⟩ := bind_ok h
  obtain ⟨e, e7, rfl⟩ := map_ok h
  have h1 := takeWord_one e1
  have h2 := takeNew_le e2
  have h3 := takeWord_one e3
  have h4 := (takeCols_more ns _ _ _ k e4).2
  have h5 : o.2.length ≤ k.2.length := by
    split at e5
    · obtain ⟨y, e8, rfl⟩ := map_ok e5
      have := (takeCols_more ns _ _ _ y e8).2
      rw [List.length_drop] at this
      show y.2.length ≤ _
      omega
    · injection e5 with e5
      rw [← e5]
      exact Nat.le_refl _
  have h6 : c.2.length ≤ o.2.length := by
    split at e6
    · obtain ⟨y, e8, rfl⟩ := map_ok e6
      have := takeFilter_len e8
      rw [List.length_drop] at this
      show y.2.length ≤ _
      omega
    · injection e6 with e6
      rw [← e6]
      exact Nat.le_refl _
  have h7 := takeSign_le e7
  show e.length < _
  omega
/-! ### the specification's walks, one thing at a time -/
theorem takeWord_yes {s : String} {l : VToks} (h : Vaidxa.wordIs s l = true) : Vaidxa.takeWord s l = .ok (l.drop 1) := if_pos h
theorem takeRows_step (n m : Nat) (done : List VaidxBase.Group) (l : VToks) : Vaidxa.takeRows n (m + 1) done l = if Vaidxa.wordIs "row" l = true then (if 12 ≤ done.length then .error ⟨5, Vaidxa.here l⟩ else (groupRes n done l).bind fun g => Vaidxa.takeRows n m (done ++ [g.1]) g.2) else .ok (done, l) := by
  show (if (!Vaidxa.wordIs "row" l) = true then .ok (done, l) else if 12 ≤ done.length then .error ⟨5, Vaidxa.here l⟩ else
    (Vaidxa.takeValues n (l.drop 1)).bind fun v => if done.any (fun g => g.row == v.1) then .error ⟨4, Vaidxa.here (l.drop 1)⟩ else
      (Vaidxa.takeWord "times" v.2).bind fun x => (Vaidxa.takeNum 1 1000000 x).bind fun c => (Vaidxa.takeSign 59 c.2).bind fun r => Vaidxa.takeRows n m (done ++ [⟨v.1, c.1⟩]) r) = _
  cases hw : Vaidxa.wordIs "row" l with
  | false => rfl
  | true =>
    rw [if_neg (by simp), if_pos rfl]
    by_cases h12 : 12 ≤ done.length
    · rw [if_pos h12, if_pos h12]
    · rw [if_neg h12, if_neg h12]
      unfold groupRes
      rw [takeWord_yes hw]
      show _ = (((cellsRes n done (l.drop 1)).bind fun v => (Vaidxa.takeWord "times" v.2).bind fun x => (Vaidxa.takeNum 1 1000000 x).bind fun c => (Vaidxa.takeSign 59 c.2).map fun r => ((⟨v.1, c.1⟩ : VaidxBase.Group), r)).bind fun g => Vaidxa.takeRows n m (done ++ [g.1]) g.2)
      unfold cellsRes
      cases Vaidxa.takeValues n (l.drop 1) with
      | error z => rfl
      | ok v =>
        show (if done.any (fun g => g.row == v.1) then _ else _) = (((if done.any (fun g => g.row == v.1) then (.error ⟨4, Vaidxa.here (l.drop 1)⟩ : Vaidxa.Got (List Nat × VToks)) else .ok v).bind fun v => (Vaidxa.takeWord "times" v.2).bind fun x => (Vaidxa.takeNum 1 1000000 x).bind fun c => (Vaidxa.takeSign 59 c.2).map fun r => ((⟨v.1, c.1⟩ : VaidxBase.Group), r)).bind fun g => Vaidxa.takeRows n m (done ++ [g.1]) g.2)
        cases done.any (fun g => g.row == v.1) with
        | true => rfl
        | false =>
          show ((Vaidxa.takeWord "times" v.2).bind fun x => (Vaidxa.takeNum 1 1000000 x).bind fun c => (Vaidxa.takeSign 59 c.2).bind fun r => Vaidxa.takeRows n m (done ++ [⟨v.1, c.1⟩]) r) = (((Vaidxa.takeWord "times" v.2).bind fun x => (Vaidxa.takeNum 1 1000000 x).bind fun c => (Vaidxa.takeSign 59 c.2).map fun r => ((⟨v.1, c.1⟩ : VaidxBase.Group), r)).bind fun g => Vaidxa.takeRows n m (done ++ [g.1]) g.2)
          simp only [bind_bind_got, map_bind_got]
theorem wordIs_not_end {s : String} {l : VToks} (h : Vaidxa.wordIs s l = true) : isEnd l = false := by
  cases l with
  | nil => rfl
  | cons t l =>
    obtain ⟨p, tk⟩ := t
    cases tk with
    | ending =>
      have h : ((some Vaidxa.Tok.ending : Option Vaidxa.Tok) == some (.word (Vaidxa.word s))) = true := h
      have := eq_of_beq h
      cases this
    | _ => rfl
theorem takeRest_else {n : Nat} {S : Vaidxa.Source} {l : VToks} (h : isEnd l = false) (hl : l ≠ []) : Vaidxa.takeRest (n + 1) S l = if (Vaidxa.wordIs "ask" l && S.indexes.isEmpty) = true then (if 6 ≤ S.asks.length then .error ⟨5, Vaidxa.here l⟩ else (Vaidxa.takeNew S.askNames (l.drop 1)).bind fun w => (Vaidxa.takeAsk S.cols w.2).bind fun q => Vaidxa.takeRest n { S with askNames := S.askNames ++ [w.1], asks := S.asks ++ [q.1] } q.2)
      else if Vaidxa.wordIs "index" l = true then (if 8 ≤ S.indexes.length then .error ⟨5, Vaidxa.here l⟩ else (Vaidxa.takeNew S.indexNames (l.drop 1)).bind fun w => (Vaidxa.takeIndex S.cols w.2).bind fun i => Vaidxa.takeRest n { S with indexNames := S.indexNames ++ [w.1], indexes := S.indexes ++ [i.1] } i.2)
      else Vaidxa.wrong l := by
  cases l with
  | nil => exact absurd rfl hl
  | cons t l =>
    obtain ⟨p, tk⟩ := t
    cases tk with
    | ending => cases h
    | _ => rfl
theorem takeRest_end {n : Nat} {S : Vaidxa.Source} {l : VToks} (h : isEnd l = true) : Vaidxa.takeRest (n + 1) S l = .ok S := by
  cases l with
  | nil => cases h
  | cons t l =>
    obtain ⟨p, tk⟩ := t
    cases tk with
    | ending => rfl
    | _ => cases h
theorem takeRest_ask {n : Nat} {S : Vaidxa.Source} {l : VToks} (h : Vaidxa.wordIs "ask" l = true) (hi : S.indexes = []) : Vaidxa.takeRest (n + 1) S l = if 6 ≤ S.asks.length then .error ⟨5, Vaidxa.here l⟩ else (questionRes S.cols S.askNames l).bind fun x => Vaidxa.takeRest n { S with askNames := S.askNames ++ [x.1.1], asks := S.asks ++ [x.1.2] } x.2 := by
  rw [takeRest_else (wordIs_not_end h) (fun z => by subst z; cases h)]
  have hc : (Vaidxa.wordIs "ask" l && S.indexes.isEmpty) = true := by
    rw [h, hi]
    rfl
  rw [if_pos hc]
  by_cases h6 : 6 ≤ S.asks.length
  · rw [if_pos h6, if_pos h6]
  · rw [if_neg h6, if_neg h6]
    unfold questionRes
    rw [takeWord_yes h]
    show _ = ((Vaidxa.takeNew S.askNames (l.drop 1)).bind fun w => rWhere S.cols (w.2.length + 1) w.1 w.2).bind _
    rw [bind_bind_got]
    congr 1
    funext w
    rw [← takeAsk_eq, map_bind_got]
theorem takeRest_index {n : Nat} {S : Vaidxa.Source} {l : VToks} (h : Vaidxa.wordIs "index" l = true) : Vaidxa.takeRest (n + 1) S l = if 8 ≤ S.indexes.length then .error ⟨5, Vaidxa.here l⟩ else (indexRes S.cols S.indexNames l).bind fun x => Vaidxa.takeRest n { S with indexNames := S.indexNames ++ [x.1.1], indexes := S.indexes ++ [x.1.2] } x.2 := by
  rw [takeRest_else (wordIs_not_end h) (fun z => by subst z; cases h)]
  have ha : Vaidxa.wordIs "ask" l = false := by
    have h1 := eq_of_beq (show ((l.head?.map fun x => x.tok) == some (.word (Vaidxa.word "index"))) = true from h)
    show ((l.head?.map fun x => x.tok) == some (.word (Vaidxa.word "ask"))) = false
    rw [h1, beq_eq_false_iff_ne]
    intro z
    injection z with z
    injection z with z
    exact absurd z (by decide +kernel)
  rw [if_neg (by rw [ha]; exact Bool.false_ne_true), if_pos h]
  by_cases h8 : 8 ≤ S.indexes.length
  · rw [if_pos h8, if_pos h8]
  · rw [if_neg h8, if_neg h8]
    unfold indexRes
    rw [takeWord_yes h]
    show _ = ((Vaidxa.takeNew S.indexNames (l.drop 1)).bind fun w => rOn S.cols (w.2.length + 1) w.1 w.2).bind _
    rw [bind_bind_got]
    congr 1
    funext w
    rw [← takeIndex_eq, map_bind_got]
theorem takeRest_wrong {n : Nat} {S : Vaidxa.Source} {l : VToks} (h : isEnd l = false) (hl : l ≠ []) (ha : (Vaidxa.wordIs "ask" l && S.indexes.isEmpty) = false) (hi : Vaidxa.wordIs "index" l = false) : Vaidxa.takeRest (n + 1) S l = .error ⟨2, Vaidxa.here l⟩ := by
  rw [takeRest_else h hl, if_neg (by rw [ha]; exact Bool.false_ne_true), if_neg (by rw [hi]; exact Bool.false_ne_true)]
  rfl
theorem read_eq (t : List Nat) : Vaidxa.read t = (Vaidxa.tokens t).bind fun l => (tableRes (l.length + 1) l).bind fun c => (Vaidxa.takeRows c.1.length (l.length + 1) [] c.2).bind fun r => Vaidxa.takeRest (l.length + 1) ⟨c.1, ⟨c.1.length, r.1⟩, [], [], [], []⟩ r.2 := by
  unfold Vaidxa.read tableRes
  simp only [bind_bind_got, map_bind_got]
  rfl
theorem tf_len : ∀ (f p : Nat) (t : List Nat) (l : VToks), Vaidxa.tokensFrom f p t = .ok l → l.length ≤ t.length + 1
  | 0, p, t, l, h => by cases h
  | f + 1, p, [], l, h => by
    have e : Vaidxa.tokensFrom (f + 1) p [] = .ok [⟨p, .ending⟩] := rfl
    rw [e] at h
    injection h with h
    subst h
    exact Nat.le_refl _
  | f + 1, p, b :: r, l, h => by
    rw [tf_step] at h
    by_cases h0 : Vaidxa.isBlank b = true
    · rw [if_pos h0] at h
      have := tf_len f (p + 1) r l h
      rw [List.length_cons]
      omega
    · rw [if_neg h0] at h
      cases e : tokOne p (b :: r) with
      | error z =>
        rw [e] at h
        cases h
      | ok x =>
        rw [e] at h
        obtain ⟨m, e2, rfl⟩ := map_ok h
        have h1 := tf_len f _ _ m e2
        obtain ⟨x1, x2, _⟩ := tok_pos e
        rw [List.length_drop] at h1
        rw [List.length_cons]
        omega
end
end Ix
-- part IxG8
set_option maxHeartbeats 4000000
namespace Ix
open PySem PySem.Spec PyProof.Rows L2
section
variable {K : PySem.W.Frag} {mg : Str → Option Value}
theorem At_le {H : Hp} {R : RdI} {l : VToks} (A : R.At K H l) : l.length ≤ R.ts.length := by
  obtain ⟨n, _, e⟩ := A.pos
  rw [← e, List.length_drop]
  omega
theorem namesOn_le : ∀ (n : Nat) (done : List (List Nat)) (l : VToks) (x : List (List Nat) × VToks), done.length ≤ 4 → namesOn n done l = .ok x → done.length ≤ x.1.length ∧ x.1.length ≤ 4
  | 0, done, l, x, hd, h => by
    unfold namesOn at h
    split at h
    · cases h
    · injection h with h
      rw [← h]
      exact ⟨Nat.le_refl _, hd⟩
  | n + 1, done, l, x, hd, h => by
    unfold namesOn at h
    split at h
    · rw [takeNames_new] at h
      obtain ⟨w, _, h⟩ := bind_ok h
      split at h
      · cases h
      · have hl : (done ++ [w.1]).length = done.length + 1 := by
          rw [List.length_append]
          rfl
        have := namesOn_le n (done ++ [w.1]) w.2 x (by rw [hl]; omega) h
        rw [hl] at this
        omega
    · injection h with h
      rw [← h]
      exact ⟨Nat.le_refl _, hd⟩
theorem tableRes_cols {n : Nat} {l : VToks} {x : List (List Nat) × VToks} (h : tableRes n l = .ok x) : 1 ≤ x.1.length ∧ x.1.length ≤ 4 := by
  unfold tableRes at h
  obtain ⟨l1, _, h⟩ := bind_ok h
  obtain ⟨l2, _, h⟩ := bind_ok h
  obtain ⟨c, e, h⟩ := bind_ok h
  obtain ⟨l3, _, h⟩ := bind_ok h
  obtain ⟨l4, _, rfl⟩ := map_ok h
  show 1 ≤ c.1.length ∧ c.1.length ≤ 4
  cases n with
  | zero => cases e
  | succ n =>
    rw [takeNames_new] at e
    obtain ⟨w, _, e⟩ := bind_ok e
    split at e
    · cases e
    · have := namesOn_le n [w.1] w.2 c (by show 1 ≤ 4; decide) e
      simp at this
      omega
theorem zip_fs {α β : Type} : ∀ l : List (α × β), (l.map (·.1)).zip (l.map (·.2)) = l
  | [] => rfl
  | x :: l => by
    show (x.1, x.2) :: ((l.map (·.1)).zip (l.map (·.2))) = x :: l
    rw [zip_fs l]
/-- the sheet while it is read -/
structure ShInv (K : PySem.W.Frag) (R : RdI) (H H3 H4 : Hp) (s sdx p g0 g1 g2 : Addr) (ns : List (List Nat)) (H' : Hp) (l' : VToks) (gs : List VaidxBase.Group) (qs : List NQ) (is : List NI) : Prop where
  at_ : R.At K H' l'
  sh : H' s = some (.ins (He.ga K "Sheet") sdx (F_Sheet (.ref p) (.ref g0) (.ref g1) (.ref g2)))
  cols : H' p = some (.lst (ns.map fun w => V.str (sS w)))
  g : ∃ as : List Addr, H' g0 = some (.lst (as.map V.ref)) ∧ Each (GroupAt K (diff H4 H')) as gs
  q : ∃ as : List Addr, H' g1 = some (.lst (as.map V.ref)) ∧ Each (QuestionAt K (diff H4 H')) as qs
  i : ∃ as : List Addr, H' g2 = some (.lst (as.map V.ref)) ∧ Each (IndexAt K (diff H4 H')) as is
  same : Same H H'
  keep : Keep R.r H3 H'
  dom : Dom H4 H'
/-- what stands fast of it -/
structure ShFix (K : PySem.W.Frag) (R : RdI) (H H3 H4 : Hp) (p g0 g1 g2 : Addr) : Prop where
  a3 : ∃ l, R.At K H3 l
  a4 : ∃ l, R.At K H4 l
  hr : H R.r = none
  hp : H3 p ≠ none
  n0 : H3 g0 = none
  n1 : H3 g1 = none
  n2 : H3 g2 = none
  m0 : H g0 = none
  m1 : H g1 = none
  m2 : H g2 = none
  s0 : H4 g0 ≠ none
  s1 : H4 g1 ≠ none
  s2 : H4 g2 ≠ none
  d10 : g1 ≠ g0
  d20 : g2 ≠ g0
  d21 : g2 ≠ g1
section
variable {R : RdI} {H H3 H4 : Hp} {s sdx p g0 g1 g2 : Addr} {ns : List (List Nat)} {H' H'' : Hp} {l' l'' : VToks} {gs : List VaidxBase.Group} {qs : List NQ} {is : List NI}
theorem ShInv.go (F : ShFix K R H H3 H4 p g0 g1 g2) (I : ShInv K R H H3 H4 s sdx p g0 g1 g2 ns H' l' gs qs is) (A : R.At K H'' l'') (k : Keep R.r H' H'') : ShInv K R H H3 H4 s sdx p g0 g1 g2 ns H'' l'' gs qs is := by
  obtain ⟨l4, A4⟩ := F.a4
  obtain ⟨ga, hg, eg⟩ := I.g
  obtain ⟨qa, hq, eq⟩ := I.q
  obtain ⟨ia, hi, ei⟩ := I.i
  have sd : Same (diff H4 H') (diff H4 H'') := diff_keep A4 k
  exact ⟨A, k _ _ (At_ne I.at_ I.sh (by show 4 ≠ 2; decide)) I.sh, k _ _ (lst_ne_rd I.at_ I.cols) I.cols, ⟨ga, k _ _ (lst_ne_rd I.at_ hg) hg, eg.mono fun _ _ z => groupAt_same z sd⟩, ⟨qa, k _ _ (lst_ne_rd I.at_ hq) hq, eq.mono fun _ _ z => questionAt_same z sd⟩,
    ⟨ia, k _ _ (lst_ne_rd I.at_ hi) hi, ei.mono fun _ _ z => indexAt_same z sd⟩, fun b o hb => k b o (ne_of_none hb F.hr) (I.same b o hb), I.keep.trans k, I.dom.trans (dom_keep k A)⟩
theorem diff_upd {p : Addr} {o : HO} (h : H4 p ≠ none) : Same (diff H4 H') (diff H4 (upd H' p o)) := diff_on fun b u n hb => by
  rw [upd_ne (fun z => by rw [z] at n; exact h n)]
  exact hb
theorem ne_dom {a b : Addr} {H : Hp} (h : H a ≠ none) (n : H b = none) : a ≠ b := fun z => h (by rw [z]; exact n)
theorem ShInv.pushG (F : ShFix K R H H3 H4 p g0 g1 g2) (I : ShInv K R H H3 H4 s sdx p g0 g1 g2 ns H' l' gs qs is) {as : List Addr} {u : Addr} {g : VaidxBase.Group} (ha : H' g0 = some (.lst (as.map V.ref))) (ea : Each (GroupAt K (diff H4 H')) as gs) (hu : GroupAt K (diff H4 H') u g) :
    ShInv K R H H3 H4 s sdx p g0 g1 g2 ns (upd H' g0 (.lst (as.map V.ref ++ [.ref u]))) l' (gs ++ [g]) qs is := by
  obtain ⟨l3, A3⟩ := F.a3
  obtain ⟨qa, hq, eq⟩ := I.q
  obtain ⟨ia, hi, ei⟩ := I.i
  have sd := diff_upd (H' := H') (o := .lst (as.map V.ref ++ [.ref u])) F.s0
  refine ⟨A3.upd I.at_ I.keep F.n0, ?_, ?_, ⟨as ++ [u], by rw [upd_same, List.map_append]; rfl, Each.push (ea.mono fun _ _ z => groupAt_same z sd) (groupAt_same hu sd)⟩, ⟨qa, ?_, eq.mono fun _ _ z => questionAt_same z sd⟩, ⟨ia, ?_, ei.mono fun _ _ z => indexAt_same z sd⟩, same_new I.same F.m0, I.keep.new F.n0, I.dom.upd⟩
  · rw [upd_ne (ne_of I.sh ha (by intro z; cases z))]
    exact I.sh
  · rw [upd_ne (ne_dom F.hp F.n0)]
    exact I.cols
  · rw [upd_ne F.d10]
    exact hq
  · rw [upd_ne F.d20]
    exact hi
theorem ShInv.pushQ (F : ShFix K R H H3 H4 p g0 g1 g2) (I : ShInv K R H H3 H4 s sdx p g0 g1 g2 ns H' l' gs qs is) {as : List Addr} {u : Addr} {q : NQ} (ha : H' g1 = some (.lst (as.map V.ref))) (ea : Each (QuestionAt K (diff H4 H')) as qs) (hu : QuestionAt K (diff H4 H') u q) :
    ShInv K R H H3 H4 s sdx p g0 g1 g2 ns (upd H' g1 (.lst (as.map V.ref ++ [.ref u]))) l' gs (qs ++ [q]) is := by
  obtain ⟨l3, A3⟩ := F.a3
  obtain ⟨ga, hg, eg⟩ := I.g
  obtain ⟨ia, hi, ei⟩ := I.i
  have sd := diff_upd (H' := H') (o := .lst (as.map V.ref ++ [.ref u])) F.s1
  refine ⟨A3.upd I.at_ I.keep F.n1, ?_, ?_, ⟨ga, ?_, eg.mono fun _ _ z => groupAt_same z sd⟩, ⟨as ++ [u], by rw [upd_same, List.map_append]; rfl, Each.push (ea.mono fun _ _ z => questionAt_same z sd) (questionAt_same hu sd)⟩, ⟨ia, ?_, ei.mono fun _ _ z => indexAt_same z sd⟩, same_new I.same F.m1, I.keep.new F.n1, I.dom.upd⟩
  · rw [upd_ne (ne_of I.sh ha (by intro z; cases z))]
    exact I.sh
  · rw [upd_ne (ne_dom F.hp F.n1)]
    exact I.cols
  · rw [upd_ne (Ne.symm F.d10)]
    exact hg
  · rw [upd_ne F.d21]
    exact hi
theorem ShInv.pushI (F : ShFix K R H H3 H4 p g0 g1 g2) (I : ShInv K R H H3 H4 s sdx p g0 g1 g2 ns H' l' gs qs is) {as : List Addr} {u : Addr} {i : NI} (ha : H' g2 = some (.lst (as.map V.ref))) (ea : Each (IndexAt K (diff H4 H')) as is) (hu : IndexAt K (diff H4 H') u i) :
    ShInv K R H H3 H4 s sdx p g0 g1 g2 ns (upd H' g2 (.lst (as.map V.ref ++ [.ref u]))) l' gs qs (is ++ [i]) := by
  obtain ⟨l3, A3⟩ := F.a3
  obtain ⟨ga, hg, eg⟩ := I.g
  obtain ⟨qa, hq, eq⟩ := I.q
  have sd := diff_upd (H' := H') (o := .lst (as.map V.ref ++ [.ref u])) F.s2
  refine ⟨A3.upd I.at_ I.keep F.n2, ?_, ?_, ⟨ga, ?_, eg.mono fun _ _ z => groupAt_same z sd⟩, ⟨qa, ?_, eq.mono fun _ _ z => questionAt_same z sd⟩, ⟨as ++ [u], by rw [upd_same, List.map_append]; rfl, Each.push (ea.mono fun _ _ z => indexAt_same z sd) (indexAt_same hu sd)⟩, same_new I.same F.m2, I.keep.new F.n2, I.dom.upd⟩
  · rw [upd_ne (ne_of I.sh ha (by intro z; cases z))]
    exact I.sh
  · rw [upd_ne (ne_dom F.hp F.n2)]
    exact I.cols
  · rw [upd_ne (Ne.symm F.d20)]
    exact hg
  · rw [upd_ne (Ne.symm F.d21)]
    exact hq
end
theorem len_sheet_of {vs : List V} {H : Hp} {Q : VK} {E : XK} (h : sp_sheet_of K vs H Q E) : vs.length = 1 := by
  obtain ⟨_, _, rfl, _⟩ := h
  rfl
theorem pure_sheet_of (T : Txt K mg) (vs : List V) (H : Hp) (Q : VK) (E : XK) (h : sp_sheet_of K vs H Q E) : t_sheet_of K E { nx := fun _ H' => Q .non H', rt := Q } (start N_sheet_of vs) H := by
  obtain ⟨a, t, rfl, hB, hlen, k⟩ := h
  rw [read_eq] at k
  obtain ⟨ke, kq⟩ := k.step
  refine ⟨_, rfl, a, t, rfl, hB, hlen, ?_⟩
  cases etk : Vaidxa.tokens t with
  | error z => exact ke z etk
  | ok ts =>
    have k1 := kq ts etk
    have hts : ts.length ≤ 1201 := Nat.le_trans (tf_len _ _ _ _ etk) (by omega)
    intro tl as H1 hl ht hg s1 r rdx nr nrd nre
    refine ⟨r, rdx, tl, rfl, upd_same, fun H2 h2 kk2 => ⟨rfl, ?_⟩⟩
    have s2 : Same H1 H2 := Same.made nr nrd kk2
    have s02 := s1.trans s2
    have A2 : RdI.At K ⟨r, rdx, tl, as, ts⟩ H2 ts := ⟨⟨0, h2, rfl⟩, s2 _ _ hl, fun i t' h' => by
      obtain ⟨b, hb, hb2⟩ := ht i t' h'
      exact ⟨b, hb, tokAt_same hb2 s2⟩, hg⟩
    have hr0 : H r = none := s1.free nr
    generalize hR : (⟨r, rdx, tl, as, ts⟩ : RdI) = R at A2
    have eR : R.r = r := by rw [← hR]
    have eT : R.ts = ts := by rw [← hR]
    rw [← eR] at hr0 ⊢
    obtain ⟨ke, kq⟩ := k1.step
    refine ⟨_, rfl, R, ts, ts.length + 1, rfl, A2, by omega, Ret.intro (fun z e => (ke z e).rd s02 hr0) fun x e3 H3 A3 p3 p hp np => ?_⟩
    have k3 := kq x e3
    obtain ⟨c1, c4⟩ := tableRes_cols e3
    have s03 : Same H H3 := fun b o hb => p3 b o (ne_of_none hb hr0) (s02 b o hb)
    intro s sdx ns' nsd nse
    refine ⟨s, sdx, _, rfl, upd_same, fun H4 g0 g1 g2 h4 L0 N0 L1 N1 L2 N2 d10 d20 d21 kk4 => ⟨rfl, ?_⟩⟩
    have s4 : Same H3 H4 := Same.made ns' nsd kk4
    have fr : ∀ {g : Addr}, (upd (upd H3 sdx (.own s)) s (.ins (He.ga K "Sheet") sdx [])) g = none → H3 g = none := fun {g} hg => by
      by_cases z : g = s
      · rw [z, upd_same] at hg
        cases hg
      · rw [upd_ne z] at hg
        by_cases z2 : g = sdx
        · rw [z2, upd_same] at hg
          cases hg
        · rw [upd_ne z2] at hg
          exact hg
    have A4 := A3.same s4
    have F : ShFix K R H H3 H4 p g0 g1 g2 := ⟨⟨_, A3⟩, ⟨_, A4⟩, hr0, (by rw [hp]; intro z; cases z), fr N0, fr N1, fr N2, s03.free (fr N0), s03.free (fr N1), s03.free (fr N2), (by rw [L0]; intro z; cases z), (by rw [L1]; intro z; cases z), (by rw [L2]; intro z; cases z), d10, d20, d21⟩
    have I4 : ShInv K R H H3 H4 s sdx p g0 g1 g2 x.1 H4 x.2 [] [] [] := ⟨A4, h4, s4 _ _ hp, ⟨[], L0, Each.nil⟩, ⟨[], L1, Each.nil⟩, ⟨[], L2, Each.nil⟩, s03.trans s4, Keep.same s4, Dom.refl _⟩
    -- rows
    refine ⟨fun m σ H' => ∃ (f : Nat) (gs : List VaidxBase.Group) (l' : VToks), m = l'.length ∧ σ = [some (.ref a), some (.ref R.r), some (.ref s)] ∧ ShInv K R H H3 H4 s sdx p g0 g1 g2 x.1 H' l' gs [] [] ∧ gs.length ≤ 12 ∧ l'.length ≤ f ∧
        RetS K H E Q ((Vaidxa.takeRows x.1.length f gs l').bind fun r => Vaidxa.takeRest (ts.length + 1) ⟨x.1, ⟨x.1.length, r.1⟩, [], [], [], []⟩ r.2),
      ⟨_, ts.length + 1, [], x.2, rfl, rfl, I4, (by show 0 ≤ 12; decide), ?_, k3⟩, ?_⟩
    · have := At_le A4
      rw [eT] at this
      omega
    rintro m σ H5 ⟨f, gs, l5, rfl, rfl, I5, hg12, hf5, k5⟩
    have hl5 := At_len I5.at_
    refine stands_w w_row rfl I5.at_ ⟨_, rfl, ?_⟩
    cases f with
    | zero => omega
    | succ f =>
      rw [takeRows_step] at k5
      cases hw : Vaidxa.wordIs "row" l5 with
      | true =>
        refine if_true_of rfl ?_
        rw [if_pos hw] at k5
        obtain ⟨ga, hga, ega⟩ := I5.g
        refine ⟨fun σ' H'' => ∃ m', m' < l5.length ∧ ∃ (f : Nat) (gs : List VaidxBase.Group) (l' : VToks), m' = l'.length ∧ σ' = [some (.ref a), some (.ref R.r), some (.ref s)] ∧ ShInv K R H H3 H4 s sdx p g0 g1 g2 x.1 H'' l' gs [] [] ∧ gs.length ≤ 12 ∧ l'.length ≤ f ∧
          RetS K H E Q ((Vaidxa.takeRows x.1.length f gs l').bind fun r => Vaidxa.takeRest (ts.length + 1) ⟨x.1, ⟨x.1.length, r.1⟩, [], [], [], []⟩ r.2), fun _ _ h => h, ?_⟩
        refine ⟨_, rfl, _, rfl, s, _, sdx, _, _, rfl, I5.sh, cl_Sheet T, n_Sheet_groups T, l_Sheet_groups, R, l5, g0, _, 12, rfl, I5.at_, SqL.of hga, fun h12 => ?_, fun h12 => ?_⟩
        · rw [List.length_map, ega.1] at h12
          rw [if_pos (by omega)] at k5
          exact ErrS.rd (K := K) k5 I5.same hr0
        · rw [List.length_map, ega.1] at h12
          rw [if_neg (by omega), bind_bind_got] at k5
          obtain ⟨ke, kq⟩ := k5.step
          refine ⟨_, rfl, s, _, sdx, _, _, rfl, I5.sh, cl_Sheet T, n_Sheet_groups T, l_Sheet_groups, .inl ⟨rfl, _, SqL.of hga⟩, ?_⟩
          refine ⟨_, rfl, _, rfl, R, l5, s, sdx, p, g0, _, _, x.1, gs, rfl, I5.at_, I5.sh, I5.cols, ⟨ga, hga, ega.mono fun _ _ z => groupAt_same z same_diff⟩, c1, c4, by omega, Ret.intro (fun z e => (ke z e).rd I5.same hr0) fun y e6 H6 A6 p6 u hu => ?_⟩
          have I6 := I5.go F A6 p6
          obtain ⟨ga6, hga6, ega6⟩ := I6.g
          have hga6' := p6 _ _ (lst_ne_rd I5.at_ hga) hga
          have hlt := groupRes_lt e6
          have hu6 : GroupAt K (diff H4 H6) u y.1 := groupAt_same hu (diff_dom I5.dom)
          refine ⟨g0, _, _, rfl, rfl, hga6, ?_, y.2.length, hlt, f, gs ++ [y.1], y.2, rfl, rfl, I6.pushG F hga6 ega6 hu6, ?_, by omega, kq y e6⟩
          · rw [List.length_map, ega6.1]
            exact size_ok (by omega)
          · rw [List.length_append]
            show gs.length + 1 ≤ 12
            omega
      | false =>
        refine if_false_of rfl ?_
        rw [if_neg (by rw [hw]; exact Bool.false_ne_true)] at k5
        have k5 : RetS K H E Q (Vaidxa.takeRest (ts.length + 1) ⟨x.1, ⟨x.1.length, gs⟩, [], [], [], []⟩ l5) := k5
        -- questions
        refine ⟨fun m σ H' => ∃ (f : Nat) (qs : List NQ) (l' : VToks), m = l'.length ∧ σ = [some (.ref a), some (.ref R.r), some (.ref s)] ∧ ShInv K R H H3 H4 s sdx p g0 g1 g2 x.1 H' l' gs qs [] ∧ qs.length ≤ 6 ∧ l'.length ≤ f ∧
            RetS K H E Q (Vaidxa.takeRest f ⟨x.1, ⟨x.1.length, gs⟩, qs.map (·.1), qs.map (·.2), [], []⟩ l'),
          ⟨_, ts.length + 1, [], l5, rfl, rfl, I5, (by show 0 ≤ 6; decide), ?_, k5⟩, ?_⟩
        · have := At_le I5.at_
          rw [eT] at this
          omega
        rintro m σ H6 ⟨f6, qs, l6, rfl, rfl, I6, hq6, hf6, k6⟩
        have hl6 := At_len I6.at_
        refine stands_w w_ask rfl I6.at_ ⟨_, rfl, ?_⟩
        cases f6 with
        | zero => omega
        | succ f6 =>
          cases hw6 : Vaidxa.wordIs "ask" l6 with
          | true =>
            refine if_true_of rfl ?_
            rw [takeRest_ask hw6 rfl] at k6
            obtain ⟨qa, hqa, eqa⟩ := I6.q
            refine ⟨fun σ' H'' => ∃ m', m' < l6.length ∧ ∃ (f : Nat) (qs : List NQ) (l' : VToks), m' = l'.length ∧ σ' = [some (.ref a), some (.ref R.r), some (.ref s)] ∧ ShInv K R H H3 H4 s sdx p g0 g1 g2 x.1 H'' l' gs qs [] ∧ qs.length ≤ 6 ∧ l'.length ≤ f ∧
              RetS K H E Q (Vaidxa.takeRest f ⟨x.1, ⟨x.1.length, gs⟩, qs.map (·.1), qs.map (·.2), [], []⟩ l'), fun _ _ h => h, ?_⟩
            refine ⟨_, rfl, _, rfl, s, _, sdx, _, _, rfl, I6.sh, cl_Sheet T, n_Sheet_questions T, l_Sheet_questions, R, l6, g1, _, 6, rfl, I6.at_, SqL.of hqa, fun h12 => ?_, fun h12 => ?_⟩
            · rw [List.length_map, eqa.1] at h12
              rw [if_pos (by show 6 ≤ (qs.map (·.2)).length; rw [List.length_map]; omega)] at k6
              exact ErrS.rd (K := K) k6 I6.same hr0
            · rw [List.length_map, eqa.1] at h12
              rw [if_neg (by show ¬ 6 ≤ (qs.map (·.2)).length; rw [List.length_map]; omega)] at k6
              obtain ⟨ke, kq⟩ := k6.step
              refine ⟨_, rfl, s, _, sdx, _, _, rfl, I6.sh, cl_Sheet T, n_Sheet_questions T, l_Sheet_questions, .inl ⟨rfl, _, SqL.of hqa⟩, ?_⟩
              have hl40 : l6.length ≤ 40000 := by
                have := At_le I6.at_
                rw [eT] at this
                omega
              refine ⟨_, rfl, _, rfl, R, l6, s, sdx, p, g1, _, _, x.1, qs, rfl, I6.at_, I6.sh, I6.cols, ⟨qa, hqa, eqa.mono fun _ _ z => questionAt_same z same_diff⟩, by omega, hl40, Ret.intro (fun z e => (ke z e).rd I6.same hr0) fun y e7 H7 A7 p7 u hu => ?_⟩
              have I7 := I6.go F A7 p7
              obtain ⟨qa7, hqa7, eqa7⟩ := I7.q
              have hlt := questionRes_lt e7
              have hu7 : QuestionAt K (diff H4 H7) u y.1 := questionAt_same hu (diff_dom I6.dom)
              have k7 := kq y e7
              refine ⟨g1, _, _, rfl, rfl, hqa7, ?_, y.2.length, hlt, f6, qs ++ [y.1], y.2, rfl, rfl, I7.pushQ F hqa7 eqa7 hu7, ?_, by omega, ?_⟩
              · rw [List.length_map, eqa7.1]
                exact size_ok (by omega)
              · rw [List.length_append]
                show qs.length + 1 ≤ 6
                omega
              · rw [List.map_append, List.map_append]
                exact k7
          | false =>
            refine if_false_of rfl ?_
            -- indexes
            refine ⟨fun m σ H' => ∃ (f : Nat) (is : List NI) (l' : VToks), m = l'.length ∧ σ = [some (.ref a), some (.ref R.r), some (.ref s)] ∧ ShInv K R H H3 H4 s sdx p g0 g1 g2 x.1 H' l' gs qs is ∧ is.length ≤ 8 ∧ l'.length ≤ f ∧ (is = [] → Vaidxa.wordIs "ask" l' = false) ∧
                RetS K H E Q (Vaidxa.takeRest f ⟨x.1, ⟨x.1.length, gs⟩, qs.map (·.1), qs.map (·.2), is.map (·.1), is.map (·.2)⟩ l'),
              ⟨_, f6 + 1, [], l6, rfl, rfl, I6, (by show 0 ≤ 8; decide), hf6, fun _ => hw6, k6⟩, ?_⟩
            rintro m σ H7 ⟨f7, is, l7, rfl, rfl, I7, hi7, hf7, ha7, k7⟩
            have hl7 := At_len I7.at_
            refine stands_w w_index rfl I7.at_ ⟨_, rfl, ?_⟩
            cases f7 with
            | zero => omega
            | succ f7 =>
              cases hw7 : Vaidxa.wordIs "index" l7 with
              | true =>
                refine if_true_of rfl ?_
                rw [takeRest_index hw7] at k7
                obtain ⟨ia, hia, eia⟩ := I7.i
                refine ⟨fun σ' H'' => ∃ m', m' < l7.length ∧ ∃ (f : Nat) (is : List NI) (l' : VToks), m' = l'.length ∧ σ' = [some (.ref a), some (.ref R.r), some (.ref s)] ∧ ShInv K R H H3 H4 s sdx p g0 g1 g2 x.1 H'' l' gs qs is ∧ is.length ≤ 8 ∧ l'.length ≤ f ∧ (is = [] → Vaidxa.wordIs "ask" l' = false) ∧
                  RetS K H E Q (Vaidxa.takeRest f ⟨x.1, ⟨x.1.length, gs⟩, qs.map (·.1), qs.map (·.2), is.map (·.1), is.map (·.2)⟩ l'), fun _ _ h => h, ?_⟩
                refine ⟨_, rfl, _, rfl, s, _, sdx, _, _, rfl, I7.sh, cl_Sheet T, n_Sheet_indexes T, l_Sheet_indexes, R, l7, g2, _, 8, rfl, I7.at_, SqL.of hia, fun h12 => ?_, fun h12 => ?_⟩
                · rw [List.length_map, eia.1] at h12
                  rw [if_pos (by show 8 ≤ (is.map (·.2)).length; rw [List.length_map]; omega)] at k7
                  exact ErrS.rd (K := K) k7 I7.same hr0
                · rw [List.length_map, eia.1] at h12
                  rw [if_neg (by show ¬ 8 ≤ (is.map (·.2)).length; rw [List.length_map]; omega)] at k7
                  obtain ⟨ke, kq⟩ := k7.step
                  refine ⟨_, rfl, s, _, sdx, _, _, rfl, I7.sh, cl_Sheet T, n_Sheet_indexes T, l_Sheet_indexes, .inl ⟨rfl, _, SqL.of hia⟩, ?_⟩
                  have hl40 : l7.length ≤ 40000 := by
                    have := At_le I7.at_
                    rw [eT] at this
                    omega
                  refine ⟨_, rfl, _, rfl, R, l7, s, sdx, p, g2, _, _, x.1, is, rfl, I7.at_, I7.sh, I7.cols, ⟨ia, hia, eia.mono fun _ _ z => indexAt_same z same_diff⟩, by omega, hl40, Ret.intro (fun z e => (ke z e).rd I7.same hr0) fun y e8 H8 A8 p8 u hu => ?_⟩
                  have I8 := I7.go F A8 p8
                  obtain ⟨ia8, hia8, eia8⟩ := I8.i
                  have hlt := indexRes_lt e8
                  have hu8 : IndexAt K (diff H4 H8) u y.1 := indexAt_same hu (diff_dom I7.dom)
                  have k8 := kq y e8
                  refine ⟨g2, _, _, rfl, rfl, hia8, ?_, y.2.length, hlt, f7, is ++ [y.1], y.2, rfl, rfl, I8.pushI F hia8 eia8 hu8, ?_, by omega, fun z => absurd z (by simp), ?_⟩
                  · rw [List.length_map, eia8.1]
                    exact size_ok (by omega)
                  · rw [List.length_append]
                    show is.length + 1 ≤ 8
                    omega
                  · rw [List.map_append, List.map_append]
                    exact k8
              | false =>
                refine if_false_of rfl ?_
                obtain ⟨m, hm, _⟩ := I7.at_.pos
                refine ⟨_, rfl, R.r, R.dx, _, rfl, hm, l_Reader_expect_end, R, l7, rfl, I7.at_, fun he => ?_, fun he => ?_⟩
                · have hask : (Vaidxa.wordIs "ask" l7 && (is.map (·.2)).isEmpty) = false := by
                    cases is with
                    | nil =>
                      rw [ha7 rfl]
                      rfl
                    | cons i is => exact Bool.and_false _
                  rw [takeRest_wrong he I7.at_.good.ne hask hw7] at k7
                  exact ErrS.rd (K := K) k7 I7.same hr0
                · rw [takeRest_end he] at k7
                  obtain ⟨ga, hga, ega⟩ := I7.g
                  obtain ⟨qa, hqa, eqa⟩ := I7.q
                  obtain ⟨ia, hia, eia⟩ := I7.i
                  have sd : Same (diff H4 H7) (diff H H7) := diff_dom (dom_same (s03.trans s4))
                  refine ⟨_, rfl, k7 s H7 ⟨sdx, p, g0, g1, g2, diff_new (s03.free ns') I7.sh, diff_new (s02.free np) I7.cols, ⟨ga, diff_new F.m0 hga, ega.mono fun _ _ z => groupAt_same z sd⟩, ?_, ?_, by rw [List.length_map, List.length_map], by rw [List.length_map, List.length_map]⟩ I7.same⟩
                  · show QuestionsAt K (diff H H7) g1 ((qs.map (·.1)).zip (qs.map (·.2)))
                    rw [zip_fs]
                    exact ⟨qa, diff_new F.m1 hqa, eqa.mono fun _ _ z => questionAt_same z sd⟩
                  · show IndexesAt K (diff H H7) g2 ((is.map (·.1)).zip (is.map (·.2)))
                    rw [zip_fs]
                    exact ⟨ia, diff_new F.m2 hia, eia.mono fun _ _ z => indexAt_same z sd⟩
end
end Ix
-- part IxW
set_option maxHeartbeats 4000000
namespace Ix
open PySem PySem.Spec PyProof.Rows L2
/-! ### what is read keeps within its limits -/
structure FOk (n : Nat) (f : VaidxBase.Filter) : Prop where
  col : f.col < n
  le : f.lo ≤ f.hi
  hi : f.hi ≤ 9
structure COk (n : Nat) (l : List Nat) : Prop where
  lt : ∀ c ∈ l, c < n
  nd : l.Nodup
structure FsOk (n : Nat) (fs : List VaidxBase.Filter) : Prop where
  ok : ∀ f ∈ fs, FOk n f
  nd : (fs.map fun f => f.col).Nodup
structure QOk (n : Nat) (q : VaidxBase.Question) : Prop where
  fs : FsOk n q.filters
  order : COk n q.order
  wants : COk n q.wants
  back : q.back = true → q.order ≠ []
  limit : q.limit ≤ 1000000
  times : q.times ≤ 1000
structure IOk (n : Nat) (i : VaidxBase.Index) : Prop where
  cols : COk n (i.keys ++ i.others)
  keys : i.keys ≠ []
  only : ∀ f, i.only = some f → FOk n f
structure GOk (n : Nat) (g : VaidxBase.Group) : Prop where
  len : g.row.length = n
  val : ∀ v ∈ g.row, v ≤ 9
  least : 1 ≤ g.count
  count : g.count ≤ 1000000
def NOk (w : List Nat) : Prop := w.length ≤ 7
structure SrcOk (S : Vaidxa.Source) : Prop where
  tc : S.table.cols = S.cols.length
  c1 : 1 ≤ S.cols.length
  c4 : S.cols.length ≤ 4
  cn : ∀ w ∈ S.cols, NOk w
  gl : S.table.groups.length ≤ 12
  gs : ∀ g ∈ S.table.groups, GOk S.cols.length g
  al : S.askNames.length = S.asks.length
  a6 : S.asks.length ≤ 6
  an : ∀ w ∈ S.askNames, NOk w
  qs : ∀ q ∈ S.asks, QOk S.cols.length q
  il : S.indexNames.length = S.indexes.length
  i8 : S.indexes.length ≤ 8
  inn : ∀ w ∈ S.indexNames, NOk w
  is : ∀ i ∈ S.indexes, IOk S.cols.length i
theorem nodup_lt : ∀ (n : Nat) (l : List Nat), l.Nodup → (∀ c ∈ l, c < n) → l.length ≤ n
  | 0, l, _, h => by
    cases l with
    | nil => exact Nat.le_refl _
    | cons c l => exact absurd (h c List.mem_cons_self) (Nat.not_lt_zero _)
  | n + 1, l, nd, h => by
    by_cases c : n ∈ l
    · have h1 := nodup_lt n (l.erase n) (nd.erase n) (fun c hc => by
        have h2 := (List.Nodup.mem_erase_iff nd).mp hc
        have h3 := h c h2.2
        have h4 := h2.1
        omega)
      rw [List.length_erase_of_mem c] at h1
      omega
    · have h1 := nodup_lt n l nd (fun x hx => by
        have h3 := h x hx
        have h4 : x ≠ n := fun z => c (z ▸ hx)
        omega)
      omega
theorem COk.len {n : Nat} {l : List Nat} (h : COk n l) : l.length ≤ n := nodup_lt n l h.nd h.lt
theorem FsOk.len {n : Nat} {l : List VaidxBase.Filter} (h : FsOk n l) : l.length ≤ n := by
  have h1 := nodup_lt n (l.map fun f => f.col) h.nd (fun c hc => by
    obtain ⟨f, hf, rfl⟩ := List.mem_map.mp hc
    exact (h.ok f hf).col)
  rw [List.length_map] at h1
  exact h1
theorem IOk.k {n : Nat} {i : VaidxBase.Index} (h : IOk n i) : COk n i.keys := ⟨fun c hc => h.cols.lt c (List.mem_append_left _ hc), (List.nodup_append.mp h.cols.nd).1⟩
theorem IOk.o {n : Nat} {i : VaidxBase.Index} (h : IOk n i) : COk n i.others := ⟨fun c hc => h.cols.lt c (List.mem_append_right _ hc), (List.nodup_append.mp h.cols.nd).2.1⟩
theorem nodup_snoc {α : Type} [BEq α] [LawfulBEq α] {l : List α} {x : α} (h : l.Nodup) (c : l.contains x = false) : (l ++ [x]).Nodup := by
  refine List.nodup_append.mpr ⟨h, (List.nodup_cons.mpr ⟨List.not_mem_nil, List.nodup_nil⟩), fun a ha b hb e => ?_⟩
  rw [List.mem_singleton] at hb
  subst hb
  subst e
  rw [List.contains_iff_mem.mpr ha] at c
  cases c
/-! words -/
def wok (t : Vaidxa.Token) : Prop := ∀ w, t.tok = .word w → NOk w
theorem tf_wok : ∀ (f p : Nat) (t : List Nat) (l : VToks), Vaidxa.tokensFrom f p t = .ok l → ∀ x ∈ l, wok x
  | 0, p, t, l, h => by cases h
  | f + 1, p, [], l, h => by
    have h : (Except.ok [⟨p, .ending⟩] : Vaidxa.Got VToks) = .ok l := h
    injection h with h
    subst h
    intro x hx w e
    rw [List.mem_singleton] at hx
    subst hx
    cases e
  | f + 1, p, b :: r, l, h => by
    unfold Vaidxa.tokensFrom at h
    dsimp only at h
    split at h
    · exact tf_wok f _ _ l h
    · split at h
      · split at h
        · cases h
        · rename_i hl
          obtain ⟨y, e, rfl⟩ := map_ok h
          intro x hx
          rcases List.mem_cons.mp hx with z | z
          · subst z
            intro w e
            injection e with e
            subst e
            exact Nat.le_of_not_lt hl
          · exact tf_wok f _ _ y e x z
      · split at h
        · split at h
          · cases h
          · obtain ⟨y, e, rfl⟩ := map_ok h
            intro x hx
            rcases List.mem_cons.mp hx with z | z
            · subst z
              intro w e
              cases e
            · exact tf_wok f _ _ y e x z
        · split at h
          · obtain ⟨y, e, rfl⟩ := map_ok h
            intro x hx
            rcases List.mem_cons.mp hx with z | z
            · subst z
              intro w e
              cases e
            · exact tf_wok f _ _ y e x z
          · cases h
def WokL (l : VToks) : Prop := ∀ x ∈ l, wok x
theorem WokL.sub {l m : VToks} (h : WokL l) (s : m ⊆ l) : WokL m := fun x hx => h x (s hx)
theorem sub_drop {l m : VToks} {n : Nat} (e : m = l.drop n) : m ⊆ l := by
  subst e
  exact List.drop_subset n l
theorem nameNext_ok {l : VToks} {w : List Nat} (h : WokL l) (e : Vaidxa.nameNext l = some w) : NOk w := by
  unfold Vaidxa.nameNext at e
  split at e
  · split at e
    · cases e
    · injection e with e
      subst e
      exact h _ List.mem_cons_self _ rfl
  · cases e
theorem takeNew_ok {ns : List (List Nat)} {l : VToks} {x : List Nat × VToks} (hl : WokL l) (h : Vaidxa.takeNew ns l = .ok x) : NOk x.1 ∧ x.2 ⊆ l := by
  refine ⟨?_, sub_drop (takeNew_len h)⟩
  unfold Vaidxa.takeNew at h
  split at h
  · cases h
  · rename_i w e
    split at h
    · cases h
    · injection h with h
      rw [← h]
      exact nameNext_ok hl e
theorem takeNum_ok {lo hi : Nat} {l : VToks} {x : Nat × VToks} (h : Vaidxa.takeNum lo hi l = .ok x) : lo ≤ x.1 ∧ x.1 ≤ hi := by
  unfold Vaidxa.takeNum at h
  split at h
  · split at h
    · rename_i c
      injection h with h
      rw [← h]
      exact c
    · cases h
  · cases h
theorem takeNum_sub {lo hi : Nat} {l : VToks} {x : Nat × VToks} (h : Vaidxa.takeNum lo hi l = .ok x) : x.2 ⊆ l := sub_drop (takeNum_len h)
theorem takeWord_sub {s : String} {l l1 : VToks} (h : Vaidxa.takeWord s l = .ok l1) : l1 ⊆ l := sub_drop (takeWord_len h)
theorem takeSign_sub {b : Nat} {l l1 : VToks} (h : Vaidxa.takeSign b l = .ok l1) : l1 ⊆ l := sub_drop (takeSign_len h)
theorem namesOn_ok : ∀ (n : Nat) (done : List (List Nat)) (l : VToks) (x : List (List Nat) × VToks), WokL l → (∀ w ∈ done, NOk w) → namesOn n done l = .ok x → (∀ w ∈ x.1, NOk w) ∧ x.2 ⊆ l
  | 0, done, l, x, hl, hd, h => by
    unfold namesOn at h
    split at h
    · cases h
    · injection h with h
      rw [← h]
      exact ⟨hd, List.Subset.refl _⟩
  | n + 1, done, l, x, hl, hd, h => by
    unfold namesOn at h
    split at h
    · rw [takeNames_new] at h
      obtain ⟨w, e, h⟩ := bind_ok h
      have hl1 : l.drop 1 ⊆ l := List.drop_subset 1 l
      obtain ⟨hw, hs⟩ := takeNew_ok (hl.sub hl1) e
      split at h
      · cases h
      · obtain ⟨h1, h2⟩ := namesOn_ok n (done ++ [w.1]) w.2 x (hl.sub (hs.trans hl1)) (fun z hz => by
          rcases List.mem_append.mp hz with z1 | z1
          · exact hd z z1
          · rw [List.mem_singleton] at z1
            subst z1
            exact hw) h
        exact ⟨h1, h2.trans (hs.trans hl1)⟩
    · injection h with h
      rw [← h]
      exact ⟨hd, List.Subset.refl _⟩
theorem tableRes_ok {n : Nat} {l : VToks} {x : List (List Nat) × VToks} (hl : WokL l) (h : tableRes n l = .ok x) : (∀ w ∈ x.1, NOk w) ∧ x.2 ⊆ l := by
  unfold tableRes at h
  obtain ⟨l1, e1, h⟩ := bind_ok h
  obtain ⟨l2, e2, h⟩ := bind_ok h
  obtain ⟨c, e, h⟩ := bind_ok h
  obtain ⟨l3, e3, h⟩ := bind_ok h
  obtain ⟨l4, e4, rfl⟩ := map_ok h
  show (∀ w ∈ c.1, NOk w) ∧ l4 ⊆ l
  have s2 : l2 ⊆ l := (takeSign_sub e2).trans (takeWord_sub e1)
  cases n with
  | zero => cases e
  | succ n =>
    rw [takeNames_new] at e
    obtain ⟨w, ew, e⟩ := bind_ok e
    obtain ⟨hw, hs⟩ := takeNew_ok (hl.sub s2) ew
    split at e
    · cases e
    · obtain ⟨h1, h2⟩ := namesOn_ok n [w.1] w.2 c (hl.sub (hs.trans s2)) (fun z hz => by
        rw [List.mem_singleton] at hz
        subst hz
        exact hw) e
      exact ⟨h1, ((takeSign_sub e4).trans (takeSign_sub e3)).trans (h2.trans (hs.trans s2))⟩
theorem takeValues_ok : ∀ (n : Nat) (l : VToks) (x : List Nat × VToks), Vaidxa.takeValues n l = .ok x → x.1.length = n ∧ (∀ v ∈ x.1, v ≤ 9) ∧ x.2 ⊆ l
  | 0, l, x, h => by
    have h : (Except.ok ([], l) : Vaidxa.Got (List Nat × VToks)) = .ok x := h
    injection h with h
    rw [← h]
    exact ⟨rfl, fun v hv => absurd hv List.not_mem_nil, List.Subset.refl _⟩
  | n + 1, l, x, h => by
    rw [takeValues_step] at h
    obtain ⟨v, e1, h⟩ := bind_ok h
    obtain ⟨y, e2, rfl⟩ := map_ok h
    have h1 := takeNum_ok e1
    have s1 := takeNum_sub e1
    have h2 : y.1.length = n ∧ (∀ v ∈ y.1, v ≤ 9) ∧ y.2 ⊆ v.2 := by
      cases n with
      | zero =>
        have e2 : (Except.ok ([], v.2) : Vaidxa.Got (List Nat × VToks)) = .ok y := e2
        injection e2 with e2
        rw [← e2]
        exact ⟨rfl, fun v hv => absurd hv List.not_mem_nil, List.Subset.refl _⟩
      | succ n =>
        obtain ⟨r, e3, e2⟩ := bind_ok (show (Vaidxa.takeSign 44 v.2).bind (fun r => Vaidxa.takeValues (n + 1) r) = .ok y from e2)
        obtain ⟨h3, h4, h5⟩ := takeValues_ok (n + 1) r y e2
        exact ⟨h3, h4, h5.trans (takeSign_sub e3)⟩
    refine ⟨by show (v.1 :: y.1).length = n + 1; rw [List.length_cons, h2.1], fun z hz => ?_, h2.2.2.trans s1⟩
    rcases List.mem_cons.mp hz with q | q
    · rw [q]
      exact h1.2
    · exact h2.2.1 z q
theorem groupRes_ok {n : Nat} {gs : List VaidxBase.Group} {l : VToks} {x : VaidxBase.Group × VToks} (h : groupRes n gs l = .ok x) : GOk n x.1 ∧ x.2 ⊆ l := by
  unfold groupRes at h
  obtain ⟨l1, e1, h⟩ := bind_ok h
  obtain ⟨v, e2, h⟩ := bind_ok h
  obtain ⟨l3, e3, h⟩ := bind_ok h
  obtain ⟨c, e4, h⟩ := bind_ok h
  obtain ⟨l5, e5, rfl⟩ := map_ok h
  unfold cellsRes at e2
  obtain ⟨u, e6, h⟩ := bind_ok e2
  have : v = u := by
    split at h
    · cases h
    · injection h with h
      exact h.symm
  subst this
  obtain ⟨h1, h2, h3⟩ := takeValues_ok _ _ _ e6
  have h4 := takeNum_ok e4
  exact ⟨⟨h1, h2, h4.1, h4.2⟩, (takeSign_sub e5).trans ((takeNum_sub e4).trans ((takeWord_sub e3).trans (h3.trans (takeWord_sub e1))))⟩
theorem takeRows_ok (n : Nat) : ∀ (m : Nat) (done : List VaidxBase.Group) (l : VToks) (x : List VaidxBase.Group × VToks), done.length ≤ 12 → (∀ g ∈ done, GOk n g) → Vaidxa.takeRows n m done l = .ok x → x.1.length ≤ 12 ∧ (∀ g ∈ x.1, GOk n g) ∧ x.2 ⊆ l
  | 0, done, l, x, hd, hg, h => by cases h
  | m + 1, done, l, x, hd, hg, h => by
    rw [takeRows_step] at h
    split at h
    · split at h
      · cases h
      · obtain ⟨g, e, h⟩ := bind_ok h
        obtain ⟨h1, h2⟩ := groupRes_ok e
        obtain ⟨h3, h4, h5⟩ := takeRows_ok n m (done ++ [g.1]) g.2 x (by rw [List.length_append]; show done.length + 1 ≤ 12; omega) (fun z hz => by
          rcases List.mem_append.mp hz with z1 | z1
          · exact hg z z1
          · rw [List.mem_singleton] at z1
            subst z1
            exact h1) h
        exact ⟨h3, h4, h5.trans h2⟩
    · injection h with h
      rw [← h]
      exact ⟨hd, hg, List.Subset.refl _⟩
theorem findIdx_lt {w : List Nat} : ∀ (ns : List (List Nat)) (c : Nat), ns.findIdx? (fun x => x == w) = some c → c < ns.length := by
  intro ns c h
  obtain ⟨h1, _⟩ := List.findIdx?_eq_some_iff_getElem.mp h
  exact h1
theorem takeCol_ok {ns : List (List Nat)} {l : VToks} {x : Nat × VToks} (h : Vaidxa.takeCol ns l = .ok x) : x.1 < ns.length ∧ x.2 ⊆ l := by
  unfold Vaidxa.takeCol at h
  split at h
  · cases h
  · split at h
    · cases h
    · rename_i c e
      injection h with h
      rw [← h]
      exact ⟨findIdx_lt _ _ e, List.drop_subset 1 l⟩
theorem colRes_ok {ns : List (List Nat)} {tk : List Nat} {l : VToks} {x : Nat × VToks} (h : colRes ns tk l = .ok x) : x.1 < ns.length ∧ tk.contains x.1 = false ∧ x.2 ⊆ l := by
  unfold colRes at h
  obtain ⟨c, e, h⟩ := bind_ok h
  obtain ⟨h1, h2⟩ := takeCol_ok e
  split at h
  · cases h
  · rename_i hc
    injection h with h
    subst h
    exact ⟨h1, by simpa using hc, h2⟩
theorem takeCols_ok (ns : List (List Nat)) : ∀ (n : Nat) (done : List Nat) (l : VToks) (x : List Nat × VToks), COk ns.length done → Vaidxa.takeCols ns n done l = .ok x → COk ns.length x.1 ∧ x.2 ⊆ l ∧ ∃ r, x.1 = done ++ r
  | 0, done, l, x, hd, h => by cases h
  | n + 1, done, l, x, hd, h => by
    rw [takeCols_step] at h
    obtain ⟨c, e, h⟩ := bind_ok h
    obtain ⟨h1, h2, h3⟩ := colRes_ok e
    have hd' : COk ns.length (done ++ [c.1]) := ⟨fun z hz => by
      rcases List.mem_append.mp hz with z1 | z1
      · exact hd.lt z z1
      · rw [List.mem_singleton] at z1
        subst z1
        exact h1, nodup_snoc hd.nd h2⟩
    unfold colsOn at h
    split at h
    · obtain ⟨h4, h5, r, h6⟩ := takeCols_ok ns n _ _ x hd' h
      exact ⟨h4, h5.trans ((List.drop_subset 1 _).trans h3), [c.1] ++ r, by rw [h6, List.append_assoc]⟩
    · injection h with h
      rw [← h]
      exact ⟨hd', h3, [c.1], rfl⟩
theorem takeFilter_ok {ns : List (List Nat)} {l : VToks} {x : VaidxBase.Filter × VToks} (h : Vaidxa.takeFilter ns l = .ok x) : FOk ns.length x.1 ∧ x.2 ⊆ l := by
  unfold Vaidxa.takeFilter at h
  obtain ⟨c, e1, h⟩ := bind_ok h
  obtain ⟨h1, s1⟩ := takeCol_ok e1
  split at h
  · obtain ⟨v, e2, rfl⟩ := map_ok h
    have h2 := takeNum_ok e2
    exact ⟨⟨h1, Nat.le_refl _, h2.2⟩, (takeNum_sub e2).trans ((List.drop_subset 1 _).trans s1)⟩
  · obtain ⟨f, e2, h⟩ := bind_ok h
    obtain ⟨a, e3, h⟩ := bind_ok h
    obtain ⟨t, e4, h⟩ := bind_ok h
    obtain ⟨b, e5, rfl⟩ := map_ok h
    have h5 := takeNum_ok e5
    exact ⟨⟨h1, h5.1, h5.2⟩, (takeNum_sub e5).trans ((takeWord_sub e4).trans ((takeNum_sub e3).trans ((takeWord_sub e2).trans s1)))⟩
theorem takeFilters_ok (ns : List (List Nat)) : ∀ (n : Nat) (done : List VaidxBase.Filter) (l : VToks) (x : List VaidxBase.Filter × VToks), FsOk ns.length done → Vaidxa.takeFilters ns n done l = .ok x → FsOk ns.length x.1 ∧ x.2 ⊆ l
  | 0, done, l, x, hd, h => by cases h
  | n + 1, done, l, x, hd, h => by
    rw [takeFilters_step] at h
    obtain ⟨f, e, h⟩ := bind_ok h
    obtain ⟨h1, h2⟩ := takeFilter_ok e
    split at h
    · cases h
    · rename_i hc
      have hd' : FsOk ns.length (done ++ [f.1]) := ⟨fun z hz => by
        rcases List.mem_append.mp hz with z1 | z1
        · exact hd.ok z z1
        · rw [List.mem_singleton] at z1
          subst z1
          exact h1, by
        rw [List.map_append]
        refine nodup_snoc hd.nd ?_
        rw [any_cols]
        simpa using hc⟩
      unfold filtsOn at h
      split at h
      · obtain ⟨h3, h4⟩ := takeFilters_ok ns n _ _ x hd' h
        exact ⟨h3, h4.trans ((List.drop_subset 1 _).trans h2)⟩
      · injection h with h
        rw [← h]
        exact ⟨hd', h2⟩
theorem COk.nil (n : Nat) : COk n [] := ⟨fun c hc => absurd hc List.not_mem_nil, List.nodup_nil⟩
theorem FsOk.nil (n : Nat) : FsOk n [] := ⟨fun c hc => absurd hc List.not_mem_nil, List.nodup_nil⟩
theorem optc_ok {s : String} {ns : List (List Nat)} {N : Nat} {l : VToks} {x : List Nat × VToks} (h : (if Vaidxa.wordIs s l then Vaidxa.takeCols ns N [] (l.drop 1) else .ok ([], l)) = .ok x) : COk ns.length x.1 ∧ x.2 ⊆ l := by
  split at h
  · obtain ⟨h1, h2, _⟩ := takeCols_ok ns _ _ _ x (COk.nil _) h
    exact ⟨h1, h2.trans (List.drop_subset 1 _)⟩
  · injection h with h
    rw [← h]
    exact ⟨COk.nil _, List.Subset.refl _⟩
theorem optn_ok {s : String} {lo hi d : Nat} {l : VToks} {x : Nat × VToks} (hd : d ≤ hi) (h : (if Vaidxa.wordIs s l then Vaidxa.takeNum lo hi (l.drop 1) else .ok (d, l)) = .ok x) : x.1 ≤ hi ∧ x.2 ⊆ l := by
  split at h
  · exact ⟨(takeNum_ok h).2, (takeNum_sub h).trans (List.drop_subset 1 _)⟩
  · injection h with h
    rw [← h]
    exact ⟨hd, List.Subset.refl _⟩
theorem questionRes_ok {ns qn : List (List Nat)} {l : VToks} {x : NQ × VToks} (hl : WokL l) (h : questionRes ns qn l = .ok x) : NOk x.1.1 ∧ QOk ns.length x.1.2 ∧ x.2 ⊆ l := by
  unfold questionRes at h
  obtain ⟨l1, e1, h⟩ := bind_ok h
  obtain ⟨w, e2, h⟩ := bind_ok h
  unfold rWhere at h
  obtain ⟨f, e3, h⟩ := bind_ok h
  unfold rBy at h
  obtain ⟨o, e4, h⟩ := bind_ok h
  unfold rBack rWants at h
  obtain ⟨wn, e5, h⟩ := bind_ok h
  unfold rFirst at h
  obtain ⟨m, e6, h⟩ := bind_ok h
  unfold rTimes at h
  obtain ⟨t, e7, h⟩ := bind_ok h
  obtain ⟨e, e8, rfl⟩ := map_ok h
  have s1 := takeWord_sub e1
  obtain ⟨h2, s2⟩ := takeNew_ok (hl.sub s1) e2
  have h3 : FsOk ns.length f.1 ∧ f.2 ⊆ w.2 := by
    split at e3
    · obtain ⟨h1, h2⟩ := takeFilters_ok ns _ _ _ f (FsOk.nil _) e3
      exact ⟨h1, h2.trans (List.drop_subset 1 _)⟩
    · injection e3 with e3
      rw [← e3]
      exact ⟨FsOk.nil _, List.Subset.refl _⟩
  obtain ⟨h4, s4⟩ := optc_ok e4
  obtain ⟨h5, s5⟩ := optc_ok e5
  have h5' : (if (!o.1.isEmpty && Vaidxa.wordIs "back" o.2) = true then o.2.drop 1 else o.2) ⊆ o.2 := by
    split
    · exact List.drop_subset 1 _
    · exact List.Subset.refl _
  obtain ⟨h6, s6⟩ := optn_ok (Nat.zero_le _) e6
  obtain ⟨h7, s7⟩ := optn_ok (by decide : 1 ≤ 1000) e7
  refine ⟨h2, ⟨h3.1, h4, h5, fun hb => ?_, h6, h7⟩, (takeSign_sub e8).trans (s7.trans (s6.trans (s5.trans (h5'.trans (s4.trans (h3.2.trans (s2.trans s1)))))))⟩
  have hb : (!o.1.isEmpty && Vaidxa.wordIs "back" o.2) = true := hb
  rw [Bool.and_eq_true] at hb
  intro z
  have z : o.1 = [] := z
  rw [z] at hb
  exact absurd hb.1 (by decide)
theorem indexRes_ok {ns inn : List (List Nat)} {l : VToks} {x : NI × VToks} (hl : WokL l) (h : indexRes ns inn l = .ok x) : NOk x.1.1 ∧ IOk ns.length x.1.2 ∧ x.2 ⊆ l := by
  unfold indexRes at h
  obtain ⟨l1, e1, h⟩ := bind_ok h
  obtain ⟨w, e2, h⟩ := bind_ok h
  unfold rOn at h
  obtain ⟨l3, e3, h⟩ := bind_ok h
  obtain ⟨k, e4, h⟩ := bind_ok h
  unfold rWith at h
  obtain ⟨o, e5, h⟩ := bind_ok h
  unfold rOnly at h
  obtain ⟨c, e6, h⟩ := bind_ok h
  obtain ⟨e, e7, rfl⟩ := map_ok h
  have s1 := takeWord_sub e1
  obtain ⟨h2, s2⟩ := takeNew_ok (hl.sub s1) e2
  have hk := (takeCols_more ns _ _ _ k e4).1
  obtain ⟨h4, s4, _⟩ := takeCols_ok ns _ _ _ k (COk.nil _) e4
  have h5 : COk ns.length (k.1 ++ o.1) ∧ o.2 ⊆ k.2 := by
    split at e5
    · obtain ⟨y, e8, rfl⟩ := map_ok e5
      obtain ⟨h8, s8, r, hr⟩ := takeCols_ok ns _ _ _ y h4 e8
      refine ⟨?_, s8.trans (List.drop_subset 1 _)⟩
      show COk ns.length (k.1 ++ y.1.drop k.1.length)
      rw [hr, List.drop_left, ← hr]
      exact h8
    · injection e5 with e5
      rw [← e5]
      refine ⟨?_, List.Subset.refl _⟩
      show COk ns.length (k.1 ++ [])
      rw [List.append_nil]
      exact h4
  have h6 : (∀ f, c.1 = some f → FOk ns.length f) ∧ c.2 ⊆ o.2 := by
    split at e6
    · obtain ⟨y, e8, rfl⟩ := map_ok e6
      obtain ⟨h8, s8⟩ := takeFilter_ok e8
      refine ⟨fun f hf => ?_, s8.trans (List.drop_subset 1 _)⟩
      have hf : some y.1 = some f := hf
      injection hf with hf
      rw [← hf]
      exact h8
    · injection e6 with e6
      rw [← e6]
      exact ⟨fun f hf => (by cases hf), List.Subset.refl _⟩
  refine ⟨h2, ⟨h5.1, fun z => ?_, h6.1⟩, (takeSign_sub e7).trans (h6.2.trans (h5.2.trans (s4.trans ((takeWord_sub e3).trans (s2.trans s1)))))⟩
  have z : k.1 = [] := z
  rw [z] at hk
  exact absurd hk (by simp)
theorem mem_snoc {α : Type} {P : α → Prop} {l : List α} {x : α} (h : ∀ z ∈ l, P z) (hx : P x) : ∀ z ∈ l ++ [x], P z := fun z hz => by
  rcases List.mem_append.mp hz with z1 | z1
  · exact h z z1
  · rw [List.mem_singleton] at z1
    subst z1
    exact hx
theorem len_snoc {α : Type} (l : List α) (x : α) : (l ++ [x]).length = l.length + 1 := by
  rw [List.length_append]
  rfl
theorem takeRest_ok : ∀ (n : Nat) (S : Vaidxa.Source) (l : VToks) (S' : Vaidxa.Source), WokL l → l ≠ [] ∨ True → SrcOk S → Vaidxa.takeRest n S l = .ok S' → SrcOk S'
  | 0, S, l, S', hl, _, hS, h => by cases h
  | n + 1, S, l, S', hl, _, hS, h => by
    by_cases hne : l = []
    · subst hne
      unfold Vaidxa.takeRest at h
      have w1 : Vaidxa.wordIs "ask" [] = false := rfl
      have w2 : Vaidxa.wordIs "index" [] = false := rfl
      simp only [w1, w2] at h
      cases h
    cases he : isEnd l with
    | true =>
      rw [takeRest_end he] at h
      injection h with h
      rw [← h]
      exact hS
    | false =>
      cases ha : (Vaidxa.wordIs "ask" l && S.indexes.isEmpty) with
      | true =>
        rw [Bool.and_eq_true] at ha
        rw [takeRest_ask ha.1 (List.isEmpty_iff.mp ha.2)] at h
        split at h
        · cases h
        · rename_i h6
          obtain ⟨x, e, h⟩ := bind_ok h
          obtain ⟨h1, h2, h3⟩ := questionRes_ok hl e
          refine takeRest_ok n _ x.2 S' (hl.sub h3) (.inr trivial) ?_ h
          exact { hS with
            al := by show (S.askNames ++ [x.1.1]).length = (S.asks ++ [x.1.2]).length; rw [len_snoc, len_snoc, hS.al]
            a6 := by show (S.asks ++ [x.1.2]).length ≤ 6; rw [len_snoc]; omega
            an := mem_snoc hS.an h1
            qs := mem_snoc hS.qs h2 }
      | false =>
        cases hi : Vaidxa.wordIs "index" l with
        | true =>
          rw [takeRest_index hi] at h
          split at h
          · cases h
          · rename_i h8
            obtain ⟨x, e, h⟩ := bind_ok h
            obtain ⟨h1, h2, h3⟩ := indexRes_ok hl e
            refine takeRest_ok n _ x.2 S' (hl.sub h3) (.inr trivial) ?_ h
            exact { hS with
              il := by show (S.indexNames ++ [x.1.1]).length = (S.indexes ++ [x.1.2]).length; rw [len_snoc, len_snoc, hS.il]
              i8 := by show (S.indexes ++ [x.1.2]).length ≤ 8; rw [len_snoc]; omega
              inn := mem_snoc hS.inn h1
              is := mem_snoc hS.is h2 }
        | false =>
          rw [takeRest_wrong he hne ha hi] at h
          cases h
theorem read_ok {t : List Nat} {S : Vaidxa.Source} (h : Vaidxa.read t = .ok S) : SrcOk S := by
  rw [read_eq] at h
  obtain ⟨l, e1, h⟩ := bind_ok h
  have hl : WokL l := tf_wok _ _ _ _ e1
  obtain ⟨c, e2, h⟩ := bind_ok h
  obtain ⟨h1, h2⟩ := tableRes_cols e2
  obtain ⟨h3, s3⟩ := tableRes_ok hl e2
  obtain ⟨r, e3, h⟩ := bind_ok h
  obtain ⟨h4, h5, s5⟩ := takeRows_ok _ _ _ _ _ (Nat.zero_le _) (fun g hg => absurd hg List.not_mem_nil) e3
  refine takeRest_ok _ _ _ _ (hl.sub (s5.trans s3)) (.inr trivial) ?_ h
  exact ⟨rfl, h1, h2, h3, h4, h5, rfl, Nat.zero_le _, fun z hz => absurd hz List.not_mem_nil, fun z hz => absurd hz List.not_mem_nil, rfl, Nat.zero_le _, fun z hz => absurd hz List.not_mem_nil, fun z hz => absurd hz List.not_mem_nil⟩
end Ix
-- part IxN
set_option maxHeartbeats 4000000
namespace Ix
open PySem PySem.Spec PyProof.Rows L2
/-! ### figures -/
/-- a new list of numbers -/
def NewI (H : Hp) (Q : VK) (l : List Int) : Prop := ∀ (p : Addr) (H' : Hp), H' p = some (.lst (l.map V.int)) → Same H H' → H p = none → Q (.ref p) H'
def sp_counted (K : PySem.W.Frag) : Sp := fun vs H Q _ => ∃ (a : Addr) (ns : List Nat), vs = [.ref a] ∧ IntsAt K H a ns ∧ ns.length ≤ 100000 ∧ NewI H Q (VaidxBase.listed ns)
def sp_filter_numbers (K : PySem.W.Frag) : Sp := fun vs H Q _ => ∃ (a : Addr) (f : VaidxBase.Filter), vs = [.ref a] ∧ FilterAt K H a f ∧ NewI H Q (VaidxBase.flatFilter f)
def sp_table_numbers (K : PySem.W.Frag) : Sp := fun vs H Q _ => ∃ (p : Addr) (S : Vaidxa.Source), vs = [.ref p] ∧ SheetAt K H p S ∧ SrcOk S ∧ NewI H Q (VaidxBase.flatTable S.table)
def sp_question_numbers (K : PySem.W.Frag) : Sp := fun vs H Q _ => ∃ (p : Addr) (x : NQ) (n : Nat), vs = [.ref p] ∧ QuestionAt K H p x ∧ QOk n x.2 ∧ n ≤ 4 ∧ NewI H Q (VaidxBase.flatQuestion x.2)
def sp_index_numbers (K : PySem.W.Frag) : Sp := fun vs H Q _ => ∃ (p : Addr) (x : NI) (n : Nat), vs = [.ref p] ∧ IndexAt K H p x ∧ IOk n x.2 ∧ n ≤ 4 ∧ NewI H Q (VaidxBase.flatIndex x.2)
abbrev N_counted : List Str := ["columns"]
def t_counted (K : PySem.W.Frag) (E : XK) : TS :=
  (tRet (tOp rCat (tLst (tCons (tCB (rLen_ K) (tCons (tVar 0) tNil)) tNil)) (tVar 0)))
abbrev N_filter_numbers : List Str := ["sieve"]
def t_filter_numbers (K : PySem.W.Frag) (E : XK) : TS :=
  (tRet (tLst (tCons (tFld K (tVar 0) "column") (tCons (tFld K (tVar 0) "low") (tCons (tFld K (tVar 0) "high") tNil)))))
abbrev N_table_numbers : List Str := ["sheet", "numbers", "group"]
def t_table_numbers (K : PySem.W.Frag) (E : XK) : TS :=
  (tSeq (tAsg (tLst (tCons (tCB (rLen_ K) (tCons (tFld K (tVar 0) "columns") tNil)) (tCons (tCB (rLen_ K) (tCons (tFld K (tVar 0) "groups") tNil)) tNil))) (gName 1))
    (tSeq (tFor (iList K (tFld K (tVar 0) "groups")) (gName 2) (tSeq (tDrop (tBM K "list" rExtend (tVar 1) (tCons (tFld K (tVar 2) "cells") tNil)))
    (tDrop (tBM K "list" rAppend (tVar 1) (tCons (tFld K (tVar 2) "rows") tNil)))))
    (tRet (tVar 1))))
abbrev N_question_numbers : List Str := ["question", "numbers", "sieve"]
def t_question_numbers (K : PySem.W.Frag) (E : XK) : TS :=
  (tSeq (tAsg (tLst (tCons (tCB (rLen_ K) (tCons (tFld K (tVar 0) "filters") tNil)) tNil)) (gName 1))
    (tSeq (tFor (iList K (tFld K (tVar 0) "filters")) (gName 2) (tDrop (tBM K "list" rExtend (tVar 1) (tCons (tCall (sp_filter_numbers K) [] E0 (tCons (tVar 2) tNil)) tNil))))
    (tSeq (tDrop (tBM K "list" rExtend (tVar 1) (tCons (tCall (sp_counted K) [] E0 (tCons (tFld K (tVar 0) "order") tNil)) tNil)))
    (tSeq (tDrop (tBM K "list" rAppend (tVar 1) (tCons (tIf (tB (tFld K (tVar 0) "backwards")) (tC (.int 1)) (tC (.int 0))) tNil)))
    (tSeq (tDrop (tBM K "list" rExtend (tVar 1) (tCons (tCall (sp_counted K) [] E0 (tCons (tFld K (tVar 0) "wanted") tNil)) tNil)))
    (tSeq (tDrop (tBM K "list" rAppend (tVar 1) (tCons (tFld K (tVar 0) "limit") tNil)))
    (tSeq (tDrop (tBM K "list" rAppend (tVar 1) (tCons (tFld K (tVar 0) "times") tNil)))
    (tRet (tVar 1)))))))))
abbrev N_index_numbers : List Str := ["index", "numbers"]
def t_index_numbers (K : PySem.W.Frag) (E : XK) : TS :=
  (tSeq (tAsg (tOp rCat (tCall (sp_counted K) [] E0 (tCons (tFld K (tVar 0) "key_columns") tNil)) (tCall (sp_counted K) [] E0 (tCons (tFld K (tVar 0) "included") tNil))) (gName 1))
    (tSeq (tIfS (tTest (tOp rIsN_ (tFld K (tVar 0) "condition") (tC .non))) (tRet (tOp rCat (tVar 1) (tLst (tCons (tC (.int 0)) tNil)))) tNext)
    (tRet (tOp rCat (tOp rCat (tVar 1) (tLst (tCons (tC (.int 1)) tNil))) (tCall (sp_filter_numbers K) [] E0 (tCons (tFld K (tVar 0) "condition") tNil))))))
theorem ints_V (ns : List Nat) : (VaidxBase.ints ns).map V.int = ns.map fun n => V.int ((n : Nat) : Int) := by
  unfold VaidxBase.ints
  rw [List.map_map]
  rfl
theorem listed_V (ns : List Nat) : (VaidxBase.listed ns).map V.int = V.int ((ns.length : Nat) : Int) :: ns.map fun n => V.int ((n : Nat) : Int) := by
  show V.int _ :: (VaidxBase.ints ns).map V.int = _
  rw [ints_V]
  rfl
theorem size_le {n : Nat} (h : n ≤ 1000000) : n ≤ sizeLine := by
  rw [sizeLine_eq]
  omega
theorem NewI.mono {H H1 : Hp} {Q : VK} {l : List Int} (h : NewI H Q l) (s : Same H H1) : NewI H1 Q l := fun p H' hp sm hn => h p H' hp (s.trans sm) (dom_same s p hn)
section
variable {K : PySem.W.Frag} {mg : Str → Option Value}
theorem len_counted {vs : List V} {H : Hp} {Q : VK} {E : XK} (h : sp_counted K vs H Q E) : vs.length = 1 := by
  obtain ⟨_, _, rfl, _⟩ := h
  rfl
theorem pure_counted (T : Txt K mg) (vs : List V) (H : Hp) (Q : VK) (E : XK) (h : sp_counted K vs H Q E) : t_counted K E { nx := fun _ H' => Q .non H', rt := Q } (start N_counted vs) H := by
  obtain ⟨a, ns, rfl, hA, hl, k⟩ := h
  refine ⟨_, rfl, _, _, rfl, .inl ⟨_, SqL.of hA, rfl⟩, (by show 1 ≤ sizeLine; decide), fun p np => ⟨_, rfl, p, a, _, _, rfl, rfl, upd_same, same_new (Same.refl H) np a _ hA, ?_, fun r nr => ?_⟩⟩
  · rw [List.length_map]
    exact size_le (by show 1 + _ ≤ _; omega)
  · refine k r _ (upd_same.trans ?_) (same_new (same_new (Same.refl H) np) (dom_same (same_new (Same.refl H) np) r nr)) (dom_same (same_new (Same.refl H) np) r nr)
    rw [listed_V, List.length_map]
    rfl
theorem len_filter_numbers {vs : List V} {H : Hp} {Q : VK} {E : XK} (h : sp_filter_numbers K vs H Q E) : vs.length = 1 := by
  obtain ⟨_, _, rfl, _⟩ := h
  rfl
theorem pure_filter_numbers (T : Txt K mg) (vs : List V) (H : Hp) (Q : VK) (E : XK) (h : sp_filter_numbers K vs H Q E) : t_filter_numbers K E { nx := fun _ H' => Q .non H', rt := Q } (start N_filter_numbers vs) H := by
  obtain ⟨a, f, rfl, ⟨dx, hA⟩, k⟩ := h
  exact ⟨_, rfl, a, _, dx, _, _, rfl, hA, cl_Filter T, n_Filter_column T, l_Filter_column, _, rfl, a, _, dx, _, _, rfl, hA, cl_Filter T, n_Filter_low T, l_Filter_low, _, rfl, a, _, dx, _, _, rfl, hA, cl_Filter T, n_Filter_high T, l_Filter_high,
    (by show 3 ≤ sizeLine; decide), fun p np => k p _ upd_same (same_new (Same.refl H) np) np⟩
/-! table_numbers -/
theorem len_table_numbers {vs : List V} {H : Hp} {Q : VK} {E : XK} (h : sp_table_numbers K vs H Q E) : vs.length = 1 := by
  obtain ⟨_, _, rfl, _⟩ := h
  rfl
theorem each_at {α : Type} {P : Addr → α → Prop} {as : List Addr} {xs : List α} (e : Each P as xs) {i : Nat} {v : V} (h : (as.map V.ref)[i]? = some v) : ∃ (a : Addr) (x : α), v = .ref a ∧ as[i]? = some a ∧ xs[i]? = some x ∧ P a x := by
  rw [List.getElem?_map] at h
  obtain ⟨a, ha, rfl⟩ := Option.map_eq_some_iff.mp h
  have hi : i < xs.length := by
    rw [← e.1]
    exact (List.getElem?_eq_some_iff.mp ha).1
  obtain ⟨b, hb, p⟩ := e.2 i _ (List.getElem?_eq_getElem hi)
  rw [ha] at hb
  injection hb with hb
  subst hb
  exact ⟨a, _, rfl, ha, List.getElem?_eq_getElem hi, p⟩
theorem flat_len {α : Type} {f : α → List Int} {n : Nat} : ∀ (l : List α), (∀ x ∈ l, (f x).length ≤ n) → (l.flatMap f).length ≤ l.length * n
  | [], _ => by simp
  | x :: l, h => by
    rw [List.flatMap_cons, List.length_append, List.length_cons, Nat.add_mul]
    have h1 := flat_len l fun y hy => h y (List.mem_cons_of_mem _ hy)
    have h2 := h x List.mem_cons_self
    omega
theorem flat_take {α : Type} {f : α → List Int} {l : List α} {i : Nat} {x : α} (h : l[i]? = some x) : (l.take (i + 1)).flatMap f = (l.take i).flatMap f ++ f x := by
  rw [take_more h, List.flatMap_append]
  simp
/-- all but p stands as it was -/
theorem same_upd {H0 H : Hp} {p : Addr} {o : HO} (n : H0 p = none) (s : Same H0 H) : Same H0 (upd H p o) := same_new s n
/-- numbers.extend(..), numbers.append(..): the list is new -/
theorem ext_step {H H1 : Hp} {p : Addr} {l m : List Int} {σ : L2.St} {D : Ends} {te : TE} {i : Nat} (hi : σ[i]? = some (some (.ref p))) (hp : H1 p = some (.lst (l.map V.int))) (s1 : Same H H1) (np : H p = none) (hl : l.length + m.length ≤ 1000000) (hte : ∀ Q : VK, NewI H1 Q m → te σ H1 Q)
    (k : ∀ H2, Same H H2 → H2 p = some (.lst ((l ++ m).map V.int)) → D.nx σ H2) : tDrop (tBM K "list" rExtend (tVar i) (tCons te tNil)) D σ H1 := by
  refine ⟨_, hi, .inl ⟨rfl, _, SqL.of hp⟩, hte _ fun q H2 hq s2 nq => ?_⟩
  refine ⟨p, q, _, _, rfl, rfl, s2 _ _ hp, hq, ?_, k _ (same_upd np (s1.trans s2)) ?_⟩
  · rw [List.length_map, List.length_map]
    exact size_le hl
  · rw [upd_same, List.map_append]
theorem app_step {H H1 : Hp} {p : Addr} {l : List Int} {z : Int} {σ : L2.St} {D : Ends} {te : TE} {i : Nat} (hi : σ[i]? = some (some (.ref p))) (hp : H1 p = some (.lst (l.map V.int))) (s1 : Same H H1) (np : H p = none) (hl : l.length ≤ 100000) (hte : ∀ Q : VK, Q (.int z) H1 → te σ H1 Q)
    (k : ∀ H2, Same H H2 → H2 p = some (.lst ((l ++ [z]).map V.int)) → D.nx σ H2) : tDrop (tBM K "list" rAppend (tVar i) (tCons te tNil)) D σ H1 := by
  refine ⟨_, hi, .inl ⟨rfl, _, SqL.of hp⟩, hte _ ⟨p, _, _, rfl, rfl, hp, ?_, k _ (same_upd np s1) ?_⟩⟩
  · rw [List.length_map]
    exact size_ok hl
  · rw [upd_same, List.map_append]
    rfl
theorem listed_len (l : List Nat) : (VaidxBase.listed l).length = l.length + 1 := by
  unfold VaidxBase.listed VaidxBase.ints
  rw [List.length_cons, List.length_map]
theorem pure_table_numbers (T : Txt K mg) (vs : List V) (H : Hp) (Q : VK) (E : XK) (h : sp_table_numbers K vs H Q E) : t_table_numbers K E { nx := fun _ H' => Q .non H', rt := Q } (start N_table_numbers vs) H := by
  obtain ⟨a, S, rfl, ⟨dx, cl, gl, ql, il, hA, hc, ⟨as, hg, hE⟩, _, _⟩, hS, k⟩ := h
  refine ⟨_, rfl, a, _, dx, _, _, rfl, hA, cl_Sheet T, n_Sheet_columns T, l_Sheet_columns, _, _, rfl, .inl ⟨_, SqL.of hc, rfl⟩, _, rfl, a, _, dx, _, _, rfl, hA, cl_Sheet T, n_Sheet_groups T, l_Sheet_groups, _, _, rfl, .inl ⟨_, SqL.of hg, rfl⟩, (by show 2 ≤ sizeLine; decide), fun p np => ?_⟩
  have s0 : Same H (upd H p (.lst [V.int ((S.cols.map fun w => V.str (sS w)).length : Nat), V.int ((as.map V.ref).length : Nat)])) := same_new (Same.refl H) np
  have ge : ∀ g ∈ S.table.groups, (VaidxBase.ints g.row ++ [VaidxBase.int g.count]).length ≤ 5 := fun g hg => by
    have h1 := (hS.gs g hg).len
    have h2 := hS.c4
    unfold VaidxBase.ints
    rw [List.length_append, List.length_map, h1]
    show S.cols.length + 1 ≤ 5
    omega
  have pre : ∀ i, ((VaidxBase.int S.table.cols :: VaidxBase.int S.table.groups.length :: (S.table.groups.take i).flatMap fun g => VaidxBase.ints g.row ++ [VaidxBase.int g.count]).map V.int).length ≤ 100 := fun i => by
    rw [List.length_map, List.length_cons, List.length_cons]
    have h1 := flat_len (S.table.groups.take i) fun g hg => ge g (List.mem_of_mem_take hg)
    have h2 := hS.gl
    have h3 : (S.table.groups.take i).length ≤ 12 := by
      rw [List.length_take]
      omega
    omega
  refine ⟨_, rfl, a, _, dx, _, _, rfl, s0 _ _ hA, cl_Sheet T, n_Sheet_groups T, l_Sheet_groups, gl, rfl, ⟨_, SqL.of (s0 _ _ hg)⟩, ?_⟩
  refine for_list (K := K) (a := gl) (xs := as.map V.ref) (fun i σ H' => Same H H' ∧ H' p = some (.lst ((VaidxBase.int S.table.cols :: VaidxBase.int S.table.groups.length :: (S.table.groups.take i).flatMap fun g => VaidxBase.ints g.row ++ [VaidxBase.int g.count]).map V.int)) ∧ ∃ v : Option V, σ = [some (.ref a), some (.ref p), v])
    ⟨s0, ?_, none, rfl⟩ (fun i σ H' _ ⟨s, _⟩ => SqL.of (s _ _ hg)) ?_ ?_
  · rw [upd_same, List.length_map, List.length_map, hE.1, hS.tc]
    rfl
  · rintro i x σ H1 hx ⟨s1, hp1, v, rfl⟩
    obtain ⟨b, g, rfl, hb, hgi, ⟨gdx, cel, hG, hC⟩⟩ := each_at hE hx
    have gm : g ∈ S.table.groups := List.mem_of_getElem? hgi
    refine ⟨_, rfl, .inl ⟨rfl, _, SqL.of hp1⟩, _, rfl, b, _, gdx, _, _, rfl, s1 _ _ hG, cl_Group T, n_Group_cells T, l_Group_cells, p, cel, _, _, rfl, rfl, hp1, s1 _ _ hC, ?_, ?_⟩
    · have h1 := pre i
      have h2 := (hS.gs g gm).len
      have h3 := hS.c4
      rw [List.length_map (f := fun n : Nat => V.int (n : Int))]
      exact size_le (by omega)
    · have s2 := same_upd (o := .lst (((VaidxBase.int S.table.cols :: VaidxBase.int S.table.groups.length :: (S.table.groups.take i).flatMap fun g => VaidxBase.ints g.row ++ [VaidxBase.int g.count]).map V.int) ++ g.row.map fun n => V.int ((n : Nat) : Int))) np s1
      refine ⟨_, rfl, .inl ⟨rfl, _, SqL.of upd_same⟩, _, rfl, b, _, gdx, _, _, rfl, s2 _ _ hG, cl_Group T, n_Group_rows T, l_Group_rows, p, _, _, rfl, rfl, upd_same, ?_, same_upd np s2, ?_, _, rfl⟩
      · have h1 := pre i
        have h2 := (hS.gs g gm).len
        have h3 := hS.c4
        rw [List.length_append, List.length_map (f := fun n : Nat => V.int (n : Int))]
        exact size_ok (by omega)
      · rw [upd_same, flat_take hgi]
        show some (HO.lst _) = _
        simp only [List.map_cons, List.map_append, ints_V, List.cons_append, List.append_assoc]
        rfl
  · rintro σ H1 ⟨s1, hp1, v, rfl⟩
    refine ⟨_, rfl, k p H1 ?_ s1 np⟩
    rw [List.length_map, hE.1, List.take_length] at hp1
    exact hp1
/-! question_numbers -/
theorem len_question_numbers {vs : List V} {H : Hp} {Q : VK} {E : XK} (h : sp_question_numbers K vs H Q E) : vs.length = 1 := by
  obtain ⟨_, _, _, rfl, _⟩ := h
  rfl
theorem pure_question_numbers (T : Txt K mg) (vs : List V) (H : Hp) (Q : VK) (E : XK) (h : sp_question_numbers K vs H Q E) : t_question_numbers K E { nx := fun _ H' => Q .non H', rt := Q } (start N_question_numbers vs) H := by
  obtain ⟨a, ⟨w, q⟩, n, rfl, ⟨dx, fl, ol, wl, hA, ⟨as, hf, hE⟩, ho, hw⟩, hq, hn, k⟩ := h
  have lf := hq.fs.len
  have lo := hq.order.len
  have lw := hq.wants.len
  simp only at lf lo lw
  have hE : Each (FilterAt K H) as q.filters := hE
  have ho : IntsAt K H ol q.order := ho
  have hw : IntsAt K H wl q.wants := hw
  refine ⟨_, rfl, a, _, dx, _, _, rfl, hA, cl_Question T, n_Question_filters T, l_Question_filters, _, _, rfl, .inl ⟨_, SqL.of hf, rfl⟩, (by show 1 ≤ sizeLine; decide), fun p np => ?_⟩
  have s0 : Same H (upd H p (.lst [V.int ((as.map V.ref).length : Nat)])) := same_new (Same.refl H) np
  have pre : ∀ i, (VaidxBase.int q.filters.length :: (q.filters.take i).flatMap VaidxBase.flatFilter).length ≤ 13 := fun i => by
    rw [List.length_cons]
    have h1 := flat_len (f := VaidxBase.flatFilter) (n := 3) (q.filters.take i) fun g hg => Nat.le_refl 3
    have h3 : (q.filters.take i).length ≤ 4 := by
      rw [List.length_take]
      omega
    omega
  refine ⟨_, rfl, a, _, dx, _, _, rfl, s0 _ _ hA, cl_Question T, n_Question_filters T, l_Question_filters, fl, rfl, ⟨_, SqL.of (s0 _ _ hf)⟩, ?_⟩
  refine for_list (K := K) (a := fl) (xs := as.map V.ref) (fun i σ H' => Same H H' ∧ H' p = some (.lst ((VaidxBase.int q.filters.length :: (q.filters.take i).flatMap VaidxBase.flatFilter).map V.int)) ∧ ∃ v : Option V, σ = [some (.ref a), some (.ref p), v])
    ⟨s0, ?_, none, rfl⟩ (fun i σ H' _ ⟨s, _⟩ => SqL.of (s _ _ hf)) ?_ ?_
  · rw [upd_same, List.length_map, hE.1]
    rfl
  · rintro i x σ H1 hx ⟨s1, hp1, v, rfl⟩
    obtain ⟨b, f, rfl, hb, hfi, hF⟩ := each_at hE hx
    refine ext_step (H := H) (m := VaidxBase.flatFilter f) rfl hp1 s1 np (by have := pre i; show _ + 3 ≤ _; omega) (fun Q' hQ' => ⟨_, rfl, b, f, rfl, filterAt_same hF s1, hQ'⟩) fun H2 s2 hp2 => ⟨s2, ?_, _, rfl⟩
    rw [hp2, flat_take hfi]
    rfl
  · rintro σ H1 ⟨s1, hp1, v, rfl⟩
    rw [List.length_map, hE.1, List.take_length] at hp1
    have h0 := pre q.filters.length
    rw [List.take_length] at h0
    refine ext_step (H := H) (m := VaidxBase.listed q.order) rfl hp1 s1 np (by rw [listed_len]; omega) (fun Q' hQ' => ⟨_, rfl, a, _, dx, _, _, rfl, s1 _ _ hA, cl_Question T, n_Question_order T, l_Question_order, ol, q.order, rfl, s1 _ _ ho, by omega, hQ'⟩) fun H2 s2 hp2 => ?_
    refine app_step (H := H) (z := if q.back then 1 else 0) rfl hp2 s2 np (by rw [List.length_append, listed_len]; omega) (fun Q' hQ' => ?_) fun H3 s3 hp3 => ?_
    · refine ⟨_, rfl, a, _, dx, _, _, rfl, s2 _ _ hA, cl_Question T, n_Question_backwards T, l_Question_backwards, _, rfl, ?_⟩
      show if q.back = true then _ else _
      cases hb : q.back with
      | true =>
        rw [hb] at hQ'
        exact if_true_of rfl hQ'
      | false =>
        rw [hb] at hQ'
        exact if_false_of rfl hQ'
    refine ext_step (H := H) (m := VaidxBase.listed q.wants) rfl hp3 s3 np (by rw [List.length_append, List.length_append, listed_len, listed_len]; show _ + 1 + _ ≤ _; omega) (fun Q' hQ' => ⟨_, rfl, a, _, dx, _, _, rfl, s3 _ _ hA, cl_Question T, n_Question_wanted T, l_Question_wanted, wl, q.wants, rfl, s3 _ _ hw, by omega, hQ'⟩) fun H4 s4 hp4 => ?_
    refine app_step (H := H) (z := (q.limit : Nat)) rfl hp4 s4 np (by rw [List.length_append, List.length_append, List.length_append, listed_len, listed_len]; show _ + 1 + _ ≤ _; omega) (fun Q' hQ' => ⟨_, rfl, a, _, dx, _, _, rfl, s4 _ _ hA, cl_Question T, n_Question_limit T, l_Question_limit, hQ'⟩) fun H5 s5 hp5 => ?_
    refine app_step (H := H) (z := (q.times : Nat)) rfl hp5 s5 np (by rw [List.length_append, List.length_append, List.length_append, List.length_append, listed_len, listed_len]; show _ + 1 + _ + 1 ≤ _; omega) (fun Q' hQ' => ⟨_, rfl, a, _, dx, _, _, rfl, s5 _ _ hA, cl_Question T, n_Question_times T, l_Question_times, hQ'⟩) fun H6 s6 hp6 => ?_
    refine ⟨_, rfl, k p H6 (hp6.trans ?_) s6 np⟩
    refine congrArg (fun z : List Int => some (HO.lst (z.map V.int))) ?_
    unfold VaidxBase.flatQuestion
    simp only [List.cons_append, List.append_assoc]
    rfl
/-! index_numbers -/
theorem len_index_numbers {vs : List V} {H : Hp} {Q : VK} {E : XK} (h : sp_index_numbers K vs H Q E) : vs.length = 1 := by
  obtain ⟨_, _, _, rfl, _⟩ := h
  rfl
/-- a + b of lists of numbers -/
theorem cat_ints {H : Hp} {Q : VK} {p q : Addr} {l m : List Int} (hp : H p = some (.lst (l.map V.int))) (hq : H q = some (.lst (m.map V.int))) (hl : l.length + m.length ≤ 1000000) (k : NewI H Q (l ++ m)) : rCat (.ref p) (.ref q) H Q := by
  refine ⟨p, q, _, _, rfl, rfl, hp, hq, ?_, fun r nr => k r _ ?_ (same_new (Same.refl H) nr) nr⟩
  · rw [List.length_map, List.length_map]
    exact size_le hl
  · rw [upd_same, List.map_append]
theorem new_int {H : Hp} {Q : VK} {z : Int} (k : NewI H Q [z]) : ∀ p, H p = none → Q (.ref p) (upd H p (.lst [.int z])) := fun p np => k p _ upd_same (same_new (Same.refl H) np) np
theorem pure_index_numbers (T : Txt K mg) (vs : List V) (H : Hp) (Q : VK) (E : XK) (h : sp_index_numbers K vs H Q E) : t_index_numbers K E { nx := fun _ H' => Q .non H', rt := Q } (start N_index_numbers vs) H := by
  obtain ⟨a, ⟨w, i⟩, n, rfl, ⟨dx, kl, ol, c, hA, hk, ho, hc⟩, hi, hn, k⟩ := h
  have lk := hi.k.len
  have lo := hi.o.len
  simp only at lk lo hk ho hc
  refine ⟨_, rfl, a, _, dx, _, _, rfl, hA, cl_Index T, n_Index_key_columns T, l_Index_key_columns, kl, i.keys, rfl, hk, by omega, fun p1 H1 h1 s1 n1 => ?_⟩
  refine ⟨_, rfl, a, _, dx, _, _, rfl, s1 _ _ hA, cl_Index T, n_Index_included T, l_Index_included, ol, i.others, rfl, s1 _ _ ho, by omega, fun p2 H2 h2 s2 n2 => ?_⟩
  refine cat_ints (s2 _ _ h1) h2 (by rw [listed_len, listed_len]; omega) fun p3 H3 h3 s3 n3 => ?_
  have s13 := (s1.trans s2).trans s3
  have l3 : (VaidxBase.listed i.keys ++ VaidxBase.listed i.others).length ≤ 10 := by
    rw [List.length_append, listed_len, listed_len]
    omega
  refine ⟨_, rfl, a, _, dx, _, _, rfl, s13 _ _ hA, cl_Index T, n_Index_condition T, l_Index_condition, rfl, _, rfl, ?_⟩
  cases hoc : i.only with
  | none =>
    rw [hoc] at hc
    have hc : c = .non := hc
    refine if_true_of (decide_eq_true hc) ⟨_, rfl, (by show 1 ≤ sizeLine; decide), fun p4 n4 => ?_⟩
    have s4 : Same H3 (upd H3 p4 (.lst [.int 0])) := same_new (Same.refl H3) n4
    refine cat_ints (m := [0]) (s4 _ _ h3) upd_same (by show _ + 1 ≤ _; omega) (k := ?_)
    have e : (VaidxBase.listed i.keys ++ VaidxBase.listed i.others) ++ [0] = VaidxBase.flatIndex i := by
      unfold VaidxBase.flatIndex
      rw [hoc, List.append_assoc]
    rw [e]
    exact NewI.mono k (s13.trans s4)
  | some f =>
    rw [hoc] at hc
    obtain ⟨b, rfl, hb⟩ := hc
    refine if_false_of (decide_eq_false (fun z => by cases z)) ⟨_, rfl, (by show 1 ≤ sizeLine; decide), fun p4 n4 => ?_⟩
    have s4 : Same H3 (upd H3 p4 (.lst [.int 1])) := same_new (Same.refl H3) n4
    refine cat_ints (m := [1]) (s4 _ _ h3) upd_same (by show _ + 1 ≤ _; omega) fun p5 H5 h5 s5 n5 => ?_
    have s15 := (s13.trans s4).trans s5
    refine ⟨_, rfl, a, _, dx, _, _, rfl, s15 _ _ hA, cl_Index T, n_Index_condition T, l_Index_condition, b, f, rfl, filterAt_same hb s15, fun p6 H6 h6 s6 n6 => ?_⟩
    refine cat_ints (s6 _ _ h5) h6 (by rw [List.length_append]; show _ + 1 + 3 ≤ _; omega) (k := ?_)
    have e : ((VaidxBase.listed i.keys ++ VaidxBase.listed i.others) ++ [1]) ++ VaidxBase.flatFilter f = VaidxBase.flatIndex i := by
      unfold VaidxBase.flatIndex
      rw [hoc, List.append_assoc, List.append_assoc]
      rfl
    rw [e]
    exact NewI.mono k (s15.trans s6)
end
end Ix
-- part IxK
set_option maxHeartbeats 4000000
namespace Ix
open PySem PySem.Spec PyProof.Rows L2
/-! ### filters handed over -/
def soundB (n : Nat) (c lo hi : Int) : Bool := (decide (0 ≤ c) && decide (c < (n : Int))) && (decide (0 ≤ lo) && (decide (lo ≤ hi) && decide (hi ≤ 9)))
def sp_is_sound (K : PySem.W.Frag) : Sp := fun vs H Q _ => ∃ (a dx : Addr) (c lo hi : Int) (n : Nat), vs = [.ref a, .int (n : Nat)] ∧ H a = some (.ins (He.ga K "Filter") dx (F_Filter (.int c) (.int lo) (.int hi))) ∧ Q (.bl (soundB n c lo hi)) H
def RetF (K : PySem.W.Frag) (H : Hp) (Q : VK) (n : Nat) (res : Option (List VaidxBase.Filter)) : Prop := match res with
  | none => ∀ H', Same H H' → Q .non H'
  | some fs => ∀ (p : Addr) (H' : Hp), FiltersAt K H' p fs → FsOk n fs → Same H H' → Q (.ref p) H'
def sp_filters_of (K : PySem.W.Frag) : Sp := fun vs H Q _ => ∃ (a : Addr) (l : List Int) (n : Nat), vs = [.ref a, .int (n : Nat)] ∧ H a = some (.lst (l.map V.int)) ∧ n ≤ 4 ∧ RetF K H Q n (Vaidxa.filtersOf n l)
/-- one filter handed over -/
def RetF1 (K : PySem.W.Frag) (H : Hp) (Q : VK) (n : Nat) (res : Option VaidxBase.Filter) : Prop := match res with
  | none => ∀ H', Same H H' → Q .non H'
  | some f => ∀ (p : Addr) (H' : Hp), FilterAt K H' p f → FOk n f → Same H H' → H p = none → Q (.ref p) H'
def sp_filter_of (K : PySem.W.Frag) : Sp := fun vs H Q _ => ∃ (a : Addr) (l : List Int) (n : Nat), vs = [.ref a, .int (n : Nat)] ∧ H a = some (.lst (l.map V.int)) ∧ RetF1 K H Q n (Vaidxa.filterOf n l)
abbrev N_is_sound : List Str := ["sieve", "columns"]
def t_is_sound (K : PySem.W.Frag) (E : XK) : TS :=
  (tRet (tAndV (tChain rLe_ rLt_ (tC (.int 0)) (tFld K (tVar 0) "column") (tVar 1)) (tChain3 rLe_ rLe_ rLe_ (tC (.int 0)) (tFld K (tVar 0) "low") (tFld K (tVar 0) "high") (tC (.int 9)))))
abbrev N_filter_of : List Str := ["numbers", "columns", "sieve"]
def t_filter_of (K : PySem.W.Frag) (E : XK) : TS :=
  (tSeq (tIfS (tTest (tOp rNe (tCB (rLen_ K) (tCons (tVar 0) tNil)) (tC (.int 3)))) (tRet (tC .non)) tNext)
    (tSeq (tAsg (tMake (He.ga K "Filter") (sp_Filter_init K) [] E0 (tCons (tOp (rIxL K) (tVar 0) (tC (.int 0))) (tCons (tOp (rIxL K) (tVar 0) (tC (.int 1))) (tCons (tOp (rIxL K) (tVar 0) (tC (.int 2))) tNil)))) (gName 2))
    (tRet (tIf (tB (tCall (sp_is_sound K) [] E0 (tCons (tVar 2) (tCons (tVar 1) tNil)))) (tVar 2) (tC .non)))))
abbrev N_filters_of : List Str := ["numbers", "columns", "how_many", "filters", "start", "sieve", "earlier"]
def t_filters_of (K : PySem.W.Frag) (E : XK) : TS :=
  (tSeq (tIfS (tTest (tOp rEq (tCB (rLen_ K) (tCons (tVar 0) tNil)) (tC (.int 0)))) (tRet (tC .non)) tNext)
    (tSeq (tAsg (tOp (rIxL K) (tVar 0) (tC (.int 0))) (gName 2))
    (tSeq (tIfS (tOr (tNot (tTest (tChain rLe_ rLe_ (tC (.int 0)) (tVar 2) (tVar 1)))) (tTest (tOp rNe (tCB (rLen_ K) (tCons (tVar 0) tNil)) (tOp rAdd_ (tC (.int 1)) (tOp rMul_ (tC (.int 3)) (tVar 2)))))) (tRet (tC .non)) tNext)
    (tSeq (tAsg (tLst tNil) (gName 3))
    (tSeq (tFor (iRng3 (tCons (tC (.int 1)) (tCons (tCB (rLen_ K) (tCons (tVar 0) tNil)) (tCons (tC (.int 3)) tNil)))) (gName 4) (tSeq (tAsg (tCall (sp_filter_of K) [] E0 (tCons (tSl (rSlL K) (tVar 0) (tPart (tVar 4)) (tPart (tOp rAdd_ (tVar 4) (tC (.int 3))))) (tCons (tVar 1) tNil))) (gName 5))
    (tSeq (tIfS (tOr (tTest (tOp rIsN_ (tVar 5) (tC .non))) (tTest (tOp (rIn K false) (tFld K (tVar 5) "column") (tLc (iList K (tVar 3)) (gName 6) tYes (tFld K (tVar 6) "column") [6])))) (tRet (tC .non)) tNext)
    (tDrop (tBM K "list" rAppend (tVar 3) (tCons (tVar 5) tNil))))))
    (tRet (tVar 3)))))))
/-! the specification, as the program goes -/
def fltI (c lo hi : Int) : VaidxBase.Filter := ⟨c.toNat, lo.toNat, hi.toNat⟩
def progF (n : Nat) : List VaidxBase.Filter → List Int → Option (List VaidxBase.Filter)
  | done, [] => some done
  | done, c :: lo :: hi :: r => if soundB n c lo hi && !(done.map fun f => f.col).contains c.toNat then progF n (done ++ [fltI c lo hi]) r else none
  | _, _ => none
theorem sound_iff {n : Nat} {c lo hi : Int} : soundB n c lo hi = true ↔ 0 ≤ c ∧ c < (n : Int) ∧ 0 ≤ lo ∧ lo ≤ hi ∧ hi ≤ 9 := by
  unfold soundB
  simp only [Bool.and_eq_true, decide_eq_true_eq, and_assoc]
theorem readFilter_eq (n : Nat) (c lo hi : Int) (r : List Int) : VaidxBase.readFilter n (c :: lo :: hi :: r) = if soundB n c lo hi = true then some (fltI c lo hi, r) else none := by
  have e : soundB n c lo hi = true ↔ 0 ≤ c ∧ c < (n : Int) ∧ 0 ≤ lo ∧ lo ≤ hi ∧ hi ≤ 9 := sound_iff
  unfold VaidxBase.readFilter VaidxBase.readPair VaidxBase.readNat VaidxBase.int VaidxBase.VALUE
  by_cases s : soundB n c lo hi = true
  · obtain ⟨h1, h2, h3, h4, h5⟩ := e.mp s
    rw [if_pos s]
    dsimp only
    rw [if_pos ⟨h1, by omega⟩]
    dsimp only [Option.bind]
    rw [if_pos ⟨h3, by omega⟩]
    dsimp only [Option.bind]
    rw [if_pos ⟨by omega, h5⟩]
    dsimp only [Option.bind, Option.map]
    refine if_pos ?_
    unfold VaidxBase.okFilter VaidxBase.VALUE
    simp only [Bool.and_eq_true, decide_eq_true_eq]
    omega
  · rw [if_neg s]
    dsimp only
    by_cases h1 : ((0 : Nat) : Int) ≤ c ∧ c ≤ ((n - 1 : Nat) : Int)
    · rw [if_pos h1]
      dsimp only [Option.bind]
      by_cases h2 : ((0 : Nat) : Int) ≤ lo ∧ lo ≤ ((9 : Nat) : Int)
      · rw [if_pos h2]
        dsimp only [Option.bind]
        by_cases h3 : ((0 : Nat) : Int) ≤ hi ∧ hi ≤ ((9 : Nat) : Int)
        · rw [if_pos h3]
          dsimp only [Option.bind, Option.map]
          refine if_neg fun z => s (e.mpr ?_)
          unfold VaidxBase.okFilter VaidxBase.VALUE at z
          simp only [Bool.and_eq_true, decide_eq_true_eq] at z
          omega
        · rw [if_neg h3]
          rfl
      · rw [if_neg h2]
        rfl
    · rw [if_neg h1]
      rfl
theorem readFilter_short {n : Nat} {x : List Int} {u : VaidxBase.Filter × List Int} (h : VaidxBase.readFilter n x = some u) : x.length = 3 + u.2.length ∧ ∃ c lo hi, x = c :: lo :: hi :: u.2 ∧ u.1 = fltI c lo hi ∧ soundB n c lo hi = true := by
  match x, h with
  | [], h => cases h
  | [c], h =>
    exfalso
    unfold VaidxBase.readFilter VaidxBase.readPair VaidxBase.readNat at h
    dsimp only at h
    split at h <;> cases h
  | [c, lo], h =>
    exfalso
    unfold VaidxBase.readFilter at h
    obtain ⟨v, e, _⟩ := Option.bind_eq_some_iff.mp h
    unfold VaidxBase.readPair at e
    obtain ⟨y, e1, e⟩ := Option.bind_eq_some_iff.mp e
    obtain ⟨y2, e2, e⟩ := Option.map_eq_some_iff.mp e
    obtain ⟨y3, e3, e2⟩ := Option.bind_eq_some_iff.mp e2
    obtain ⟨y4, e4, e2⟩ := Option.map_eq_some_iff.mp e2
    have z1 : y.2 = [lo] := by
      unfold VaidxBase.readNat at e1
      dsimp only at e1
      split at e1
      · injection e1 with e1
        rw [← e1]
      · cases e1
    rw [z1] at e3
    have z2 : y3.2 = [] := by
      unfold VaidxBase.readNat at e3
      dsimp only at e3
      split at e3
      · injection e3 with e3
        rw [← e3]
      · cases e3
    rw [z2] at e4
    cases e4
  | c :: lo :: hi :: r, h =>
    rw [readFilter_eq] at h
    split at h
    · rename_i s
      injection h with h
      subst h
      exact ⟨by show r.length + 1 + 1 + 1 = 3 + r.length; omega, c, lo, hi, rfl, rfl, s⟩
    · cases h
theorem readTimes_len {n : Nat} : ∀ (m : Nat) (x : List Int) (u : List VaidxBase.Filter × List Int), VaidxBase.readTimes (VaidxBase.readFilter n) m x = some u → x.length = 3 * m + u.2.length
  | 0, x, u, h => by
    have h : some ([], x) = some u := h
    injection h with h
    rw [← h]
    simp
  | m + 1, x, u, h => by
    have h : ((VaidxBase.readFilter n x).bind fun u => (VaidxBase.readTimes (VaidxBase.readFilter n) m u.2).map fun v => (u.1 :: v.1, v.2)) = some u := h
    obtain ⟨f, e, h⟩ := Option.bind_eq_some_iff.mp h
    obtain ⟨v, e2, rfl⟩ := Option.map_eq_some_iff.mp h
    have h1 := (readFilter_short e).1
    have h2 := readTimes_len m f.2 v e2
    show x.length = 3 * (m + 1) + v.2.length
    omega
theorem apart_iff : ∀ l : List Nat, VaidxBase.apart l = true ↔ l.Nodup
  | [] => by simp [VaidxBase.apart]
  | x :: r => by
    unfold VaidxBase.apart
    rw [Bool.and_eq_true, apart_iff r, List.nodup_cons]
    simp
theorem progF_eq {n : Nat} : ∀ (m : Nat) (r : List Int) (done : List VaidxBase.Filter), r.length = 3 * m → (done.map fun f => f.col).Nodup →
    progF n done r = (VaidxBase.readTimes (VaidxBase.readFilter n) m r).bind fun u => if VaidxBase.apart ((done ++ u.1).map fun f => f.col) then some (done ++ u.1) else none
  | 0, r, done, hr, hd => by
    have e : r = [] := List.length_eq_zero_iff.mp (by omega)
    subst e
    show some done = if VaidxBase.apart ((done ++ []).map fun f : VaidxBase.Filter => f.col) then some (done ++ []) else none
    rw [List.append_nil, if_pos ((apart_iff _).mpr hd)]
  | m + 1, r, done, hr, hd => by
    match r, hr with
    | [], hr => simp at hr
    | [_], hr => simp at hr; omega
    | [_, _], hr => simp at hr; omega
    | c :: lo :: hi :: r, hr =>
      have hr : r.length = 3 * m := by
        simp at hr
        omega
      show (if soundB n c lo hi && !(done.map fun f => f.col).contains c.toNat then progF n (done ++ [fltI c lo hi]) r else none) = ((VaidxBase.readFilter n (c :: lo :: hi :: r)).bind fun u => (VaidxBase.readTimes (VaidxBase.readFilter n) m u.2).map fun v => (u.1 :: v.1, v.2)).bind _
      rw [readFilter_eq]
      cases s : soundB n c lo hi with
      | false =>
        rw [if_neg (by simp), if_neg (by simp)]
        rfl
      | true =>
        rw [if_pos rfl]
        dsimp only [Option.bind]
        cases d : (done.map fun f => f.col).contains c.toNat with
        | true =>
          rw [if_neg (by simp)]
          cases VaidxBase.readTimes (VaidxBase.readFilter n) m r with
          | none => rfl
          | some v =>
            dsimp only [Option.map]
            refine (if_neg fun z => ?_).symm
            rw [apart_iff, List.map_append, List.nodup_append] at z
            have h1 : c.toNat ∈ done.map fun f => f.col := List.contains_iff_mem.mp d
            exact z.2.2 _ h1 _ (List.mem_cons_self (a := c.toNat)) rfl
        | false =>
          rw [if_pos (by simp), progF_eq m r (done ++ [fltI c lo hi]) hr (by rw [List.map_append]; exact nodup_snoc hd d)]
          cases VaidxBase.readTimes (VaidxBase.readFilter n) m r with
          | none => rfl
          | some v =>
            dsimp only [Option.map, Option.bind]
            rw [List.append_assoc]
            rfl
/-- what the program asks of the list's length -/
theorem filtersOf_nil (n : Nat) : Vaidxa.filtersOf n [] = none := rfl
theorem filtersOf_out {n : Nat} {k : Int} {r : List Int} (h : ¬ (0 ≤ k ∧ k ≤ (n : Int) ∧ ((k :: r).length : Int) = 1 + 3 * k)) : Vaidxa.filtersOf n (k :: r) = none := by
  unfold Vaidxa.filtersOf VaidxBase.whole VaidxBase.readListed VaidxBase.readNat VaidxBase.int
  dsimp only
  by_cases h1 : ((0 : Nat) : Int) ≤ k ∧ k ≤ (n : Int)
  · rw [if_pos h1]
    dsimp only [Option.bind]
    cases e : VaidxBase.readTimes (VaidxBase.readFilter n) k.toNat r with
    | none => rfl
    | some u =>
      have h2 := readTimes_len _ _ _ e
      obtain ⟨fs, rest⟩ := u
      cases rest with
      | cons z rest => rfl
      | nil =>
        exfalso
        refine h ⟨h1.1, h1.2, ?_⟩
        rw [List.length_cons]
        have h2 : r.length = 3 * k.toNat + 0 := h2
        have := h1.1
        omega
  · rw [if_neg h1]
    rfl
theorem filtersOf_in {n : Nat} {k : Int} {r : List Int} (h : 0 ≤ k ∧ k ≤ (n : Int) ∧ ((k :: r).length : Int) = 1 + 3 * k) : Vaidxa.filtersOf n (k :: r) = progF n [] r := by
  have hr : r.length = 3 * k.toNat := by
    have h2 := h.2.2
    rw [List.length_cons] at h2
    omega
  rw [progF_eq k.toNat r [] hr List.nodup_nil]
  unfold Vaidxa.filtersOf VaidxBase.whole VaidxBase.readListed VaidxBase.readNat VaidxBase.int
  dsimp only
  rw [if_pos ⟨h.1, h.2.1⟩]
  dsimp only [Option.bind]
  cases e : VaidxBase.readTimes (VaidxBase.readFilter n) k.toNat r with
  | none => rfl
  | some u =>
    have h2 := readTimes_len _ _ _ e
    obtain ⟨fs, rest⟩ := u
    have : rest = [] := List.length_eq_zero_iff.mp (by have h2 : r.length = 3 * k.toNat + rest.length := h2; omega)
    subst this
    rfl
theorem progF_ok {n : Nat} : ∀ (m : Nat) (r : List Int) (done fs : List VaidxBase.Filter), r.length ≤ m → FsOk n done → progF n done r = some fs → FsOk n fs
  | m, [], done, fs, hm, hd, h => by
    have h : some done = some fs := h
    injection h with h
    rw [← h]
    exact hd
  | m, [_], done, fs, hm, hd, h => by cases h
  | m, [_, _], done, fs, hm, hd, h => by cases h
  | 0, c :: lo :: hi :: r, done, fs, hm, hd, h => by simp at hm
  | m + 1, c :: lo :: hi :: r, done, fs, hm, hd, h => by
    have h : (if soundB n c lo hi && !(done.map fun f => f.col).contains c.toNat then progF n (done ++ [fltI c lo hi]) r else none) = some fs := h
    split at h
    · rename_i s
      rw [Bool.and_eq_true, Bool.not_eq_true'] at s
      have s1 := sound_iff.mp s.1
      refine progF_ok m r _ fs (by simp at hm; omega) ⟨mem_snoc hd.ok ⟨?_, ?_, ?_⟩, ?_⟩ h
      · show c.toNat < n
        omega
      · show lo.toNat ≤ hi.toNat
        omega
      · show hi.toNat ≤ 9
        omega
      · rw [List.map_append]
        exact nodup_snoc hd.nd s.2
    · cases h
theorem filtersOf_ok {n : Nat} {l : List Int} {fs : List VaidxBase.Filter} (h : Vaidxa.filtersOf n l = some fs) : FsOk n fs := by
  cases l with
  | nil => cases h
  | cons k r =>
    by_cases c : 0 ≤ k ∧ k ≤ (n : Int) ∧ ((k :: r).length : Int) = 1 + 3 * k
    · rw [filtersOf_in c] at h
      exact progF_ok r.length r [] fs (Nat.le_refl _) (FsOk.nil n) h
    · rw [filtersOf_out c] at h
      cases h
section
variable {K : PySem.W.Frag} {mg : Str → Option Value}
theorem len_is_sound {vs : List V} {H : Hp} {Q : VK} {E : XK} (h : sp_is_sound K vs H Q E) : vs.length = 2 := by
  obtain ⟨_, _, _, _, _, _, rfl, _⟩ := h
  rfl
theorem pure_is_sound (T : Txt K mg) (vs : List V) (H : Hp) (Q : VK) (E : XK) (h : sp_is_sound K vs H Q E) : t_is_sound K E { nx := fun _ H' => Q .non H', rt := Q } (start N_is_sound vs) H := by
  obtain ⟨a, dx, c, lo, hi, n, rfl, hA, k⟩ := h
  unfold soundB at k
  refine ⟨_, rfl, a, _, dx, _, _, rfl, hA, cl_Filter T, n_Filter_column T, l_Filter_column, 0, c, rfl, rfl, _, rfl, ?_⟩
  have rest : Q (.bl ((decide (0 ≤ lo) && (decide (lo ≤ hi) && decide (hi ≤ 9))))) H → tChain3 rLe_ rLe_ rLe_ (tC (.int 0)) (tFld K (tVar 0) "low") (tFld K (tVar 0) "high") (tC (.int 9)) (start N_is_sound [.ref a, .int (n : Nat)]) H Q := fun k => by
    refine ⟨_, rfl, a, _, dx, _, _, rfl, hA, cl_Filter T, n_Filter_low T, l_Filter_low, 0, lo, rfl, rfl, _, rfl, ?_⟩
    by_cases h1 : 0 ≤ lo
    · rw [decide_eq_true h1] at k
      refine if_true_of (decide_eq_true h1) ⟨_, rfl, a, _, dx, _, _, rfl, hA, cl_Filter T, n_Filter_high T, l_Filter_high, lo, hi, rfl, rfl, _, rfl, ?_⟩
      by_cases h2 : lo ≤ hi
      · rw [decide_eq_true h2] at k
        exact if_true_of (decide_eq_true h2) ⟨hi, 9, rfl, rfl, k⟩
      · rw [decide_eq_false h2] at k
        exact if_false_of (decide_eq_false h2) k
    · rw [decide_eq_false h1] at k
      exact if_false_of (decide_eq_false h1) k
  by_cases h1 : 0 ≤ c
  · rw [decide_eq_true h1] at k
    refine if_true_of (decide_eq_true h1) ⟨_, rfl, c, (n : Nat), rfl, rfl, _, rfl, ?_⟩
    by_cases h2 : c < (n : Int)
    · rw [decide_eq_true h2] at k
      exact if_true_of (decide_eq_true h2) (rest k)
    · rw [decide_eq_false h2] at k
      exact if_false_of (decide_eq_false h2) k
  · rw [decide_eq_false h1] at k
    exact if_false_of (decide_eq_false h1) ⟨_, rfl, if_false_of rfl k⟩
theorem filterOf_three (n : Nat) (c lo hi : Int) : Vaidxa.filterOf n [c, lo, hi] = if soundB n c lo hi = true then some (fltI c lo hi) else none := by
  unfold Vaidxa.filterOf VaidxBase.whole
  rw [readFilter_eq]
  by_cases s : soundB n c lo hi = true
  · rw [if_pos s, if_pos s]
  · rw [if_neg s, if_neg s]
theorem filterOf_len {n : Nat} {l : List Int} (h : l.length ≠ 3) : Vaidxa.filterOf n l = none := by
  unfold Vaidxa.filterOf VaidxBase.whole
  cases e : VaidxBase.readFilter n l with
  | none => rfl
  | some u =>
    obtain ⟨f, r⟩ := u
    have h1 := (readFilter_short e).1
    cases r with
    | nil => exact absurd h1 h
    | cons z r => rfl
theorem ints_at {l : List Int} {i : Nat} {z : Int} (h : l[i]? = some z) : atI (l.map V.int) (i : Int) = some (V.int z) := by
  refine atI_nat ?_
  rw [List.getElem?_map, h]
  rfl
theorem len_filter_of {vs : List V} {H : Hp} {Q : VK} {E : XK} (h : sp_filter_of K vs H Q E) : vs.length = 2 := by
  obtain ⟨_, _, _, rfl, _⟩ := h
  rfl
theorem flt_nat {n : Nat} {c lo hi : Int} (s : soundB n c lo hi = true) : V.int c = .int ((fltI c lo hi).col : Nat) ∧ V.int lo = .int ((fltI c lo hi).lo : Nat) ∧ V.int hi = .int ((fltI c lo hi).hi : Nat) ∧ FOk n (fltI c lo hi) := by
  obtain ⟨q1, q2, q3, q4, q5⟩ := sound_iff.mp s
  refine ⟨?_, ?_, ?_, ⟨?_, ?_, ?_⟩⟩
  · exact congrArg V.int (show c = ((c.toNat : Nat) : Int) by omega)
  · exact congrArg V.int (show lo = ((lo.toNat : Nat) : Int) by omega)
  · exact congrArg V.int (show hi = ((hi.toNat : Nat) : Int) by omega)
  · show c.toNat < n
    omega
  · show lo.toNat ≤ hi.toNat
    omega
  · show hi.toNat ≤ 9
    omega
theorem pure_filter_of (T : Txt K mg) (vs : List V) (H : Hp) (Q : VK) (E : XK) (h : sp_filter_of K vs H Q E) : t_filter_of K E { nx := fun _ H' => Q .non H', rt := Q } (start N_filter_of vs) H := by
  obtain ⟨a, l, n, rfl, hA, k⟩ := h
  refine ⟨_, rfl, _, _, rfl, .inl ⟨_, SqL.of hA, rfl⟩, rfl, _, rfl, ?_⟩
  rw [List.length_map]
  by_cases c3 : l.length = 3
  · refine if_false_of (by rw [decide_eq_true (by rw [c3]; rfl)]; rfl) ?_
    match l, c3, hA, k with
    | [c, lo, hi], _, hA, k =>
      refine ⟨_, rfl, a, _, _, _, rfl, rfl, SqL.of hA, ints_at (i := 0) rfl, _, rfl, a, _, _, _, rfl, rfl, SqL.of hA, ints_at (i := 1) rfl, _, rfl, a, _, _, _, rfl, rfl, SqL.of hA, ints_at (i := 2) rfl, fun b dx nb nd ne => ⟨b, dx, _, _, _, rfl, upd_same, fun H2 h2 k2 => ⟨rfl, ?_⟩⟩⟩
      have s12 := Same.made nb nd k2
      refine ⟨_, rfl, _, rfl, b, dx, c, lo, hi, n, rfl, h2, _, rfl, ?_⟩
      rw [filterOf_three] at k
      cases s : soundB n c lo hi with
      | true =>
        rw [s] at k
        obtain ⟨e1, e2, e3, ok⟩ := flt_nat s
        rw [e1, e2, e3] at h2
        exact if_true_of rfl ⟨_, rfl, k b H2 ⟨dx, h2⟩ ok s12 nb⟩
      | false =>
        rw [s] at k
        exact if_false_of rfl (k H2 s12)
  · refine if_true_of (by rw [decide_eq_false (fun z => c3 (by injection z; omega))]; rfl) ?_
    rw [filterOf_len c3] at k
    exact k H (Same.refl H)
end
end Ix
-- part IxK2
set_option maxHeartbeats 4000000
namespace Ix
open PySem PySem.Spec PyProof.Rows L2
def sp_passes (K : PySem.W.Frag) : Sp := fun vs H Q _ => ∃ (a b : Addr) (g : VaidxBase.Group) (f : VaidxBase.Filter), vs = [.ref a, .ref b] ∧ GroupAt K H a g ∧ FilterAt K H b f ∧ f.col < g.row.length ∧ Q (.bl (VaidxBase.passes g.row f)) H
def sp_passes_all (K : PySem.W.Frag) : Sp := fun vs H Q _ => ∃ (a b : Addr) (g : VaidxBase.Group) (fs : List VaidxBase.Filter) (n : Nat), vs = [.ref a, .ref b] ∧ GroupAt K H a g ∧ FiltersAt K H b fs ∧ FsOk n fs ∧ n ≤ 4 ∧ g.row.length = n ∧ ∀ H', Same H H' → Q (.bl (fs.all (VaidxBase.passes g.row))) H'
def sp_rows_passing (K : PySem.W.Frag) : Sp := fun vs H Q _ => ∃ (a b : Addr) (gs : List VaidxBase.Group) (fs : List VaidxBase.Filter) (n : Nat), vs = [.ref a, .ref b] ∧ GroupsAt K H a gs ∧ FiltersAt K H b fs ∧ FsOk n fs ∧ n ≤ 4 ∧ gs.length ≤ 12 ∧ (∀ g ∈ gs, GOk n g) ∧ ∀ H', Same H H' → Q (.int ((VaidxBase.rowsOf (gs.filter fun g => fs.all (VaidxBase.passes g.row)) : Nat) : Int)) H'
abbrev N_passes : List Str := ["group", "sieve"]
def t_passes (K : PySem.W.Frag) (E : XK) : TS :=
  (tRet (tChain rLe_ rLe_ (tFld K (tVar 1) "low") (tOp (rIxL K) (tFld K (tVar 0) "cells") (tFld K (tVar 1) "column")) (tFld K (tVar 1) "high")))
abbrev N_passes_all : List Str := ["group", "filters", "sieve"]
def t_passes_all (K : PySem.W.Frag) (E : XK) : TS :=
  (tRet (tCB (rAll K) (tCons (tLc (iList K (tVar 1)) (gName 2) tYes (tCall (sp_passes K) [] E0 (tCons (tVar 0) (tCons (tVar 2) tNil))) [2]) tNil)))
abbrev N_rows_passing : List Str := ["groups", "filters", "group"]
def t_rows_passing (K : PySem.W.Frag) (E : XK) : TS :=
  (tRet (tCB (rSum K) (tCons (tLc (iList K (tVar 0)) (gName 2) (tB (tCall (sp_passes_all K) [] E0 (tCons (tVar 2) (tCons (tVar 1) tNil)))) (tFld K (tVar 2) "rows") [2]) tNil)))
section
variable {K : PySem.W.Frag} {mg : Str → Option Value}
theorem len_filters_of {vs : List V} {H : Hp} {Q : VK} {E : XK} (h : sp_filters_of K vs H Q E) : vs.length = 2 := by
  obtain ⟨_, _, _, rfl, _⟩ := h
  rfl
theorem filterAt_updl {H : Hp} {a p : Addr} {f : VaidxBase.Filter} {xs ys : List V} (h : FilterAt K H a f) (hl : H p = some (.lst xs)) : FilterAt K (upd H p (.lst ys)) a f := by
  obtain ⟨dx, e⟩ := h
  refine ⟨dx, ?_⟩
  rw [upd_ne (ne_of e hl (by intro z; cases z))]
  exact e
theorem rgc3 {k : Nat} (h : k ≤ 4) : RgC 1 (1 + 3 * (k : Int)) 3 k := by
  match k, h with
  | 0, _ => exact ⟨by decide, by decide, by decide, by decide⟩
  | 1, _ => exact ⟨by decide, by decide, by decide, by decide⟩
  | 2, _ => exact ⟨by decide, by decide, by decide, by decide⟩
  | 3, _ => exact ⟨by decide, by decide, by decide, by decide⟩
  | 4, _ => exact ⟨by decide, by decide, by decide, by decide⟩
  | k + 5, h => omega
theorem drop3 {r : List Int} {i m : Nat} (h : r.length = 3 * m) (hi : i < m) : ∃ c lo hi rest, r.drop (3 * i) = c :: lo :: hi :: rest ∧ r.drop (3 * (i + 1)) = rest ∧ r[3 * i]? = some c ∧ r[3 * i + 1]? = some lo ∧ r[3 * i + 2]? = some hi := by
  have h0 : 3 * i < r.length := by omega
  have h1 : 3 * i + 1 < r.length := by omega
  have h2 : 3 * i + 2 < r.length := by omega
  refine ⟨r[3 * i], r[3 * i + 1], r[3 * i + 2], r.drop (3 * (i + 1)), ?_, rfl, List.getElem?_eq_getElem h0, List.getElem?_eq_getElem h1, List.getElem?_eq_getElem h2⟩
  rw [List.drop_eq_getElem_cons h0, List.drop_eq_getElem_cons h1, List.drop_eq_getElem_cons h2]
  rfl
theorem cut_in {l x rest : List Int} {n : Nat} (hn : n ≤ l.length) (h : l.drop n = x ++ rest) : cutV (l.map V.int) (some (n : Int)) (some ((n : Int) + (x.length : Int))) = x.map V.int := by
  have hl : n + x.length ≤ l.length := by
    have := congrArg List.length h
    rw [List.length_drop, List.length_append] at this
    omega
  have e0 : ((n : Int) + (x.length : Int)) = ((n + x.length : Nat) : Int) := by omega
  rw [e0]
  unfold cutV
  rw [HT.sIx_nat, HT.sIx_nat, List.length_map, Nat.min_eq_left hn, Nat.min_eq_left hl, ← List.map_drop, ← List.map_take, h]
  have e : n + x.length - n = x.length := by omega
  rw [e, List.take_left]
theorem pure_filters_of (T : Txt K mg) (vs : List V) (H : Hp) (Q : VK) (E : XK) (h : sp_filters_of K vs H Q E) : t_filters_of K E { nx := fun _ H' => Q .non H', rt := Q } (start N_filters_of vs) H := by
  obtain ⟨a, l, n, rfl, hA, hn, k⟩ := h
  refine ⟨_, rfl, _, _, rfl, .inl ⟨_, SqL.of hA, rfl⟩, rfl, _, rfl, ?_⟩
  rw [List.length_map]
  cases l with
  | nil => exact if_true_of (decide_eq_true rfl) (k H (Same.refl H))
  | cons m r =>
    refine if_false_of (decide_eq_false (fun z => by injection z with z; rw [List.length_cons] at z; omega)) ?_
    refine ⟨_, rfl, a, _, 0, .int m, rfl, rfl, SqL.of hA, ints_at (i := 0) rfl, ?_⟩
    have out : ¬ (0 ≤ m ∧ m ≤ (n : Int) ∧ ((m :: r).length : Int) = 1 + 3 * m) → Q .non H := fun c => by
      rw [filtersOf_out c] at k
      exact k H (Same.refl H)
    refine ⟨_, rfl, 0, m, rfl, rfl, _, rfl, ?_⟩
    by_cases c1 : 0 ≤ m
    · refine if_true_of (decide_eq_true c1) ⟨_, rfl, m, (n : Nat), rfl, rfl, _, rfl, ?_⟩
      by_cases c2 : m ≤ (n : Int)
      · refine if_false_of (by rw [decide_eq_true c2]; rfl) ?_
        refine ⟨_, rfl, _, _, rfl, .inl ⟨_, SqL.of hA, rfl⟩, _, rfl, 3, m, rfl, rfl, .inl ⟨by decide, by decide⟩, 1, 3 * m, rfl, rfl, rfl, _, rfl, ?_⟩
        rw [List.length_map]
        by_cases c3 : ((m :: r).length : Int) = 1 + 3 * m
        · refine if_false_of (by rw [decide_eq_true (by rw [c3])]; rfl) ?_
          obtain ⟨M, rfl⟩ : ∃ M : Nat, m = (M : Int) := ⟨m.toNat, by omega⟩
          rw [filtersOf_in ⟨c1, c2, c3⟩] at k
          have hM : M ≤ 4 := by omega
          have hr : r.length = 3 * M := by
            rw [List.length_cons] at c3
            omega
          refine ⟨(by show 0 ≤ sizeLine; decide), fun p np => ?_⟩
          have s0 : Same H (upd H p (.lst [])) := same_new (Same.refl H) np
          refine ⟨_, rfl, _, _, rfl, .inl ⟨_, SqL.of (s0 _ _ hA), rfl⟩, 1, 1 + 3 * (M : Int), 3, M, ?_, rgc3 hM, ?_⟩
          · rw [List.length_map, c3]
          refine for_rangeC (lo := 1) (c := 3) (n := M) (fun i σ H' => Same H H' ∧ ∃ (done : List VaidxBase.Filter) (as : List Addr) (v w u : Option V), σ = [some (.ref a), some (.int (n : Nat)), some (.int (M : Int)), some (.ref p), v, w, u] ∧ H' p = some (.lst (as.map V.ref)) ∧ Each (FilterAt K H') as done ∧ done.length = i ∧ progF n [] r = progF n done (r.drop (3 * i)))
            ⟨s0, [], [], none, none, none, rfl, upd_same, Each.nil, rfl, rfl⟩ ?_ ?_
          · rintro i σ H1 hi ⟨s1, done, as, v, w, u, rfl, hp1, hE, hd, hP⟩
            obtain ⟨c, lo, hi', rest, e1, e2, g0, g1, g2⟩ := drop3 hr hi
            have e3 : ((M : Int) :: r).drop (3 * i + 1) = [c, lo, hi'] ++ rest := e1
            have e4 : (1 + (i : Nat) * 3 : Int) = ((3 * i + 1 : Nat) : Int) := by omega
            rw [e4]
            refine ⟨_, rfl, _, rfl, _, rfl, _, rfl, _, _, rfl, rfl, _, rfl, a, _, rfl, SqL.of (s1 _ _ hA), fun q nq => ?_⟩
            rw [show (((3 * i + 1 : Nat) : Int) + 3) = ((3 * i + 1 : Nat) : Int) + (([c, lo, hi'].length : Nat) : Int) from rfl, cut_in (by rw [List.length_cons]; omega) e3]
            have s11 : Same H1 (upd H1 q (.lst ([c, lo, hi'].map V.int))) := same_new (Same.refl H1) nq
            refine ⟨_, rfl, q, [c, lo, hi'], n, rfl, upd_same, ?_⟩
            rw [filterOf_three]
            rw [e1] at hP
            have hP : progF n [] r = if soundB n c lo hi' && !(done.map fun f => f.col).contains c.toNat then progF n (done ++ [fltI c lo hi']) rest else none := hP
            cases s : soundB n c lo hi' with
            | false =>
              rw [s] at hP
              rw [hP] at k
              intro H2 s2
              refine ⟨_, rfl, rfl, _, rfl, if_true_of rfl (if_true_of rfl (k H2 (s1.trans (s11.trans s2))))⟩
            | true =>
              intro b H2 hF2 ok2 s2 nb
              obtain ⟨q1, q2, q3, q4, q5⟩ := sound_iff.mp s
              obtain ⟨C, rfl⟩ : ∃ C : Nat, c = (C : Int) := ⟨c.toNat, by omega⟩
              rw [s] at hP
              have s12 := s11.trans s2
              have s02 := s1.trans s12
              have hF2' := hF2
              obtain ⟨dx, h2⟩ := hF2'
              refine ⟨_, rfl, rfl, _, rfl, if_false_of rfl ?_⟩
              have hp2 := s12 _ _ hp1
              refine ⟨_, rfl, b, _, dx, _, _, rfl, h2, cl_Filter T, n_Filter_column T, l_Filter_column, _, rfl, p, rfl, ⟨_, SqL.of hp2⟩, fun D nD => ?_⟩
              refine lc_ys (K := K) (xs := as.map V.ref) ((done.map fun f => f.col).map fun c => V.int ((c : Nat) : Int)) (by rw [List.length_map, List.length_map, List.length_map, hE.1]) nD (SqL.of hp2) (by rw [List.length_map, hE.1]; omega) (fun j x y hx hy H' hs Qe hQe => ?_) (fun H3 hd3 hs => ?_)
              · obtain ⟨fa, f, rfl, hfa, hfj, ⟨fdx, hF⟩⟩ := each_at hE hx
                rw [List.getElem?_map, List.getElem?_map, hfj] at hy
                injection hy with hy
                subst hy
                exact ⟨_, rfl, fa, _, fdx, _, _, rfl, hs _ _ (s12 _ _ hF), cl_Filter T, n_Filter_column T, l_Filter_column, hQe H' (Same.refl H')⟩
              · refine ⟨D, _, rfl, .inl (SqL.of hd3), rfl, flat_ints _, _, rfl, ?_⟩
                show if (if false = true then _ else inV (.int ((fltI C lo hi').col : Nat)) _) = true then _ else _
                rw [if_neg Bool.false_ne_true, inV_ints]
                have s03 := s02.trans hs
                have ec : (fltI (C : Int) lo hi').col = C := Int.toNat_natCast C
                cases d : (done.map fun f => f.col).contains C with
                | true =>
                  rw [Int.toNat_natCast, d] at hP
                  rw [hP] at k
                  exact if_true_of (by rw [ec]; exact d) (k H3 s03)
                | false =>
                  rw [Int.toNat_natCast, d] at hP
                  have hP : progF n [] r = progF n (done ++ [fltI C lo hi']) rest := hP
                  have hp3 := hs _ _ hp2
                  refine if_false_of (by rw [ec]; exact d) ⟨_, rfl, .inl ⟨rfl, _, SqL.of hp3⟩, _, rfl, p, _, _, rfl, rfl, hp3, ?_, same_upd np s03, done ++ [fltI C lo hi'], as ++ [b], _, _, _, rfl, ?_, ?_, ?_, ?_⟩
                  · rw [List.length_map, hE.1]
                    exact size_ok (by omega)
                  · rw [upd_same, List.map_append]
                    rfl
                  · refine Each.push (hE.mono fun fa f hF => filterAt_updl (filterAt_same hF (s12.trans hs)) hp3) (filterAt_updl ⟨dx, hs _ _ h2⟩ hp3)
                  · rw [len_snoc, hd]
                  · rw [e2]
                    exact hP
          · rintro σ H1 ⟨s1, done, as, v, w, u, rfl, hp1, hE, hd, hP⟩
            rw [← hr, List.drop_length] at hP
            have hP : progF n [] r = some done := hP
            have hok : FsOk n done := progF_ok r.length r [] done (Nat.le_refl _) (FsOk.nil n) hP
            rw [hP] at k
            exact ⟨_, rfl, k p H1 ⟨as, hp1, hE⟩ hok s1⟩
        · exact if_true_of (by rw [decide_eq_false (fun z => c3 (by injection z))]; rfl) (out fun z => c3 z.2.2)
      · exact if_true_of (by rw [decide_eq_false c2]; rfl) (if_true_of rfl (out fun z => c2 z.2.1))
    · exact if_false_of (decide_eq_false c1) ⟨_, rfl, if_true_of rfl (if_true_of rfl (out fun z => c1 z.1))⟩
/-! rows that pass -/
theorem len_passes_all {vs : List V} {H : Hp} {Q : VK} {E : XK} (h : sp_passes_all K vs H Q E) : vs.length = 2 := by
  obtain ⟨_, _, _, _, _, rfl, _⟩ := h
  rfl
theorem row_at {r : List Nat} {c : Nat} (h : c < r.length) : atI (r.map fun n => V.int ((n : Nat) : Int)) (c : Int) = some (V.int (VaidxBase.valueAt r c : Nat)) := by
  refine atI_nat ?_
  unfold VaidxBase.valueAt
  rw [List.getElem?_map, List.getElem?_eq_getElem h]
  rfl
theorem len_passes {vs : List V} {H : Hp} {Q : VK} {E : XK} (h : sp_passes K vs H Q E) : vs.length = 2 := by
  obtain ⟨_, _, _, _, rfl, _⟩ := h
  rfl
theorem pure_passes (T : Txt K mg) (vs : List V) (H : Hp) (Q : VK) (E : XK) (h : sp_passes K vs H Q E) : t_passes K E { nx := fun _ H' => Q .non H', rt := Q } (start N_passes vs) H := by
  obtain ⟨a, fa, g, f, rfl, ⟨gdx, cl, hG, hC⟩, ⟨fdx, hF⟩, hc, hq⟩ := h
  refine ⟨_, rfl, fa, _, fdx, _, _, rfl, hF, cl_Filter T, n_Filter_low T, l_Filter_low, _, rfl, a, _, gdx, _, _, rfl, hG, cl_Group T, n_Group_cells T, l_Group_cells, _, rfl, fa, _, fdx, _, _, rfl, hF, cl_Filter T, n_Filter_column T, l_Filter_column, cl, _, _, _, rfl, rfl, SqL.of hC, row_at hc, _, _, rfl, rfl, _, rfl, ?_⟩
  unfold VaidxBase.passes at hq
  by_cases c1 : f.lo ≤ VaidxBase.valueAt g.row f.col
  · rw [decide_eq_true c1, Bool.true_and] at hq
    refine if_true_of (decide_eq_true (by omega)) ⟨_, rfl, fa, _, fdx, _, _, rfl, hF, cl_Filter T, n_Filter_high T, l_Filter_high, _, _, rfl, rfl, ?_⟩
    show Q (V.bl (decide ((VaidxBase.valueAt g.row f.col : Int) ≤ (f.hi : Int)))) H
    rw [show decide ((VaidxBase.valueAt g.row f.col : Int) ≤ (f.hi : Int)) = decide (VaidxBase.valueAt g.row f.col ≤ f.hi) from decide_eq_decide.mpr (by omega)]
    exact hq
  · rw [decide_eq_false c1, Bool.false_and] at hq
    exact if_false_of (decide_eq_false (by omega)) hq
theorem pure_passes_all (T : Txt K mg) (vs : List V) (H : Hp) (Q : VK) (E : XK) (h : sp_passes_all K vs H Q E) : t_passes_all K E { nx := fun _ H' => Q .non H', rt := Q } (start N_passes_all vs) H := by
  obtain ⟨a, b, g, fs, n, rfl, hG, ⟨as, hB, hE⟩, hfs, hn, hrow, k⟩ := h
  refine ⟨_, rfl, b, rfl, ⟨_, SqL.of hB⟩, fun D nD => ?_⟩
  refine lc_ys (K := K) (xs := as.map V.ref) ((fs.map (VaidxBase.passes g.row)).map V.bl) (by rw [List.length_map, List.length_map, List.length_map, hE.1]) nD (SqL.of hB) (by rw [List.length_map, hE.1]; have := hfs.len; omega) (fun j x y hx hy H' hs Qe hQe => ?_) (fun H3 hd3 hs => ?_)
  · obtain ⟨fa, f, rfl, hfa, hfj, hF⟩ := each_at hE hx
    rw [List.getElem?_map, List.getElem?_map, hfj] at hy
    injection hy with hy
    subst hy
    have hc : f.col < g.row.length := by
      rw [hrow]
      exact (hfs.ok f (List.mem_of_getElem? hfj)).col
    exact ⟨_, rfl, _, rfl, a, fa, g, f, rfl, groupAt_same hG hs, filterAt_same hF hs, hc, hQe H' (Same.refl H')⟩
  · refine ⟨D, _, rfl, SqL.of hd3, ?_⟩
    rw [List.all_map]
    exact k H3 hs
theorem len_rows_passing {vs : List V} {H : Hp} {Q : VK} {E : XK} (h : sp_rows_passing K vs H Q E) : vs.length = 2 := by
  obtain ⟨_, _, _, _, _, rfl, _⟩ := h
  rfl
theorem foldl_add (l : List Nat) (a : Nat) : l.foldl (fun a b => a + b) a = a + l.sum := by
  induction l generalizing a with
  | nil => simp
  | cons x l ih =>
    rw [List.foldl_cons, ih, List.sum_cons]
    omega
theorem sum_cast : ∀ l : List Nat, (l.map fun n : Nat => (n : Int)).sum = ((l.sum : Nat) : Int)
  | [] => rfl
  | x :: l => by
    rw [List.map_cons, List.sum_cons, sum_cast l, List.sum_cons]
    omega
theorem rowsOf_sum (l : List VaidxBase.Group) : ((VaidxBase.rowsOf l : Nat) : Int) = (l.map fun g => (g.count : Int)).sum := by
  unfold VaidxBase.rowsOf
  rw [foldl_add, Nat.zero_add, ← sum_cast, List.map_map]
  rfl
theorem filt_pairs {α : Type} (p : α → Bool) (f : α → V) : ∀ l : List α, (((l.map fun x => (p x, f x)).filter (·.1)).map (·.2)) = (l.filter p).map f
  | [] => rfl
  | x :: l => by
    rw [List.map_cons, List.filter_cons, List.filter_cons]
    dsimp only
    cases p x with
    | true =>
      rw [if_pos rfl, if_pos rfl, List.map_cons, List.map_cons, filt_pairs p f l]
    | false =>
      rw [if_neg Bool.false_ne_true, if_neg Bool.false_ne_true, filt_pairs p f l]
theorem pure_rows_passing (T : Txt K mg) (vs : List V) (H : Hp) (Q : VK) (E : XK) (h : sp_rows_passing K vs H Q E) : t_rows_passing K E { nx := fun _ H' => Q .non H', rt := Q } (start N_rows_passing vs) H := by
  obtain ⟨a, b, gs, fs, n, rfl, ⟨as, hA, hE⟩, hB, hfs, hn, hgl, hgs, k⟩ := h
  refine ⟨_, rfl, a, rfl, ⟨_, SqL.of hA⟩, fun D nD => ?_⟩
  refine lc_if (K := K) (xs := as.map V.ref) (gs.map fun g => (fs.all (VaidxBase.passes g.row), V.int (g.count : Nat))) (by rw [List.length_map, List.length_map, hE.1]) nD (SqL.of hA) (by rw [List.length_map, hE.1]; omega) (fun j x y hx hy H' hs Qe hQe => ?_) (fun j x y hx hy hy1 H' hs Qe hQe => ?_) (fun H3 hd3 hs => ?_)
  · obtain ⟨ga, g, rfl, hga, hgj, hG⟩ := each_at hE hx
    rw [List.getElem?_map, hgj] at hy
    injection hy with hy
    subst hy
    exact ⟨_, rfl, _, rfl, ga, b, g, fs, n, rfl, groupAt_same hG hs, filtersAt_same hB hs, hfs, hn, (hgs g (List.mem_of_getElem? hgj)).len, fun H'' s2 => ⟨_, rfl, hQe H'' s2⟩⟩
  · obtain ⟨ga, g, rfl, hga, hgj, ⟨gdx, cl, hG, hC⟩⟩ := each_at hE hx
    rw [List.getElem?_map, hgj] at hy
    injection hy with hy
    subst hy
    exact ⟨_, rfl, ga, _, gdx, _, _, rfl, hs _ _ hG, cl_Group T, n_Group_rows T, l_Group_rows, hQe H' (Same.refl H')⟩
  · refine ⟨D, (gs.filter fun g => fs.all (VaidxBase.passes g.row)).map (fun g => (g.count : Int)), rfl, SqL.of (hd3.trans ?_), ?_⟩
    · rw [filt_pairs, List.map_map]
      rfl
    · rw [← rowsOf_sum]
      exact k H3 hs
end
end Ix
-- part IxK3
set_option maxHeartbeats 4000000
namespace Ix
open PySem PySem.Spec PyProof.Rows L2
/-! ### what filters say, how many rows have each value -/
theorem lc_rg {n : Nat} {lo : Int} {i : Nat} {te : TE} {σ : L2.St} {H1 : Hp} {D : Addr} {Qd : Hp → Prop} (ys : List V) (hl : ys.length = n) (hD : H1 D = none) (hz : n ≤ 100000)
    (he : ∀ (j : Nat) (y : V), ys[j]? = some y → ∀ H', Same H1 H' → ∀ Qe : VK, (∀ H'', Same H' H'' → Qe y H'') → te ((σ.set i none).set i (some (.int (lo + (j : Nat))))) H' Qe)
    (hq : ∀ H', H' D = some (.lst ys) → Same H1 H' → Qd H') :
    ∃ W : Nat → Nat → Hp → Prop, (∃ m, W 0 m (upd H1 D (.lst []))) ∧ ∀ i' m H, W i' m H →
      ((Itr lo n).stop i' H ∧ Qd H) ∨ ((Itr lo n).go i' H ∧ ∃ Nx : Hp → Prop, (∀ H', Nx H' → ∃ m', m' < m ∧ W (i' + 1) m' H') ∧ ∀ x H', (Itr lo n).yld i' H x H' → gName i x (wipe σ [i]) H' fun σ2 H2 => wipe σ2 [i] = wipe σ [i] ∧ tYes σ2 H2 fun b H3 =>
        if b = true then te σ2 H3 fun y H4 => ∃ acc, H4 D = some (.lst acc) ∧ acc.length < sizeLine ∧ Nx (upd H4 D (.lst (acc ++ [y]))) else Nx H3) := by
  refine lc_range (fun j H => H D = some (.lst (ys.take j)) ∧ Same H1 H) ⟨upd_same, same_new (Same.refl H1) hD⟩ ?_ ?_
  · rintro j H hj ⟨hd, hs⟩
    have hy : ys[j]? = some ys[j] := List.getElem?_eq_getElem (by rw [hl]; exact hj)
    refine ⟨wipe_one, ?_⟩
    dsimp only [tYes]
    rw [if_pos rfl]
    refine he j _ hy H hs _ fun H3 s3 => ⟨_, s3 _ _ hd, size_ok ?_, ?_, ?_⟩
    · rw [List.length_take]
      omega
    · rw [upd_same, take_more hy]
    · exact same_new (hs.trans s3) hD
  · rintro H ⟨hd, hs⟩
    refine hq H ?_ hs
    rw [← hl, List.take_length] at hd
    exact hd
def sp_lets_all_pass (K : PySem.W.Frag) : Sp := fun vs H Q _ => ∃ (b : Addr) (f : VaidxBase.Filter), vs = [.ref b] ∧ FilterAt K H b f ∧ Q (.bl (f.lo == 0 && f.hi == 9)) H
def withinB (f g : VaidxBase.Filter) : Bool := f.col == g.col && (decide (g.lo ≤ f.lo) && decide (f.hi ≤ g.hi))
def sp_is_within (K : PySem.W.Frag) : Sp := fun vs H Q _ => ∃ (a b : Addr) (f g : VaidxBase.Filter), vs = [.ref a, .ref b] ∧ FilterAt K H a f ∧ FilterAt K H b g ∧ Q (.bl (withinB f g)) H
def sp_say (K : PySem.W.Frag) : Sp := fun vs H Q _ => ∃ (a b : Addr) (fs : List VaidxBase.Filter) (g : VaidxBase.Filter), vs = [.ref a, .ref b] ∧ FiltersAt K H a fs ∧ FilterAt K H b g ∧ fs.length ≤ 4 ∧ ∀ H', Same H H' → Q (.bl (Vaidxa.implies fs g)) H'
def sp_say_in_table (K : PySem.W.Frag) : Sp := fun vs H Q _ => ∃ (a b c : Addr) (gs : List VaidxBase.Group) (fs : List VaidxBase.Filter) (f : VaidxBase.Filter) (n : Nat), vs = [.ref a, .ref b, .ref c] ∧ GroupsAt K H a gs ∧ FiltersAt K H b fs ∧ FilterAt K H c f ∧ FsOk n fs ∧ FOk n f ∧ n ≤ 4 ∧ gs.length ≤ 12 ∧ (∀ g ∈ gs, GOk n g) ∧
  ∀ H', Same H H' → Q (.bl (gs.all fun h => !fs.all (VaidxBase.passes h.row) || VaidxBase.passes h.row f)) H'
def sp_rows_split (K : PySem.W.Frag) : Sp := fun vs H Q _ => ∃ (a : Addr) (gs : List VaidxBase.Group) (c n : Nat), vs = [.ref a, .int (c : Nat)] ∧ GroupsAt K H a gs ∧ c < n ∧ n ≤ 4 ∧ gs.length ≤ 12 ∧ (∀ g ∈ gs, GOk n g) ∧
  NewI H Q (VaidxBase.ints ((List.range 10).map fun v => VaidxBase.rowsOf (gs.filter fun g => [(⟨c, v, v⟩ : VaidxBase.Filter)].all (VaidxBase.passes g.row))))
def sp_one_if (K : PySem.W.Frag) : Sp := fun vs H Q _ => ∃ b : Bool, vs = [.bl b] ∧ Q (.int (Vaidxa.bool b)) H
abbrev N_lets_all_pass : List Str := ["sieve"]
def t_lets_all_pass (K : PySem.W.Frag) (E : XK) : TS :=
  (tRet (tAndV (tOp rEq (tFld K (tVar 0) "low") (tC (.int 0))) (tOp rEq (tFld K (tVar 0) "high") (tC (.int 9)))))
abbrev N_is_within : List Str := ["narrow", "wide"]
def t_is_within (K : PySem.W.Frag) (E : XK) : TS :=
  (tRet (tAndV (tOp rEq (tFld K (tVar 0) "column") (tFld K (tVar 1) "column")) (tAndV (tOp rLe_ (tFld K (tVar 1) "low") (tFld K (tVar 0) "low")) (tOp rLe_ (tFld K (tVar 0) "high") (tFld K (tVar 1) "high")))))
abbrev N_say : List Str := ["filters", "sieve", "given"]
def t_say (K : PySem.W.Frag) (E : XK) : TS :=
  (tRet (tOrV (tCall (sp_lets_all_pass K) [] E0 (tCons (tVar 1) tNil)) (tCB (rAny K) (tCons (tLc (iList K (tVar 0)) (gName 2) tYes (tCall (sp_is_within K) [] E0 (tCons (tVar 2) (tCons (tVar 1) tNil))) [2]) tNil))))
abbrev N_say_in_table : List Str := ["groups", "filters", "sieve", "group"]
def t_say_in_table (K : PySem.W.Frag) (E : XK) : TS :=
  (tRet (tCB (rAll K) (tCons (tLc (iList K (tVar 0)) (gName 3) (tB (tCall (sp_passes_all K) [] E0 (tCons (tVar 3) (tCons (tVar 1) tNil)))) (tCall (sp_passes K) [] E0 (tCons (tVar 3) (tCons (tVar 2) tNil))) [3]) tNil)))
abbrev N_rows_split : List Str := ["groups", "column", "value"]
def t_rows_split (K : PySem.W.Frag) (E : XK) : TS :=
  (tRet (tLc (iRng1 (tCons (tOp rAdd_ (tC (.int 9)) (tC (.int 1))) tNil)) (gName 2) tYes (tCall (sp_rows_passing K) [] E0 (tCons (tVar 0) (tCons (tLst (tCons (tMake (He.ga K "Filter") (sp_Filter_init K) [] E0 (tCons (tVar 1) (tCons (tVar 2) (tCons (tVar 2) tNil)))) tNil)) tNil))) [2]))
abbrev N_one_if : List Str := ["holds"]
def t_one_if (K : PySem.W.Frag) (E : XK) : TS :=
  (tRet (tIf (tB (tVar 0)) (tC (.int 1)) (tC (.int 0))))
section
variable {K : PySem.W.Frag} {mg : Str → Option Value}
theorem len_lets_all_pass {vs : List V} {H : Hp} {Q : VK} {E : XK} (h : sp_lets_all_pass K vs H Q E) : vs.length = 1 := by
  obtain ⟨_, _, rfl, _⟩ := h
  rfl
theorem len_is_within {vs : List V} {H : Hp} {Q : VK} {E : XK} (h : sp_is_within K vs H Q E) : vs.length = 2 := by
  obtain ⟨_, _, _, _, rfl, _⟩ := h
  rfl
theorem len_say {vs : List V} {H : Hp} {Q : VK} {E : XK} (h : sp_say K vs H Q E) : vs.length = 2 := by
  obtain ⟨_, _, _, _, rfl, _⟩ := h
  rfl
theorem len_say_in_table {vs : List V} {H : Hp} {Q : VK} {E : XK} (h : sp_say_in_table K vs H Q E) : vs.length = 3 := by
  obtain ⟨_, _, _, _, _, _, _, rfl, _⟩ := h
  rfl
theorem len_rows_split {vs : List V} {H : Hp} {Q : VK} {E : XK} (h : sp_rows_split K vs H Q E) : vs.length = 2 := by
  obtain ⟨_, _, _, _, rfl, _⟩ := h
  rfl
theorem len_one_if {vs : List V} {H : Hp} {Q : VK} {E : XK} (h : sp_one_if K vs H Q E) : vs.length = 1 := by
  obtain ⟨_, rfl, _⟩ := h
  rfl
theorem pure_one_if (T : Txt K mg) (vs : List V) (H : Hp) (Q : VK) (E : XK) (h : sp_one_if K vs H Q E) : t_one_if K E { nx := fun _ H' => Q .non H', rt := Q } (start N_one_if vs) H := by
  obtain ⟨b, rfl, k⟩ := h
  refine ⟨_, rfl, _, rfl, ?_⟩
  cases b with
  | true => exact if_true_of rfl k
  | false => exact if_false_of rfl k
theorem dec_nat (a b : Nat) : decide (V.int (a : Int) = V.int (b : Int)) = (a == b) := by
  by_cases c : a = b
  · subst c
    rw [decide_eq_true rfl, beq_self_eq_true]
  · rw [decide_eq_false (fun z => c (by injection z with z; omega)), beq_false_of_ne c]
theorem pure_lets_all_pass (T : Txt K mg) (vs : List V) (H : Hp) (Q : VK) (E : XK) (h : sp_lets_all_pass K vs H Q E) : t_lets_all_pass K E { nx := fun _ H' => Q .non H', rt := Q } (start N_lets_all_pass vs) H := by
  obtain ⟨b, f, rfl, ⟨dx, hF⟩, k⟩ := h
  refine ⟨_, rfl, b, _, dx, _, _, rfl, hF, cl_Filter T, n_Filter_low T, l_Filter_low, rfl, _, rfl, ?_⟩
  have e := dec_nat f.lo 0
  cases c : (f.lo == 0) with
  | true =>
    rw [c, Bool.true_and] at k
    refine if_true_of (e.trans c) ⟨_, rfl, b, _, dx, _, _, rfl, hF, cl_Filter T, n_Filter_high T, l_Filter_high, rfl, ?_⟩
    have e2 := dec_nat f.hi 9
    show Q (.bl (decide (V.int (f.hi : Int) = V.int ((9 : Nat) : Int)))) H
    rw [e2]
    exact k
  | false =>
    rw [c, Bool.false_and] at k
    exact if_false_of (e.trans c) k
theorem pure_is_within (T : Txt K mg) (vs : List V) (H : Hp) (Q : VK) (E : XK) (h : sp_is_within K vs H Q E) : t_is_within K E { nx := fun _ H' => Q .non H', rt := Q } (start N_is_within vs) H := by
  obtain ⟨a, b, f, g, rfl, ⟨dx, hF⟩, ⟨dy, hG⟩, k⟩ := h
  unfold withinB at k
  refine ⟨_, rfl, a, _, dx, _, _, rfl, hF, cl_Filter T, n_Filter_column T, l_Filter_column, _, rfl, b, _, dy, _, _, rfl, hG, cl_Filter T, n_Filter_column T, l_Filter_column, rfl, _, rfl, ?_⟩
  have e := dec_nat f.col g.col
  cases c : (f.col == g.col) with
  | true =>
    rw [c, Bool.true_and] at k
    refine if_true_of (e.trans c) ⟨_, rfl, b, _, dy, _, _, rfl, hG, cl_Filter T, n_Filter_low T, l_Filter_low, _, rfl, a, _, dx, _, _, rfl, hF, cl_Filter T, n_Filter_low T, l_Filter_low, _, _, rfl, rfl, _, rfl, ?_⟩
    by_cases c1 : g.lo ≤ f.lo
    · rw [decide_eq_true c1, Bool.true_and] at k
      refine if_true_of (decide_eq_true (by omega)) ⟨_, rfl, a, _, dx, _, _, rfl, hF, cl_Filter T, n_Filter_high T, l_Filter_high, _, rfl, b, _, dy, _, _, rfl, hG, cl_Filter T, n_Filter_high T, l_Filter_high, _, _, rfl, rfl, ?_⟩
      show Q (.bl (decide ((f.hi : Int) ≤ (g.hi : Int)))) H
      rw [show decide ((f.hi : Int) ≤ (g.hi : Int)) = decide (f.hi ≤ g.hi) from decide_eq_decide.mpr (by omega)]
      exact k
    · rw [decide_eq_false c1, Bool.false_and] at k
      exact if_false_of (decide_eq_false (by omega)) k
  | false =>
    rw [c, Bool.false_and] at k
    exact if_false_of (e.trans c) k
theorem pure_say (T : Txt K mg) (vs : List V) (H : Hp) (Q : VK) (E : XK) (h : sp_say K vs H Q E) : t_say K E { nx := fun _ H' => Q .non H', rt := Q } (start N_say vs) H := by
  obtain ⟨a, b, fs, g, rfl, ⟨as, hA, hE⟩, hG, hl, k⟩ := h
  refine ⟨_, rfl, b, g, rfl, hG, _, rfl, ?_⟩
  have ei : Vaidxa.implies fs g = ((g.lo == 0 && g.hi == 9) || fs.any fun f => withinB f g) := rfl
  rw [ei] at k
  cases c : (g.lo == 0 && g.hi == 9) with
  | true =>
    rw [c, Bool.true_or] at k
    exact if_true_of rfl (k H (Same.refl H))
  | false =>
    rw [c, Bool.false_or] at k
    refine if_false_of rfl ⟨_, rfl, a, rfl, ⟨_, SqL.of hA⟩, fun D nD => ?_⟩
    refine lc_ys (K := K) (xs := as.map V.ref) ((fs.map fun f => withinB f g).map V.bl) (by rw [List.length_map, List.length_map, List.length_map, hE.1]) nD (SqL.of hA) (by rw [List.length_map, hE.1]; omega) (fun j x y hx hy H' hs Qe hQe => ?_) (fun H3 hd3 hs => ?_)
    · obtain ⟨fa, f, rfl, hfa, hfj, hF⟩ := each_at hE hx
      rw [List.getElem?_map, List.getElem?_map, hfj] at hy
      injection hy with hy
      subst hy
      exact ⟨_, rfl, _, rfl, fa, b, f, g, rfl, filterAt_same hF hs, filterAt_same hG hs, hQe H' (Same.refl H')⟩
    · refine ⟨D, _, rfl, SqL.of hd3, ?_⟩
      rw [List.any_map]
      exact k H3 hs
theorem all_filt {α : Type} (p q : α → Bool) : ∀ l : List α, (l.filter p).all q = l.all fun x => !p x || q x
  | [] => rfl
  | x :: l => by
    rw [List.filter_cons, List.all_cons, ← all_filt p q l]
    cases p x with
    | true => simp
    | false => simp
theorem pure_say_in_table (T : Txt K mg) (vs : List V) (H : Hp) (Q : VK) (E : XK) (h : sp_say_in_table K vs H Q E) : t_say_in_table K E { nx := fun _ H' => Q .non H', rt := Q } (start N_say_in_table vs) H := by
  obtain ⟨a, b, c, gs, fs, f, n, rfl, ⟨as, hA, hE⟩, hB, hF, hfs, hf, hn, hgl, hgs, k⟩ := h
  refine ⟨_, rfl, a, rfl, ⟨_, SqL.of hA⟩, fun D nD => ?_⟩
  refine lc_if (K := K) (xs := as.map V.ref) (gs.map fun g => (fs.all (VaidxBase.passes g.row), V.bl (VaidxBase.passes g.row f))) (by rw [List.length_map, List.length_map, hE.1]) nD (SqL.of hA) (by rw [List.length_map, hE.1]; omega) (fun j x y hx hy H' hs Qe hQe => ?_) (fun j x y hx hy hy1 H' hs Qe hQe => ?_) (fun H3 hd3 hs => ?_)
  · obtain ⟨ga, g, rfl, hga, hgj, hG⟩ := each_at hE hx
    rw [List.getElem?_map, hgj] at hy
    injection hy with hy
    subst hy
    exact ⟨_, rfl, _, rfl, ga, b, g, fs, n, rfl, groupAt_same hG hs, filtersAt_same hB hs, hfs, hn, (hgs g (List.mem_of_getElem? hgj)).len, fun H'' s2 => ⟨_, rfl, hQe H'' s2⟩⟩
  · obtain ⟨ga, g, rfl, hga, hgj, hG⟩ := each_at hE hx
    rw [List.getElem?_map, hgj] at hy
    injection hy with hy
    subst hy
    exact ⟨_, rfl, _, rfl, ga, c, g, f, rfl, groupAt_same hG hs, filterAt_same hF hs, by rw [(hgs g (List.mem_of_getElem? hgj)).len]; exact hf.col, hQe H' (Same.refl H')⟩
  · refine ⟨D, (gs.filter fun g => fs.all (VaidxBase.passes g.row)).map (fun g => VaidxBase.passes g.row f), rfl, SqL.of (hd3.trans ?_), ?_⟩
    · rw [filt_pairs, List.map_map]
      rfl
    · rw [List.all_map]
      have e := all_filt (fun g : VaidxBase.Group => fs.all (VaidxBase.passes g.row)) (id ∘ fun g => VaidxBase.passes g.row f) gs
      rw [e]
      exact k H3 hs
theorem pure_rows_split (T : Txt K mg) (vs : List V) (H : Hp) (Q : VK) (E : XK) (h : sp_rows_split K vs H Q E) : t_rows_split K E { nx := fun _ H' => Q .non H', rt := Q } (start N_rows_split vs) H := by
  obtain ⟨a, gs, c, n, rfl, hA, hc, hn, hgl, hgs, k⟩ := h
  refine ⟨9, 1, rfl, rfl, 10, rfl, by decide, by decide, fun D nD => ?_⟩
  refine lc_rg (n := 10) (((List.range 10).map fun v => VaidxBase.rowsOf (gs.filter fun g => [(⟨c, v, v⟩ : VaidxBase.Filter)].all (VaidxBase.passes g.row))).map fun z => V.int ((z : Nat) : Int)) (by rw [List.length_map, List.length_map, List.length_range]) nD (by decide) (fun j y hy H1 hs Qe hQe => ?_) (fun H3 hd3 hs => ?_)
  · have hj : j < 10 := by
      have := (List.getElem?_eq_some_iff.mp hy).1
      rw [List.length_map, List.length_map, List.length_range] at this
      exact this
    rw [List.getElem?_map, List.getElem?_map, List.getElem?_range hj] at hy
    injection hy with hy
    subst hy
    have e0 : (0 : Int) + ((j : Nat) : Int) = ((j : Nat) : Int) := by omega
    rw [e0]
    refine ⟨_, rfl, _, rfl, _, rfl, _, rfl, fun b dx nb nd ne => ⟨b, dx, _, _, _, rfl, upd_same, fun H2 h2 k2 => ⟨rfl, ?_⟩⟩⟩
    have s12 := Same.made nb nd k2
    refine ⟨(by show 1 ≤ sizeLine; decide), fun p np => ?_⟩
    have s13 : Same H1 (upd H2 p (.lst [.ref b])) := s12.trans (same_new (Same.refl H2) np)
    have hF : FilterAt K (upd H2 p (.lst [.ref b])) b ⟨c, j, j⟩ := filterAt_same ⟨dx, h2⟩ (same_new (Same.refl H2) np)
    refine ⟨a, p, gs, [⟨c, j, j⟩], n, rfl, groupsAt_same hA (hs.trans s13), ⟨[b], upd_same, Each.push Each.nil hF⟩, ⟨fun f hf => ?_, by simp⟩, hn, hgl, hgs, fun H4 s4 => hQe H4 (s13.trans s4)⟩
    rw [List.mem_singleton.mp hf]
    exact ⟨hc, Nat.le_refl _, by show j ≤ 9; omega⟩
  · refine k D H3 ?_ hs nD
    rw [hd3, ints_V]
end
end Ix
-- part IxV
set_option maxHeartbeats 4000000
namespace Ix
open PySem PySem.Spec PyProof.Rows L2
/-! ### whether an index serves, covers, frees the order; its room -/
theorem any_find (p : VaidxBase.Filter → Bool) (c : Nat) : ∀ fs : List VaidxBase.Filter, (fs.map fun f => f.col).Nodup → (fs.any fun g => g.col == c && p g) = (fs.find? fun f => f.col == c).any p
  | [], _ => rfl
  | x :: l, nd => by
    rw [List.map_cons, List.nodup_cons] at nd
    rw [List.any_cons, List.find?_cons]
    cases e : (x.col == c) with
    | true =>
      have ec : x.col = c := eq_of_beq e
      have none : (l.any fun g => g.col == c && p g) = false := by
        rw [List.any_eq_false]
        intro g hg z
        rw [Bool.and_eq_true] at z
        refine nd.1 (List.mem_map.mpr ⟨g, hg, ?_⟩)
        rw [ec]
        exact eq_of_beq z.1
      rw [none, Bool.true_and, Bool.or_false]
      rfl
    | false =>
      rw [Bool.false_and, Bool.false_or]
      exact any_find p c l nd.2
theorem fixed_any (p : VaidxBase.Filter → Bool) (c : Nat) : ∀ fs : List VaidxBase.Filter, ((fs.filter p).map fun f => f.col).contains c = fs.any fun g => g.col == c && p g
  | [] => rfl
  | x :: l => by
    rw [List.filter_cons, List.any_cons, ← fixed_any p c l]
    cases p x with
    | true =>
      rw [if_pos rfl, List.map_cons, List.contains_cons, Bool.and_true]
      rw [show (c == x.col) = (x.col == c) from Bool.beq_comm]
    | false => rw [if_neg Bool.false_ne_true, Bool.and_false, Bool.false_or]
theorem serves_eq {n : Nat} {i : VaidxBase.Index} {q : VaidxBase.Question} {f : VaidxBase.Filter} (h : FsOk n q.filters) (e : i.only = some f) : VaidxBase.serves i q = q.filters.any fun g => withinB g f := by
  unfold VaidxBase.serves VaidxBase.filterOn
  rw [e]
  exact (any_find (fun g => decide (f.lo ≤ g.lo) && decide (g.hi ≤ f.hi)) f.col q.filters h.nd).symm
def fixedOf (q : VaidxBase.Question) : List Nat := (q.filters.filter VaidxBase.isEqual).map fun f => f.col
theorem fixed_eq {n : Nat} {q : VaidxBase.Question} (h : FsOk n q.filters) (c : Nat) : (fixedOf q).contains c = VaidxBase.equalOn q c := by
  unfold fixedOf VaidxBase.equalOn VaidxBase.filterOn
  rw [fixed_any, any_find _ _ _ h.nd]
def sp_serves (K : PySem.W.Frag) : Sp := fun vs H Q _ => ∃ (a b : Addr) (x : NI) (y : NQ) (n : Nat), vs = [.ref a, .ref b] ∧ IndexAt K H a x ∧ QuestionAt K H b y ∧ QOk n y.2 ∧ n ≤ 4 ∧ ∀ H', Same H H' → Q (.bl (VaidxBase.serves x.2 y.2)) H'
def sp_columns_of (K : PySem.W.Frag) : Sp := fun vs H Q _ => ∃ (a : Addr) (x : NI) (n : Nat), vs = [.ref a] ∧ IndexAt K H a x ∧ IOk n x.2 ∧ n ≤ 4 ∧ NewI H Q (VaidxBase.ints (VaidxBase.columnsOf x.2))
def sp_needs_of (K : PySem.W.Frag) : Sp := fun vs H Q _ => ∃ (a : Addr) (y : NQ) (n : Nat), vs = [.ref a] ∧ QuestionAt K H a y ∧ QOk n y.2 ∧ n ≤ 4 ∧ NewI H Q (VaidxBase.ints (VaidxBase.needed y.2))
def sp_covers (K : PySem.W.Frag) : Sp := fun vs H Q _ => ∃ (a b : Addr) (x : NI) (y : NQ) (n : Nat), vs = [.ref a, .ref b] ∧ IndexAt K H a x ∧ QuestionAt K H b y ∧ IOk n x.2 ∧ QOk n y.2 ∧ n ≤ 4 ∧ ∀ H', Same H H' → Q (.bl (VaidxBase.covers x.2 y.2)) H'
def sp_is_free_by (K : PySem.W.Frag) : Sp := fun vs H Q _ => ∃ (a b : Addr) (x : NI) (y : NQ) (n : Nat), vs = [.ref a, .ref b] ∧ IndexAt K H a x ∧ QuestionAt K H b y ∧ IOk n x.2 ∧ QOk n y.2 ∧ n ≤ 4 ∧ ∀ H', Same H H' → Q (.bl (VaidxBase.isFree x.2 y.2)) H'
def entOf (gs : List VaidxBase.Group) (i : VaidxBase.Index) : Nat := VaidxBase.rowsOf (gs.filter fun g => VaidxBase.isIn i g.row)
def sp_entries_of (K : PySem.W.Frag) : Sp := fun vs H Q _ => ∃ (a b : Addr) (x : NI) (gs : List VaidxBase.Group) (n : Nat), vs = [.ref a, .ref b] ∧ IndexAt K H a x ∧ GroupsAt K H b gs ∧ IOk n x.2 ∧ n ≤ 4 ∧ gs.length ≤ 12 ∧ (∀ g ∈ gs, GOk n g) ∧ ∀ H', Same H H' → Q (.int (entOf gs x.2 : Nat)) H'
def sp_room_of (K : PySem.W.Frag) : Sp := fun vs H Q _ => ∃ (a b : Addr) (x : NI) (gs : List VaidxBase.Group) (n : Nat), vs = [.ref a, .ref b] ∧ IndexAt K H a x ∧ GroupsAt K H b gs ∧ IOk n x.2 ∧ n ≤ 4 ∧ gs.length ≤ 12 ∧ (∀ g ∈ gs, GOk n g) ∧ ∀ H', Same H H' → Q (.int ((entOf gs x.2 * ((VaidxBase.columnsOf x.2).length + 1) : Nat) : Int)) H'
abbrev N_serves : List Str := ["index", "question", "sieve"]
def t_serves (K : PySem.W.Frag) (E : XK) : TS :=
  (tSeq (tIfS (tTest (tOp rIsN_ (tFld K (tVar 0) "condition") (tC .non))) (tRet (tC (.bl true))) tNext)
    (tRet (tCB (rAny K) (tCons (tLc (iList K (tFld K (tVar 1) "filters")) (gName 2) tYes (tCall (sp_is_within K) [] E0 (tCons (tVar 2) (tCons (tFld K (tVar 0) "condition") tNil))) [2]) tNil))))
abbrev N_columns_of : List Str := ["index"]
def t_columns_of (K : PySem.W.Frag) (E : XK) : TS :=
  (tRet (tOp rCat (tFld K (tVar 0) "key_columns") (tFld K (tVar 0) "included")))
abbrev N_needs_of : List Str := ["question", "sieve"]
def t_needs_of (K : PySem.W.Frag) (E : XK) : TS :=
  (tRet (tOp rCat (tOp rCat (tLc (iList K (tFld K (tVar 0) "filters")) (gName 1) tYes (tFld K (tVar 1) "column") [1]) (tFld K (tVar 0) "order")) (tFld K (tVar 0) "wanted")))
abbrev N_covers : List Str := ["index", "question", "own", "column"]
def t_covers (K : PySem.W.Frag) (E : XK) : TS :=
  (tSeq (tAsg (tCall (sp_columns_of K) [] E0 (tCons (tVar 0) tNil)) (gName 2))
    (tRet (tCB (rAll K) (tCons (tLc (iList K (tCall (sp_needs_of K) [] E0 (tCons (tVar 1) tNil))) (gName 3) tYes (tOp (rIn K false) (tVar 3) (tVar 2)) [3]) tNil))))
abbrev N_is_free_by : List Str := ["index", "question", "fixed", "order", "loose_keys", "sieve", "column"]
def t_is_free_by (K : PySem.W.Frag) (E : XK) : TS :=
  (tSeq (tAsg (tLc (iList K (tFld K (tVar 1) "filters")) (gName 5) (tTest (tOp rEq (tFld K (tVar 5) "low") (tFld K (tVar 5) "high"))) (tFld K (tVar 5) "column") [5]) (gName 2))
    (tSeq (tAsg (tLc (iList K (tFld K (tVar 1) "order")) (gName 6) (tTest (tOp (rIn K true) (tVar 6) (tVar 2))) (tVar 6) [6]) (gName 3))
    (tSeq (tAsg (tLc (iList K (tFld K (tVar 0) "key_columns")) (gName 6) (tTest (tOp (rIn K true) (tVar 6) (tVar 2))) (tVar 6) [6]) (gName 4))
    (tRet (tOp (rEqD K) (tSl (rSlL K) (tVar 4) tNoPart (tPart (tCB (rLen_ K) (tCons (tVar 3) tNil)))) (tVar 3))))))
abbrev N_entries_of : List Str := ["index", "groups", "conditions"]
def t_entries_of (K : PySem.W.Frag) (E : XK) : TS :=
  (tSeq (tAsg (tIf (tTest (tOp rIsN_ (tFld K (tVar 0) "condition") (tC .non))) (tLst tNil) (tLst (tCons (tFld K (tVar 0) "condition") tNil))) (gName 2))
    (tRet (tCall (sp_rows_passing K) [] E0 (tCons (tVar 1) (tCons (tVar 2) tNil)))))
abbrev N_room_of : List Str := ["index", "groups"]
def t_room_of (K : PySem.W.Frag) (E : XK) : TS :=
  (tRet (tOp rMul_ (tCall (sp_entries_of K) [] E0 (tCons (tVar 0) (tCons (tVar 1) tNil))) (tOp rAdd_ (tC (.int 1)) (tCB (rLen_ K) (tCons (tCall (sp_columns_of K) [] E0 (tCons (tVar 0) tNil)) tNil)))))
section
variable {K : PySem.W.Frag} {mg : Str → Option Value}
theorem len_serves {vs : List V} {H : Hp} {Q : VK} {E : XK} (h : sp_serves K vs H Q E) : vs.length = 2 := by
  obtain ⟨_, _, _, _, _, rfl, _⟩ := h
  rfl
theorem len_columns_of {vs : List V} {H : Hp} {Q : VK} {E : XK} (h : sp_columns_of K vs H Q E) : vs.length = 1 := by
  obtain ⟨_, _, _, rfl, _⟩ := h
  rfl
theorem len_needs_of {vs : List V} {H : Hp} {Q : VK} {E : XK} (h : sp_needs_of K vs H Q E) : vs.length = 1 := by
  obtain ⟨_, _, _, rfl, _⟩ := h
  rfl
theorem len_covers {vs : List V} {H : Hp} {Q : VK} {E : XK} (h : sp_covers K vs H Q E) : vs.length = 2 := by
  obtain ⟨_, _, _, _, _, rfl, _⟩ := h
  rfl
theorem len_is_free_by {vs : List V} {H : Hp} {Q : VK} {E : XK} (h : sp_is_free_by K vs H Q E) : vs.length = 2 := by
  obtain ⟨_, _, _, _, _, rfl, _⟩ := h
  rfl
theorem len_entries_of {vs : List V} {H : Hp} {Q : VK} {E : XK} (h : sp_entries_of K vs H Q E) : vs.length = 2 := by
  obtain ⟨_, _, _, _, _, rfl, _⟩ := h
  rfl
theorem len_room_of {vs : List V} {H : Hp} {Q : VK} {E : XK} (h : sp_room_of K vs H Q E) : vs.length = 2 := by
  obtain ⟨_, _, _, _, _, rfl, _⟩ := h
  rfl
theorem pure_serves (T : Txt K mg) (vs : List V) (H : Hp) (Q : VK) (E : XK) (h : sp_serves K vs H Q E) : t_serves K E { nx := fun _ H' => Q .non H', rt := Q } (start N_serves vs) H := by
  obtain ⟨a, b, ⟨w, i⟩, ⟨u, q⟩, n, rfl, ⟨dx, kl, ol, c, hA, hk, ho, hc⟩, ⟨qx, fl, rl, wl, hB, ⟨as, hF, hE⟩, hO, hW⟩, hq, hn, k⟩ := h
  refine ⟨_, rfl, a, _, dx, _, _, rfl, hA, cl_Index T, n_Index_condition T, l_Index_condition, rfl, _, rfl, ?_⟩
  simp only at hc hq k hE
  cases hoc : i.only with
  | none =>
    rw [hoc] at hc
    have hc : c = .non := hc
    refine if_true_of (decide_eq_true hc) ?_
    have e : VaidxBase.serves i q = true := by
      unfold VaidxBase.serves
      rw [hoc]
    rw [e] at k
    exact k H (Same.refl H)
  | some f =>
    rw [hoc] at hc
    obtain ⟨ca, rfl, hf⟩ := hc
    rw [serves_eq hq.fs hoc] at k
    refine if_false_of (decide_eq_false (fun z => by cases z)) ?_
    refine ⟨_, rfl, b, _, qx, _, _, rfl, hB, cl_Question T, n_Question_filters T, l_Question_filters, fl, rfl, ⟨_, SqL.of hF⟩, fun D nD => ?_⟩
    refine lc_ys (K := K) (xs := as.map V.ref) ((q.filters.map fun g => withinB g f).map V.bl) (by rw [List.length_map, List.length_map, List.length_map, hE.1]) nD (SqL.of hF) (by rw [List.length_map, hE.1]; have := hq.fs.len; omega) (fun j x y hx hy H' hs Qe hQe => ?_) (fun H3 hd3 hs => ?_)
    · obtain ⟨fa, g, rfl, hfa, hfj, hG⟩ := each_at hE hx
      rw [List.getElem?_map, List.getElem?_map, hfj] at hy
      injection hy with hy
      subst hy
      exact ⟨_, rfl, _, rfl, a, _, dx, _, _, rfl, hs _ _ hA, cl_Index T, n_Index_condition T, l_Index_condition, fa, ca, g, f, rfl, filterAt_same hG hs, filterAt_same hf hs, hQe H' (Same.refl H')⟩
    · refine ⟨D, _, rfl, SqL.of hd3, ?_⟩
      rw [List.any_map]
      exact k H3 hs
theorem ints_len (l : List Nat) : (VaidxBase.ints l).length = l.length := List.length_map ..
theorem ints_app (l m : List Nat) : VaidxBase.ints (l ++ m) = VaidxBase.ints l ++ VaidxBase.ints m := List.map_append ..
theorem intsAt_V {H : Hp} {p : Addr} {l : List Nat} : IntsAt K H p l ↔ H p = some (.lst ((VaidxBase.ints l).map V.int)) := by
  unfold IntsAt
  rw [ints_V]
theorem pure_columns_of (T : Txt K mg) (vs : List V) (H : Hp) (Q : VK) (E : XK) (h : sp_columns_of K vs H Q E) : t_columns_of K E { nx := fun _ H' => Q .non H', rt := Q } (start N_columns_of vs) H := by
  obtain ⟨a, ⟨w, i⟩, n, rfl, ⟨dx, kl, ol, c, hA, hk, ho, hc⟩, hi, hn, k⟩ := h
  have lk := hi.k.len
  have lo := hi.o.len
  simp only at lk lo hk ho hc
  refine ⟨_, rfl, a, _, dx, _, _, rfl, hA, cl_Index T, n_Index_key_columns T, l_Index_key_columns, _, rfl, a, _, dx, _, _, rfl, hA, cl_Index T, n_Index_included T, l_Index_included, ?_⟩
  refine cat_ints ((intsAt_V (K := K)).mp hk) ((intsAt_V (K := K)).mp ho) (by rw [ints_len, ints_len]; omega) ?_
  unfold VaidxBase.columnsOf at k
  rw [ints_app] at k
  exact k
theorem pure_needs_of (T : Txt K mg) (vs : List V) (H : Hp) (Q : VK) (E : XK) (h : sp_needs_of K vs H Q E) : t_needs_of K E { nx := fun _ H' => Q .non H', rt := Q } (start N_needs_of vs) H := by
  obtain ⟨b, ⟨u, q⟩, n, rfl, ⟨qx, fl, rl, wl, hB, ⟨as, hF, hE⟩, hO, hW⟩, hq, hn, k⟩ := h
  have l1 := hq.fs.len
  have l2 := hq.order.len
  have l3 := hq.wants.len
  simp only at l1 l2 l3 hO hW hE
  refine ⟨_, rfl, b, _, qx, _, _, rfl, hB, cl_Question T, n_Question_filters T, l_Question_filters, fl, rfl, ⟨_, SqL.of hF⟩, fun D nD => ?_⟩
  refine lc_ys (K := K) (xs := as.map V.ref) ((q.filters.map fun f => f.col).map fun c => V.int ((c : Nat) : Int)) (by rw [List.length_map, List.length_map, List.length_map, hE.1]) nD (SqL.of hF) (by rw [List.length_map, hE.1]; omega) (fun j x y hx hy H' hs Qe hQe => ?_) (fun H3 hd3 hs => ?_)
  · obtain ⟨fa, f, rfl, hfa, hfj, ⟨fdx, hG⟩⟩ := each_at hE hx
    rw [List.getElem?_map, List.getElem?_map, hfj] at hy
    injection hy with hy
    subst hy
    exact ⟨_, rfl, fa, _, fdx, _, _, rfl, hs _ _ hG, cl_Filter T, n_Filter_column T, l_Filter_column, hQe H' (Same.refl H')⟩
  · refine ⟨_, rfl, b, _, qx, _, _, rfl, hs _ _ hB, cl_Question T, n_Question_order T, l_Question_order, ?_⟩
    refine cat_ints ((intsAt_V (K := K)).mp hd3) ((intsAt_V (K := K)).mp (hs _ _ hO)) (by rw [ints_len, ints_len, List.length_map]; omega) fun p4 H4 h4 s4 n4 => ?_
    have s14 := hs.trans s4
    refine ⟨_, rfl, b, _, qx, _, _, rfl, s14 _ _ hB, cl_Question T, n_Question_wanted T, l_Question_wanted, ?_⟩
    refine cat_ints h4 ((intsAt_V (K := K)).mp (s14 _ _ hW)) (by rw [List.length_append, ints_len, ints_len, ints_len, List.length_map]; omega) ?_
    rw [List.append_assoc, ← ints_app, ← ints_app]
    exact NewI.mono k s14
theorem nat_at {l : List Nat} {j : Nat} {x : V} (h : (l.map fun n => V.int ((n : Nat) : Int))[j]? = some x) : ∃ c : Nat, l[j]? = some c ∧ x = .int (c : Nat) := by
  rw [List.getElem?_map] at h
  obtain ⟨c, hc, rfl⟩ := Option.map_eq_some_iff.mp h
  exact ⟨c, hc, rfl⟩
theorem pure_covers (T : Txt K mg) (vs : List V) (H : Hp) (Q : VK) (E : XK) (h : sp_covers K vs H Q E) : t_covers K E { nx := fun _ H' => Q .non H', rt := Q } (start N_covers vs) H := by
  obtain ⟨a, b, x, y, n, rfl, hI, hQ, hi, hq, hn, k⟩ := h
  refine ⟨_, rfl, a, x, n, rfl, hI, hi, hn, fun p1 H1 h1 s1 n1 => ?_⟩
  refine ⟨_, rfl, b, y, n, rfl, questionAt_same hQ s1, hq, hn, fun p2 H2 h2 s2 n2 => ?_⟩
  have h2' := intsAt_V (K := K) |>.mpr h2
  have h1' := intsAt_V (K := K) |>.mpr (s2 _ _ h1)
  refine ⟨p2, rfl, ⟨_, SqL.of h2'⟩, fun D nD => ?_⟩
  have ln : (VaidxBase.needed y.2).length ≤ 12 := by
    have l1 := hq.fs.len
    have l2 := hq.order.len
    have l3 := hq.wants.len
    unfold VaidxBase.needed
    rw [List.length_append, List.length_append, List.length_map]
    omega
  refine lc_ys (K := K) (xs := (VaidxBase.needed y.2).map fun n => V.int ((n : Nat) : Int)) (((VaidxBase.needed y.2).map (VaidxBase.columnsOf x.2).contains).map V.bl) (by rw [List.length_map, List.length_map, List.length_map]) nD (SqL.of h2') (by rw [List.length_map]; omega) (fun j x' y' hx hy H' hs Qe hQe => ?_) (fun H3 hd3 hs => ?_)
  · obtain ⟨c, hc, rfl⟩ := nat_at hx
    rw [List.getElem?_map, List.getElem?_map, hc] at hy
    injection hy with hy
    subst hy
    refine ⟨_, rfl, _, rfl, p1, _, rfl, .inl (SqL.of (hs _ _ h1')), rfl, flat_ints _, ?_⟩
    show Qe (.bl (if false = true then _ else inV (.int (c : Nat)) _)) H'
    rw [if_neg Bool.false_ne_true, inV_ints]
    exact hQe H' (Same.refl H')
  · refine ⟨D, _, rfl, SqL.of hd3, ?_⟩
    rw [List.all_map]
    exact k H3 ((s1.trans s2).trans hs)
theorem not_in (K : PySem.W.Frag) {H : Hp} {σ : L2.St} {p : Addr} {l : List Nat} {c i j : Nat} {Q : Bool → Hp → Prop} (hi : σ[i]? = some (some (.int (c : Nat)))) (hj : σ[j]? = some (some (.ref p))) (hp : IntsAt K H p l) (k : Q (!l.contains c) H) : tTest (tOp (rIn K true) (tVar i) (tVar j)) σ H Q := by
  refine ⟨_, hi, _, hj, p, _, rfl, .inl (SqL.of hp), rfl, flat_ints _, _, rfl, ?_⟩
  show Q (if true = true then !inV (.int (c : Nat)) _ else _) H
  rw [if_pos rfl, inV_ints]
  exact k
theorem filt_nat (p : Nat → Bool) (l : List Nat) : (((l.map fun c => (p c, V.int ((c : Nat) : Int))).filter (·.1)).map (·.2)) = (l.filter p).map fun c => V.int ((c : Nat) : Int) := filt_pairs p _ l
theorem cut_head (l : List Nat) (m : Nat) : cutV (l.map fun n => V.int ((n : Nat) : Int)) none (some (m : Int)) = (l.take m).map fun n => V.int ((n : Nat) : Int) := by
  unfold cutV
  rw [HT.sIx_nat, List.length_map, List.map_take]
  by_cases c : m ≤ l.length
  · rw [Nat.min_eq_left c]
    rfl
  · rw [Nat.min_eq_right (by omega), List.take_of_length_le (l := l.map _) (i := m) (by rw [List.length_map]; omega)]
    show List.take (l.length - 0) (List.drop 0 (l.map fun n => V.int ((n : Nat) : Int))) = _
    rw [List.drop_zero, List.take_of_length_le (by rw [List.length_map]; omega)]
theorem pure_is_free_by (T : Txt K mg) (vs : List V) (H : Hp) (Q : VK) (E : XK) (h : sp_is_free_by K vs H Q E) : t_is_free_by K E { nx := fun _ H' => Q .non H', rt := Q } (start N_is_free_by vs) H := by
  obtain ⟨a, b, ⟨w, i⟩, ⟨u, q⟩, n, rfl, ⟨dx, kl, ol, c, hA, hk, ho, hc⟩, ⟨qx, fl, rl, wl, hB, ⟨as, hF, hE⟩, hO, hW⟩, hi, hq, hn, k⟩ := h
  have l1 := hq.fs.len
  have l2 := hq.order.len
  have l3 := hi.k.len
  simp only at l1 l2 l3 hO hW hE hk k hq
  refine ⟨_, rfl, b, _, qx, _, _, rfl, hB, cl_Question T, n_Question_filters T, l_Question_filters, fl, rfl, ⟨_, SqL.of hF⟩, fun D nD => ?_⟩
  refine lc_if (K := K) (xs := as.map V.ref) (q.filters.map fun f => (VaidxBase.isEqual f, V.int ((f.col : Nat) : Int))) (by rw [List.length_map, List.length_map, hE.1]) nD (SqL.of hF) (by rw [List.length_map, hE.1]; omega) (fun j x y hx hy H' hs Qe hQe => ?_) (fun j x y hx hy hy1 H' hs Qe hQe => ?_) (fun H1 hd1 s1 => ?_)
  · obtain ⟨fa, f, rfl, hfa, hfj, ⟨fdx, hG⟩⟩ := each_at hE hx
    rw [List.getElem?_map, hfj] at hy
    injection hy with hy
    subst hy
    refine ⟨_, rfl, fa, _, fdx, _, _, rfl, hs _ _ hG, cl_Filter T, n_Filter_low T, l_Filter_low, _, rfl, fa, _, fdx, _, _, rfl, hs _ _ hG, cl_Filter T, n_Filter_high T, l_Filter_high, rfl, _, rfl, ?_⟩
    rw [dec_nat]
    exact hQe H' (Same.refl H')
  · obtain ⟨fa, f, rfl, hfa, hfj, ⟨fdx, hG⟩⟩ := each_at hE hx
    rw [List.getElem?_map, hfj] at hy
    injection hy with hy
    subst hy
    exact ⟨_, rfl, fa, _, fdx, _, _, rfl, hs _ _ hG, cl_Filter T, n_Filter_column T, l_Filter_column, hQe H' (Same.refl H')⟩
  · have hfx : IntsAt K H1 D (fixedOf q) := by
      unfold IntsAt fixedOf
      rw [hd1, filt_pairs, List.map_map]
      rfl
    refine ⟨_, rfl, b, _, qx, _, _, rfl, s1 _ _ hB, cl_Question T, n_Question_order T, l_Question_order, rl, rfl, ⟨_, SqL.of (s1 _ _ hO)⟩, fun D2 nD2 => ?_⟩
    refine lc_if (K := K) (xs := q.order.map fun n => V.int ((n : Nat) : Int)) (q.order.map fun c => (!(fixedOf q).contains c, V.int ((c : Nat) : Int))) (by rw [List.length_map, List.length_map]) nD2 (SqL.of (s1 _ _ hO)) (by rw [List.length_map]; omega) (fun j x y hx hy H' hs Qe hQe => ?_) (fun j x y hx hy hy1 H' hs Qe hQe => ?_) (fun H2 hd2 s2 => ?_)
    · obtain ⟨c, hcj, rfl⟩ := nat_at hx
      rw [List.getElem?_map, hcj] at hy
      injection hy with hy
      subst hy
      exact not_in K rfl rfl (show IntsAt K H' D (fixedOf q) from hs _ _ hfx) (hQe H' (Same.refl H'))
    · obtain ⟨c, hcj, rfl⟩ := nat_at hx
      rw [List.getElem?_map, hcj] at hy
      injection hy with hy
      subst hy
      exact ⟨_, rfl, hQe H' (Same.refl H')⟩
    · rw [filt_nat] at hd2
      have s12 := s1.trans s2
      refine ⟨_, rfl, a, _, dx, _, _, rfl, s12 _ _ hA, cl_Index T, n_Index_key_columns T, l_Index_key_columns, kl, rfl, ⟨_, SqL.of (s12 _ _ hk)⟩, fun D3 nD3 => ?_⟩
      refine lc_if (K := K) (xs := i.keys.map fun n => V.int ((n : Nat) : Int)) (i.keys.map fun c => (!(fixedOf q).contains c, V.int ((c : Nat) : Int))) (by rw [List.length_map, List.length_map]) nD3 (SqL.of (s12 _ _ hk)) (by rw [List.length_map]; omega) (fun j x y hx hy H' hs Qe hQe => ?_) (fun j x y hx hy hy1 H' hs Qe hQe => ?_) (fun H3 hd3 s3 => ?_)
      · obtain ⟨c, hcj, rfl⟩ := nat_at hx
        rw [List.getElem?_map, hcj] at hy
        injection hy with hy
        subst hy
        exact not_in K rfl rfl (show IntsAt K H' D (fixedOf q) from hs _ _ (s2 _ _ hfx)) (hQe H' (Same.refl H'))
      · obtain ⟨c, hcj, rfl⟩ := nat_at hx
        rw [List.getElem?_map, hcj] at hy
        injection hy with hy
        subst hy
        exact ⟨_, rfl, hQe H' (Same.refl H')⟩
      · rw [filt_nat] at hd3
        refine ⟨_, rfl, _, rfl, _, _, rfl, .inl ⟨_, SqL.of (s3 _ _ hd2), rfl⟩, _, rfl, D3, _, rfl, SqL.of hd3, fun p np => ?_⟩
        rw [List.length_map, cut_head]
        have s4 : Same H3 (upd H3 p (.lst ((List.take (q.order.filter fun c => !(fixedOf q).contains c).length (i.keys.filter fun c => !(fixedOf q).contains c)).map fun n => V.int ((n : Nat) : Int)))) := same_new (Same.refl H3) np
        refine ⟨_, rfl, iD _, iD _, .lst (SqL.of upd_same) (dp_ints _), .lst (SqL.of (s4 _ _ (s3 _ _ hd2))) (dp_ints _), shaped_iD _, shaped_iD _, ?_⟩
        rw [eqv_iD]
        have e : ((List.take (q.order.filter fun c => !(fixedOf q).contains c).length (i.keys.filter fun c => !(fixedOf q).contains c)) == (q.order.filter fun c => !(fixedOf q).contains c)) = VaidxBase.isFree i q := by
          have e1 : (fun c => !(fixedOf q).contains c) = fun c => !VaidxBase.equalOn q c := funext fun c => by rw [fixed_eq hq.fs]
          rw [e1]
          rfl
        rw [e]
        exact k _ ((s12.trans s3).trans s4)
theorem isIn_list (i : VaidxBase.Index) (r : List Nat) : VaidxBase.isIn i r = i.only.toList.all (VaidxBase.passes r) := by
  unfold VaidxBase.isIn
  cases i.only with
  | none => rfl
  | some f => simp
theorem pure_entries_of (T : Txt K mg) (vs : List V) (H : Hp) (Q : VK) (E : XK) (h : sp_entries_of K vs H Q E) : t_entries_of K E { nx := fun _ H' => Q .non H', rt := Q } (start N_entries_of vs) H := by
  obtain ⟨a, b, ⟨w, i⟩, gs, n, rfl, ⟨dx, kl, ol, c, hA, hk, ho, hc⟩, hG, hi, hn, hgl, hgs, k⟩ := h
  simp only at hc hi k
  refine ⟨_, rfl, a, _, dx, _, _, rfl, hA, cl_Index T, n_Index_condition T, l_Index_condition, rfl, _, rfl, ?_⟩
  have fin : ∀ (p : Addr) (H1 : Hp), Same H H1 → FiltersAt K H1 p i.only.toList → sp_rows_passing K [.ref b, .ref p] H1 Q E0 := fun p H1 s1 hp => by
    refine ⟨b, p, gs, i.only.toList, n, rfl, groupsAt_same hG s1, hp, ⟨fun f hf => ?_, ?_⟩, hn, hgl, hgs, fun H2 s2 => ?_⟩
    · exact hi.only f (Option.mem_toList.mp hf)
    · cases i.only <;> simp
    · have e : (gs.filter fun g => i.only.toList.all (VaidxBase.passes g.row)) = gs.filter fun g => VaidxBase.isIn i g.row := by
        congr 1
        exact funext fun g => (isIn_list i g.row).symm
      rw [e]
      exact k H2 (s1.trans s2)
  cases hoc : i.only with
  | none =>
    rw [hoc] at hc fin
    have hc : c = .non := hc
    refine if_true_of (decide_eq_true hc) ⟨(by show 0 ≤ sizeLine; decide), fun p np => ?_⟩
    exact ⟨_, rfl, _, rfl, fin p _ (same_new (Same.refl H) np) ⟨[], upd_same, Each.nil⟩⟩
  | some f =>
    rw [hoc] at hc fin
    obtain ⟨ca, rfl, hf⟩ := hc
    refine if_false_of (decide_eq_false (fun z => by cases z)) ⟨_, rfl, a, _, dx, _, _, rfl, hA, cl_Index T, n_Index_condition T, l_Index_condition, (by show 1 ≤ sizeLine; decide), fun p np => ?_⟩
    have s1 : Same H (upd H p (.lst [.ref ca])) := same_new (Same.refl H) np
    exact ⟨_, rfl, _, rfl, fin p _ s1 ⟨[ca], upd_same, Each.push Each.nil (filterAt_same hf s1)⟩⟩
theorem pure_room_of (T : Txt K mg) (vs : List V) (H : Hp) (Q : VK) (E : XK) (h : sp_room_of K vs H Q E) : t_room_of K E { nx := fun _ H' => Q .non H', rt := Q } (start N_room_of vs) H := by
  obtain ⟨a, b, x, gs, n, rfl, hI, hG, hi, hn, hgl, hgs, k⟩ := h
  refine ⟨_, rfl, _, rfl, a, b, x, gs, n, rfl, hI, hG, hi, hn, hgl, hgs, fun H1 s1 => ?_⟩
  refine ⟨_, rfl, a, x, n, rfl, indexAt_same hI s1, hi, hn, fun p2 H2 h2 s2 n2 => ?_⟩
  refine ⟨_, _, rfl, .inl ⟨_, SqL.of h2, rfl⟩, 1, _, rfl, rfl, _, _, rfl, rfl, .inr ?_, ?_⟩
  · have l1 := hi.cols.len
    rw [List.length_map, ints_len]
    show _ < 1 + (((x.2.keys ++ x.2.others).length : Nat) : Int) ∧ 1 + (((x.2.keys ++ x.2.others).length : Nat) : Int) < _
    omega
  · rw [List.length_map, ints_len]
    have e : ((entOf gs x.2 : Nat) : Int) * (1 + (((VaidxBase.columnsOf x.2).length : Nat) : Int)) = ((entOf gs x.2 * ((VaidxBase.columnsOf x.2).length + 1) : Nat) : Int) := by
      rw [Int.natCast_mul]
      congr 1
      omega
    show Q (.int (((entOf gs x.2 : Nat) : Int) * (1 + (((VaidxBase.columnsOf x.2).length : Nat) : Int)))) H2
    rw [e]
    exact k H2 (s1.trans s2)
end
end Ix
-- part IxM
set_option maxHeartbeats 4000000
namespace Ix
open PySem PySem.Spec PyProof.Rows L2
/-! ### parts: put together, sorted -/
abbrev Pt := Vaidxa.Part
def vls (l : List Pt) : List (List Nat) := l.map fun p => p.values
def rwsAt (l : List Pt) (k : List Nat) : Nat := ((l.filter fun p => decide (p.values = k)).map fun p => p.rows).sum
def sumR (l : List Pt) : Nat := (l.map fun p => p.rows).sum
theorem put_hit {x p : Pt} {r : List Pt} (h : x.values = p.values) : Vaidxa.putPart (x :: r) p = ⟨x.values, x.rows + p.rows⟩ :: r := by
  show (if x.values = p.values then _ else _) = _
  rw [if_pos h]
theorem put_miss {x p : Pt} {r : List Pt} (h : ¬ x.values = p.values) : Vaidxa.putPart (x :: r) p = x :: Vaidxa.putPart r p := by
  show (if x.values = p.values then _ else _) = _
  rw [if_neg h]
theorem put_vls (p : Pt) : ∀ l : List Pt, vls (Vaidxa.putPart l p) = if p.values ∈ vls l then vls l else vls l ++ [p.values]
  | [] => by
    rw [if_neg (by simp [vls])]
    rfl
  | x :: r => by
    have ih := put_vls p r
    by_cases h : x.values = p.values
    · rw [put_hit h, if_pos (by show p.values ∈ x.values :: vls r; rw [h]; exact List.mem_cons_self)]
      rfl
    · rw [put_miss h]
      show x.values :: vls (Vaidxa.putPart r p) = _
      rw [ih]
      by_cases m : p.values ∈ vls r
      · have mm : p.values ∈ vls (x :: r) := List.mem_cons_of_mem _ m
        rw [if_pos m, if_pos mm]
        rfl
      · rw [if_neg m, if_neg (fun z => by
          rcases List.mem_cons.mp (show p.values ∈ x.values :: vls r from z) with z | z
          · exact h z.symm
          · exact m z)]
        rfl
theorem put_rws (p : Pt) (k : List Nat) : ∀ l : List Pt, rwsAt (Vaidxa.putPart l p) k = rwsAt l k + if p.values = k then p.rows else 0
  | [] => by
    show rwsAt [p] k = 0 + _
    unfold rwsAt
    by_cases h : p.values = k
    · simp [h]
    · simp [h]
  | x :: r => by
    have ih := put_rws p k r
    have cons : ∀ (y : Pt) (l : List Pt), rwsAt (y :: l) k = (if y.values = k then y.rows else 0) + rwsAt l k := fun y l => by
      unfold rwsAt
      by_cases h : y.values = k
      · simp [h]
      · simp [h]
    by_cases h : x.values = p.values
    · rw [put_hit h, cons, cons]
      show (if x.values = k then x.rows + p.rows else 0) + rwsAt r k = _
      rw [h]
      split <;> omega
    · rw [put_miss h, cons, cons, ih]
      omega
theorem put_sum (p : Pt) : ∀ l : List Pt, sumR (Vaidxa.putPart l p) = sumR l + p.rows
  | [] => by
    show p.rows + 0 = 0 + p.rows
    omega
  | x :: r => by
    have ih := put_sum p r
    by_cases h : x.values = p.values
    · rw [put_hit h]
      show x.rows + p.rows + sumR r = x.rows + sumR r + p.rows
      omega
    · rw [put_miss h]
      show x.rows + sumR (Vaidxa.putPart r p) = x.rows + sumR r + p.rows
      rw [ih]
      omega
theorem put_nodup {l : List Pt} {p : Pt} (h : (vls l).Nodup) : (vls (Vaidxa.putPart l p)).Nodup := by
  rw [put_vls]
  split
  · exact h
  · rename_i m
    rw [List.nodup_append]
    refine ⟨h, List.nodup_cons.mpr ⟨List.not_mem_nil, List.nodup_nil⟩, fun a ha b hb e => ?_⟩
    rw [List.mem_singleton.mp hb] at e
    exact m (e ▸ ha)
theorem fold_put : ∀ (L acc : List Pt), (vls acc).Nodup → (vls (L.foldl Vaidxa.putPart acc)).Nodup ∧ (∀ k, rwsAt (L.foldl Vaidxa.putPart acc) k = rwsAt acc k + rwsAt L k) ∧ sumR (L.foldl Vaidxa.putPart acc) = sumR acc + sumR L ∧ (∃ m, vls (L.foldl Vaidxa.putPart acc) = vls acc ++ m ∧ m.Sublist (vls L)) ∧ ∀ k, k ∈ vls (L.foldl Vaidxa.putPart acc) ↔ k ∈ vls acc ∨ k ∈ vls L
  | [], acc, h => ⟨h, fun k => by simp [rwsAt], by simp [sumR], ⟨[], by simp, List.Sublist.refl _⟩, fun k => by simp [vls]⟩
  | p :: L, acc, h => by
    obtain ⟨h1, h2, h3, ⟨m, h4, h5⟩, h6⟩ := fold_put L (Vaidxa.putPart acc p) (put_nodup h)
    have hv := put_vls p acc
    refine ⟨h1, fun k => ?_, ?_, ?_, fun k => ?_⟩
    · rw [List.foldl_cons, h2, put_rws]
      have : rwsAt (p :: L) k = (if p.values = k then p.rows else 0) + rwsAt L k := by
        unfold rwsAt
        by_cases e : p.values = k
        · simp [e]
        · simp [e]
      omega
    · rw [List.foldl_cons, h3, put_sum]
      show _ = sumR acc + (p.rows + sumR L)
      omega
    · rw [List.foldl_cons, h4, hv]
      split
      · exact ⟨m, rfl, List.Sublist.cons _ h5⟩
      · exact ⟨p.values :: m, by rw [List.append_assoc]; rfl, List.Sublist.cons_cons _ h5⟩
    · rw [List.foldl_cons, h6, hv]
      show _ ↔ k ∈ vls acc ∨ k ∈ p.values :: vls L
      rw [List.mem_cons]
      split
      · rename_i e
        constructor
        · rintro (z | z)
          · exact .inl z
          · exact .inr (.inr z)
        · rintro (z | z | z)
          · exact .inl z
          · exact .inl (z ▸ e)
          · exact .inr z
      · rw [List.mem_append, List.mem_singleton]
        constructor
        · rintro ((z | z) | z)
          · exact .inl z
          · exact .inr (.inl z)
          · exact .inr (.inr z)
        · rintro (z | z | z)
          · exact .inl (.inl z)
          · exact .inl (.inr z)
          · exact .inr z
structure Tg (L R : List Pt) : Prop where
  nd : (vls R).Nodup
  rws : ∀ k, rwsAt R k = rwsAt L k
  sum : sumR R = sumR L
  sub : (vls R).Sublist (vls L)
  mem : ∀ k, k ∈ vls R ↔ k ∈ vls L
theorem tg (L : List Pt) : Tg L (Vaidxa.together L) := by
  obtain ⟨h1, h2, h3, ⟨m, h4, h5⟩, h6⟩ := fold_put L [] List.nodup_nil
  refine ⟨h1, fun k => ?_, ?_, ?_, fun k => ?_⟩
  · unfold Vaidxa.together
    rw [h2]
    simp [rwsAt]
  · unfold Vaidxa.together
    rw [h3]
    simp [sumR]
  · unfold Vaidxa.together
    rw [h4]
    exact h5
  · unfold Vaidxa.together
    rw [h6]
    simp [vls]
theorem rws_of : ∀ {l : List Pt} {p : Pt}, (vls l).Nodup → p ∈ l → rwsAt l p.values = p.rows
  | x :: r, p, nd, h => by
    have nd : (x.values :: vls r).Nodup := nd
    rw [List.nodup_cons] at nd
    have cons : rwsAt (x :: r) p.values = (if x.values = p.values then x.rows else 0) + rwsAt r p.values := by
      unfold rwsAt
      by_cases e : x.values = p.values
      · simp [e]
      · simp [e]
    rcases List.mem_cons.mp h with e | h
    · subst e
      rw [cons, if_pos rfl]
      have z : rwsAt r p.values = 0 := by
        unfold rwsAt
        rw [List.filter_eq_nil_iff.mpr]
        · rfl
        · intro y hy e
          have e := of_decide_eq_true e
          exact nd.1 (List.mem_map.mpr ⟨y, hy, e⟩)
      omega
    · have ne : ¬ x.values = p.values := fun e => nd.1 (by rw [e]; exact List.mem_map.mpr ⟨p, h, rfl⟩)
      rw [cons, if_neg ne, rws_of nd.2 h]
      omega
theorem Tg.iff {L R : List Pt} (t : Tg L R) (p : Pt) : p ∈ R ↔ p.values ∈ vls L ∧ p.rows = rwsAt L p.values := by
  constructor
  · intro h
    refine ⟨(t.mem _).mp (List.mem_map.mpr ⟨p, h, rfl⟩), ?_⟩
    rw [← t.rws, rws_of t.nd h]
  · rintro ⟨h1, h2⟩
    obtain ⟨q, hq, e⟩ := List.mem_map.mp ((t.mem _).mpr h1)
    have hr := rws_of t.nd hq
    rw [e, t.rws, ← h2] at hr
    have : q = p := by
      cases q
      cases p
      simp only at e hr
      rw [e, hr]
    rw [← this]
    exact hq
theorem nodup_vls {l : List Pt} (h : (vls l).Nodup) : l.Nodup := by
  unfold vls at h
  unfold List.Nodup at h ⊢
  rw [List.pairwise_map] at h
  exact h.imp fun {a b} z e => z (by rw [e])
theorem tg_perm {L L' R R' : List Pt} (t : Tg L R) (t' : Tg L' R') (h : L.Perm L') : R.Perm R' := by
  rw [List.perm_ext_iff_of_nodup (nodup_vls t.nd) (nodup_vls t'.nd)]
  intro p
  rw [t.iff, t'.iff]
  have e : rwsAt L p.values = rwsAt L' p.values := ((h.filter _).map _).sum_nat
  rw [e, show p.values ∈ vls L ↔ p.values ∈ vls L' from (h.map _).mem_iff]
/-! keys as numbers -/
def kI (k : List Nat) : List Int := k.map fun n => ((n : Nat) : Int)
def cd (k : List Nat) : Int := TS.code 10 (kI k)
def Dg (k : List Nat) : Prop := ∀ d ∈ k, d ≤ 9
theorem Dg.bd {k : List Nat} (h : Dg k) : TS.Bd 10 (kI k) := fun m hm => by
  obtain ⟨d, hd, rfl⟩ := List.mem_map.mp hm
  have := h d hd
  omega
theorem Dg.tail {d : Nat} {k : List Nat} (h : Dg (d :: k)) : Dg k := fun x hx => h x (List.mem_cons_of_mem _ hx)
theorem kI_len (k : List Nat) : (kI k).length = k.length := List.length_map ..
theorem cd_lt {d e : Nat} {r q : List Nat} (hl : r.length = q.length) (hr : Dg r) (hq : Dg q) (h : d < e) : cd (d :: r) < cd (e :: q) :=
  TS.code_lt (B := 10) (d := (d : Int)) (e := (e : Int)) (r := kI r) (q := kI q) (by rw [kI_len, kI_len]; exact hl) hr.bd hq.bd (by omega)
theorem cd_same {d : Nat} {r q : List Nat} (hl : r.length = q.length) : cd (d :: r) < cd (d :: q) ↔ cd r < cd q :=
  TS.code_same (B := 10) (d := (d : Int)) (r := kI r) (q := kI q) (by rw [kI_len, kI_len]; exact hl)
theorem cd_inj : ∀ {r q : List Nat}, r.length = q.length → Dg r → Dg q → cd r = cd q → r = q
  | [], [], _, _, _, _ => rfl
  | [], _ :: _, h, _, _, _ => by simp at h
  | _ :: _, [], h, _, _, _ => by simp at h
  | d :: r, e :: q, h, hr, hq, c => by
    have hl : r.length = q.length := by simpa using h
    by_cases h1 : d < e
    · have := cd_lt hl hr.tail hq.tail h1
      omega
    · by_cases h2 : e < d
      · have := cd_lt hl.symm hq.tail hr.tail h2
        omega
      · have e1 : d = e := by omega
        subst e1
        have c1 := cd_same (d := d) hl
        have c2 := cd_same (d := d) hl.symm
        have c3 : cd r = cd q := by
          by_cases z1 : cd r < cd q
          · have := c1.mpr z1
            omega
          · by_cases z2 : cd q < cd r
            · have := c2.mpr z2
              omega
            · omega
        rw [cd_inj hl hr.tail hq.tail c3]
theorem val_dg {n : Nat} {g : VaidxBase.Group} (h : GOk n g) (c : Nat) : VaidxBase.valueAt g.row c ≤ 9 := by
  unfold VaidxBase.valueAt
  cases e : g.row[c]? with
  | none => exact Nat.zero_le _
  | some v => exact h.val v (List.mem_of_getElem? e)
def keyG (cs : List Nat) (g : VaidxBase.Group) : List Nat := cs.map (VaidxBase.valueAt g.row)
theorem key_dg {n : Nat} {g : VaidxBase.Group} (h : GOk n g) (cs : List Nat) : Dg (keyG cs g) := fun d hd => by
  obtain ⟨c, _, rfl⟩ := List.mem_map.mp hd
  exact val_dg h c
theorem key_len (cs : List Nat) (g : VaidxBase.Group) : (keyG cs g).length = cs.length := List.length_map ..
theorem less_cd {n : Nat} {g h : VaidxBase.Group} (hg : GOk n g) (hh : GOk n h) : ∀ cs : List Nat, VaidxBase.less cs g.row h.row = decide (cd (keyG cs g) < cd (keyG cs h))
  | [] => by
    rw [show cd (keyG [] g) = cd (keyG [] h) from rfl, decide_eq_false (Int.lt_irrefl _)]
    rfl
  | c :: cs => by
    have ih := less_cd hg hh cs
    have hl : (keyG cs g).length = (keyG cs h).length := by rw [key_len, key_len]
    show (decide (VaidxBase.valueAt g.row c < VaidxBase.valueAt h.row c) || (VaidxBase.valueAt g.row c == VaidxBase.valueAt h.row c && VaidxBase.less cs g.row h.row)) = decide (cd (VaidxBase.valueAt g.row c :: keyG cs g) < cd (VaidxBase.valueAt h.row c :: keyG cs h))
    rw [ih]
    by_cases h1 : VaidxBase.valueAt g.row c < VaidxBase.valueAt h.row c
    · rw [decide_eq_true h1, Bool.true_or, decide_eq_true (cd_lt hl (key_dg hg cs) (key_dg hh cs) h1)]
    · rw [decide_eq_false h1, Bool.false_or]
      by_cases h2 : VaidxBase.valueAt h.row c < VaidxBase.valueAt g.row c
      · have h3 := cd_lt hl.symm (key_dg hh cs) (key_dg hg cs) h2
        rw [beq_false_of_ne (by omega), Bool.false_and, decide_eq_false (by omega)]
      · have e : VaidxBase.valueAt g.row c = VaidxBase.valueAt h.row c := by omega
        rw [e, beq_self_eq_true, Bool.true_and]
        exact decide_eq_decide.mpr (cd_same hl).symm
/-! groups in order -/
theorem putG_perm (cs : List Nat) (g : VaidxBase.Group) : ∀ l : List VaidxBase.Group, (VaidxBase.putGroup cs g l).Perm (g :: l)
  | [] => List.Perm.refl _
  | h :: l => by
    show (if VaidxBase.less cs g.row h.row then g :: h :: l else h :: VaidxBase.putGroup cs g l).Perm _
    split
    · exact List.Perm.refl _
    · exact ((putG_perm cs g l).cons h).trans (List.Perm.swap g h l)
theorem putG_srt {n : Nat} (cs : List Nat) {g : VaidxBase.Group} (hg : GOk n g) : ∀ l : List VaidxBase.Group, (∀ x ∈ l, GOk n x) → l.Pairwise (fun x y => cd (keyG cs x) ≤ cd (keyG cs y)) → (VaidxBase.putGroup cs g l).Pairwise (fun x y => cd (keyG cs x) ≤ cd (keyG cs y))
  | [], _, _ => List.pairwise_singleton _ _
  | h :: l, ok, p => by
    have hh := ok h List.mem_cons_self
    obtain ⟨p1, p2⟩ := List.pairwise_cons.mp p
    show (if VaidxBase.less cs g.row h.row then g :: h :: l else h :: VaidxBase.putGroup cs g l).Pairwise _
    rw [less_cd hg hh]
    by_cases c : cd (keyG cs g) < cd (keyG cs h)
    · rw [if_pos (decide_eq_true c)]
      refine List.pairwise_cons.mpr ⟨fun y hy => ?_, p⟩
      rcases List.mem_cons.mp hy with e | hy
      · rw [e]
        omega
      · have := p1 y hy
        omega
    · rw [if_neg (by rw [decide_eq_false c]; exact Bool.false_ne_true)]
      refine List.pairwise_cons.mpr ⟨fun y hy => ?_, putG_srt cs hg l (fun x hx => ok x (List.mem_cons_of_mem _ hx)) p2⟩
      rcases List.mem_cons.mp ((putG_perm cs g l).mem_iff.mp hy) with e | hy
      · rw [e]
        omega
      · exact p1 y hy
theorem sorted_ok {n : Nat} (cs : List Nat) : ∀ (l acc : List VaidxBase.Group), (∀ x ∈ l, GOk n x) → (∀ x ∈ acc, GOk n x) → acc.Pairwise (fun x y => cd (keyG cs x) ≤ cd (keyG cs y)) →
    (l.foldl (fun k g => VaidxBase.putGroup cs g k) acc).Perm (acc ++ l) ∧ (l.foldl (fun k g => VaidxBase.putGroup cs g k) acc).Pairwise (fun x y => cd (keyG cs x) ≤ cd (keyG cs y))
  | [], acc, _, _, p => ⟨by rw [List.append_nil]; exact List.Perm.refl _, p⟩
  | g :: l, acc, h1, h2, p => by
    have hg := h1 g List.mem_cons_self
    have ok : ∀ x ∈ VaidxBase.putGroup cs g acc, GOk n x := fun x hx => by
      rcases List.mem_cons.mp ((putG_perm cs g acc).mem_iff.mp hx) with e | hx
      · rw [e]
        exact hg
      · exact h2 x hx
    obtain ⟨q1, q2⟩ := sorted_ok cs l (VaidxBase.putGroup cs g acc) (fun x hx => h1 x (List.mem_cons_of_mem _ hx)) ok (putG_srt cs hg acc h2 p)
    refine ⟨q1.trans ?_, q2⟩
    refine ((putG_perm cs g acc).append_right l).trans ?_
    exact List.perm_middle.symm
/-! the parts of a question -/
def ptG (q : VaidxBase.Question) (g : VaidxBase.Group) : Pt := ⟨keyG q.order g, g.count⟩
def foundG (gs : List VaidxBase.Group) (q : VaidxBase.Question) : List VaidxBase.Group := gs.filter fun g => q.filters.all (VaidxBase.passes g.row)
def foundD (gs : List VaidxBase.Group) (q : VaidxBase.Question) : List Pt := Vaidxa.together ((foundG gs q).map (ptG q))
def partsG (gs : List VaidxBase.Group) (q : VaidxBase.Question) : List Pt :=
  Vaidxa.together ((if q.back then (VaidxBase.sortedBy q.order (foundG gs q)).reverse else VaidxBase.sortedBy q.order (foundG gs q)).map (ptG q))
theorem partsOf_eq (t : VaidxBase.Table) (q : VaidxBase.Question) : Vaidxa.partsOf t q = partsG t.groups q := rfl
theorem vls_map (q : VaidxBase.Question) (l : List VaidxBase.Group) : vls (l.map (ptG q)) = l.map (keyG q.order) := by
  unfold vls
  rw [List.map_map]
  rfl
structure GsOk (n : Nat) (gs : List VaidxBase.Group) : Prop where
  len : gs.length ≤ 12
  ok : ∀ g ∈ gs, GOk n g
theorem found_ok {n : Nat} {gs : List VaidxBase.Group} (h : GsOk n gs) (q : VaidxBase.Question) : ∀ g ∈ foundG gs q, GOk n g := fun g hg => h.ok g (List.mem_filter.mp hg).1
theorem foundD_key {n : Nat} {gs : List VaidxBase.Group} (h : GsOk n gs) (q : VaidxBase.Question) {p : Pt} (hp : p ∈ foundD gs q) : p.values.length = q.order.length ∧ Dg p.values := by
  have := ((tg ((foundG gs q).map (ptG q))).mem p.values).mp (List.mem_map.mpr ⟨p, hp, rfl⟩)
  rw [vls_map] at this
  obtain ⟨g, hg, e⟩ := List.mem_map.mp this
  rw [← e]
  exact ⟨key_len _ _, key_dg (found_ok h q g hg) _⟩
theorem parts_eq {n : Nat} {gs : List VaidxBase.Group} (h : GsOk n gs) (q : VaidxBase.Question) {L : List Pt} (hp : L.Perm (foundD gs q)) (hs : L.Pairwise (fun x y => cd x.values ≤ cd y.values)) : (if q.back then L.reverse else L) = partsG gs q := by
  have t := tg ((foundG gs q).map (ptG q))
  obtain ⟨s1, s2⟩ := sorted_ok q.order (foundG gs q) [] (found_ok h q) (fun x hx => absurd hx List.not_mem_nil) List.Pairwise.nil
  rw [List.nil_append] at s1
  have anti : ∀ a b : Pt, a ∈ foundD gs q → b ∈ foundD gs q → cd a.values = cd b.values → a = b := fun a b ha hb e => by
    have k1 := foundD_key h q ha
    have k2 := foundD_key h q hb
    have ev : a.values = b.values := cd_inj (k1.1.trans k2.1.symm) k1.2 k2.2 e
    have r1 := rws_of t.nd ha
    have r2 := rws_of t.nd hb
    rw [ev] at r1
    cases a
    cases b
    simp only at ev r1 r2
    rw [ev, ← r1, ← r2]
  unfold partsG
  cases hb : q.back with
  | false =>
    rw [if_neg Bool.false_ne_true, if_neg Bool.false_ne_true]
    have t2 := tg ((VaidxBase.sortedBy q.order (foundG gs q)).map (ptG q))
    have pm := tg_perm t2 t (s1.map (ptG q))
    refine List.Perm.eq_of_pairwise (le := fun x y : Pt => cd x.values ≤ cd y.values) (fun a b ha hb h1 h2 => anti a b (hp.mem_iff.mp ha) (pm.mem_iff.mp hb) (by omega)) hs ?_ (hp.trans pm.symm)
    have sp : (vls ((VaidxBase.sortedBy q.order (foundG gs q)).map (ptG q))).Pairwise (fun x y => cd x ≤ cd y) := by
      rw [vls_map, List.pairwise_map]
      exact s2
    have := sp.sublist t2.sub
    unfold vls at this
    rw [List.pairwise_map] at this
    exact this
  | true =>
    rw [if_pos rfl, if_pos rfl]
    have t2 := tg ((VaidxBase.sortedBy q.order (foundG gs q)).reverse.map (ptG q))
    have pm := tg_perm t2 t (((List.reverse_perm _).trans s1).map (ptG q))
    refine List.Perm.eq_of_pairwise (le := fun x y : Pt => cd y.values ≤ cd x.values) (fun a b ha hb h1 h2 => anti a b (hp.mem_iff.mp (List.mem_reverse.mp ha)) (pm.mem_iff.mp hb) (by omega)) (List.pairwise_reverse.mpr hs) ?_ (((List.reverse_perm _).trans hp).trans pm.symm)
    have sp : (vls ((VaidxBase.sortedBy q.order (foundG gs q)).reverse.map (ptG q))).Pairwise (fun x y => cd y ≤ cd x) := by
      rw [vls_map, List.pairwise_map]
      exact List.pairwise_reverse.mpr s2
    have := sp.sublist t2.sub
    unfold vls at this
    rw [List.pairwise_map] at this
    exact this
theorem sumR_perm {l m : List Pt} (h : l.Perm m) : sumR l = sumR m := (h.map _).sum_nat
theorem foundR_sum (gs : List VaidxBase.Group) (q : VaidxBase.Question) : sumR ((foundG gs q).map (ptG q)) = VaidxBase.rowsOf (foundG gs q) := by
  unfold sumR VaidxBase.rowsOf
  rw [foldl_add, Nat.zero_add, List.map_map]
  rfl
theorem partsG_sum {n : Nat} {gs : List VaidxBase.Group} (h : GsOk n gs) (q : VaidxBase.Question) : sumR (partsG gs q) = VaidxBase.rowsOf (foundG gs q) := by
  obtain ⟨s1, s2⟩ := sorted_ok q.order (foundG gs q) [] (found_ok h q) (fun x hx => absurd hx List.not_mem_nil) List.Pairwise.nil
  rw [List.nil_append] at s1
  unfold partsG
  rw [(tg _).sum, ← foundR_sum]
  refine sumR_perm (List.Perm.map _ ?_)
  split
  · exact (List.reverse_perm _).trans s1
  · exact s1
/-! the first rows -/
def upTo : Nat → List Pt → List Pt
  | _, [] => []
  | n, p :: l => if n = 0 then [] else ⟨p.values, if n < p.rows then n else p.rows⟩ :: upTo (n - (if n < p.rows then n else p.rows)) l
theorem upTo_zero (l : List Pt) : upTo 0 l = [] := by
  cases l with
  | nil => rfl
  | cons p l => rfl
theorem upTo_eq : ∀ (n : Nat) (l : List Pt), upTo n l = Vaidxa.firstRows n l
  | n, [] => by
    unfold upTo Vaidxa.firstRows
    rfl
  | n, p :: l => by
    show (if n = 0 then [] else _) = (if n = 0 then [] else if p.rows < n then p :: Vaidxa.firstRows (n - p.rows) l else [⟨p.values, n⟩])
    by_cases z : n = 0
    · rw [if_pos z, if_pos z]
    · rw [if_neg z, if_neg z]
      by_cases c : p.rows < n
      · rw [if_neg (by omega), if_pos c, upTo_eq]
      · rw [if_neg c]
        by_cases c2 : n < p.rows
        · rw [if_pos c2, Nat.sub_self, upTo_zero]
        · rw [if_neg c2]
          have e : p.rows = n := by omega
          rw [e, Nat.sub_self, upTo_zero]
theorem first_sum : ∀ (n : Nat) (l : List Pt), sumR (upTo n l) = Nat.min n (sumR l)
  | n, [] => by
    show 0 = Nat.min n 0
    exact (Nat.min_zero n).symm
  | n, p :: l => by
    show sumR (if n = 0 then [] else _) = Nat.min n (p.rows + sumR l)
    by_cases z : n = 0
    · rw [if_pos z, z]
      exact (Nat.zero_min _).symm
    · rw [if_neg z]
      show (if n < p.rows then n else p.rows) + sumR (upTo (n - (if n < p.rows then n else p.rows)) l) = min n (p.rows + sumR l)
      rw [first_sum]
      show _ + min _ _ = _
      split <;> omega
theorem len_put (p : Pt) (l : List Pt) : (Vaidxa.putPart l p).length ≤ l.length + 1 := by
  have h := congrArg List.length (put_vls p l)
  unfold vls at h
  rw [List.length_map] at h
  rw [h]
  split
  · rw [List.length_map]
    omega
  · rw [List.length_append, List.length_map]
    exact Nat.le_refl _
theorem tg_len {L R : List Pt} (t : Tg L R) : R.length ≤ L.length := by
  have := t.sub.length_le
  unfold vls at this
  rw [List.length_map, List.length_map] at this
  exact this
theorem upTo_len : ∀ (n : Nat) (l : List Pt), (upTo n l).length ≤ l.length
  | n, [] => Nat.le_refl _
  | n, p :: l => by
    show (if n = 0 then [] else _ : List Pt).length ≤ _
    by_cases z : n = 0
    · rw [if_pos z]
      exact Nat.zero_le _
    · rw [if_neg z, List.length_cons, List.length_cons]
      have := upTo_len (n - (if n < p.rows then n else p.rows)) l
      omega
end Ix
-- part IxPt
set_option maxHeartbeats 4000000
namespace Ix
open PySem PySem.Spec PyProof.Rows L2
/-! ### the dict of parts -/
def nV (k : List Nat) : List V := k.map fun n => V.int ((n : Nat) : Int)
def kk (k : List Nat) : List Key := k.map fun n => (Sum.inl ((n : Nat) : Int) : Key)
def dV (l : List Pt) : List (List Key × V) := l.map fun p => (kk p.values, V.int ((p.rows : Nat) : Int))
theorem kk_V (k : List Nat) : (kk k).map kV = nV k := by
  unfold kk nV
  rw [List.map_map]
  rfl
theorem kk_inj : ∀ {a b : List Nat}, kk a = kk b → a = b
  | [], [], _ => rfl
  | [], _ :: _, h => by simp [kk] at h
  | _ :: _, [], h => by simp [kk] at h
  | x :: a, y :: b, h => by
    have h : (Sum.inl ((x : Nat) : Int) : Key) :: kk a = Sum.inl ((y : Nat) : Int) :: kk b := h
    injection h with h1 h2
    injection h1 with h1
    rw [kk_inj h2, show x = y by omega]
theorem rws_none {l : List Pt} {k : List Nat} (h : k ∉ vls l) : rwsAt l k = 0 := by
  unfold rwsAt
  rw [List.filter_eq_nil_iff.mpr]
  · rfl
  · intro y hy e
    exact h (List.mem_map.mpr ⟨y, hy, of_decide_eq_true e⟩)
theorem rws_cons (x : Pt) (r : List Pt) (k : List Nat) : rwsAt (x :: r) k = (if x.values = k then x.rows else 0) + rwsAt r k := by
  unfold rwsAt
  by_cases e : x.values = k
  · simp [e]
  · simp [e]
theorem val_dV : ∀ {l : List Pt} (k : List Nat), (vls l).Nodup → valV (dV l) (kk k) = if k ∈ vls l then some (V.int ((rwsAt l k : Nat) : Int)) else none
  | [], k, _ => by
    rw [if_neg (by simp [vls])]
    rfl
  | x :: r, k, nd => by
    have nd : (x.values :: vls r).Nodup := nd
    rw [List.nodup_cons] at nd
    by_cases e : x.values = k
    · have m : k ∈ vls (x :: r) := by
        rw [← e]
        exact List.mem_cons_self
      rw [if_pos m, rws_cons, if_pos e, rws_none (l := r) (by rw [← e]; exact nd.1)]
      exact valV_pos (p := (kk x.values, V.int ((x.rows : Nat) : Int))) (by rw [e])
    · have h1 : valV (dV (x :: r)) (kk k) = valV (dV r) (kk k) := valV_neg (p := (kk x.values, V.int ((x.rows : Nat) : Int))) (fun z => e (kk_inj z))
      rw [h1, val_dV k nd.2, rws_cons, if_neg e, Nat.zero_add]
      by_cases m : k ∈ vls r
      · have m2 : k ∈ vls (x :: r) := List.mem_cons_of_mem _ m
        rw [if_pos m, if_pos m2]
      · have m2 : k ∉ vls (x :: r) := fun z => by
          rcases List.mem_cons.mp (show k ∈ x.values :: vls r from z) with z | z
          · exact e z.symm
          · exact m z
        rw [if_neg m, if_neg m2]
theorem get_dV {l : List Pt} (k : List Nat) (nd : (vls l).Nodup) : (valV (dV l) (kk k)).getD (.int 0) = V.int ((rwsAt l k : Nat) : Int) := by
  rw [val_dV k nd]
  split
  · rfl
  · rename_i m
    rw [rws_none m]
    rfl
theorem map_dV {k : List Nat} {v : V} : ∀ {l : List Pt}, k ∉ vls l → (dV l).map (fun kv => if kv.1 = kk k then (kv.1, v) else kv) = dV l
  | [], _ => rfl
  | x :: r, h => by
    show (if kk x.values = kk k then _ else _) :: (dV r).map _ = (kk x.values, V.int ((x.rows : Nat) : Int)) :: dV r
    rw [if_neg (fun z => h (by rw [← kk_inj z]; exact List.mem_cons_self)), map_dV (fun z => h (List.mem_cons_of_mem _ z))]
theorem putmap_dV {p : Pt} : ∀ {l : List Pt}, (vls l).Nodup → p.values ∈ vls l → (dV l).map (fun kv => if kv.1 = kk p.values then (kv.1, V.int ((rwsAt l p.values + p.rows : Nat) : Int)) else kv) = dV (Vaidxa.putPart l p)
  | [], _, h => absurd h List.not_mem_nil
  | x :: r, nd, h => by
    have nd : (x.values :: vls r).Nodup := nd
    rw [List.nodup_cons] at nd
    by_cases e : x.values = p.values
    · rw [put_hit e, rws_cons, if_pos e, rws_none (l := r) (by rw [← e]; exact nd.1)]
      show (if kk x.values = kk p.values then _ else _) :: (dV r).map _ = (kk x.values, V.int ((x.rows + p.rows : Nat) : Int)) :: dV r
      rw [if_pos (by rw [e]), map_dV (by rw [← e]; exact nd.1)]
      rfl
    · rw [put_miss e, rws_cons, if_neg e, Nat.zero_add]
      show (if kk x.values = kk p.values then _ else _) :: (dV r).map _ = (kk x.values, V.int ((x.rows : Nat) : Int)) :: dV (Vaidxa.putPart r p)
      have m : p.values ∈ vls r := by
        rcases List.mem_cons.mp (show p.values ∈ x.values :: vls r from h) with z | z
        · exact absurd z.symm e
        · exact z
      rw [if_neg (fun z => e (kk_inj z)), putmap_dV nd.2 m]
theorem put_dV {l : List Pt} {p : Pt} (nd : (vls l).Nodup) : putK (dV l) (kk p.values) (V.int ((rwsAt l p.values + p.rows : Nat) : Int)) = dV (Vaidxa.putPart l p) := by
  by_cases m : p.values ∈ vls l
  · unfold putK
    have a : ((dV l).any fun kv => decide (kv.1 = kk p.values)) = true := by
      rw [valV_any, val_dV _ nd, if_pos m]
      rfl
    rw [if_pos a, putmap_dV nd m]
  · rw [putK_new _ (by rw [val_dV _ nd, if_neg m]), rws_none m, Nat.zero_add]
    have e : Vaidxa.putPart l p = l ++ [p] := by
      clear nd
      induction l with
      | nil => rfl
      | cons x r ih =>
        rw [put_miss (fun z => m (by rw [← z]; exact List.mem_cons_self)), ih (fun z => m (List.mem_cons_of_mem _ z))]
        rfl
    rw [e]
    unfold dV
    rw [List.map_append]
    rfl
theorem tog_snoc (L : List Pt) (p : Pt) : Vaidxa.together (L ++ [p]) = Vaidxa.putPart (Vaidxa.together L) p := by
  unfold Vaidxa.together
  rw [List.foldl_append]
  rfl
theorem perm_lift {α β : Type} {f : α → β} {l m : List β} (h : l.Perm m) : ∀ n : List α, m = n.map f → ∃ k : List α, k.Perm n ∧ l = k.map f := by
  induction h with
  | nil =>
    intro n e
    cases n with
    | nil => exact ⟨[], List.Perm.refl _, rfl⟩
    | cons a n => simp at e
  | cons x h ih =>
    intro n e
    cases n with
    | nil => simp at e
    | cons a n =>
      rw [List.map_cons] at e
      injection e with e1 e2
      obtain ⟨k, hk, ek⟩ := ih n e2
      exact ⟨a :: k, hk.cons a, by rw [List.map_cons, ← ek, e1]⟩
  | swap x y l =>
    intro n e
    match n, e with
    | [], e => simp at e
    | [a], e => simp at e
    | a :: b :: n, e =>
      rw [List.map_cons, List.map_cons] at e
      injection e with e1 e2
      injection e2 with e2 e3
      exact ⟨b :: a :: n, List.Perm.swap a b n, by rw [List.map_cons, List.map_cons, ← e1, ← e2, ← e3]⟩
  | trans h1 h2 ih1 ih2 =>
    intro n e
    obtain ⟨k2, p2, e2⟩ := ih2 n e
    obtain ⟨k1, p1, e1⟩ := ih1 k2 e2
    exact ⟨k1, p1.trans p2, e1⟩
/-! ### parts in the heap -/
def PartAt (K : PySem.W.Frag) (H : Hp) (a : Addr) (p : Pt) : Prop := ∃ dx ca : Addr, H a = some (.ins (He.ga K "Part") dx (F_Part (.ref ca) (.int (p.rows : Nat)))) ∧ H ca = some (.tup (nV p.values))
def PartsAt (K : PySem.W.Frag) (H : Hp) (a : Addr) (ps : List Pt) : Prop := ∃ as : List Addr, H a = some (.lst (as.map V.ref)) ∧ Each (PartAt K H) as ps
def RetP (K : PySem.W.Frag) (H : Hp) (Q : VK) (l : List Pt) : Prop := ∀ (p : Addr) (H' : Hp), PartsAt K H' p l → Same H H' → H p = none → Q (.ref p) H'
def answerG (gs : List VaidxBase.Group) (q : VaidxBase.Question) : List Pt := if q.limit = 0 then partsG gs q else upTo q.limit (partsG gs q)
def sp_found_by_cells (K : PySem.W.Frag) : Sp := fun vs H Q _ => ∃ (a b : Addr) (gs : List VaidxBase.Group) (y : NQ) (n : Nat), vs = [.ref a, .ref b] ∧ GroupsAt K H a gs ∧ QuestionAt K H b y ∧ QOk n y.2 ∧ n ≤ 4 ∧ GsOk n gs ∧
  ∀ (d : Addr) (H' : Hp), H' d = some (.dT (dV (foundD gs y.2))) → Same H H' → H d = none → Q (.ref d) H'
def sp_ordered_parts (K : PySem.W.Frag) : Sp := fun vs H Q _ => ∃ (a b : Addr) (gs : List VaidxBase.Group) (y : NQ) (n : Nat), vs = [.ref a, .ref b] ∧ GroupsAt K H a gs ∧ QuestionAt K H b y ∧ QOk n y.2 ∧ n ≤ 4 ∧ GsOk n gs ∧ RetP K H Q (partsG gs y.2)
def sp_up_to_limit (K : PySem.W.Frag) : Sp := fun vs H Q _ => ∃ (a : Addr) (ps : List Pt) (m : Nat), vs = [.ref a, .int (m : Nat)] ∧ PartsAt K H a ps ∧ ps.length ≤ 12 ∧ RetP K H Q (upTo m ps)
def sp_answered_parts (K : PySem.W.Frag) : Sp := fun vs H Q _ => ∃ (a b : Addr) (gs : List VaidxBase.Group) (y : NQ) (n : Nat), vs = [.ref a, .ref b] ∧ GroupsAt K H a gs ∧ QuestionAt K H b y ∧ QOk n y.2 ∧ n ≤ 4 ∧ GsOk n gs ∧ RetP K H Q (answerG gs y.2)
abbrev N_found_by_cells : List Str := ["groups", "question", "rows_by_cells", "group", "cells", "column"]
def t_found_by_cells (K : PySem.W.Frag) (E : XK) : TS :=
  (tSeq (tAsg tDNewT (gName 2))
    (tSeq (tFor (iList K (tVar 0)) (gName 3) (tIfS (tB (tCall (sp_passes_all K) [] E0 (tCons (tVar 3) (tCons (tFld K (tVar 1) "filters") tNil)))) (tSeq (tAsg (tCB (rTupOf_ K) (tCons (tLc (iList K (tFld K (tVar 1) "order")) (gName 5) tYes (tOp (rIxL K) (tFld K (tVar 3) "cells") (tVar 5)) [5]) tNil)) (gName 4))
    (sDPut (tVar 2) (tVar 4) (tOp rAdd_ (tDGet2 (tVar 2) (tVar 4) (tC (.int 0))) (tFld K (tVar 3) "rows")))) tNext))
    (tRet (tVar 2))))
abbrev N_ordered_parts : List Str := ["groups", "question", "rows_by_cells", "ordered", "cells"]
def t_ordered_parts (K : PySem.W.Frag) (E : XK) : TS :=
  (tSeq (tAsg (tCall (sp_found_by_cells K) [] E0 (tCons (tVar 0) (tCons (tVar 1) tNil))) (gName 2))
    (tSeq (tAsg (tCB (rSortX K) (tCons (tCB rKeysT (tCons (tVar 2) tNil)) tNil)) (gName 3))
    (tSeq (tIfS (tB (tFld K (tVar 1) "backwards")) (tAsg (tListRev K (tVar 3)) (gName 3)) tNext)
    (tRet (tLc (iList K (tVar 3)) (gName 4) tYes (tMake (He.ga K "Part") (sp_Part_init K) [] E0 (tCons (tVar 4) (tCons (tDGet (tVar 2) (tVar 4)) tNil))) [4])))))
abbrev N_up_to_limit : List Str := ["parts", "limit", "answered", "missing", "part", "rows"]
def t_up_to_limit (K : PySem.W.Frag) (E : XK) : TS :=
  (tSeq (tAsg (tLst tNil) (gName 2))
    (tSeq (tAsg (tVar 1) (gName 3))
    (tSeq (tFor (iList K (tVar 0)) (gName 4) (tSeq (tIfS (tTest (tOp rEq (tVar 3) (tC (.int 0)))) tBreak tNext)
    (tSeq (tAsg (tCB rMin2_ (tCons (tFld K (tVar 4) "rows") (tCons (tVar 3) tNil))) (gName 5))
    (tSeq (tDrop (tBM K "list" rAppend (tVar 2) (tCons (tMake (He.ga K "Part") (sp_Part_init K) [] E0 (tCons (tFld K (tVar 4) "cells") (tCons (tVar 5) tNil))) tNil)))
    (tAug 3 (tVar 5) (ipI fun i j => i - j))))))
    (tRet (tVar 2)))))
abbrev N_answered_parts : List Str := ["groups", "question", "parts"]
def t_answered_parts (K : PySem.W.Frag) (E : XK) : TS :=
  (tSeq (tAsg (tCall (sp_ordered_parts K) [] E0 (tCons (tVar 0) (tCons (tVar 1) tNil))) (gName 2))
    (tSeq (tIfS (tTest (tOp rEq (tFld K (tVar 1) "limit") (tC (.int 0)))) (tRet (tVar 2)) tNext)
    (tRet (tCall (sp_up_to_limit K) [] E0 (tCons (tVar 2) (tCons (tFld K (tVar 1) "limit") tNil))))))
section
variable {K : PySem.W.Frag} {mg : Str → Option Value}
theorem partAt_same {H H' : Hp} {a : Addr} {p : Pt} (h : PartAt K H a p) (s : Same H H') : PartAt K H' a p := by
  obtain ⟨dx, ca, h1, h2⟩ := h
  exact ⟨dx, ca, s _ _ h1, s _ _ h2⟩
theorem partsAt_same {H H' : Hp} {a : Addr} {ps : List Pt} (h : PartsAt K H a ps) (s : Same H H') : PartsAt K H' a ps := by
  obtain ⟨as, h1, h2⟩ := h
  exact ⟨as, s _ _ h1, h2.mono fun _ _ z => partAt_same z s⟩
theorem partAt_updl {H : Hp} {a p : Addr} {x : Pt} {xs ys : List V} (h : PartAt K H a x) (hl : H p = some (.lst xs)) : PartAt K (upd H p (.lst ys)) a x := by
  obtain ⟨dx, ca, h1, h2⟩ := h
  refine ⟨dx, ca, ?_, ?_⟩
  · rw [upd_ne (ne_of h1 hl (by intro z; cases z))]
    exact h1
  · rw [upd_ne (ne_of h2 hl (by intro z; cases z))]
    exact h2
theorem len_found_by_cells {vs : List V} {H : Hp} {Q : VK} {E : XK} (h : sp_found_by_cells K vs H Q E) : vs.length = 2 := by
  obtain ⟨_, _, _, _, _, rfl, _⟩ := h
  rfl
theorem len_ordered_parts {vs : List V} {H : Hp} {Q : VK} {E : XK} (h : sp_ordered_parts K vs H Q E) : vs.length = 2 := by
  obtain ⟨_, _, _, _, _, rfl, _⟩ := h
  rfl
theorem len_up_to_limit {vs : List V} {H : Hp} {Q : VK} {E : XK} (h : sp_up_to_limit K vs H Q E) : vs.length = 2 := by
  obtain ⟨_, _, _, rfl, _⟩ := h
  rfl
theorem len_answered_parts {vs : List V} {H : Hp} {Q : VK} {E : XK} (h : sp_answered_parts K vs H Q E) : vs.length = 2 := by
  obtain ⟨_, _, _, _, _, rfl, _⟩ := h
  rfl
theorem found_take {gs : List VaidxBase.Group} {q : VaidxBase.Question} {i : Nat} {g : VaidxBase.Group} (h : gs[i]? = some g) : foundG (gs.take (i + 1)) q = foundG (gs.take i) q ++ if q.filters.all (VaidxBase.passes g.row) then [g] else [] := by
  unfold foundG
  rw [take_more h, List.filter_append]
  congr 1
  cases e : q.filters.all (VaidxBase.passes g.row) with
  | true =>
    rw [if_pos rfl]
    simp [List.filter, e]
  | false =>
    rw [if_neg Bool.false_ne_true]
    simp [List.filter, e]
theorem found_len (gs : List VaidxBase.Group) (q : VaidxBase.Question) : (foundD gs q).length ≤ gs.length := by
  refine Nat.le_trans (tg_len (tg _)) ?_
  rw [List.length_map]
  exact List.length_filter_le _ _
theorem pure_found_by_cells (T : Txt K mg) (vs : List V) (H : Hp) (Q : VK) (E : XK) (h : sp_found_by_cells K vs H Q E) : t_found_by_cells K E { nx := fun _ H' => Q .non H', rt := Q } (start N_found_by_cells vs) H := by
  obtain ⟨a, b, gs, ⟨u, q⟩, n, rfl, ⟨as, hA, hE⟩, ⟨qx, fl, rl, wl, hB, hF, hO, hW⟩, hq, hn, hgs, k⟩ := h
  simp only at hF hO hq k
  intro d nd
  have s0 : Same H (upd H d (.dT [])) := same_new (Same.refl H) nd
  refine ⟨_, rfl, a, rfl, ⟨_, SqL.of (s0 _ _ hA)⟩, ?_⟩
  refine for_list (K := K) (a := a) (xs := as.map V.ref) (fun i σ H' => Same H H' ∧ H' d = some (.dT (dV (foundD (gs.take i) q))) ∧ ∃ v w z : Option V, σ = [some (.ref a), some (.ref b), some (.ref d), v, w, z])
    ⟨s0, upd_same, none, none, none, rfl⟩ (fun i σ H' _ ⟨s, _⟩ => SqL.of (s _ _ hA)) ?_ ?_
  · rintro i x σ H1 hx ⟨s1, hd1, v, w, z, rfl⟩
    obtain ⟨ga, g, rfl, hga, hgi, hG⟩ := each_at hE hx
    have hgo := hgs.ok g (List.mem_of_getElem? hgi)
    refine ⟨_, rfl, _, rfl, b, _, qx, _, _, rfl, s1 _ _ hB, cl_Question T, n_Question_filters T, l_Question_filters, ga, fl, g, q.filters, n, rfl, groupAt_same hG s1, filtersAt_same hF s1, hq.fs, hn, hgo.len, fun H2 s2 => ⟨_, rfl, ?_⟩⟩
    have s02 := s1.trans s2
    have hft := found_take (q := q) hgi
    cases c : q.filters.all (VaidxBase.passes g.row) with
    | false =>
      rw [c, if_neg Bool.false_ne_true, List.append_nil] at hft
      refine if_false_of rfl ⟨s02, ?_, _, _, _, rfl⟩
      have : foundD (gs.take (i + 1)) q = foundD (gs.take i) q := by
        unfold foundD
        rw [hft]
      rw [this]
      exact s2 _ _ hd1
    | true =>
      rw [c, if_pos rfl] at hft
      obtain ⟨gdx, cl, hGo, hC⟩ := hG
      refine if_true_of rfl ⟨_, rfl, b, _, qx, _, _, rfl, s02 _ _ hB, cl_Question T, n_Question_order T, l_Question_order, rl, rfl, ⟨_, SqL.of (s02 _ _ hO)⟩, fun D nD => ?_⟩
      refine lc_ys (K := K) (xs := q.order.map fun n => V.int ((n : Nat) : Int)) (nV (keyG q.order g)) (by unfold nV keyG; rw [List.length_map, List.length_map, List.length_map]) nD (SqL.of (s02 _ _ hO)) (by rw [List.length_map]; have := hq.order.len; omega) (fun j x y hx hy H' hs Qe hQe => ?_) (fun H3 hd3 s3 => ?_)
      · obtain ⟨c', hcj, rfl⟩ := nat_at hx
        unfold nV keyG at hy
        rw [List.getElem?_map, List.getElem?_map, hcj] at hy
        injection hy with hy
        subst hy
        have hc : c' < g.row.length := by
          rw [hgo.len]
          exact hq.order.lt c' (List.mem_of_getElem? hcj)
        exact ⟨_, rfl, ga, _, gdx, _, _, rfl, hs _ _ (s02 _ _ hGo), cl_Group T, n_Group_cells T, l_Group_cells, _, rfl, cl, _, _, _, rfl, rfl, SqL.of (hs _ _ (s02 _ _ hC)), row_at hc, hQe H' (Same.refl H')⟩
      · have s03 := s02.trans s3
        refine ⟨D, _, rfl, .inl ⟨SqL.of hd3, fun t nt => ?_⟩⟩
        have s4 : Same H3 (upd H3 t (.tup (nV (keyG q.order g)))) := same_new (Same.refl H3) nt
        have s04 := s03.trans s4
        have hd4 := s4 _ _ (s3 _ _ (s2 _ _ hd1))
        have ht4 : upd H3 t (.tup (nV (keyG q.order g))) t = some (.tup ((kk (keyG q.order g)).map kV)) := by
          rw [upd_same, kk_V]
        have tn : (vls (foundD (gs.take i) q)).Nodup := (tg _).nd
        refine ⟨_, rfl, d, rfl, .inr ⟨_, .inl hd4⟩, _, rfl, _, DGet.t hd4 ht4, _, rfl, ga, _, gdx, _, _, rfl, s04 _ _ hGo, cl_Group T, n_Group_rows T, l_Group_rows, _, _, get_dV _ tn, rfl, _, rfl, _, rfl, d, _, rfl, DPut.t hd4 ht4 ?_, ?_⟩
        · unfold dV
          rw [List.length_map]
          have h1 := found_len (gs.take i) q
          rw [List.length_take] at h1
          have h2 := hgs.len
          exact size_ok (by omega)
        · refine ⟨same_upd nd s04, ?_, _, _, _, rfl⟩
          rw [upd_same]
          have e : foundD (gs.take (i + 1)) q = Vaidxa.putPart (foundD (gs.take i) q) (ptG q g) := by
            unfold foundD
            rw [hft, List.map_append]
            exact tog_snoc _ _
          rw [e, ← put_dV (p := ptG q g) tn]
          rfl
  · rintro σ H1 ⟨s1, hd1, v, w, z, rfl⟩
    rw [List.length_map, hE.1, List.take_length] at hd1
    exact ⟨_, rfl, k d H1 hd1 s1 nd⟩
theorem pure_up_to_limit (T : Txt K mg) (vs : List V) (H : Hp) (Q : VK) (E : XK) (h : sp_up_to_limit K vs H Q E) : t_up_to_limit K E { nx := fun _ H' => Q .non H', rt := Q } (start N_up_to_limit vs) H := by
  obtain ⟨a, ps, m, rfl, ⟨as, hA, hE⟩, hl, k⟩ := h
  refine ⟨(by show 0 ≤ sizeLine; decide), fun p np => ?_⟩
  have s0 : Same H (upd H p (.lst [])) := same_new (Same.refl H) np
  refine ⟨_, rfl, _, rfl, a, rfl, ⟨_, SqL.of (s0 _ _ hA)⟩, ?_⟩
  have fin : ∀ (σ : L2.St) (H1 : Hp), (Same H H1 ∧ ∃ (done : List Pt) (bs : List Addr), σ[2]? = some (some (.ref p)) ∧ H1 p = some (.lst (bs.map V.ref)) ∧ Each (PartAt K H1) bs done ∧ upTo m ps = done) → tRet (tVar 2) { nx := fun _ H' => Q .non H', rt := Q } σ H1 := by
    rintro σ H1 ⟨s1, done, bs, h2, hp1, hEd, e⟩
    exact ⟨_, h2, k p H1 ⟨bs, hp1, by rw [e]; exact hEd⟩ s1 np⟩
  refine for_list (K := K) (a := a) (xs := as.map V.ref) (fun i σ H' => Same H H' ∧ ∃ (done : List Pt) (bs : List Addr) (mi : Nat) (v w : Option V), σ = [some (.ref a), some (.int (m : Nat)), some (.ref p), some (.int (mi : Nat)), v, w] ∧ H' p = some (.lst (bs.map V.ref)) ∧ Each (PartAt K H') bs done ∧ done.length ≤ i ∧ upTo m ps = done ++ upTo mi (ps.drop i))
    ⟨s0, [], [], m, none, none, rfl, upd_same, Each.nil, Nat.zero_le _, rfl⟩ (fun i σ H' _ ⟨s, _⟩ => SqL.of (s _ _ hA)) ?_ ?_
  · rintro i x σ H1 hx ⟨s1, done, bs, mi, v, w, rfl, hp1, hEd, hdl, hu⟩
    obtain ⟨ra, r, rfl, hra, hri, ⟨rdx, rca, hR, hC⟩⟩ := each_at hE hx
    have hi : i < ps.length := (List.getElem?_eq_some_iff.mp hri).1
    have hdr : ps.drop i = r :: ps.drop (i + 1) := by
      rw [List.drop_eq_getElem_cons hi]
      congr 1
      rw [List.getElem?_eq_getElem hi] at hri
      exact Option.some.inj hri
    rw [hdr] at hu
    have hu : upTo m ps = done ++ (if mi = 0 then [] else ⟨r.values, if mi < r.rows then mi else r.rows⟩ :: upTo (mi - (if mi < r.rows then mi else r.rows)) (ps.drop (i + 1))) := hu
    refine ⟨_, rfl, rfl, _, rfl, ?_⟩
    by_cases z : mi = 0
    · rw [if_pos z, List.append_nil] at hu
      exact if_true_of (decide_eq_true (by rw [z]; rfl)) (fin _ H1 ⟨s1, done, bs, rfl, hp1, hEd, hu⟩)
    · rw [if_neg z] at hu
      refine if_false_of (decide_eq_false (fun e => z (by injection e with e; omega))) ?_
      refine ⟨_, rfl, ra, _, rdx, _, _, rfl, s1 _ _ hR, cl_Part T, n_Part_rows T, l_Part_rows, _, rfl, _, _, rfl, ?_⟩
      have em : (if ((mi : Nat) : Int) < ((r.rows : Nat) : Int) then ((mi : Nat) : Int) else ((r.rows : Nat) : Int)) = (((if mi < r.rows then mi else r.rows) : Nat) : Int) := by
        by_cases c : mi < r.rows
        · rw [if_pos (by omega), if_pos c]
        · rw [if_neg (by omega), if_neg c]
      rw [em]
      generalize hmr : (if mi < r.rows then mi else r.rows) = mr at hu
      have hmr2 : mr ≤ mi := by
        rw [← hmr]
        split <;> omega
      refine ⟨_, rfl, .inl ⟨rfl, _, SqL.of hp1⟩, _, rfl, ra, _, rdx, _, _, rfl, s1 _ _ hR, cl_Part T, n_Part_cells T, l_Part_cells, _, rfl, fun c dx nc ndx ne => ⟨c, dx, _, _, rfl, upd_same, fun H2 h2 k2 => ⟨rfl, ?_⟩⟩⟩
      have s12 := Same.made nc ndx k2
      have s02 := s1.trans s12
      have hp2 := s12 _ _ hp1
      refine ⟨p, _, _, rfl, rfl, hp2, ?_, ?_⟩
      · rw [List.length_map, hEd.1]
        exact size_ok (by omega)
      · refine ⟨_, rfl, _, rfl, _, _, rfl, rfl, same_upd np s02, done ++ [⟨r.values, mr⟩], bs ++ [c], mi - mr, some (.ref ra), some (.int (mr : Nat)), ?_, ?_, ?_, ?_, ?_⟩
        · show [some (V.ref a), some (V.int (m : Nat)), some (V.ref p), some (V.int (((mi : Nat) : Int) - ((mr : Nat) : Int))), some (V.ref ra), some (V.int (mr : Nat))] = [some (V.ref a), some (V.int (m : Nat)), some (V.ref p), some (V.int ((mi - mr : Nat) : Int)), some (V.ref ra), some (V.int (mr : Nat))]
          rw [show ((mi : Nat) : Int) - ((mr : Nat) : Int) = ((mi - mr : Nat) : Int) by omega]
        · rw [upd_same, List.map_append]
          rfl
        · exact Each.push (hEd.mono fun fa f hF => partAt_updl (partAt_same hF s12) hp2) (partAt_updl ⟨dx, rca, h2, s02 _ _ hC⟩ hp2)
        · rw [len_snoc]
          omega
        · rw [hu, List.append_assoc]
          rfl
  · rintro σ H1 ⟨s1, done, bs, mi, v, w, rfl, hp1, hEd, hdl, hu⟩
    rw [List.length_map, hE.1, List.drop_length] at hu
    have : upTo mi [] = [] := by
      unfold upTo
      rfl
    rw [this, List.append_nil] at hu
    exact fin _ H1 ⟨s1, done, bs, rfl, hp1, hEd, hu⟩
theorem pure_answered_parts (T : Txt K mg) (vs : List V) (H : Hp) (Q : VK) (E : XK) (h : sp_answered_parts K vs H Q E) : t_answered_parts K E { nx := fun _ H' => Q .non H', rt := Q } (start N_answered_parts vs) H := by
  obtain ⟨a, b, gs, y, n, rfl, hG, hQ, hq, hn, hgs, k⟩ := h
  refine ⟨_, rfl, _, rfl, a, b, gs, y, n, rfl, hG, hQ, hq, hn, hgs, fun p H1 hp s1 np => ?_⟩
  have hQ1 := hQ
  obtain ⟨qx, fl, rl, wl, hB, _⟩ := hQ1
  refine ⟨_, rfl, b, _, qx, _, _, rfl, s1 _ _ hB, cl_Question T, n_Question_limit T, l_Question_limit, rfl, _, rfl, ?_⟩
  unfold answerG at k
  by_cases z : y.2.limit = 0
  · rw [if_pos z] at k
    exact if_true_of (decide_eq_true (by rw [z]; rfl)) ⟨_, rfl, k p H1 hp s1 np⟩
  · rw [if_neg z] at k
    refine if_false_of (decide_eq_false (fun e => z (by injection e with e; omega))) ?_
    refine ⟨_, rfl, _, rfl, b, _, qx, _, _, rfl, s1 _ _ hB, cl_Question T, n_Question_limit T, l_Question_limit, p, partsG gs y.2, y.2.limit, rfl, hp, ?_, fun p2 H2 hp2 s2 np2 => k p2 H2 hp2 (s1.trans s2) (s1.free np2)⟩
    obtain ⟨t1, _⟩ := sorted_ok y.2.order (foundG gs y.2) [] (found_ok hgs y.2) (fun x hx => absurd hx List.not_mem_nil) List.Pairwise.nil
    have h1 := tg_len (tg ((if y.2.back then (VaidxBase.sortedBy y.2.order (foundG gs y.2)).reverse else VaidxBase.sortedBy y.2.order (foundG gs y.2)).map (ptG y.2)))
    have h2 : (VaidxBase.sortedBy y.2.order (foundG gs y.2)).length ≤ 12 := by
      have e := t1.length_eq
      rw [List.nil_append] at e
      unfold VaidxBase.sortedBy
      rw [e]
      exact Nat.le_trans (List.length_filter_le _ _) hgs.len
    unfold partsG
    refine Nat.le_trans h1 ?_
    rw [List.length_map]
    split
    · rw [List.length_reverse]
      exact h2
    · exact h2
end
end Ix
-- part IxPt2
set_option maxHeartbeats 4000000
namespace Ix
open PySem PySem.Spec PyProof.Rows L2
/-! ### parts in the order -/
def unI : V → Int
  | .int i => i
  | _ => 0
def keyIn (H : Hp) : V → List Int
  | .ref b => (match H b with
    | some (.tup vs) => vs.map unI
    | _ => [])
  | _ => []
theorem keyIn_at {H : Hp} {b : Addr} {k : List Nat} (h : H b = some (.tup (nV k))) : keyIn H (.ref b) = kI k := by
  unfold keyIn
  simp only [h]
  unfold nV kI
  rw [List.map_map]
  rfl
theorem nV_kI (k : List Nat) : nV k = (kI k).map V.int := by
  unfold nV kI
  rw [List.map_map]
  rfl
theorem keys_zip {H : Hp} : ∀ {l : List Pt} {bs : List Addr}, IsKeys H (dV l) bs → ∃ zs : List (Addr × Pt), zs.map (·.1) = bs ∧ zs.map (·.2) = l ∧ ∀ z ∈ zs, H z.1 = some (.tup (nV z.2.values))
  | [], bs, h => by
    have h : Paired _ [] bs := h
    cases h
    exact ⟨[], rfl, rfl, fun z hz => absurd hz List.not_mem_nil⟩
  | p :: l, bs, h => by
    have h : Paired _ ((kk p.values, V.int ((p.rows : Nat) : Int)) :: dV l) bs := h
    cases h with
    | cons h1 h2 =>
      rename_i b bs
      obtain ⟨zs, e1, e2, e3⟩ := keys_zip (l := l) (bs := bs) h2
      refine ⟨(b, p) :: zs, by rw [List.map_cons, e1], by rw [List.map_cons, e2], fun z hz => ?_⟩
      rcases List.mem_cons.mp hz with e | hz
      · rw [e]
        have h1 : H b = some (.tup ((kk p.values).map kV)) := h1
        rw [kk_V] at h1
        exact h1
      · exact e3 z hz
section
variable {K : PySem.W.Frag} {mg : Str → Option Value}
theorem pure_ordered_parts (T : Txt K mg) (vs : List V) (H : Hp) (Q : VK) (E : XK) (h : sp_ordered_parts K vs H Q E) : t_ordered_parts K E { nx := fun _ H' => Q .non H', rt := Q } (start N_ordered_parts vs) H := by
  obtain ⟨a, b, gs, y, n, rfl, hG, hQ, hq, hn, hgs, k⟩ := h
  refine ⟨_, rfl, _, rfl, a, b, gs, y, n, rfl, hG, hQ, hq, hn, hgs, fun d H1 hd s1 nd => ?_⟩
  have hQ1 := hQ
  obtain ⟨qx, fl, rl, wl, hB, _⟩ := hQ1
  have tD := tg ((foundG gs y.2).map (ptG y.2))
  refine ⟨_, rfl, d, _, rfl, .inl hd, fun o1 bs no1 hk => ?_⟩
  obtain ⟨zs, ez1, ez2, hz⟩ := keys_zip hk
  have s2 : Same H1 (upd H1 o1 (.lst (bs.map V.ref))) := same_new (Same.refl H1) no1
  have hmem : ∀ z ∈ zs, z.2 ∈ foundD gs y.2 := fun z hzm => by
    rw [← ez2]
    exact List.mem_map.mpr ⟨z, hzm, rfl⟩
  have hlen : zs.length ≤ 12 := by
    have h1 := found_len gs y.2
    rw [← ez2, List.length_map] at h1
    exact Nat.le_trans h1 hgs.len
  have erefs : bs.map V.ref = zs.map fun z => V.ref z.1 := by
    rw [← ez1, List.map_map]
    rfl
  refine ⟨o1, bs.map V.ref, keyIn H1, y.2.order.length, rfl, SqL.of upd_same, ?_, fun x hx => ?_, fun h0 => ?_, fun ys o2 hp hw no2 => ?_⟩
  · rw [erefs, List.length_map]
    omega
  · rw [erefs] at hx
    obtain ⟨z, hzm, rfl⟩ := List.mem_map.mp hx
    have kz := foundD_key hgs y.2 (hmem z hzm)
    have e := keyIn_at (hz z hzm)
    refine ⟨⟨z.1, rfl, ?_⟩, ?_, ?_⟩
    · rw [e, ← nV_kI]
      exact SqT.of (s2 _ _ (hz z hzm))
    · rw [e, kI_len]
      exact kz.1
    · rw [e]
      exact kz.2.bd
  · rw [erefs, List.length_map]
    have hv : ∀ v ∈ vls (foundD gs y.2), v = [] := fun v hv => by
      obtain ⟨p, hp, rfl⟩ := List.mem_map.mp hv
      have := (foundD_key hgs y.2 hp).1
      rw [h0] at this
      exact List.length_eq_zero_iff.mp this
    have nd1 := tD.nd
    have l1 : zs.length = (vls (foundD gs y.2)).length := by
      unfold vls
      rw [← ez2, List.length_map, List.length_map]
    rw [l1]
    have nd2 : (vls (foundD gs y.2)).Nodup := nd1
    generalize vls (foundD gs y.2) = l at hv nd2
    match l, hv, nd2 with
    | [], _, _ => exact Nat.zero_le _
    | [_], _, _ => exact Nat.le_refl _
    | u :: v :: r, hv, nd2 =>
      have h1 := hv u List.mem_cons_self
      have h2 := hv v (List.mem_cons_of_mem _ List.mem_cons_self)
      rw [h1, h2, List.nodup_cons] at nd2
      exact absurd List.mem_cons_self nd2.1
  · rw [erefs] at hp
    obtain ⟨ws, pw, ew⟩ := perm_lift hp zs rfl
    subst ew
    have hzw : ∀ z ∈ ws, H1 z.1 = some (.tup (nV z.2.values)) := fun z hzm => hz z (pw.mem_iff.mp hzm)
    have pD : (ws.map (·.2)).Perm (foundD gs y.2) := by
      rw [← ez2]
      exact pw.map _
    have srt : (ws.map (·.2)).Pairwise (fun x y => cd x.values ≤ cd y.values) := by
      rw [List.pairwise_map] at hw ⊢
      refine List.Pairwise.imp_of_mem (fun {z z'} hm hm' hc => ?_) hw
      rw [keyIn_at (hzw z hm), keyIn_at (hzw z' hm')] at hc
      exact hc
    have fin := parts_eq hgs y.2 pD srt
    have s3 : Same H1 (upd (upd H1 o1 (.lst (bs.map V.ref))) o2 (.lst (ws.map fun z => V.ref z.1))) := s2.trans (same_new (Same.refl _) no2)
    have lws : ws.length ≤ 12 := by
      rw [pw.length_eq]
      exact hlen
    have no2' : H1 o2 = none := s2.free no2
    have rest : ∀ (o : Addr) (us : List (Addr × Pt)) (H4 : Hp), Same H1 H4 → H4 o = some (.lst (us.map fun z => V.ref z.1)) → (∀ z ∈ us, H1 z.1 = some (.tup (nV z.2.values))) → us.map (·.2) = partsG gs y.2 → us.length ≤ 12 → (∀ z ∈ us, z.2 ∈ foundD gs y.2) →
        tRet (tLc (iList K (tVar 3)) (gName 4) tYes (tMake (He.ga K "Part") (sp_Part_init K) [] E0 (tCons (tVar 4) (tCons (tDGet (tVar 2) (tVar 4)) tNil))) [4]) { nx := fun _ H' => Q .non H', rt := Q } [some (.ref a), some (.ref b), some (.ref d), some (.ref o), none] H4 := by
      intro o us H4 s4 ho hu eu lu mu
      have hd4 := s4 _ _ hd
      refine ⟨_, rfl, o, rfl, ⟨_, SqL.of ho⟩, fun D nD => ?_⟩
      refine lc_list (K := K) (xs := us.map fun z => V.ref z.1) (fun j H' => Same H4 H' ∧ ∃ as : List Addr, H' D = some (.lst (as.map V.ref)) ∧ Each (PartAt K H') as ((partsG gs y.2).take j)) ⟨same_new (Same.refl H4) nD, [], upd_same, Each.nil⟩ (fun j H' _ p => SqL.of (p.1 _ _ ho)) ?_ ?_
      · rintro j x H5 hx ⟨s5, as, hD5, hE5⟩
        rw [List.getElem?_map] at hx
        obtain ⟨z, hzj, rfl⟩ := Option.map_eq_some_iff.mp hx
        have hzm : z ∈ us := List.mem_of_getElem? hzj
        refine ⟨wipe_one, ?_⟩
        dsimp only [tYes]
        rw [if_pos rfl]
        have hpj : (partsG gs y.2)[j]? = some z.2 := by
          rw [← eu, List.getElem?_map, hzj]
          rfl
        have hzt : H5 z.1 = some (.tup (nV z.2.values)) := s5 _ _ (s4 _ _ (hu z hzm))
        have hget : DGet H5 d (.ref z.1) (some (V.int ((z.2.rows : Nat) : Int))) := by
          have g := DGet.t (k := kk z.2.values) (s5 _ _ hd4) (by rw [kk_V]; exact hzt)
          have hv : z.2.values ∈ vls (foundD gs y.2) := List.mem_map.mpr ⟨z.2, mu z hzm, rfl⟩
          have e : valV (dV (foundD gs y.2)) (kk z.2.values) = some (V.int ((z.2.rows : Nat) : Int)) := by
            have nd1 : (vls (foundD gs y.2)).Nodup := tD.nd
            rw [val_dV _ nd1, if_pos hv, rws_of nd1 (mu z hzm)]
          rw [e] at g
          exact g
        refine ⟨_, rfl, _, rfl, _, rfl, d, _, rfl, hget, fun c dx nc ndx ne => ⟨c, dx, _, _, rfl, upd_same, fun H6 h6 k6 => ⟨rfl, ?_⟩⟩⟩
        have s56 := Same.made nc ndx k6
        have hD6 := s56 _ _ hD5
        refine ⟨_, hD6, ?_, same_new (s5.trans s56) nD, as ++ [c], ?_, ?_⟩
        · rw [List.length_map, hE5.1, List.length_take]
          have : (partsG gs y.2).length = us.length := by rw [← eu, List.length_map]
          exact size_ok (by omega)
        · rw [upd_same, List.map_append]
          rfl
        · rw [take_more hpj]
          exact Each.push (hE5.mono fun fa f hF => partAt_updl (partAt_same hF s56) hD6) (partAt_updl ⟨dx, z.1, h6, s56 _ _ hzt⟩ hD6)
      · rintro H5 ⟨s5, as, hD5, hE5⟩
        have e : (us.map fun z => V.ref z.1).length = (partsG gs y.2).length := by rw [← eu, List.length_map, List.length_map]
        rw [e, List.take_length] at hE5
        exact k D H5 ⟨as, hD5, hE5⟩ ((s1.trans s4).trans s5) (s1.free (s4.free nD))
    refine ⟨_, rfl, b, _, qx, _, _, rfl, s3 _ _ (s1 _ _ hB), cl_Question T, n_Question_backwards T, l_Question_backwards, _, rfl, ?_⟩
    cases hb : y.2.back with
    | true =>
      rw [hb, if_pos rfl] at fin
      refine if_true_of rfl ⟨_, rfl, o2, _, rfl, SqL.of upd_same, fun o3 no3 => ?_⟩
      refine rest o3 ws.reverse _ (s3.trans (same_new (Same.refl _) no3)) ?_ (fun z hzm => hzw z (List.mem_reverse.mp hzm)) ?_ (by rw [List.length_reverse]; exact lws) (fun z hzm => hmem z (pw.mem_iff.mp (List.mem_reverse.mp hzm)))
      · rw [upd_same, ← List.map_reverse]
      · rw [List.map_reverse]
        exact fin
    | false =>
      rw [hb, if_neg Bool.false_ne_true] at fin
      exact if_false_of rfl (rest o2 ws _ s3 upd_same hzw fin lws (fun z hzm => hmem z (pw.mem_iff.mp hzm)))
end
end Ix
-- part IxX
set_option maxHeartbeats 4000000
namespace Ix
open PySem PySem.Spec PyProof.Rows L2
/-! ### texts' pieces -/
abbrev Tx := List Nat
theorem lit_word (s : String) : Str.ofString s = sS (Vaidxa.word s) := Str.ofString_eq_toList s
theorem num_text (n : Nat) : Str.ofString (toString ((n : Nat) : Int)) = sS (Vaidxa.numText n) := by
  rw [lit_word]
  refine congrArg sS ?_
  show (toString ((n : Nat) : Int)).toList.map _ = (Nat.toDigits 10 n).map _
  have e : (toString ((n : Nat) : Int)).toList = Nat.toDigits 10 n := by
    show (String.ofList (Nat.toDigits 10 n)).toList = _
    simp
  rw [e]
theorem core_len : ∀ (f n k : Nat) (acc : List Char), 1 ≤ k → n < 10 ^ k → (Nat.toDigitsCore 10 f n acc).length ≤ k + acc.length
  | 0, n, k, acc, hk, hn => by
    unfold Nat.toDigitsCore
    omega
  | f + 1, n, k, acc, hk, hn => by
    unfold Nat.toDigitsCore
    dsimp only
    split
    · rw [List.length_cons]
      omega
    · rename_i h
      match k, hk, hn with
      | 1, _, hn =>
        exfalso
        have : n < 10 := hn
        omega
      | k + 2, _, hn =>
        have h1 := core_len f (n / 10) (k + 1) (Nat.digitChar (n % 10) :: acc) (by omega) (by
          rw [Nat.pow_succ] at hn
          omega)
        rw [List.length_cons] at h1
        omega
theorem numText_len {n : Nat} (h : n ≤ 1000000) : (Vaidxa.numText n).length ≤ 7 := by
  unfold Vaidxa.numText
  rw [List.length_map]
  have := core_len (n + 1) n 7 [] (by decide) (by omega)
  simpa [Nat.toDigits] using this
theorem log_ok {n : Nat} (h : n ≤ 1000000) : ((n : Int)).natAbs.log2 < 1920 := by
  rw [Int.natAbs_natCast]
  by_cases c : n = 0
  · subst c
    decide
  · rw [Nat.log2_lt c]
    exact Nat.lt_of_le_of_lt h (Nat.lt_of_lt_of_le (by decide : 1000000 < 2 ^ 20) (Nat.pow_le_pow_right (by decide) (by decide)))
theorem parted_cons (s x : Tx) : ∀ l : List Tx, Vaidxa.parted s (x :: l) = x ++ l.flatMap fun y => s ++ y
  | [] => by
    rw [← joinL_parted]
    simp [TL.joinL]
  | y :: l => by
    have ih := parted_cons s y l
    rw [← joinL_parted] at ih ⊢
    show x ++ (s ++ TL.joinL s (y :: l)) = _
    rw [ih, List.flatMap_cons, List.append_assoc]
theorem flatT_len {α : Type} {f : α → Tx} {n : Nat} : ∀ (l : List α), (∀ x ∈ l, (f x).length ≤ n) → (l.flatMap f).length ≤ l.length * n
  | [], _ => by simp
  | x :: l, h => by
    rw [List.flatMap_cons, List.length_append, List.length_cons, Nat.add_mul]
    have h1 := flatT_len l fun y hy => h y (List.mem_cons_of_mem _ hy)
    have h2 := h x List.mem_cons_self
    omega
theorem parted_len {s : Tx} {B : Nat} {l : List Tx} (h : ∀ x ∈ l, x.length ≤ B) : (Vaidxa.parted s l).length ≤ l.length * (s.length + B) := by
  cases l with
  | nil => exact Nat.zero_le _
  | cons x l =>
    rw [parted_cons, List.length_append, List.length_cons, Nat.add_mul]
    have h1 := h x List.mem_cons_self
    have h2 := flatT_len (f := fun y => s ++ y) (n := s.length + B) l fun y hy => by
      rw [List.length_append]
      have := h y (List.mem_cons_of_mem _ hy)
      omega
    omega
def StrsAt (H : Hp) (p : Addr) (ws : List Tx) : Prop := H p = some (.lst (ws.map fun w => V.str (sS w)))
theorem sum_lens {B : Nat} : ∀ (ws : List Tx), (∀ w ∈ ws, w.length ≤ B) → ((ws.map sS).map (·.length)).sum ≤ ws.length * B
  | [], _ => by simp
  | w :: ws, h => by
    rw [List.map_cons, List.map_cons, List.sum_cons, sS_length, List.length_cons, Nat.add_mul]
    have h1 := sum_lens ws fun y hy => h y (List.mem_cons_of_mem _ hy)
    have h2 := h w List.mem_cons_self
    omega
section
variable {K : PySem.W.Frag} {mg : Str → Option Value}
theorem join_step {H : Hp} {Q : VK} {p : Addr} {ws : List Tx} {s : String} {B : Nat} (hp : StrsAt H p ws) (hb : ∀ w ∈ ws, w.length ≤ B) (hn : ws.length * (B + (Vaidxa.word s).length) ≤ 16777216) (k : Q (.str (sS (Vaidxa.parted (Vaidxa.word s) ws))) H) : rJoin_ K (.str (Str.ofString s)) [.ref p] H Q := by
  refine ⟨Str.ofString s, p, ws.map sS, rfl, rfl, .inl (SqL.of ?_), ?_, ?_⟩
  · rw [List.map_map]
    exact hp
  · have h1 := sum_lens ws hb
    rw [lit_word, sS_length, List.length_map]
    rw [Nat.mul_add] at hn
    omega
  · rw [lit_word, join_sS]
    exact k
/-! f-strings -/
theorem js_lit {s : String} {l : Tx} {ts : List TE} {σ : L2.St} {H : Hp} {Q : Str → Hp → Prop} (hl : l.length + (Vaidxa.word s).length ≤ 1000000) (k : tJs ts (sS (l ++ Vaidxa.word s)) σ H Q) : tJs (tC (.str (Str.ofString s)) :: ts) (sS l) σ H Q := by
  refine ⟨Str.ofString s, rfl, ?_, ?_⟩
  · rw [lit_word, sS_append, sS_length, List.length_append]
    exact size_le hl
  · rw [lit_word, sS_append]
    exact k
theorem js_str {i : Nat} {l m : Tx} {ts : List TE} {σ : L2.St} {H : Hp} {Q : Str → Hp → Prop} (hi : σ[i]? = some (some (.str (sS m)))) (hl : l.length + m.length ≤ 1000000) (k : tJs ts (sS (l ++ m)) σ H Q) : tJs (tFmt (tVar i) :: ts) (sS l) σ H Q := by
  refine ⟨_, hi, .inl ⟨sS m, rfl, ?_, sS m, rfl, ?_, ?_⟩⟩
  · rw [sS_length]
    exact size_le (by omega)
  · rw [sS_append, sS_length, List.length_append]
    exact size_le hl
  · rw [sS_append]
    exact k
theorem js_int {i n : Nat} {l : Tx} {ts : List TE} {σ : L2.St} {H : Hp} {Q : Str → Hp → Prop} (hi : σ[i]? = some (some (.int (n : Nat)))) (hn : n ≤ 1000000) (hl : l.length ≤ 100000) (k : tJs ts (sS (l ++ Vaidxa.numText n)) σ H Q) : tJs (tFmt (tVar i) :: ts) (sS l) σ H Q := by
  have h7 := numText_len hn
  refine ⟨_, hi, .inr ⟨(n : Nat), rfl, log_ok hn, _, rfl, ?_, ?_⟩⟩
  · rw [num_text, sS_append, sS_length, List.length_append]
    exact size_le (by omega)
  · rw [num_text, sS_append]
    exact k
theorem str_int {n : Nat} {H : Hp} {Q : VK} (hn : n ≤ 1000000) (k : Q (.str (sS (Vaidxa.numText n))) H) : rStr_ [.int (n : Nat)] H Q := ⟨_, rfl, log_ok hn, by rw [num_text]; exact k⟩
end
/-! ### promises -/
def tableText (ns : List Tx) : Tx := Vaidxa.word "table (" ++ (Vaidxa.commas ns ++ Vaidxa.word ");\n")
def sp_table_line (K : PySem.W.Frag) : Sp := fun vs H Q _ => ∃ (a : Addr) (ns : List Tx), vs = [.ref a] ∧ StrsAt H a ns ∧ ns.length ≤ 4 ∧ (∀ w ∈ ns, NOk w) ∧ Q (.str (sS (tableText ns))) H
def sp_group_line (K : PySem.W.Frag) : Sp := fun vs H Q _ => ∃ (a : Addr) (g : VaidxBase.Group) (n : Nat), vs = [.ref a] ∧ GroupAt K H a g ∧ GOk n g ∧ n ≤ 4 ∧ ∀ H', Same H H' → Q (.str (sS (Vaidxa.rowText g))) H'
def sp_ended (K : PySem.W.Frag) : Sp := fun vs H Q _ => ∃ (a : Addr) (ps : List Tx), vs = [.ref a] ∧ StrsAt H a ps ∧ ps.length ≤ 20 ∧ (∀ w ∈ ps, w.length ≤ 1000) ∧ Q (.str (sS (Vaidxa.parted [32] ps ++ [59, 10]))) H
structure ColsOk (S : Vaidxa.Source) : Prop where
  c4 : S.cols.length ≤ 4
  cn : ∀ w ∈ S.cols, NOk w
def sp_column_words (K : PySem.W.Frag) : Sp := fun vs H Q _ => ∃ (a b : Addr) (l : List Nat) (S : Vaidxa.Source), vs = [.ref a, .ref b] ∧ IntsAt K H a l ∧ StrsAt H b S.cols ∧ ColsOk S ∧ COk S.cols.length l ∧ ∀ H', Same H H' → Q (.str (sS (Vaidxa.colsText S l))) H'
def sp_filter_words (K : PySem.W.Frag) : Sp := fun vs H Q _ => ∃ (a b : Addr) (f : VaidxBase.Filter) (S : Vaidxa.Source), vs = [.ref a, .ref b] ∧ FilterAt K H a f ∧ StrsAt H b S.cols ∧ ColsOk S ∧ FOk S.cols.length f ∧ Q (.str (sS (Vaidxa.filterText S f))) H
abbrev N_table_line : List Str := ["names", "columns"]
def t_table_line (K : PySem.W.Frag) (E : XK) : TS :=
  (tSeq (tAsg (tM1 (rJoin_ K) (tC (.str ", ")) (tVar 0)) (gName 1))
    (tRet (tJoined ((tC (.str "table (")) :: ((tFmt (tVar 1)) :: ((tC (.str ");\n")) :: []))))))
abbrev N_group_line : List Str := ["group", "cells", "rows", "cell"]
def t_group_line (K : PySem.W.Frag) (E : XK) : TS :=
  (tSeq (tAsg (tM1 (rJoin_ K) (tC (.str ", ")) (tLc (iList K (tFld K (tVar 0) "cells")) (gName 3) tYes (tCB rStr_ (tCons (tVar 3) tNil)) [3])) (gName 1))
    (tSeq (tAsg (tFld K (tVar 0) "rows") (gName 2))
    (tRet (tJoined ((tC (.str "row ")) :: ((tFmt (tVar 1)) :: ((tC (.str " times ")) :: ((tFmt (tVar 2)) :: ((tC (.str ";\n")) :: [])))))))))
abbrev N_ended : List Str := ["parts", "line"]
def t_ended (K : PySem.W.Frag) (E : XK) : TS :=
  (tSeq (tAsg (tM1 (rJoin_ K) (tC (.str " ")) (tVar 0)) (gName 1))
    (tRet (tJoined ((tFmt (tVar 1)) :: ((tC (.str ";\n")) :: [])))))
abbrev N_column_words : List Str := ["columns", "names", "column"]
def t_column_words (K : PySem.W.Frag) (E : XK) : TS :=
  (tRet (tM1 (rJoin_ K) (tC (.str ", ")) (tLc (iList K (tVar 0)) (gName 2) tYes (tOp (rIxL K) (tVar 1) (tVar 2)) [2])))
abbrev N_filter_words : List Str := ["sieve", "names", "name", "low", "high"]
def t_filter_words (K : PySem.W.Frag) (E : XK) : TS :=
  (tSeq (tAsg (tOp (rIxL K) (tVar 1) (tFld K (tVar 0) "column")) (gName 2))
    (tSeq (tAsg (tFld K (tVar 0) "low") (gName 3))
    (tSeq (tAsg (tFld K (tVar 0) "high") (gName 4))
    (tSeq (tIfS (tTest (tOp rEq (tVar 3) (tVar 4))) (tRet (tJoined ((tFmt (tVar 2)) :: ((tC (.str " = ")) :: ((tFmt (tVar 3)) :: []))))) tNext)
    (tRet (tJoined ((tFmt (tVar 2)) :: ((tC (.str " from ")) :: ((tFmt (tVar 3)) :: ((tC (.str " to ")) :: ((tFmt (tVar 4)) :: [])))))))))))
section
variable {K : PySem.W.Frag} {mg : Str → Option Value}
theorem colText_len {S : Vaidxa.Source} (h : ColsOk S) (c : Nat) : (Vaidxa.colText S c).length ≤ 7 := by
  unfold Vaidxa.colText
  cases e : S.cols[c]? with
  | none => exact Nat.zero_le _
  | some w => exact h.cn w (List.mem_of_getElem? e)
theorem word_comma : Vaidxa.word ", " = [44, 32] := by decide +kernel
theorem len_table_line {vs : List V} {H : Hp} {Q : VK} {E : XK} (h : sp_table_line K vs H Q E) : vs.length = 1 := by
  obtain ⟨_, _, rfl, _⟩ := h
  rfl
theorem commas_len {B : Nat} {l : List Tx} (h : ∀ x ∈ l, x.length ≤ B) : (Vaidxa.commas l).length ≤ l.length * (2 + B) := by
  have := parted_len (s := Vaidxa.word ", ") h
  rw [word_comma] at this
  unfold Vaidxa.commas
  rw [word_comma]
  exact this
theorem pure_table_line (T : Txt K mg) (vs : List V) (H : Hp) (Q : VK) (E : XK) (h : sp_table_line K vs H Q E) : t_table_line K E { nx := fun _ H' => Q .non H', rt := Q } (start N_table_line vs) H := by
  obtain ⟨a, ns, rfl, hA, hl, hn, k⟩ := h
  have hc : (Vaidxa.commas ns).length ≤ 36 := by
    have := commas_len (B := 7) hn
    omega
  refine ⟨⟨_, rfl⟩, _, rfl, join_step (s := ", ") (B := 7) hA hn (by rw [word_comma]; show _ * 9 ≤ _; omega) ?_⟩
  refine js_lit (s := "table (") (l := []) (by decide +kernel) (js_str (m := Vaidxa.commas ns) rfl ?_ (js_lit (s := ");\n") ?_ ?_))
  · rw [List.nil_append]
    have : (Vaidxa.word "table (").length = 7 := by decide +kernel
    omega
  · rw [List.nil_append, List.length_append]
    have : (Vaidxa.word "table (").length = 7 := by decide +kernel
    have : (Vaidxa.word ");\n").length = 3 := by decide +kernel
    omega
  · rw [List.nil_append, List.append_assoc]
    exact k
theorem len_group_line {vs : List V} {H : Hp} {Q : VK} {E : XK} (h : sp_group_line K vs H Q E) : vs.length = 1 := by
  obtain ⟨_, _, _, rfl, _⟩ := h
  rfl
theorem pure_group_line (T : Txt K mg) (vs : List V) (H : Hp) (Q : VK) (E : XK) (h : sp_group_line K vs H Q E) : t_group_line K E { nx := fun _ H' => Q .non H', rt := Q } (start N_group_line vs) H := by
  obtain ⟨a, g, n, rfl, ⟨gdx, cl, hG, hC⟩, hg, hn, k⟩ := h
  have hl := hg.len
  have hv : ∀ x ∈ g.row.map Vaidxa.numText, x.length ≤ 7 := fun x hx => by
    obtain ⟨v, hv, rfl⟩ := List.mem_map.mp hx
    have := hg.val v hv
    exact numText_len (by omega)
  have hc : (Vaidxa.commas (g.row.map Vaidxa.numText)).length ≤ 36 := by
    have := commas_len (B := 7) hv
    rw [List.length_map] at this
    omega
  refine ⟨⟨_, rfl⟩, _, rfl, a, _, gdx, _, _, rfl, hG, cl_Group T, n_Group_cells T, l_Group_cells, cl, rfl, ⟨_, SqL.of hC⟩, fun D nD => ?_⟩
  refine lc_ys (K := K) (xs := g.row.map fun n => V.int ((n : Nat) : Int)) ((g.row.map Vaidxa.numText).map fun w => V.str (sS w)) (by rw [List.length_map, List.length_map, List.length_map]) nD (SqL.of hC) (by rw [List.length_map]; omega) (fun j x y hx hy H' hs Qe hQe => ?_) (fun H3 hd3 hs => ?_)
  · rw [List.getElem?_map] at hx
    obtain ⟨v, hv, rfl⟩ := Option.map_eq_some_iff.mp hx
    rw [List.getElem?_map, List.getElem?_map, hv] at hy
    injection hy with hy
    subst hy
    have := hg.val v (List.mem_of_getElem? hv)
    exact ⟨_, rfl, str_int (by omega) (hQe H' (Same.refl H'))⟩
  · refine join_step (s := ", ") (B := 7) hd3 hv (by rw [word_comma, List.length_map]; show _ * 9 ≤ _; omega) ?_
    refine ⟨_, rfl, a, _, gdx, _, _, rfl, hs _ _ hG, cl_Group T, n_Group_rows T, l_Group_rows, ?_⟩
    have w1 : (Vaidxa.word "row ").length = 4 := by decide +kernel
    have w2 : (Vaidxa.word " times ").length = 7 := by decide +kernel
    have w3 : Vaidxa.word ";\n" = [59, 10] := by decide +kernel
    have hcn := numText_len hg.count
    refine js_lit (s := "row ") (l := []) (by decide +kernel) (js_str (m := Vaidxa.commas (g.row.map Vaidxa.numText)) rfl ?_ (js_lit (s := " times ") ?_ (js_int (n := g.count) rfl hg.count ?_ (js_lit (s := ";\n") ?_ ?_))))
    · rw [List.nil_append, w1]
      omega
    · rw [List.nil_append, List.length_append, w1, w2]
      omega
    · rw [List.nil_append, List.length_append, List.length_append, w1, w2]
      omega
    · rw [List.nil_append, List.length_append, List.length_append, List.length_append, w1, w2, w3]
      show _ + 2 ≤ _
      omega
    · rw [List.nil_append, w3]
      have := k H3 hs
      unfold Vaidxa.rowText at this
      simp only [List.append_assoc] at this ⊢
      exact this
theorem len_ended {vs : List V} {H : Hp} {Q : VK} {E : XK} (h : sp_ended K vs H Q E) : vs.length = 1 := by
  obtain ⟨_, _, rfl, _⟩ := h
  rfl
theorem pure_ended (T : Txt K mg) (vs : List V) (H : Hp) (Q : VK) (E : XK) (h : sp_ended K vs H Q E) : t_ended K E { nx := fun _ H' => Q .non H', rt := Q } (start N_ended vs) H := by
  obtain ⟨a, ps, rfl, hA, hl, hn, k⟩ := h
  have w1 : Vaidxa.word " " = [32] := by decide +kernel
  have w3 : Vaidxa.word ";\n" = [59, 10] := by decide +kernel
  have hc := parted_len (s := [32]) hn
  have hc : (Vaidxa.parted [32] ps).length ≤ 20020 := by
    refine Nat.le_trans hc ?_
    show _ * 1001 ≤ _
    omega
  refine ⟨⟨_, rfl⟩, _, rfl, join_step (s := " ") (B := 1000) hA hn (by rw [w1]; show _ * 1001 ≤ _; omega) ?_⟩
  rw [w1]
  refine js_str (m := Vaidxa.parted [32] ps) (l := []) rfl ?_ (js_lit (s := ";\n") ?_ ?_)
  · show 0 + _ ≤ _
    omega
  · rw [List.nil_append, w3]
    show _ + 2 ≤ _
    omega
  · rw [List.nil_append, w3]
    exact k
theorem len_column_words {vs : List V} {H : Hp} {Q : VK} {E : XK} (h : sp_column_words K vs H Q E) : vs.length = 2 := by
  obtain ⟨_, _, _, _, rfl, _⟩ := h
  rfl
theorem strs_at {H : Hp} {b : Addr} {S : Vaidxa.Source} (hB : StrsAt H b S.cols) {c : Nat} (hc : c < S.cols.length) : atI (S.cols.map fun w => V.str (sS w)) (c : Int) = some (V.str (sS (Vaidxa.colText S c))) := by
  refine atI_nat ?_
  unfold Vaidxa.colText
  rw [List.getElem?_map, List.getElem?_eq_getElem hc]
  rfl
theorem pure_column_words (T : Txt K mg) (vs : List V) (H : Hp) (Q : VK) (E : XK) (h : sp_column_words K vs H Q E) : t_column_words K E { nx := fun _ H' => Q .non H', rt := Q } (start N_column_words vs) H := by
  obtain ⟨a, b, l, S, rfl, hA, hB, hS, hl, k⟩ := h
  have h4 := hS.c4
  have hll := hl.len
  have hv : ∀ x ∈ l.map (Vaidxa.colText S), x.length ≤ 7 := fun x hx => by
    obtain ⟨v, hv, rfl⟩ := List.mem_map.mp hx
    exact colText_len hS v
  refine ⟨⟨_, rfl⟩, _, rfl, a, rfl, ⟨_, SqL.of hA⟩, fun D nD => ?_⟩
  refine lc_ys (K := K) (xs := l.map fun n => V.int ((n : Nat) : Int)) ((l.map (Vaidxa.colText S)).map fun w => V.str (sS w)) (by rw [List.length_map, List.length_map, List.length_map]) nD (SqL.of hA) (by rw [List.length_map]; omega) (fun j x y hx hy H' hs Qe hQe => ?_) (fun H3 hd3 hs => ?_)
  · rw [List.getElem?_map] at hx
    obtain ⟨v, hv, rfl⟩ := Option.map_eq_some_iff.mp hx
    rw [List.getElem?_map, List.getElem?_map, hv] at hy
    injection hy with hy
    subst hy
    exact ⟨_, rfl, _, rfl, b, _, _, _, rfl, rfl, SqL.of (hs _ _ hB), strs_at hB (hl.lt v (List.mem_of_getElem? hv)), hQe H' (Same.refl H')⟩
  · exact join_step (s := ", ") (B := 7) hd3 hv (by rw [word_comma, List.length_map]; show _ * 9 ≤ _; omega) (k H3 hs)
theorem len_filter_words {vs : List V} {H : Hp} {Q : VK} {E : XK} (h : sp_filter_words K vs H Q E) : vs.length = 2 := by
  obtain ⟨_, _, _, _, rfl, _⟩ := h
  rfl
theorem pure_filter_words (T : Txt K mg) (vs : List V) (H : Hp) (Q : VK) (E : XK) (h : sp_filter_words K vs H Q E) : t_filter_words K E { nx := fun _ H' => Q .non H', rt := Q } (start N_filter_words vs) H := by
  obtain ⟨a, b, f, S, rfl, ⟨fdx, hF⟩, hB, hS, hf, k⟩ := h
  have hc := colText_len hS f.col
  have h1 := hf.le
  have h2 := hf.hi
  have n1 := numText_len (n := f.lo) (by omega)
  have n2 := numText_len (n := f.hi) (by omega)
  refine ⟨_, rfl, _, rfl, a, _, fdx, _, _, rfl, hF, cl_Filter T, n_Filter_column T, l_Filter_column, b, _, _, _, rfl, rfl, SqL.of hB, strs_at hB hf.col, ?_⟩
  refine ⟨_, rfl, a, _, fdx, _, _, rfl, hF, cl_Filter T, n_Filter_low T, l_Filter_low, _, rfl, a, _, fdx, _, _, rfl, hF, cl_Filter T, n_Filter_high T, l_Filter_high, _, rfl, _, rfl, rfl, _, rfl, ?_⟩
  unfold Vaidxa.filterText VaidxBase.isEqual at k
  by_cases e : f.lo = f.hi
  · refine if_true_of (decide_eq_true (by rw [e])) ?_
    have w1 : (Vaidxa.word " = ").length = 3 := by decide +kernel
    refine js_str (l := []) (m := Vaidxa.colText S f.col) rfl (by show 0 + _ ≤ _; omega) (js_lit (s := " = ") (by rw [List.nil_append, w1]; omega) (js_int (n := f.lo) rfl (by omega) (by rw [List.nil_append, List.length_append, w1]; omega) ?_))
    rw [if_pos (by rw [e]; exact beq_self_eq_true _)] at k
    rw [List.nil_append, List.append_assoc]
    exact k
  · refine if_false_of (decide_eq_false (fun z => e (by injection z with z; omega))) ?_
    have w1 : (Vaidxa.word " from ").length = 6 := by decide +kernel
    have w2 : (Vaidxa.word " to ").length = 4 := by decide +kernel
    refine js_str (l := []) (m := Vaidxa.colText S f.col) rfl (by show 0 + _ ≤ _; omega) (js_lit (s := " from ") (by rw [List.nil_append, w1]; omega) (js_int (n := f.lo) rfl (by omega) (by rw [List.nil_append, List.length_append, w1]; omega) (js_lit (s := " to ") (by rw [List.nil_append, List.length_append, List.length_append, w1, w2]; omega) (js_int (n := f.hi) rfl (by omega) (by rw [List.nil_append, List.length_append, List.length_append, List.length_append, w1, w2]; omega) ?_))))
    rw [if_neg (by simpa using e)] at k
    rw [List.nil_append]
    simp only [List.append_assoc]
    exact k
end
end Ix
-- part IxX2
set_option maxHeartbeats 4000000
namespace Ix
open PySem PySem.Spec PyProof.Rows L2
/-! ### lines of the one form -/
def askParts (S : Vaidxa.Source) (w : Tx) (q : VaidxBase.Question) : List Tx := [Vaidxa.word "ask", w] ++ ((if !q.filters.isEmpty then [Vaidxa.word "where", Vaidxa.parted (Vaidxa.word " and ") (q.filters.map (Vaidxa.filterText S))] else []) ++
  ((if !q.order.isEmpty then [Vaidxa.word "by", Vaidxa.colsText S q.order] else []) ++ ((if q.back then [Vaidxa.word "back"] else []) ++ ((if !q.wants.isEmpty then [Vaidxa.word "wants", Vaidxa.colsText S q.wants] else []) ++
  ((if decide (0 < q.limit) then [Vaidxa.word "first", Vaidxa.numText q.limit] else []) ++ [Vaidxa.word "times", Vaidxa.numText q.times])))))
def indexParts (S : Vaidxa.Source) (w : Tx) (i : VaidxBase.Index) : List Tx := [Vaidxa.word "index", w, Vaidxa.word "on", Vaidxa.colsText S i.keys] ++ ((if !i.others.isEmpty then [Vaidxa.word "with", Vaidxa.colsText S i.others] else []) ++ (match i.only with
  | none => []
  | some f => [Vaidxa.word "only", Vaidxa.filterText S f]))
theorem flat_opt2 (b : Bool) (x y : Tx) : (if b then [x, y] else []).flatMap (fun z => [32] ++ z) = if b then [32] ++ x ++ ([32] ++ y) else [] := by
  cases b
  · rfl
  · simp
theorem askText_eq (S : Vaidxa.Source) (w : Tx) (q : VaidxBase.Question) (hb : q.back = true → q.order ≠ []) : Vaidxa.askText S w q = Vaidxa.parted [32] (askParts S w q) ++ [59, 10] := by
  have w1 : Vaidxa.word "ask " = Vaidxa.word "ask" ++ [32] := by decide +kernel
  have w2 : Vaidxa.word " where " = [32] ++ Vaidxa.word "where" ++ [32] := by decide +kernel
  have w3 : Vaidxa.word " by " = [32] ++ Vaidxa.word "by" ++ [32] := by decide +kernel
  have w4 : Vaidxa.word " back" = [32] ++ Vaidxa.word "back" := by decide +kernel
  have w5 : Vaidxa.word " wants " = [32] ++ Vaidxa.word "wants" ++ [32] := by decide +kernel
  have w6 : Vaidxa.word " first " = [32] ++ Vaidxa.word "first" ++ [32] := by decide +kernel
  have w7 : Vaidxa.word " times " = [32] ++ Vaidxa.word "times" ++ [32] := by decide +kernel
  have e : askParts S w q = Vaidxa.word "ask" :: ([w] ++ ((if !q.filters.isEmpty then [Vaidxa.word "where", Vaidxa.parted (Vaidxa.word " and ") (q.filters.map (Vaidxa.filterText S))] else []) ++
  ((if !q.order.isEmpty then [Vaidxa.word "by", Vaidxa.colsText S q.order] else []) ++ ((if q.back then [Vaidxa.word "back"] else []) ++ ((if !q.wants.isEmpty then [Vaidxa.word "wants", Vaidxa.colsText S q.wants] else []) ++
  ((if decide (0 < q.limit) then [Vaidxa.word "first", Vaidxa.numText q.limit] else []) ++ [Vaidxa.word "times", Vaidxa.numText q.times])))))) := rfl
  rw [e, parted_cons]
  simp only [List.flatMap_append, flat_opt2]
  unfold Vaidxa.askText
  rw [w1, w2, w3, w4, w5, w6, w7]
  have p1 : (if q.filters.isEmpty = true then ([] : Tx) else [32] ++ Vaidxa.word "where" ++ [32] ++ Vaidxa.parted (Vaidxa.word " and ") (q.filters.map (Vaidxa.filterText S))) = if (!q.filters.isEmpty) = true then [32] ++ Vaidxa.word "where" ++ ([32] ++ Vaidxa.parted (Vaidxa.word " and ") (q.filters.map (Vaidxa.filterText S))) else [] := by
    cases q.filters.isEmpty <;> simp
  have p2 : (if q.order.isEmpty = true then ([] : Tx) else [32] ++ Vaidxa.word "by" ++ [32] ++ (Vaidxa.colsText S q.order ++ if q.back = true then [32] ++ Vaidxa.word "back" else [])) = (if (!q.order.isEmpty) = true then [32] ++ Vaidxa.word "by" ++ ([32] ++ Vaidxa.colsText S q.order) else []) ++ (if q.back = true then [Vaidxa.word "back"] else []).flatMap (fun z => [32] ++ z) := by
    cases ho : q.order.isEmpty with
    | true =>
      cases hbk : q.back with
      | true => exact absurd (List.isEmpty_iff.mp ho) (hb hbk)
      | false => rfl
    | false =>
      cases q.back <;> simp
  have p3 : (if q.wants.isEmpty = true then ([] : Tx) else [32] ++ Vaidxa.word "wants" ++ [32] ++ Vaidxa.colsText S q.wants) = if (!q.wants.isEmpty) = true then [32] ++ Vaidxa.word "wants" ++ ([32] ++ Vaidxa.colsText S q.wants) else [] := by
    cases q.wants.isEmpty <;> simp
  have p4 : (if q.limit = 0 then ([] : Tx) else [32] ++ Vaidxa.word "first" ++ [32] ++ Vaidxa.numText q.limit) = if decide (0 < q.limit) = true then [32] ++ Vaidxa.word "first" ++ ([32] ++ Vaidxa.numText q.limit) else [] := by
    by_cases c : q.limit = 0
    · rw [if_pos c, if_neg (by simp [c])]
    · rw [if_neg c, if_pos (by simp; omega)]
      simp
  rw [p1, p2, p3, p4]
  simp only [List.append_assoc, List.flatMap_cons, List.flatMap_nil, List.append_nil, List.nil_append]
theorem indexText_eq (S : Vaidxa.Source) (w : Tx) (i : VaidxBase.Index) : Vaidxa.indexText S w i = Vaidxa.parted [32] (indexParts S w i) ++ [59, 10] := by
  have w1 : Vaidxa.word "index " = Vaidxa.word "index" ++ [32] := by decide +kernel
  have w2 : Vaidxa.word " on " = [32] ++ Vaidxa.word "on" ++ [32] := by decide +kernel
  have w3 : Vaidxa.word " with " = [32] ++ Vaidxa.word "with" ++ [32] := by decide +kernel
  have w4 : Vaidxa.word " only " = [32] ++ Vaidxa.word "only" ++ [32] := by decide +kernel
  have e : indexParts S w i = Vaidxa.word "index" :: ([w, Vaidxa.word "on", Vaidxa.colsText S i.keys] ++ ((if !i.others.isEmpty then [Vaidxa.word "with", Vaidxa.colsText S i.others] else []) ++ (match i.only with
  | none => []
  | some f => [Vaidxa.word "only", Vaidxa.filterText S f]))) := rfl
  rw [e, parted_cons]
  simp only [List.flatMap_append, flat_opt2]
  unfold Vaidxa.indexText
  rw [w1, w2, w3]
  have p1 : (if i.others.isEmpty = true then ([] : Tx) else [32] ++ Vaidxa.word "with" ++ [32] ++ Vaidxa.colsText S i.others) = if (!i.others.isEmpty) = true then [32] ++ Vaidxa.word "with" ++ ([32] ++ Vaidxa.colsText S i.others) else [] := by
    cases i.others.isEmpty <;> simp
  rw [p1]
  cases i.only with
  | none => simp only [List.append_assoc, List.flatMap_cons, List.flatMap_nil, List.append_nil, List.nil_append]
  | some f =>
    dsimp only
    rw [w4]
    simp only [List.append_assoc, List.flatMap_cons, List.flatMap_nil, List.append_nil, List.nil_append]
/-! how long -/
theorem colsText_len {S : Vaidxa.Source} (h : ColsOk S) {l : List Nat} (hl : l.length ≤ 4) : (Vaidxa.colsText S l).length ≤ 36 := by
  unfold Vaidxa.colsText
  have := commas_len (B := 7) (l := l.map (Vaidxa.colText S)) (fun x hx => by
    obtain ⟨c, _, rfl⟩ := List.mem_map.mp hx
    exact colText_len h c)
  rw [List.length_map] at this
  omega
theorem filterText_len {S : Vaidxa.Source} (h : ColsOk S) {n : Nat} {f : VaidxBase.Filter} (hf : FOk n f) : (Vaidxa.filterText S f).length ≤ 31 := by
  unfold Vaidxa.filterText
  have h1 := hf.le
  have h2 := hf.hi
  have n0 := colText_len h f.col
  have n1 := numText_len (n := f.lo) (by omega)
  have n2 := numText_len (n := f.hi) (by omega)
  have w1 : (Vaidxa.word " = ").length = 3 := by decide +kernel
  have w2 : (Vaidxa.word " from ").length = 6 := by decide +kernel
  have w3 : (Vaidxa.word " to ").length = 4 := by decide +kernel
  split
  · rw [List.length_append, List.length_append, w1]
    omega
  · rw [List.length_append, List.length_append, List.length_append, List.length_append, w2, w3]
    omega
theorem andText_len {S : Vaidxa.Source} (h : ColsOk S) {n : Nat} {fs : List VaidxBase.Filter} (hf : FsOk n fs) (hn : n ≤ 4) : (Vaidxa.parted (Vaidxa.word " and ") (fs.map (Vaidxa.filterText S))).length ≤ 200 := by
  have hl := hf.len
  have w1 : (Vaidxa.word " and ").length = 5 := by decide +kernel
  have := parted_len (s := Vaidxa.word " and ") (B := 31) (l := fs.map (Vaidxa.filterText S)) (fun x hx => by
    obtain ⟨f, hm, rfl⟩ := List.mem_map.mp hx
    exact filterText_len h (hf.ok f hm))
  rw [List.length_map, w1] at this
  omega
theorem mem_opt {b : Bool} {P : Tx → Prop} {l : List Tx} (h : b = true → ∀ x ∈ l, P x) : ∀ x ∈ (if b then l else []), P x := by
  cases b with
  | true => exact h rfl
  | false => exact fun x hx => absurd hx List.not_mem_nil
theorem len_opt {b : Bool} (l : List Tx) : (if b then l else []).length ≤ l.length := by
  cases b with
  | true => exact Nat.le_refl _
  | false => exact Nat.zero_le _
theorem mem_app {P : Tx → Prop} {l m : List Tx} (h : ∀ x ∈ l, P x) (h2 : ∀ x ∈ m, P x) : ∀ x ∈ l ++ m, P x := fun x hx => (List.mem_append.mp hx).elim (h x) (h2 x)
theorem mem_two {P : Tx → Prop} {x y : Tx} (h : P x) (h2 : P y) : ∀ z ∈ [x, y], P z := fun z hz => by
  rcases List.mem_cons.mp hz with e | e
  · rw [e]
    exact h
  · rw [List.mem_singleton.mp e]
    exact h2
theorem mem_one {P : Tx → Prop} {x : Tx} (h : P x) : ∀ z ∈ [x], P z := fun z hz => by
  rw [List.mem_singleton.mp hz]
  exact h
theorem askParts_ok {S : Vaidxa.Source} (h : ColsOk S) {w : Tx} {q : VaidxBase.Question} (hq : QOk S.cols.length q) (hw : NOk w) : (askParts S w q).length ≤ 20 ∧ ∀ x ∈ askParts S w q, x.length ≤ 1000 := by
  have h4 := h.c4
  have lo := hq.order.len
  have lw := hq.wants.len
  have hw : w.length ≤ 7 := hw
  unfold askParts
  constructor
  · simp only [List.length_append]
    have a1 := len_opt (b := !q.filters.isEmpty) [Vaidxa.word "where", Vaidxa.parted (Vaidxa.word " and ") (q.filters.map (Vaidxa.filterText S))]
    have a2 := len_opt (b := !q.order.isEmpty) [Vaidxa.word "by", Vaidxa.colsText S q.order]
    have a3 := len_opt (b := q.back) [Vaidxa.word "back"]
    have a4 := len_opt (b := !q.wants.isEmpty) [Vaidxa.word "wants", Vaidxa.colsText S q.wants]
    have a5 := len_opt (b := decide (0 < q.limit)) [Vaidxa.word "first", Vaidxa.numText q.limit]
    simp only [List.length_cons, List.length_nil] at a1 a2 a3 a4 a5 ⊢
    omega
  · refine mem_app (mem_two (by decide +kernel) (by omega)) (mem_app (mem_opt fun _ => mem_two (by decide +kernel) (by have := andText_len h hq.fs h4; omega)) (mem_app (mem_opt fun _ => mem_two (by decide +kernel) (by have := colsText_len h (l := q.order) (by omega); omega))
      (mem_app (mem_opt fun _ => mem_one (by decide +kernel)) (mem_app (mem_opt fun _ => mem_two (by decide +kernel) (by have := colsText_len h (l := q.wants) (by omega); omega)) (mem_app (mem_opt fun _ => mem_two (by decide +kernel) (by have := numText_len hq.limit; omega)) (mem_two (by decide +kernel) (by have := numText_len (n := q.times) (by have := hq.times; omega); omega)))))))
theorem indexParts_ok {S : Vaidxa.Source} (h : ColsOk S) {w : Tx} {i : VaidxBase.Index} (hi : IOk S.cols.length i) (hw : NOk w) : (indexParts S w i).length ≤ 20 ∧ ∀ x ∈ indexParts S w i, x.length ≤ 1000 := by
  have h4 := h.c4
  have lk := hi.k.len
  have lo := hi.o.len
  have hw : w.length ≤ 7 := hw
  unfold indexParts
  constructor
  · simp only [List.length_append]
    have a1 := len_opt (b := !i.others.isEmpty) [Vaidxa.word "with", Vaidxa.colsText S i.others]
    simp only [List.length_cons, List.length_nil] at a1 ⊢
    cases i.only with
    | none =>
      simp only [List.length_nil]
      omega
    | some f =>
      simp only [List.length_cons, List.length_nil]
      omega
  · have ck := colsText_len h (l := i.keys) (by omega)
    have co := colsText_len h (l := i.others) (by omega)
    refine mem_app (fun x hx => ?_) (mem_app (mem_opt fun _ => mem_two (by decide +kernel) (by omega)) ?_)
    · rcases List.mem_cons.mp hx with e | hx
      · rw [e]
        decide +kernel
      · rcases List.mem_cons.mp hx with e | hx
        · rw [e]
          omega
        · exact mem_two (P := fun x => x.length ≤ 1000) (by decide +kernel) (by omega) x hx
    · cases ho : i.only with
      | none => exact fun x hx => absurd hx List.not_mem_nil
      | some f => exact mem_two (by decide +kernel) (by have := filterText_len h (hi.only f ho); omega)
/-! ### promises -/
def sp_question_line (K : PySem.W.Frag) : Sp := fun vs H Q _ => ∃ (a b : Addr) (x : NQ) (S : Vaidxa.Source), vs = [.ref a, .ref b] ∧ QuestionAt K H a x ∧ StrsAt H b S.cols ∧ ColsOk S ∧ QOk S.cols.length x.2 ∧ NOk x.1 ∧ ∀ H', Same H H' → Q (.str (sS (Vaidxa.askText S x.1 x.2))) H'
def sp_index_line (K : PySem.W.Frag) : Sp := fun vs H Q _ => ∃ (a b : Addr) (x : NI) (S : Vaidxa.Source), vs = [.ref a, .ref b] ∧ IndexAt K H a x ∧ StrsAt H b S.cols ∧ ColsOk S ∧ IOk S.cols.length x.2 ∧ NOk x.1 ∧ ∀ H', Same H H' → Q (.str (sS (Vaidxa.indexText S x.1 x.2))) H'
abbrev N_question_line : List Str := ["question", "names", "parts", "sieve"]
def t_question_line (K : PySem.W.Frag) (E : XK) : TS :=
  (tSeq (tAsg (tLst (tCons (tC (.str "ask")) (tCons (tFld K (tVar 0) "name") tNil))) (gName 2))
    (tSeq (tIfS (tTru_ K (tFld K (tVar 0) "filters")) (tSeq (tDrop (tBM K "list" rAppend (tVar 2) (tCons (tC (.str "where")) tNil)))
    (tDrop (tBM K "list" rAppend (tVar 2) (tCons (tM1 (rJoin_ K) (tC (.str " and ")) (tLc (iList K (tFld K (tVar 0) "filters")) (gName 3) tYes (tCall (sp_filter_words K) [] E0 (tCons (tVar 3) (tCons (tVar 1) tNil))) [3])) tNil)))) tNext)
    (tSeq (tIfS (tTru_ K (tFld K (tVar 0) "order")) (tSeq (tDrop (tBM K "list" rAppend (tVar 2) (tCons (tC (.str "by")) tNil)))
    (tDrop (tBM K "list" rAppend (tVar 2) (tCons (tCall (sp_column_words K) [] E0 (tCons (tFld K (tVar 0) "order") (tCons (tVar 1) tNil))) tNil)))) tNext)
    (tSeq (tIfS (tB (tFld K (tVar 0) "backwards")) (tDrop (tBM K "list" rAppend (tVar 2) (tCons (tC (.str "back")) tNil))) tNext)
    (tSeq (tIfS (tTru_ K (tFld K (tVar 0) "wanted")) (tSeq (tDrop (tBM K "list" rAppend (tVar 2) (tCons (tC (.str "wants")) tNil)))
    (tDrop (tBM K "list" rAppend (tVar 2) (tCons (tCall (sp_column_words K) [] E0 (tCons (tFld K (tVar 0) "wanted") (tCons (tVar 1) tNil))) tNil)))) tNext)
    (tSeq (tIfS (tTest (tOp rGt_ (tFld K (tVar 0) "limit") (tC (.int 0)))) (tSeq (tDrop (tBM K "list" rAppend (tVar 2) (tCons (tC (.str "first")) tNil)))
    (tDrop (tBM K "list" rAppend (tVar 2) (tCons (tCB rStr_ (tCons (tFld K (tVar 0) "limit") tNil)) tNil)))) tNext)
    (tSeq (tDrop (tBM K "list" rAppend (tVar 2) (tCons (tC (.str "times")) tNil)))
    (tSeq (tDrop (tBM K "list" rAppend (tVar 2) (tCons (tCB rStr_ (tCons (tFld K (tVar 0) "times") tNil)) tNil)))
    (tRet (tCall (sp_ended K) [] E0 (tCons (tVar 2) tNil)))))))))))
abbrev N_index_line : List Str := ["index", "names", "parts"]
def t_index_line (K : PySem.W.Frag) (E : XK) : TS :=
  (tSeq (tAsg (tLst (tCons (tC (.str "index")) (tCons (tFld K (tVar 0) "name") (tCons (tC (.str "on")) (tCons (tCall (sp_column_words K) [] E0 (tCons (tFld K (tVar 0) "key_columns") (tCons (tVar 1) tNil))) tNil))))) (gName 2))
    (tSeq (tIfS (tTru_ K (tFld K (tVar 0) "included")) (tSeq (tDrop (tBM K "list" rAppend (tVar 2) (tCons (tC (.str "with")) tNil)))
    (tDrop (tBM K "list" rAppend (tVar 2) (tCons (tCall (sp_column_words K) [] E0 (tCons (tFld K (tVar 0) "included") (tCons (tVar 1) tNil))) tNil)))) tNext)
    (tSeq (tIfS (tTest (tOp rNotN_ (tFld K (tVar 0) "condition") (tC .non))) (tSeq (tDrop (tBM K "list" rAppend (tVar 2) (tCons (tC (.str "only")) tNil)))
    (tDrop (tBM K "list" rAppend (tVar 2) (tCons (tCall (sp_filter_words K) [] E0 (tCons (tFld K (tVar 0) "condition") (tCons (tVar 1) tNil))) tNil)))) tNext)
    (tRet (tCall (sp_ended K) [] E0 (tCons (tVar 2) tNil))))))
section
variable {K : PySem.W.Frag} {mg : Str → Option Value}
theorem apps_step {H H1 : Hp} {p : Addr} {ps : List Tx} {m : Tx} {σ : L2.St} {D : Ends} {te : TE} {i : Nat} (hi : σ[i]? = some (some (.ref p))) (hp : StrsAt H1 p ps) (s1 : Same H H1) (np : H p = none) (hl : ps.length ≤ 1000) (hte : ∀ Q : VK, (∀ H', Same H1 H' → Q (.str (sS m)) H') → te σ H1 Q)
    (k : ∀ H2, Same H H2 → StrsAt H2 p (ps ++ [m]) → D.nx σ H2) : tDrop (tBM K "list" rAppend (tVar i) (tCons te tNil)) D σ H1 := by
  refine ⟨_, hi, .inl ⟨rfl, _, SqL.of hp⟩, hte _ fun H2 s2 => ⟨p, _, _, rfl, rfl, s2 _ _ hp, ?_, k _ (same_upd np (s1.trans s2)) ?_⟩⟩
  · rw [List.length_map]
    exact size_ok (by omega)
  · unfold StrsAt
    rw [upd_same, List.map_append]
    rfl
theorem lits_step {H H1 : Hp} {p : Addr} {ps : List Tx} {s : String} {σ : L2.St} {D : Ends} {i : Nat} (hi : σ[i]? = some (some (.ref p))) (hp : StrsAt H1 p ps) (s1 : Same H H1) (np : H p = none) (hl : ps.length ≤ 1000)
    (k : ∀ H2, Same H H2 → StrsAt H2 p (ps ++ [Vaidxa.word s]) → D.nx σ H2) : tDrop (tBM K "list" rAppend (tVar i) (tCons (tC (.str (Str.ofString s))) tNil)) D σ H1 :=
  apps_step (m := Vaidxa.word s) hi hp s1 np hl (fun Q hQ => by
    have := hQ H1 (Same.refl H1)
    rw [← lit_word] at this
    exact this) k
theorem opt2_step {H H1 : Hp} {p : Addr} {ps : List Tx} {s : String} {m : Tx} {b : Bool} {σ : L2.St} {D : Ends} {c : TT} {t2 : TE} {i : Nat} (hi : σ[i]? = some (some (.ref p))) (hp : StrsAt H1 p ps) (s1 : Same H H1) (np : H p = none) (hl : ps.length ≤ 900) (hc : ∀ Qb : Bool → Hp → Prop, Qb b H1 → c σ H1 Qb)
    (h2 : b = true → ∀ H', Same H H' → ∀ Q : VK, (∀ H'', Same H' H'' → Q (.str (sS m)) H'') → t2 σ H' Q)
    (k : ∀ H2, Same H H2 → StrsAt H2 p (ps ++ (if b then [Vaidxa.word s, m] else [])) → D.nx σ H2) :
    tIfS c (tSeq (tDrop (tBM K "list" rAppend (tVar i) (tCons (tC (.str (Str.ofString s))) tNil))) (tDrop (tBM K "list" rAppend (tVar i) (tCons t2 tNil)))) tNext D σ H1 := by
  refine hc _ ?_
  cases b with
  | false =>
    refine if_false_of rfl (k H1 s1 ?_)
    rw [if_neg Bool.false_ne_true, List.append_nil]
    exact hp
  | true =>
    refine if_true_of rfl (lits_step hi hp s1 np (by omega) fun H2 s2 hp2 => ?_)
    refine apps_step (m := m) hi hp2 s2 np (by rw [len_snoc]; omega) (h2 rfl H2 s2) fun H3 s3 hp3 => k H3 s3 ?_
    rw [if_pos rfl]
    rw [List.append_assoc] at hp3
    exact hp3
theorem opt2_seq {H H1 : Hp} {p : Addr} {ps : List Tx} {s : String} {m : Tx} {b : Bool} {σ : L2.St} {D : Ends} {c : TT} {t2 : TE} {u : TS} {i : Nat} (hi : σ[i]? = some (some (.ref p))) (hp : StrsAt H1 p ps) (s1 : Same H H1) (np : H p = none) (hl : ps.length ≤ 900) (hc : ∀ Qb : Bool → Hp → Prop, Qb b H1 → c σ H1 Qb)
    (h2 : b = true → ∀ H', Same H H' → ∀ Q : VK, (∀ H'', Same H' H'' → Q (.str (sS m)) H'') → t2 σ H' Q)
    (k : ∀ H2, Same H H2 → StrsAt H2 p (ps ++ (if b then [Vaidxa.word s, m] else [])) → u D σ H2) :
    tSeq (tIfS c (tSeq (tDrop (tBM K "list" rAppend (tVar i) (tCons (tC (.str (Str.ofString s))) tNil))) (tDrop (tBM K "list" rAppend (tVar i) (tCons t2 tNil)))) tNext) u D σ H1 := opt2_step (D := { D with nx := u D }) hi hp s1 np hl hc h2 k
theorem tru_lst {H : Hp} {a : Addr} {xs : List V} (h : H a = some (.lst xs)) : TruV K (.ref a) H (!xs.isEmpty) := .inl ⟨xs, SqL.of h, rfl⟩
theorem empty_map {α β : Type} (f : α → β) (l : List α) : (l.map f).isEmpty = l.isEmpty := by
  cases l <;> rfl
theorem len_question_line {vs : List V} {H : Hp} {Q : VK} {E : XK} (h : sp_question_line K vs H Q E) : vs.length = 2 := by
  obtain ⟨_, _, _, _, rfl, _⟩ := h
  rfl
theorem empty_len {α β : Type} {l : List α} {m : List β} (h : l.length = m.length) : l.isEmpty = m.isEmpty := by
  cases l <;> cases m <;> simp at h ⊢
theorem pure_question_line (T : Txt K mg) (vs : List V) (H : Hp) (Q : VK) (E : XK) (h : sp_question_line K vs H Q E) : t_question_line K E { nx := fun _ H' => Q .non H', rt := Q } (start N_question_line vs) H := by
  obtain ⟨a, b, ⟨w, q⟩, S, rfl, ⟨dx, fl, ol, wl, hA, ⟨as, hf, hE⟩, ho, hw⟩, hB, hS, hq, hN, k⟩ := h
  have h4 := hS.c4
  have hE : Each (FilterAt K H) as q.filters := hE
  have ho : IntsAt K H ol q.order := ho
  have hw : IntsAt K H wl q.wants := hw
  have hq : QOk S.cols.length q := hq
  have lf := hq.fs.len
  have hN : NOk w := hN
  have k : ∀ H', Same H H' → Q (.str (sS (Vaidxa.askText S w q))) H' := k
  rw [askText_eq S w q hq.back] at k
  obtain ⟨pl, pw⟩ := askParts_ok hS hq hN
  refine ⟨_, rfl, a, _, dx, _, _, rfl, hA, cl_Question T, n_Question_name T, l_Question_name, (by show 2 ≤ sizeLine; decide), fun p np => ?_⟩
  have s0 : Same H (upd H p (.lst [.str "ask", .str (sS w)])) := same_new (Same.refl H) np
  have hp0 : StrsAt (upd H p (.lst [.str "ask", .str (sS w)])) p [Vaidxa.word "ask", w] := by
    unfold StrsAt
    rw [upd_same, show ("ask" : Str) = sS (Vaidxa.word "ask") from lit_word "ask"]
    rfl
  dsimp only [gName]
  refine opt2_seq (H := H) (b := !q.filters.isEmpty) (m := Vaidxa.parted (Vaidxa.word " and ") (q.filters.map (Vaidxa.filterText S))) (by rfl) hp0 s0 np (by show 2 ≤ 900; decide) (fun Qb hQ => ?_) (fun _ H' s' Qe hQe => ?_) fun H1 s1 hp1 => ?_
  · refine ⟨_, rfl, a, _, dx, _, _, rfl, s0 _ _ hA, cl_Question T, n_Question_filters T, l_Question_filters, _, tru_lst (s0 _ _ hf), ?_⟩
    rw [empty_map, empty_len hE.1]
    exact hQ
  · refine ⟨⟨_, rfl⟩, _, rfl, a, _, dx, _, _, rfl, s' _ _ hA, cl_Question T, n_Question_filters T, l_Question_filters, fl, rfl, ⟨_, SqL.of (s' _ _ hf)⟩, fun D nD => ?_⟩
    refine lc_ys (K := K) (xs := as.map V.ref) ((q.filters.map (Vaidxa.filterText S)).map fun w => V.str (sS w)) (by rw [List.length_map, List.length_map, List.length_map, hE.1]) nD (SqL.of (s' _ _ hf)) (by rw [List.length_map, hE.1]; omega) (fun j x y hx hy H2 hs Qe2 hQe2 => ?_) (fun H3 hd3 hs => ?_)
    · obtain ⟨fa, f, rfl, hfa, hfj, hF⟩ := each_at hE hx
      rw [List.getElem?_map, List.getElem?_map, hfj] at hy
      injection hy with hy
      subst hy
      exact ⟨_, rfl, _, rfl, fa, b, f, S, rfl, filterAt_same hF (s'.trans hs), (s'.trans hs) _ _ hB, hS, hq.fs.ok f (List.mem_of_getElem? hfj), hQe2 H2 (Same.refl H2)⟩
    · refine join_step (s := " and ") (B := 31) hd3 (fun x hx => ?_) ?_ (hQe H3 hs)
      · obtain ⟨f, hm, rfl⟩ := List.mem_map.mp hx
        exact filterText_len hS (hq.fs.ok f hm)
      · rw [List.length_map, show (Vaidxa.word " and ").length = 5 by decide +kernel]
        omega
  have l1 : ∀ (b1 : Bool) (x1 y1 : Tx) (l : List Tx), (l ++ (if b1 then [x1, y1] else [])).length ≤ l.length + 2 := fun b1 x1 y1 l => by
    rw [List.length_append]
    have := len_opt (b := b1) [x1, y1]
    simp only [List.length_cons, List.length_nil] at this
    omega
  have g1 := l1 (!q.filters.isEmpty) (Vaidxa.word "where") (Vaidxa.parted (Vaidxa.word " and ") (q.filters.map (Vaidxa.filterText S))) [Vaidxa.word "ask", w]
  generalize hP1 : [Vaidxa.word "ask", w] ++ (if (!q.filters.isEmpty) = true then [Vaidxa.word "where", Vaidxa.parted (Vaidxa.word " and ") (q.filters.map (Vaidxa.filterText S))] else []) = P1 at hp1 g1
  refine opt2_seq (H := H) (b := !q.order.isEmpty) (m := Vaidxa.colsText S q.order) rfl hp1 s1 np (by have : P1.length ≤ 4 := g1; omega) (fun Qb hQ => ?_) (fun _ H' s' Qe hQe => ?_) fun H2 s2 hp2 => ?_
  · refine ⟨_, rfl, a, _, dx, _, _, rfl, s1 _ _ hA, cl_Question T, n_Question_order T, l_Question_order, _, tru_lst (s1 _ _ ho), ?_⟩
    rw [empty_map]
    exact hQ
  · exact ⟨_, rfl, a, _, dx, _, _, rfl, s' _ _ hA, cl_Question T, n_Question_order T, l_Question_order, _, rfl, ol, b, q.order, S, rfl, s' _ _ ho, s' _ _ hB, hS, hq.order, hQe⟩
  have g2 := l1 (!q.order.isEmpty) (Vaidxa.word "by") (Vaidxa.colsText S q.order) P1
  generalize hP2 : P1 ++ (if (!q.order.isEmpty) = true then [Vaidxa.word "by", Vaidxa.colsText S q.order] else []) = P2 at hp2 g2
  have g2 : P2.length ≤ 6 := by
    have : P1.length ≤ 4 := g1
    omega
  -- back
  refine ⟨_, rfl, a, _, dx, _, _, rfl, s2 _ _ hA, cl_Question T, n_Question_backwards T, l_Question_backwards, _, rfl, ?_⟩
  have behind : ∀ H3, Same H H3 → StrsAt H3 p (P2 ++ (if q.back then [Vaidxa.word "back"] else [])) → (tSeq (tIfS (tTru_ K (tFld K (tVar 0) "wanted")) (tSeq (tDrop (tBM K "list" rAppend (tVar 2) (tCons (tC (.str "wants")) tNil)))
    (tDrop (tBM K "list" rAppend (tVar 2) (tCons (tCall (sp_column_words K) [] E0 (tCons (tFld K (tVar 0) "wanted") (tCons (tVar 1) tNil))) tNil)))) tNext)
    (tSeq (tIfS (tTest (tOp rGt_ (tFld K (tVar 0) "limit") (tC (.int 0)))) (tSeq (tDrop (tBM K "list" rAppend (tVar 2) (tCons (tC (.str "first")) tNil)))
    (tDrop (tBM K "list" rAppend (tVar 2) (tCons (tCB rStr_ (tCons (tFld K (tVar 0) "limit") tNil)) tNil)))) tNext)
    (tSeq (tDrop (tBM K "list" rAppend (tVar 2) (tCons (tC (.str "times")) tNil)))
    (tSeq (tDrop (tBM K "list" rAppend (tVar 2) (tCons (tCB rStr_ (tCons (tFld K (tVar 0) "times") tNil)) tNil)))
    (tRet (tCall (sp_ended K) [] E0 (tCons (tVar 2) tNil))))))) { nx := fun _ H' => Q .non H', rt := Q } [some (.ref a), some (.ref b), some (.ref p), none] H3 := fun H3 s3 hp3 => by
    have g3 : (P2 ++ (if q.back then [Vaidxa.word "back"] else [])).length ≤ 7 := by
      rw [List.length_append]
      have := len_opt (b := q.back) [Vaidxa.word "back"]
      simp only [List.length_cons, List.length_nil] at this
      omega
    generalize hP3 : P2 ++ (if q.back then [Vaidxa.word "back"] else []) = P3 at hp3 g3
    refine opt2_seq (H := H) (b := !q.wants.isEmpty) (m := Vaidxa.colsText S q.wants) rfl hp3 s3 np (by omega) (fun Qb hQ => ?_) (fun _ H' s' Qe hQe => ?_) fun H4 s4 hp4 => ?_
    · refine ⟨_, rfl, a, _, dx, _, _, rfl, s3 _ _ hA, cl_Question T, n_Question_wanted T, l_Question_wanted, _, tru_lst (s3 _ _ hw), ?_⟩
      rw [empty_map]
      exact hQ
    · exact ⟨_, rfl, a, _, dx, _, _, rfl, s' _ _ hA, cl_Question T, n_Question_wanted T, l_Question_wanted, _, rfl, wl, b, q.wants, S, rfl, s' _ _ hw, s' _ _ hB, hS, hq.wants, hQe⟩
    have g4 := l1 (!q.wants.isEmpty) (Vaidxa.word "wants") (Vaidxa.colsText S q.wants) P3
    generalize hP4 : P3 ++ (if (!q.wants.isEmpty) = true then [Vaidxa.word "wants", Vaidxa.colsText S q.wants] else []) = P4 at hp4 g4
    refine opt2_seq (H := H) (b := decide (0 < q.limit)) (m := Vaidxa.numText q.limit) rfl hp4 s4 np (by omega) (fun Qb hQ => ?_) (fun _ H' s' Qe hQe => ?_) fun H5 s5 hp5 => ?_
    · refine ⟨_, rfl, a, _, dx, _, _, rfl, s4 _ _ hA, cl_Question T, n_Question_limit T, l_Question_limit, _, _, rfl, rfl, _, rfl, ?_⟩
      have e : decide ((0 : Int) < ((q.limit : Nat) : Int)) = decide (0 < q.limit) := decide_eq_decide.mpr (by omega)
      show Qb (decide ((0 : Int) < ((q.limit : Nat) : Int))) _
      rw [e]
      exact hQ
    · exact ⟨_, rfl, a, _, dx, _, _, rfl, s' _ _ hA, cl_Question T, n_Question_limit T, l_Question_limit, str_int hq.limit (hQe H' (Same.refl H'))⟩
    have g5 := l1 (decide (0 < q.limit)) (Vaidxa.word "first") (Vaidxa.numText q.limit) P4
    generalize hP5 : P4 ++ (if decide (0 < q.limit) = true then [Vaidxa.word "first", Vaidxa.numText q.limit] else []) = P5 at hp5 g5
    refine lits_step (H := H) rfl hp5 s5 np (by omega) fun H6 s6 hp6 => ?_
    refine apps_step (H := H) (m := Vaidxa.numText q.times) rfl hp6 s6 np (by rw [len_snoc]; omega) (fun Qe hQe => ?_) fun H7 s7 hp7 => ?_
    · exact ⟨_, rfl, a, _, dx, _, _, rfl, s6 _ _ hA, cl_Question T, n_Question_times T, l_Question_times, str_int (show q.times ≤ 1000000 by have := hq.times; omega) (hQe H6 (Same.refl H6))⟩
    · have e : P5 ++ [Vaidxa.word "times"] ++ [Vaidxa.numText q.times] = askParts S w q := by
        rw [← hP5, ← hP4, ← hP3, ← hP2, ← hP1]
        unfold askParts
        simp only [List.append_assoc]
        rfl
      rw [e] at hp7
      exact ⟨_, rfl, p, _, rfl, hp7, pl, pw, k H7 s7⟩
  cases hb : q.back with
  | true =>
    rw [hb] at behind
    exact if_true_of rfl (lits_step (H := H) rfl hp2 s2 np (by omega) fun H3 s3 hp3 => behind H3 s3 hp3)
  | false =>
    rw [hb] at behind
    exact if_false_of rfl (behind H2 s2 (by rw [if_neg Bool.false_ne_true, List.append_nil]; exact hp2))
theorem len_index_line {vs : List V} {H : Hp} {Q : VK} {E : XK} (h : sp_index_line K vs H Q E) : vs.length = 2 := by
  obtain ⟨_, _, _, _, rfl, _⟩ := h
  rfl
theorem pure_index_line (T : Txt K mg) (vs : List V) (H : Hp) (Q : VK) (E : XK) (h : sp_index_line K vs H Q E) : t_index_line K E { nx := fun _ H' => Q .non H', rt := Q } (start N_index_line vs) H := by
  obtain ⟨a, b, ⟨w, i⟩, S, rfl, ⟨dx, kl, ol, c, hA, hk, ho, hc⟩, hB, hS, hi, hN, k⟩ := h
  have h4 := hS.c4
  have hk : IntsAt K H kl i.keys := hk
  have ho : IntsAt K H ol i.others := ho
  have hc : CondAt K H c i.only := hc
  have hi : IOk S.cols.length i := hi
  have hN : NOk w := hN
  have k : ∀ H', Same H H' → Q (.str (sS (Vaidxa.indexText S w i))) H' := k
  rw [indexText_eq S w i] at k
  obtain ⟨pl, pw⟩ := indexParts_ok hS hi hN
  refine ⟨_, rfl, a, _, dx, _, _, rfl, hA, cl_Index T, n_Index_name T, l_Index_name, _, rfl, a, _, dx, _, _, rfl, hA, cl_Index T, n_Index_key_columns T, l_Index_key_columns, _, rfl, kl, b, i.keys, S, rfl, hk, hB, hS, hi.k, fun H0 s0 => ⟨(by show 4 ≤ sizeLine; decide), fun p np0 => ?_⟩⟩
  have np : H p = none := dom_same s0 p np0
  have s1 : Same H (upd H0 p (.lst [.str "index", .str (sS w), .str "on", .str (sS (Vaidxa.colsText S i.keys))])) := same_new s0 np
  have hp1 : StrsAt (upd H0 p (.lst [.str "index", .str (sS w), .str "on", .str (sS (Vaidxa.colsText S i.keys))])) p [Vaidxa.word "index", w, Vaidxa.word "on", Vaidxa.colsText S i.keys] := by
    unfold StrsAt
    rw [upd_same, show ("index" : Str) = sS (Vaidxa.word "index") from lit_word "index", show ("on" : Str) = sS (Vaidxa.word "on") from lit_word "on"]
    rfl
  dsimp only [gName]
  refine opt2_seq (H := H) (b := !i.others.isEmpty) (m := Vaidxa.colsText S i.others) (by rfl) hp1 s1 np (by show 4 ≤ 900; decide) (fun Qb hQ => ?_) (fun _ H' s' Qe hQe => ?_) fun H2 s2 hp2 => ?_
  · refine ⟨_, rfl, a, _, dx, _, _, rfl, s1 _ _ hA, cl_Index T, n_Index_included T, l_Index_included, _, tru_lst (s1 _ _ ho), ?_⟩
    rw [empty_map]
    exact hQ
  · exact ⟨_, rfl, a, _, dx, _, _, rfl, s' _ _ hA, cl_Index T, n_Index_included T, l_Index_included, _, rfl, ol, b, i.others, S, rfl, s' _ _ ho, s' _ _ hB, hS, hi.o, hQe⟩
  have g2 : ([Vaidxa.word "index", w, Vaidxa.word "on", Vaidxa.colsText S i.keys] ++ (if (!i.others.isEmpty) = true then [Vaidxa.word "with", Vaidxa.colsText S i.others] else [])).length ≤ 6 := by
    rw [List.length_append]
    have := len_opt (b := !i.others.isEmpty) [Vaidxa.word "with", Vaidxa.colsText S i.others]
    simp only [List.length_cons, List.length_nil] at this ⊢
    omega
  refine opt2_seq (H := H) (s := "only") (b := i.only.isSome) (m := (i.only.map (Vaidxa.filterText S)).getD []) rfl hp2 s2 np (by omega) (fun Qb hQ => ?_) (fun hs H' s' Qe hQe => ?_) fun H3 s3 hp3 => ?_
  · refine ⟨_, rfl, a, _, dx, _, _, rfl, s2 _ _ hA, cl_Index T, n_Index_condition T, l_Index_condition, rfl, _, rfl, ?_⟩
    cases hoc : i.only with
    | none =>
      rw [hoc] at hc hQ
      have hc : c = .non := hc
      rw [hc]
      exact hQ
    | some f =>
      rw [hoc] at hc hQ
      obtain ⟨b2, rfl, hb2⟩ := hc
      exact hQ
  · cases hoc : i.only with
    | none =>
      rw [hoc] at hs
      cases hs
    | some f =>
      rw [hoc] at hc hQe
      obtain ⟨b2, rfl, hb2⟩ := hc
      exact ⟨_, rfl, a, _, dx, _, _, rfl, s' _ _ hA, cl_Index T, n_Index_condition T, l_Index_condition, _, rfl, b2, b, f, S, rfl, filterAt_same hb2 s', s' _ _ hB, hS, hi.only f hoc, hQe H' (Same.refl H')⟩
  · have e : ([Vaidxa.word "index", w, Vaidxa.word "on", Vaidxa.colsText S i.keys] ++ (if (!i.others.isEmpty) = true then [Vaidxa.word "with", Vaidxa.colsText S i.others] else [])) ++ (if i.only.isSome = true then [Vaidxa.word "only", (i.only.map (Vaidxa.filterText S)).getD []] else []) = indexParts S w i := by
      unfold indexParts
      cases i.only with
      | none => simp
      | some f => simp
    rw [e] at hp3
    exact ⟨_, rfl, p, _, rfl, hp3, pl, pw, k H3 s3⟩
end
end Ix
-- part IxX3
set_option maxHeartbeats 4000000
namespace Ix
open PySem PySem.Spec PyProof.Rows L2
/-! ### the one form -/
def sp_one_form (K : PySem.W.Frag) : Sp := fun vs H Q _ => ∃ (a : Addr) (S : Vaidxa.Source), vs = [.ref a] ∧ SheetAt K H a S ∧ SrcOk S ∧ NewI H Q (VaidxBase.ints (Vaidxa.sourceText S))
def sp_shown (K : PySem.W.Frag) : Sp := fun vs H Q _ => ∃ (a : Addr) (S : Vaidxa.Source), vs = [.ref a] ∧ SheetAt K H a S ∧ SrcOk S ∧ NewI H Q (VaidxBase.listed (Vaidxa.sourceText S))
abbrev N_one_form : List Str := ["sheet", "lines", "sign", "group", "question", "index"]
def t_one_form (K : PySem.W.Frag) (E : XK) : TS :=
  (tSeq (tAsg (tLst (tCons (tCall (sp_table_line K) [] E0 (tCons (tFld K (tVar 0) "columns") tNil)) tNil)) (gName 1))
    (tSeq (tDrop (tBM K "list" rExtend (tVar 1) (tCons (tLc (iList K (tFld K (tVar 0) "groups")) (gName 3) tYes (tCall (sp_group_line K) [] E0 (tCons (tVar 3) tNil)) [3]) tNil)))
    (tSeq (tDrop (tBM K "list" rExtend (tVar 1) (tCons (tLc (iList K (tFld K (tVar 0) "questions")) (gName 4) tYes (tCall (sp_question_line K) [] E0 (tCons (tVar 4) (tCons (tFld K (tVar 0) "columns") tNil))) [4]) tNil)))
    (tSeq (tDrop (tBM K "list" rExtend (tVar 1) (tCons (tLc (iList K (tFld K (tVar 0) "indexes")) (gName 5) tYes (tCall (sp_index_line K) [] E0 (tCons (tVar 5) (tCons (tFld K (tVar 0) "columns") tNil))) [5]) tNil)))
    (tRet (tLc (iStr (tM1 (rJoin_ K) (tC (.str "")) (tVar 1))) (gName 2) tYes (tCB rOrd_ (tCons (tVar 2) tNil)) [2]))))))
abbrev N_shown : List Str := ["sheet", "form"]
def t_shown (K : PySem.W.Frag) (E : XK) : TS :=
  (tSeq (tAsg (tCall (sp_one_form K) [] E0 (tCons (tVar 0) tNil)) (gName 1))
    (tRet (tOp rCat (tLst (tCons (tCB (rLen_ K) (tCons (tVar 1) tNil)) tNil)) (tVar 1))))
def srcLines (S : Vaidxa.Source) : List Tx := [tableText S.cols] ++ (S.table.groups.map Vaidxa.rowText ++ ((S.askNames.zip S.asks).map (fun x => Vaidxa.askText S x.1 x.2) ++ (S.indexNames.zip S.indexes).map fun x => Vaidxa.indexText S x.1 x.2))
theorem flat_nil {α : Type} (f : α → Tx) (l : List α) : (l.map f).flatMap (fun y => [] ++ y) = l.flatMap f := by
  rw [List.flatMap_map]
  rfl
theorem sourceText_eq (S : Vaidxa.Source) : Vaidxa.sourceText S = Vaidxa.parted [] (srcLines S) := by
  have e : srcLines S = tableText S.cols :: (S.table.groups.map Vaidxa.rowText ++ ((S.askNames.zip S.asks).map (fun x => Vaidxa.askText S x.1 x.2) ++ (S.indexNames.zip S.indexes).map fun x => Vaidxa.indexText S x.1 x.2)) := rfl
  rw [e, parted_cons, List.flatMap_append, List.flatMap_append, flat_nil, flat_nil, flat_nil]
  unfold Vaidxa.sourceText tableText
  simp only [List.append_assoc]
theorem SrcOk.cols {S : Vaidxa.Source} (h : SrcOk S) : ColsOk S := ⟨h.c4, h.cn⟩
theorem SrcOk.askIn {S : Vaidxa.Source} (h : SrcOk S) {x : NQ} (hx : x ∈ S.askNames.zip S.asks) : NOk x.1 ∧ QOk S.cols.length x.2 := ⟨h.an _ (List.of_mem_zip hx).1, h.qs _ (List.of_mem_zip hx).2⟩
theorem SrcOk.indexIn {S : Vaidxa.Source} (h : SrcOk S) {x : NI} (hx : x ∈ S.indexNames.zip S.indexes) : NOk x.1 ∧ IOk S.cols.length x.2 := ⟨h.inn _ (List.of_mem_zip hx).1, h.is _ (List.of_mem_zip hx).2⟩
theorem parts_len {ps : List Tx} (hl : ps.length ≤ 20) (hp : ∀ x ∈ ps, x.length ≤ 1000) : (Vaidxa.parted [32] ps ++ [59, 10]).length ≤ 20022 := by
  have hc := parted_len (s := [32]) hp
  rw [List.length_append]
  show _ + 2 ≤ _
  have : ps.length * ([32].length + 1000) ≤ 20020 := by
    show _ * 1001 ≤ _
    omega
  omega
theorem srcLines_ok {S : Vaidxa.Source} (h : SrcOk S) : (srcLines S).length ≤ 27 ∧ ∀ x ∈ srcLines S, x.length ≤ 20022 := by
  have hc := h.cols
  constructor
  · unfold srcLines
    simp only [List.length_append, List.length_map, List.length_zip, List.length_cons, List.length_nil]
    have h1 := h.gl
    have h2 := h.a6
    have h3 := h.i8
    omega
  · refine mem_app (mem_one ?_) (mem_app (fun x hx => ?_) (mem_app (fun x hx => ?_) fun x hx => ?_))
    · unfold tableText
      have h1 := commas_len (B := 7) hc.cn
      have h2 := hc.c4
      rw [List.length_append, List.length_append, show (Vaidxa.word "table (").length = 7 by decide +kernel, show (Vaidxa.word ");\n").length = 3 by decide +kernel]
      omega
    · obtain ⟨g, hg, rfl⟩ := List.mem_map.mp hx
      have hgo := h.gs g hg
      have h1 := commas_len (B := 7) (l := g.row.map Vaidxa.numText) (fun x hx => by
        obtain ⟨v, hv, rfl⟩ := List.mem_map.mp hx
        have := hgo.val v hv
        exact numText_len (by omega))
      rw [List.length_map, hgo.len] at h1
      have h2 := numText_len hgo.count
      have h3 := hc.c4
      unfold Vaidxa.rowText
      rw [List.length_append, List.length_append, List.length_append, List.length_append, show (Vaidxa.word "row ").length = 4 by decide +kernel, show (Vaidxa.word " times ").length = 7 by decide +kernel]
      show _ + (_ + (_ + (_ + 2))) ≤ _
      omega
    · obtain ⟨y, hy, rfl⟩ := List.mem_map.mp hx
      obtain ⟨h1, h2⟩ := h.askIn hy
      obtain ⟨pl, pw⟩ := askParts_ok hc h2 h1
      rw [askText_eq _ _ _ h2.back]
      exact parts_len pl pw
    · obtain ⟨y, hy, rfl⟩ := List.mem_map.mp hx
      obtain ⟨h1, h2⟩ := h.indexIn hy
      obtain ⟨pl, pw⟩ := indexParts_ok hc h2 h1
      rw [indexText_eq]
      exact parts_len pl pw
theorem sourceText_len {S : Vaidxa.Source} (h : SrcOk S) : (Vaidxa.sourceText S).length ≤ 600000 := by
  obtain ⟨h1, h2⟩ := srcLines_ok h
  rw [sourceText_eq]
  have := parted_len (s := []) h2
  have h3 : (srcLines S).length * (([] : Tx).length + 20022) ≤ 27 * 20022 := Nat.mul_le_mul h1 (by show 0 + 20022 ≤ 20022; omega)
  omega
section
variable {K : PySem.W.Frag} {mg : Str → Option Value}
theorem exts_step {H H1 : Hp} {p : Addr} {ps ms : List Tx} {σ : L2.St} {D : Ends} {te : TE} {i : Nat} (hi : σ[i]? = some (some (.ref p))) (hp : StrsAt H1 p ps) (s1 : Same H H1) (np : H p = none) (hl : ps.length + ms.length ≤ 1000) (hte : ∀ Q : VK, (∀ q H', StrsAt H' q ms → Same H1 H' → Q (.ref q) H') → te σ H1 Q)
    (k : ∀ H2, Same H H2 → StrsAt H2 p (ps ++ ms) → D.nx σ H2) : tDrop (tBM K "list" rExtend (tVar i) (tCons te tNil)) D σ H1 := by
  refine ⟨_, hi, .inl ⟨rfl, _, SqL.of hp⟩, hte _ fun q H2 hq s2 => ⟨p, q, _, _, rfl, rfl, s2 _ _ hp, hq, ?_, k _ (same_upd np (s1.trans s2)) ?_⟩⟩
  · rw [List.length_map, List.length_map]
    exact size_le (by omega)
  · unfold StrsAt
    rw [upd_same, List.map_append]
theorem exts_seq {H H1 : Hp} {p : Addr} {ps ms : List Tx} {σ : L2.St} {D : Ends} {te : TE} {u : TS} {i : Nat} (hi : σ[i]? = some (some (.ref p))) (hp : StrsAt H1 p ps) (s1 : Same H H1) (np : H p = none) (hl : ps.length + ms.length ≤ 1000) (hte : ∀ Q : VK, (∀ q H', StrsAt H' q ms → Same H1 H' → Q (.ref q) H') → te σ H1 Q)
    (k : ∀ H2, Same H H2 → StrsAt H2 p (ps ++ ms) → u D σ H2) : tSeq (tDrop (tBM K "list" rExtend (tVar i) (tCons te tNil))) u D σ H1 := exts_step (D := { D with nx := u D }) hi hp s1 np hl hte k
/-- [ord(c) for c in text] -/
theorem lc_ord {t : Tx} {i : Nat} {σ : L2.St} {H1 : Hp} {D : Addr} {Qd : Hp → Prop} {te : TE} (hl : t.length ≤ 1000000) (hD : H1 D = none)
    (he : ∀ (c : Nat) (H' : Hp) (Qe : VK), Qe (.int (c : Nat)) H' → te ((σ.set i none).set i (some (.str ⟨#[c]⟩))) H' Qe)
    (hq : ∀ H', H' D = some (.lst (t.map fun c => V.int ((c : Nat) : Int))) → Same H1 H' → Qd H') :
    ∃ W : Nat → Nat → Hp → Prop, (∃ m, W 0 m (upd H1 D (.lst []))) ∧ ∀ i' m H, W i' m H →
      ((Its (sS t)).stop i' H ∧ Qd H) ∨ ((Its (sS t)).go i' H ∧ ∃ Nx : Hp → Prop, (∀ H', Nx H' → ∃ m', m' < m ∧ W (i' + 1) m' H') ∧ ∀ x H', (Its (sS t)).yld i' H x H' → gName i x (wipe σ [i]) H' fun σ2 H2 => wipe σ2 [i] = wipe σ [i] ∧ tYes σ2 H2 fun b H3 =>
        if b = true then te σ2 H3 fun y H4 => ∃ acc, H4 D = some (.lst acc) ∧ acc.length < sizeLine ∧ Nx (upd H4 D (.lst (acc ++ [y]))) else Nx H3) := by
  have hz : (sS t).cps.size = t.length := by
    show t.toArray.size = _
    simp
  refine lc_it (walk_str (z := sS t)) (fun j H => H D = some (.lst ((t.take j).map fun c => V.int ((c : Nat) : Int))) ∧ Same H1 H) ⟨upd_same, same_new (Same.refl H1) hD⟩ (fun _ _ _ _ => trivial) ?_ ?_
  · rintro j x H H' hj ⟨hd, hs⟩ ⟨rfl, c, hc, rfl⟩
    have hc : t[j]? = some c := by
      have : t.toArray[j]? = some c := hc
      simpa using this
    refine ⟨wipe_one, ?_⟩
    dsimp only [tYes]
    rw [if_pos rfl]
    refine he c _ _ ⟨_, hd, ?_, ?_, same_new hs hD⟩
    · rw [List.length_map, List.length_take, sizeLine_eq]
      omega
    · rw [upd_same, take_more hc, List.map_append]
      rfl
  · rintro H ⟨hd, hs⟩
    rw [hz, List.take_length] at hd
    exact hq H hd hs
theorem len_one_form {vs : List V} {H : Hp} {Q : VK} {E : XK} (h : sp_one_form K vs H Q E) : vs.length = 1 := by
  obtain ⟨_, _, rfl, _⟩ := h
  rfl
/-- [line(x) for x in xs] -/
theorem lc_lines {α : Type} {P : Hp → Addr → α → Prop} {a : Addr} {as : List Addr} {xs : List α} {f : α → Tx} {i : Nat} {te : TE} {σ : L2.St} {H1 : Hp} {D : Addr} {Q : VK} (hE : Each (P H1) as xs) (hA : H1 a = some (.lst (as.map V.ref))) (hl : xs.length ≤ 1000) (hD : H1 D = none)
    (he : ∀ (b : Addr) (x : α), x ∈ xs → P H1 b x → ∀ H', Same H1 H' → ∀ Qe : VK, (∀ H'', Same H' H'' → Qe (.str (sS (f x))) H'') → te ((σ.set i none).set i (some (.ref b))) H' Qe)
    (hq : ∀ q H', StrsAt H' q (xs.map f) → Same H1 H' → Q (.ref q) H') :
    ∃ W : Nat → Nat → Hp → Prop, (∃ m, W 0 m (upd H1 D (.lst []))) ∧ ∀ i' m H, W i' m H →
      ((Itl K a).stop i' H ∧ Q (.ref D) H) ∨ ((Itl K a).go i' H ∧ ∃ Nx : Hp → Prop, (∀ H', Nx H' → ∃ m', m' < m ∧ W (i' + 1) m' H') ∧ ∀ x H', (Itl K a).yld i' H x H' → gName i x (wipe σ [i]) H' fun σ2 H2 => wipe σ2 [i] = wipe σ [i] ∧ tYes σ2 H2 fun b H3 =>
        if b = true then te σ2 H3 fun y H4 => ∃ acc, H4 D = some (.lst acc) ∧ acc.length < sizeLine ∧ Nx (upd H4 D (.lst (acc ++ [y]))) else Nx H3) := by
  refine lc_ys (K := K) (Qd := fun H => Q (.ref D) H) ((xs.map f).map fun w => V.str (sS w)) (by rw [List.length_map, List.length_map, List.length_map, hE.1]) hD (SqL.of hA) (by rw [List.length_map, hE.1]; omega) (fun j x y hx hy H' hs Qe hQe => ?_) (fun H3 hd3 hs => hq D H3 hd3 hs)
  obtain ⟨b, z, rfl, hb, hz, hP⟩ := each_at hE hx
  rw [List.getElem?_map, List.getElem?_map, hz] at hy
  injection hy with hy
  subst hy
  exact he b z (List.mem_of_getElem? hz) hP H' hs Qe hQe
theorem pure_one_form (T : Txt K mg) (vs : List V) (H : Hp) (Q : VK) (E : XK) (h : sp_one_form K vs H Q E) : t_one_form K E { nx := fun _ H' => Q .non H', rt := Q } (start N_one_form vs) H := by
  obtain ⟨a, S, rfl, ⟨dx, cl, gl, ql, il, hA, hc, ⟨ga, hg, hgE⟩, ⟨qa, hq, hqE⟩, ⟨ia, hi, hiE⟩, _, _⟩, hS, k⟩ := h
  obtain ⟨ll, lw⟩ := srcLines_ok hS
  have hgl := hS.gl
  have ha6 := hS.a6
  have hi8 := hS.i8
  have lq : (S.askNames.zip S.asks).length ≤ 6 := by
    rw [List.length_zip]
    omega
  have li : (S.indexNames.zip S.indexes).length ≤ 8 := by
    rw [List.length_zip]
    omega
  refine ⟨_, rfl, a, _, dx, _, _, rfl, hA, cl_Sheet T, n_Sheet_columns T, l_Sheet_columns, cl, S.cols, rfl, hc, hS.c4, hS.cn, (by show 1 ≤ sizeLine; decide), fun p np => ?_⟩
  have s0 : Same H (upd H p (.lst [.str (sS (tableText S.cols))])) := same_new (Same.refl H) np
  have hp0 : StrsAt (upd H p (.lst [.str (sS (tableText S.cols))])) p [tableText S.cols] := by
    unfold StrsAt
    rw [upd_same]
    rfl
  dsimp only [gName]
  refine exts_seq (H := H) (ms := S.table.groups.map Vaidxa.rowText) rfl hp0 s0 np (by rw [List.length_map]; show 1 + _ ≤ _; omega) (fun Q' hQ' => ?_) fun H1 s1 hp1 => ?_
  · refine ⟨_, rfl, a, _, dx, _, _, rfl, s0 _ _ hA, cl_Sheet T, n_Sheet_groups T, l_Sheet_groups, gl, rfl, ⟨_, SqL.of (s0 _ _ hg)⟩, fun D nD => ?_⟩
    refine lc_lines (P := fun H b x => GroupAt K H b x) (hgE.mono fun b x hx => groupAt_same hx s0) (s0 _ _ hg) (by omega) nD (fun b x hx hb H' hs Qe hQe => ?_) fun q H' hq hs => hQ' q H' hq hs
    exact ⟨_, rfl, b, x, S.cols.length, rfl, groupAt_same hb hs, hS.gs x hx, hS.c4, hQe⟩
  refine exts_seq (H := H) (ms := (S.askNames.zip S.asks).map fun x => Vaidxa.askText S x.1 x.2) rfl hp1 s1 np (by rw [List.length_append, List.length_map, List.length_map]; show 1 + _ + _ ≤ _; omega) (fun Q' hQ' => ?_) fun H2 s2 hp2 => ?_
  · refine ⟨_, rfl, a, _, dx, _, _, rfl, s1 _ _ hA, cl_Sheet T, n_Sheet_questions T, l_Sheet_questions, ql, rfl, ⟨_, SqL.of (s1 _ _ hq)⟩, fun D nD => ?_⟩
    refine lc_lines (P := fun H b x => QuestionAt K H b x) (hqE.mono fun b x hx => questionAt_same hx s1) (s1 _ _ hq) (by omega) nD (fun b x hx hb H' hs Qe hQe => ?_) fun q H' hq hs => hQ' q H' hq hs
    exact ⟨_, rfl, _, rfl, a, _, dx, _, _, rfl, (s1.trans hs) _ _ hA, cl_Sheet T, n_Sheet_columns T, l_Sheet_columns, b, cl, x, S, rfl, questionAt_same hb hs, (s1.trans hs) _ _ hc, hS.cols, (hS.askIn hx).2, (hS.askIn hx).1, hQe⟩
  refine exts_seq (H := H) (ms := (S.indexNames.zip S.indexes).map fun x => Vaidxa.indexText S x.1 x.2) rfl hp2 s2 np (by rw [List.length_append, List.length_append, List.length_map, List.length_map, List.length_map]; show 1 + _ + _ + _ ≤ _; omega) (fun Q' hQ' => ?_) fun H3 s3 hp3 => ?_
  · refine ⟨_, rfl, a, _, dx, _, _, rfl, s2 _ _ hA, cl_Sheet T, n_Sheet_indexes T, l_Sheet_indexes, il, rfl, ⟨_, SqL.of (s2 _ _ hi)⟩, fun D nD => ?_⟩
    refine lc_lines (P := fun H b x => IndexAt K H b x) (hiE.mono fun b x hx => indexAt_same hx s2) (s2 _ _ hi) (by omega) nD (fun b x hx hb H' hs Qe hQe => ?_) fun q H' hq hs => hQ' q H' hq hs
    exact ⟨_, rfl, _, rfl, a, _, dx, _, _, rfl, (s2.trans hs) _ _ hA, cl_Sheet T, n_Sheet_columns T, l_Sheet_columns, b, cl, x, S, rfl, indexAt_same hb hs, (s2.trans hs) _ _ hc, hS.cols, (hS.indexIn hx).2, (hS.indexIn hx).1, hQe⟩
  have e3 : [tableText S.cols] ++ S.table.groups.map Vaidxa.rowText ++ ((S.askNames.zip S.asks).map fun x => Vaidxa.askText S x.1 x.2) ++ ((S.indexNames.zip S.indexes).map fun x => Vaidxa.indexText S x.1 x.2) = srcLines S := by
    unfold srcLines
    simp only [List.append_assoc]
  rw [e3] at hp3
  have w0 : Vaidxa.word "" = [] := by decide +kernel
  refine ⟨⟨_, rfl⟩, _, rfl, join_step (s := "") (B := 20022) hp3 lw (by rw [w0]; exact Nat.le_trans (Nat.mul_le_mul ll (Nat.le_refl _)) (by decide)) ⟨_, rfl, fun D nD => ?_⟩⟩
  rw [w0, ← sourceText_eq]
  have hlen := sourceText_len hS
  refine lc_ord (t := Vaidxa.sourceText S) (by omega) nD (fun c H' Qe hQe => ⟨_, rfl, _, rfl, rfl, hQe⟩) fun H4 hd4 s4 => ?_
  refine k D H4 (hd4.trans ?_) (s3.trans s4) (dom_same s3 D nD)
  rw [ints_V]
theorem len_shown {vs : List V} {H : Hp} {Q : VK} {E : XK} (h : sp_shown K vs H Q E) : vs.length = 1 := by
  obtain ⟨_, _, rfl, _⟩ := h
  rfl
theorem pure_shown (T : Txt K mg) (vs : List V) (H : Hp) (Q : VK) (E : XK) (h : sp_shown K vs H Q E) : t_shown K E { nx := fun _ H' => Q .non H', rt := Q } (start N_shown vs) H := by
  obtain ⟨a, S, rfl, hA, hS, k⟩ := h
  have hlen := sourceText_len hS
  refine ⟨_, rfl, a, S, rfl, hA, hS, fun p H1 h1 s1 n1 => ?_⟩
  refine ⟨_, rfl, _, _, rfl, .inl ⟨_, SqL.of h1, rfl⟩, (by show 1 ≤ sizeLine; decide), fun q nq => ⟨_, rfl, ?_⟩⟩
  have s2 : Same H1 (upd H1 q (.lst [.int (((VaidxBase.ints (Vaidxa.sourceText S)).map V.int).length : Nat)])) := same_new (Same.refl H1) nq
  have e1 : (VaidxBase.ints (Vaidxa.sourceText S)).length = (Vaidxa.sourceText S).length := by
    unfold VaidxBase.ints
    rw [List.length_map]
  refine cat_ints (l := [((Vaidxa.sourceText S).length : Nat)]) (m := VaidxBase.ints (Vaidxa.sourceText S)) ?_ (s2 _ _ h1) (by rw [e1]; show 1 + _ ≤ _; omega) ?_
  · rw [upd_same, List.length_map, e1]
    rfl
  · exact NewI.mono k (s1.trans s2)
end
end Ix
-- part IxL
set_option maxHeartbeats 4000000
namespace Ix
open PySem PySem.Spec PyProof.Rows L2
/-! ### the line of calls -/
structure LnI where
  p : Addr
  dx : Addr
  a : Addr
  l : List Int
def LnI.At (K : PySem.W.Frag) (L : LnI) (H : Hp) (rest : List Int) : Prop := ∃ n : Nat, H L.p = some (.ins (He.ga K "Line") L.dx (F_Line (.ref L.a) (.int (n : Nat)))) ∧ SqL K H L.a (L.l.map V.int) ∧ n ≤ L.l.length ∧ L.l.drop n = rest
def RowAt (H : Hp) (a : Addr) (x : List Int) : Prop := H a = some (.lst (x.map V.int))
def CallAt (K : PySem.W.Frag) (H : Hp) (q : Addr) (k : Int) (ns : List Int) (xs : List (List Int)) : Prop := ∃ dx nl rl : Addr, H q = some (.ins (He.ga K "Call") dx (F_Call (.int k) (.ref nl) (.ref rl))) ∧ RowAt H nl ns ∧ ∃ as : List Addr, H rl = some (.lst (as.map V.ref)) ∧ Each (RowAt H) as xs
def sp_Line_has_more (K : PySem.W.Frag) : Sp := fun vs H Q _ => ∃ (L : LnI) (rest : List Int), vs = [.ref L.p] ∧ L.At K H rest ∧ Q (.bl (!rest.isEmpty)) H
def sp_Line_next_number (K : PySem.W.Frag) : Sp := fun vs H Q _ => ∃ (L : LnI) (z : Int) (rest : List Int), vs = [.ref L.p] ∧ L.At K H (z :: rest) ∧ ∀ H', L.At K H' rest → Keep L.p H H' → Q (.int z) H'
def sp_Line_next_row (K : PySem.W.Frag) : Sp := fun vs H Q _ => ∃ (L : LnI) (x rest : List Int), vs = [.ref L.p] ∧ L.At K H (PyFlat.putRow x ++ rest) ∧ ∀ (q : Addr) (H' : Hp), L.At K H' rest → Keep L.p H H' → RowAt H' q x → H q = none → Q (.ref q) H'
abbrev N_Line_has_more : List Str := ["self"]
def t_Line_has_more (K : PySem.W.Frag) (E : XK) : TS :=
  (tRet (tOp rLt_ (tFld K (tVar 0) "position") (tCB (rLen_ K) (tCons (tFld K (tVar 0) "figures") tNil))))
abbrev N_Line_next_number : List Str := ["self", "number"]
def t_Line_next_number (K : PySem.W.Frag) (E : XK) : TS :=
  (tSeq (tAsg (tOp (rIxL K) (tFld K (tVar 0) "figures") (tFld K (tVar 0) "position")) (gName 1))
    (tSeq (sFldAug K (tVar 0) (tC (.int 1)) rAdd "position")
    (tRet (tVar 1))))
abbrev N_Line_next_row : List Str := ["self", "length", "row"]
def t_Line_next_row (K : PySem.W.Frag) (E : XK) : TS :=
  (tSeq (tAsg (tMeth (He.ga K "Line") "next_number" (sp_Line_next_number K) [] E0 (tVar 0) tNil) (gName 1))
    (tSeq (tAsg (tSl (rSlL K) (tFld K (tVar 0) "figures") (tPart (tFld K (tVar 0) "position")) (tPart (tOp rAdd_ (tFld K (tVar 0) "position") (tVar 1)))) (gName 2))
    (tSeq (sFldAug K (tVar 0) (tVar 1) rAdd "position")
    (tRet (tVar 2)))))
section
variable {K : PySem.W.Frag} {mg : Str → Option Value}
theorem sql_keep {H H' : Hp} {a p C dx : Addr} {xs : List V} {fs : List (Str × V)} (h : SqL K H a xs) (k : Keep p H H') (hp : H p = some (.ins C dx fs)) : SqL K H' a xs := by
  rcases h with (h | ⟨o, h⟩) | h
  · exact .inl (.inl (k _ _ (ne_of h hp (by intro z; cases z)) h))
  · exact .inl (.inr ⟨o, k _ _ (ne_of h hp (by intro z; cases z)) h⟩)
  · exact .inr h
theorem LnI.At.same {L : LnI} {H H' : Hp} {rest : List Int} (A : L.At K H rest) (s : Same H H') : L.At K H' rest := by
  obtain ⟨n, h1, h2, h3, h4⟩ := A
  exact ⟨n, s _ _ h1, s.seq h2, h3, h4⟩
theorem len_Line_has_more {vs : List V} {H : Hp} {Q : VK} {E : XK} (h : sp_Line_has_more K vs H Q E) : vs.length = 1 := by
  obtain ⟨_, _, rfl, _⟩ := h
  rfl
theorem pure_Line_has_more (T : Txt K mg) (vs : List V) (H : Hp) (Q : VK) (E : XK) (h : sp_Line_has_more K vs H Q E) : t_Line_has_more K E { nx := fun _ H' => Q .non H', rt := Q } (start N_Line_has_more vs) H := by
  obtain ⟨L, rest, rfl, ⟨n, h1, h2, h3, h4⟩, k⟩ := h
  refine ⟨_, rfl, L.p, _, L.dx, _, _, rfl, h1, cl_Line T, n_Line_position T, l_Line_position, _, rfl, L.p, _, L.dx, _, _, rfl, h1, cl_Line T, n_Line_figures T, l_Line_figures, _, _, rfl, .inl ⟨_, h2, rfl⟩, _, _, rfl, rfl, ?_⟩
  rw [List.length_map]
  have e : decide (((n : Nat) : Int) < ((L.l.length : Nat) : Int)) = !rest.isEmpty := by
    rw [← h4]
    by_cases c : n < L.l.length
    · rw [decide_eq_true (by omega)]
      rw [List.drop_eq_getElem_cons c]
      rfl
    · rw [decide_eq_false (by omega), List.drop_eq_nil_of_le (by omega)]
      rfl
  show Q (.bl (decide (((n : Nat) : Int) < ((L.l.length : Nat) : Int)))) H
  rw [e]
  exact k
theorem len_Line_next_number {vs : List V} {H : Hp} {Q : VK} {E : XK} (h : sp_Line_next_number K vs H Q E) : vs.length = 1 := by
  obtain ⟨_, _, _, rfl, _⟩ := h
  rfl
theorem drop_cons {α : Type} {l rest : List α} {n : Nat} {z : α} (h : l.drop n = z :: rest) : n < l.length ∧ l[n]? = some z ∧ l.drop (n + 1) = rest := by
  have hn : n < l.length := by
    have := congrArg List.length h
    rw [List.length_drop, List.length_cons] at this
    omega
  rw [List.drop_eq_getElem_cons hn] at h
  injection h with h5 h6
  exact ⟨hn, by rw [List.getElem?_eq_getElem hn, h5], h6⟩
theorem pure_Line_next_number (T : Txt K mg) (vs : List V) (H : Hp) (Q : VK) (E : XK) (h : sp_Line_next_number K vs H Q E) : t_Line_next_number K E { nx := fun _ H' => Q .non H', rt := Q } (start N_Line_next_number vs) H := by
  obtain ⟨L, z, rest, rfl, ⟨n, h1, h2, h3, h4⟩, k⟩ := h
  obtain ⟨hn, hz, hr⟩ := drop_cons h4
  refine ⟨_, rfl, L.p, _, L.dx, _, _, rfl, h1, cl_Line T, n_Line_figures T, l_Line_figures, _, rfl, L.p, _, L.dx, _, _, rfl, h1, cl_Line T, n_Line_position T, l_Line_position, L.a, _, _, _, rfl, rfl, h2, ints_at hz, ?_⟩
  refine ⟨_, rfl, L.p, _, L.dx, _, _, rfl, h1, cl_Line T, n_Line_position T, l_Line_position, _, _, rfl, rfl, L.dx, _, h1, (by show 2 < 1000; decide), ?_⟩
  refine ⟨_, rfl, ?_⟩
  rw [p_Line_position]
  have kp : Keep L.p H (upd H L.p (.ins (He.ga K "Line") L.dx (F_Line (.ref L.a) (.int ((n : Nat) + 1))))) := (Keep.refl L.p H).upd
  exact k _ ⟨n + 1, upd_same, sql_keep h2 kp h1, by omega, hr⟩ kp
theorem len_Line_next_row {vs : List V} {H : Hp} {Q : VK} {E : XK} (h : sp_Line_next_row K vs H Q E) : vs.length = 1 := by
  obtain ⟨_, _, _, rfl, _⟩ := h
  rfl
theorem cut_put {l x rest : List Int} {n : Nat} (hn : n ≤ l.length) (h : l.drop n = x ++ rest) : cutV (l.map V.int) (some (n : Int)) (some ((n : Int) + (x.length : Int))) = x.map V.int := by
  have hl : n + x.length ≤ l.length := by
    have := congrArg List.length h
    rw [List.length_drop, List.length_append] at this
    omega
  have e0 : ((n : Int) + (x.length : Int)) = ((n + x.length : Nat) : Int) := by omega
  rw [e0]
  unfold cutV
  rw [HT.sIx_nat, HT.sIx_nat, List.length_map, Nat.min_eq_left hn, Nat.min_eq_left hl, ← List.map_drop, ← List.map_take, h]
  have e : n + x.length - n = x.length := by omega
  rw [e, List.take_left]
theorem pure_Line_next_row (T : Txt K mg) (vs : List V) (H : Hp) (Q : VK) (E : XK) (h : sp_Line_next_row K vs H Q E) : t_Line_next_row K E { nx := fun _ H' => Q .non H', rt := Q } (start N_Line_next_row vs) H := by
  obtain ⟨L, x, rest, rfl, A, k⟩ := h
  have A' := A
  obtain ⟨m, hm, _⟩ := A'
  refine ⟨_, rfl, L.p, L.dx, _, rfl, hm, l_Line_next_number, L, (x.length : Nat), x ++ rest, rfl, A, fun H1 A1 k1 => ?_⟩
  obtain ⟨n, h1, h2, h3, h4⟩ := A1
  refine ⟨_, rfl, L.p, _, L.dx, _, _, rfl, h1, cl_Line T, n_Line_figures T, l_Line_figures, _, rfl, L.p, _, L.dx, _, _, rfl, h1, cl_Line T, n_Line_position T, l_Line_position, _, rfl, _, rfl, L.p, _, L.dx, _, _, rfl, h1, cl_Line T, n_Line_position T, l_Line_position, _, rfl, _, _, rfl, rfl, _, rfl, L.a, _, rfl, h2, fun q nq => ?_⟩
  rw [cut_put h3 h4]
  have s2 : Same H1 (upd H1 q (.lst (x.map V.int))) := same_new (Same.refl H1) nq
  refine ⟨_, rfl, L.p, _, L.dx, _, _, rfl, s2 _ _ h1, cl_Line T, n_Line_position T, l_Line_position, _, rfl, _, _, rfl, rfl, L.dx, _, s2 _ _ h1, (by show 2 < 1000; decide), ?_⟩
  refine ⟨_, rfl, ?_⟩
  rw [p_Line_position]
  have kp : Keep L.p (upd H1 q (.lst (x.map V.int))) (upd (upd H1 q (.lst (x.map V.int))) L.p (.ins (He.ga K "Line") L.dx (F_Line (.ref L.a) (.int ((n : Nat) + (x.length : Nat)))))) := (Keep.refl L.p _).upd
  have kq : Keep L.p H _ := (k1.trans (Keep.same s2)).trans kp
  have nqH : H q = none := by
    cases e : H q with
    | none => rfl
    | some o =>
      by_cases c : q = L.p
      · rw [c, h1] at nq
        cases nq
      · rw [k1 _ _ c e] at nq
        cases nq
  have hl : n + x.length ≤ L.l.length := by
    have := congrArg List.length h4
    rw [List.length_drop, List.length_append] at this
    omega
  refine k q _ ⟨n + x.length, upd_same, sql_keep (s2.seq h2) kp (s2 _ _ h1), hl, ?_⟩ kq (kp _ _ (fun c => by rw [c, h1] at nq; cases nq) upd_same) nqH
  rw [← List.drop_drop, h4, List.drop_left]
end
end Ix
-- part IxL2
set_option maxHeartbeats 4000000
namespace Ix
open PySem PySem.Spec PyProof.Rows L2
def sp_Line_next_call (K : PySem.W.Frag) : Sp := fun vs H Q _ => ∃ (L : LnI) (k : Int) (ns : List Int) (xs : List (List Int)) (rest : List Int) (i : Nat), vs = [.ref L.p] ∧ L.At K H (PyFlat.put1 ((k :: ns) :: xs) ++ rest) ∧ (kv_SHAPES K).lookup k = some (.ref (wvA K (He.ga K "SHAPES") i)) ∧ tp_SHAPES[i]? = some [(ns.length : Int), (xs.length : Int)] ∧ ns.length ≤ 1000 ∧ xs.length ≤ 1000 ∧
  ∀ (q : Addr) (H' : Hp), L.At K H' rest → Keep L.p H H' → CallAt K H' q k ns xs → Q (.ref q) H'
abbrev N_Line_next_call : List Str := ["self", "kind", "shape", "numbers", "rows"]
def t_Line_next_call (K : PySem.W.Frag) (E : XK) : TS :=
  (tSeq (tAsg (tMeth (He.ga K "Line") "next_number" (sp_Line_next_number K) [] E0 (tVar 0) tNil) (gName 1))
    (tSeq (tAsg (tOp (rIxW K) (tC (.ref (He.ga K "SHAPES"))) (tVar 1)) (gName 2))
    (tSeq (tAsg (tLst tNil) (gName 3))
    (tSeq (tWhile (tTest (tOp rLt_ (tCB (rLen_ K) (tCons (tVar 3) tNil)) (tOp (rIxT K) (tVar 2) (tC (.int 0))))) (tDrop (tBM K "list" rAppend (tVar 3) (tCons (tMeth (He.ga K "Line") "next_number" (sp_Line_next_number K) [] E0 (tVar 0) tNil) tNil))))
    (tSeq (tAsg (tLst tNil) (gName 4))
    (tSeq (tWhile (tTest (tOp rLt_ (tCB (rLen_ K) (tCons (tVar 4) tNil)) (tOp (rIxT K) (tVar 2) (tC (.int 1))))) (tDrop (tBM K "list" rAppend (tVar 4) (tCons (tMeth (He.ga K "Line") "next_row" (sp_Line_next_row K) [] E0 (tVar 0) tNil) tNil))))
    (tRet (tMake (He.ga K "Call") (sp_Call_init K) [] E0 (tCons (tVar 1) (tCons (tVar 3) (tCons (tVar 4) tNil)))))))))))
section
variable {K : PySem.W.Frag} {mg : Str → Option Value}
theorem LnI.At.upd {L : LnI} {H0 H : Hp} {r0 r : List Int} {p : Addr} {o : HO} (A0 : L.At K H0 r0) (A : L.At K H r) (k : Keep L.p H0 H) (n : H0 p = none) : L.At K (upd H p o) r := by
  obtain ⟨n0, a1, a2, a3, a4⟩ := A0
  obtain ⟨n1, b1, b2, b3, b4⟩ := A
  refine ⟨n1, ?_, sql_keep a2 (k.new n) a1, b3, b4⟩
  rw [upd_ne (ne_of_none a1 n)]
  exact b1
theorem row_keep {H H' : Hp} {a p C dx : Addr} {x : List Int} {fs : List (Str × V)} (h : RowAt H a x) (k : Keep p H H') (hp : H p = some (.ins C dx fs)) : RowAt H' a x := k _ _ (ne_of h hp (by intro z; cases z)) h
theorem len_Line_next_call {vs : List V} {H : Hp} {Q : VK} {E : XK} (h : sp_Line_next_call K vs H Q E) : vs.length = 1 := by
  obtain ⟨_, _, _, _, _, _, rfl, _⟩ := h
  rfl
theorem putRows_drop {xs : List (List Int)} {j : Nat} {x : List Int} (h : xs[j]? = some x) : PyFlat.putRows (xs.drop j) = PyFlat.putRow x ++ PyFlat.putRows (xs.drop (j + 1)) := by
  have hj : j < xs.length := (List.getElem?_eq_some_iff.mp h).1
  rw [List.drop_eq_getElem_cons hj]
  have : xs[j] = x := (List.getElem?_eq_some_iff.mp h).2
  rw [this]
  rfl
theorem keep_free {p q : Addr} {H H' : Hp} {C dx : Addr} {fs : List (Str × V)} (k : Keep p H H') (hp : H' p = some (.ins C dx fs)) (n : H' q = none) : H q = none := by
  cases e : H q with
  | none => rfl
  | some o =>
    by_cases c : q = p
    · rw [c, hp] at n
      cases n
    · rw [k _ _ c e] at n
      cases n
theorem pure_Line_next_call (T : Txt K mg) (vs : List V) (H : Hp) (Q : VK) (E : XK) (h : sp_Line_next_call K vs H Q E) : t_Line_next_call K E { nx := fun _ H' => Q .non H', rt := Q } (start N_Line_next_call vs) H := by
  obtain ⟨L, kd, ns, xs, rest, si, rfl, A, hlk, htp, hns, hxs, k⟩ := h
  have A' := A
  obtain ⟨m, hm, _⟩ := A'
  have eA : PyFlat.put1 ((kd :: ns) :: xs) ++ rest = kd :: (ns ++ (PyFlat.putRows xs ++ rest)) := List.append_assoc (kd :: ns) (PyFlat.putRows xs) rest
  rw [eA] at A
  refine ⟨_, rfl, L.p, L.dx, _, rfl, hm, l_Line_next_number, L, kd, ns ++ (PyFlat.putRows xs ++ rest), rfl, A, fun H1 A1 k1 => ?_⟩
  refine ⟨_, rfl, _, _, kd, _, rfl, rfl, w_SHAPES T, hlk, (by show 0 ≤ sizeLine; decide), fun nl nnl => ?_⟩
  have tup : ∀ H : Hp, SqT K H (wvA K (He.ga K "SHAPES") si) ([(ns.length : Int), (xs.length : Int)].map V.int) := fun H => wt_SHAPES T H htp
  -- numbers
  refine ⟨fun m σ H' => ∃ i : Nat, m = ns.length - i ∧ i ≤ ns.length ∧ σ = [some (.ref L.p), some (.int kd), some (.ref (wvA K (He.ga K "SHAPES") si)), some (.ref nl), none] ∧ L.At K H' (ns.drop i ++ (PyFlat.putRows xs ++ rest)) ∧ H' nl = some (.lst ((ns.take i).map V.int)) ∧ Keep L.p H1 H',
    ⟨_, 0, rfl, Nat.zero_le _, rfl, A1.upd A1 (Keep.refl _ _) nnl, upd_same, (Keep.refl _ _).new nnl⟩, ?_⟩
  rintro m σ H2 ⟨i, rfl, hi, rfl, A2, h2, k2⟩
  refine ⟨_, rfl, _, _, rfl, .inl ⟨_, SqL.of h2, rfl⟩, _, rfl, _, _, 0, _, rfl, rfl, tup H2, rfl, _, _, rfl, rfl, _, rfl, ?_⟩
  rw [List.length_map, List.length_take, Nat.min_eq_left hi]
  by_cases c : i < ns.length
  · refine if_true_of (decide_eq_true (by omega)) ⟨fun σ' H'' => ∃ m', m' < ns.length - i ∧ ∃ i : Nat, m' = ns.length - i ∧ i ≤ ns.length ∧ σ' = [some (.ref L.p), some (.int kd), some (.ref (wvA K (He.ga K "SHAPES") si)), some (.ref nl), none] ∧ L.At K H'' (ns.drop i ++ (PyFlat.putRows xs ++ rest)) ∧ H'' nl = some (.lst ((ns.take i).map V.int)) ∧ Keep L.p H1 H'', fun _ _ h => h, ?_⟩
    have A2' := A2
    obtain ⟨m2, hm2, _⟩ := A2'
    rw [List.drop_eq_getElem_cons c] at A2
    refine ⟨_, rfl, .inl ⟨rfl, _, SqL.of h2⟩, _, rfl, L.p, L.dx, _, rfl, hm2, l_Line_next_number, L, ns[i], ns.drop (i + 1) ++ (PyFlat.putRows xs ++ rest), rfl, A2, fun H3 A3 k3 => ?_⟩
    have h3 := k3 _ _ (ne_of h2 hm2 (by intro z; cases z)) h2
    refine ⟨nl, _, _, rfl, rfl, h3, ?_, ns.length - (i + 1), by omega, i + 1, rfl, by omega, rfl, A1.upd A3 (k2.trans k3) nnl, ?_, (k2.trans k3).new nnl⟩
    · rw [List.length_map, List.length_take]
      exact size_ok (by omega)
    · rw [upd_same, take_more (List.getElem?_eq_getElem c), List.map_append]
      rfl
  · refine if_false_of (decide_eq_false (by omega)) ?_
    have ei : i = ns.length := by omega
    subst ei
    rw [List.drop_length, List.nil_append] at A2
    rw [List.take_length] at h2
    refine ⟨(by show 0 ≤ sizeLine; decide), fun rl nrl => ?_⟩
    have hnr : nl ≠ rl := fun z => by rw [z, nrl] at h2; cases h2
    have A2' := A2
    obtain ⟨m2, hm2, _⟩ := A2'
    -- rows
    refine ⟨fun m σ H' => ∃ (j : Nat) (as : List Addr), m = xs.length - j ∧ j ≤ xs.length ∧ σ = [some (.ref L.p), some (.int kd), some (.ref (wvA K (He.ga K "SHAPES") si)), some (.ref nl), some (.ref rl)] ∧ L.At K H' (PyFlat.putRows (xs.drop j) ++ rest) ∧ RowAt H' nl ns ∧ H' rl = some (.lst (as.map V.ref)) ∧ Each (fun a x => RowAt H' a x ∧ a ≠ rl) as (xs.take j) ∧ Keep L.p H2 H',
      ⟨_, 0, [], rfl, Nat.zero_le _, rfl, A2.upd A2 (Keep.refl _ _) nrl, ?_, upd_same, Each.nil, (Keep.refl _ _).new nrl⟩, ?_⟩
    · unfold RowAt
      rw [upd_ne hnr]
      exact h2
    rintro m σ H4 ⟨j, as, rfl, hj, rfl, A4, h4, r4, e4, k4⟩
    have A4' := A4
    obtain ⟨m4, hm4, _⟩ := A4'
    refine ⟨_, rfl, _, _, rfl, .inl ⟨_, SqL.of r4, rfl⟩, _, rfl, _, _, 1, _, rfl, rfl, tup H4, rfl, _, _, rfl, rfl, _, rfl, ?_⟩
    rw [List.length_map, e4.1, List.length_take, Nat.min_eq_left hj]
    by_cases c : j < xs.length
    · refine if_true_of (decide_eq_true (by omega)) ⟨fun σ' H'' => ∃ m', m' < xs.length - j ∧ ∃ (j : Nat) (as : List Addr), m' = xs.length - j ∧ j ≤ xs.length ∧ σ' = [some (.ref L.p), some (.int kd), some (.ref (wvA K (He.ga K "SHAPES") si)), some (.ref nl), some (.ref rl)] ∧ L.At K H'' (PyFlat.putRows (xs.drop j) ++ rest) ∧ RowAt H'' nl ns ∧ H'' rl = some (.lst (as.map V.ref)) ∧ Each (fun a x => RowAt H'' a x ∧ a ≠ rl) as (xs.take j) ∧ Keep L.p H2 H'', fun _ _ h => h, ?_⟩
      rw [putRows_drop (List.getElem?_eq_getElem c), List.append_assoc] at A4
      refine ⟨_, rfl, .inl ⟨rfl, _, SqL.of r4⟩, _, rfl, L.p, L.dx, _, rfl, hm4, l_Line_next_row, L, xs[j], PyFlat.putRows (xs.drop (j + 1)) ++ rest, rfl, A4, fun q H5 A5 k5 h5 nq => ?_⟩
      have r5 := k5 _ _ (ne_of r4 hm4 (by intro z; cases z)) r4
      have hqr : q ≠ rl := fun z => by rw [z, r4] at nq; cases nq
      refine ⟨rl, _, _, rfl, rfl, r5, ?_, xs.length - (j + 1), by omega, j + 1, as ++ [q], rfl, by omega, rfl, A2.upd A5 (k4.trans k5) nrl, ?_, ?_, ?_, (k4.trans k5).new nrl⟩
      · rw [List.length_map, e4.1, List.length_take]
        exact size_ok (by omega)
      · unfold RowAt
        rw [upd_ne hnr]
        exact row_keep h4 k5 hm4
      · rw [upd_same, List.map_append]
        rfl
      · rw [take_more (List.getElem?_eq_getElem c)]
        refine Each.push (e4.mono fun a x hx => ⟨?_, hx.2⟩) ⟨?_, hqr⟩
        · unfold RowAt
          rw [upd_ne hx.2]
          exact row_keep hx.1 k5 hm4
        · unfold RowAt
          rw [upd_ne hqr]
          exact h5
    · refine if_false_of (decide_eq_false (by omega)) ?_
      have ej : j = xs.length := by omega
      subst ej
      rw [List.drop_length] at A4
      rw [List.take_length] at e4
      refine ⟨_, rfl, _, rfl, _, rfl, fun q dx nq nd ne => ⟨q, dx, _, _, _, rfl, upd_same, fun H6 h6 k6 => ⟨rfl, ?_⟩⟩⟩
      have s6 := Same.made nq nd k6
      exact k q H6 (A4.same s6) (((k1.trans k2).trans k4).trans (Keep.same s6)) ⟨dx, nl, rl, h6, s6 _ _ h4, as, s6 _ _ r4, e4.mono fun a x hx => s6 _ _ hx.1⟩
end
end Ix
-- part IxD
set_option maxHeartbeats 4000000
namespace Ix
open PySem PySem.Spec PyProof.Rows L2
/-! ### the desk -/
def SheetOpt (K : PySem.W.Frag) (G : Hp) (v : V) (st : Option Vaidxa.Source) : Prop := match st with
  | none => v = .non
  | some S => ∃ p : Addr, v = .ref p ∧ SheetAt K G p S ∧ SrcOk S
def DeskO (K : PySem.W.Frag) (dx : Addr) (v : V) : HO := .ins (He.ga K "Desk") dx (F_Desk v)
/-- what load promises -/
def RetLd (K : PySem.W.Frag) (H : Hp) (Q : VK) (d dx : Addr) (t : Tx) : Prop :=
  if 1200 < t.length then NewI H Q [-1] else match Vaidxa.read t with
    | .error f => NewI H Q [1, (f.kind : Int), (f.place : Int)]
    | .ok S => ∀ (q p : Addr) (H' : Hp), RowAt H' q [0, (S.cols.length : Int), (S.table.groups.length : Int), (S.asks.length : Int), (S.indexes.length : Int)] → H q = none → Keep d H H' → H' d = some (DeskO K dx (.ref p)) → SheetAt K (diff H H') p S → SrcOk S → Q (.ref q) H'
def sp_load (K : PySem.W.Frag) : Sp := fun vs H Q _ => ∃ (d dx a : Addr) (v : V) (t : Tx), vs = [.ref d, .ref a] ∧ H d = some (DeskO K dx v) ∧ BytesAt K H a t ∧ t.length ≤ 1300 ∧ RetLd K H Q d dx t
abbrev N_load : List Str := ["desk", "text", "sheet", "fault"]
def t_load (K : PySem.W.Frag) (E : XK) : TS :=
  (tSeq (tIfS (tTest (tOp rGt_ (tCB (rLen_ K) (tCons (tVar 1) tNil)) (tC (.int 1200)))) (tRet (tLst (tCons (tUn rNeg_ (tC (.int 1))) tNil))) tNext)
    (tSeq (fun D σ H => (fun W => tAsg (tCallS (sp_sheet_of K) (WE W) (tCons (tVar 1) tNil)) (gName 2)) (wAs K (.ref (He.ga K "Fault")) 3 (fun a cls d => tRet (tLst (tCons (tC (.int 1)) (tCons (tXf a cls d (He.ga K "Fault") "kind" (tVar 3)) (tCons (tXf a cls d (He.ga K "Fault") "place" (tVar 3)) tNil))))) (fun _ _ _ _ => False) D) D σ H)
    (tSeq (sFld K (tVar 0) (tVar 2) "sheet")
    (tRet (tLst (tCons (tC (.int 0)) (tCons (tCB (rLen_ K) (tCons (tFld K (tVar 2) "columns") tNil)) (tCons (tCB (rLen_ K) (tCons (tFld K (tVar 2) "groups") tNil)) (tCons (tCB (rLen_ K) (tCons (tFld K (tVar 2) "questions") tNil)) (tCons (tCB (rLen_ K) (tCons (tFld K (tVar 2) "indexes") tNil)) tNil))))))))))
section
variable {K : PySem.W.Frag} {mg : Str → Option Value}
theorem sheetAt_same {H H' : Hp} {p : Addr} {S : Vaidxa.Source} (h : SheetAt K H p S) (s : Same H H') : SheetAt K H' p S := by
  obtain ⟨dx, cl, gl, ql, il, h1, h2, h3, h4, h5, h6⟩ := h
  exact ⟨dx, cl, gl, ql, il, s _ _ h1, s _ _ h2, groupsAt_same h3 s, questionsAt_same h4 s, indexesAt_same h5 s, h6⟩
theorem new_one {H : Hp} {Q : VK} {z : Int} (k : NewI H Q [z]) (p : Addr) (np : H p = none) : Q (.ref p) (upd H p (.lst [.int z])) := k p _ upd_same (same_new (Same.refl H) np) np
theorem len_load {vs : List V} {H : Hp} {Q : VK} {E : XK} (h : sp_load K vs H Q E) : vs.length = 2 := by
  obtain ⟨_, _, _, _, _, rfl, _⟩ := h
  rfl
theorem pure_load (T : Txt K mg) (vs : List V) (H : Hp) (Q : VK) (E : XK) (h : sp_load K vs H Q E) : t_load K E { nx := fun _ H' => Q .non H', rt := Q } (start N_load vs) H := by
  obtain ⟨d, dx, a, v, t, rfl, hd, hB, hl, k⟩ := h
  unfold RetLd at k
  refine ⟨_, rfl, _, _, rfl, .inl ⟨_, hB, rfl⟩, _, _, rfl, rfl, _, rfl, ?_⟩
  rw [List.length_map]
  by_cases c : 1200 < t.length
  · rw [if_pos c] at k
    refine if_true_of (decide_eq_true (by omega)) ?_
    exact ⟨_, rfl, (by show 1 ≤ sizeLine; decide), fun p np => new_one k p np⟩
  · rw [if_neg c] at k
    refine if_false_of (decide_eq_false (by omega)) ?_
    refine ⟨_, rfl, a, t, rfl, hB, by omega, ?_⟩
    cases er : Vaidxa.read t with
    | error f =>
      rw [er] at k
      intro e H1 he s1
      refine ⟨true, (x_Fault_init T).te, fun _ b nb => ?_, fun z => by cases z⟩
      refine ⟨_, rfl, rfl, rfl, e, _, _, rfl, he, rfl, _, rfl, rfl, rfl, e, _, _, rfl, he, rfl, (by show 3 ≤ sizeLine; decide), fun p np => ?_⟩
      exact k p _ upd_same (same_new s1 (s1.free np)) (s1.free np)
    | ok S =>
      rw [er] at k
      have k : ∀ (q p : Addr) (H' : Hp), RowAt H' q [0, (S.cols.length : Int), (S.table.groups.length : Int), (S.asks.length : Int), (S.indexes.length : Int)] → H q = none → Keep d H H' → H' d = some (DeskO K dx (.ref p)) → SheetAt K (diff H H') p S → SrcOk S → Q (.ref q) H' := k
      intro p H1 hS s1
      have hok := read_ok er
      have hd1 := s1 _ _ hd
      refine ⟨_, rfl, _, rfl, d, _, dx, _, rfl, hd1, cl_Desk T, n_Desk_sheet T, (by show 1 < 1000; decide), ?_⟩
      have sd : Same (diff H H1) (diff H (upd H1 d (.ins (He.ga K "Desk") dx (putF "sheet" (.ref p) (F_Desk v))))) := diff_on fun b o n hb => by
        rw [upd_ne (fun z => by rw [z, hd] at n; cases n)]
        exact hb
      have hS2 := sheetAt_same hS sd
      have hS3 := sheetAt_same hS2 same_diff
      obtain ⟨sdx, cl, gl, ql, il, h1, h2, ⟨ga, hg, hgE⟩, ⟨qa, hq, hqE⟩, ⟨ia, hi, hiE⟩, la, li⟩ := hS3
      refine ⟨_, rfl, p, _, sdx, _, _, rfl, h1, cl_Sheet T, n_Sheet_columns T, l_Sheet_columns, _, _, rfl, .inl ⟨_, SqL.of h2, rfl⟩, _, rfl, p, _, sdx, _, _, rfl, h1, cl_Sheet T, n_Sheet_groups T, l_Sheet_groups, _, _, rfl, .inl ⟨_, SqL.of hg, rfl⟩,
        _, rfl, p, _, sdx, _, _, rfl, h1, cl_Sheet T, n_Sheet_questions T, l_Sheet_questions, _, _, rfl, .inl ⟨_, SqL.of hq, rfl⟩, _, rfl, p, _, sdx, _, _, rfl, h1, cl_Sheet T, n_Sheet_indexes T, l_Sheet_indexes, _, _, rfl, .inl ⟨_, SqL.of hi, rfl⟩, (by show 5 ≤ sizeLine; decide), fun q nq => ?_⟩
      have lz : (S.askNames.zip S.asks).length = S.asks.length := by
        rw [List.length_zip, la, Nat.min_self]
      have lz2 : (S.indexNames.zip S.indexes).length = S.indexes.length := by
        rw [List.length_zip, li, Nat.min_self]
      rw [p_Desk_sheet] at *
      have hqd : q ≠ d := fun z => by rw [z, upd_same] at nq; cases nq
      have nq1 : H1 q = none := by
        rw [upd_ne hqd] at nq
        exact nq
      refine k q p _ ?_ (s1.free nq1) (((Keep.same s1).upd).new (s1.free nq1)) ?_ (sheetAt_same hS2 ?_) hok
      · unfold RowAt
        rw [upd_same, List.length_map, List.length_map, List.length_map, List.length_map, hgE.1, hqE.1, hiE.1, lz, lz2]
        rfl
      · rw [upd_ne (Ne.symm hqd), upd_same]
        rfl
      · exact diff_on fun b o n hb => by
          rw [upd_ne (fun z => by rw [z, nq] at hb; cases hb)]
          exact hb
theorem indexOf_in {n : Int} {m : Nat} (h : 0 ≤ n ∧ n < (m : Int)) : Vaidxa.indexOf n m = some n.toNat := if_pos h
theorem indexOf_out {n : Int} {m : Nat} (h : ¬ (0 ≤ n ∧ n < (m : Int))) : Vaidxa.indexOf n m = none := if_neg h
theorem zip_at {α β : Type} {l : List α} {m : List β} {i : Nat} {x : α × β} (h : (l.zip m)[i]? = some x) : m[i]? = some x.2 := by
  rw [List.getElem?_zip_eq_some] at h
  exact h.2
end
end Ix
-- part IxD2
set_option maxHeartbeats 4000000
namespace Ix
open PySem PySem.Spec PyProof.Rows L2
/-! ### what a question answers -/
def ansL (ps : List Pt) : List Int := ((sumR ps : Nat) : Int) :: ((ps.length : Nat) : Int) :: ps.flatMap fun p => VaidxBase.int p.rows :: VaidxBase.ints p.values
def aloneL (gs : List VaidxBase.Group) (fs : List VaidxBase.Filter) : List Int := VaidxBase.int (VaidxBase.rowsOf (gs.filter fun g => fs.all (VaidxBase.passes g.row))) :: VaidxBase.int fs.length :: fs.map fun f => VaidxBase.int (VaidxBase.rowsOf (gs.filter fun g => [f].all (VaidxBase.passes g.row)))
def srvL (xs : List VaidxBase.Index) (q : VaidxBase.Question) : List (VaidxBase.Index × Nat) := xs.zipIdx.filter fun i => VaidxBase.serves i.1 q
def srvF (q : VaidxBase.Question) (i : VaidxBase.Index × Nat) : List Int := [VaidxBase.int i.2, Vaidxa.bool (VaidxBase.covers i.1 q), Vaidxa.bool (VaidxBase.isFree i.1 q)]
def servL (xs : List VaidxBase.Index) (q : VaidxBase.Question) : List Int := VaidxBase.int (srvL xs q).length :: (srvL xs q).flatMap (srvF q)
def sp_rows_answered (K : PySem.W.Frag) : Sp := fun vs H Q _ => ∃ (a b : Addr) (gs : List VaidxBase.Group) (y : NQ) (n : Nat), vs = [.ref a, .ref b] ∧ GroupsAt K H a gs ∧ QuestionAt K H b y ∧ QOk n y.2 ∧ n ≤ 4 ∧ GsOk n gs ∧ NewI H Q (ansL (answerG gs y.2))
def sp_filters_alone (K : PySem.W.Frag) : Sp := fun vs H Q _ => ∃ (a b : Addr) (gs : List VaidxBase.Group) (fs : List VaidxBase.Filter) (n : Nat), vs = [.ref a, .ref b] ∧ GroupsAt K H a gs ∧ FiltersAt K H b fs ∧ FsOk n fs ∧ n ≤ 4 ∧ GsOk n gs ∧ NewI H Q (aloneL gs fs)
def sp_indexes_serving (K : PySem.W.Frag) : Sp := fun vs H Q _ => ∃ (a b : Addr) (is : List NI) (y : NQ) (n : Nat), vs = [.ref a, .ref b] ∧ IndexesAt K H a is ∧ QuestionAt K H b y ∧ (∀ x ∈ is, IOk n x.2) ∧ QOk n y.2 ∧ n ≤ 4 ∧ is.length ≤ 8 ∧ NewI H Q (servL (is.map fun x => x.2) y.2)
abbrev N_rows_answered : List Str := ["groups", "question", "parts", "numbers", "part"]
def t_rows_answered (K : PySem.W.Frag) (E : XK) : TS :=
  (tSeq (tAsg (tCall (sp_answered_parts K) [] E0 (tCons (tVar 0) (tCons (tVar 1) tNil))) (gName 2))
    (tSeq (tAsg (tLst (tCons (tCB (rSum K) (tCons (tLc (iList K (tVar 2)) (gName 4) tYes (tFld K (tVar 4) "rows") [4]) tNil)) (tCons (tCB (rLen_ K) (tCons (tVar 2) tNil)) tNil))) (gName 3))
    (tSeq (tFor (iList K (tVar 2)) (gName 4) (tSeq (tDrop (tBM K "list" rAppend (tVar 3) (tCons (tFld K (tVar 4) "rows") tNil)))
    (tDrop (tBM K "list" (rExtendT K) (tVar 3) (tCons (tFld K (tVar 4) "cells") tNil)))))
    (tRet (tVar 3)))))
abbrev N_filters_alone : List Str := ["groups", "filters", "sieve"]
def t_filters_alone (K : PySem.W.Frag) (E : XK) : TS :=
  (tRet (tOp rCat (tLst (tCons (tCall (sp_rows_passing K) [] E0 (tCons (tVar 0) (tCons (tVar 1) tNil))) (tCons (tCB (rLen_ K) (tCons (tVar 1) tNil)) tNil))) (tLc (iList K (tVar 1)) (gName 2) tYes (tCall (sp_rows_passing K) [] E0 (tCons (tVar 0) (tCons (tLst (tCons (tVar 2) tNil)) tNil))) [2])))
abbrev N_indexes_serving : List Str := ["indexes", "question", "serving", "numbers", "number", "index"]
def t_indexes_serving (K : PySem.W.Frag) (E : XK) : TS :=
  (tSeq (tAsg (tLc (iEnum K (tCons (tVar 0) tNil)) (gTup K 2 (gCons (gName 4) (gCons (gName 5) gNil))) (tB (tCall (sp_serves K) [] E0 (tCons (tVar 5) (tCons (tVar 1) tNil)))) (tVar 4) [4, 5]) (gName 2))
    (tSeq (tAsg (tLst (tCons (tCB (rLen_ K) (tCons (tVar 2) tNil)) tNil)) (gName 3))
    (tSeq (tFor (iList K (tVar 2)) (gName 4) (tSeq (tDrop (tBM K "list" rAppend (tVar 3) (tCons (tVar 4) tNil)))
    (tSeq (tDrop (tBM K "list" rAppend (tVar 3) (tCons (tCall (sp_one_if K) [] E0 (tCons (tCall (sp_covers K) [] E0 (tCons (tOp (rIxL K) (tVar 0) (tVar 4)) (tCons (tVar 1) tNil))) tNil)) tNil)))
    (tDrop (tBM K "list" rAppend (tVar 3) (tCons (tCall (sp_one_if K) [] E0 (tCons (tCall (sp_is_free_by K) [] E0 (tCons (tOp (rIxL K) (tVar 0) (tVar 4)) (tCons (tVar 1) tNil))) tNil)) tNil))))))
    (tRet (tVar 3)))))
theorem partsG_len {n : Nat} {gs : List VaidxBase.Group} (h : GsOk n gs) (q : VaidxBase.Question) : (partsG gs q).length ≤ 12 := by
  obtain ⟨t1, _⟩ := sorted_ok q.order (foundG gs q) [] (found_ok h q) (fun x hx => absurd hx List.not_mem_nil) List.Pairwise.nil
  have h1 := tg_len (tg ((if q.back then (VaidxBase.sortedBy q.order (foundG gs q)).reverse else VaidxBase.sortedBy q.order (foundG gs q)).map (ptG q)))
  have h2 : (VaidxBase.sortedBy q.order (foundG gs q)).length ≤ 12 := by
    have e := t1.length_eq
    rw [List.nil_append] at e
    unfold VaidxBase.sortedBy
    rw [e]
    exact Nat.le_trans (List.length_filter_le _ _) h.len
  unfold partsG
  refine Nat.le_trans h1 ?_
  rw [List.length_map]
  split
  · rw [List.length_reverse]
    exact h2
  · exact h2
theorem parts_vals {gs : List VaidxBase.Group} {q : VaidxBase.Question} {p : Pt} (hp : p ∈ partsG gs q) : p.values.length = q.order.length := by
  unfold partsG at hp
  have := ((tg _).mem p.values).mp (List.mem_map.mpr ⟨p, hp, rfl⟩)
  rw [vls_map] at this
  obtain ⟨g, hg, e⟩ := List.mem_map.mp this
  rw [← e]
  exact key_len _ _
theorem upTo_vals : ∀ (n : Nat) (l : List Pt) (p : Pt), p ∈ upTo n l → ∃ r ∈ l, r.values = p.values
  | n, [], p, h => by
    have : upTo n [] = [] := by
      unfold upTo
      rfl
    rw [this] at h
    exact absurd h List.not_mem_nil
  | n, x :: l, p, h => by
    have h : p ∈ (if n = 0 then [] else ⟨x.values, if n < x.rows then n else x.rows⟩ :: upTo (n - (if n < x.rows then n else x.rows)) l : List Pt) := h
    by_cases z : n = 0
    · rw [if_pos z] at h
      exact absurd h List.not_mem_nil
    · rw [if_neg z] at h
      rcases List.mem_cons.mp h with e | h
      · exact ⟨x, List.mem_cons_self, by rw [e]⟩
      · obtain ⟨r, hr, e⟩ := upTo_vals _ l p h
        exact ⟨r, List.mem_cons_of_mem _ hr, e⟩
theorem answerG_ok {n : Nat} {gs : List VaidxBase.Group} (h : GsOk n gs) (q : VaidxBase.Question) : (answerG gs q).length ≤ 12 ∧ ∀ p ∈ answerG gs q, p.values.length = q.order.length := by
  unfold answerG
  split
  · exact ⟨partsG_len h q, fun p hp => parts_vals hp⟩
  · refine ⟨Nat.le_trans (upTo_len _ _) (partsG_len h q), fun p hp => ?_⟩
    obtain ⟨r, hr, e⟩ := upTo_vals _ _ p hp
    rw [← e]
    exact parts_vals hr
section
variable {K : PySem.W.Frag} {mg : Str → Option Value}
theorem len_rows_answered {vs : List V} {H : Hp} {Q : VK} {E : XK} (h : sp_rows_answered K vs H Q E) : vs.length = 2 := by
  obtain ⟨_, _, _, _, _, rfl, _⟩ := h
  rfl
theorem len_filters_alone {vs : List V} {H : Hp} {Q : VK} {E : XK} (h : sp_filters_alone K vs H Q E) : vs.length = 2 := by
  obtain ⟨_, _, _, _, _, rfl, _⟩ := h
  rfl
theorem len_indexes_serving {vs : List V} {H : Hp} {Q : VK} {E : XK} (h : sp_indexes_serving K vs H Q E) : vs.length = 2 := by
  obtain ⟨_, _, _, _, _, rfl, _⟩ := h
  rfl
theorem nV_ints (k : List Nat) : nV k = (VaidxBase.ints k).map V.int := (ints_V k).symm
theorem pure_rows_answered (T : Txt K mg) (vs : List V) (H : Hp) (Q : VK) (E : XK) (h : sp_rows_answered K vs H Q E) : t_rows_answered K E { nx := fun _ H' => Q .non H', rt := Q } (start N_rows_answered vs) H := by
  obtain ⟨a, b, gs, y, n, rfl, hG, hQ, hq, hn, hgs, k⟩ := h
  refine ⟨_, rfl, _, rfl, a, b, gs, y, n, rfl, hG, hQ, hq, hn, hgs, fun l H1 hl s1 nl => ?_⟩
  obtain ⟨lp, lv⟩ := answerG_ok hgs y.2
  have lo := hq.order.len
  generalize answerG gs y.2 = ps at k hl lp lv
  obtain ⟨as, hL, hE⟩ := hl
  refine ⟨_, rfl, l, rfl, ⟨_, SqL.of hL⟩, fun D nD => ?_⟩
  refine lc_ys (K := K) (xs := as.map V.ref) (ps.map fun p => V.int ((p.rows : Nat) : Int)) (by rw [List.length_map, List.length_map, hE.1]) nD (SqL.of hL) (by rw [List.length_map, hE.1]; omega) (fun j x y' hx hy H' hs Qe hQe => ?_) (fun H2 hd2 s2 => ?_)
  · obtain ⟨ra, r, rfl, hra, hrj, ⟨rdx, rca, hR, hC⟩⟩ := each_at hE hx
    rw [List.getElem?_map, hrj] at hy
    injection hy with hy
    subst hy
    exact ⟨_, rfl, ra, _, rdx, _, _, rfl, hs _ _ hR, cl_Part T, n_Part_rows T, l_Part_rows, hQe H' (Same.refl H')⟩
  · refine ⟨D, ps.map (fun p => ((p.rows : Nat) : Int)), rfl, SqL.of (hd2.trans ?_), _, rfl, _, _, rfl, .inl ⟨_, SqL.of (s2 _ _ hL), rfl⟩, (by show 2 ≤ sizeLine; decide), fun p np => ?_⟩
    · rw [List.map_map]
      rfl
    have s12 := s1.trans s2
    have np0 : H p = none := s12.free np
    have e0 : [V.int ((ps.map fun p => ((p.rows : Nat) : Int)).sum), V.int (((as.map V.ref).length : Nat) : Int)] = ([((sumR ps : Nat) : Int), ((ps.length : Nat) : Int)]).map V.int := by
      rw [List.length_map, hE.1]
      have e1 : (ps.map fun p => ((p.rows : Nat) : Int)).sum = ((sumR ps : Nat) : Int) := by
        unfold sumR
        rw [← sum_cast, List.map_map]
        rfl
      rw [e1]
      rfl
    rw [e0]
    generalize hbase : ([((sumR ps : Nat) : Int), ((ps.length : Nat) : Int)] : List Int) = base
    have lb : base.length = 2 := by rw [← hbase]; rfl
    have s3 : Same H2 (upd H2 p (.lst (base.map V.int))) := same_new (Same.refl H2) np
    have fl : ∀ i, ((ps.take i).flatMap fun p => VaidxBase.int p.rows :: VaidxBase.ints p.values).length ≤ 60 := fun i => by
      have h1 := flat_len (f := fun p : Pt => VaidxBase.int p.rows :: VaidxBase.ints p.values) (n := 5) (ps.take i) fun r hr => by
        show (VaidxBase.ints r.values).length + 1 ≤ 5
        rw [ints_len, lv r (List.mem_of_mem_take hr)]
        omega
      have h2 : (ps.take i).length ≤ 12 := by
        rw [List.length_take]
        omega
      omega
    refine ⟨_, rfl, l, rfl, ⟨_, SqL.of (s3 _ _ (s2 _ _ hL))⟩, ?_⟩
    refine for_list (K := K) (a := l) (xs := as.map V.ref) (fun i σ H' => Same H2 H' ∧ H' p = some (.lst ((base ++ (ps.take i).flatMap fun p => VaidxBase.int p.rows :: VaidxBase.ints p.values).map V.int)) ∧ ∃ v : Option V, σ = [some (.ref a), some (.ref b), some (.ref l), some (.ref p), v])
      ⟨s3, ?_, none, rfl⟩ (fun i σ H' _ ⟨s, _⟩ => SqL.of (s _ _ (s2 _ _ hL))) ?_ ?_
    · rw [upd_same]
      show _ = some (HO.lst ((base ++ []).map V.int))
      rw [List.append_nil]
    · rintro i x σ H4 hx ⟨s4, hp4, v, rfl⟩
      obtain ⟨ra, r, rfl, hra, hri, ⟨rdx, rca, hR, hC⟩⟩ := each_at hE hx
      have s24 := s2.trans s4
      have fi := fl i
      have rm : r ∈ ps := List.mem_of_getElem? hri
      refine app_step (K := K) (z := VaidxBase.int r.rows) rfl hp4 s4 np (by rw [List.length_append, lb]; omega) (fun Q' hQ' => ⟨_, rfl, ra, _, rdx, _, _, rfl, s24 _ _ hR, cl_Part T, n_Part_rows T, l_Part_rows, hQ'⟩) fun H5 s5 hp5 => ?_
      refine ⟨_, rfl, .inl ⟨rfl, _, SqL.of hp5⟩, _, rfl, ra, _, rdx, _, _, rfl, (s2.trans s5) _ _ hR, cl_Part T, n_Part_cells T, l_Part_cells, p, rca, _, _, rfl, rfl, hp5, (s2.trans s5) _ _ hC, ?_, same_upd np s5, ?_, _, rfl⟩
      · rw [List.length_map, len_snoc, List.length_append, lb, nV_ints, List.length_map, ints_len, lv r rm]
        exact size_le (by omega)
      · rw [upd_same, flat_take hri, nV_ints]
        simp only [List.map_append, List.append_assoc, List.map_cons, List.map_nil, List.cons_append, List.nil_append]
    · rintro σ H4 ⟨s4, hp4, v, rfl⟩
      rw [List.length_map, hE.1, List.take_length] at hp4
      refine ⟨_, rfl, k p H4 ?_ (s12.trans s4) np0⟩
      rw [hp4, ← hbase]
      rfl
theorem pure_filters_alone (T : Txt K mg) (vs : List V) (H : Hp) (Q : VK) (E : XK) (h : sp_filters_alone K vs H Q E) : t_filters_alone K E { nx := fun _ H' => Q .non H', rt := Q } (start N_filters_alone vs) H := by
  obtain ⟨a, b, gs, fs, n, rfl, hG, hB, hfs, hn, hgs, k⟩ := h
  have hB0 := hB
  obtain ⟨as, hF, hE⟩ := hB0
  have lf := hfs.len
  refine ⟨_, rfl, _, rfl, a, b, gs, fs, n, rfl, hG, hB, hfs, hn, hgs.len, hgs.ok, fun H1 s1 => ?_⟩
  refine ⟨_, rfl, _, _, rfl, .inl ⟨_, SqL.of (s1 _ _ hF), rfl⟩, (by show 2 ≤ sizeLine; decide), fun p np => ?_⟩
  have s2 := s1.trans (same_new (o := .lst [V.int ((VaidxBase.rowsOf (gs.filter fun g => fs.all (VaidxBase.passes g.row)) : Nat) : Int), V.int (((as.map V.ref).length : Nat) : Int)]) (Same.refl H1) np)
  refine ⟨_, rfl, b, rfl, ⟨_, SqL.of (s2 _ _ hF)⟩, fun D nD => ?_⟩
  refine lc_ys (K := K) (xs := as.map V.ref) ((fs.map fun f => VaidxBase.int (VaidxBase.rowsOf (gs.filter fun g => [f].all (VaidxBase.passes g.row)))).map V.int) (by rw [List.length_map, List.length_map, List.length_map, hE.1]) nD (SqL.of (s2 _ _ hF)) (by rw [List.length_map, hE.1]; omega) (fun j x y hx hy H' hs Qe hQe => ?_) (fun H3 hd3 s3 => ?_)
  · obtain ⟨fa, f, rfl, hfa, hfj, hFa⟩ := each_at hE hx
    rw [List.getElem?_map, List.getElem?_map, hfj] at hy
    injection hy with hy
    subst hy
    refine ⟨_, rfl, _, rfl, (by show 1 ≤ sizeLine; decide), fun q nq => ?_⟩
    have s4 : Same H' (upd H' q (.lst [.ref fa])) := same_new (Same.refl H') nq
    have s04 := (s2.trans hs).trans s4
    refine ⟨a, q, gs, [f], n, rfl, groupsAt_same hG s04, ⟨[fa], upd_same, Each.push Each.nil (filterAt_same hFa s04)⟩, ⟨fun f' hf' => ?_, by simp⟩, hn, hgs.len, hgs.ok, fun H5 s5 => hQe H5 (s4.trans s5)⟩
    rw [List.mem_singleton.mp hf']
    exact hfs.ok f (List.mem_of_getElem? hfj)
  · have hp3 : H3 p = some (.lst (([VaidxBase.int (VaidxBase.rowsOf (gs.filter fun g => fs.all (VaidxBase.passes g.row))), VaidxBase.int fs.length] : List Int).map V.int)) := by
      have := s3 p _ upd_same
      rw [this, List.length_map, hE.1]
      rfl
    refine cat_ints hp3 hd3 (by show 2 + _ ≤ _; rw [List.length_map]; omega) (k := ?_)
    exact NewI.mono k (s2.trans s3)
end
end Ix
-- part IxD3
set_option maxHeartbeats 4000000
namespace Ix
open PySem PySem.Spec PyProof.Rows L2
section
variable {K : PySem.W.Frag} {mg : Str → Option Value}
theorem zi_at {xs : List VaidxBase.Index} {j : Nat} {x : VaidxBase.Index} (h : xs[j]? = some x) : xs.zipIdx[j]? = some (x, j) := by
  rw [List.getElem?_zipIdx, h]
  simp
theorem ref_at {as : List Addr} {j : Nat} {a : Addr} (h : as[j]? = some a) : atI (as.map V.ref) ((j : Nat) : Int) = some (V.ref a) := by
  refine atI_nat ?_
  rw [List.getElem?_map, h]
  rfl
theorem each_get {α : Type} {P : Addr → α → Prop} {as : List Addr} {xs : List α} (e : Each P as xs) {i : Nat} {x : α} (h : xs[i]? = some x) : ∃ a, as[i]? = some a ∧ P a x := e.2 i x h
theorem pure_indexes_serving (T : Txt K mg) (vs : List V) (H : Hp) (Q : VK) (E : XK) (h : sp_indexes_serving K vs H Q E) : t_indexes_serving K E { nx := fun _ H' => Q .non H', rt := Q } (start N_indexes_serving vs) H := by
  obtain ⟨a, b, is, y, n, rfl, ⟨as, hA, hE⟩, hQ, his, hq, hn, hl, k⟩ := h
  generalize hxs : (is.map fun x => x.2) = xs at k
  have lx : xs.length = is.length := by rw [← hxs, List.length_map]
  have xat : ∀ {j : Nat} {x : NI}, is[j]? = some x → xs[j]? = some x.2 := fun {j x} h => by
    rw [← hxs, List.getElem?_map, h]
    rfl
  refine ⟨_, rfl, a, _, rfl, SqL.of hA, fun D nD => ?_⟩
  refine lc_it (walk_enum (K := K) (a := a) (xs := as.map V.ref)) (fun j H' => Same H H' ∧ H' D = some (.lst ((((xs.zipIdx.take j).filter fun i => VaidxBase.serves i.1 y.2).map fun i => VaidxBase.int i.2).map V.int))) ⟨same_new (Same.refl H) nD, upd_same⟩ (fun j H' _ p => SqL.of (p.1 _ _ hA)) ?_ ?_
  · rintro j v H1 H2 hj ⟨s1, hD1⟩ ⟨t, x1, x2, rfl, nt, rfl, e1, e2⟩
    injection e1 with e1
    subst e1
    obtain ⟨ia, x, rfl, hia, hij, hI⟩ := each_at hE e2
    have s2 : Same H1 (upd H1 t (.tup [.int (j : Nat), .ref ia])) := same_new (Same.refl H1) nt
    refine ⟨t, _, rfl, SqT.of upd_same, rfl, _, _, rfl, _, _, rfl, rfl, rfl, ?_⟩
    refine ⟨_, rfl, _, rfl, ia, b, x, y, n, rfl, indexAt_same hI (s1.trans s2), questionAt_same hQ (s1.trans s2), hq, hn, fun H3 s3 => ⟨_, rfl, ?_⟩⟩
    have s13 := s2.trans s3
    have hD3 := s13 _ _ hD1
    have ez := zi_at (xat hij)
    rw [take_more ez, List.filter_append, List.map_append]
    cases c : VaidxBase.serves x.2 y.2 with
    | true =>
      have e3 : ([(x.2, j)] : List (VaidxBase.Index × Nat)).filter (fun i => VaidxBase.serves i.1 y.2) = [(x.2, j)] := by simp [List.filter, c]
      rw [e3]
      refine if_true_of rfl ⟨_, rfl, _, hD3, ?_, same_new (s1.trans s13) nD, ?_⟩
      · rw [List.length_map, List.length_map]
        refine size_ok (Nat.le_trans (List.length_filter_le _ _) ?_)
        rw [List.length_take, List.length_zipIdx]
        omega
      · rw [upd_same, List.map_append]
        rfl
    | false =>
      have e3 : ([(x.2, j)] : List (VaidxBase.Index × Nat)).filter (fun i => VaidxBase.serves i.1 y.2) = [] := by simp [List.filter, c]
      rw [e3, List.map_nil, List.append_nil]
      exact if_false_of rfl ⟨s1.trans s13, hD3⟩
  · rintro H1 ⟨s1, hD1⟩
    have e0 : xs.zipIdx.take (as.map V.ref).length = xs.zipIdx := by
      refine List.take_of_length_le ?_
      rw [List.length_zipIdx, List.length_map, hE.1]
      omega
    rw [e0] at hD1
    have hD1 : H1 D = some (.lst (((srvL xs y.2).map fun i => VaidxBase.int i.2).map V.int)) := hD1
    have ls : (srvL xs y.2).length ≤ 8 := by
      refine Nat.le_trans (List.length_filter_le _ _) ?_
      rw [List.length_zipIdx]
      omega
    refine ⟨_, rfl, _, _, rfl, .inl ⟨_, SqL.of hD1, rfl⟩, (by show 1 ≤ sizeLine; decide), fun p np => ?_⟩
    have e1 : [V.int (((((srvL xs y.2).map fun i => VaidxBase.int i.2).map V.int).length : Nat) : Int)] = ([VaidxBase.int (srvL xs y.2).length] : List Int).map V.int := by
      rw [List.length_map, List.length_map]
      rfl
    rw [e1]
    have np0 : H p = none := s1.free np
    have s2 : Same H1 (upd H1 p (.lst (([VaidxBase.int (srvL xs y.2).length] : List Int).map V.int))) := same_new (Same.refl H1) np
    have fl : ∀ i, (((srvL xs y.2).take i).flatMap (srvF y.2)).length ≤ 24 := fun i => by
      have h1 := flat_len (f := srvF y.2) (n := 3) ((srvL xs y.2).take i) fun r _ => Nat.le_refl 3
      have h2 : ((srvL xs y.2).take i).length ≤ 8 := by
        rw [List.length_take]
        omega
      omega
    refine ⟨_, rfl, D, rfl, ⟨_, SqL.of (s2 _ _ hD1)⟩, ?_⟩
    refine for_list (K := K) (a := D) (xs := ((srvL xs y.2).map fun i => VaidxBase.int i.2).map V.int) (fun i σ H' => Same H1 H' ∧ H' p = some (.lst ((VaidxBase.int (srvL xs y.2).length :: ((srvL xs y.2).take i).flatMap (srvF y.2)).map V.int)) ∧ ∃ v : Option V, σ = [some (.ref a), some (.ref b), some (.ref D), some (.ref p), v, none])
      ⟨s2, upd_same, none, rfl⟩ (fun i σ H' _ ⟨s, _⟩ => SqL.of (s _ _ hD1)) ?_ ?_
    · rintro i x σ H4 hx ⟨s4, hp4, v, rfl⟩
      rw [List.getElem?_map, List.getElem?_map] at hx
      obtain ⟨m0, hm0, rfl⟩ := Option.map_eq_some_iff.mp hx
      obtain ⟨⟨ix, m⟩, hri, rfl⟩ := Option.map_eq_some_iff.mp hm0
      have hmem := (List.mem_filter.mp (List.mem_of_getElem? hri)).1
      have hxm : xs[m]? = some ix := List.mem_zipIdx_iff_getElem?.mp hmem
      obtain ⟨z, hz, ez⟩ : ∃ z : NI, is[m]? = some z ∧ z.2 = ix := by
        rw [← hxs, List.getElem?_map] at hxm
        obtain ⟨z, hz, e⟩ := Option.map_eq_some_iff.mp hxm
        exact ⟨z, hz, e⟩
      subst ez
      obtain ⟨ia, hia, hI⟩ := each_get hE hz
      have hio := his z (List.mem_of_getElem? hz)
      have fi := fl i
      refine app_step (K := K) (z := VaidxBase.int m) rfl hp4 s4 np (by rw [List.length_cons]; omega) (fun Q' hQ' => ⟨_, rfl, hQ'⟩) fun H5 s5 hp5 => ?_
      have s15 := s1.trans s5
      refine ⟨_, rfl, .inl ⟨rfl, _, SqL.of hp5⟩, _, rfl, _, rfl, a, _, _, _, rfl, rfl, SqL.of (s15 _ _ hA), ref_at hia, _, rfl, ia, b, z, y, n, rfl, indexAt_same hI s15, questionAt_same hQ s15, hio, hq, hn, fun H6 s6 => ⟨_, rfl, p, _, _, rfl, rfl, s6 _ _ hp5, ?_, ?_⟩⟩
      · rw [List.length_map, len_snoc, List.length_cons]
        exact size_ok (by omega)
      have s56 := s5.trans s6
      have hp7 : upd H6 p (.lst ((((VaidxBase.int (srvL xs y.2).length :: ((srvL xs y.2).take i).flatMap (srvF y.2)) ++ [VaidxBase.int m]).map V.int) ++ [V.int (Vaidxa.bool (VaidxBase.covers z.2 y.2))])) p = some (.lst ((((VaidxBase.int (srvL xs y.2).length :: ((srvL xs y.2).take i).flatMap (srvF y.2)) ++ [VaidxBase.int m]) ++ [Vaidxa.bool (VaidxBase.covers z.2 y.2)]).map V.int)) := by
        rw [upd_same, List.map_append (l₂ := [Vaidxa.bool (VaidxBase.covers z.2 y.2)])]
        rfl
      have s7 := same_upd (o := .lst ((((VaidxBase.int (srvL xs y.2).length :: ((srvL xs y.2).take i).flatMap (srvF y.2)) ++ [VaidxBase.int m]).map V.int) ++ [V.int (Vaidxa.bool (VaidxBase.covers z.2 y.2))])) np s56
      have s17 := s1.trans s7
      refine ⟨_, rfl, .inl ⟨rfl, _, SqL.of hp7⟩, _, rfl, _, rfl, a, _, _, _, rfl, rfl, SqL.of (s17 _ _ hA), ref_at hia, _, rfl, ia, b, z, y, n, rfl, indexAt_same hI s17, questionAt_same hQ s17, hio, hq, hn, fun H8 s8 => ⟨_, rfl, p, _, _, rfl, rfl, s8 _ _ hp7, ?_, ?_⟩⟩
      · rw [List.length_map, len_snoc, len_snoc, List.length_cons]
        exact size_ok (by omega)
      refine ⟨same_upd np (s7.trans s8), ?_, _, rfl⟩
      rw [upd_same, flat_take hri]
      simp only [srvF, List.map_append, List.append_assoc, List.map_cons, List.map_nil, List.cons_append, List.nil_append]
    · rintro σ H4 ⟨s4, hp4, v, rfl⟩
      rw [List.length_map, List.length_map, List.take_length] at hp4
      exact ⟨_, rfl, k p H4 hp4 (s1.trans s4) np0⟩
end
end Ix
-- part IxD4
set_option maxHeartbeats 4000000
namespace Ix
open PySem PySem.Spec PyProof.Rows L2
/-! ### by the question's, the index's, the column's number; by filters -/
def qAns (S : Vaidxa.Source) (k : Int) (q : VaidxBase.Question) : List Int := if k = 3 then VaidxBase.flatQuestion q else if k = 7 then ansL (answerG S.table.groups q) else if k = 8 then aloneL S.table.groups q.filters else servL S.indexes q
def iAns (S : Vaidxa.Source) (k : Int) (i : VaidxBase.Index) : List Int := if k = 4 then VaidxBase.flatIndex i else [VaidxBase.int (entOf S.table.groups i), VaidxBase.int (entOf S.table.groups i * ((VaidxBase.columnsOf i).length + 1))]
def colAns (S : Vaidxa.Source) (c : Int) : List Int := match Vaidxa.indexOf c S.cols.length with
  | none => [-5]
  | some k => VaidxBase.ints (Vaidxa.split S.table k)
def countAns (S : Vaidxa.Source) (l : List Int) : List Int := match Vaidxa.filtersOf S.cols.length l with
  | none => [-4]
  | some fs => [VaidxBase.int (Vaidxa.passRows S.table fs), VaidxBase.int (VaidxBase.allRows S.table)]
def impAns (S : Vaidxa.Source) (l m : List Int) : List Int := match Vaidxa.filtersOf S.cols.length l with
  | none => [-4]
  | some fs => match Vaidxa.filterOf S.cols.length m with
    | none => [-4]
    | some g => [Vaidxa.bool (Vaidxa.implies fs g), Vaidxa.bool (Vaidxa.impliesIn S.table fs g)]
def sp_about_question (K : PySem.W.Frag) : Sp := fun vs H Q _ => ∃ (p : Addr) (S : Vaidxa.Source) (k n : Int), vs = [.ref p, .int k, .int n] ∧ SheetAt K H p S ∧ SrcOk S ∧ NewI H Q (Vaidxa.onAsk S n (qAns S k))
def sp_about_index (K : PySem.W.Frag) : Sp := fun vs H Q _ => ∃ (p : Addr) (S : Vaidxa.Source) (k n : Int), vs = [.ref p, .int k, .int n] ∧ SheetAt K H p S ∧ SrcOk S ∧ NewI H Q (Vaidxa.onIndex S n (iAns S k))
def sp_column_split (K : PySem.W.Frag) : Sp := fun vs H Q _ => ∃ (p : Addr) (S : Vaidxa.Source) (n : Int), vs = [.ref p, .int n] ∧ SheetAt K H p S ∧ SrcOk S ∧ NewI H Q (colAns S n)
def sp_about_filters (K : PySem.W.Frag) : Sp := fun vs H Q _ => ∃ (p q : Addr) (S : Vaidxa.Source) (k : Int) (ns : List Int) (xs : List (List Int)), vs = [.ref p, .ref q] ∧ SheetAt K H p S ∧ SrcOk S ∧ CallAt K H q k ns xs ∧
  ((∃ l, k = 5 ∧ xs = [l] ∧ NewI H Q (countAns S l)) ∨ ∃ l m, k = 9 ∧ xs = [l, m] ∧ NewI H Q (impAns S l m))
abbrev N_about_question : List Str := ["sheet", "kind", "number", "question"]
def t_about_question (K : PySem.W.Frag) (E : XK) : TS :=
  (tSeq (tIfS (tNot (tTest (tChain rLe_ rLt_ (tC (.int 0)) (tVar 2) (tCB (rLen_ K) (tCons (tFld K (tVar 0) "questions") tNil))))) (tRet (tLst (tCons (tUn rNeg_ (tC (.int 2))) tNil))) tNext)
    (tSeq (tAsg (tOp (rIxL K) (tFld K (tVar 0) "questions") (tVar 2)) (gName 3))
    (tSeq (tIfS (tTest (tOp rEq (tVar 1) (tC (.int 3)))) (tRet (tCall (sp_question_numbers K) [] E0 (tCons (tVar 3) tNil))) tNext)
    (tSeq (tIfS (tTest (tOp rEq (tVar 1) (tC (.int 7)))) (tRet (tCall (sp_rows_answered K) [] E0 (tCons (tFld K (tVar 0) "groups") (tCons (tVar 3) tNil)))) tNext)
    (tSeq (tIfS (tTest (tOp rEq (tVar 1) (tC (.int 8)))) (tRet (tCall (sp_filters_alone K) [] E0 (tCons (tFld K (tVar 0) "groups") (tCons (tFld K (tVar 3) "filters") tNil)))) tNext)
    (tRet (tCall (sp_indexes_serving K) [] E0 (tCons (tFld K (tVar 0) "indexes") (tCons (tVar 3) tNil)))))))))
abbrev N_about_index : List Str := ["sheet", "kind", "number", "index"]
def t_about_index (K : PySem.W.Frag) (E : XK) : TS :=
  (tSeq (tIfS (tNot (tTest (tChain rLe_ rLt_ (tC (.int 0)) (tVar 2) (tCB (rLen_ K) (tCons (tFld K (tVar 0) "indexes") tNil))))) (tRet (tLst (tCons (tUn rNeg_ (tC (.int 3))) tNil))) tNext)
    (tSeq (tAsg (tOp (rIxL K) (tFld K (tVar 0) "indexes") (tVar 2)) (gName 3))
    (tSeq (tIfS (tTest (tOp rEq (tVar 1) (tC (.int 4)))) (tRet (tCall (sp_index_numbers K) [] E0 (tCons (tVar 3) tNil))) tNext)
    (tRet (tLst (tCons (tCall (sp_entries_of K) [] E0 (tCons (tVar 3) (tCons (tFld K (tVar 0) "groups") tNil))) (tCons (tCall (sp_room_of K) [] E0 (tCons (tVar 3) (tCons (tFld K (tVar 0) "groups") tNil))) tNil)))))))
abbrev N_column_split : List Str := ["sheet", "column"]
def t_column_split (K : PySem.W.Frag) (E : XK) : TS :=
  (tSeq (tIfS (tNot (tTest (tChain rLe_ rLt_ (tC (.int 0)) (tVar 1) (tCB (rLen_ K) (tCons (tFld K (tVar 0) "columns") tNil))))) (tRet (tLst (tCons (tUn rNeg_ (tC (.int 5))) tNil))) tNext)
    (tRet (tCall (sp_rows_split K) [] E0 (tCons (tFld K (tVar 0) "groups") (tCons (tVar 1) tNil)))))
abbrev N_about_filters : List Str := ["sheet", "call", "filters", "sieve"]
def t_about_filters (K : PySem.W.Frag) (E : XK) : TS :=
  (tSeq (tAsg (tCall (sp_filters_of K) [] E0 (tCons (tOp (rIxL K) (tFld K (tVar 1) "rows") (tC (.int 0))) (tCons (tCB (rLen_ K) (tCons (tFld K (tVar 0) "columns") tNil)) tNil))) (gName 2))
    (tSeq (tIfS (tTest (tOp rIsN_ (tVar 2) (tC .non))) (tRet (tLst (tCons (tUn rNeg_ (tC (.int 4))) tNil))) tNext)
    (tSeq (tIfS (tTest (tOp rEq (tFld K (tVar 1) "kind") (tC (.int 5)))) (tRet (tLst (tCons (tCall (sp_rows_passing K) [] E0 (tCons (tFld K (tVar 0) "groups") (tCons (tVar 2) tNil))) (tCons (tCall (sp_rows_passing K) [] E0 (tCons (tFld K (tVar 0) "groups") (tCons (tLst tNil) tNil))) tNil)))) tNext)
    (tSeq (tAsg (tCall (sp_filter_of K) [] E0 (tCons (tOp (rIxL K) (tFld K (tVar 1) "rows") (tC (.int 1))) (tCons (tCB (rLen_ K) (tCons (tFld K (tVar 0) "columns") tNil)) tNil))) (gName 3))
    (tSeq (tIfS (tTest (tOp rIsN_ (tVar 3) (tC .non))) (tRet (tLst (tCons (tUn rNeg_ (tC (.int 4))) tNil))) tNext)
    (tRet (tLst (tCons (tCall (sp_one_if K) [] E0 (tCons (tCall (sp_say K) [] E0 (tCons (tVar 2) (tCons (tVar 3) tNil))) tNil)) (tCons (tCall (sp_one_if K) [] E0 (tCons (tCall (sp_say_in_table K) [] E0 (tCons (tFld K (tVar 0) "groups") (tCons (tVar 2) (tCons (tVar 3) tNil)))) tNil)) tNil)))))))))
theorem SrcOk.gok {S : Vaidxa.Source} (h : SrcOk S) : GsOk S.cols.length S.table.groups := ⟨h.gl, h.gs⟩
theorem zip_snd {α β : Type} : ∀ {l : List α} {m : List β}, l.length = m.length → (l.zip m).map (fun x => x.2) = m
  | [], [], _ => rfl
  | [], _ :: _, h => by simp at h
  | _ :: _, [], h => by simp at h
  | _ :: l, b :: m, h => by
    rw [List.zip_cons_cons, List.map_cons, zip_snd (by simpa using h)]
section
variable {K : PySem.W.Frag} {mg : Str → Option Value}
theorem len_about_question {vs : List V} {H : Hp} {Q : VK} {E : XK} (h : sp_about_question K vs H Q E) : vs.length = 3 := by
  obtain ⟨_, _, _, _, rfl, _⟩ := h
  rfl
theorem len_about_index {vs : List V} {H : Hp} {Q : VK} {E : XK} (h : sp_about_index K vs H Q E) : vs.length = 3 := by
  obtain ⟨_, _, _, _, rfl, _⟩ := h
  rfl
theorem len_column_split {vs : List V} {H : Hp} {Q : VK} {E : XK} (h : sp_column_split K vs H Q E) : vs.length = 2 := by
  obtain ⟨_, _, _, rfl, _⟩ := h
  rfl
theorem len_about_filters {vs : List V} {H : Hp} {Q : VK} {E : XK} (h : sp_about_filters K vs H Q E) : vs.length = 2 := by
  obtain ⟨_, _, _, _, _, _, rfl, _⟩ := h
  rfl
theorem pure_about_question (T : Txt K mg) (vs : List V) (H : Hp) (Q : VK) (E : XK) (h : sp_about_question K vs H Q E) : t_about_question K E { nx := fun _ H' => Q .non H', rt := Q } (start N_about_question vs) H := by
  obtain ⟨p, S, kd, n, rfl, ⟨sdx, cl, gl, ql, il, h1, h2, hg, ⟨qa, hq, hqE⟩, hI, la, li⟩, hS, k⟩ := h
  have lz : (S.askNames.zip S.asks).length = S.asks.length := by
    rw [List.length_zip, la, Nat.min_self]
  have out : ¬ (0 ≤ n ∧ n < (S.asks.length : Int)) → NewI H Q [-2] := fun c => by
    unfold Vaidxa.onAsk at k
    rw [indexOf_out c] at k
    exact k
  refine ⟨_, rfl, 0, n, rfl, rfl, _, rfl, ?_⟩
  by_cases c1 : 0 ≤ n
  · refine if_true_of (decide_eq_true c1) ?_
    refine ⟨_, rfl, p, _, sdx, _, _, rfl, h1, cl_Sheet T, n_Sheet_questions T, l_Sheet_questions, _, _, rfl, .inl ⟨_, SqL.of hq, rfl⟩, _, _, rfl, rfl, _, rfl, ?_⟩
    rw [List.length_map, hqE.1, lz]
    by_cases c2 : n < (S.asks.length : Int)
    · refine if_false_of (by rw [decide_eq_true c2]; rfl) ?_
      have hlt : n.toNat < (qa.map V.ref).length := by
        rw [List.length_map, hqE.1, lz]
        omega
      obtain ⟨b, x, hb, _, hx, hX⟩ := each_at hqE (List.getElem?_eq_getElem hlt)
      have hn : n = ((n.toNat : Nat) : Int) := by omega
      have hat : atI (qa.map V.ref) n = some (.ref b) := by
        rw [hn]
        refine atI_nat ?_
        rw [List.getElem?_eq_getElem hlt, hb]
      have hqo := (hS.askIn (List.mem_of_getElem? hx)).2
      have ka : NewI H Q (qAns S kd x.2) := by
        unfold Vaidxa.onAsk at k
        rw [indexOf_in ⟨c1, c2⟩] at k
        have e : ((some n.toNat).bind fun n => S.asks[n]?) = some x.2 := zip_at hx
        rw [e] at k
        exact k
      unfold qAns at ka
      refine ⟨_, rfl, p, _, sdx, _, _, rfl, h1, cl_Sheet T, n_Sheet_questions T, l_Sheet_questions, _, rfl, ql, _, _, .ref b, rfl, rfl, SqL.of hq, hat, ?_⟩
      refine ⟨_, rfl, rfl, _, rfl, ?_⟩
      by_cases k3 : kd = 3
      · rw [if_pos k3] at ka
        exact if_true_of (decide_eq_true (by rw [k3])) ⟨_, rfl, b, x, S.cols.length, rfl, hX, hqo, hS.c4, ka⟩
      rw [if_neg k3] at ka
      refine if_false_of (decide_eq_false (fun z => k3 (by injection z))) ⟨_, rfl, rfl, _, rfl, ?_⟩
      by_cases k7 : kd = 7
      · rw [if_pos k7] at ka
        exact if_true_of (decide_eq_true (by rw [k7])) ⟨_, rfl, p, _, sdx, _, _, rfl, h1, cl_Sheet T, n_Sheet_groups T, l_Sheet_groups, _, rfl, gl, b, S.table.groups, x, S.cols.length, rfl, hg, hX, hqo, hS.c4, hS.gok, ka⟩
      rw [if_neg k7] at ka
      refine if_false_of (decide_eq_false (fun z => k7 (by injection z))) ⟨_, rfl, rfl, _, rfl, ?_⟩
      by_cases k8 : kd = 8
      · rw [if_pos k8] at ka
        obtain ⟨qx, fl, rl, wl, hB, hF, hO, hW⟩ := hX
        exact if_true_of (decide_eq_true (by rw [k8])) ⟨_, rfl, p, _, sdx, _, _, rfl, h1, cl_Sheet T, n_Sheet_groups T, l_Sheet_groups, _, rfl, b, _, qx, _, _, rfl, hB, cl_Question T, n_Question_filters T, l_Question_filters, gl, fl, S.table.groups, x.2.filters, S.cols.length, rfl, hg, hF, hqo.fs, hS.c4, hS.gok, ka⟩
      rw [if_neg k8] at ka
      refine if_false_of (decide_eq_false (fun z => k8 (by injection z))) ⟨_, rfl, p, _, sdx, _, _, rfl, h1, cl_Sheet T, n_Sheet_indexes T, l_Sheet_indexes, _, rfl, il, b, S.indexNames.zip S.indexes, x, S.cols.length, rfl, hI, hX, fun z hz => (hS.indexIn hz).2, hqo, hS.c4, ?_, ?_⟩
      · rw [List.length_zip, li, Nat.min_self]
        exact hS.i8
      · rw [zip_snd li]
        exact ka
    · refine if_true_of (by rw [decide_eq_false c2]; rfl) ?_
      exact ⟨_, rfl, (by show 1 ≤ sizeLine; decide), fun p np => new_one (out fun z => c2 z.2) p np⟩
  · refine if_false_of (decide_eq_false c1) ⟨_, rfl, if_true_of rfl ?_⟩
    exact ⟨_, rfl, (by show 1 ≤ sizeLine; decide), fun p np => new_one (out fun z => c1 z.1) p np⟩
theorem pure_about_index (T : Txt K mg) (vs : List V) (H : Hp) (Q : VK) (E : XK) (h : sp_about_index K vs H Q E) : t_about_index K E { nx := fun _ H' => Q .non H', rt := Q } (start N_about_index vs) H := by
  obtain ⟨p, S, kd, n, rfl, ⟨sdx, cl, gl, ql, il, h1, h2, hg, _, ⟨ia, hi, hiE⟩, la, li⟩, hS, k⟩ := h
  have lz : (S.indexNames.zip S.indexes).length = S.indexes.length := by
    rw [List.length_zip, li, Nat.min_self]
  have out : ¬ (0 ≤ n ∧ n < (S.indexes.length : Int)) → NewI H Q [-3] := fun c => by
    unfold Vaidxa.onIndex at k
    rw [indexOf_out c] at k
    exact k
  refine ⟨_, rfl, 0, n, rfl, rfl, _, rfl, ?_⟩
  by_cases c1 : 0 ≤ n
  · refine if_true_of (decide_eq_true c1) ?_
    refine ⟨_, rfl, p, _, sdx, _, _, rfl, h1, cl_Sheet T, n_Sheet_indexes T, l_Sheet_indexes, _, _, rfl, .inl ⟨_, SqL.of hi, rfl⟩, _, _, rfl, rfl, _, rfl, ?_⟩
    rw [List.length_map, hiE.1, lz]
    by_cases c2 : n < (S.indexes.length : Int)
    · refine if_false_of (by rw [decide_eq_true c2]; rfl) ?_
      have hlt : n.toNat < (ia.map V.ref).length := by
        rw [List.length_map, hiE.1, lz]
        omega
      obtain ⟨b, x, hb, _, hx, hX⟩ := each_at hiE (List.getElem?_eq_getElem hlt)
      have hn : n = ((n.toNat : Nat) : Int) := by omega
      have hat : atI (ia.map V.ref) n = some (.ref b) := by
        rw [hn]
        refine atI_nat ?_
        rw [List.getElem?_eq_getElem hlt, hb]
      have hio := (hS.indexIn (List.mem_of_getElem? hx)).2
      have ka : NewI H Q (iAns S kd x.2) := by
        unfold Vaidxa.onIndex at k
        rw [indexOf_in ⟨c1, c2⟩] at k
        have e : ((some n.toNat).bind fun n => S.indexes[n]?) = some x.2 := zip_at hx
        rw [e] at k
        exact k
      unfold iAns at ka
      refine ⟨_, rfl, p, _, sdx, _, _, rfl, h1, cl_Sheet T, n_Sheet_indexes T, l_Sheet_indexes, _, rfl, il, _, _, .ref b, rfl, rfl, SqL.of hi, hat, ?_⟩
      refine ⟨_, rfl, rfl, _, rfl, ?_⟩
      by_cases k4 : kd = 4
      · rw [if_pos k4] at ka
        exact if_true_of (decide_eq_true (by rw [k4])) ⟨_, rfl, b, x, S.cols.length, rfl, hX, hio, hS.c4, ka⟩
      rw [if_neg k4] at ka
      refine if_false_of (decide_eq_false (fun z => k4 (by injection z))) ?_
      refine ⟨_, rfl, _, rfl, p, _, sdx, _, _, rfl, h1, cl_Sheet T, n_Sheet_groups T, l_Sheet_groups, b, gl, x, S.table.groups, S.cols.length, rfl, hX, hg, hio, hS.c4, hS.gl, hS.gs, fun H1 s1 => ?_⟩
      refine ⟨_, rfl, _, rfl, p, _, sdx, _, _, rfl, s1 _ _ h1, cl_Sheet T, n_Sheet_groups T, l_Sheet_groups, b, gl, x, S.table.groups, S.cols.length, rfl, indexAt_same hX s1, groupsAt_same hg s1, hio, hS.c4, hS.gl, hS.gs, fun H2 s2 => ?_⟩
      have s12 := s1.trans s2
      exact ⟨(by show 2 ≤ sizeLine; decide), fun r nr => ka r _ upd_same (same_new s12 (s12.free nr)) (s12.free nr)⟩
    · refine if_true_of (by rw [decide_eq_false c2]; rfl) ?_
      exact ⟨_, rfl, (by show 1 ≤ sizeLine; decide), fun p np => new_one (out fun z => c2 z.2) p np⟩
  · refine if_false_of (decide_eq_false c1) ⟨_, rfl, if_true_of rfl ?_⟩
    exact ⟨_, rfl, (by show 1 ≤ sizeLine; decide), fun p np => new_one (out fun z => c1 z.1) p np⟩
theorem pure_column_split (T : Txt K mg) (vs : List V) (H : Hp) (Q : VK) (E : XK) (h : sp_column_split K vs H Q E) : t_column_split K E { nx := fun _ H' => Q .non H', rt := Q } (start N_column_split vs) H := by
  obtain ⟨p, S, n, rfl, ⟨sdx, cl, gl, ql, il, h1, h2, hg, _, _, la, li⟩, hS, k⟩ := h
  have out : ¬ (0 ≤ n ∧ n < (S.cols.length : Int)) → NewI H Q [-5] := fun c => by
    unfold colAns at k
    rw [indexOf_out c] at k
    exact k
  refine ⟨_, rfl, 0, n, rfl, rfl, _, rfl, ?_⟩
  by_cases c1 : 0 ≤ n
  · refine if_true_of (decide_eq_true c1) ?_
    refine ⟨_, rfl, p, _, sdx, _, _, rfl, h1, cl_Sheet T, n_Sheet_columns T, l_Sheet_columns, _, _, rfl, .inl ⟨_, SqL.of h2, rfl⟩, _, _, rfl, rfl, _, rfl, ?_⟩
    rw [List.length_map]
    by_cases c2 : n < (S.cols.length : Int)
    · refine if_false_of (by rw [decide_eq_true c2]; rfl) ?_
      unfold colAns at k
      rw [indexOf_in ⟨c1, c2⟩] at k
      have hn : V.int n = .int ((n.toNat : Nat) : Int) := congrArg V.int (by omega)
      refine ⟨_, rfl, p, _, sdx, _, _, rfl, h1, cl_Sheet T, n_Sheet_groups T, l_Sheet_groups, _, rfl, gl, S.table.groups, n.toNat, S.cols.length, ?_, hg, by omega, hS.c4, hS.gl, hS.gs, k⟩
      show [V.ref gl, V.int n] = [V.ref gl, V.int ((n.toNat : Nat) : Int)]
      rw [hn]
    · refine if_true_of (by rw [decide_eq_false c2]; rfl) ?_
      exact ⟨_, rfl, (by show 1 ≤ sizeLine; decide), fun p np => new_one (out fun z => c2 z.2) p np⟩
  · refine if_false_of (decide_eq_false c1) ⟨_, rfl, if_true_of rfl ?_⟩
    exact ⟨_, rfl, (by show 1 ≤ sizeLine; decide), fun p np => new_one (out fun z => c1 z.1) p np⟩
theorem pure_about_filters (T : Txt K mg) (vs : List V) (H : Hp) (Q : VK) (E : XK) (h : sp_about_filters K vs H Q E) : t_about_filters K E { nx := fun _ H' => Q .non H', rt := Q } (start N_about_filters vs) H := by
  obtain ⟨p, q, S, kd, ns, xs, rfl, ⟨sdx, cl, gl, ql, il, h1, h2, hg, _, _, la, li⟩, hS, ⟨cdx, nl, rl, hq, hn, as, hr, hE⟩, k⟩ := h
  obtain ⟨l, xs', rfl⟩ : ∃ l xs', xs = l :: xs' := by
    rcases k with ⟨l, _, e, _⟩ | ⟨l, m, _, e, _⟩
    · exact ⟨l, _, e⟩
    · exact ⟨l, _, e⟩
  obtain ⟨b, hb, hB⟩ := hE.2 0 l rfl
  have four : Vaidxa.filtersOf S.cols.length l = none → NewI H Q [-4] := fun e => by
    rcases k with ⟨l', _, e1, k⟩ | ⟨l', m, _, e1, k⟩
    · injection e1 with e1 _
      subst e1
      unfold countAns at k
      rw [e] at k
      exact k
    · injection e1 with e1 _
      subst e1
      unfold impAns at k
      rw [e] at k
      exact k
  refine ⟨_, rfl, q, _, cdx, _, _, rfl, hq, cl_Call T, n_Call_rows T, l_Call_rows, rl, _, 0, .ref b, rfl, rfl, SqL.of hr, ref_at (j := 0) hb, _, rfl, p, _, sdx, _, _, rfl, h1, cl_Sheet T, n_Sheet_columns T, l_Sheet_columns, _, _, rfl, .inl ⟨_, SqL.of h2, rfl⟩, b, l, S.cols.length, by rw [List.length_map]; rfl, hB, hS.c4, ?_⟩
  cases e : Vaidxa.filtersOf S.cols.length l with
  | none =>
    intro H1 s1
    refine ⟨_, rfl, rfl, _, rfl, if_true_of rfl ?_⟩
    exact ⟨_, rfl, (by show 1 ≤ sizeLine; decide), fun p np => new_one (NewI.mono (four e) s1) p np⟩
  | some fs =>
    intro b2 H1 hF hok s1
    refine ⟨_, rfl, rfl, _, rfl, if_false_of rfl ?_⟩
    refine ⟨_, rfl, q, _, cdx, _, _, rfl, s1 _ _ hq, cl_Call T, n_Call_kind T, l_Call_kind, rfl, _, rfl, ?_⟩
    rcases k with ⟨l', rfl, e1, k⟩ | ⟨l', m, rfl, e1, k⟩
    · injection e1 with e1 _
      subst e1
      unfold countAns at k
      rw [e] at k
      refine if_true_of (decide_eq_true rfl) ?_
      refine ⟨_, rfl, p, _, sdx, _, _, rfl, s1 _ _ h1, cl_Sheet T, n_Sheet_groups T, l_Sheet_groups, _, rfl, gl, b2, S.table.groups, fs, S.cols.length, rfl, groupsAt_same hg s1, hF, hok, hS.c4, hS.gl, hS.gs, fun H2 s2 => ?_⟩
      refine ⟨_, rfl, p, _, sdx, _, _, rfl, (s1.trans s2) _ _ h1, cl_Sheet T, n_Sheet_groups T, l_Sheet_groups, (by show 0 ≤ sizeLine; decide), fun c nc => ?_⟩
      have s3 : Same H2 (upd H2 c (.lst [])) := same_new (Same.refl H2) nc
      refine ⟨gl, c, S.table.groups, [], S.cols.length, rfl, groupsAt_same hg ((s1.trans s2).trans s3), ⟨[], upd_same, Each.nil⟩, FsOk.nil _, hS.c4, hS.gl, hS.gs, fun H4 s4 => ⟨(by show 2 ≤ sizeLine; decide), fun r nr => ?_⟩⟩
      have s5 := ((s1.trans s2).trans s3).trans s4
      have ef : (S.table.groups.filter fun g => ([] : List VaidxBase.Filter).all (VaidxBase.passes g.row)) = S.table.groups := by
        simp
      rw [ef]
      exact k r _ upd_same (same_new s5 (s5.free nr)) (s5.free nr)
    · injection e1 with e1 e2
      subst e1 e2
      unfold impAns at k
      rw [e] at k
      obtain ⟨b3, hb3, hB3⟩ := hE.2 1 m rfl
      refine if_false_of (decide_eq_false (fun z => by injection z with z; exact absurd z (by decide))) ?_
      refine ⟨_, rfl, q, _, cdx, _, _, rfl, s1 _ _ hq, cl_Call T, n_Call_rows T, l_Call_rows, rl, _, 1, .ref b3, rfl, rfl, SqL.of (s1 _ _ hr), ref_at (j := 1) hb3, _, rfl, p, _, sdx, _, _, rfl, s1 _ _ h1, cl_Sheet T, n_Sheet_columns T, l_Sheet_columns, _, _, rfl, .inl ⟨_, SqL.of (s1 _ _ h2), rfl⟩, b3, m, S.cols.length, by rw [List.length_map]; rfl, s1 _ _ hB3, ?_⟩
      cases e3 : Vaidxa.filterOf S.cols.length m with
      | none =>
        rw [e3] at k
        intro H2 s2
        refine ⟨_, rfl, rfl, _, rfl, if_true_of rfl ?_⟩
        exact ⟨_, rfl, (by show 1 ≤ sizeLine; decide), fun p np => new_one (NewI.mono k (s1.trans s2)) p np⟩
      | some g =>
        rw [e3] at k
        intro b4 H2 hF4 hok4 s2 nb4
        refine ⟨_, rfl, rfl, _, rfl, if_false_of rfl ?_⟩
        have s12 := s1.trans s2
        have lf := hok.len
        have c4 := hS.c4
        refine ⟨_, rfl, _, rfl, b2, b4, fs, g, rfl, filtersAt_same hF s2, hF4, by omega, fun H3 s3 => ⟨_, rfl, ?_⟩⟩
        refine ⟨_, rfl, p, _, sdx, _, _, rfl, (s12.trans s3) _ _ h1, cl_Sheet T, n_Sheet_groups T, l_Sheet_groups, _, rfl, _, rfl, gl, b2, b4, S.table.groups, fs, g, S.cols.length, rfl, groupsAt_same hg (s12.trans s3), filtersAt_same hF (s2.trans s3), filterAt_same hF4 s3, hok, hok4, hS.c4, hS.gl, hS.gs, fun H4 s4 => ⟨_, rfl, ?_⟩⟩
        have s5 := (s12.trans s3).trans s4
        exact ⟨(by show 2 ≤ sizeLine; decide), fun r nr => k r _ upd_same (same_new s5 (s5.free nr)) (s5.free nr)⟩
end
end Ix
-- part IxZ
set_option maxHeartbeats 4000000
namespace Ix
open PySem PySem.Spec PyProof.Rows L2
/-! ### calls, one by one -/
def isLoad : Vaidxa.Call → Bool
  | .load _ => true
  | _ => false
theorem step_none {c : Vaidxa.Call} (h : isLoad c = false) : Vaidxa.step ⟨none⟩ c = (⟨none⟩, [-8]) := by
  cases c <;> first | rfl | cases h
theorem step_state {S : Vaidxa.Source} {c : Vaidxa.Call} (h : isLoad c = false) : (Vaidxa.step ⟨some S⟩ c).1 = ⟨some S⟩ := by
  cases c <;> first | rfl | cases h
/-- what callOf reads -/
inductive Read1 : Int → List Int → List (List Int) → Vaidxa.Call → Prop
  | load (t : List Int) (h : NeutralIO.bytes t = true) : Read1 0 [] [t] (.load (t.map Int.toNat))
  | shown : Read1 1 [] [] .shown
  | table : Read1 2 [] [] .table
  | ask (n : Int) : Read1 3 [n] [] (.ask n)
  | index (n : Int) : Read1 4 [n] [] (.index n)
  | count (l : List Int) : Read1 5 [] [l] (.count l)
  | split (n : Int) : Read1 6 [n] [] (.split n)
  | answer (n : Int) : Read1 7 [n] [] (.answer n)
  | alone (n : Int) : Read1 8 [n] [] (.alone n)
  | implies (l m : List Int) : Read1 9 [] [l, m] (.implies l m)
  | serves (n : Int) : Read1 10 [n] [] (.serves n)
  | room (n : Int) : Read1 11 [n] [] (.room n)
theorem callOf_read {k : Int} {ns : List Int} {xs : List (List Int)} {c : Vaidxa.Call} (h : VaidxaNeutral.callOf ((k :: ns) :: xs) = some c) : Read1 k ns xs c := by
  generalize hz : (k :: ns) :: xs = z at h
  unfold VaidxaNeutral.callOf at h
  split at h
  · injection hz with h1 h2
    injection h1 with h3 h4
    subst h3 h4 h2
    split at h
    · rename_i hb
      injection h with h
      subst h
      exact .load _ hb
    · cases h
  all_goals first
    | (injection hz with h1 h2
       injection h1 with h3 h4
       subst h3 h4 h2
       injection h with h
       subst h
       constructor)
    | cases h
theorem asked_call {c : List (List Int)} (h : VaidxaNeutral.asked1 c = true) : ∃ x, VaidxaNeutral.callOf c = some x := by
  unfold VaidxaNeutral.asked1 at h
  split at h
  · rename_i t
    rw [Bool.and_eq_true] at h
    refine ⟨.load (t.map Int.toNat), ?_⟩
    show (if NeutralIO.bytes t then some _ else none) = _
    refine if_pos ?_
    unfold NeutralIO.bytes
    refine List.all_eq_true.mpr fun z hz => ?_
    have := List.all_eq_true.mp h.1 z hz
    unfold VaidxaNeutral.natural at this
    simp only [Bool.and_eq_true, decide_eq_true_eq] at this ⊢
    omega
  all_goals first
    | exact ⟨_, rfl⟩
    | cases h
theorem whole_id (c : List (List Int)) : PyVaidxa.whole c = c := by
  unfold PyVaidxa.whole
  split <;> rfl
theorem bytes_V {t : List Int} (h : NeutralIO.bytes t = true) : ((t.map Int.toNat).map fun b => V.int ((b : Nat) : Int)) = t.map V.int := by
  rw [List.map_map]
  refine List.map_congr_left fun z hz => ?_
  have := List.all_eq_true.mp h z hz
  simp only [Bool.and_eq_true, decide_eq_true_eq] at this
  show V.int ((z.toNat : Nat) : Int) = V.int z
  rw [Int.toNat_of_nonneg this.1]
/-! ### promises -/
def sp_answer_from (K : PySem.W.Frag) : Sp := fun vs H Q _ => ∃ (p q : Addr) (S : Vaidxa.Source) (k : Int) (ns : List Int) (xs : List (List Int)) (c : Vaidxa.Call), vs = [.ref p, .ref q] ∧ SheetAt K H p S ∧ SrcOk S ∧ CallAt K H q k ns xs ∧ Read1 k ns xs c ∧ isLoad c = false ∧ NewI H Q (Vaidxa.step ⟨some S⟩ c).2
def sp_answer_to (K : PySem.W.Frag) : Sp := fun vs H Q _ => ∃ (d dx q : Addr) (v : V) (G : Hp) (st : Option Vaidxa.Source) (k : Int) (ns : List Int) (xs : List (List Int)) (c : Vaidxa.Call), vs = [.ref d, .ref q] ∧ H d = some (DeskO K dx v) ∧ SheetOpt K G v st ∧ Same G H ∧ G d = none ∧ CallAt K H q k ns xs ∧ Read1 k ns xs c ∧ (∀ x ∈ xs, x.length ≤ 1300) ∧
  ∀ (r : Addr) (v' : V) (G' H' : Hp), RowAt H' r (Vaidxa.step ⟨st⟩ c).2 → H r = none → Keep d H H' → H' d = some (DeskO K dx v') → SheetOpt K G' v' (Vaidxa.step ⟨st⟩ c).1.source → Same G' H' → (∀ b, H b ≠ none → G b = none → G' b = none) → Q (.ref r) H'
def sp_answers (K : PySem.W.Frag) : Sp := fun vs H Q _ => ∃ (a : Addr) (l : List Int), vs = [.ref a] ∧ SqL K H a (l.map V.int) ∧ PyVaidxa.answers_asked l = true ∧ ∀ (p : Addr) (H' : Hp), H' p = some (.lst ((PyVaidxa.answers l).map V.int)) → Same H H' → Q (.ref p) H'
abbrev N_answer_to : List Str := ["desk", "call"]
def t_answer_to (K : PySem.W.Frag) (E : XK) : TS :=
  (tSeq (tIfS (tTest (tOp rEq (tFld K (tVar 1) "kind") (tC (.int 0)))) (tRet (tCall (sp_load K) [] E0 (tCons (tVar 0) (tCons (tOp (rIxL K) (tFld K (tVar 1) "rows") (tC (.int 0))) tNil)))) tNext)
    (tSeq (tIfS (tTest (tOp rIsN_ (tFld K (tVar 0) "sheet") (tC .non))) (tRet (tLst (tCons (tUn rNeg_ (tC (.int 8))) tNil))) tNext)
    (tRet (tCall (sp_answer_from K) [] E0 (tCons (tFld K (tVar 0) "sheet") (tCons (tVar 1) tNil))))))
abbrev N_answers : List Str := ["calls", "desk", "line", "given", "answer"]
def t_answers (K : PySem.W.Frag) (E : XK) : TS :=
  (tSeq (tAsg (tMake (He.ga K "Desk") (sp_Desk_init K) [] E0 tNil) (gName 1))
    (tSeq (tAsg (tMake (He.ga K "Line") (sp_Line_init K) [] E0 (tCons (tVar 0) tNil)) (gName 2))
    (tSeq (tAsg (tLst tNil) (gName 3))
    (tSeq (tWhile (tB (tMeth (He.ga K "Line") "has_more" (sp_Line_has_more K) [] E0 (tVar 2) tNil)) (tSeq (tAsg (tCall (sp_answer_to K) [] E0 (tCons (tVar 1) (tCons (tMeth (He.ga K "Line") "next_call" (sp_Line_next_call K) [] E0 (tVar 2) tNil) tNil))) (gName 4))
    (tSeq (tDrop (tBM K "list" rAppend (tVar 3) (tCons (tCB (rLen_ K) (tCons (tVar 4) tNil)) tNil)))
    (tDrop (tBM K "list" rExtend (tVar 3) (tCons (tVar 4) tNil))))))
    (tRet (tVar 3))))))
section
variable {K : PySem.W.Frag} {mg : Str → Option Value}
theorem len_answer_from {vs : List V} {H : Hp} {Q : VK} {E : XK} (h : sp_answer_from K vs H Q E) : vs.length = 2 := by
  obtain ⟨_, _, _, _, _, _, _, rfl, _⟩ := h
  rfl
theorem len_answer_to {vs : List V} {H : Hp} {Q : VK} {E : XK} (h : sp_answer_to K vs H Q E) : vs.length = 2 := by
  obtain ⟨_, _, _, _, _, _, _, _, _, _, rfl, _⟩ := h
  rfl
theorem len_answers {vs : List V} {H : Hp} {Q : VK} {E : XK} (h : sp_answers K vs H Q E) : vs.length = 1 := by
  obtain ⟨_, _, rfl, _⟩ := h
  rfl
theorem read1_zero {ns : List Int} {xs : List (List Int)} {c : Vaidxa.Call} (h : Read1 0 ns xs c) : ∃ t, ns = [] ∧ xs = [t] ∧ NeutralIO.bytes t = true ∧ c = .load (t.map Int.toNat) := by
  generalize hk : (0 : Int) = k at h
  cases h with
  | load t hb => exact ⟨t, rfl, rfl, hb, rfl⟩
  | _ => exact absurd hk (by decide)
theorem read1_load {k : Int} {ns : List Int} {xs : List (List Int)} {c : Vaidxa.Call} (h : Read1 k ns xs c) (hk : k ≠ 0) : isLoad c = false := by
  cases h with
  | load t hb => exact absurd rfl hk
  | _ => rfl
theorem each_one {α : Type} {P : Addr → α → Prop} {as : List Addr} {x : α} (h : Each P as [x]) : ∃ b, as = [b] ∧ P b x := by
  obtain ⟨b, hb, p⟩ := h.2 0 x rfl
  match as, h.1, hb with
  | [c], _, hb =>
    injection hb with hb
    subst hb
    exact ⟨c, rfl, p⟩
theorem pure_answer_to (T : Txt K mg) (vs : List V) (H : Hp) (Q : VK) (E : XK) (h : sp_answer_to K vs H Q E) : t_answer_to K E { nx := fun _ H' => Q .non H', rt := Q } (start N_answer_to vs) H := by
  obtain ⟨d, dx, q, v, G, st, kd, ns, xs, c, rfl, hd, hSh, hG, hGd, ⟨cdx, nl, rl, hq, hn, as, hr, hE⟩, hR, hx, k⟩ := h
  refine ⟨_, rfl, q, _, cdx, _, _, rfl, hq, cl_Call T, n_Call_kind T, l_Call_kind, rfl, _, rfl, ?_⟩
  have stay : (Vaidxa.step ⟨st⟩ c).1.source = st → ∀ (l : List Int), (Vaidxa.step ⟨st⟩ c).2 = l → NewI H Q l := fun e1 l e2 p H' hp sm np => by
    rw [e1, e2] at k
    exact k p v G H' hp np (Keep.same sm) (sm _ _ hd) hSh (hG.trans sm) fun _ _ z => z
  by_cases c0 : kd = 0
  · subst c0
    refine if_true_of (decide_eq_true rfl) ?_
    obtain ⟨t, rfl, rfl, hb, rfl⟩ := read1_zero hR
    obtain ⟨b, rfl, hB⟩ := each_one hE
    refine ⟨_, rfl, _, rfl, q, _, cdx, _, _, rfl, hq, cl_Call T, n_Call_rows T, l_Call_rows, rl, _, 0, .ref b, rfl, rfl, SqL.of hr, rfl, ?_⟩
    refine ⟨d, dx, b, v, t.map Int.toNat, rfl, hd, ?_, ?_, ?_⟩
    · unfold BytesAt
      rw [bytes_V hb]
      exact SqL.of hB
    · rw [List.length_map]
      exact hx t (List.mem_singleton.mpr rfl)
    · unfold RetLd
      have es : Vaidxa.step ⟨st⟩ (.load (t.map Int.toNat)) = if 1200 < (t.map Int.toNat).length then Vaidxa.refused ⟨st⟩ (-1) else (match Vaidxa.read (t.map Int.toNat) with
        | .error f => (⟨st⟩, [1, VaidxBase.int f.kind, VaidxBase.int f.place])
        | .ok x => (⟨some x⟩, [0, VaidxBase.int x.cols.length, VaidxBase.int x.table.groups.length, VaidxBase.int x.asks.length, VaidxBase.int x.indexes.length])) := rfl
      by_cases c1 : 1200 < (t.map Int.toNat).length
      · rw [if_pos c1]
        rw [if_pos c1] at es
        exact stay (by rw [es]; rfl) _ (by rw [es]; rfl)
      · rw [if_neg c1]
        rw [if_neg c1] at es
        cases er : Vaidxa.read (t.map Int.toNat) with
        | error f =>
          rw [er] at es
          exact stay (by rw [es]) _ (by rw [es]; rfl)
        | ok S =>
          rw [er] at es
          intro r p H' hr' nr kp hd' hS hok
          rw [es] at k
          refine k r (.ref p) (diff H H') H' hr' nr kp hd' ⟨p, rfl, hS, hok⟩ same_diff fun b hb _ => ?_
          unfold diff
          cases e : H b with
          | none => exact absurd e hb
          | some o => rfl
  · refine if_false_of (decide_eq_false (fun z => c0 (by injection z))) ?_
    have hL := read1_load hR c0
    refine ⟨_, rfl, d, _, dx, _, _, rfl, hd, cl_Desk T, n_Desk_sheet T, l_Desk_sheet, rfl, _, rfl, ?_⟩
    cases st with
    | none =>
      have hv : v = .non := hSh
      have k8 : NewI H Q [-8] := stay (by rw [step_none hL]) _ (by rw [step_none hL])
      refine if_true_of (decide_eq_true hv) ?_
      exact ⟨_, rfl, (by show 1 ≤ sizeLine; decide), fun p np => new_one k8 p np⟩
    | some S =>
      obtain ⟨p, rfl, hS, hok⟩ := hSh
      refine if_false_of (decide_eq_false (fun z => by cases z)) ?_
      exact ⟨_, rfl, d, _, dx, _, _, rfl, hd, cl_Desk T, n_Desk_sheet T, l_Desk_sheet, _, rfl, p, q, S, kd, ns, xs, c, rfl, sheetAt_same hS hG, hok, ⟨cdx, nl, rl, hq, hn, as, hr, hE⟩, hR, hL, stay (by rw [step_state hL]) _ rfl⟩
end
end Ix
-- part IxZ2
set_option maxHeartbeats 4000000
namespace Ix
open PySem PySem.Spec PyProof.Rows L2
/-! ### the whole line -/
/-- every place that has a shape stands in the table, with its shape -/
def ShapesOk (K : PySem.W.Frag) : Prop := ∀ (k : Int) (n m : Nat), PyVaidxa.shape k = some (n, m) → ∃ i, (kv_SHAPES K).lookup k = some (.ref (wvA K (He.ga K "SHAPES") i)) ∧ tp_SHAPES[i]? = some [(n : Int), (m : Int)]
structure CallOk (c : List (List Int)) (k : Int) (ns : List Int) (xs : List (List Int)) (x : Vaidxa.Call) : Prop where
  eq : c = (k :: ns) :: xs
  shape : PyVaidxa.shape k = some (ns.length, xs.length)
  of : VaidxaNeutral.callOf c = some x
  rd : Read1 k ns xs x
  ln : ns.length ≤ 1000
  lx : xs.length ≤ 1000
  rows : ∀ y ∈ xs, y.length ≤ 1300
theorem call_ok {c : List (List Int)} (h : PyFlat.okCall PyVaidxa.shape c) (ha : VaidxaNeutral.asked1 c = true) : ∃ k ns xs x, CallOk c k ns xs x := by
  obtain ⟨x, hx⟩ := asked_call ha
  obtain ⟨k, ns, xs, rfl, hs⟩ := h
  have hr := callOf_read hx
  refine ⟨k, ns, xs, x, rfl, hs, hx, hr, ?_, ?_, ?_⟩
  · cases hr <;> simp
  · cases hr <;> simp
  · cases hr with
    | load t hb =>
      have ha : (t.all (fun (z : Int) => VaidxaNeutral.natural z 8) && decide (t.length ≤ 1300)) = true := ha
      rw [Bool.and_eq_true, decide_eq_true_eq] at ha
      intro y hy
      rw [List.mem_singleton.mp hy]
      exact ha.2
    | count l =>
      have ha : VaidxaNeutral.listOk l 20 = true := ha
      unfold VaidxaNeutral.listOk at ha
      rw [Bool.and_eq_true, decide_eq_true_eq] at ha
      intro y hy
      rw [List.mem_singleton.mp hy]
      omega
    | implies l m =>
      have ha : (VaidxaNeutral.listOk l 20 && VaidxaNeutral.listOk m 5) = true := ha
      unfold VaidxaNeutral.listOk at ha
      simp only [Bool.and_eq_true, decide_eq_true_eq] at ha
      intro y hy
      rcases List.mem_cons.mp hy with e | e
      · rw [e]
        omega
      · rw [List.mem_singleton.mp e]
        omega
    | _ => exact fun y hy => absurd hy List.not_mem_nil
theorem asked_open {l : List Int} (h : PyVaidxa.answers_asked l = true) : ∃ raw, l = PyFlat.put raw ∧ (∀ c ∈ raw, ∃ k ns xs x, CallOk c k ns xs x) ∧ PyVaidxa.answers l = PyFlat.told (PyFlat.played VaidxaNeutral.step VaidxaNeutral.start raw) ∧ (PyVaidxa.answers l).length ≤ 10000000 := by
  unfold PyVaidxa.answers_asked at h
  cases e : PyFlat.calls PyVaidxa.shape l.length l with
  | none =>
    rw [e] at h
    cases h
  | some raw =>
    rw [e] at h
    simp only [Bool.and_eq_true] at h
    obtain ⟨⟨⟨⟨h1, h2⟩, h3⟩, h4⟩, h5⟩ := h
    have hid : raw.map PyVaidxa.whole = raw := by
      rw [show PyVaidxa.whole = id from funext whole_id, List.map_id]
    rw [hid] at h4
    obtain ⟨p1, p2⟩ := PyFlat.put_calls _ _ _ e
    refine ⟨raw, p1, fun c hc => ?_, ?_, ?_⟩
    · unfold VaidxaNeutral.asked at h4
      rw [Bool.and_eq_true] at h4
      exact call_ok (p2 c hc) (List.all_eq_true.mp h4.1 c hc)
    · unfold PyVaidxa.answers PyVaidxa.calls
      rw [e]
      dsimp only
      rw [hid]
    · unfold PyFlat.short at h5
      exact of_decide_eq_true h5
theorem played_cons {st : Option Vaidxa.Source} {c : List (List Int)} {x : Vaidxa.Call} (h : VaidxaNeutral.callOf c = some x) (cs : List (List (List Int))) : PyFlat.played VaidxaNeutral.step ⟨st⟩ (c :: cs) = (Vaidxa.step ⟨st⟩ x).2 :: PyFlat.played VaidxaNeutral.step ⟨(Vaidxa.step ⟨st⟩ x).1.source⟩ cs := by
  have e : VaidxaNeutral.step ⟨st⟩ c = ((Vaidxa.step ⟨st⟩ x).1, (Vaidxa.step ⟨st⟩ x).2) := by
    unfold VaidxaNeutral.step
    rw [h]
    rfl
  show (VaidxaNeutral.step ⟨st⟩ c).2 :: PyFlat.played VaidxaNeutral.step (VaidxaNeutral.step ⟨st⟩ c).1 cs = _
  rw [e]
theorem told_cons (a : List Int) (l : List (List Int)) : PyFlat.told (a :: l) = ((a.length : Int) :: a) ++ PyFlat.told l := rfl
section
variable {K : PySem.W.Frag} {mg : Str → Option Value}
theorem same_keep {H H1 H2 : Hp} {p : Addr} (s : Same H H1) (k : Keep p H1 H2) (n : H p = none) : Same H H2 := fun b o h => k b o (ne_of_none h n) (s b o h)
theorem desk_ne_line {dx dy : Addr} {v x y : V} : DeskO K dx v ≠ .ins (He.ga K "Line") dy (F_Line x y) := by
  intro z
  unfold DeskO at z
  injection z with _ _ z
  have z2 := congrArg List.length z
  simp [F_Desk, F_Line] at z2
theorem size_10m {n : Nat} (h : n ≤ 10000000) : n ≤ sizeLine := by
  rw [sizeLine_eq]
  omega
theorem pure_answers (T : Txt K mg) (hsh : ShapesOk K) (vs : List V) (H : Hp) (Q : VK) (E : XK) (h : sp_answers K vs H Q E) : t_answers K E { nx := fun _ H' => Q .non H', rt := Q } (start N_answers vs) H := by
  obtain ⟨a, l, rfl, hA, hask, k⟩ := h
  obtain ⟨raw, hput, hok, hans, hlen⟩ := asked_open hask
  intro d ddx nd ndd ned
  refine ⟨d, ddx, rfl, upd_same, fun H1 h1 k1 => ⟨rfl, ?_⟩⟩
  have s1 : Same H H1 := Same.made nd ndd k1
  refine ⟨_, rfl, fun p pdx np npd nep => ⟨p, pdx, _, rfl, upd_same, fun H2 h2 k2 => ⟨rfl, ?_⟩⟩⟩
  have s2 : Same H1 H2 := Same.made np npd k2
  refine ⟨(by show 0 ≤ sizeLine; decide), fun g ng => ?_⟩
  have s12 := s1.trans s2
  have npH : H p = none := s1.free np
  have ngH : H g = none := s12.free ng
  have s3 : Same H2 (upd H2 g (.lst [])) := same_new (Same.refl H2) ng
  generalize hL : (⟨p, pdx, a, l⟩ : LnI) = L
  have eLp : L.p = p := by rw [← hL]
  have eLa : L.a = a := by rw [← hL]
  have eLl : L.l = l := by rw [← hL]
  have A2 : L.At K H2 (PyFlat.put raw) := by
    rw [← hL]
    exact ⟨0, h2, s12.seq hA, Nat.zero_le _, hput⟩
  rw [← eLp] at npH h2 ⊢
  refine ⟨fun m σ H' => ∃ (cs : List (List (List Int))) (st : Option Vaidxa.Source) (v : V) (G : Hp) (done : List Int) (w : Option V), m = cs.length ∧ σ = [some (.ref a), some (.ref d), some (.ref L.p), some (.ref g), w] ∧ L.At K H' (PyFlat.put cs) ∧ H' d = some (DeskO K ddx v) ∧ SheetOpt K G v st ∧ Same G H' ∧ G d = none ∧ G L.p = none ∧ G g = none ∧
      H' g = some (.lst (done.map V.int)) ∧ Same H H' ∧ (∀ c ∈ cs, ∃ k ns xs x, CallOk c k ns xs x) ∧ PyVaidxa.answers l = done ++ PyFlat.told (PyFlat.played VaidxaNeutral.step ⟨st⟩ cs),
    ⟨_, raw, none, .non, fun _ => none, [], none, rfl, rfl, A2.same s3, s3 _ _ (s2 _ _ h1), rfl, fun _ _ z => (by cases z), rfl, rfl, rfl, upd_same, s12.trans s3, hok, hans⟩, ?_⟩
  rintro m σ H3 ⟨cs, st, v, G, done, w, rfl, rfl, A3, hd3, hSh, hG, gd, gp, gg, hg3, s03, hcs, hans3⟩
  have A3' := A3
  obtain ⟨n3, hp3, _⟩ := A3'
  refine ⟨_, rfl, L.p, L.dx, _, rfl, hp3, l_Line_has_more, L, _, rfl, A3, _, rfl, ?_⟩
  cases cs with
  | nil =>
    refine if_false_of rfl ⟨_, rfl, k g H3 ?_ s03⟩
    rw [hans3]
    have : PyFlat.told (PyFlat.played VaidxaNeutral.step ⟨st⟩ []) = [] := rfl
    rw [this, List.append_nil]
    exact hg3
  | cons c cs =>
    obtain ⟨kd, ns, xs, x, C⟩ := hcs c List.mem_cons_self
    have hne : (!(PyFlat.put (c :: cs)).isEmpty) = true := by
      rw [C.eq]
      rfl
    refine if_true_of hne ?_
    refine ⟨fun σ' H'' => ∃ m', m' < (c :: cs).length ∧ ∃ (cs : List (List (List Int))) (st : Option Vaidxa.Source) (v : V) (G : Hp) (done : List Int) (w : Option V), m' = cs.length ∧ σ' = [some (.ref a), some (.ref d), some (.ref L.p), some (.ref g), w] ∧ L.At K H'' (PyFlat.put cs) ∧ H'' d = some (DeskO K ddx v) ∧ SheetOpt K G v st ∧ Same G H'' ∧ G d = none ∧ G L.p = none ∧ G g = none ∧
      H'' g = some (.lst (done.map V.int)) ∧ Same H H'' ∧ (∀ c ∈ cs, ∃ k ns xs x, CallOk c k ns xs x) ∧ PyVaidxa.answers l = done ++ PyFlat.told (PyFlat.played VaidxaNeutral.step ⟨st⟩ cs), fun _ _ h => h, ?_⟩
    obtain ⟨si, hlk, htp⟩ := hsh _ _ _ C.shape
    have hA3 : L.At K H3 (PyFlat.put1 ((kd :: ns) :: xs) ++ PyFlat.put cs) := by
      have : PyFlat.put (c :: cs) = PyFlat.put1 c ++ PyFlat.put cs := rfl
      rw [this, C.eq] at A3
      exact A3
    refine ⟨_, rfl, _, rfl, L.p, L.dx, _, rfl, hp3, l_Line_next_call, L, kd, ns, xs, PyFlat.put cs, si, rfl, hA3, hlk, htp, C.ln, C.lx, fun q H4 A4 k4 hq4 => ?_⟩
    have A4' := A4
    obtain ⟨n4, hp4, _⟩ := A4'
    have dne : d ≠ L.p := ne_of hd3 hp3 desk_ne_line
    have gne : g ≠ L.p := ne_of hg3 hp3 (by intro z; cases z)
    have gdne : g ≠ d := ne_of hg3 hd3 (by intro z; cases z)
    have hd4 := k4 _ _ dne hd3
    have hg4 := k4 _ _ gne hg3
    have s04 : Same H H4 := same_keep s03 k4 npH
    refine ⟨d, ddx, q, v, G, st, kd, ns, xs, x, rfl, hd4, hSh, same_keep hG k4 gp, gd, hq4, C.rd, C.rows, fun r v' G' H5 hr5 nr k5 hd5 hSh5 hG5 hfr => ?_⟩
    have hg5 := k5 _ _ gdne hg4
    have s05 : Same H H5 := same_keep s04 k5 nd
    have rg : r ≠ g := fun z => by rw [z, hg4] at nr; cases nr
    have hp5 := k5 _ _ (Ne.symm dne) hp4
    have hans5 := hans3
    rw [played_cons C.of cs, told_cons] at hans5
    generalize hans' : (Vaidxa.step ⟨st⟩ x).2 = ans at hr5 hans5
    generalize hst' : (Vaidxa.step ⟨st⟩ x).1.source = st' at hSh5 hans5
    have hl5 : done.length + (1 + ans.length) ≤ 10000000 := by
      have e := congrArg List.length hans5
      rw [List.length_append, List.length_append, List.length_cons] at e
      omega
    refine ⟨_, rfl, .inl ⟨rfl, _, SqL.of hg5⟩, _, rfl, _, _, rfl, .inl ⟨_, SqL.of hr5, rfl⟩, g, _, _, rfl, rfl, hg5, ?_, ?_⟩
    · rw [List.length_map, sizeLine_eq]
      omega
    have hr6 : upd H5 g (.lst (done.map V.int ++ [.int ((ans.map V.int).length : Nat)])) r = some (.lst (ans.map V.int)) := by
      rw [upd_ne rg]
      exact hr5
    refine ⟨_, rfl, .inl ⟨rfl, _, SqL.of upd_same⟩, _, rfl, g, r, _, _, rfl, rfl, upd_same, hr6, ?_, cs.length, ?_, cs, st', v', G', done ++ (((ans.length : Nat) : Int) :: ans), _, rfl, rfl, ?_, ?_, hSh5, ?_, hfr d (by rw [hd4]; intro z; cases z) gd, hfr L.p (by rw [hp4]; intro z; cases z) gp, hfr g (by rw [hg4]; intro z; cases z) gg, ?_, ?_, fun c hc => hcs c (List.mem_cons_of_mem _ hc), ?_⟩
    · rw [len_snoc, List.length_map, List.length_map]
      exact size_10m (by omega)
    · rw [List.length_cons]
      omega
    · obtain ⟨n, b1, b2, b3, b4⟩ := A4
      refine ⟨n, ?_, ?_, b3, b4⟩
      · rw [upd_ne (Ne.symm gne), upd_ne (Ne.symm gne)]
        exact k5 _ _ (Ne.symm dne) b1
      · rw [eLa, eLl]
        exact (same_new (same_new s05 ngH) ngH).seq hA
    · rw [upd_ne (Ne.symm gdne), upd_ne (Ne.symm gdne)]
      exact hd5
    · have : G' g = none := hfr g (by rw [hg4]; intro z; cases z) gg
      exact same_new (same_new hG5 this) this
    · rw [upd_same, List.map_append, List.length_map, List.append_assoc]
      rfl
    · exact same_new (same_new s05 ngH) ngH
    · rw [hans5, List.append_assoc]
end
end Ix
-- part IxFrom
set_option maxHeartbeats 4000000
namespace Ix
open PySem PySem.Spec PyProof.Rows L2
abbrev N_answer_from : List Str := ["sheet", "call"]
def t_answer_from (K : PySem.W.Frag) (E : XK) : TS :=
  (tSeq (tIfS (tTest (tOp rEq (tFld K (tVar 1) "kind") (tC (.int 1)))) (tRet (tCall (sp_shown K) [] E0 (tCons (tVar 0) tNil))) tNext)
    (tSeq (tIfS (tTest (tOp rEq (tFld K (tVar 1) "kind") (tC (.int 2)))) (tRet (tCall (sp_table_numbers K) [] E0 (tCons (tVar 0) tNil))) tNext)
    (tSeq (tIfS (tTest (tOp (rIn K false) (tFld K (tVar 1) "kind") (tTup (tCons (tC (.int 3)) (tCons (tC (.int 7)) (tCons (tC (.int 8)) (tCons (tC (.int 10)) tNil))))))) (tRet (tCall (sp_about_question K) [] E0 (tCons (tVar 0) (tCons (tFld K (tVar 1) "kind") (tCons (tOp (rIxL K) (tFld K (tVar 1) "numbers") (tC (.int 0))) tNil))))) tNext)
    (tSeq (tIfS (tTest (tOp (rIn K false) (tFld K (tVar 1) "kind") (tTup (tCons (tC (.int 4)) (tCons (tC (.int 11)) tNil))))) (tRet (tCall (sp_about_index K) [] E0 (tCons (tVar 0) (tCons (tFld K (tVar 1) "kind") (tCons (tOp (rIxL K) (tFld K (tVar 1) "numbers") (tC (.int 0))) tNil))))) tNext)
    (tSeq (tIfS (tTest (tOp rEq (tFld K (tVar 1) "kind") (tC (.int 6)))) (tRet (tCall (sp_column_split K) [] E0 (tCons (tVar 0) (tCons (tOp (rIxL K) (tFld K (tVar 1) "numbers") (tC (.int 0))) tNil)))) tNext)
    (tRet (tCall (sp_about_filters K) [] E0 (tCons (tVar 0) (tCons (tVar 1) tNil)))))))))
section
variable {K : PySem.W.Frag} {mg : Str → Option Value}
theorem shapes_ok (K : PySem.W.Frag) : ShapesOk K := by
  intro k n m h
  unfold PyVaidxa.shape at h
  have go : ∀ (i : Nat) (n' m' : Nat), some (n', m') = some (n, m) → (kv_SHAPES K).lookup (i : Int) = some (.ref (wvA K (He.ga K "SHAPES") i)) → tp_SHAPES[i]? = some [(n' : Int), (m' : Int)] → ∃ j, (kv_SHAPES K).lookup (i : Int) = some (.ref (wvA K (He.ga K "SHAPES") j)) ∧ tp_SHAPES[j]? = some [(n : Int), (m : Int)] := fun i n' m' e h1 h2 => by
    injection e with e
    injection e with e1 e2
    subst e1 e2
    exact ⟨i, h1, h2⟩
  by_cases c0 : k = 0
  · subst c0
    rw [if_pos rfl] at h
    exact go 0 _ _ h rfl rfl
  rw [if_neg c0] at h
  by_cases c1 : k = 1
  · subst c1
    rw [if_pos rfl] at h
    exact go 1 _ _ h rfl rfl
  rw [if_neg c1] at h
  by_cases c2 : k = 2
  · subst c2
    rw [if_pos rfl] at h
    exact go 2 _ _ h rfl rfl
  rw [if_neg c2] at h
  by_cases c3 : k = 3
  · subst c3
    rw [if_pos rfl] at h
    exact go 3 _ _ h rfl rfl
  rw [if_neg c3] at h
  by_cases c4 : k = 4
  · subst c4
    rw [if_pos rfl] at h
    exact go 4 _ _ h rfl rfl
  rw [if_neg c4] at h
  by_cases c5 : k = 5
  · subst c5
    rw [if_pos rfl] at h
    exact go 5 _ _ h rfl rfl
  rw [if_neg c5] at h
  by_cases c6 : k = 6
  · subst c6
    rw [if_pos rfl] at h
    exact go 6 _ _ h rfl rfl
  rw [if_neg c6] at h
  by_cases c7 : k = 7
  · subst c7
    rw [if_pos rfl] at h
    exact go 7 _ _ h rfl rfl
  rw [if_neg c7] at h
  by_cases c8 : k = 8
  · subst c8
    rw [if_pos rfl] at h
    exact go 8 _ _ h rfl rfl
  rw [if_neg c8] at h
  by_cases c9 : k = 9
  · subst c9
    rw [if_pos rfl] at h
    exact go 9 _ _ h rfl rfl
  rw [if_neg c9] at h
  by_cases c10 : k = 10
  · subst c10
    rw [if_pos rfl] at h
    exact go 10 _ _ h rfl rfl
  rw [if_neg c10] at h
  by_cases c11 : k = 11
  · subst c11
    rw [if_pos rfl] at h
    exact go 11 _ _ h rfl rfl
  rw [if_neg c11] at h
  cases h
/-! the tests of the kind -/
theorem st_eq (T : Txt K mg) {D : Ends} {σ : L2.St} {H : Hp} {q cdx : Addr} {k m : Int} {v w : V} {t1 : TS} (b : Bool) (hb : (k == m) = b) (hσ : σ[1]? = some (some (.ref q))) (hq : H q = some (.ins (He.ga K "Call") cdx (F_Call (.int k) v w))) (h1 : b = true → t1 D σ H) (h2 : b = false → D.nx σ H) :
    tIfS (tTest (tOp rEq (tFld K (tVar 1) "kind") (tC (.int m)))) t1 tNext D σ H := by
  refine ⟨_, hσ, q, _, cdx, _, _, rfl, hq, cl_Call T, n_Call_kind T, l_Call_kind, rfl, _, rfl, ?_⟩
  rw [dec_int, hb]
  cases b with
  | true => exact if_true_of rfl (h1 rfl)
  | false => exact if_false_of rfl (h2 rfl)
theorem st_in (T : Txt K mg) {D : Ends} {σ : L2.St} {H : Hp} {q cdx : Addr} {k : Nat} {v w : V} {t1 : TS} {ta : TA} (l : List Nat) (b : Bool) (hb : l.contains k = b) (hσ : σ[1]? = some (some (.ref q))) (hq : H q = some (.ins (He.ga K "Call") cdx (F_Call (.int (k : Nat)) v w)))
    (hta : ∀ Q : List V → Hp → Prop, Q (l.map fun n => V.int ((n : Nat) : Int)) H → ta σ H Q) (hl : l.length ≤ 10) (h1 : b = true → ∀ H', Same H H' → t1 D σ H') (h2 : b = false → ∀ H', Same H H' → D.nx σ H') :
    tIfS (tTest (tOp (rIn K false) (tFld K (tVar 1) "kind") (tTup ta))) t1 tNext D σ H := by
  refine ⟨_, hσ, q, _, cdx, _, _, rfl, hq, cl_Call T, n_Call_kind T, l_Call_kind, hta _ ⟨by rw [List.length_map]; exact size_le (by omega), fun t nt => ?_⟩⟩
  have s1 : Same H (upd H t (.tup (l.map fun n => V.int ((n : Nat) : Int)))) := same_new (Same.refl H) nt
  refine ⟨t, _, rfl, .inr (SqT.of upd_same), rfl, flat_ints _, _, rfl, ?_⟩
  show if (if false = true then _ else inV (.int (k : Nat)) _) = true then _ else _
  rw [if_neg Bool.false_ne_true, inV_ints, hb]
  cases b with
  | true => exact if_true_of rfl (h1 rfl _ s1)
  | false => exact if_false_of rfl (h2 rfl _ s1)
/-! what is due, as the program has it -/
theorem ans_eq {n : Nat} {t : VaidxBase.Table} (h : GsOk n t.groups) (q : VaidxBase.Question) :
    (VaidxBase.int (Vaidxa.answered t q) :: VaidxBase.int (Vaidxa.answer t q).length :: (Vaidxa.answer t q).flatMap fun p => VaidxBase.int p.rows :: VaidxBase.ints p.values) = ansL (answerG t.groups q) := by
  have e1 : Vaidxa.answer t q = answerG t.groups q := by
    unfold Vaidxa.answer answerG
    rw [partsOf_eq, upTo_eq]
  have e2 : Vaidxa.answered t q = sumR (answerG t.groups q) := by
    have ef : VaidxBase.foundRows t q = VaidxBase.rowsOf (foundG t.groups q) := rfl
    unfold Vaidxa.answered answerG
    rw [ef, ← partsG_sum h q]
    by_cases z : q.limit = 0
    · rw [if_pos z, if_pos z]
    · rw [if_neg z, if_neg z, first_sum]
  rw [e1, e2]
  rfl
theorem srv_eq (S : Vaidxa.Source) (q : VaidxBase.Question) : (VaidxBase.int (Vaidxa.servingOf S q).length :: (Vaidxa.servingOf S q).flatMap fun i => [VaidxBase.int i.1, Vaidxa.bool i.2.1, Vaidxa.bool i.2.2]) = servL S.indexes q := by
  unfold Vaidxa.servingOf servL srvL
  rw [List.length_map, List.flatMap_map]
  rfl
theorem onAsk_eq {S : Vaidxa.Source} {k : Int} {f g : VaidxBase.Question → List Int} (h : ∀ q, f q = g q) : Vaidxa.onAsk S k f = Vaidxa.onAsk S k g := by rw [show f = g from funext h]
theorem onIndex_eq {S : Vaidxa.Source} {k : Int} {f g : VaidxBase.Index → List Int} (h : ∀ i, f i = g i) : Vaidxa.onIndex S k f = Vaidxa.onIndex S k g := by rw [show f = g from funext h]
theorem one_at {H : Hp} {nl : Addr} {z : Int} (h : RowAt H nl [z]) : SqL K H nl [V.int z] := SqL.of h
theorem ask_end (T : Txt K mg) {H H1 : Hp} {Q : VK} {p q cdx nl rl : Addr} {S : Vaidxa.Source} {k z : Int} {σ : L2.St} (hσ0 : σ[0]? = some (some (.ref p))) (hσ : σ[1]? = some (some (.ref q))) (s : Same H H1) (hP : SheetAt K H p S) (hS : SrcOk S) (hq : H q = some (.ins (He.ga K "Call") cdx (F_Call (.int k) (.ref nl) (.ref rl)))) (hn : RowAt H nl [z]) (kq : NewI H Q (Vaidxa.onAsk S z (qAns S k))) :
    tRet (tCall (sp_about_question K) [] E0 (tCons (tVar 0) (tCons (tFld K (tVar 1) "kind") (tCons (tOp (rIxL K) (tFld K (tVar 1) "numbers") (tC (.int 0))) tNil)))) { nx := fun _ H' => Q .non H', rt := Q } σ H1 :=
  ⟨_, hσ0, _, hσ, q, _, cdx, _, _, rfl, s _ _ hq, cl_Call T, n_Call_kind T, l_Call_kind, _, hσ, q, _, cdx, _, _, rfl, s _ _ hq, cl_Call T, n_Call_numbers T, l_Call_numbers, nl, _, 0, .int z, rfl, rfl, SqL.of (s _ _ hn), rfl, p, S, k, z, rfl, sheetAt_same hP s, hS, NewI.mono kq s⟩
theorem index_end (T : Txt K mg) {H H1 : Hp} {Q : VK} {p q cdx nl rl : Addr} {S : Vaidxa.Source} {k z : Int} {σ : L2.St} (hσ0 : σ[0]? = some (some (.ref p))) (hσ : σ[1]? = some (some (.ref q))) (s : Same H H1) (hP : SheetAt K H p S) (hS : SrcOk S) (hq : H q = some (.ins (He.ga K "Call") cdx (F_Call (.int k) (.ref nl) (.ref rl)))) (hn : RowAt H nl [z]) (kq : NewI H Q (Vaidxa.onIndex S z (iAns S k))) :
    tRet (tCall (sp_about_index K) [] E0 (tCons (tVar 0) (tCons (tFld K (tVar 1) "kind") (tCons (tOp (rIxL K) (tFld K (tVar 1) "numbers") (tC (.int 0))) tNil)))) { nx := fun _ H' => Q .non H', rt := Q } σ H1 :=
  ⟨_, hσ0, _, hσ, q, _, cdx, _, _, rfl, s _ _ hq, cl_Call T, n_Call_kind T, l_Call_kind, _, hσ, q, _, cdx, _, _, rfl, s _ _ hq, cl_Call T, n_Call_numbers T, l_Call_numbers, nl, _, 0, .int z, rfl, rfl, SqL.of (s _ _ hn), rfl, p, S, k, z, rfl, sheetAt_same hP s, hS, NewI.mono kq s⟩
theorem nope {P : Prop} (h : true = false) : P := by cases h
theorem nope2 {P : Prop} (h : false = true) : P := by cases h
theorem tup4 {σ : L2.St} {H : Hp} {a b c d : Int} (Q : List V → Hp → Prop) (h : Q [.int a, .int b, .int c, .int d] H) : tCons (tC (.int a)) (tCons (tC (.int b)) (tCons (tC (.int c)) (tCons (tC (.int d)) tNil))) σ H Q := h
theorem tup2 {σ : L2.St} {H : Hp} {a b : Int} (Q : List V → Hp → Prop) (h : Q [.int a, .int b] H) : tCons (tC (.int a)) (tCons (tC (.int b)) tNil) σ H Q := h
theorem pure_answer_from (T : Txt K mg) (vs : List V) (H : Hp) (Q : VK) (E : XK) (h : sp_answer_from K vs H Q E) : t_answer_from K E { nx := fun _ H' => Q .non H', rt := Q } (start N_answer_from vs) H := by
  obtain ⟨p, q, S, kd, ns, xs, c, rfl, hP, hS, hC, hR, hL, k⟩ := h
  have hC0 := hC
  obtain ⟨cdx, nl, rl, hq, hn, as, hr, hE⟩ := hC0
  have filt : ∀ H1, Same H H1 → ((∃ l, kd = 5 ∧ xs = [l] ∧ NewI H Q (countAns S l)) ∨ ∃ l m, kd = 9 ∧ xs = [l, m] ∧ NewI H Q (impAns S l m)) → tRet (tCall (sp_about_filters K) [] E0 (tCons (tVar 0) (tCons (tVar 1) tNil))) { nx := fun _ H' => Q .non H', rt := Q } (start N_answer_from [.ref p, .ref q]) H1 := fun H1 s1 hk => by
    refine ⟨_, rfl, _, rfl, p, q, S, kd, ns, xs, rfl, sheetAt_same hP s1, hS, ⟨cdx, nl, rl, s1 _ _ hq, s1 _ _ hn, as, s1 _ _ hr, hE.mono fun a x hx => s1 _ _ hx⟩, ?_⟩
    rcases hk with ⟨l, e1, e2, kk⟩ | ⟨l, m, e1, e2, kk⟩
    · exact .inl ⟨l, e1, e2, NewI.mono kk s1⟩
    · exact .inr ⟨l, m, e1, e2, NewI.mono kk s1⟩
  cases hR with
  | load t hb => cases hL
  | shown => exact st_eq T true rfl rfl hq (fun _ => ⟨_, rfl, p, S, rfl, hP, hS, k⟩) nope
  | table => exact st_eq T false rfl rfl hq nope2 fun _ => st_eq T true rfl rfl hq (fun _ => ⟨_, rfl, p, S, rfl, hP, hS, k⟩) nope
  | ask z => exact st_eq T false rfl rfl hq nope2 fun _ => st_eq T false rfl rfl hq nope2 fun _ => st_in T (k := 3) [3, 7, 8, 10] true rfl rfl hq tup4 (by decide) (fun _ H1 s1 => ask_end T rfl rfl s1 hP hS hq hn k) nope
  | answer z =>
    have k : NewI H Q (Vaidxa.onAsk S z (qAns S 7)) := by
      rw [← onAsk_eq (f := fun q => VaidxBase.int (Vaidxa.answered S.table q) :: VaidxBase.int (Vaidxa.answer S.table q).length :: (Vaidxa.answer S.table q).flatMap fun p => VaidxBase.int p.rows :: VaidxBase.ints p.values) (g := qAns S 7) (fun q => ans_eq hS.gok q)]
      exact k
    exact st_eq T false rfl rfl hq nope2 fun _ => st_eq T false rfl rfl hq nope2 fun _ => st_in T (k := 7) [3, 7, 8, 10] true rfl rfl hq tup4 (by decide) (fun _ H1 s1 => ask_end T rfl rfl s1 hP hS hq hn k) nope
  | alone z => exact st_eq T false rfl rfl hq nope2 fun _ => st_eq T false rfl rfl hq nope2 fun _ => st_in T (k := 8) [3, 7, 8, 10] true rfl rfl hq tup4 (by decide) (fun _ H1 s1 => ask_end T rfl rfl s1 hP hS hq hn k) nope
  | serves z =>
    have k : NewI H Q (Vaidxa.onAsk S z (qAns S 10)) := by
      rw [← onAsk_eq (f := fun q => VaidxBase.int (Vaidxa.servingOf S q).length :: (Vaidxa.servingOf S q).flatMap fun i => [VaidxBase.int i.1, Vaidxa.bool i.2.1, Vaidxa.bool i.2.2]) (g := qAns S 10) (fun q => srv_eq S q)]
      exact k
    exact st_eq T false rfl rfl hq nope2 fun _ => st_eq T false rfl rfl hq nope2 fun _ => st_in T (k := 10) [3, 7, 8, 10] true rfl rfl hq tup4 (by decide) (fun _ H1 s1 => ask_end T rfl rfl s1 hP hS hq hn k) nope
  | index z => exact st_eq T false rfl rfl hq nope2 fun _ => st_eq T false rfl rfl hq nope2 fun _ => st_in T (k := 4) [3, 7, 8, 10] false rfl rfl hq tup4 (by decide) nope2 fun _ H1 s1 => st_in T (k := 4) [4, 11] true rfl rfl (s1 _ _ hq) tup2 (by decide) (fun _ H2 s2 => index_end T rfl rfl (s1.trans s2) hP hS hq hn k) nope
  | room z => exact st_eq T false rfl rfl hq nope2 fun _ => st_eq T false rfl rfl hq nope2 fun _ => st_in T (k := 11) [3, 7, 8, 10] false rfl rfl hq tup4 (by decide) nope2 fun _ H1 s1 => st_in T (k := 11) [4, 11] true rfl rfl (s1 _ _ hq) tup2 (by decide) (fun _ H2 s2 => index_end T rfl rfl (s1.trans s2) hP hS hq hn k) nope
  | split z =>
    exact st_eq T false rfl rfl hq nope2 fun _ => st_eq T false rfl rfl hq nope2 fun _ => st_in T (k := 6) [3, 7, 8, 10] false rfl rfl hq tup4 (by decide) nope2 fun _ H1 s1 => st_in T (k := 6) [4, 11] false rfl rfl (s1 _ _ hq) tup2 (by decide) nope2 fun _ H2 s2 =>
      st_eq T true rfl rfl ((s1.trans s2) _ _ hq) (fun _ => ⟨_, rfl, _, rfl, q, _, cdx, _, _, rfl, (s1.trans s2) _ _ hq, cl_Call T, n_Call_numbers T, l_Call_numbers, nl, _, 0, .int z, rfl, rfl, SqL.of ((s1.trans s2) _ _ hn), rfl, p, S, z, rfl, sheetAt_same hP (s1.trans s2), hS, NewI.mono k (s1.trans s2)⟩) nope
  | count l =>
    exact st_eq T false rfl rfl hq nope2 fun _ => st_eq T false rfl rfl hq nope2 fun _ => st_in T (k := 5) [3, 7, 8, 10] false rfl rfl hq tup4 (by decide) nope2 fun _ H1 s1 => st_in T (k := 5) [4, 11] false rfl rfl (s1 _ _ hq) tup2 (by decide) nope2 fun _ H2 s2 =>
      st_eq T false rfl rfl ((s1.trans s2) _ _ hq) nope2 fun _ => filt H2 (s1.trans s2) (.inl ⟨l, rfl, rfl, k⟩)
  | implies l m =>
    exact st_eq T false rfl rfl hq nope2 fun _ => st_eq T false rfl rfl hq nope2 fun _ => st_in T (k := 9) [3, 7, 8, 10] false rfl rfl hq tup4 (by decide) nope2 fun _ H1 s1 => st_in T (k := 9) [4, 11] false rfl rfl (s1 _ _ hq) tup2 (by decide) nope2 fun _ H2 s2 =>
      st_eq T false rfl rfl ((s1.trans s2) _ _ hq) nope2 fun _ => filt H2 (s1.trans s2) (.inr ⟨l, m, rfl, rfl, k⟩)
end
end Ix
-- part IxO
set_option maxHeartbeats 4000000
namespace Ix
open PySem PySem.Spec PyProof.Rows L2
section
variable {P : Program} {w : World} {K : PySem.W.Frag} {mg : Str → Option Value} {base : Heap}
theorem sc_Sheet_init : FnScope N_Sheet_init ["self", "columns"] (defScope s_Sheet_init) := ⟨rfl, rfl, rfl, by decide +kernel, rfl, by decide +kernel, by decide +kernel⟩
theorem ok_Sheet_init (T : Txt K mg) : Make1 P w K mg base 1 "Sheet" (sp_Sheet_init K) := by
  obtain ⟨fd, F⟩ := T.says.def_ 1 (d := d_Sheet_init) rfl
  have b : Binds K fd ["self", "columns"] [] := FunD.bindsN (ps := ["self", "columns"]) F fun _ _ _ _ _ _ us hl => match us, hl with | [_, _], _ => rfl
  refine ⟨_, fd, _, k_Sheet_init T, FunD.ok (CX := L2.CX P w) (k := 0) F sc_Sheet_init (fun vs H Q E h => len_Sheet_init h) (fun cdv A outer s H vs Q E hr h => ⟨t_Sheet_init K E, ?_, pure_Sheet_init T vs H Q E h⟩), g_Sheet T, b⟩
  exact (pss_cons (ps_fld (pv 0) (pv 1) rfl)
    (pss_cons (ps_fld (pv 0) (pe_lst pa_nil) rfl)
    (pss_cons (ps_fld (pv 0) (pe_lst pa_nil) rfl)
    (pss_one (ps_fld (pv 0) (pe_lst pa_nil) rfl)))))
theorem sc_Group_init : FnScope N_Group_init ["self", "cells", "rows"] (defScope s_Group_init) := ⟨rfl, rfl, rfl, by decide +kernel, rfl, by decide +kernel, by decide +kernel⟩
theorem ok_Group_init (T : Txt K mg) : Make1 P w K mg base 1 "Group" (sp_Group_init K) := by
  obtain ⟨fd, F⟩ := T.says.def_ 2 (d := d_Group_init) rfl
  have b : Binds K fd ["self", "cells", "rows"] [] := FunD.bindsN (ps := ["self", "cells", "rows"]) F fun _ _ _ _ _ _ us hl => match us, hl with | [_, _, _], _ => rfl
  refine ⟨_, fd, _, k_Group_init T, FunD.ok (CX := L2.CX P w) (k := 0) F sc_Group_init (fun vs H Q E h => len_Group_init h) (fun cdv A outer s H vs Q E hr h => ⟨t_Group_init K E, ?_, pure_Group_init T vs H Q E h⟩), g_Group T, b⟩
  exact (pss_cons (ps_fld (pv 0) (pv 1) rfl)
    (pss_one (ps_fld (pv 0) (pv 2) rfl)))
theorem sc_Filter_init : FnScope N_Filter_init ["self", "column", "low", "high"] (defScope s_Filter_init) := ⟨rfl, rfl, rfl, by decide +kernel, rfl, by decide +kernel, by decide +kernel⟩
theorem ok_Filter_init (T : Txt K mg) : Make1 P w K mg base 1 "Filter" (sp_Filter_init K) := by
  obtain ⟨fd, F⟩ := T.says.def_ 3 (d := d_Filter_init) rfl
  have b : Binds K fd ["self", "column", "low", "high"] [] := FunD.bindsN (ps := ["self", "column", "low", "high"]) F fun _ _ _ _ _ _ us hl => match us, hl with | [_, _, _, _], _ => rfl
  refine ⟨_, fd, _, k_Filter_init T, FunD.ok (CX := L2.CX P w) (k := 0) F sc_Filter_init (fun vs H Q E h => len_Filter_init h) (fun cdv A outer s H vs Q E hr h => ⟨t_Filter_init K E, ?_, pure_Filter_init T vs H Q E h⟩), g_Filter T, b⟩
  exact (pss_cons (ps_fld (pv 0) (pv 1) rfl)
    (pss_cons (ps_fld (pv 0) (pv 2) rfl)
    (pss_one (ps_fld (pv 0) (pv 3) rfl))))
theorem sc_Question_init : FnScope N_Question_init ["self", "name"] (defScope s_Question_init) := ⟨rfl, rfl, rfl, by decide +kernel, rfl, by decide +kernel, by decide +kernel⟩
theorem ok_Question_init (T : Txt K mg) : Make1 P w K mg base 1 "Question" (sp_Question_init K) := by
  obtain ⟨fd, F⟩ := T.says.def_ 4 (d := d_Question_init) rfl
  have b : Binds K fd ["self", "name"] [] := FunD.bindsN (ps := ["self", "name"]) F fun _ _ _ _ _ _ us hl => match us, hl with | [_, _], _ => rfl
  refine ⟨_, fd, _, k_Question_init T, FunD.ok (CX := L2.CX P w) (k := 0) F sc_Question_init (fun vs H Q E h => len_Question_init h) (fun cdv A outer s H vs Q E hr h => ⟨t_Question_init K E, ?_, pure_Question_init T vs H Q E h⟩), g_Question T, b⟩
  exact (pss_cons (ps_fld (pv 0) (pv 1) rfl)
    (pss_cons (ps_fld (pv 0) (pe_lst pa_nil) rfl)
    (pss_cons (ps_fld (pv 0) (pe_lst pa_nil) rfl)
    (pss_cons (ps_fld (pv 0) pe_bl rfl)
    (pss_cons (ps_fld (pv 0) (pe_lst pa_nil) rfl)
    (pss_cons (ps_fld (pv 0) pe_int rfl)
    (pss_one (ps_fld (pv 0) pe_int rfl))))))))
theorem sc_Index_init : FnScope N_Index_init ["self", "name", "key_columns"] (defScope s_Index_init) := ⟨rfl, rfl, rfl, by decide +kernel, rfl, by decide +kernel, by decide +kernel⟩
theorem ok_Index_init (T : Txt K mg) : Make1 P w K mg base 1 "Index" (sp_Index_init K) := by
  obtain ⟨fd, F⟩ := T.says.def_ 5 (d := d_Index_init) rfl
  have b : Binds K fd ["self", "name", "key_columns"] [] := FunD.bindsN (ps := ["self", "name", "key_columns"]) F fun _ _ _ _ _ _ us hl => match us, hl with | [_, _, _], _ => rfl
  refine ⟨_, fd, _, k_Index_init T, FunD.ok (CX := L2.CX P w) (k := 0) F sc_Index_init (fun vs H Q E h => len_Index_init h) (fun cdv A outer s H vs Q E hr h => ⟨t_Index_init K E, ?_, pure_Index_init T vs H Q E h⟩), g_Index T, b⟩
  exact (pss_cons (ps_fld (pv 0) (pv 1) rfl)
    (pss_cons (ps_fld (pv 0) (pv 2) rfl)
    (pss_cons (ps_fld (pv 0) (pe_lst pa_nil) rfl)
    (pss_one (ps_fld (pv 0) pe_non rfl)))))
theorem sc_Token_init : FnScope N_Token_init ["self", "kind", "spelling", "number", "place", "end"] (defScope s_Token_init) := ⟨rfl, rfl, rfl, by decide +kernel, rfl, by decide +kernel, by decide +kernel⟩
theorem ok_Token_init (T : Txt K mg) : Make1 P w K mg base 1 "Token" (sp_Token_init K) := by
  obtain ⟨fd, F⟩ := T.says.def_ 6 (d := d_Token_init) rfl
  have b : Binds K fd ["self", "kind", "spelling", "number", "place", "end"] [] := FunD.bindsN (ps := ["self", "kind", "spelling", "number", "place", "end"]) F fun _ _ _ _ _ _ us hl => match us, hl with | [_, _, _, _, _, _], _ => rfl
  refine ⟨_, fd, _, k_Token_init T, FunD.ok (CX := L2.CX P w) (k := 0) F sc_Token_init (fun vs H Q E h => len_Token_init h) (fun cdv A outer s H vs Q E hr h => ⟨t_Token_init K E, ?_, pure_Token_init T vs H Q E h⟩), g_Token T, b⟩
  exact (pss_cons (ps_fld (pv 0) (pv 1) rfl)
    (pss_cons (ps_fld (pv 0) (pv 2) rfl)
    (pss_cons (ps_fld (pv 0) (pv 3) rfl)
    (pss_cons (ps_fld (pv 0) (pv 4) rfl)
    (pss_one (ps_fld (pv 0) (pv 5) rfl))))))
theorem sc_Reader_init : FnScope N_Reader_init ["self", "tokens"] (defScope s_Reader_init) := ⟨rfl, rfl, rfl, by decide +kernel, rfl, by decide +kernel, by decide +kernel⟩
theorem ok_Reader_init (T : Txt K mg) : Make1 P w K mg base 1 "Reader" (sp_Reader_init K) := by
  obtain ⟨fd, F⟩ := T.says.def_ 7 (d := d_Reader_init) rfl
  have b : Binds K fd ["self", "tokens"] [] := FunD.bindsN (ps := ["self", "tokens"]) F fun _ _ _ _ _ _ us hl => match us, hl with | [_, _], _ => rfl
  refine ⟨_, fd, _, k_Reader_init T, FunD.ok (CX := L2.CX P w) (k := 0) F sc_Reader_init (fun vs H Q E h => len_Reader_init h) (fun cdv A outer s H vs Q E hr h => ⟨t_Reader_init K E, ?_, pure_Reader_init T vs H Q E h⟩), g_Reader T, b⟩
  exact (pss_cons (ps_fld (pv 0) (pv 1) rfl)
    (pss_one (ps_fld (pv 0) pe_int rfl)))
theorem sc_Reader_current : FnScope N_Reader_current ["self"] (defScope s_Reader_current) := ⟨rfl, rfl, rfl, by decide +kernel, rfl, by decide +kernel, by decide +kernel⟩
theorem ok_Reader_current (T : Txt K mg) : Meth1 P w K mg base 1 "Reader" "current" (sp_Reader_current K) := by
  obtain ⟨fd, F⟩ := T.says.def_ 8 (d := d_Reader_current) rfl
  have b : Binds K fd ["self"] [] := FunD.bindsN (ps := ["self"]) F fun _ _ _ _ _ _ us hl => match us, hl with | [_], _ => rfl
  refine ⟨_, fd, _, cl_Reader T, h_Reader_current T, FunD.ok (CX := L2.CX P w) (k := 0) F sc_Reader_current (fun vs H Q E h => len_Reader_current h) (fun cdv A outer s H vs Q E hr h => ⟨t_Reader_current K E, ?_, pure_Reader_current T vs H Q E h⟩), b⟩
  exact (pss_one (ps_ret (pe_ix ix_list (pe_fld (pv 0) rfl) (pe_fld (pv 0) rfl) (fun _ _ => rfl))))
theorem sc_Reader_stands : FnScope N_Reader_stands ["self", "spelling"] (defScope s_Reader_stands) := ⟨rfl, rfl, rfl, by decide +kernel, rfl, by decide +kernel, by decide +kernel⟩
theorem ok_Reader_stands (T : Txt K mg) : Meth1 P w K mg base 2 "Reader" "stands" (sp_Reader_stands K) := by
  obtain ⟨fd, F⟩ := T.says.def_ 9 (d := d_Reader_stands) rfl
  have b : Binds K fd ["self", "spelling"] [] := FunD.bindsN (ps := ["self", "spelling"]) F fun _ _ _ _ _ _ us hl => match us, hl with | [_, _], _ => rfl
  obtain ⟨_, _, _, c_Reader_current, m_Reader_current, G_Reader_current, b_Reader_current⟩ := (ok_Reader_current (P := P) (w := w) (base := base) T).ex
  refine ⟨_, fd, _, cl_Reader T, h_Reader_stands T, FunD.ok (CX := L2.CX P w) (k := 1) F sc_Reader_stands (fun vs H Q E h => len_Reader_stands h) (fun cdv A outer s H vs Q E hr h => ⟨t_Reader_stands K E, ?_, pure_Reader_stands T vs H Q E h⟩), b⟩
  exact (pss_one (ps_ret (pe_cmpR op_eq (pe_fld (pe_meth0 (pv 0) c_Reader_current m_Reader_current G_Reader_current (hr.mono (by decide)) b_Reader_current .nil passL) rfl) (pv 1) (nomark _))))
theorem sc_Reader_skip_if : FnScope N_Reader_skip_if ["self", "spelling"] (defScope s_Reader_skip_if) := ⟨rfl, rfl, rfl, by decide +kernel, rfl, by decide +kernel, by decide +kernel⟩
theorem ok_Reader_skip_if (T : Txt K mg) : Meth1 P w K mg base 3 "Reader" "skip_if" (sp_Reader_skip_if K) := by
  obtain ⟨fd, F⟩ := T.says.def_ 10 (d := d_Reader_skip_if) rfl
  have b : Binds K fd ["self", "spelling"] [] := FunD.bindsN (ps := ["self", "spelling"]) F fun _ _ _ _ _ _ us hl => match us, hl with | [_, _], _ => rfl
  obtain ⟨_, _, _, c_Reader_stands, m_Reader_stands, G_Reader_stands, b_Reader_stands⟩ := (ok_Reader_stands (P := P) (w := w) (base := base) T).ex
  refine ⟨_, fd, _, cl_Reader T, h_Reader_skip_if T, FunD.ok (CX := L2.CX P w) (k := 2) F sc_Reader_skip_if (fun vs H Q E h => len_Reader_skip_if h) (fun cdv A outer s H vs Q E hr h => ⟨t_Reader_skip_if K E, ?_, pure_Reader_skip_if T vs H Q E h⟩), b⟩
  exact (pss_cons (ps_if (pt_not (pt_val (pe_meth (pv 0) c_Reader_stands m_Reader_stands G_Reader_stands (hr.mono (by decide)) b_Reader_stands .nil passL (pa_cons (pv 1) pa_nil)))) (pss_one (ps_ret pe_bl)) pss_nil)
    (pss_cons (ps_fldaug (pv 0) pe_int in_add)
    (pss_one (ps_ret pe_bl))))
theorem sc_Reader_expect : FnScope N_Reader_expect ["self", "spelling"] (defScope s_Reader_expect) := ⟨rfl, rfl, rfl, by decide +kernel, rfl, by decide +kernel, by decide +kernel⟩
theorem ok_Reader_expect (T : Txt K mg) : Meth1 P w K mg base 4 "Reader" "expect" (sp_Reader_expect K) := by
  obtain ⟨fd, F⟩ := T.says.def_ 11 (d := d_Reader_expect) rfl
  have b : Binds K fd ["self", "spelling"] [] := FunD.bindsN (ps := ["self", "spelling"]) F fun _ _ _ _ _ _ us hl => match us, hl with | [_, _], _ => rfl
  obtain ⟨_, _, _, c_Reader_skip_if, m_Reader_skip_if, G_Reader_skip_if, b_Reader_skip_if⟩ := (ok_Reader_skip_if (P := P) (w := w) (base := base) T).ex
  obtain ⟨_, _, _, c_Reader_current, m_Reader_current, G_Reader_current, b_Reader_current⟩ := (ok_Reader_current (P := P) (w := w) (base := base) T).ex
  refine ⟨_, fd, _, cl_Reader T, h_Reader_expect T, FunD.ok (CX := L2.CX P w) (k := 3) F sc_Reader_expect (fun vs H Q E h => len_Reader_expect h) (fun cdv A outer s H vs Q E hr h => ⟨t_Reader_expect K E, ?_, pure_Reader_expect T vs H Q E h⟩), b⟩
  exact (pss_one (ps_if (pt_not (pt_val (pe_meth (pv 0) c_Reader_skip_if m_Reader_skip_if G_Reader_skip_if (hr.mono (by decide)) b_Reader_skip_if .nil passL (pa_cons (pv 1) pa_nil)))) (pss_one (ps_raiseFt rfl (x_Fault_init T) hr (takes_of rfl rfl rfl rfl) (pa_cons (pe_gk (by rfl) (c_MISPLACED T)) (pa_cons (pe_fld (pe_meth0 (pv 0) c_Reader_current m_Reader_current G_Reader_current (hr.mono (by decide)) b_Reader_current .nil passL) rfl) pa_nil)))) pss_nil))
theorem sc_Reader_expect_end : FnScope N_Reader_expect_end ["self"] (defScope s_Reader_expect_end) := ⟨rfl, rfl, rfl, by decide +kernel, rfl, by decide +kernel, by decide +kernel⟩
theorem ok_Reader_expect_end (T : Txt K mg) : Meth1 P w K mg base 2 "Reader" "expect_end" (sp_Reader_expect_end K) := by
  obtain ⟨fd, F⟩ := T.says.def_ 12 (d := d_Reader_expect_end) rfl
  have b : Binds K fd ["self"] [] := FunD.bindsN (ps := ["self"]) F fun _ _ _ _ _ _ us hl => match us, hl with | [_], _ => rfl
  obtain ⟨_, _, _, c_Reader_current, m_Reader_current, G_Reader_current, b_Reader_current⟩ := (ok_Reader_current (P := P) (w := w) (base := base) T).ex
  refine ⟨_, fd, _, cl_Reader T, h_Reader_expect_end T, FunD.ok (CX := L2.CX P w) (k := 1) F sc_Reader_expect_end (fun vs H Q E h => len_Reader_expect_end h) (fun cdv A outer s H vs Q E hr h => ⟨t_Reader_expect_end K E, ?_, pure_Reader_expect_end T vs H Q E h⟩), b⟩
  exact (pss_one (ps_if (pt_cmpR op_ne (pe_fld (pe_meth0 (pv 0) c_Reader_current m_Reader_current G_Reader_current (hr.mono (by decide)) b_Reader_current .nil passL) rfl) (pe_gk (by rfl) (c_END T)) (nomark _)) (pss_one (ps_raiseFt rfl (x_Fault_init T) hr (takes_of rfl rfl rfl rfl) (pa_cons (pe_gk (by rfl) (c_MISPLACED T)) (pa_cons (pe_fld (pe_meth0 (pv 0) c_Reader_current m_Reader_current G_Reader_current (hr.mono (by decide)) b_Reader_current .nil passL) rfl) pa_nil)))) pss_nil))
theorem sc_Reader_take_name : FnScope N_Reader_take_name ["self"] (defScope s_Reader_take_name) := ⟨rfl, rfl, rfl, by decide +kernel, rfl, by decide +kernel, by decide +kernel⟩
theorem ok_Reader_take_name (T : Txt K mg) : Meth1 P w K mg base 2 "Reader" "take_name" (sp_Reader_take_name K) := by
  obtain ⟨fd, F⟩ := T.says.def_ 13 (d := d_Reader_take_name) rfl
  have b : Binds K fd ["self"] [] := FunD.bindsN (ps := ["self"]) F fun _ _ _ _ _ _ us hl => match us, hl with | [_], _ => rfl
  obtain ⟨_, _, _, c_Reader_current, m_Reader_current, G_Reader_current, b_Reader_current⟩ := (ok_Reader_current (P := P) (w := w) (base := base) T).ex
  refine ⟨_, fd, _, cl_Reader T, h_Reader_take_name T, FunD.ok (CX := L2.CX P w) (k := 1) F sc_Reader_take_name (fun vs H Q E h => len_Reader_take_name h) (fun cdv A outer s H vs Q E hr h => ⟨t_Reader_take_name K E, ?_, pure_Reader_take_name T vs H Q E h⟩), b⟩
  exact (pss_cons (ps_set (i := 1) sc_Reader_take_name.nd rfl (Or.inl rfl) (pe_meth0 (pv 0) c_Reader_current m_Reader_current G_Reader_current (hr.mono (by decide)) b_Reader_current .nil passL))
    (pss_cons (ps_if (PW.pt (pw_or (pt_cmpR op_ne (pe_fld (pv 1) rfl) (pe_gk (by rfl) (c_WORD T)) (nomark _)) (pw_or1 (pt_cmpR op_in_seq (pe_fld (pv 1) rfl) (pe_glob (by rfl) (g_RESERVED T) rfl) rfl)))) (pss_one (ps_raiseFt rfl (x_Fault_init T) hr (takes_of rfl rfl rfl rfl) (pa_cons (pe_gk (by rfl) (c_MISPLACED T)) (pa_cons (pe_fld (pv 1) rfl) pa_nil)))) pss_nil)
    (pss_cons (ps_fldaug (pv 0) pe_int in_add)
    (pss_one (ps_ret (pe_fld (pv 1) rfl))))))
theorem sc_Reader_take_number : FnScope N_Reader_take_number ["self", "lowest", "highest"] (defScope s_Reader_take_number) := ⟨rfl, rfl, rfl, by decide +kernel, rfl, by decide +kernel, by decide +kernel⟩
theorem ok_Reader_take_number (T : Txt K mg) : Meth1 P w K mg base 2 "Reader" "take_number" (sp_Reader_take_number K) := by
  obtain ⟨fd, F⟩ := T.says.def_ 14 (d := d_Reader_take_number) rfl
  have b : Binds K fd ["self", "lowest", "highest"] [] := FunD.bindsN (ps := ["self", "lowest", "highest"]) F fun _ _ _ _ _ _ us hl => match us, hl with | [_, _, _], _ => rfl
  obtain ⟨_, _, _, c_Reader_current, m_Reader_current, G_Reader_current, b_Reader_current⟩ := (ok_Reader_current (P := P) (w := w) (base := base) T).ex
  refine ⟨_, fd, _, cl_Reader T, h_Reader_take_number T, FunD.ok (CX := L2.CX P w) (k := 1) F sc_Reader_take_number (fun vs H Q E h => len_Reader_take_number h) (fun cdv A outer s H vs Q E hr h => ⟨t_Reader_take_number K E, ?_, pure_Reader_take_number T vs H Q E h⟩), b⟩
  exact (pss_cons (ps_set (i := 3) sc_Reader_take_number.nd rfl (Or.inl rfl) (pe_meth0 (pv 0) c_Reader_current m_Reader_current G_Reader_current (hr.mono (by decide)) b_Reader_current .nil passL))
    (pss_cons (ps_if (pt_cmpR op_ne (pe_fld (pv 3) rfl) (pe_gk (by rfl) (c_NUMBER T)) (nomark _)) (pss_one (ps_raiseFt rfl (x_Fault_init T) hr (takes_of rfl rfl rfl rfl) (pa_cons (pe_gk (by rfl) (c_MISPLACED T)) (pa_cons (pe_fld (pv 3) rfl) pa_nil)))) pss_nil)
    (pss_cons (ps_if (pt_not (pt_chain op_le op_le (pv 1) (pe_fld (pv 3) rfl) (pv 2))) (pss_one (ps_raiseFt rfl (x_Fault_init T) hr (takes_of rfl rfl rfl rfl) (pa_cons (pe_gk (by rfl) (c_OUT_OF_RANGE T)) (pa_cons (pe_fld (pv 3) rfl) pa_nil)))) pss_nil)
    (pss_cons (ps_fldaug (pv 0) pe_int in_add)
    (pss_one (ps_ret (pe_fld (pv 3) rfl)))))))
theorem sc_Call_init : FnScope N_Call_init ["self", "kind", "numbers", "rows"] (defScope s_Call_init) := ⟨rfl, rfl, rfl, by decide +kernel, rfl, by decide +kernel, by decide +kernel⟩
theorem ok_Call_init (T : Txt K mg) : Make1 P w K mg base 1 "Call" (sp_Call_init K) := by
  obtain ⟨fd, F⟩ := T.says.def_ 15 (d := d_Call_init) rfl
  have b : Binds K fd ["self", "kind", "numbers", "rows"] [] := FunD.bindsN (ps := ["self", "kind", "numbers", "rows"]) F fun _ _ _ _ _ _ us hl => match us, hl with | [_, _, _, _], _ => rfl
  refine ⟨_, fd, _, k_Call_init T, FunD.ok (CX := L2.CX P w) (k := 0) F sc_Call_init (fun vs H Q E h => len_Call_init h) (fun cdv A outer s H vs Q E hr h => ⟨t_Call_init K E, ?_, pure_Call_init T vs H Q E h⟩), g_Call T, b⟩
  exact (pss_cons (ps_fld (pv 0) (pv 1) rfl)
    (pss_cons (ps_fld (pv 0) (pv 2) rfl)
    (pss_one (ps_fld (pv 0) (pv 3) rfl))))
theorem sc_Line_init : FnScope N_Line_init ["self", "figures"] (defScope s_Line_init) := ⟨rfl, rfl, rfl, by decide +kernel, rfl, by decide +kernel, by decide +kernel⟩
theorem ok_Line_init (T : Txt K mg) : Make1 P w K mg base 1 "Line" (sp_Line_init K) := by
  obtain ⟨fd, F⟩ := T.says.def_ 16 (d := d_Line_init) rfl
  have b : Binds K fd ["self", "figures"] [] := FunD.bindsN (ps := ["self", "figures"]) F fun _ _ _ _ _ _ us hl => match us, hl with | [_, _], _ => rfl
  refine ⟨_, fd, _, k_Line_init T, FunD.ok (CX := L2.CX P w) (k := 0) F sc_Line_init (fun vs H Q E h => len_Line_init h) (fun cdv A outer s H vs Q E hr h => ⟨t_Line_init K E, ?_, pure_Line_init T vs H Q E h⟩), g_Line T, b⟩
  exact (pss_cons (ps_fld (pv 0) (pv 1) rfl)
    (pss_one (ps_fld (pv 0) pe_int rfl)))
theorem sc_Line_has_more : FnScope N_Line_has_more ["self"] (defScope s_Line_has_more) := ⟨rfl, rfl, rfl, by decide +kernel, rfl, by decide +kernel, by decide +kernel⟩
theorem ok_Line_has_more (T : Txt K mg) : Meth1 P w K mg base 1 "Line" "has_more" (sp_Line_has_more K) := by
  obtain ⟨fd, F⟩ := T.says.def_ 17 (d := d_Line_has_more) rfl
  have b : Binds K fd ["self"] [] := FunD.bindsN (ps := ["self"]) F fun _ _ _ _ _ _ us hl => match us, hl with | [_], _ => rfl
  refine ⟨_, fd, _, cl_Line T, h_Line_has_more T, FunD.ok (CX := L2.CX P w) (k := 0) F sc_Line_has_more (fun vs H Q E h => len_Line_has_more h) (fun cdv A outer s H vs Q E hr h => ⟨t_Line_has_more K E, ?_, pure_Line_has_more T vs H Q E h⟩), b⟩
  exact (pss_one (ps_ret (pe_cmpR op_lt (pe_fld (pv 0) rfl) (pe_callB call_len (by rfl) (g_len T) PySem.boot_len (pa_cons (pe_fld (pv 0) rfl) pa_nil)) (nomark _))))
theorem sc_Line_next_number : FnScope N_Line_next_number ["self"] (defScope s_Line_next_number) := ⟨rfl, rfl, rfl, by decide +kernel, rfl, by decide +kernel, by decide +kernel⟩
theorem ok_Line_next_number (T : Txt K mg) : Meth1 P w K mg base 1 "Line" "next_number" (sp_Line_next_number K) := by
  obtain ⟨fd, F⟩ := T.says.def_ 19 (d := d_Line_next_number) rfl
  have b : Binds K fd ["self"] [] := FunD.bindsN (ps := ["self"]) F fun _ _ _ _ _ _ us hl => match us, hl with | [_], _ => rfl
  refine ⟨_, fd, _, cl_Line T, h_Line_next_number T, FunD.ok (CX := L2.CX P w) (k := 0) F sc_Line_next_number (fun vs H Q E h => len_Line_next_number h) (fun cdv A outer s H vs Q E hr h => ⟨t_Line_next_number K E, ?_, pure_Line_next_number T vs H Q E h⟩), b⟩
  exact (pss_cons (ps_set (i := 1) sc_Line_next_number.nd rfl (Or.inl rfl) (pe_ix ix_list (pe_fld (pv 0) rfl) (pe_fld (pv 0) rfl) (fun _ _ => rfl)))
    (pss_cons (ps_fldaug (pv 0) pe_int in_add)
    (pss_one (ps_ret (pv 1)))))
theorem sc_Line_next_row : FnScope N_Line_next_row ["self"] (defScope s_Line_next_row) := ⟨rfl, rfl, rfl, by decide +kernel, rfl, by decide +kernel, by decide +kernel⟩
theorem ok_Line_next_row (T : Txt K mg) : Meth1 P w K mg base 2 "Line" "next_row" (sp_Line_next_row K) := by
  obtain ⟨fd, F⟩ := T.says.def_ 20 (d := d_Line_next_row) rfl
  have b : Binds K fd ["self"] [] := FunD.bindsN (ps := ["self"]) F fun _ _ _ _ _ _ us hl => match us, hl with | [_], _ => rfl
  obtain ⟨_, _, _, c_Line_next_number, m_Line_next_number, G_Line_next_number, b_Line_next_number⟩ := (ok_Line_next_number (P := P) (w := w) (base := base) T).ex
  refine ⟨_, fd, _, cl_Line T, h_Line_next_row T, FunD.ok (CX := L2.CX P w) (k := 1) F sc_Line_next_row (fun vs H Q E h => len_Line_next_row h) (fun cdv A outer s H vs Q E hr h => ⟨t_Line_next_row K E, ?_, pure_Line_next_row T vs H Q E h⟩), b⟩
  exact (pss_cons (ps_set (i := 1) sc_Line_next_row.nd rfl (Or.inl rfl) (pe_meth0 (pv 0) c_Line_next_number m_Line_next_number G_Line_next_number (hr.mono (by decide)) b_Line_next_number .nil passL))
    (pss_cons (ps_set (i := 2) sc_Line_next_row.nd rfl (Or.inl rfl) (pe_slice sl_list (pe_fld (pv 0) rfl) (po_some (pe_fld (pv 0) rfl)) (po_some (pe_op op_add (pe_fld (pv 0) rfl) (pv 1)))))
    (pss_cons (ps_fldaug (pv 0) (pv 1) in_add)
    (pss_one (ps_ret (pv 2))))))
theorem sc_Line_next_call : FnScope N_Line_next_call ["self"] (defScope s_Line_next_call) := ⟨rfl, rfl, rfl, by decide +kernel, rfl, by decide +kernel, by decide +kernel⟩
theorem ok_Line_next_call (T : Txt K mg) : Meth1 P w K mg base 3 "Line" "next_call" (sp_Line_next_call K) := by
  obtain ⟨fd, F⟩ := T.says.def_ 18 (d := d_Line_next_call) rfl
  have b : Binds K fd ["self"] [] := FunD.bindsN (ps := ["self"]) F fun _ _ _ _ _ _ us hl => match us, hl with | [_], _ => rfl
  obtain ⟨_, _, _, c_Line_next_number, m_Line_next_number, G_Line_next_number, b_Line_next_number⟩ := (ok_Line_next_number (P := P) (w := w) (base := base) T).ex
  obtain ⟨_, _, _, c_Line_next_row, m_Line_next_row, G_Line_next_row, b_Line_next_row⟩ := (ok_Line_next_row (P := P) (w := w) (base := base) T).ex
  obtain ⟨_, _, _, M_Call_init, G_Call_init, m_Call_init, b_Call_init⟩ := (ok_Call_init (P := P) (w := w) (base := base) T).ex
  refine ⟨_, fd, _, cl_Line T, h_Line_next_call T, FunD.ok (CX := L2.CX P w) (k := 2) F sc_Line_next_call (fun vs H Q E h => len_Line_next_call h) (fun cdv A outer s H vs Q E hr h => ⟨t_Line_next_call K E, ?_, pure_Line_next_call T vs H Q E h⟩), b⟩
  exact (pss_cons (ps_set (i := 1) sc_Line_next_call.nd rfl (Or.inl rfl) (pe_meth0 (pv 0) c_Line_next_number m_Line_next_number G_Line_next_number (hr.mono (by decide)) b_Line_next_number .nil passL))
    (pss_cons (ps_set (i := 2) sc_Line_next_call.nd rfl (Or.inl rfl) (pe_ix ix_wd (pe_glob (by rfl) (g_SHAPES T) rfl) (pv 1) (fun _ _ => rfl)))
    (pss_cons (ps_set (i := 3) sc_Line_next_call.nd rfl (Or.inl rfl) (pe_lst pa_nil))
    (pss_cons (ps_while (passes_of rfl) (pt_cmpR op_lt (pe_callB call_len (by rfl) (g_len T) PySem.boot_len (pa_cons (pv 3) pa_nil)) (pe_ix ix_tup (pv 2) pe_int (fun _ _ => rfl)) (nomark _)) (pss_one (ps_expr (pe_bm PySem.F.plainAttrs_list PySem.F.slot_list_append PySem.F.type_list_append mt_append (pv 3) (pa_cons (pe_meth0 (pv 0) c_Line_next_number m_Line_next_number G_Line_next_number (hr.mono (by decide)) b_Line_next_number .nil passL) pa_nil)))))
    (pss_cons (ps_set (i := 4) sc_Line_next_call.nd rfl (Or.inl rfl) (pe_lst pa_nil))
    (pss_cons (ps_while (passes_of rfl) (pt_cmpR op_lt (pe_callB call_len (by rfl) (g_len T) PySem.boot_len (pa_cons (pv 4) pa_nil)) (pe_ix ix_tup (pv 2) pe_int (fun _ _ => rfl)) (nomark _)) (pss_one (ps_expr (pe_bm PySem.F.plainAttrs_list PySem.F.slot_list_append PySem.F.type_list_append mt_append (pv 4) (pa_cons (pe_meth0 (pv 0) c_Line_next_row m_Line_next_row G_Line_next_row (hr.mono (by decide)) b_Line_next_row .nil passL) pa_nil)))))
    (pss_one (ps_ret (pe_make M_Call_init G_Call_init (hr.mono (by decide)) rfl m_Call_init b_Call_init .nil passL (pa_cons (pv 1) (pa_cons (pv 3) (pa_cons (pv 4) pa_nil))))))))))))
theorem sc_Part_init : FnScope N_Part_init ["self", "cells", "rows"] (defScope s_Part_init) := ⟨rfl, rfl, rfl, by decide +kernel, rfl, by decide +kernel, by decide +kernel⟩
theorem ok_Part_init (T : Txt K mg) : Make1 P w K mg base 1 "Part" (sp_Part_init K) := by
  obtain ⟨fd, F⟩ := T.says.def_ 21 (d := d_Part_init) rfl
  have b : Binds K fd ["self", "cells", "rows"] [] := FunD.bindsN (ps := ["self", "cells", "rows"]) F fun _ _ _ _ _ _ us hl => match us, hl with | [_, _, _], _ => rfl
  refine ⟨_, fd, _, k_Part_init T, FunD.ok (CX := L2.CX P w) (k := 0) F sc_Part_init (fun vs H Q E h => len_Part_init h) (fun cdv A outer s H vs Q E hr h => ⟨t_Part_init K E, ?_, pure_Part_init T vs H Q E h⟩), g_Part T, b⟩
  exact (pss_cons (ps_fld (pv 0) (pv 1) rfl)
    (pss_one (ps_fld (pv 0) (pv 2) rfl)))
theorem sc_Desk_init : FnScope N_Desk_init ["self"] (defScope s_Desk_init) := ⟨rfl, rfl, rfl, by decide +kernel, rfl, by decide +kernel, by decide +kernel⟩
theorem ok_Desk_init (T : Txt K mg) : Make1 P w K mg base 1 "Desk" (sp_Desk_init K) := by
  obtain ⟨fd, F⟩ := T.says.def_ 22 (d := d_Desk_init) rfl
  have b : Binds K fd ["self"] [] := FunD.bindsN (ps := ["self"]) F fun _ _ _ _ _ _ us hl => match us, hl with | [_], _ => rfl
  refine ⟨_, fd, _, k_Desk_init T, FunD.ok (CX := L2.CX P w) (k := 0) F sc_Desk_init (fun vs H Q E h => len_Desk_init h) (fun cdv A outer s H vs Q E hr h => ⟨t_Desk_init K E, ?_, pure_Desk_init T vs H Q E h⟩), g_Desk T, b⟩
  exact (pss_one (ps_fld (pv 0) pe_non rfl))
theorem sc_table_numbers : FnScope N_table_numbers ["sheet"] (defScope s_table_numbers) := ⟨rfl, rfl, rfl, by decide +kernel, rfl, by decide +kernel, by decide +kernel⟩
theorem ok_table_numbers (T : Txt K mg) : Call1 P w K mg base 1 "table_numbers" (sp_table_numbers K) := by
  obtain ⟨fd, F⟩ := T.says.def_ 23 (d := d_table_numbers) rfl
  have b : Binds K fd ["sheet"] [] := FunD.bindsN (ps := ["sheet"]) F fun _ _ _ _ _ _ us hl => match us, hl with | [_], _ => rfl
  refine ⟨fd, _, FunD.ok (CX := L2.CX P w) (k := 0) F sc_table_numbers (fun vs H Q E h => len_table_numbers h) (fun cdv A outer s H vs Q E hr h => ⟨t_table_numbers K E, ?_, pure_table_numbers T vs H Q E h⟩), g_table_numbers T, F.kp, b⟩
  exact (pss_cons (ps_set (i := 1) sc_table_numbers.nd rfl (Or.inl rfl) (pe_lst (pa_cons (pe_callB call_len (by rfl) (g_len T) PySem.boot_len (pa_cons (pe_fld (pv 0) rfl) pa_nil)) (pa_cons (pe_callB call_len (by rfl) (g_len T) PySem.boot_len (pa_cons (pe_fld (pv 0) rfl) pa_nil)) pa_nil))))
    (pss_cons (ps_for (passes_of rfl) rfl (pi_list (pe_fld (pv 0) rfl)) (pg_name (i := 2) sc_table_numbers.nd rfl (Or.inl rfl)) (pss_cons (ps_expr (pe_bm PySem.F.plainAttrs_list PySem.F.slot_list_extend PySem.F.type_list_extend mt_extend (pv 1) (pa_cons (pe_fld (pv 2) rfl) pa_nil)))
    (pss_one (ps_expr (pe_bm PySem.F.plainAttrs_list PySem.F.slot_list_append PySem.F.type_list_append mt_append (pv 1) (pa_cons (pe_fld (pv 2) rfl) pa_nil))))))
    (pss_one (ps_ret (pv 1)))))
theorem sc_counted : FnScope N_counted ["columns"] (defScope s_counted) := ⟨rfl, rfl, rfl, by decide +kernel, rfl, by decide +kernel, by decide +kernel⟩
theorem ok_counted (T : Txt K mg) : Call1 P w K mg base 1 "counted" (sp_counted K) := by
  obtain ⟨fd, F⟩ := T.says.def_ 27 (d := d_counted) rfl
  have b : Binds K fd ["columns"] [] := FunD.bindsN (ps := ["columns"]) F fun _ _ _ _ _ _ us hl => match us, hl with | [_], _ => rfl
  refine ⟨fd, _, FunD.ok (CX := L2.CX P w) (k := 0) F sc_counted (fun vs H Q E h => len_counted h) (fun cdv A outer s H vs Q E hr h => ⟨t_counted K E, ?_, pure_counted T vs H Q E h⟩), g_counted T, F.kp, b⟩
  exact (pss_one (ps_ret (pe_op op_cat (pe_lst (pa_cons (pe_callB call_len (by rfl) (g_len T) PySem.boot_len (pa_cons (pv 0) pa_nil)) pa_nil)) (pv 0))))
theorem sc_filter_numbers : FnScope N_filter_numbers ["sieve"] (defScope s_filter_numbers) := ⟨rfl, rfl, rfl, by decide +kernel, rfl, by decide +kernel, by decide +kernel⟩
theorem ok_filter_numbers (T : Txt K mg) : Call1 P w K mg base 1 "filter_numbers" (sp_filter_numbers K) := by
  obtain ⟨fd, F⟩ := T.says.def_ 26 (d := d_filter_numbers) rfl
  have b : Binds K fd ["sieve"] [] := FunD.bindsN (ps := ["sieve"]) F fun _ _ _ _ _ _ us hl => match us, hl with | [_], _ => rfl
  refine ⟨fd, _, FunD.ok (CX := L2.CX P w) (k := 0) F sc_filter_numbers (fun vs H Q E h => len_filter_numbers h) (fun cdv A outer s H vs Q E hr h => ⟨t_filter_numbers K E, ?_, pure_filter_numbers T vs H Q E h⟩), g_filter_numbers T, F.kp, b⟩
  exact (pss_one (ps_ret (pe_lst (pa_cons (pe_fld (pv 0) rfl) (pa_cons (pe_fld (pv 0) rfl) (pa_cons (pe_fld (pv 0) rfl) pa_nil))))))
theorem sc_question_numbers : FnScope N_question_numbers ["question"] (defScope s_question_numbers) := ⟨rfl, rfl, rfl, by decide +kernel, rfl, by decide +kernel, by decide +kernel⟩
theorem ok_question_numbers (T : Txt K mg) : Call1 P w K mg base 2 "question_numbers" (sp_question_numbers K) := by
  obtain ⟨fd, F⟩ := T.says.def_ 24 (d := d_question_numbers) rfl
  have b : Binds K fd ["question"] [] := FunD.bindsN (ps := ["question"]) F fun _ _ _ _ _ _ us hl => match us, hl with | [_], _ => rfl
  obtain ⟨_, _, G_filter_numbers, m_filter_numbers, k_filter_numbers, b_filter_numbers⟩ := (ok_filter_numbers (P := P) (w := w) (base := base) T).ex
  obtain ⟨_, _, G_counted, m_counted, k_counted, b_counted⟩ := (ok_counted (P := P) (w := w) (base := base) T).ex
  refine ⟨fd, _, FunD.ok (CX := L2.CX P w) (k := 1) F sc_question_numbers (fun vs H Q E h => len_question_numbers h) (fun cdv A outer s H vs Q E hr h => ⟨t_question_numbers K E, ?_, pure_question_numbers T vs H Q E h⟩), g_question_numbers T, F.kp, b⟩
  exact (pss_cons (ps_set (i := 1) sc_question_numbers.nd rfl (Or.inl rfl) (pe_lst (pa_cons (pe_callB call_len (by rfl) (g_len T) PySem.boot_len (pa_cons (pe_fld (pv 0) rfl) pa_nil)) pa_nil)))
    (pss_cons (ps_for (passes_of rfl) rfl (pi_list (pe_fld (pv 0) rfl)) (pg_name (i := 2) sc_question_numbers.nd rfl (Or.inl rfl)) (pss_one (ps_expr (pe_bm PySem.F.plainAttrs_list PySem.F.slot_list_extend PySem.F.type_list_extend mt_extend (pv 1) (pa_cons (pe_call G_filter_numbers (hr.mono (by decide)) rfl m_filter_numbers k_filter_numbers b_filter_numbers .nil passL (pa_cons (pv 2) pa_nil)) pa_nil)))))
    (pss_cons (ps_expr (pe_bm PySem.F.plainAttrs_list PySem.F.slot_list_extend PySem.F.type_list_extend mt_extend (pv 1) (pa_cons (pe_call G_counted (hr.mono (by decide)) rfl m_counted k_counted b_counted .nil passL (pa_cons (pe_fld (pv 0) rfl) pa_nil)) pa_nil)))
    (pss_cons (ps_expr (pe_bm PySem.F.plainAttrs_list PySem.F.slot_list_append PySem.F.type_list_append mt_append (pv 1) (pa_cons (pe_ifExp (pt_val (pe_fld (pv 0) rfl)) pe_int pe_int) pa_nil)))
    (pss_cons (ps_expr (pe_bm PySem.F.plainAttrs_list PySem.F.slot_list_extend PySem.F.type_list_extend mt_extend (pv 1) (pa_cons (pe_call G_counted (hr.mono (by decide)) rfl m_counted k_counted b_counted .nil passL (pa_cons (pe_fld (pv 0) rfl) pa_nil)) pa_nil)))
    (pss_cons (ps_expr (pe_bm PySem.F.plainAttrs_list PySem.F.slot_list_append PySem.F.type_list_append mt_append (pv 1) (pa_cons (pe_fld (pv 0) rfl) pa_nil)))
    (pss_cons (ps_expr (pe_bm PySem.F.plainAttrs_list PySem.F.slot_list_append PySem.F.type_list_append mt_append (pv 1) (pa_cons (pe_fld (pv 0) rfl) pa_nil)))
    (pss_one (ps_ret (pv 1))))))))))
theorem sc_index_numbers : FnScope N_index_numbers ["index"] (defScope s_index_numbers) := ⟨rfl, rfl, rfl, by decide +kernel, rfl, by decide +kernel, by decide +kernel⟩
theorem ok_index_numbers (T : Txt K mg) : Call1 P w K mg base 2 "index_numbers" (sp_index_numbers K) := by
  obtain ⟨fd, F⟩ := T.says.def_ 25 (d := d_index_numbers) rfl
  have b : Binds K fd ["index"] [] := FunD.bindsN (ps := ["index"]) F fun _ _ _ _ _ _ us hl => match us, hl with | [_], _ => rfl
  obtain ⟨_, _, G_counted, m_counted, k_counted, b_counted⟩ := (ok_counted (P := P) (w := w) (base := base) T).ex
  obtain ⟨_, _, G_filter_numbers, m_filter_numbers, k_filter_numbers, b_filter_numbers⟩ := (ok_filter_numbers (P := P) (w := w) (base := base) T).ex
  refine ⟨fd, _, FunD.ok (CX := L2.CX P w) (k := 1) F sc_index_numbers (fun vs H Q E h => len_index_numbers h) (fun cdv A outer s H vs Q E hr h => ⟨t_index_numbers K E, ?_, pure_index_numbers T vs H Q E h⟩), g_index_numbers T, F.kp, b⟩
  exact (pss_cons (ps_set (i := 1) sc_index_numbers.nd rfl (Or.inl rfl) (pe_op op_cat (pe_call G_counted (hr.mono (by decide)) rfl m_counted k_counted b_counted .nil passL (pa_cons (pe_fld (pv 0) rfl) pa_nil)) (pe_call G_counted (hr.mono (by decide)) rfl m_counted k_counted b_counted .nil passL (pa_cons (pe_fld (pv 0) rfl) pa_nil))))
    (pss_cons (ps_if (pt_cmpR op_isN (pe_fld (pv 0) rfl) pe_non (nomark _)) (pss_one (ps_ret (pe_op op_cat (pv 1) (pe_lst (pa_cons pe_int pa_nil))))) pss_nil)
    (pss_one (ps_ret (pe_op op_cat (pe_op op_cat (pv 1) (pe_lst (pa_cons pe_int pa_nil))) (pe_call G_filter_numbers (hr.mono (by decide)) rfl m_filter_numbers k_filter_numbers b_filter_numbers .nil passL (pa_cons (pe_fld (pv 0) rfl) pa_nil)))))))
theorem sc_is_sound : FnScope N_is_sound ["sieve", "columns"] (defScope s_is_sound) := ⟨rfl, rfl, rfl, by decide +kernel, rfl, by decide +kernel, by decide +kernel⟩
theorem ok_is_sound (T : Txt K mg) : Call1 P w K mg base 1 "is_sound" (sp_is_sound K) := by
  obtain ⟨fd, F⟩ := T.says.def_ 30 (d := d_is_sound) rfl
  have b : Binds K fd ["sieve", "columns"] [] := FunD.bindsN (ps := ["sieve", "columns"]) F fun _ _ _ _ _ _ us hl => match us, hl with | [_, _], _ => rfl
  refine ⟨fd, _, FunD.ok (CX := L2.CX P w) (k := 0) F sc_is_sound (fun vs H Q E h => len_is_sound h) (fun cdv A outer s H vs Q E hr h => ⟨t_is_sound K E, ?_, pure_is_sound T vs H Q E h⟩), g_is_sound T, F.kp, b⟩
  exact (pss_one (ps_ret (pe_and (pe_chain op_le op_lt pe_int (pe_fld (pv 0) rfl) (pv 1)) (pe_one (pe_chain3 op_le op_le op_le pe_int (pe_fld (pv 0) rfl) (pe_fld (pv 0) rfl) (pe_gk (by rfl) (c_HIGHEST_VALUE T)))))))
theorem sc_filter_of : FnScope N_filter_of ["numbers", "columns"] (defScope s_filter_of) := ⟨rfl, rfl, rfl, by decide +kernel, rfl, by decide +kernel, by decide +kernel⟩
theorem ok_filter_of (T : Txt K mg) : Call1 P w K mg base 3 "filter_of" (sp_filter_of K) := by
  obtain ⟨fd, F⟩ := T.says.def_ 29 (d := d_filter_of) rfl
  have b : Binds K fd ["numbers", "columns"] [] := FunD.bindsN (ps := ["numbers", "columns"]) F fun _ _ _ _ _ _ us hl => match us, hl with | [_, _], _ => rfl
  obtain ⟨_, _, _, M_Filter_init, G_Filter_init, m_Filter_init, b_Filter_init⟩ := (ok_Filter_init (P := P) (w := w) (base := base) T).ex
  obtain ⟨_, _, G_is_sound, m_is_sound, k_is_sound, b_is_sound⟩ := (ok_is_sound (P := P) (w := w) (base := base) T).ex
  refine ⟨fd, _, FunD.ok (CX := L2.CX P w) (k := 2) F sc_filter_of (fun vs H Q E h => len_filter_of h) (fun cdv A outer s H vs Q E hr h => ⟨t_filter_of K E, ?_, pure_filter_of T vs H Q E h⟩), g_filter_of T, F.kp, b⟩
  exact (pss_cons (ps_if (pt_cmpR op_ne (pe_callB call_len (by rfl) (g_len T) PySem.boot_len (pa_cons (pv 0) pa_nil)) pe_int (nomark _)) (pss_one (ps_ret pe_non)) pss_nil)
    (pss_cons (ps_set (i := 2) sc_filter_of.nd rfl (Or.inl rfl) (pe_make M_Filter_init G_Filter_init (hr.mono (by decide)) rfl m_Filter_init b_Filter_init .nil passL (pa_cons (pe_ix ix_list (pv 0) pe_int (fun _ _ => rfl)) (pa_cons (pe_ix ix_list (pv 0) pe_int (fun _ _ => rfl)) (pa_cons (pe_ix ix_list (pv 0) pe_int (fun _ _ => rfl)) pa_nil)))))
    (pss_one (ps_ret (pe_ifExp (pt_val (pe_call G_is_sound (hr.mono (by decide)) rfl m_is_sound k_is_sound b_is_sound .nil passL (pa_cons (pv 2) (pa_cons (pv 1) pa_nil)))) (pv 2) pe_non)))))
theorem sc_filters_of : FnScope N_filters_of ["numbers", "columns"] (defScope s_filters_of) := ⟨rfl, rfl, rfl, by decide +kernel, rfl, by decide +kernel, by decide +kernel⟩
theorem ok_filters_of (T : Txt K mg) : Call1 P w K mg base 4 "filters_of" (sp_filters_of K) := by
  obtain ⟨fd, F⟩ := T.says.def_ 28 (d := d_filters_of) rfl
  have b : Binds K fd ["numbers", "columns"] [] := FunD.bindsN (ps := ["numbers", "columns"]) F fun _ _ _ _ _ _ us hl => match us, hl with | [_, _], _ => rfl
  obtain ⟨_, _, G_filter_of, m_filter_of, k_filter_of, b_filter_of⟩ := (ok_filter_of (P := P) (w := w) (base := base) T).ex
  refine ⟨fd, _, FunD.ok (CX := L2.CX P w) (k := 3) F sc_filters_of (fun vs H Q E h => len_filters_of h) (fun cdv A outer s H vs Q E hr h => ⟨t_filters_of K E, ?_, pure_filters_of T vs H Q E h⟩), g_filters_of T, F.kp, b⟩
  exact (pss_cons (ps_if (pt_cmpR op_eq (pe_callB call_len (by rfl) (g_len T) PySem.boot_len (pa_cons (pv 0) pa_nil)) pe_int (nomark _)) (pss_one (ps_ret pe_non)) pss_nil)
    (pss_cons (ps_set (i := 2) sc_filters_of.nd rfl (Or.inl rfl) (pe_ix ix_list (pv 0) pe_int (fun _ _ => rfl)))
    (pss_cons (ps_if (PW.pt (pw_or (pt_not (pt_chain op_le op_le pe_int (pv 2) (pv 1))) (pw_or1 (pt_cmpR op_ne (pe_callB call_len (by rfl) (g_len T) PySem.boot_len (pa_cons (pv 0) pa_nil)) (pe_op op_add pe_int (pe_op op_mul pe_int (pv 2))) (nomark _))))) (pss_one (ps_ret pe_non)) pss_nil)
    (pss_cons (ps_set (i := 3) sc_filters_of.nd rfl (Or.inl rfl) (pe_lst pa_nil))
    (pss_cons (ps_for (passes_of rfl) rfl (pi_range3 rfl (g_range T) (pa_cons pe_int (pa_cons (pe_callB call_len (by rfl) (g_len T) PySem.boot_len (pa_cons (pv 0) pa_nil)) (pa_cons pe_int pa_nil)))) (pg_name (i := 4) sc_filters_of.nd rfl (Or.inl rfl)) (pss_cons (ps_set (i := 5) sc_filters_of.nd rfl (Or.inl rfl) (pe_call G_filter_of (hr.mono (by decide)) rfl m_filter_of k_filter_of b_filter_of .nil passL (pa_cons (pe_slice sl_list (pv 0) (po_some (pv 4)) (po_some (pe_op op_add (pv 4) pe_int))) (pa_cons (pv 1) pa_nil))))
    (pss_cons (ps_if (PW.pt (pw_or (pt_cmpR op_isN (pv 5) pe_non (nomark _)) (pw_or1 (pt_cmpR op_in_seq (pe_fld (pv 5) rfl) (pe_lc (own := [("earlier", 6)]) (g := (gName 6)) (tt := tYes) rfl sc_filters_of.nd (pi_list (pv 3)) (blkOk_by (own := [("earlier", 6)]) (N := N_filters_of) (sc := defScope s_filters_of) (by decide +kernel)) (fun _ _ _ _ _ => pg_name (i := 6) sc_filters_of.nd rfl (Or.inl rfl)) (fun _ _ _ _ _ => pts_nil) (fun _ _ _ _ _ => (pe_fld (pv 6) rfl))) rfl)))) (pss_one (ps_ret pe_non)) pss_nil)
    (pss_one (ps_expr (pe_bm PySem.F.plainAttrs_list PySem.F.slot_list_append PySem.F.type_list_append mt_append (pv 3) (pa_cons (pv 5) pa_nil)))))))
    (pss_one (ps_ret (pv 3))))))))
theorem sc_passes : FnScope N_passes ["group", "sieve"] (defScope s_passes) := ⟨rfl, rfl, rfl, by decide +kernel, rfl, by decide +kernel, by decide +kernel⟩
theorem ok_passes (T : Txt K mg) : Call1 P w K mg base 1 "passes" (sp_passes K) := by
  obtain ⟨fd, F⟩ := T.says.def_ 34 (d := d_passes) rfl
  have b : Binds K fd ["group", "sieve"] [] := FunD.bindsN (ps := ["group", "sieve"]) F fun _ _ _ _ _ _ us hl => match us, hl with | [_, _], _ => rfl
  refine ⟨fd, _, FunD.ok (CX := L2.CX P w) (k := 0) F sc_passes (fun vs H Q E h => len_passes h) (fun cdv A outer s H vs Q E hr h => ⟨t_passes K E, ?_, pure_passes T vs H Q E h⟩), g_passes T, F.kp, b⟩
  exact (pss_one (ps_ret (pe_chain op_le op_le (pe_fld (pv 1) rfl) (pe_ix ix_list (pe_fld (pv 0) rfl) (pe_fld (pv 1) rfl) (fun _ _ => rfl)) (pe_fld (pv 1) rfl))))
theorem sc_passes_all : FnScope N_passes_all ["group", "filters"] (defScope s_passes_all) := ⟨rfl, rfl, rfl, by decide +kernel, rfl, by decide +kernel, by decide +kernel⟩
theorem ok_passes_all (T : Txt K mg) : Call1 P w K mg base 2 "passes_all" (sp_passes_all K) := by
  obtain ⟨fd, F⟩ := T.says.def_ 33 (d := d_passes_all) rfl
  have b : Binds K fd ["group", "filters"] [] := FunD.bindsN (ps := ["group", "filters"]) F fun _ _ _ _ _ _ us hl => match us, hl with | [_, _], _ => rfl
  obtain ⟨_, _, G_passes, m_passes, k_passes, b_passes⟩ := (ok_passes (P := P) (w := w) (base := base) T).ex
  refine ⟨fd, _, FunD.ok (CX := L2.CX P w) (k := 1) F sc_passes_all (fun vs H Q E h => len_passes_all h) (fun cdv A outer s H vs Q E hr h => ⟨t_passes_all K E, ?_, pure_passes_all T vs H Q E h⟩), g_passes_all T, F.kp, b⟩
  exact (pss_one (ps_ret (pe_callB (cr_all rfl) (by rfl) (g_all T) (by decide +kernel) (pa_cons (pe_lc (own := [("sieve", 2)]) (g := (gName 2)) (tt := tYes) rfl sc_passes_all.nd (pi_list (pv 1)) (blkOk_by (own := [("sieve", 2)]) (N := N_passes_all) (sc := defScope s_passes_all) (by decide +kernel)) (fun _ _ _ _ _ => pg_name (i := 2) sc_passes_all.nd rfl (Or.inl rfl)) (fun _ _ _ _ _ => pts_nil) (fun _ _ _ _ _ => (pe_call G_passes (hr.mono (by decide)) rfl m_passes k_passes b_passes .nil passL (pa_cons (pv 0) (pa_cons (pv 2) pa_nil))))) pa_nil))))
theorem sc_rows_passing : FnScope N_rows_passing ["groups", "filters"] (defScope s_rows_passing) := ⟨rfl, rfl, rfl, by decide +kernel, rfl, by decide +kernel, by decide +kernel⟩
theorem ok_rows_passing (T : Txt K mg) : Call1 P w K mg base 3 "rows_passing" (sp_rows_passing K) := by
  obtain ⟨fd, F⟩ := T.says.def_ 31 (d := d_rows_passing) rfl
  have b : Binds K fd ["groups", "filters"] [] := FunD.bindsN (ps := ["groups", "filters"]) F fun _ _ _ _ _ _ us hl => match us, hl with | [_, _], _ => rfl
  obtain ⟨_, _, G_passes_all, m_passes_all, k_passes_all, b_passes_all⟩ := (ok_passes_all (P := P) (w := w) (base := base) T).ex
  refine ⟨fd, _, FunD.ok (CX := L2.CX P w) (k := 2) F sc_rows_passing (fun vs H Q E h => len_rows_passing h) (fun cdv A outer s H vs Q E hr h => ⟨t_rows_passing K E, ?_, pure_rows_passing T vs H Q E h⟩), g_rows_passing T, F.kp, b⟩
  exact (pss_one (ps_ret (pe_callB (cr_sum rfl) (by rfl) (g_sum T) (by decide +kernel) (pa_cons (pe_lc (own := [("group", 2)]) (g := (gName 2)) (tt := (tB (tCall (sp_passes_all K) [] E0 (tCons (tVar 2) (tCons (tVar 1) tNil))))) rfl sc_rows_passing.nd (pi_list (pv 0)) (blkOk_by (own := [("group", 2)]) (N := N_rows_passing) (sc := defScope s_rows_passing) (by decide +kernel)) (fun _ _ _ _ _ => pg_name (i := 2) sc_rows_passing.nd rfl (Or.inl rfl)) (fun _ _ _ _ _ => pts_one (pt_val (pe_call G_passes_all (hr.mono (by decide)) rfl m_passes_all k_passes_all b_passes_all .nil passL (pa_cons (pv 2) (pa_cons (pv 1) pa_nil))))) (fun _ _ _ _ _ => (pe_fld (pv 2) rfl))) pa_nil))))
theorem sc_rows_split : FnScope N_rows_split ["groups", "column"] (defScope s_rows_split) := ⟨rfl, rfl, rfl, by decide +kernel, rfl, by decide +kernel, by decide +kernel⟩
theorem ok_rows_split (T : Txt K mg) : Call1 P w K mg base 4 "rows_split" (sp_rows_split K) := by
  obtain ⟨fd, F⟩ := T.says.def_ 32 (d := d_rows_split) rfl
  have b : Binds K fd ["groups", "column"] [] := FunD.bindsN (ps := ["groups", "column"]) F fun _ _ _ _ _ _ us hl => match us, hl with | [_, _], _ => rfl
  obtain ⟨_, _, G_rows_passing, m_rows_passing, k_rows_passing, b_rows_passing⟩ := (ok_rows_passing (P := P) (w := w) (base := base) T).ex
  obtain ⟨_, _, _, M_Filter_init, G_Filter_init, m_Filter_init, b_Filter_init⟩ := (ok_Filter_init (P := P) (w := w) (base := base) T).ex
  refine ⟨fd, _, FunD.ok (CX := L2.CX P w) (k := 3) F sc_rows_split (fun vs H Q E h => len_rows_split h) (fun cdv A outer s H vs Q E hr h => ⟨t_rows_split K E, ?_, pure_rows_split T vs H Q E h⟩), g_rows_split T, F.kp, b⟩
  exact (pss_one (ps_ret (pe_lc (own := [("value", 2)]) (g := (gName 2)) (tt := tYes) rfl sc_rows_split.nd (pi_range1 rfl (g_range T) (pa_cons (pe_op op_add (pe_gk (by rfl) (c_HIGHEST_VALUE T)) pe_int) pa_nil)) (blkOk_by (own := [("value", 2)]) (N := N_rows_split) (sc := defScope s_rows_split) (by decide +kernel)) (fun _ _ _ _ _ => pg_name (i := 2) sc_rows_split.nd rfl (Or.inl rfl)) (fun _ _ _ _ _ => pts_nil) (fun _ _ _ _ _ => (pe_call G_rows_passing (hr.mono (by decide)) rfl m_rows_passing k_rows_passing b_rows_passing .nil passL (pa_cons (pv 0) (pa_cons (pe_lst (pa_cons (pe_make M_Filter_init G_Filter_init (hr.mono (by decide)) rfl m_Filter_init b_Filter_init .nil passL (pa_cons (pv 1) (pa_cons (pv 2) (pa_cons (pv 2) pa_nil)))) pa_nil)) pa_nil)))))))
theorem sc_lets_all_pass : FnScope N_lets_all_pass ["sieve"] (defScope s_lets_all_pass) := ⟨rfl, rfl, rfl, by decide +kernel, rfl, by decide +kernel, by decide +kernel⟩
theorem ok_lets_all_pass (T : Txt K mg) : Call1 P w K mg base 1 "lets_all_pass" (sp_lets_all_pass K) := by
  obtain ⟨fd, F⟩ := T.says.def_ 36 (d := d_lets_all_pass) rfl
  have b : Binds K fd ["sieve"] [] := FunD.bindsN (ps := ["sieve"]) F fun _ _ _ _ _ _ us hl => match us, hl with | [_], _ => rfl
  refine ⟨fd, _, FunD.ok (CX := L2.CX P w) (k := 0) F sc_lets_all_pass (fun vs H Q E h => len_lets_all_pass h) (fun cdv A outer s H vs Q E hr h => ⟨t_lets_all_pass K E, ?_, pure_lets_all_pass T vs H Q E h⟩), g_lets_all_pass T, F.kp, b⟩
  exact (pss_one (ps_ret (pe_and (pe_cmpR op_eq (pe_fld (pv 0) rfl) pe_int (nomark _)) (pe_one (pe_cmpR op_eq (pe_fld (pv 0) rfl) (pe_gk (by rfl) (c_HIGHEST_VALUE T)) (nomark _))))))
theorem sc_is_within : FnScope N_is_within ["narrow", "wide"] (defScope s_is_within) := ⟨rfl, rfl, rfl, by decide +kernel, rfl, by decide +kernel, by decide +kernel⟩
theorem ok_is_within (T : Txt K mg) : Call1 P w K mg base 1 "is_within" (sp_is_within K) := by
  obtain ⟨fd, F⟩ := T.says.def_ 37 (d := d_is_within) rfl
  have b : Binds K fd ["narrow", "wide"] [] := FunD.bindsN (ps := ["narrow", "wide"]) F fun _ _ _ _ _ _ us hl => match us, hl with | [_, _], _ => rfl
  refine ⟨fd, _, FunD.ok (CX := L2.CX P w) (k := 0) F sc_is_within (fun vs H Q E h => len_is_within h) (fun cdv A outer s H vs Q E hr h => ⟨t_is_within K E, ?_, pure_is_within T vs H Q E h⟩), g_is_within T, F.kp, b⟩
  exact (pss_one (ps_ret (pe_and (pe_cmpR op_eq (pe_fld (pv 0) rfl) (pe_fld (pv 1) rfl) (nomark _)) (pe_and (pe_cmpR op_le (pe_fld (pv 1) rfl) (pe_fld (pv 0) rfl) (nomark _)) (pe_one (pe_cmpR op_le (pe_fld (pv 0) rfl) (pe_fld (pv 1) rfl) (nomark _)))))))
theorem sc_say : FnScope N_say ["filters", "sieve"] (defScope s_say) := ⟨rfl, rfl, rfl, by decide +kernel, rfl, by decide +kernel, by decide +kernel⟩
theorem ok_say (T : Txt K mg) : Call1 P w K mg base 2 "say" (sp_say K) := by
  obtain ⟨fd, F⟩ := T.says.def_ 35 (d := d_say) rfl
  have b : Binds K fd ["filters", "sieve"] [] := FunD.bindsN (ps := ["filters", "sieve"]) F fun _ _ _ _ _ _ us hl => match us, hl with | [_, _], _ => rfl
  obtain ⟨_, _, G_lets_all_pass, m_lets_all_pass, k_lets_all_pass, b_lets_all_pass⟩ := (ok_lets_all_pass (P := P) (w := w) (base := base) T).ex
  obtain ⟨_, _, G_is_within, m_is_within, k_is_within, b_is_within⟩ := (ok_is_within (P := P) (w := w) (base := base) T).ex
  refine ⟨fd, _, FunD.ok (CX := L2.CX P w) (k := 1) F sc_say (fun vs H Q E h => len_say h) (fun cdv A outer s H vs Q E hr h => ⟨t_say K E, ?_, pure_say T vs H Q E h⟩), g_say T, F.kp, b⟩
  exact (pss_one (ps_ret (pe_or (pe_call G_lets_all_pass (hr.mono (by decide)) rfl m_lets_all_pass k_lets_all_pass b_lets_all_pass .nil passL (pa_cons (pv 1) pa_nil)) (pe_one (pe_callB (cr_any rfl) (by rfl) (g_any T) (by decide +kernel) (pa_cons (pe_lc (own := [("given", 2)]) (g := (gName 2)) (tt := tYes) rfl sc_say.nd (pi_list (pv 0)) (blkOk_by (own := [("given", 2)]) (N := N_say) (sc := defScope s_say) (by decide +kernel)) (fun _ _ _ _ _ => pg_name (i := 2) sc_say.nd rfl (Or.inl rfl)) (fun _ _ _ _ _ => pts_nil) (fun _ _ _ _ _ => (pe_call G_is_within (hr.mono (by decide)) rfl m_is_within k_is_within b_is_within .nil passL (pa_cons (pv 2) (pa_cons (pv 1) pa_nil))))) pa_nil))))))
theorem sc_say_in_table : FnScope N_say_in_table ["groups", "filters", "sieve"] (defScope s_say_in_table) := ⟨rfl, rfl, rfl, by decide +kernel, rfl, by decide +kernel, by decide +kernel⟩
theorem ok_say_in_table (T : Txt K mg) : Call1 P w K mg base 3 "say_in_table" (sp_say_in_table K) := by
  obtain ⟨fd, F⟩ := T.says.def_ 38 (d := d_say_in_table) rfl
  have b : Binds K fd ["groups", "filters", "sieve"] [] := FunD.bindsN (ps := ["groups", "filters", "sieve"]) F fun _ _ _ _ _ _ us hl => match us, hl with | [_, _, _], _ => rfl
  obtain ⟨_, _, G_passes_all, m_passes_all, k_passes_all, b_passes_all⟩ := (ok_passes_all (P := P) (w := w) (base := base) T).ex
  obtain ⟨_, _, G_passes, m_passes, k_passes, b_passes⟩ := (ok_passes (P := P) (w := w) (base := base) T).ex
  refine ⟨fd, _, FunD.ok (CX := L2.CX P w) (k := 2) F sc_say_in_table (fun vs H Q E h => len_say_in_table h) (fun cdv A outer s H vs Q E hr h => ⟨t_say_in_table K E, ?_, pure_say_in_table T vs H Q E h⟩), g_say_in_table T, F.kp, b⟩
  exact (pss_one (ps_ret (pe_callB (cr_all rfl) (by rfl) (g_all T) (by decide +kernel) (pa_cons (pe_lc (own := [("group", 3)]) (g := (gName 3)) (tt := (tB (tCall (sp_passes_all K) [] E0 (tCons (tVar 3) (tCons (tVar 1) tNil))))) rfl sc_say_in_table.nd (pi_list (pv 0)) (blkOk_by (own := [("group", 3)]) (N := N_say_in_table) (sc := defScope s_say_in_table) (by decide +kernel)) (fun _ _ _ _ _ => pg_name (i := 3) sc_say_in_table.nd rfl (Or.inl rfl)) (fun _ _ _ _ _ => pts_one (pt_val (pe_call G_passes_all (hr.mono (by decide)) rfl m_passes_all k_passes_all b_passes_all .nil passL (pa_cons (pv 3) (pa_cons (pv 1) pa_nil))))) (fun _ _ _ _ _ => (pe_call G_passes (hr.mono (by decide)) rfl m_passes k_passes b_passes .nil passL (pa_cons (pv 3) (pa_cons (pv 2) pa_nil))))) pa_nil))))
theorem sc_table_line : FnScope N_table_line ["names"] (defScope s_table_line) := ⟨rfl, rfl, rfl, by decide +kernel, rfl, by decide +kernel, by decide +kernel⟩
theorem ok_table_line (T : Txt K mg) : Call1 P w K mg base 1 "table_line" (sp_table_line K) := by
  obtain ⟨fd, F⟩ := T.says.def_ 40 (d := d_table_line) rfl
  have b : Binds K fd ["names"] [] := FunD.bindsN (ps := ["names"]) F fun _ _ _ _ _ _ us hl => match us, hl with | [_], _ => rfl
  refine ⟨fd, _, FunD.ok (CX := L2.CX P w) (k := 0) F sc_table_line (fun vs H Q E h => len_table_line h) (fun cdv A outer s H vs Q E hr h => ⟨t_table_line K E, ?_, pure_table_line T vs H Q E h⟩), g_table_line T, F.kp, b⟩
  exact (pss_cons (ps_set (i := 1) sc_table_line.nd rfl (Or.inl rfl) (pe_join pe_str (pv 0)))
    (pss_one (ps_ret (pe_joined (.cons pe_str (.cons (pe_fmt (pv 1)) (.cons pe_str .nil)))))))
theorem sc_group_line : FnScope N_group_line ["group"] (defScope s_group_line) := ⟨rfl, rfl, rfl, by decide +kernel, rfl, by decide +kernel, by decide +kernel⟩
theorem ok_group_line (T : Txt K mg) : Call1 P w K mg base 1 "group_line" (sp_group_line K) := by
  obtain ⟨fd, F⟩ := T.says.def_ 41 (d := d_group_line) rfl
  have b : Binds K fd ["group"] [] := FunD.bindsN (ps := ["group"]) F fun _ _ _ _ _ _ us hl => match us, hl with | [_], _ => rfl
  refine ⟨fd, _, FunD.ok (CX := L2.CX P w) (k := 0) F sc_group_line (fun vs H Q E h => len_group_line h) (fun cdv A outer s H vs Q E hr h => ⟨t_group_line K E, ?_, pure_group_line T vs H Q E h⟩), g_group_line T, F.kp, b⟩
  exact (pss_cons (ps_set (i := 1) sc_group_line.nd rfl (Or.inl rfl) (pe_join pe_str (pe_lc (own := [("cell", 3)]) (g := (gName 3)) (tt := tYes) rfl sc_group_line.nd (pi_list (pe_fld (pv 0) rfl)) (blkOk_by (own := [("cell", 3)]) (N := N_group_line) (sc := defScope s_group_line) (by decide +kernel)) (fun _ _ _ _ _ => pg_name (i := 3) sc_group_line.nd rfl (Or.inl rfl)) (fun _ _ _ _ _ => pts_nil) (fun _ _ _ _ _ => (pe_callTy call_str_int (by rfl) (g_str T) (by decide +kernel) (pa_cons (pv 3) pa_nil))))))
    (pss_cons (ps_set (i := 2) sc_group_line.nd rfl (Or.inl rfl) (pe_fld (pv 0) rfl))
    (pss_one (ps_ret (pe_joined (.cons pe_str (.cons (pe_fmt (pv 1)) (.cons pe_str (.cons (pe_fmt (pv 2)) (.cons pe_str .nil))))))))))
theorem sc_ended : FnScope N_ended ["parts"] (defScope s_ended) := ⟨rfl, rfl, rfl, by decide +kernel, rfl, by decide +kernel, by decide +kernel⟩
theorem ok_ended (T : Txt K mg) : Call1 P w K mg base 1 "ended" (sp_ended K) := by
  obtain ⟨fd, F⟩ := T.says.def_ 44 (d := d_ended) rfl
  have b : Binds K fd ["parts"] [] := FunD.bindsN (ps := ["parts"]) F fun _ _ _ _ _ _ us hl => match us, hl with | [_], _ => rfl
  refine ⟨fd, _, FunD.ok (CX := L2.CX P w) (k := 0) F sc_ended (fun vs H Q E h => len_ended h) (fun cdv A outer s H vs Q E hr h => ⟨t_ended K E, ?_, pure_ended T vs H Q E h⟩), g_ended T, F.kp, b⟩
  exact (pss_cons (ps_set (i := 1) sc_ended.nd rfl (Or.inl rfl) (pe_join pe_str (pv 0)))
    (pss_one (ps_ret (pe_joined (.cons (pe_fmt (pv 1)) (.cons pe_str .nil))))))
theorem sc_column_words : FnScope N_column_words ["columns", "names"] (defScope s_column_words) := ⟨rfl, rfl, rfl, by decide +kernel, rfl, by decide +kernel, by decide +kernel⟩
theorem ok_column_words (T : Txt K mg) : Call1 P w K mg base 1 "column_words" (sp_column_words K) := by
  obtain ⟨fd, F⟩ := T.says.def_ 45 (d := d_column_words) rfl
  have b : Binds K fd ["columns", "names"] [] := FunD.bindsN (ps := ["columns", "names"]) F fun _ _ _ _ _ _ us hl => match us, hl with | [_, _], _ => rfl
  refine ⟨fd, _, FunD.ok (CX := L2.CX P w) (k := 0) F sc_column_words (fun vs H Q E h => len_column_words h) (fun cdv A outer s H vs Q E hr h => ⟨t_column_words K E, ?_, pure_column_words T vs H Q E h⟩), g_column_words T, F.kp, b⟩
  exact (pss_one (ps_ret (pe_join pe_str (pe_lc (own := [("column", 2)]) (g := (gName 2)) (tt := tYes) rfl sc_column_words.nd (pi_list (pv 0)) (blkOk_by (own := [("column", 2)]) (N := N_column_words) (sc := defScope s_column_words) (by decide +kernel)) (fun _ _ _ _ _ => pg_name (i := 2) sc_column_words.nd rfl (Or.inl rfl)) (fun _ _ _ _ _ => pts_nil) (fun _ _ _ _ _ => (pe_ix ix_list (pv 1) (pv 2) (fun _ _ => rfl)))))))
theorem sc_filter_words : FnScope N_filter_words ["sieve", "names"] (defScope s_filter_words) := ⟨rfl, rfl, rfl, by decide +kernel, rfl, by decide +kernel, by decide +kernel⟩
theorem ok_filter_words (T : Txt K mg) : Call1 P w K mg base 1 "filter_words" (sp_filter_words K) := by
  obtain ⟨fd, F⟩ := T.says.def_ 46 (d := d_filter_words) rfl
  have b : Binds K fd ["sieve", "names"] [] := FunD.bindsN (ps := ["sieve", "names"]) F fun _ _ _ _ _ _ us hl => match us, hl with | [_, _], _ => rfl
  refine ⟨fd, _, FunD.ok (CX := L2.CX P w) (k := 0) F sc_filter_words (fun vs H Q E h => len_filter_words h) (fun cdv A outer s H vs Q E hr h => ⟨t_filter_words K E, ?_, pure_filter_words T vs H Q E h⟩), g_filter_words T, F.kp, b⟩
  exact (pss_cons (ps_set (i := 2) sc_filter_words.nd rfl (Or.inl rfl) (pe_ix ix_list (pv 1) (pe_fld (pv 0) rfl) (fun _ _ => rfl)))
    (pss_cons (ps_set (i := 3) sc_filter_words.nd rfl (Or.inl rfl) (pe_fld (pv 0) rfl))
    (pss_cons (ps_set (i := 4) sc_filter_words.nd rfl (Or.inl rfl) (pe_fld (pv 0) rfl))
    (pss_cons (ps_if (pt_cmpR op_eq (pv 3) (pv 4) (nomark _)) (pss_one (ps_ret (pe_joined (.cons (pe_fmt (pv 2)) (.cons pe_str (.cons (pe_fmt (pv 3)) .nil)))))) pss_nil)
    (pss_one (ps_ret (pe_joined (.cons (pe_fmt (pv 2)) (.cons pe_str (.cons (pe_fmt (pv 3)) (.cons pe_str (.cons (pe_fmt (pv 4)) .nil))))))))))))
theorem sc_question_line : FnScope N_question_line ["question", "names"] (defScope s_question_line) := ⟨rfl, rfl, rfl, by decide +kernel, rfl, by decide +kernel, by decide +kernel⟩
theorem ok_question_line (T : Txt K mg) : Call1 P w K mg base 2 "question_line" (sp_question_line K) := by
  obtain ⟨fd, F⟩ := T.says.def_ 42 (d := d_question_line) rfl
  have b : Binds K fd ["question", "names"] [] := FunD.bindsN (ps := ["question", "names"]) F fun _ _ _ _ _ _ us hl => match us, hl with | [_, _], _ => rfl
  obtain ⟨_, _, G_filter_words, m_filter_words, k_filter_words, b_filter_words⟩ := (ok_filter_words (P := P) (w := w) (base := base) T).ex
  obtain ⟨_, _, G_column_words, m_column_words, k_column_words, b_column_words⟩ := (ok_column_words (P := P) (w := w) (base := base) T).ex
  obtain ⟨_, _, G_ended, m_ended, k_ended, b_ended⟩ := (ok_ended (P := P) (w := w) (base := base) T).ex
  refine ⟨fd, _, FunD.ok (CX := L2.CX P w) (k := 1) F sc_question_line (fun vs H Q E h => len_question_line h) (fun cdv A outer s H vs Q E hr h => ⟨t_question_line K E, ?_, pure_question_line T vs H Q E h⟩), g_question_line T, F.kp, b⟩
  exact (pss_cons (ps_set (i := 2) sc_question_line.nd rfl (Or.inl rfl) (pe_lst (pa_cons pe_str (pa_cons (pe_fld (pv 0) rfl) pa_nil))))
    (pss_cons (ps_if (pt_truth (pe_fld (pv 0) rfl) (fun _ => rfl)) (pss_cons (ps_expr (pe_bm PySem.F.plainAttrs_list PySem.F.slot_list_append PySem.F.type_list_append mt_append (pv 2) (pa_cons pe_str pa_nil)))
    (pss_one (ps_expr (pe_bm PySem.F.plainAttrs_list PySem.F.slot_list_append PySem.F.type_list_append mt_append (pv 2) (pa_cons (pe_join pe_str (pe_lc (own := [("sieve", 3)]) (g := (gName 3)) (tt := tYes) rfl sc_question_line.nd (pi_list (pe_fld (pv 0) rfl)) (blkOk_by (own := [("sieve", 3)]) (N := N_question_line) (sc := defScope s_question_line) (by decide +kernel)) (fun _ _ _ _ _ => pg_name (i := 3) sc_question_line.nd rfl (Or.inl rfl)) (fun _ _ _ _ _ => pts_nil) (fun _ _ _ _ _ => (pe_call G_filter_words (hr.mono (by decide)) rfl m_filter_words k_filter_words b_filter_words .nil passL (pa_cons (pv 3) (pa_cons (pv 1) pa_nil)))))) pa_nil))))) pss_nil)
    (pss_cons (ps_if (pt_truth (pe_fld (pv 0) rfl) (fun _ => rfl)) (pss_cons (ps_expr (pe_bm PySem.F.plainAttrs_list PySem.F.slot_list_append PySem.F.type_list_append mt_append (pv 2) (pa_cons pe_str pa_nil)))
    (pss_one (ps_expr (pe_bm PySem.F.plainAttrs_list PySem.F.slot_list_append PySem.F.type_list_append mt_append (pv 2) (pa_cons (pe_call G_column_words (hr.mono (by decide)) rfl m_column_words k_column_words b_column_words .nil passL (pa_cons (pe_fld (pv 0) rfl) (pa_cons (pv 1) pa_nil))) pa_nil))))) pss_nil)
    (pss_cons (ps_if (pt_val (pe_fld (pv 0) rfl)) (pss_one (ps_expr (pe_bm PySem.F.plainAttrs_list PySem.F.slot_list_append PySem.F.type_list_append mt_append (pv 2) (pa_cons pe_str pa_nil)))) pss_nil)
    (pss_cons (ps_if (pt_truth (pe_fld (pv 0) rfl) (fun _ => rfl)) (pss_cons (ps_expr (pe_bm PySem.F.plainAttrs_list PySem.F.slot_list_append PySem.F.type_list_append mt_append (pv 2) (pa_cons pe_str pa_nil)))
    (pss_one (ps_expr (pe_bm PySem.F.plainAttrs_list PySem.F.slot_list_append PySem.F.type_list_append mt_append (pv 2) (pa_cons (pe_call G_column_words (hr.mono (by decide)) rfl m_column_words k_column_words b_column_words .nil passL (pa_cons (pe_fld (pv 0) rfl) (pa_cons (pv 1) pa_nil))) pa_nil))))) pss_nil)
    (pss_cons (ps_if (pt_cmpR op_gt (pe_fld (pv 0) rfl) pe_int (nomark _)) (pss_cons (ps_expr (pe_bm PySem.F.plainAttrs_list PySem.F.slot_list_append PySem.F.type_list_append mt_append (pv 2) (pa_cons pe_str pa_nil)))
    (pss_one (ps_expr (pe_bm PySem.F.plainAttrs_list PySem.F.slot_list_append PySem.F.type_list_append mt_append (pv 2) (pa_cons (pe_callTy call_str_int (by rfl) (g_str T) (by decide +kernel) (pa_cons (pe_fld (pv 0) rfl) pa_nil)) pa_nil))))) pss_nil)
    (pss_cons (ps_expr (pe_bm PySem.F.plainAttrs_list PySem.F.slot_list_append PySem.F.type_list_append mt_append (pv 2) (pa_cons pe_str pa_nil)))
    (pss_cons (ps_expr (pe_bm PySem.F.plainAttrs_list PySem.F.slot_list_append PySem.F.type_list_append mt_append (pv 2) (pa_cons (pe_callTy call_str_int (by rfl) (g_str T) (by decide +kernel) (pa_cons (pe_fld (pv 0) rfl) pa_nil)) pa_nil)))
    (pss_one (ps_ret (pe_call G_ended (hr.mono (by decide)) rfl m_ended k_ended b_ended .nil passL (pa_cons (pv 2) pa_nil))))))))))))
theorem sc_index_line : FnScope N_index_line ["index", "names"] (defScope s_index_line) := ⟨rfl, rfl, rfl, by decide +kernel, rfl, by decide +kernel, by decide +kernel⟩
theorem ok_index_line (T : Txt K mg) : Call1 P w K mg base 2 "index_line" (sp_index_line K) := by
  obtain ⟨fd, F⟩ := T.says.def_ 43 (d := d_index_line) rfl
  have b : Binds K fd ["index", "names"] [] := FunD.bindsN (ps := ["index", "names"]) F fun _ _ _ _ _ _ us hl => match us, hl with | [_, _], _ => rfl
  obtain ⟨_, _, G_column_words, m_column_words, k_column_words, b_column_words⟩ := (ok_column_words (P := P) (w := w) (base := base) T).ex
  obtain ⟨_, _, G_filter_words, m_filter_words, k_filter_words, b_filter_words⟩ := (ok_filter_words (P := P) (w := w) (base := base) T).ex
  obtain ⟨_, _, G_ended, m_ended, k_ended, b_ended⟩ := (ok_ended (P := P) (w := w) (base := base) T).ex
  refine ⟨fd, _, FunD.ok (CX := L2.CX P w) (k := 1) F sc_index_line (fun vs H Q E h => len_index_line h) (fun cdv A outer s H vs Q E hr h => ⟨t_index_line K E, ?_, pure_index_line T vs H Q E h⟩), g_index_line T, F.kp, b⟩
  exact (pss_cons (ps_set (i := 2) sc_index_line.nd rfl (Or.inl rfl) (pe_lst (pa_cons pe_str (pa_cons (pe_fld (pv 0) rfl) (pa_cons pe_str (pa_cons (pe_call G_column_words (hr.mono (by decide)) rfl m_column_words k_column_words b_column_words .nil passL (pa_cons (pe_fld (pv 0) rfl) (pa_cons (pv 1) pa_nil))) pa_nil))))))
    (pss_cons (ps_if (pt_truth (pe_fld (pv 0) rfl) (fun _ => rfl)) (pss_cons (ps_expr (pe_bm PySem.F.plainAttrs_list PySem.F.slot_list_append PySem.F.type_list_append mt_append (pv 2) (pa_cons pe_str pa_nil)))
    (pss_one (ps_expr (pe_bm PySem.F.plainAttrs_list PySem.F.slot_list_append PySem.F.type_list_append mt_append (pv 2) (pa_cons (pe_call G_column_words (hr.mono (by decide)) rfl m_column_words k_column_words b_column_words .nil passL (pa_cons (pe_fld (pv 0) rfl) (pa_cons (pv 1) pa_nil))) pa_nil))))) pss_nil)
    (pss_cons (ps_if (pt_cmpR op_notN (pe_fld (pv 0) rfl) pe_non (nomark _)) (pss_cons (ps_expr (pe_bm PySem.F.plainAttrs_list PySem.F.slot_list_append PySem.F.type_list_append mt_append (pv 2) (pa_cons pe_str pa_nil)))
    (pss_one (ps_expr (pe_bm PySem.F.plainAttrs_list PySem.F.slot_list_append PySem.F.type_list_append mt_append (pv 2) (pa_cons (pe_call G_filter_words (hr.mono (by decide)) rfl m_filter_words k_filter_words b_filter_words .nil passL (pa_cons (pe_fld (pv 0) rfl) (pa_cons (pv 1) pa_nil))) pa_nil))))) pss_nil)
    (pss_one (ps_ret (pe_call G_ended (hr.mono (by decide)) rfl m_ended k_ended b_ended .nil passL (pa_cons (pv 2) pa_nil)))))))
theorem sc_one_form : FnScope N_one_form ["sheet"] (defScope s_one_form) := ⟨rfl, rfl, rfl, by decide +kernel, rfl, by decide +kernel, by decide +kernel⟩
theorem ok_one_form (T : Txt K mg) : Call1 P w K mg base 3 "one_form" (sp_one_form K) := by
  obtain ⟨fd, F⟩ := T.says.def_ 39 (d := d_one_form) rfl
  have b : Binds K fd ["sheet"] [] := FunD.bindsN (ps := ["sheet"]) F fun _ _ _ _ _ _ us hl => match us, hl with | [_], _ => rfl
  obtain ⟨_, _, G_table_line, m_table_line, k_table_line, b_table_line⟩ := (ok_table_line (P := P) (w := w) (base := base) T).ex
  obtain ⟨_, _, G_group_line, m_group_line, k_group_line, b_group_line⟩ := (ok_group_line (P := P) (w := w) (base := base) T).ex
  obtain ⟨_, _, G_question_line, m_question_line, k_question_line, b_question_line⟩ := (ok_question_line (P := P) (w := w) (base := base) T).ex
  obtain ⟨_, _, G_index_line, m_index_line, k_index_line, b_index_line⟩ := (ok_index_line (P := P) (w := w) (base := base) T).ex
  refine ⟨fd, _, FunD.ok (CX := L2.CX P w) (k := 2) F sc_one_form (fun vs H Q E h => len_one_form h) (fun cdv A outer s H vs Q E hr h => ⟨t_one_form K E, ?_, pure_one_form T vs H Q E h⟩), g_one_form T, F.kp, b⟩
  exact (pss_cons (ps_set (i := 1) sc_one_form.nd rfl (Or.inl rfl) (pe_lst (pa_cons (pe_call G_table_line (hr.mono (by decide)) rfl m_table_line k_table_line b_table_line .nil passL (pa_cons (pe_fld (pv 0) rfl) pa_nil)) pa_nil)))
    (pss_cons (ps_expr (pe_bm PySem.F.plainAttrs_list PySem.F.slot_list_extend PySem.F.type_list_extend mt_extend (pv 1) (pa_cons (pe_lc (own := [("group", 3)]) (g := (gName 3)) (tt := tYes) rfl sc_one_form.nd (pi_list (pe_fld (pv 0) rfl)) (blkOk_by (own := [("group", 3)]) (N := N_one_form) (sc := defScope s_one_form) (by decide +kernel)) (fun _ _ _ _ _ => pg_name (i := 3) sc_one_form.nd rfl (Or.inl rfl)) (fun _ _ _ _ _ => pts_nil) (fun _ _ _ _ _ => (pe_call G_group_line (hr.mono (by decide)) rfl m_group_line k_group_line b_group_line .nil passL (pa_cons (pv 3) pa_nil)))) pa_nil)))
    (pss_cons (ps_expr (pe_bm PySem.F.plainAttrs_list PySem.F.slot_list_extend PySem.F.type_list_extend mt_extend (pv 1) (pa_cons (pe_lc (own := [("question", 4)]) (g := (gName 4)) (tt := tYes) rfl sc_one_form.nd (pi_list (pe_fld (pv 0) rfl)) (blkOk_by (own := [("question", 4)]) (N := N_one_form) (sc := defScope s_one_form) (by decide +kernel)) (fun _ _ _ _ _ => pg_name (i := 4) sc_one_form.nd rfl (Or.inl rfl)) (fun _ _ _ _ _ => pts_nil) (fun _ _ _ _ _ => (pe_call G_question_line (hr.mono (by decide)) rfl m_question_line k_question_line b_question_line .nil passL (pa_cons (pv 4) (pa_cons (pe_fld (pv 0) rfl) pa_nil))))) pa_nil)))
    (pss_cons (ps_expr (pe_bm PySem.F.plainAttrs_list PySem.F.slot_list_extend PySem.F.type_list_extend mt_extend (pv 1) (pa_cons (pe_lc (own := [("index", 5)]) (g := (gName 5)) (tt := tYes) rfl sc_one_form.nd (pi_list (pe_fld (pv 0) rfl)) (blkOk_by (own := [("index", 5)]) (N := N_one_form) (sc := defScope s_one_form) (by decide +kernel)) (fun _ _ _ _ _ => pg_name (i := 5) sc_one_form.nd rfl (Or.inl rfl)) (fun _ _ _ _ _ => pts_nil) (fun _ _ _ _ _ => (pe_call G_index_line (hr.mono (by decide)) rfl m_index_line k_index_line b_index_line .nil passL (pa_cons (pv 5) (pa_cons (pe_fld (pv 0) rfl) pa_nil))))) pa_nil)))
    (pss_one (ps_ret (pe_lc (own := [("sign", 2)]) (g := (gName 2)) (tt := tYes) rfl sc_one_form.nd (pi_str (pe_join pe_str (pv 1))) (blkOk_by (own := [("sign", 2)]) (N := N_one_form) (sc := defScope s_one_form) (by decide +kernel)) (fun _ _ _ _ _ => pg_name (i := 2) sc_one_form.nd rfl (Or.inl rfl)) (fun _ _ _ _ _ => pts_nil) (fun _ _ _ _ _ => (pe_callB call_ord (by rfl) (g_ord T) (by decide +kernel) (pa_cons (pv 2) pa_nil))))))))))
theorem sc_run_end : FnScope N_run_end ["text", "place", "lowest", "highest"] (defScope s_run_end) := ⟨rfl, rfl, rfl, by decide +kernel, rfl, by decide +kernel, by decide +kernel⟩
theorem ok_run_end (T : Txt K mg) : Call1 P w K mg base 1 "run_end" (sp_run_end K) := by
  obtain ⟨fd, F⟩ := T.says.def_ 51 (d := d_run_end) rfl
  have b : Binds K fd ["text", "place", "lowest", "highest"] [] := FunD.bindsN (ps := ["text", "place", "lowest", "highest"]) F fun _ _ _ _ _ _ us hl => match us, hl with | [_, _, _, _], _ => rfl
  refine ⟨fd, _, FunD.ok (CX := L2.CX P w) (k := 0) F sc_run_end (fun vs H Q E h => len_run_end h) (fun cdv A outer s H vs Q E hr h => ⟨t_run_end K E, ?_, pure_run_end T vs H Q E h⟩), g_run_end T, F.kp, b⟩
  exact (pss_cons (ps_set (i := 4) sc_run_end.nd rfl (Or.inl rfl) (pv 1))
    (pss_cons (ps_while (passes_of rfl) (PW.pt (pw_and (pt_cmpR op_lt (pv 4) (pe_callB call_len (by rfl) (g_len T) PySem.boot_len (pa_cons (pv 0) pa_nil)) (nomark _)) (pw_and1 (pt_chain op_le op_le (pv 2) (pe_ix ix_list (pv 0) (pv 4) (fun _ _ => rfl)) (pv 3))))) (pss_one (ps_aug sc_run_end.nd rfl (i := 4) (Or.inl rfl) pe_int ip_add)))
    (pss_cons (ps_if (pt_cmpR op_gt (pe_op op_sub (pv 4) (pv 1)) (pe_gk (by rfl) (c_LONGEST_RUN T)) (nomark _)) (pss_one (ps_raiseFt rfl (x_Fault_init T) hr (takes_of rfl rfl rfl rfl) (pa_cons (pe_gk (by rfl) (c_NO_TOKEN T)) (pa_cons (pv 1) pa_nil)))) pss_nil)
    (pss_one (ps_ret (pv 4))))))
theorem sc_word_at : FnScope N_word_at ["text", "place"] (defScope s_word_at) := ⟨rfl, rfl, rfl, by decide +kernel, rfl, by decide +kernel, by decide +kernel⟩
theorem ok_word_at (T : Txt K mg) : Call1 P w K mg base 3 "word_at" (sp_word_at K) := by
  obtain ⟨fd, F⟩ := T.says.def_ 49 (d := d_word_at) rfl
  have b : Binds K fd ["text", "place"] [] := FunD.bindsN (ps := ["text", "place"]) F fun _ _ _ _ _ _ us hl => match us, hl with | [_, _], _ => rfl
  obtain ⟨_, _, G_run_end, m_run_end, k_run_end, b_run_end⟩ := (ok_run_end (P := P) (w := w) (base := base) T).ex
  obtain ⟨_, _, _, M_Token_init, G_Token_init, m_Token_init, b_Token_init⟩ := (ok_Token_init (P := P) (w := w) (base := base) T).ex
  refine ⟨fd, _, FunD.ok (CX := L2.CX P w) (k := 2) F sc_word_at (fun vs H Q E h => len_word_at h) (fun cdv A outer s H vs Q E hr h => ⟨t_word_at K E, ?_, pure_word_at T vs H Q E h⟩), g_word_at T, F.kp, b⟩
  exact (pss_cons (ps_set (i := 2) sc_word_at.nd rfl (Or.inl rfl) (pe_call G_run_end (hr.mono (by decide)) rfl m_run_end k_run_end b_run_end .nil (passes_call (takes_of rfl rfl rfl rfl) (fun _ _ _ _ h => h)) (pa_cons (pv 0) (pa_cons (pv 1) (pa_cons (pe_gk (by rfl) (c_LETTER_A T)) (pa_cons (pe_gk (by rfl) (c_LETTER_Z T)) pa_nil))))))
    (pss_cons (ps_set (i := 3) sc_word_at.nd rfl (Or.inl rfl) (pe_join pe_str (pe_lc (own := [("byte", 4)]) (g := (gName 4)) (tt := tYes) rfl sc_word_at.nd (pi_list (pe_slice sl_list (pv 0) (po_some (pv 1)) (po_some (pv 2)))) (blkOk_by (own := [("byte", 4)]) (N := N_word_at) (sc := defScope s_word_at) (by decide +kernel)) (fun _ _ _ _ _ => pg_name (i := 4) sc_word_at.nd rfl (Or.inl rfl)) (fun _ _ _ _ _ => pts_nil) (fun _ _ _ _ _ => (pe_ix ix_str (pe_gk (by rfl) (c_LETTERS T)) (pe_op op_sub (pv 4) (pe_gk (by rfl) (c_LETTER_A T))) (fun _ _ => rfl))))))
    (pss_one (ps_ret (pe_make M_Token_init G_Token_init (hr.mono (by decide)) rfl m_Token_init b_Token_init .nil passL (pa_cons (pe_gk (by rfl) (c_WORD T)) (pa_cons (pv 3) (pa_cons pe_int (pa_cons (pv 1) (pa_cons (pv 2) pa_nil))))))))))
theorem sc_number_at : FnScope N_number_at ["text", "place"] (defScope s_number_at) := ⟨rfl, rfl, rfl, by decide +kernel, rfl, by decide +kernel, by decide +kernel⟩
theorem ok_number_at (T : Txt K mg) : Call1 P w K mg base 3 "number_at" (sp_number_at K) := by
  obtain ⟨fd, F⟩ := T.says.def_ 50 (d := d_number_at) rfl
  have b : Binds K fd ["text", "place"] [] := FunD.bindsN (ps := ["text", "place"]) F fun _ _ _ _ _ _ us hl => match us, hl with | [_, _], _ => rfl
  obtain ⟨_, _, G_run_end, m_run_end, k_run_end, b_run_end⟩ := (ok_run_end (P := P) (w := w) (base := base) T).ex
  obtain ⟨_, _, _, M_Token_init, G_Token_init, m_Token_init, b_Token_init⟩ := (ok_Token_init (P := P) (w := w) (base := base) T).ex
  refine ⟨fd, _, FunD.ok (CX := L2.CX P w) (k := 2) F sc_number_at (fun vs H Q E h => len_number_at h) (fun cdv A outer s H vs Q E hr h => ⟨t_number_at K E, ?_, pure_number_at T vs H Q E h⟩), g_number_at T, F.kp, b⟩
  exact (pss_cons (ps_set (i := 2) sc_number_at.nd rfl (Or.inl rfl) (pe_call G_run_end (hr.mono (by decide)) rfl m_run_end k_run_end b_run_end .nil (passes_call (takes_of rfl rfl rfl rfl) (fun _ _ _ _ h => h)) (pa_cons (pv 0) (pa_cons (pv 1) (pa_cons (pe_gk (by rfl) (c_DIGIT_0 T)) (pa_cons (pe_gk (by rfl) (c_DIGIT_9 T)) pa_nil))))))
    (pss_cons (ps_if (PW.pt (pw_and (pt_cmpR op_eq (pe_ix ix_list (pv 0) (pv 1) (fun _ _ => rfl)) (pe_gk (by rfl) (c_DIGIT_0 T)) (nomark _)) (pw_and1 (pt_cmpR op_gt (pv 2) (pe_op op_add (pv 1) pe_int) (nomark _))))) (pss_one (ps_raiseFt rfl (x_Fault_init T) hr (takes_of rfl rfl rfl rfl) (pa_cons (pe_gk (by rfl) (c_NO_TOKEN T)) (pa_cons (pv 1) pa_nil)))) pss_nil)
    (pss_cons (ps_set (i := 3) sc_number_at.nd rfl (Or.inl rfl) pe_int)
    (pss_cons (ps_for (passes_of rfl) rfl (pi_list (pe_slice sl_list (pv 0) (po_some (pv 1)) (po_some (pv 2)))) (pg_name (i := 4) sc_number_at.nd rfl (Or.inl rfl)) (pss_one (ps_set (i := 3) sc_number_at.nd rfl (Or.inl rfl) (pe_op op_sub (pe_op op_add (pe_op op_mul (pv 3) pe_int) (pv 4)) (pe_gk (by rfl) (c_DIGIT_0 T))))))
    (pss_one (ps_ret (pe_make M_Token_init G_Token_init (hr.mono (by decide)) rfl m_Token_init b_Token_init .nil passL (pa_cons (pe_gk (by rfl) (c_NUMBER T)) (pa_cons pe_str (pa_cons (pv 3) (pa_cons (pv 1) (pa_cons (pv 2) pa_nil))))))))))))
theorem sc_token_at : FnScope N_token_at ["text", "place"] (defScope s_token_at) := ⟨rfl, rfl, rfl, by decide +kernel, rfl, by decide +kernel, by decide +kernel⟩
theorem ok_token_at (T : Txt K mg) : Call1 P w K mg base 4 "token_at" (sp_token_at K) := by
  obtain ⟨fd, F⟩ := T.says.def_ 48 (d := d_token_at) rfl
  have b : Binds K fd ["text", "place"] [] := FunD.bindsN (ps := ["text", "place"]) F fun _ _ _ _ _ _ us hl => match us, hl with | [_, _], _ => rfl
  obtain ⟨_, _, G_word_at, m_word_at, k_word_at, b_word_at⟩ := (ok_word_at (P := P) (w := w) (base := base) T).ex
  obtain ⟨_, _, G_number_at, m_number_at, k_number_at, b_number_at⟩ := (ok_number_at (P := P) (w := w) (base := base) T).ex
  obtain ⟨_, _, _, M_Token_init, G_Token_init, m_Token_init, b_Token_init⟩ := (ok_Token_init (P := P) (w := w) (base := base) T).ex
  refine ⟨fd, _, FunD.ok (CX := L2.CX P w) (k := 3) F sc_token_at (fun vs H Q E h => len_token_at h) (fun cdv A outer s H vs Q E hr h => ⟨t_token_at K E, ?_, pure_token_at T vs H Q E h⟩), g_token_at T, F.kp, b⟩
  exact (pss_cons (ps_set (i := 2) sc_token_at.nd rfl (Or.inl rfl) (pe_ix ix_list (pv 0) (pv 1) (fun _ _ => rfl)))
    (pss_cons (ps_if (pt_chain op_le op_le (pe_gk (by rfl) (c_LETTER_A T)) (pv 2) (pe_gk (by rfl) (c_LETTER_Z T))) (pss_one (ps_ret (pe_call G_word_at (hr.mono (by decide)) rfl m_word_at k_word_at b_word_at .nil (passes_call (takes_of rfl rfl rfl rfl) (fun _ _ _ _ h => h)) (pa_cons (pv 0) (pa_cons (pv 1) pa_nil))))) pss_nil)
    (pss_cons (ps_if (pt_chain op_le op_le (pe_gk (by rfl) (c_DIGIT_0 T)) (pv 2) (pe_gk (by rfl) (c_DIGIT_9 T))) (pss_one (ps_ret (pe_call G_number_at (hr.mono (by decide)) rfl m_number_at k_number_at b_number_at .nil (passes_call (takes_of rfl rfl rfl rfl) (fun _ _ _ _ h => h)) (pa_cons (pv 0) (pa_cons (pv 1) pa_nil))))) pss_nil)
    (pss_cons (ps_if (pt_cmpR op_in_wd (pv 2) (pe_glob (by rfl) (g_SIGNS T) rfl) rfl) (pss_one (ps_ret (pe_make M_Token_init G_Token_init (hr.mono (by decide)) rfl m_Token_init b_Token_init .nil passL (pa_cons (pe_gk (by rfl) (c_SIGN T)) (pa_cons (pe_ix ix_wd (pe_glob (by rfl) (g_SIGNS T) rfl) (pv 2) (fun _ _ => rfl)) (pa_cons pe_int (pa_cons (pv 1) (pa_cons (pe_op op_add (pv 1) pe_int) pa_nil)))))))) pss_nil)
    (pss_one (ps_raiseFt rfl (x_Fault_init T) hr (takes_of rfl rfl rfl rfl) (pa_cons (pe_gk (by rfl) (c_NO_TOKEN T)) (pa_cons (pv 1) pa_nil))))))))
theorem sc_tokens_of : FnScope N_tokens_of ["text"] (defScope s_tokens_of) := ⟨rfl, rfl, rfl, by decide +kernel, rfl, by decide +kernel, by decide +kernel⟩
theorem ok_tokens_of (T : Txt K mg) : Call1 P w K mg base 5 "tokens_of" (sp_tokens_of K) := by
  obtain ⟨fd, F⟩ := T.says.def_ 47 (d := d_tokens_of) rfl
  have b : Binds K fd ["text"] [] := FunD.bindsN (ps := ["text"]) F fun _ _ _ _ _ _ us hl => match us, hl with | [_], _ => rfl
  obtain ⟨_, _, G_token_at, m_token_at, k_token_at, b_token_at⟩ := (ok_token_at (P := P) (w := w) (base := base) T).ex
  obtain ⟨_, _, _, M_Token_init, G_Token_init, m_Token_init, b_Token_init⟩ := (ok_Token_init (P := P) (w := w) (base := base) T).ex
  refine ⟨fd, _, FunD.ok (CX := L2.CX P w) (k := 4) F sc_tokens_of (fun vs H Q E h => len_tokens_of h) (fun cdv A outer s H vs Q E hr h => ⟨t_tokens_of K E, ?_, pure_tokens_of T vs H Q E h⟩), g_tokens_of T, F.kp, b⟩
  exact (pss_cons (ps_set (i := 1) sc_tokens_of.nd rfl (Or.inl rfl) (pe_lst pa_nil))
    (pss_cons (ps_set (i := 2) sc_tokens_of.nd rfl (Or.inl rfl) pe_int)
    (pss_cons (ps_while (passes_of rfl) (pt_cmpR op_lt (pv 2) (pe_callB call_len (by rfl) (g_len T) PySem.boot_len (pa_cons (pv 0) pa_nil)) (nomark _)) (pss_one (ps_if (pt_cmpR op_in_seq (pe_ix ix_list (pv 0) (pv 2) (fun _ _ => rfl)) (pe_glob (by rfl) (g_BLANKS T) rfl) rfl) (pss_one (ps_aug sc_tokens_of.nd rfl (i := 2) (Or.inl rfl) pe_int ip_add)) (pss_cons (ps_set (i := 3) sc_tokens_of.nd rfl (Or.inl rfl) (pe_call G_token_at (hr.mono (by decide)) rfl m_token_at k_token_at b_token_at .nil (passes_call (takes_of rfl rfl rfl rfl) (fun _ _ _ _ h => h)) (pa_cons (pv 0) (pa_cons (pv 2) pa_nil))))
    (pss_cons (ps_expr (pe_bm PySem.F.plainAttrs_list PySem.F.slot_list_append PySem.F.type_list_append mt_append (pv 1) (pa_cons (pv 3) pa_nil)))
    (pss_one (ps_set (i := 2) sc_tokens_of.nd rfl (Or.inl rfl) (pe_fld (pv 3) rfl))))))))
    (pss_cons (ps_expr (pe_bm PySem.F.plainAttrs_list PySem.F.slot_list_append PySem.F.type_list_append mt_append (pv 1) (pa_cons (pe_make M_Token_init G_Token_init (hr.mono (by decide)) rfl m_Token_init b_Token_init .nil passL (pa_cons (pe_gk (by rfl) (c_END T)) (pa_cons pe_str (pa_cons pe_int (pa_cons (pe_callB call_len (by rfl) (g_len T) PySem.boot_len (pa_cons (pv 0) pa_nil)) (pa_cons (pe_callB call_len (by rfl) (g_len T) PySem.boot_len (pa_cons (pv 0) pa_nil)) pa_nil)))))) pa_nil)))
    (pss_one (ps_ret (pv 1)))))))
theorem sc_read_new_name : FnScope N_read_new_name ["reader", "earlier"] (defScope s_read_new_name) := ⟨rfl, rfl, rfl, by decide +kernel, rfl, by decide +kernel, by decide +kernel⟩
theorem ok_read_new_name (T : Txt K mg) : Call1 P w K mg base 3 "read_new_name" (sp_read_new_name K) := by
  obtain ⟨fd, F⟩ := T.says.def_ 55 (d := d_read_new_name) rfl
  have b : Binds K fd ["reader", "earlier"] [] := FunD.bindsN (ps := ["reader", "earlier"]) F fun _ _ _ _ _ _ us hl => match us, hl with | [_, _], _ => rfl
  obtain ⟨_, _, _, c_Reader_current, m_Reader_current, G_Reader_current, b_Reader_current⟩ := (ok_Reader_current (P := P) (w := w) (base := base) T).ex
  obtain ⟨_, _, _, c_Reader_take_name, m_Reader_take_name, G_Reader_take_name, b_Reader_take_name⟩ := (ok_Reader_take_name (P := P) (w := w) (base := base) T).ex
  refine ⟨fd, _, FunD.ok (CX := L2.CX P w) (k := 2) F sc_read_new_name (fun vs H Q E h => len_read_new_name h) (fun cdv A outer s H vs Q E hr h => ⟨t_read_new_name K E, ?_, pure_read_new_name T vs H Q E h⟩), g_read_new_name T, F.kp, b⟩
  exact (pss_cons (ps_set (i := 2) sc_read_new_name.nd rfl (Or.inl rfl) (pe_fld (pe_meth0 (pv 0) c_Reader_current m_Reader_current G_Reader_current (hr.mono (by decide)) b_Reader_current .nil passL) rfl))
    (pss_cons (ps_set (i := 3) sc_read_new_name.nd rfl (Or.inl rfl) (pe_meth0 (pv 0) c_Reader_take_name m_Reader_take_name G_Reader_take_name (hr.mono (by decide)) b_Reader_take_name .nil (passes_call (takes_of rfl rfl rfl rfl) (fun _ _ _ _ h => h))))
    (pss_cons (ps_if (pt_cmpR op_in_seq (pv 3) (pv 1) rfl) (pss_one (ps_raiseFt rfl (x_Fault_init T) hr (takes_of rfl rfl rfl rfl) (pa_cons (pe_gk (by rfl) (c_WRONG_WORD T)) (pa_cons (pv 2) pa_nil)))) pss_nil)
    (pss_one (ps_ret (pv 3))))))
theorem sc_read_table : FnScope N_read_table ["reader"] (defScope s_read_table) := ⟨rfl, rfl, rfl, by decide +kernel, rfl, by decide +kernel, by decide +kernel⟩
theorem ok_read_table (T : Txt K mg) : Call1 P w K mg base 5 "read_table" (sp_read_table K) := by
  obtain ⟨fd, F⟩ := T.says.def_ 54 (d := d_read_table) rfl
  have b : Binds K fd ["reader"] [] := FunD.bindsN (ps := ["reader"]) F fun _ _ _ _ _ _ us hl => match us, hl with | [_], _ => rfl
  obtain ⟨_, _, _, c_Reader_expect, m_Reader_expect, G_Reader_expect, b_Reader_expect⟩ := (ok_Reader_expect (P := P) (w := w) (base := base) T).ex
  obtain ⟨_, _, G_read_new_name, m_read_new_name, k_read_new_name, b_read_new_name⟩ := (ok_read_new_name (P := P) (w := w) (base := base) T).ex
  obtain ⟨_, _, _, c_Reader_skip_if, m_Reader_skip_if, G_Reader_skip_if, b_Reader_skip_if⟩ := (ok_Reader_skip_if (P := P) (w := w) (base := base) T).ex
  obtain ⟨_, _, _, c_Reader_current, m_Reader_current, G_Reader_current, b_Reader_current⟩ := (ok_Reader_current (P := P) (w := w) (base := base) T).ex
  refine ⟨fd, _, FunD.ok (CX := L2.CX P w) (k := 4) F sc_read_table (fun vs H Q E h => len_read_table h) (fun cdv A outer s H vs Q E hr h => ⟨t_read_table K E, ?_, pure_read_table T vs H Q E h⟩), g_read_table T, F.kp, b⟩
  exact (pss_cons (ps_expr (pe_meth (pv 0) c_Reader_expect m_Reader_expect G_Reader_expect (hr.mono (by decide)) b_Reader_expect .nil (passes_call (takes_of rfl rfl rfl rfl) (fun _ _ _ _ h => h)) (pa_cons pe_str pa_nil)))
    (pss_cons (ps_expr (pe_meth (pv 0) c_Reader_expect m_Reader_expect G_Reader_expect (hr.mono (by decide)) b_Reader_expect .nil (passes_call (takes_of rfl rfl rfl rfl) (fun _ _ _ _ h => h)) (pa_cons pe_str pa_nil)))
    (pss_cons (ps_set (i := 1) sc_read_table.nd rfl (Or.inl rfl) (pe_lst (pa_cons (pe_call G_read_new_name (hr.mono (by decide)) rfl m_read_new_name k_read_new_name b_read_new_name .nil (passes_call (takes_of rfl rfl rfl rfl) (fun _ _ _ _ h => h)) (pa_cons (pv 0) (pa_cons (pe_lst pa_nil) pa_nil))) pa_nil)))
    (pss_cons (ps_while (passes_of rfl) (pt_val (pe_meth (pv 0) c_Reader_skip_if m_Reader_skip_if G_Reader_skip_if (hr.mono (by decide)) b_Reader_skip_if .nil passL (pa_cons pe_str pa_nil))) (pss_cons (ps_set (i := 2) sc_read_table.nd rfl (Or.inl rfl) (pe_fld (pe_meth0 (pv 0) c_Reader_current m_Reader_current G_Reader_current (hr.mono (by decide)) b_Reader_current .nil passL) rfl))
    (pss_cons (ps_set (i := 3) sc_read_table.nd rfl (Or.inl rfl) (pe_call G_read_new_name (hr.mono (by decide)) rfl m_read_new_name k_read_new_name b_read_new_name .nil (passes_call (takes_of rfl rfl rfl rfl) (fun _ _ _ _ h => h)) (pa_cons (pv 0) (pa_cons (pv 1) pa_nil))))
    (pss_cons (ps_if (pt_cmpR op_eq (pe_callB call_len (by rfl) (g_len T) PySem.boot_len (pa_cons (pv 1) pa_nil)) (pe_gk (by rfl) (c_MOST_COLUMNS T)) (nomark _)) (pss_one (ps_raiseFt rfl (x_Fault_init T) hr (takes_of rfl rfl rfl rfl) (pa_cons (pe_gk (by rfl) (c_TOO_MANY T)) (pa_cons (pv 2) pa_nil)))) pss_nil)
    (pss_one (ps_expr (pe_bm PySem.F.plainAttrs_list PySem.F.slot_list_append PySem.F.type_list_append mt_append (pv 1) (pa_cons (pv 3) pa_nil))))))))
    (pss_cons (ps_expr (pe_meth (pv 0) c_Reader_expect m_Reader_expect G_Reader_expect (hr.mono (by decide)) b_Reader_expect .nil (passes_call (takes_of rfl rfl rfl rfl) (fun _ _ _ _ h => h)) (pa_cons pe_str pa_nil)))
    (pss_cons (ps_expr (pe_meth (pv 0) c_Reader_expect m_Reader_expect G_Reader_expect (hr.mono (by decide)) b_Reader_expect .nil (passes_call (takes_of rfl rfl rfl rfl) (fun _ _ _ _ h => h)) (pa_cons pe_str pa_nil)))
    (pss_one (ps_ret (pv 1)))))))))
theorem sc_check_room : FnScope N_check_room ["reader", "earlier", "most"] (defScope s_check_room) := ⟨rfl, rfl, rfl, by decide +kernel, rfl, by decide +kernel, by decide +kernel⟩
theorem ok_check_room (T : Txt K mg) : Call1 P w K mg base 2 "check_room" (sp_check_room K) := by
  obtain ⟨fd, F⟩ := T.says.def_ 53 (d := d_check_room) rfl
  have b : Binds K fd ["reader", "earlier", "most"] [] := FunD.bindsN (ps := ["reader", "earlier", "most"]) F fun _ _ _ _ _ _ us hl => match us, hl with | [_, _, _], _ => rfl
  obtain ⟨_, _, _, c_Reader_current, m_Reader_current, G_Reader_current, b_Reader_current⟩ := (ok_Reader_current (P := P) (w := w) (base := base) T).ex
  refine ⟨fd, _, FunD.ok (CX := L2.CX P w) (k := 1) F sc_check_room (fun vs H Q E h => len_check_room h) (fun cdv A outer s H vs Q E hr h => ⟨t_check_room K E, ?_, pure_check_room T vs H Q E h⟩), g_check_room T, F.kp, b⟩
  exact (pss_one (ps_if (pt_cmpR op_eq (pe_callB call_len (by rfl) (g_len T) PySem.boot_len (pa_cons (pv 1) pa_nil)) (pv 2) (nomark _)) (pss_one (ps_raiseFt rfl (x_Fault_init T) hr (takes_of rfl rfl rfl rfl) (pa_cons (pe_gk (by rfl) (c_TOO_MANY T)) (pa_cons (pe_fld (pe_meth0 (pv 0) c_Reader_current m_Reader_current G_Reader_current (hr.mono (by decide)) b_Reader_current .nil passL) rfl) pa_nil)))) pss_nil))
theorem sc_read_cells : FnScope N_read_cells ["reader", "sheet"] (defScope s_read_cells) := ⟨rfl, rfl, rfl, by decide +kernel, rfl, by decide +kernel, by decide +kernel⟩
theorem ok_read_cells (T : Txt K mg) : Call1 P w K mg base 5 "read_cells" (sp_read_cells K) := by
  obtain ⟨fd, F⟩ := T.says.def_ 57 (d := d_read_cells) rfl
  have b : Binds K fd ["reader", "sheet"] [] := FunD.bindsN (ps := ["reader", "sheet"]) F fun _ _ _ _ _ _ us hl => match us, hl with | [_, _], _ => rfl
  obtain ⟨_, _, _, c_Reader_current, m_Reader_current, G_Reader_current, b_Reader_current⟩ := (ok_Reader_current (P := P) (w := w) (base := base) T).ex
  obtain ⟨_, _, _, c_Reader_take_number, m_Reader_take_number, G_Reader_take_number, b_Reader_take_number⟩ := (ok_Reader_take_number (P := P) (w := w) (base := base) T).ex
  obtain ⟨_, _, _, c_Reader_expect, m_Reader_expect, G_Reader_expect, b_Reader_expect⟩ := (ok_Reader_expect (P := P) (w := w) (base := base) T).ex
  refine ⟨fd, _, FunD.ok (CX := L2.CX P w) (k := 4) F sc_read_cells (fun vs H Q E h => len_read_cells h) (fun cdv A outer s H vs Q E hr h => ⟨t_read_cells K E, ?_, pure_read_cells T vs H Q E h⟩), g_read_cells T, F.kp, b⟩
  exact (pss_cons (ps_set (i := 2) sc_read_cells.nd rfl (Or.inl rfl) (pe_fld (pe_meth0 (pv 0) c_Reader_current m_Reader_current G_Reader_current (hr.mono (by decide)) b_Reader_current .nil passL) rfl))
    (pss_cons (ps_set (i := 3) sc_read_cells.nd rfl (Or.inl rfl) (pe_lst (pa_cons (pe_meth (pv 0) c_Reader_take_number m_Reader_take_number G_Reader_take_number (hr.mono (by decide)) b_Reader_take_number .nil (passes_call (takes_of rfl rfl rfl rfl) (fun _ _ _ _ h => h)) (pa_cons pe_int (pa_cons (pe_gk (by rfl) (c_HIGHEST_VALUE T)) pa_nil))) pa_nil)))
    (pss_cons (ps_while (passes_of rfl) (pt_cmpR op_lt (pe_callB call_len (by rfl) (g_len T) PySem.boot_len (pa_cons (pv 3) pa_nil)) (pe_callB call_len (by rfl) (g_len T) PySem.boot_len (pa_cons (pe_fld (pv 1) rfl) pa_nil)) (nomark _)) (pss_cons (ps_expr (pe_meth (pv 0) c_Reader_expect m_Reader_expect G_Reader_expect (hr.mono (by decide)) b_Reader_expect .nil (passes_call (takes_of rfl rfl rfl rfl) (fun _ _ _ _ h => h)) (pa_cons pe_str pa_nil)))
    (pss_one (ps_expr (pe_bm PySem.F.plainAttrs_list PySem.F.slot_list_append PySem.F.type_list_append mt_append (pv 3) (pa_cons (pe_meth (pv 0) c_Reader_take_number m_Reader_take_number G_Reader_take_number (hr.mono (by decide)) b_Reader_take_number .nil (passes_call (takes_of rfl rfl rfl rfl) (fun _ _ _ _ h => h)) (pa_cons pe_int (pa_cons (pe_gk (by rfl) (c_HIGHEST_VALUE T)) pa_nil))) pa_nil))))))
    (pss_cons (ps_if (pt_cmpR (op_inD (hu65 hr)) (pv 3) (pe_lc (own := [("group", 4)]) (g := (gName 4)) (tt := tYes) rfl sc_read_cells.nd (pi_list (pe_fld (pv 1) rfl)) (blkOk_by (own := [("group", 4)]) (N := N_read_cells) (sc := defScope s_read_cells) (by decide +kernel)) (fun _ _ _ _ _ => pg_name (i := 4) sc_read_cells.nd rfl (Or.inl rfl)) (fun _ _ _ _ _ => pts_nil) (fun _ _ _ _ _ => (pe_fld (pv 4) rfl))) rfl) (pss_one (ps_raiseFt rfl (x_Fault_init T) hr (takes_of rfl rfl rfl rfl) (pa_cons (pe_gk (by rfl) (c_WRONG_WORD T)) (pa_cons (pv 2) pa_nil)))) pss_nil)
    (pss_one (ps_ret (pv 3)))))))
theorem sc_read_group : FnScope N_read_group ["reader", "sheet"] (defScope s_read_group) := ⟨rfl, rfl, rfl, by decide +kernel, rfl, by decide +kernel, by decide +kernel⟩
theorem ok_read_group (T : Txt K mg) : Call1 P w K mg base 6 "read_group" (sp_read_group K) := by
  obtain ⟨fd, F⟩ := T.says.def_ 56 (d := d_read_group) rfl
  have b : Binds K fd ["reader", "sheet"] [] := FunD.bindsN (ps := ["reader", "sheet"]) F fun _ _ _ _ _ _ us hl => match us, hl with | [_, _], _ => rfl
  obtain ⟨_, _, _, c_Reader_expect, m_Reader_expect, G_Reader_expect, b_Reader_expect⟩ := (ok_Reader_expect (P := P) (w := w) (base := base) T).ex
  obtain ⟨_, _, G_read_cells, m_read_cells, k_read_cells, b_read_cells⟩ := (ok_read_cells (P := P) (w := w) (base := base) T).ex
  obtain ⟨_, _, _, c_Reader_take_number, m_Reader_take_number, G_Reader_take_number, b_Reader_take_number⟩ := (ok_Reader_take_number (P := P) (w := w) (base := base) T).ex
  obtain ⟨_, _, _, M_Group_init, G_Group_init, m_Group_init, b_Group_init⟩ := (ok_Group_init (P := P) (w := w) (base := base) T).ex
  refine ⟨fd, _, FunD.ok (CX := L2.CX P w) (k := 5) F sc_read_group (fun vs H Q E h => len_read_group h) (fun cdv A outer s H vs Q E hr h => ⟨t_read_group K E, ?_, pure_read_group T vs H Q E h⟩), g_read_group T, F.kp, b⟩
  exact (pss_cons (ps_expr (pe_meth (pv 0) c_Reader_expect m_Reader_expect G_Reader_expect (hr.mono (by decide)) b_Reader_expect .nil (passes_call (takes_of rfl rfl rfl rfl) (fun _ _ _ _ h => h)) (pa_cons pe_str pa_nil)))
    (pss_cons (ps_set (i := 2) sc_read_group.nd rfl (Or.inl rfl) (pe_call G_read_cells (hr.mono (by decide)) rfl m_read_cells k_read_cells b_read_cells .nil (passes_call (takes_of rfl rfl rfl rfl) (fun _ _ _ _ h => h)) (pa_cons (pv 0) (pa_cons (pv 1) pa_nil))))
    (pss_cons (ps_expr (pe_meth (pv 0) c_Reader_expect m_Reader_expect G_Reader_expect (hr.mono (by decide)) b_Reader_expect .nil (passes_call (takes_of rfl rfl rfl rfl) (fun _ _ _ _ h => h)) (pa_cons pe_str pa_nil)))
    (pss_cons (ps_set (i := 3) sc_read_group.nd rfl (Or.inl rfl) (pe_meth (pv 0) c_Reader_take_number m_Reader_take_number G_Reader_take_number (hr.mono (by decide)) b_Reader_take_number .nil (passes_call (takes_of rfl rfl rfl rfl) (fun _ _ _ _ h => h)) (pa_cons pe_int (pa_cons (pe_gk (by rfl) (c_MOST_ROWS T)) pa_nil))))
    (pss_cons (ps_expr (pe_meth (pv 0) c_Reader_expect m_Reader_expect G_Reader_expect (hr.mono (by decide)) b_Reader_expect .nil (passes_call (takes_of rfl rfl rfl rfl) (fun _ _ _ _ h => h)) (pa_cons pe_str pa_nil)))
    (pss_one (ps_ret (pe_make M_Group_init G_Group_init (hr.mono (by decide)) rfl m_Group_init b_Group_init .nil passL (pa_cons (pv 2) (pa_cons (pv 3) pa_nil))))))))))
theorem sc_read_column : FnScope N_read_column ["reader", "names", "taken"] (defScope s_read_column) := ⟨rfl, rfl, rfl, by decide +kernel, rfl, by decide +kernel, by decide +kernel⟩
theorem ok_read_column (T : Txt K mg) : Call1 P w K mg base 3 "read_column" (sp_read_column K) := by
  obtain ⟨fd, F⟩ := T.says.def_ 61 (d := d_read_column) rfl
  have b : Binds K fd ["reader", "names", "taken"] [] := FunD.bindsN (ps := ["reader", "names", "taken"]) F fun _ _ _ _ _ _ us hl => match us, hl with | [_, _, _], _ => rfl
  obtain ⟨_, _, _, c_Reader_current, m_Reader_current, G_Reader_current, b_Reader_current⟩ := (ok_Reader_current (P := P) (w := w) (base := base) T).ex
  obtain ⟨_, _, _, c_Reader_take_name, m_Reader_take_name, G_Reader_take_name, b_Reader_take_name⟩ := (ok_Reader_take_name (P := P) (w := w) (base := base) T).ex
  refine ⟨fd, _, FunD.ok (CX := L2.CX P w) (k := 2) F sc_read_column (fun vs H Q E h => len_read_column h) (fun cdv A outer s H vs Q E hr h => ⟨t_read_column K E, ?_, pure_read_column T vs H Q E h⟩), g_read_column T, F.kp, b⟩
  exact (pss_cons (ps_set (i := 3) sc_read_column.nd rfl (Or.inl rfl) (pe_fld (pe_meth0 (pv 0) c_Reader_current m_Reader_current G_Reader_current (hr.mono (by decide)) b_Reader_current .nil passL) rfl))
    (pss_cons (ps_set (i := 4) sc_read_column.nd rfl (Or.inl rfl) (pe_meth0 (pv 0) c_Reader_take_name m_Reader_take_name G_Reader_take_name (hr.mono (by decide)) b_Reader_take_name .nil (passes_call (takes_of rfl rfl rfl rfl) (fun _ _ _ _ h => h))))
    (pss_cons (ps_if (pt_cmpR op_notIn_seq (pv 4) (pv 1) rfl) (pss_one (ps_raiseFt rfl (x_Fault_init T) hr (takes_of rfl rfl rfl rfl) (pa_cons (pe_gk (by rfl) (c_WRONG_WORD T)) (pa_cons (pv 3) pa_nil)))) pss_nil)
    (pss_cons (ps_set (i := 5) sc_read_column.nd rfl (Or.inl rfl) (pe_bm PySem.F.plainAttrs_list PySem.F.slot_list_index PySem.F.type_list_index mt_index (pv 1) (pa_cons (pv 4) pa_nil)))
    (pss_cons (ps_if (pt_cmpR op_in_seq (pv 5) (pv 2) rfl) (pss_one (ps_raiseFt rfl (x_Fault_init T) hr (takes_of rfl rfl rfl rfl) (pa_cons (pe_gk (by rfl) (c_WRONG_WORD T)) (pa_cons (pv 3) pa_nil)))) pss_nil)
    (pss_one (ps_ret (pv 5))))))))
theorem sc_read_filter : FnScope N_read_filter ["reader", "names"] (defScope s_read_filter) := ⟨rfl, rfl, rfl, by decide +kernel, rfl, by decide +kernel, by decide +kernel⟩
theorem ok_read_filter (T : Txt K mg) : Call1 P w K mg base 5 "read_filter" (sp_read_filter K) := by
  obtain ⟨fd, F⟩ := T.says.def_ 63 (d := d_read_filter) rfl
  have b : Binds K fd ["reader", "names"] [] := FunD.bindsN (ps := ["reader", "names"]) F fun _ _ _ _ _ _ us hl => match us, hl with | [_, _], _ => rfl
  obtain ⟨_, _, G_read_column, m_read_column, k_read_column, b_read_column⟩ := (ok_read_column (P := P) (w := w) (base := base) T).ex
  obtain ⟨_, _, _, c_Reader_skip_if, m_Reader_skip_if, G_Reader_skip_if, b_Reader_skip_if⟩ := (ok_Reader_skip_if (P := P) (w := w) (base := base) T).ex
  obtain ⟨_, _, _, c_Reader_take_number, m_Reader_take_number, G_Reader_take_number, b_Reader_take_number⟩ := (ok_Reader_take_number (P := P) (w := w) (base := base) T).ex
  obtain ⟨_, _, _, M_Filter_init, G_Filter_init, m_Filter_init, b_Filter_init⟩ := (ok_Filter_init (P := P) (w := w) (base := base) T).ex
  obtain ⟨_, _, _, c_Reader_expect, m_Reader_expect, G_Reader_expect, b_Reader_expect⟩ := (ok_Reader_expect (P := P) (w := w) (base := base) T).ex
  refine ⟨fd, _, FunD.ok (CX := L2.CX P w) (k := 4) F sc_read_filter (fun vs H Q E h => len_read_filter h) (fun cdv A outer s H vs Q E hr h => ⟨t_read_filter K E, ?_, pure_read_filter T vs H Q E h⟩), g_read_filter T, F.kp, b⟩
  exact (pss_cons (ps_set (i := 2) sc_read_filter.nd rfl (Or.inl rfl) (pe_call G_read_column (hr.mono (by decide)) rfl m_read_column k_read_column b_read_column .nil (passes_call (takes_of rfl rfl rfl rfl) (fun _ _ _ _ h => h)) (pa_cons (pv 0) (pa_cons (pv 1) (pa_cons (pe_lst pa_nil) pa_nil)))))
    (pss_cons (ps_if (pt_val (pe_meth (pv 0) c_Reader_skip_if m_Reader_skip_if G_Reader_skip_if (hr.mono (by decide)) b_Reader_skip_if .nil passL (pa_cons pe_str pa_nil))) (pss_cons (ps_set (i := 3) sc_read_filter.nd rfl (Or.inl rfl) (pe_meth (pv 0) c_Reader_take_number m_Reader_take_number G_Reader_take_number (hr.mono (by decide)) b_Reader_take_number .nil (passes_call (takes_of rfl rfl rfl rfl) (fun _ _ _ _ h => h)) (pa_cons pe_int (pa_cons (pe_gk (by rfl) (c_HIGHEST_VALUE T)) pa_nil))))
    (pss_one (ps_ret (pe_make M_Filter_init G_Filter_init (hr.mono (by decide)) rfl m_Filter_init b_Filter_init .nil passL (pa_cons (pv 2) (pa_cons (pv 3) (pa_cons (pv 3) pa_nil))))))) pss_nil)
    (pss_cons (ps_expr (pe_meth (pv 0) c_Reader_expect m_Reader_expect G_Reader_expect (hr.mono (by decide)) b_Reader_expect .nil (passes_call (takes_of rfl rfl rfl rfl) (fun _ _ _ _ h => h)) (pa_cons pe_str pa_nil)))
    (pss_cons (ps_set (i := 4) sc_read_filter.nd rfl (Or.inl rfl) (pe_meth (pv 0) c_Reader_take_number m_Reader_take_number G_Reader_take_number (hr.mono (by decide)) b_Reader_take_number .nil (passes_call (takes_of rfl rfl rfl rfl) (fun _ _ _ _ h => h)) (pa_cons pe_int (pa_cons (pe_gk (by rfl) (c_HIGHEST_VALUE T)) pa_nil))))
    (pss_cons (ps_expr (pe_meth (pv 0) c_Reader_expect m_Reader_expect G_Reader_expect (hr.mono (by decide)) b_Reader_expect .nil (passes_call (takes_of rfl rfl rfl rfl) (fun _ _ _ _ h => h)) (pa_cons pe_str pa_nil)))
    (pss_cons (ps_set (i := 5) sc_read_filter.nd rfl (Or.inl rfl) (pe_meth (pv 0) c_Reader_take_number m_Reader_take_number G_Reader_take_number (hr.mono (by decide)) b_Reader_take_number .nil (passes_call (takes_of rfl rfl rfl rfl) (fun _ _ _ _ h => h)) (pa_cons (pv 4) (pa_cons (pe_gk (by rfl) (c_HIGHEST_VALUE T)) pa_nil))))
    (pss_one (ps_ret (pe_make M_Filter_init G_Filter_init (hr.mono (by decide)) rfl m_Filter_init b_Filter_init .nil passL (pa_cons (pv 2) (pa_cons (pv 4) (pa_cons (pv 5) pa_nil))))))))))))
theorem sc_read_filters : FnScope N_read_filters ["reader", "names"] (defScope s_read_filters) := ⟨rfl, rfl, rfl, by decide +kernel, rfl, by decide +kernel, by decide +kernel⟩
theorem ok_read_filters (T : Txt K mg) : Call1 P w K mg base 6 "read_filters" (sp_read_filters K) := by
  obtain ⟨fd, F⟩ := T.says.def_ 62 (d := d_read_filters) rfl
  have b : Binds K fd ["reader", "names"] [] := FunD.bindsN (ps := ["reader", "names"]) F fun _ _ _ _ _ _ us hl => match us, hl with | [_, _], _ => rfl
  obtain ⟨_, _, G_read_filter, m_read_filter, k_read_filter, b_read_filter⟩ := (ok_read_filter (P := P) (w := w) (base := base) T).ex
  obtain ⟨_, _, _, c_Reader_skip_if, m_Reader_skip_if, G_Reader_skip_if, b_Reader_skip_if⟩ := (ok_Reader_skip_if (P := P) (w := w) (base := base) T).ex
  obtain ⟨_, _, _, c_Reader_current, m_Reader_current, G_Reader_current, b_Reader_current⟩ := (ok_Reader_current (P := P) (w := w) (base := base) T).ex
  refine ⟨fd, _, FunD.ok (CX := L2.CX P w) (k := 5) F sc_read_filters (fun vs H Q E h => len_read_filters h) (fun cdv A outer s H vs Q E hr h => ⟨t_read_filters K E, ?_, pure_read_filters T vs H Q E h⟩), g_read_filters T, F.kp, b⟩
  exact (pss_cons (ps_set (i := 2) sc_read_filters.nd rfl (Or.inl rfl) (pe_lst (pa_cons (pe_call G_read_filter (hr.mono (by decide)) rfl m_read_filter k_read_filter b_read_filter .nil (passes_call (takes_of rfl rfl rfl rfl) (fun _ _ _ _ h => h)) (pa_cons (pv 0) (pa_cons (pv 1) pa_nil))) pa_nil)))
    (pss_cons (ps_while (passes_of rfl) (pt_val (pe_meth (pv 0) c_Reader_skip_if m_Reader_skip_if G_Reader_skip_if (hr.mono (by decide)) b_Reader_skip_if .nil passL (pa_cons pe_str pa_nil))) (pss_cons (ps_set (i := 3) sc_read_filters.nd rfl (Or.inl rfl) (pe_fld (pe_meth0 (pv 0) c_Reader_current m_Reader_current G_Reader_current (hr.mono (by decide)) b_Reader_current .nil passL) rfl))
    (pss_cons (ps_set (i := 4) sc_read_filters.nd rfl (Or.inl rfl) (pe_call G_read_filter (hr.mono (by decide)) rfl m_read_filter k_read_filter b_read_filter .nil (passes_call (takes_of rfl rfl rfl rfl) (fun _ _ _ _ h => h)) (pa_cons (pv 0) (pa_cons (pv 1) pa_nil))))
    (pss_cons (ps_if (pt_cmpR op_in_seq (pe_fld (pv 4) rfl) (pe_lc (own := [("earlier", 5)]) (g := (gName 5)) (tt := tYes) rfl sc_read_filters.nd (pi_list (pv 2)) (blkOk_by (own := [("earlier", 5)]) (N := N_read_filters) (sc := defScope s_read_filters) (by decide +kernel)) (fun _ _ _ _ _ => pg_name (i := 5) sc_read_filters.nd rfl (Or.inl rfl)) (fun _ _ _ _ _ => pts_nil) (fun _ _ _ _ _ => (pe_fld (pv 5) rfl))) rfl) (pss_one (ps_raiseFt rfl (x_Fault_init T) hr (takes_of rfl rfl rfl rfl) (pa_cons (pe_gk (by rfl) (c_WRONG_WORD T)) (pa_cons (pv 3) pa_nil)))) pss_nil)
    (pss_one (ps_expr (pe_bm PySem.F.plainAttrs_list PySem.F.slot_list_append PySem.F.type_list_append mt_append (pv 2) (pa_cons (pv 4) pa_nil))))))))
    (pss_one (ps_ret (pv 2)))))
theorem sc_read_columns : FnScope N_read_columns ["reader", "names", "taken"] (defScope s_read_columns) := ⟨rfl, rfl, rfl, by decide +kernel, rfl, by decide +kernel, by decide +kernel⟩
theorem ok_read_columns (T : Txt K mg) : Call1 P w K mg base 4 "read_columns" (sp_read_columns K) := by
  obtain ⟨fd, F⟩ := T.says.def_ 60 (d := d_read_columns) rfl
  have b : Binds K fd ["reader", "names", "taken"] [] := FunD.bindsN (ps := ["reader", "names", "taken"]) F fun _ _ _ _ _ _ us hl => match us, hl with | [_, _, _], _ => rfl
  obtain ⟨_, _, G_read_column, m_read_column, k_read_column, b_read_column⟩ := (ok_read_column (P := P) (w := w) (base := base) T).ex
  obtain ⟨_, _, _, c_Reader_skip_if, m_Reader_skip_if, G_Reader_skip_if, b_Reader_skip_if⟩ := (ok_Reader_skip_if (P := P) (w := w) (base := base) T).ex
  refine ⟨fd, _, FunD.ok (CX := L2.CX P w) (k := 3) F sc_read_columns (fun vs H Q E h => len_read_columns h) (fun cdv A outer s H vs Q E hr h => ⟨t_read_columns K E, ?_, pure_read_columns T vs H Q E h⟩), g_read_columns T, F.kp, b⟩
  exact (pss_cons (ps_set (i := 3) sc_read_columns.nd rfl (Or.inl rfl) (pe_lst (pa_cons (pe_call G_read_column (hr.mono (by decide)) rfl m_read_column k_read_column b_read_column .nil (passes_call (takes_of rfl rfl rfl rfl) (fun _ _ _ _ h => h)) (pa_cons (pv 0) (pa_cons (pv 1) (pa_cons (pv 2) pa_nil)))) pa_nil)))
    (pss_cons (ps_while (passes_of rfl) (pt_val (pe_meth (pv 0) c_Reader_skip_if m_Reader_skip_if G_Reader_skip_if (hr.mono (by decide)) b_Reader_skip_if .nil passL (pa_cons pe_str pa_nil))) (pss_one (ps_expr (pe_bm PySem.F.plainAttrs_list PySem.F.slot_list_append PySem.F.type_list_append mt_append (pv 3) (pa_cons (pe_call G_read_column (hr.mono (by decide)) rfl m_read_column k_read_column b_read_column .nil (passes_call (takes_of rfl rfl rfl rfl) (fun _ _ _ _ h => h)) (pa_cons (pv 0) (pa_cons (pv 1) (pa_cons (pe_op op_cat (pv 2) (pv 3)) pa_nil)))) pa_nil)))))
    (pss_one (ps_ret (pv 3)))))
theorem sc_read_question : FnScope N_read_question ["reader", "sheet"] (defScope s_read_question) := ⟨rfl, rfl, rfl, by decide +kernel, rfl, by decide +kernel, by decide +kernel⟩
theorem ok_read_question (T : Txt K mg) : Call1 P w K mg base 7 "read_question" (sp_read_question K) := by
  obtain ⟨fd, F⟩ := T.says.def_ 58 (d := d_read_question) rfl
  have b : Binds K fd ["reader", "sheet"] [] := FunD.bindsN (ps := ["reader", "sheet"]) F fun _ _ _ _ _ _ us hl => match us, hl with | [_, _], _ => rfl
  obtain ⟨_, _, _, c_Reader_expect, m_Reader_expect, G_Reader_expect, b_Reader_expect⟩ := (ok_Reader_expect (P := P) (w := w) (base := base) T).ex
  obtain ⟨_, _, _, M_Question_init, G_Question_init, m_Question_init, b_Question_init⟩ := (ok_Question_init (P := P) (w := w) (base := base) T).ex
  obtain ⟨_, _, G_read_new_name, m_read_new_name, k_read_new_name, b_read_new_name⟩ := (ok_read_new_name (P := P) (w := w) (base := base) T).ex
  obtain ⟨_, _, _, c_Reader_skip_if, m_Reader_skip_if, G_Reader_skip_if, b_Reader_skip_if⟩ := (ok_Reader_skip_if (P := P) (w := w) (base := base) T).ex
  obtain ⟨_, _, G_read_filters, m_read_filters, k_read_filters, b_read_filters⟩ := (ok_read_filters (P := P) (w := w) (base := base) T).ex
  obtain ⟨_, _, G_read_columns, m_read_columns, k_read_columns, b_read_columns⟩ := (ok_read_columns (P := P) (w := w) (base := base) T).ex
  obtain ⟨_, _, _, c_Reader_take_number, m_Reader_take_number, G_Reader_take_number, b_Reader_take_number⟩ := (ok_Reader_take_number (P := P) (w := w) (base := base) T).ex
  refine ⟨fd, _, FunD.ok (CX := L2.CX P w) (k := 6) F sc_read_question (fun vs H Q E h => len_read_question h) (fun cdv A outer s H vs Q E hr h => ⟨t_read_question K E, ?_, pure_read_question T vs H Q E h⟩), g_read_question T, F.kp, b⟩
  exact (pss_cons (ps_expr (pe_meth (pv 0) c_Reader_expect m_Reader_expect G_Reader_expect (hr.mono (by decide)) b_Reader_expect .nil (passes_call (takes_of rfl rfl rfl rfl) (fun _ _ _ _ h => h)) (pa_cons pe_str pa_nil)))
    (pss_cons (ps_set (i := 2) sc_read_question.nd rfl (Or.inl rfl) (pe_make M_Question_init G_Question_init (hr.mono (by decide)) rfl m_Question_init b_Question_init .nil passL (pa_cons (pe_call G_read_new_name (hr.mono (by decide)) rfl m_read_new_name k_read_new_name b_read_new_name .nil (passes_call (takes_of rfl rfl rfl rfl) (fun _ _ _ _ h => h)) (pa_cons (pv 0) (pa_cons (pe_lc (own := [("earlier", 3)]) (g := (gName 3)) (tt := tYes) rfl sc_read_question.nd (pi_list (pe_fld (pv 1) rfl)) (blkOk_by (own := [("earlier", 3)]) (N := N_read_question) (sc := defScope s_read_question) (by decide +kernel)) (fun _ _ _ _ _ => pg_name (i := 3) sc_read_question.nd rfl (Or.inl rfl)) (fun _ _ _ _ _ => pts_nil) (fun _ _ _ _ _ => (pe_fld (pv 3) rfl))) pa_nil))) pa_nil)))
    (pss_cons (ps_if (pt_val (pe_meth (pv 0) c_Reader_skip_if m_Reader_skip_if G_Reader_skip_if (hr.mono (by decide)) b_Reader_skip_if .nil passL (pa_cons pe_str pa_nil))) (pss_one (ps_fld (pv 2) (pe_call G_read_filters (hr.mono (by decide)) rfl m_read_filters k_read_filters b_read_filters .nil (passes_call (takes_of rfl rfl rfl rfl) (fun _ _ _ _ h => h)) (pa_cons (pv 0) (pa_cons (pe_fld (pv 1) rfl) pa_nil))) rfl)) pss_nil)
    (pss_cons (ps_if (pt_val (pe_meth (pv 0) c_Reader_skip_if m_Reader_skip_if G_Reader_skip_if (hr.mono (by decide)) b_Reader_skip_if .nil passL (pa_cons pe_str pa_nil))) (pss_cons (ps_fld (pv 2) (pe_call G_read_columns (hr.mono (by decide)) rfl m_read_columns k_read_columns b_read_columns .nil (passes_call (takes_of rfl rfl rfl rfl) (fun _ _ _ _ h => h)) (pa_cons (pv 0) (pa_cons (pe_fld (pv 1) rfl) (pa_cons (pe_lst pa_nil) pa_nil)))) rfl)
    (pss_one (ps_fld (pv 2) (pe_meth (pv 0) c_Reader_skip_if m_Reader_skip_if G_Reader_skip_if (hr.mono (by decide)) b_Reader_skip_if .nil passL (pa_cons pe_str pa_nil)) rfl))) pss_nil)
    (pss_cons (ps_if (pt_val (pe_meth (pv 0) c_Reader_skip_if m_Reader_skip_if G_Reader_skip_if (hr.mono (by decide)) b_Reader_skip_if .nil passL (pa_cons pe_str pa_nil))) (pss_one (ps_fld (pv 2) (pe_call G_read_columns (hr.mono (by decide)) rfl m_read_columns k_read_columns b_read_columns .nil (passes_call (takes_of rfl rfl rfl rfl) (fun _ _ _ _ h => h)) (pa_cons (pv 0) (pa_cons (pe_fld (pv 1) rfl) (pa_cons (pe_lst pa_nil) pa_nil)))) rfl)) pss_nil)
    (pss_cons (ps_if (pt_val (pe_meth (pv 0) c_Reader_skip_if m_Reader_skip_if G_Reader_skip_if (hr.mono (by decide)) b_Reader_skip_if .nil passL (pa_cons pe_str pa_nil))) (pss_one (ps_fld (pv 2) (pe_meth (pv 0) c_Reader_take_number m_Reader_take_number G_Reader_take_number (hr.mono (by decide)) b_Reader_take_number .nil (passes_call (takes_of rfl rfl rfl rfl) (fun _ _ _ _ h => h)) (pa_cons pe_int (pa_cons (pe_gk (by rfl) (c_HIGHEST_LIMIT T)) pa_nil))) rfl)) pss_nil)
    (pss_cons (ps_if (pt_val (pe_meth (pv 0) c_Reader_skip_if m_Reader_skip_if G_Reader_skip_if (hr.mono (by decide)) b_Reader_skip_if .nil passL (pa_cons pe_str pa_nil))) (pss_one (ps_fld (pv 2) (pe_meth (pv 0) c_Reader_take_number m_Reader_take_number G_Reader_take_number (hr.mono (by decide)) b_Reader_take_number .nil (passes_call (takes_of rfl rfl rfl rfl) (fun _ _ _ _ h => h)) (pa_cons pe_int (pa_cons (pe_gk (by rfl) (c_MOST_TIMES T)) pa_nil))) rfl)) pss_nil)
    (pss_cons (ps_expr (pe_meth (pv 0) c_Reader_expect m_Reader_expect G_Reader_expect (hr.mono (by decide)) b_Reader_expect .nil (passes_call (takes_of rfl rfl rfl rfl) (fun _ _ _ _ h => h)) (pa_cons pe_str pa_nil)))
    (pss_one (ps_ret (pv 2)))))))))))
theorem sc_read_index : FnScope N_read_index ["reader", "sheet"] (defScope s_read_index) := ⟨rfl, rfl, rfl, by decide +kernel, rfl, by decide +kernel, by decide +kernel⟩
theorem ok_read_index (T : Txt K mg) : Call1 P w K mg base 6 "read_index" (sp_read_index K) := by
  obtain ⟨fd, F⟩ := T.says.def_ 59 (d := d_read_index) rfl
  have b : Binds K fd ["reader", "sheet"] [] := FunD.bindsN (ps := ["reader", "sheet"]) F fun _ _ _ _ _ _ us hl => match us, hl with | [_, _], _ => rfl
  obtain ⟨_, _, _, c_Reader_expect, m_Reader_expect, G_Reader_expect, b_Reader_expect⟩ := (ok_Reader_expect (P := P) (w := w) (base := base) T).ex
  obtain ⟨_, _, G_read_new_name, m_read_new_name, k_read_new_name, b_read_new_name⟩ := (ok_read_new_name (P := P) (w := w) (base := base) T).ex
  obtain ⟨_, _, _, M_Index_init, G_Index_init, m_Index_init, b_Index_init⟩ := (ok_Index_init (P := P) (w := w) (base := base) T).ex
  obtain ⟨_, _, G_read_columns, m_read_columns, k_read_columns, b_read_columns⟩ := (ok_read_columns (P := P) (w := w) (base := base) T).ex
  obtain ⟨_, _, _, c_Reader_skip_if, m_Reader_skip_if, G_Reader_skip_if, b_Reader_skip_if⟩ := (ok_Reader_skip_if (P := P) (w := w) (base := base) T).ex
  obtain ⟨_, _, G_read_filter, m_read_filter, k_read_filter, b_read_filter⟩ := (ok_read_filter (P := P) (w := w) (base := base) T).ex
  refine ⟨fd, _, FunD.ok (CX := L2.CX P w) (k := 5) F sc_read_index (fun vs H Q E h => len_read_index h) (fun cdv A outer s H vs Q E hr h => ⟨t_read_index K E, ?_, pure_read_index T vs H Q E h⟩), g_read_index T, F.kp, b⟩
  exact (pss_cons (ps_expr (pe_meth (pv 0) c_Reader_expect m_Reader_expect G_Reader_expect (hr.mono (by decide)) b_Reader_expect .nil (passes_call (takes_of rfl rfl rfl rfl) (fun _ _ _ _ h => h)) (pa_cons pe_str pa_nil)))
    (pss_cons (ps_set (i := 2) sc_read_index.nd rfl (Or.inl rfl) (pe_call G_read_new_name (hr.mono (by decide)) rfl m_read_new_name k_read_new_name b_read_new_name .nil (passes_call (takes_of rfl rfl rfl rfl) (fun _ _ _ _ h => h)) (pa_cons (pv 0) (pa_cons (pe_lc (own := [("earlier", 4)]) (g := (gName 4)) (tt := tYes) rfl sc_read_index.nd (pi_list (pe_fld (pv 1) rfl)) (blkOk_by (own := [("earlier", 4)]) (N := N_read_index) (sc := defScope s_read_index) (by decide +kernel)) (fun _ _ _ _ _ => pg_name (i := 4) sc_read_index.nd rfl (Or.inl rfl)) (fun _ _ _ _ _ => pts_nil) (fun _ _ _ _ _ => (pe_fld (pv 4) rfl))) pa_nil))))
    (pss_cons (ps_expr (pe_meth (pv 0) c_Reader_expect m_Reader_expect G_Reader_expect (hr.mono (by decide)) b_Reader_expect .nil (passes_call (takes_of rfl rfl rfl rfl) (fun _ _ _ _ h => h)) (pa_cons pe_str pa_nil)))
    (pss_cons (ps_set (i := 3) sc_read_index.nd rfl (Or.inl rfl) (pe_make M_Index_init G_Index_init (hr.mono (by decide)) rfl m_Index_init b_Index_init .nil passL (pa_cons (pv 2) (pa_cons (pe_call G_read_columns (hr.mono (by decide)) rfl m_read_columns k_read_columns b_read_columns .nil (passes_call (takes_of rfl rfl rfl rfl) (fun _ _ _ _ h => h)) (pa_cons (pv 0) (pa_cons (pe_fld (pv 1) rfl) (pa_cons (pe_lst pa_nil) pa_nil)))) pa_nil))))
    (pss_cons (ps_if (pt_val (pe_meth (pv 0) c_Reader_skip_if m_Reader_skip_if G_Reader_skip_if (hr.mono (by decide)) b_Reader_skip_if .nil passL (pa_cons pe_str pa_nil))) (pss_one (ps_fld (pv 3) (pe_call G_read_columns (hr.mono (by decide)) rfl m_read_columns k_read_columns b_read_columns .nil (passes_call (takes_of rfl rfl rfl rfl) (fun _ _ _ _ h => h)) (pa_cons (pv 0) (pa_cons (pe_fld (pv 1) rfl) (pa_cons (pe_fld (pv 3) rfl) pa_nil)))) rfl)) pss_nil)
    (pss_cons (ps_if (pt_val (pe_meth (pv 0) c_Reader_skip_if m_Reader_skip_if G_Reader_skip_if (hr.mono (by decide)) b_Reader_skip_if .nil passL (pa_cons pe_str pa_nil))) (pss_one (ps_fld (pv 3) (pe_call G_read_filter (hr.mono (by decide)) rfl m_read_filter k_read_filter b_read_filter .nil (passes_call (takes_of rfl rfl rfl rfl) (fun _ _ _ _ h => h)) (pa_cons (pv 0) (pa_cons (pe_fld (pv 1) rfl) pa_nil))) rfl)) pss_nil)
    (pss_cons (ps_expr (pe_meth (pv 0) c_Reader_expect m_Reader_expect G_Reader_expect (hr.mono (by decide)) b_Reader_expect .nil (passes_call (takes_of rfl rfl rfl rfl) (fun _ _ _ _ h => h)) (pa_cons pe_str pa_nil)))
    (pss_one (ps_ret (pv 3))))))))))
theorem sc_sheet_of : FnScope N_sheet_of ["text"] (defScope s_sheet_of) := ⟨rfl, rfl, rfl, by decide +kernel, rfl, by decide +kernel, by decide +kernel⟩
theorem ok_sheet_of (T : Txt K mg) : Call1 P w K mg base 8 "sheet_of" (sp_sheet_of K) := by
  obtain ⟨fd, F⟩ := T.says.def_ 52 (d := d_sheet_of) rfl
  have b : Binds K fd ["text"] [] := FunD.bindsN (ps := ["text"]) F fun _ _ _ _ _ _ us hl => match us, hl with | [_], _ => rfl
  obtain ⟨_, _, _, M_Reader_init, G_Reader_init, m_Reader_init, b_Reader_init⟩ := (ok_Reader_init (P := P) (w := w) (base := base) T).ex
  obtain ⟨_, _, G_tokens_of, m_tokens_of, k_tokens_of, b_tokens_of⟩ := (ok_tokens_of (P := P) (w := w) (base := base) T).ex
  obtain ⟨_, _, _, M_Sheet_init, G_Sheet_init, m_Sheet_init, b_Sheet_init⟩ := (ok_Sheet_init (P := P) (w := w) (base := base) T).ex
  obtain ⟨_, _, G_read_table, m_read_table, k_read_table, b_read_table⟩ := (ok_read_table (P := P) (w := w) (base := base) T).ex
  obtain ⟨_, _, _, c_Reader_stands, m_Reader_stands, G_Reader_stands, b_Reader_stands⟩ := (ok_Reader_stands (P := P) (w := w) (base := base) T).ex
  obtain ⟨_, _, G_check_room, m_check_room, k_check_room, b_check_room⟩ := (ok_check_room (P := P) (w := w) (base := base) T).ex
  obtain ⟨_, _, G_read_group, m_read_group, k_read_group, b_read_group⟩ := (ok_read_group (P := P) (w := w) (base := base) T).ex
  obtain ⟨_, _, G_read_question, m_read_question, k_read_question, b_read_question⟩ := (ok_read_question (P := P) (w := w) (base := base) T).ex
  obtain ⟨_, _, G_read_index, m_read_index, k_read_index, b_read_index⟩ := (ok_read_index (P := P) (w := w) (base := base) T).ex
  obtain ⟨_, _, _, c_Reader_expect_end, m_Reader_expect_end, G_Reader_expect_end, b_Reader_expect_end⟩ := (ok_Reader_expect_end (P := P) (w := w) (base := base) T).ex
  refine ⟨fd, _, FunD.ok (CX := L2.CX P w) (k := 7) F sc_sheet_of (fun vs H Q E h => len_sheet_of h) (fun cdv A outer s H vs Q E hr h => ⟨t_sheet_of K E, ?_, pure_sheet_of T vs H Q E h⟩), g_sheet_of T, F.kp, b⟩
  exact (pss_cons (ps_set (i := 1) sc_sheet_of.nd rfl (Or.inl rfl) (pe_make M_Reader_init G_Reader_init (hr.mono (by decide)) rfl m_Reader_init b_Reader_init .nil passL (pa_cons (pe_call G_tokens_of (hr.mono (by decide)) rfl m_tokens_of k_tokens_of b_tokens_of .nil (passes_call (takes_of rfl rfl rfl rfl) (fun _ _ _ _ h => h)) (pa_cons (pv 0) pa_nil)) pa_nil)))
    (pss_cons (ps_set (i := 2) sc_sheet_of.nd rfl (Or.inl rfl) (pe_make M_Sheet_init G_Sheet_init (hr.mono (by decide)) rfl m_Sheet_init b_Sheet_init .nil passL (pa_cons (pe_call G_read_table (hr.mono (by decide)) rfl m_read_table k_read_table b_read_table .nil (passes_call (takes_of rfl rfl rfl rfl) (fun _ _ _ _ h => h)) (pa_cons (pv 1) pa_nil)) pa_nil)))
    (pss_cons (ps_while (passes_of rfl) (pt_val (pe_meth (pv 1) c_Reader_stands m_Reader_stands G_Reader_stands (hr.mono (by decide)) b_Reader_stands .nil passL (pa_cons pe_str pa_nil))) (pss_cons (ps_expr (pe_call G_check_room (hr.mono (by decide)) rfl m_check_room k_check_room b_check_room .nil (passes_call (takes_of rfl rfl rfl rfl) (fun _ _ _ _ h => h)) (pa_cons (pv 1) (pa_cons (pe_fld (pv 2) rfl) (pa_cons (pe_gk (by rfl) (c_MOST_GROUPS T)) pa_nil)))))
    (pss_one (ps_expr (pe_bm PySem.F.plainAttrs_list PySem.F.slot_list_append PySem.F.type_list_append mt_append (pe_fld (pv 2) rfl) (pa_cons (pe_call G_read_group (hr.mono (by decide)) rfl m_read_group k_read_group b_read_group .nil (passes_call (takes_of rfl rfl rfl rfl) (fun _ _ _ _ h => h)) (pa_cons (pv 1) (pa_cons (pv 2) pa_nil))) pa_nil))))))
    (pss_cons (ps_while (passes_of rfl) (pt_val (pe_meth (pv 1) c_Reader_stands m_Reader_stands G_Reader_stands (hr.mono (by decide)) b_Reader_stands .nil passL (pa_cons pe_str pa_nil))) (pss_cons (ps_expr (pe_call G_check_room (hr.mono (by decide)) rfl m_check_room k_check_room b_check_room .nil (passes_call (takes_of rfl rfl rfl rfl) (fun _ _ _ _ h => h)) (pa_cons (pv 1) (pa_cons (pe_fld (pv 2) rfl) (pa_cons (pe_gk (by rfl) (c_MOST_QUESTIONS T)) pa_nil)))))
    (pss_one (ps_expr (pe_bm PySem.F.plainAttrs_list PySem.F.slot_list_append PySem.F.type_list_append mt_append (pe_fld (pv 2) rfl) (pa_cons (pe_call G_read_question (hr.mono (by decide)) rfl m_read_question k_read_question b_read_question .nil (passes_call (takes_of rfl rfl rfl rfl) (fun _ _ _ _ h => h)) (pa_cons (pv 1) (pa_cons (pv 2) pa_nil))) pa_nil))))))
    (pss_cons (ps_while (passes_of rfl) (pt_val (pe_meth (pv 1) c_Reader_stands m_Reader_stands G_Reader_stands (hr.mono (by decide)) b_Reader_stands .nil passL (pa_cons pe_str pa_nil))) (pss_cons (ps_expr (pe_call G_check_room (hr.mono (by decide)) rfl m_check_room k_check_room b_check_room .nil (passes_call (takes_of rfl rfl rfl rfl) (fun _ _ _ _ h => h)) (pa_cons (pv 1) (pa_cons (pe_fld (pv 2) rfl) (pa_cons (pe_gk (by rfl) (c_MOST_INDEXES T)) pa_nil)))))
    (pss_one (ps_expr (pe_bm PySem.F.plainAttrs_list PySem.F.slot_list_append PySem.F.type_list_append mt_append (pe_fld (pv 2) rfl) (pa_cons (pe_call G_read_index (hr.mono (by decide)) rfl m_read_index k_read_index b_read_index .nil (passes_call (takes_of rfl rfl rfl rfl) (fun _ _ _ _ h => h)) (pa_cons (pv 1) (pa_cons (pv 2) pa_nil))) pa_nil))))))
    (pss_cons (ps_expr (pe_meth0 (pv 1) c_Reader_expect_end m_Reader_expect_end G_Reader_expect_end (hr.mono (by decide)) b_Reader_expect_end .nil (passes_call (takes_of rfl rfl rfl rfl) (fun _ _ _ _ h => h))))
    (pss_one (ps_ret (pv 2)))))))))
theorem sc_found_by_cells : FnScope N_found_by_cells ["groups", "question"] (defScope s_found_by_cells) := ⟨rfl, rfl, rfl, by decide +kernel, rfl, by decide +kernel, by decide +kernel⟩
theorem ok_found_by_cells (T : Txt K mg) : Call1 P w K mg base 3 "found_by_cells" (sp_found_by_cells K) := by
  obtain ⟨fd, F⟩ := T.says.def_ 66 (d := d_found_by_cells) rfl
  have b : Binds K fd ["groups", "question"] [] := FunD.bindsN (ps := ["groups", "question"]) F fun _ _ _ _ _ _ us hl => match us, hl with | [_, _], _ => rfl
  obtain ⟨_, _, G_passes_all, m_passes_all, k_passes_all, b_passes_all⟩ := (ok_passes_all (P := P) (w := w) (base := base) T).ex
  refine ⟨fd, _, FunD.ok (CX := L2.CX P w) (k := 2) F sc_found_by_cells (fun vs H Q E h => len_found_by_cells h) (fun cdv A outer s H vs Q E hr h => ⟨t_found_by_cells K E, ?_, pure_found_by_cells T vs H Q E h⟩), g_found_by_cells T, F.kp, b⟩
  exact (pss_cons (ps_set (i := 2) sc_found_by_cells.nd rfl (Or.inl rfl) pe_dnewT)
    (pss_cons (ps_for (passes_of rfl) rfl (pi_list (pv 0)) (pg_name (i := 3) sc_found_by_cells.nd rfl (Or.inr rfl)) (pss_one (ps_if (pt_val (pe_call G_passes_all (hr.mono (by decide)) rfl m_passes_all k_passes_all b_passes_all .nil passL (pa_cons (pv 3) (pa_cons (pe_fld (pv 1) rfl) pa_nil)))) (pss_cons (ps_set (i := 4) sc_found_by_cells.nd rfl (Or.inl rfl) (pe_callTy call_tuple_of (by rfl) (g_tuple T) (by decide +kernel) (pa_cons (pe_lc (own := [("column", 5)]) (g := (gName 5)) (tt := tYes) rfl sc_found_by_cells.nd (pi_list (pe_fld (pv 1) rfl)) (blkOk_by (own := [("column", 5)]) (N := N_found_by_cells) (sc := defScope s_found_by_cells) (by decide +kernel)) (fun _ _ _ _ _ => pg_name (i := 5) sc_found_by_cells.nd rfl (Or.inl rfl)) (fun _ _ _ _ _ => pts_nil) (fun _ _ _ _ _ => (pe_ix ix_list (pe_fld (pv 3) rfl) (pv 5) (fun _ _ => rfl)))) pa_nil)))
    (pss_one (ps_dput (hu_of hr) (pv 2) (pv 4) (pe_op op_add (pe_dget2 (hu_of hr) (pv 2) (pv 4) pe_int ⟨rfl, rfl, rfl, rfl⟩) (pe_fld (pv 3) rfl)) rfl))) pss_nil)))
    (pss_one (ps_ret (pv 2)))))
theorem sc_ordered_parts : FnScope N_ordered_parts ["groups", "question"] (defScope s_ordered_parts) := ⟨rfl, rfl, rfl, by decide +kernel, rfl, by decide +kernel, by decide +kernel⟩
theorem ok_ordered_parts (T : Txt K mg) : Call1 P w K mg base 4 "ordered_parts" (sp_ordered_parts K) := by
  obtain ⟨fd, F⟩ := T.says.def_ 65 (d := d_ordered_parts) rfl
  have b : Binds K fd ["groups", "question"] [] := FunD.bindsN (ps := ["groups", "question"]) F fun _ _ _ _ _ _ us hl => match us, hl with | [_, _], _ => rfl
  obtain ⟨_, _, G_found_by_cells, m_found_by_cells, k_found_by_cells, b_found_by_cells⟩ := (ok_found_by_cells (P := P) (w := w) (base := base) T).ex
  obtain ⟨_, _, _, M_Part_init, G_Part_init, m_Part_init, b_Part_init⟩ := (ok_Part_init (P := P) (w := w) (base := base) T).ex
  refine ⟨fd, _, FunD.ok (CX := L2.CX P w) (k := 3) F sc_ordered_parts (fun vs H Q E h => len_ordered_parts h) (fun cdv A outer s H vs Q E hr h => ⟨t_ordered_parts K E, ?_, pure_ordered_parts T vs H Q E h⟩), g_ordered_parts T, F.kp, b⟩
  exact (pss_cons (ps_set (i := 2) sc_ordered_parts.nd rfl (Or.inr rfl) (pe_call G_found_by_cells (hr.mono (by decide)) rfl m_found_by_cells k_found_by_cells b_found_by_cells .nil passL (pa_cons (pv 0) (pa_cons (pv 1) pa_nil))))
    (pss_cons (ps_set (i := 3) sc_ordered_parts.nd rfl (Or.inl rfl) (pe_callB cr_sortX (by rfl) (g_sorted T) (by decide +kernel) (pa_cons (pe_callTy (call_list_dT rfl) (by rfl) (g_list T) (by decide +kernel) (pa_cons (pv 2) pa_nil)) pa_nil)))
    (pss_cons (ps_if (pt_val (pe_fld (pv 1) rfl)) (pss_one (ps_set (i := 3) sc_ordered_parts.nd rfl (Or.inl rfl) (pe_listRev rfl (by rfl) (g_list T) (by rfl) (g_reversed T) (pv 3)))) pss_nil)
    (pss_one (ps_ret (pe_lc (own := [("cells", 4)]) (g := (gName 4)) (tt := tYes) rfl sc_ordered_parts.nd (pi_list (pv 3)) (blkOk_by (own := [("cells", 4)]) (N := N_ordered_parts) (sc := defScope s_ordered_parts) (by decide +kernel)) (fun _ _ _ _ _ => pg_name (i := 4) sc_ordered_parts.nd rfl (Or.inl rfl)) (fun _ _ _ _ _ => pts_nil) (fun _ _ _ _ _ => (pe_make M_Part_init G_Part_init (hr.mono (by decide)) rfl m_Part_init b_Part_init .nil passL (pa_cons (pv 4) (pa_cons (pe_dget (hu_of hr) (pv 2) (pv 4) (fun _ _ => rfl)) pa_nil))))))))))
theorem sc_up_to_limit : FnScope N_up_to_limit ["parts", "limit"] (defScope s_up_to_limit) := ⟨rfl, rfl, rfl, by decide +kernel, rfl, by decide +kernel, by decide +kernel⟩
theorem ok_up_to_limit (T : Txt K mg) : Call1 P w K mg base 3 "up_to_limit" (sp_up_to_limit K) := by
  obtain ⟨fd, F⟩ := T.says.def_ 67 (d := d_up_to_limit) rfl
  have b : Binds K fd ["parts", "limit"] [] := FunD.bindsN (ps := ["parts", "limit"]) F fun _ _ _ _ _ _ us hl => match us, hl with | [_, _], _ => rfl
  obtain ⟨_, _, _, M_Part_init, G_Part_init, m_Part_init, b_Part_init⟩ := (ok_Part_init (P := P) (w := w) (base := base) T).ex
  refine ⟨fd, _, FunD.ok (CX := L2.CX P w) (k := 2) F sc_up_to_limit (fun vs H Q E h => len_up_to_limit h) (fun cdv A outer s H vs Q E hr h => ⟨t_up_to_limit K E, ?_, pure_up_to_limit T vs H Q E h⟩), g_up_to_limit T, F.kp, b⟩
  exact (pss_cons (ps_set (i := 2) sc_up_to_limit.nd rfl (Or.inl rfl) (pe_lst pa_nil))
    (pss_cons (ps_set (i := 3) sc_up_to_limit.nd rfl (Or.inl rfl) (pv 1))
    (pss_cons (ps_for (passes_of rfl) rfl (pi_list (pv 0)) (pg_name (i := 4) sc_up_to_limit.nd rfl (Or.inl rfl)) (pss_cons (ps_if (pt_cmpR op_eq (pv 3) pe_int (nomark _)) (pss_one ps_break) pss_nil)
    (pss_cons (ps_set (i := 5) sc_up_to_limit.nd rfl (Or.inl rfl) (pe_callB (call_min2 rfl) (by rfl) (g_min T) (by decide +kernel) (pa_cons (pe_fld (pv 4) rfl) (pa_cons (pv 3) pa_nil))))
    (pss_cons (ps_expr (pe_bm PySem.F.plainAttrs_list PySem.F.slot_list_append PySem.F.type_list_append mt_append (pv 2) (pa_cons (pe_make M_Part_init G_Part_init (hr.mono (by decide)) rfl m_Part_init b_Part_init .nil passL (pa_cons (pe_fld (pv 4) rfl) (pa_cons (pv 5) pa_nil))) pa_nil)))
    (pss_one (ps_aug sc_up_to_limit.nd rfl (i := 3) (Or.inl rfl) (pv 5) ip_sub))))))
    (pss_one (ps_ret (pv 2))))))
theorem sc_answered_parts : FnScope N_answered_parts ["groups", "question"] (defScope s_answered_parts) := ⟨rfl, rfl, rfl, by decide +kernel, rfl, by decide +kernel, by decide +kernel⟩
theorem ok_answered_parts (T : Txt K mg) : Call1 P w K mg base 5 "answered_parts" (sp_answered_parts K) := by
  obtain ⟨fd, F⟩ := T.says.def_ 64 (d := d_answered_parts) rfl
  have b : Binds K fd ["groups", "question"] [] := FunD.bindsN (ps := ["groups", "question"]) F fun _ _ _ _ _ _ us hl => match us, hl with | [_, _], _ => rfl
  obtain ⟨_, _, G_ordered_parts, m_ordered_parts, k_ordered_parts, b_ordered_parts⟩ := (ok_ordered_parts (P := P) (w := w) (base := base) T).ex
  obtain ⟨_, _, G_up_to_limit, m_up_to_limit, k_up_to_limit, b_up_to_limit⟩ := (ok_up_to_limit (P := P) (w := w) (base := base) T).ex
  refine ⟨fd, _, FunD.ok (CX := L2.CX P w) (k := 4) F sc_answered_parts (fun vs H Q E h => len_answered_parts h) (fun cdv A outer s H vs Q E hr h => ⟨t_answered_parts K E, ?_, pure_answered_parts T vs H Q E h⟩), g_answered_parts T, F.kp, b⟩
  exact (pss_cons (ps_set (i := 2) sc_answered_parts.nd rfl (Or.inl rfl) (pe_call G_ordered_parts (hr.mono (by decide)) rfl m_ordered_parts k_ordered_parts b_ordered_parts .nil passL (pa_cons (pv 0) (pa_cons (pv 1) pa_nil))))
    (pss_cons (ps_if (pt_cmpR op_eq (pe_fld (pv 1) rfl) pe_int (nomark _)) (pss_one (ps_ret (pv 2))) pss_nil)
    (pss_one (ps_ret (pe_call G_up_to_limit (hr.mono (by decide)) rfl m_up_to_limit k_up_to_limit b_up_to_limit .nil passL (pa_cons (pv 2) (pa_cons (pe_fld (pv 1) rfl) pa_nil)))))))
theorem sc_serves : FnScope N_serves ["index", "question"] (defScope s_serves) := ⟨rfl, rfl, rfl, by decide +kernel, rfl, by decide +kernel, by decide +kernel⟩
theorem ok_serves (T : Txt K mg) : Call1 P w K mg base 2 "serves" (sp_serves K) := by
  obtain ⟨fd, F⟩ := T.says.def_ 68 (d := d_serves) rfl
  have b : Binds K fd ["index", "question"] [] := FunD.bindsN (ps := ["index", "question"]) F fun _ _ _ _ _ _ us hl => match us, hl with | [_, _], _ => rfl
  obtain ⟨_, _, G_is_within, m_is_within, k_is_within, b_is_within⟩ := (ok_is_within (P := P) (w := w) (base := base) T).ex
  refine ⟨fd, _, FunD.ok (CX := L2.CX P w) (k := 1) F sc_serves (fun vs H Q E h => len_serves h) (fun cdv A outer s H vs Q E hr h => ⟨t_serves K E, ?_, pure_serves T vs H Q E h⟩), g_serves T, F.kp, b⟩
  exact (pss_cons (ps_if (pt_cmpR op_isN (pe_fld (pv 0) rfl) pe_non (nomark _)) (pss_one (ps_ret pe_bl)) pss_nil)
    (pss_one (ps_ret (pe_callB (cr_any rfl) (by rfl) (g_any T) (by decide +kernel) (pa_cons (pe_lc (own := [("sieve", 2)]) (g := (gName 2)) (tt := tYes) rfl sc_serves.nd (pi_list (pe_fld (pv 1) rfl)) (blkOk_by (own := [("sieve", 2)]) (N := N_serves) (sc := defScope s_serves) (by decide +kernel)) (fun _ _ _ _ _ => pg_name (i := 2) sc_serves.nd rfl (Or.inl rfl)) (fun _ _ _ _ _ => pts_nil) (fun _ _ _ _ _ => (pe_call G_is_within (hr.mono (by decide)) rfl m_is_within k_is_within b_is_within .nil passL (pa_cons (pv 2) (pa_cons (pe_fld (pv 0) rfl) pa_nil))))) pa_nil)))))
theorem sc_columns_of : FnScope N_columns_of ["index"] (defScope s_columns_of) := ⟨rfl, rfl, rfl, by decide +kernel, rfl, by decide +kernel, by decide +kernel⟩
theorem ok_columns_of (T : Txt K mg) : Call1 P w K mg base 1 "columns_of" (sp_columns_of K) := by
  obtain ⟨fd, F⟩ := T.says.def_ 70 (d := d_columns_of) rfl
  have b : Binds K fd ["index"] [] := FunD.bindsN (ps := ["index"]) F fun _ _ _ _ _ _ us hl => match us, hl with | [_], _ => rfl
  refine ⟨fd, _, FunD.ok (CX := L2.CX P w) (k := 0) F sc_columns_of (fun vs H Q E h => len_columns_of h) (fun cdv A outer s H vs Q E hr h => ⟨t_columns_of K E, ?_, pure_columns_of T vs H Q E h⟩), g_columns_of T, F.kp, b⟩
  exact (pss_one (ps_ret (pe_op op_cat (pe_fld (pv 0) rfl) (pe_fld (pv 0) rfl))))
theorem sc_needs_of : FnScope N_needs_of ["question"] (defScope s_needs_of) := ⟨rfl, rfl, rfl, by decide +kernel, rfl, by decide +kernel, by decide +kernel⟩
theorem ok_needs_of (T : Txt K mg) : Call1 P w K mg base 1 "needs_of" (sp_needs_of K) := by
  obtain ⟨fd, F⟩ := T.says.def_ 71 (d := d_needs_of) rfl
  have b : Binds K fd ["question"] [] := FunD.bindsN (ps := ["question"]) F fun _ _ _ _ _ _ us hl => match us, hl with | [_], _ => rfl
  refine ⟨fd, _, FunD.ok (CX := L2.CX P w) (k := 0) F sc_needs_of (fun vs H Q E h => len_needs_of h) (fun cdv A outer s H vs Q E hr h => ⟨t_needs_of K E, ?_, pure_needs_of T vs H Q E h⟩), g_needs_of T, F.kp, b⟩
  exact (pss_one (ps_ret (pe_op op_cat (pe_op op_cat (pe_lc (own := [("sieve", 1)]) (g := (gName 1)) (tt := tYes) rfl sc_needs_of.nd (pi_list (pe_fld (pv 0) rfl)) (blkOk_by (own := [("sieve", 1)]) (N := N_needs_of) (sc := defScope s_needs_of) (by decide +kernel)) (fun _ _ _ _ _ => pg_name (i := 1) sc_needs_of.nd rfl (Or.inl rfl)) (fun _ _ _ _ _ => pts_nil) (fun _ _ _ _ _ => (pe_fld (pv 1) rfl))) (pe_fld (pv 0) rfl)) (pe_fld (pv 0) rfl))))
theorem sc_covers : FnScope N_covers ["index", "question"] (defScope s_covers) := ⟨rfl, rfl, rfl, by decide +kernel, rfl, by decide +kernel, by decide +kernel⟩
theorem ok_covers (T : Txt K mg) : Call1 P w K mg base 2 "covers" (sp_covers K) := by
  obtain ⟨fd, F⟩ := T.says.def_ 69 (d := d_covers) rfl
  have b : Binds K fd ["index", "question"] [] := FunD.bindsN (ps := ["index", "question"]) F fun _ _ _ _ _ _ us hl => match us, hl with | [_, _], _ => rfl
  obtain ⟨_, _, G_columns_of, m_columns_of, k_columns_of, b_columns_of⟩ := (ok_columns_of (P := P) (w := w) (base := base) T).ex
  obtain ⟨_, _, G_needs_of, m_needs_of, k_needs_of, b_needs_of⟩ := (ok_needs_of (P := P) (w := w) (base := base) T).ex
  refine ⟨fd, _, FunD.ok (CX := L2.CX P w) (k := 1) F sc_covers (fun vs H Q E h => len_covers h) (fun cdv A outer s H vs Q E hr h => ⟨t_covers K E, ?_, pure_covers T vs H Q E h⟩), g_covers T, F.kp, b⟩
  exact (pss_cons (ps_set (i := 2) sc_covers.nd rfl (Or.inr rfl) (pe_call G_columns_of (hr.mono (by decide)) rfl m_columns_of k_columns_of b_columns_of .nil passL (pa_cons (pv 0) pa_nil)))
    (pss_one (ps_ret (pe_callB (cr_all rfl) (by rfl) (g_all T) (by decide +kernel) (pa_cons (pe_lc (own := [("column", 3)]) (g := (gName 3)) (tt := tYes) rfl sc_covers.nd (pi_list (pe_call G_needs_of (hr.mono (by decide)) rfl m_needs_of k_needs_of b_needs_of .nil passL (pa_cons (pv 1) pa_nil))) (blkOk_by (own := [("column", 3)]) (N := N_covers) (sc := defScope s_covers) (by decide +kernel)) (fun _ _ _ _ _ => pg_name (i := 3) sc_covers.nd rfl (Or.inl rfl)) (fun _ _ _ _ _ => pts_nil) (fun _ _ _ _ _ => (pe_cmpR op_in_seq (pv 3) (pv 2) rfl))) pa_nil)))))
theorem sc_is_free_by : FnScope N_is_free_by ["index", "question"] (defScope s_is_free_by) := ⟨rfl, rfl, rfl, by decide +kernel, rfl, by decide +kernel, by decide +kernel⟩
theorem ok_is_free_by (T : Txt K mg) : Call1 P w K mg base 1 "is_free_by" (sp_is_free_by K) := by
  obtain ⟨fd, F⟩ := T.says.def_ 72 (d := d_is_free_by) rfl
  have b : Binds K fd ["index", "question"] [] := FunD.bindsN (ps := ["index", "question"]) F fun _ _ _ _ _ _ us hl => match us, hl with | [_, _], _ => rfl
  refine ⟨fd, _, FunD.ok (CX := L2.CX P w) (k := 0) F sc_is_free_by (fun vs H Q E h => len_is_free_by h) (fun cdv A outer s H vs Q E hr h => ⟨t_is_free_by K E, ?_, pure_is_free_by T vs H Q E h⟩), g_is_free_by T, F.kp, b⟩
  exact (pss_cons (ps_set (i := 2) sc_is_free_by.nd rfl (Or.inr rfl) (pe_lc (own := [("sieve", 5)]) (g := (gName 5)) (tt := (tTest (tOp rEq (tFld K (tVar 5) "low") (tFld K (tVar 5) "high")))) rfl sc_is_free_by.nd (pi_list (pe_fld (pv 1) rfl)) (blkOk_by (own := [("sieve", 5)]) (N := N_is_free_by) (sc := defScope s_is_free_by) (by decide +kernel)) (fun _ _ _ _ _ => pg_name (i := 5) sc_is_free_by.nd rfl (Or.inl rfl)) (fun _ _ _ _ _ => pts_one (pt_cmpR op_eq (pe_fld (pv 5) rfl) (pe_fld (pv 5) rfl) (nomark _))) (fun _ _ _ _ _ => (pe_fld (pv 5) rfl))))
    (pss_cons (ps_setLc (i := 3) (own := [("column", 6)]) (g := (gName 6)) (tt := (tTest (tOp (rIn K true) (tVar 6) (tVar 2)))) rfl sc_is_free_by.nd rfl rfl (sw_true rfl rfl rfl (by decide +kernel)) (pi_list (pe_fld (pv 1) rfl)) (blkOk_by (own := [("column", 6)]) (N := N_is_free_by) (sc := defScope s_is_free_by) (by decide +kernel)) (fun _ _ _ _ _ => pg_name (i := 6) sc_is_free_by.nd rfl (Or.inl rfl)) (fun _ _ _ _ _ => pts_one (pt_cmpR op_notIn_seq (pv 6) (pv 2) rfl)) (fun _ _ _ _ _ => (pv 6)))
    (pss_cons (ps_setLc (i := 4) (own := [("column", 6)]) (g := (gName 6)) (tt := (tTest (tOp (rIn K true) (tVar 6) (tVar 2)))) rfl sc_is_free_by.nd rfl rfl (sw_true rfl rfl rfl (by decide +kernel)) (pi_list (pe_fld (pv 0) rfl)) (blkOk_by (own := [("column", 6)]) (N := N_is_free_by) (sc := defScope s_is_free_by) (by decide +kernel)) (fun _ _ _ _ _ => pg_name (i := 6) sc_is_free_by.nd rfl (Or.inl rfl)) (fun _ _ _ _ _ => pts_one (pt_cmpR op_notIn_seq (pv 6) (pv 2) rfl)) (fun _ _ _ _ _ => (pv 6)))
    (pss_one (ps_ret (pe_cmpR (op_eqD (hr.units)) (pe_slice sl_list (pv 4) po_none (po_some (pe_callB call_len (by rfl) (g_len T) PySem.boot_len (pa_cons (pv 3) pa_nil)))) (pv 3) (nomark _)))))))
theorem sc_entries_of : FnScope N_entries_of ["index", "groups"] (defScope s_entries_of) := ⟨rfl, rfl, rfl, by decide +kernel, rfl, by decide +kernel, by decide +kernel⟩
theorem ok_entries_of (T : Txt K mg) : Call1 P w K mg base 4 "entries_of" (sp_entries_of K) := by
  obtain ⟨fd, F⟩ := T.says.def_ 73 (d := d_entries_of) rfl
  have b : Binds K fd ["index", "groups"] [] := FunD.bindsN (ps := ["index", "groups"]) F fun _ _ _ _ _ _ us hl => match us, hl with | [_, _], _ => rfl
  obtain ⟨_, _, G_rows_passing, m_rows_passing, k_rows_passing, b_rows_passing⟩ := (ok_rows_passing (P := P) (w := w) (base := base) T).ex
  refine ⟨fd, _, FunD.ok (CX := L2.CX P w) (k := 3) F sc_entries_of (fun vs H Q E h => len_entries_of h) (fun cdv A outer s H vs Q E hr h => ⟨t_entries_of K E, ?_, pure_entries_of T vs H Q E h⟩), g_entries_of T, F.kp, b⟩
  exact (pss_cons (ps_set (i := 2) sc_entries_of.nd rfl (Or.inl rfl) (pe_ifExp (pt_cmpR op_isN (pe_fld (pv 0) rfl) pe_non (nomark _)) (pe_lst pa_nil) (pe_lst (pa_cons (pe_fld (pv 0) rfl) pa_nil))))
    (pss_one (ps_ret (pe_call G_rows_passing (hr.mono (by decide)) rfl m_rows_passing k_rows_passing b_rows_passing .nil passL (pa_cons (pv 1) (pa_cons (pv 2) pa_nil))))))
theorem sc_room_of : FnScope N_room_of ["index", "groups"] (defScope s_room_of) := ⟨rfl, rfl, rfl, by decide +kernel, rfl, by decide +kernel, by decide +kernel⟩
theorem ok_room_of (T : Txt K mg) : Call1 P w K mg base 5 "room_of" (sp_room_of K) := by
  obtain ⟨fd, F⟩ := T.says.def_ 74 (d := d_room_of) rfl
  have b : Binds K fd ["index", "groups"] [] := FunD.bindsN (ps := ["index", "groups"]) F fun _ _ _ _ _ _ us hl => match us, hl with | [_, _], _ => rfl
  obtain ⟨_, _, G_entries_of, m_entries_of, k_entries_of, b_entries_of⟩ := (ok_entries_of (P := P) (w := w) (base := base) T).ex
  obtain ⟨_, _, G_columns_of, m_columns_of, k_columns_of, b_columns_of⟩ := (ok_columns_of (P := P) (w := w) (base := base) T).ex
  refine ⟨fd, _, FunD.ok (CX := L2.CX P w) (k := 4) F sc_room_of (fun vs H Q E h => len_room_of h) (fun cdv A outer s H vs Q E hr h => ⟨t_room_of K E, ?_, pure_room_of T vs H Q E h⟩), g_room_of T, F.kp, b⟩
  exact (pss_one (ps_ret (pe_op op_mul (pe_call G_entries_of (hr.mono (by decide)) rfl m_entries_of k_entries_of b_entries_of .nil passL (pa_cons (pv 0) (pa_cons (pv 1) pa_nil))) (pe_op op_add pe_int (pe_callB call_len (by rfl) (g_len T) PySem.boot_len (pa_cons (pe_call G_columns_of (hr.mono (by decide)) rfl m_columns_of k_columns_of b_columns_of .nil passL (pa_cons (pv 0) pa_nil)) pa_nil))))))
theorem sc_one_if : FnScope N_one_if ["holds"] (defScope s_one_if) := ⟨rfl, rfl, rfl, by decide +kernel, rfl, by decide +kernel, by decide +kernel⟩
theorem ok_one_if (T : Txt K mg) : Call1 P w K mg base 1 "one_if" (sp_one_if K) := by
  obtain ⟨fd, F⟩ := T.says.def_ 87 (d := d_one_if) rfl
  have b : Binds K fd ["holds"] [] := FunD.bindsN (ps := ["holds"]) F fun _ _ _ _ _ _ us hl => match us, hl with | [_], _ => rfl
  refine ⟨fd, _, FunD.ok (CX := L2.CX P w) (k := 0) F sc_one_if (fun vs H Q E h => len_one_if h) (fun cdv A outer s H vs Q E hr h => ⟨t_one_if K E, ?_, pure_one_if T vs H Q E h⟩), g_one_if T, F.kp, b⟩
  exact (pss_one (ps_ret (pe_ifExp (pt_val (pv 0)) pe_int pe_int)))
theorem sc_about_filters : FnScope N_about_filters ["sheet", "call"] (defScope s_about_filters) := ⟨rfl, rfl, rfl, by decide +kernel, rfl, by decide +kernel, by decide +kernel⟩
theorem ok_about_filters (T : Txt K mg) : Call1 P w K mg base 5 "about_filters" (sp_about_filters K) := by
  obtain ⟨fd, F⟩ := T.says.def_ 86 (d := d_about_filters) rfl
  have b : Binds K fd ["sheet", "call"] [] := FunD.bindsN (ps := ["sheet", "call"]) F fun _ _ _ _ _ _ us hl => match us, hl with | [_, _], _ => rfl
  obtain ⟨_, _, G_filters_of, m_filters_of, k_filters_of, b_filters_of⟩ := (ok_filters_of (P := P) (w := w) (base := base) T).ex
  obtain ⟨_, _, G_rows_passing, m_rows_passing, k_rows_passing, b_rows_passing⟩ := (ok_rows_passing (P := P) (w := w) (base := base) T).ex
  obtain ⟨_, _, G_filter_of, m_filter_of, k_filter_of, b_filter_of⟩ := (ok_filter_of (P := P) (w := w) (base := base) T).ex
  obtain ⟨_, _, G_one_if, m_one_if, k_one_if, b_one_if⟩ := (ok_one_if (P := P) (w := w) (base := base) T).ex
  obtain ⟨_, _, G_say_in_table, m_say_in_table, k_say_in_table, b_say_in_table⟩ := (ok_say_in_table (P := P) (w := w) (base := base) T).ex
  obtain ⟨_, _, G_say, m_say, k_say, b_say⟩ := (ok_say (P := P) (w := w) (base := base) T).ex
  refine ⟨fd, _, FunD.ok (CX := L2.CX P w) (k := 4) F sc_about_filters (fun vs H Q E h => len_about_filters h) (fun cdv A outer s H vs Q E hr h => ⟨t_about_filters K E, ?_, pure_about_filters T vs H Q E h⟩), g_about_filters T, F.kp, b⟩
  exact (pss_cons (ps_set (i := 2) sc_about_filters.nd rfl (Or.inl rfl) (pe_call G_filters_of (hr.mono (by decide)) rfl m_filters_of k_filters_of b_filters_of .nil passL (pa_cons (pe_ix ix_list (pe_fld (pv 1) rfl) pe_int (fun _ _ => rfl)) (pa_cons (pe_callB call_len (by rfl) (g_len T) PySem.boot_len (pa_cons (pe_fld (pv 0) rfl) pa_nil)) pa_nil))))
    (pss_cons (ps_if (pt_cmpR op_isN (pv 2) pe_non (nomark _)) (pss_one (ps_ret (pe_lst (pa_cons (pe_un un_neg pe_int) pa_nil)))) pss_nil)
    (pss_cons (ps_if (pt_cmpR op_eq (pe_fld (pv 1) rfl) (pe_gk (by rfl) (c_COUNT T)) (nomark _)) (pss_one (ps_ret (pe_lst (pa_cons (pe_call G_rows_passing (hr.mono (by decide)) rfl m_rows_passing k_rows_passing b_rows_passing .nil passL (pa_cons (pe_fld (pv 0) rfl) (pa_cons (pv 2) pa_nil))) (pa_cons (pe_call G_rows_passing (hr.mono (by decide)) rfl m_rows_passing k_rows_passing b_rows_passing .nil passL (pa_cons (pe_fld (pv 0) rfl) (pa_cons (pe_lst pa_nil) pa_nil))) pa_nil))))) pss_nil)
    (pss_cons (ps_set (i := 3) sc_about_filters.nd rfl (Or.inl rfl) (pe_call G_filter_of (hr.mono (by decide)) rfl m_filter_of k_filter_of b_filter_of .nil passL (pa_cons (pe_ix ix_list (pe_fld (pv 1) rfl) pe_int (fun _ _ => rfl)) (pa_cons (pe_callB call_len (by rfl) (g_len T) PySem.boot_len (pa_cons (pe_fld (pv 0) rfl) pa_nil)) pa_nil))))
    (pss_cons (ps_if (pt_cmpR op_isN (pv 3) pe_non (nomark _)) (pss_one (ps_ret (pe_lst (pa_cons (pe_un un_neg pe_int) pa_nil)))) pss_nil)
    (pss_one (ps_ret (pe_lst (pa_cons (pe_call G_one_if (hr.mono (by decide)) rfl m_one_if k_one_if b_one_if .nil passL (pa_cons (pe_call G_say (hr.mono (by decide)) rfl m_say k_say b_say .nil passL (pa_cons (pv 2) (pa_cons (pv 3) pa_nil))) pa_nil)) (pa_cons (pe_call G_one_if (hr.mono (by decide)) rfl m_one_if k_one_if b_one_if .nil passL (pa_cons (pe_call G_say_in_table (hr.mono (by decide)) rfl m_say_in_table k_say_in_table b_say_in_table .nil passL (pa_cons (pe_fld (pv 0) rfl) (pa_cons (pv 2) (pa_cons (pv 3) pa_nil)))) pa_nil)) pa_nil))))))))))
theorem sc_shown : FnScope N_shown ["sheet"] (defScope s_shown) := ⟨rfl, rfl, rfl, by decide +kernel, rfl, by decide +kernel, by decide +kernel⟩
theorem ok_shown (T : Txt K mg) : Call1 P w K mg base 4 "shown" (sp_shown K) := by
  obtain ⟨fd, F⟩ := T.says.def_ 79 (d := d_shown) rfl
  have b : Binds K fd ["sheet"] [] := FunD.bindsN (ps := ["sheet"]) F fun _ _ _ _ _ _ us hl => match us, hl with | [_], _ => rfl
  obtain ⟨_, _, G_one_form, m_one_form, k_one_form, b_one_form⟩ := (ok_one_form (P := P) (w := w) (base := base) T).ex
  refine ⟨fd, _, FunD.ok (CX := L2.CX P w) (k := 3) F sc_shown (fun vs H Q E h => len_shown h) (fun cdv A outer s H vs Q E hr h => ⟨t_shown K E, ?_, pure_shown T vs H Q E h⟩), g_shown T, F.kp, b⟩
  exact (pss_cons (ps_set (i := 1) sc_shown.nd rfl (Or.inl rfl) (pe_call G_one_form (hr.mono (by decide)) rfl m_one_form k_one_form b_one_form .nil passL (pa_cons (pv 0) pa_nil)))
    (pss_one (ps_ret (pe_op op_cat (pe_lst (pa_cons (pe_callB call_len (by rfl) (g_len T) PySem.boot_len (pa_cons (pv 1) pa_nil)) pa_nil)) (pv 1)))))
theorem sc_indexes_serving : FnScope N_indexes_serving ["indexes", "question"] (defScope s_indexes_serving) := ⟨rfl, rfl, rfl, by decide +kernel, rfl, by decide +kernel, by decide +kernel⟩
theorem ok_indexes_serving (T : Txt K mg) : Call1 P w K mg base 3 "indexes_serving" (sp_indexes_serving K) := by
  obtain ⟨fd, F⟩ := T.says.def_ 83 (d := d_indexes_serving) rfl
  have b : Binds K fd ["indexes", "question"] [] := FunD.bindsN (ps := ["indexes", "question"]) F fun _ _ _ _ _ _ us hl => match us, hl with | [_, _], _ => rfl
  obtain ⟨_, _, G_serves, m_serves, k_serves, b_serves⟩ := (ok_serves (P := P) (w := w) (base := base) T).ex
  obtain ⟨_, _, G_one_if, m_one_if, k_one_if, b_one_if⟩ := (ok_one_if (P := P) (w := w) (base := base) T).ex
  obtain ⟨_, _, G_covers, m_covers, k_covers, b_covers⟩ := (ok_covers (P := P) (w := w) (base := base) T).ex
  obtain ⟨_, _, G_is_free_by, m_is_free_by, k_is_free_by, b_is_free_by⟩ := (ok_is_free_by (P := P) (w := w) (base := base) T).ex
  refine ⟨fd, _, FunD.ok (CX := L2.CX P w) (k := 2) F sc_indexes_serving (fun vs H Q E h => len_indexes_serving h) (fun cdv A outer s H vs Q E hr h => ⟨t_indexes_serving K E, ?_, pure_indexes_serving T vs H Q E h⟩), g_indexes_serving T, F.kp, b⟩
  exact (pss_cons (ps_setLc (i := 2) (own := [("number", 4), ("index", 5)]) (g := (gTup K 2 (gCons (gName 4) (gCons (gName 5) gNil)))) (tt := (tB (tCall (sp_serves K) [] E0 (tCons (tVar 5) (tCons (tVar 1) tNil))))) rfl sc_indexes_serving.nd rfl rfl (sw_true rfl rfl rfl (by decide +kernel)) (pi_enum rfl (g_enumerate T) (pa_cons (pv 0) pa_nil)) (blkOk_by (own := [("number", 4), ("index", 5)]) (N := N_indexes_serving) (sc := defScope s_indexes_serving) (by decide +kernel)) (fun _ _ _ _ _ => pg_tup rfl (pgs_cons (pg_name (i := 4) sc_indexes_serving.nd rfl (Or.inl rfl)) (pgs_cons (pg_name (i := 5) sc_indexes_serving.nd rfl (Or.inl rfl)) pgs_nil))) (fun _ _ _ _ _ => pts_one (pt_val (pe_call G_serves (hr.mono (by decide)) rfl m_serves k_serves b_serves .nil passL (pa_cons (pv 5) (pa_cons (pv 1) pa_nil))))) (fun _ _ _ _ _ => (pv 4)))
    (pss_cons (ps_set (i := 3) sc_indexes_serving.nd rfl (Or.inl rfl) (pe_lst (pa_cons (pe_callB call_len (by rfl) (g_len T) PySem.boot_len (pa_cons (pv 2) pa_nil)) pa_nil)))
    (pss_cons (ps_for (passes_of rfl) rfl (pi_list (pv 2)) (pg_name (i := 4) sc_indexes_serving.nd rfl (Or.inl rfl)) (pss_cons (ps_expr (pe_bm PySem.F.plainAttrs_list PySem.F.slot_list_append PySem.F.type_list_append mt_append (pv 3) (pa_cons (pv 4) pa_nil)))
    (pss_cons (ps_expr (pe_bm PySem.F.plainAttrs_list PySem.F.slot_list_append PySem.F.type_list_append mt_append (pv 3) (pa_cons (pe_call G_one_if (hr.mono (by decide)) rfl m_one_if k_one_if b_one_if .nil passL (pa_cons (pe_call G_covers (hr.mono (by decide)) rfl m_covers k_covers b_covers .nil passL (pa_cons (pe_ix ix_list (pv 0) (pv 4) (fun _ _ => rfl)) (pa_cons (pv 1) pa_nil))) pa_nil)) pa_nil)))
    (pss_one (ps_expr (pe_bm PySem.F.plainAttrs_list PySem.F.slot_list_append PySem.F.type_list_append mt_append (pv 3) (pa_cons (pe_call G_one_if (hr.mono (by decide)) rfl m_one_if k_one_if b_one_if .nil passL (pa_cons (pe_call G_is_free_by (hr.mono (by decide)) rfl m_is_free_by k_is_free_by b_is_free_by .nil passL (pa_cons (pe_ix ix_list (pv 0) (pv 4) (fun _ _ => rfl)) (pa_cons (pv 1) pa_nil))) pa_nil)) pa_nil)))))))
    (pss_one (ps_ret (pv 3))))))
theorem sc_rows_answered : FnScope N_rows_answered ["groups", "question"] (defScope s_rows_answered) := ⟨rfl, rfl, rfl, by decide +kernel, rfl, by decide +kernel, by decide +kernel⟩
theorem ok_rows_answered (T : Txt K mg) : Call1 P w K mg base 6 "rows_answered" (sp_rows_answered K) := by
  obtain ⟨fd, F⟩ := T.says.def_ 81 (d := d_rows_answered) rfl
  have b : Binds K fd ["groups", "question"] [] := FunD.bindsN (ps := ["groups", "question"]) F fun _ _ _ _ _ _ us hl => match us, hl with | [_, _], _ => rfl
  obtain ⟨_, _, G_answered_parts, m_answered_parts, k_answered_parts, b_answered_parts⟩ := (ok_answered_parts (P := P) (w := w) (base := base) T).ex
  refine ⟨fd, _, FunD.ok (CX := L2.CX P w) (k := 5) F sc_rows_answered (fun vs H Q E h => len_rows_answered h) (fun cdv A outer s H vs Q E hr h => ⟨t_rows_answered K E, ?_, pure_rows_answered T vs H Q E h⟩), g_rows_answered T, F.kp, b⟩
  exact (pss_cons (ps_set (i := 2) sc_rows_answered.nd rfl (Or.inl rfl) (pe_call G_answered_parts (hr.mono (by decide)) rfl m_answered_parts k_answered_parts b_answered_parts .nil passL (pa_cons (pv 0) (pa_cons (pv 1) pa_nil))))
    (pss_cons (ps_set (i := 3) sc_rows_answered.nd rfl (Or.inl rfl) (pe_lst (pa_cons (pe_callB (cr_sum rfl) (by rfl) (g_sum T) (by decide +kernel) (pa_cons (pe_lc (own := [("part", 4)]) (g := (gName 4)) (tt := tYes) rfl sc_rows_answered.nd (pi_list (pv 2)) (blkOk_by (own := [("part", 4)]) (N := N_rows_answered) (sc := defScope s_rows_answered) (by decide +kernel)) (fun _ _ _ _ _ => pg_name (i := 4) sc_rows_answered.nd rfl (Or.inl rfl)) (fun _ _ _ _ _ => pts_nil) (fun _ _ _ _ _ => (pe_fld (pv 4) rfl))) pa_nil)) (pa_cons (pe_callB call_len (by rfl) (g_len T) PySem.boot_len (pa_cons (pv 2) pa_nil)) pa_nil))))
    (pss_cons (ps_for (passes_of rfl) rfl (pi_list (pv 2)) (pg_name (i := 4) sc_rows_answered.nd rfl (Or.inl rfl)) (pss_cons (ps_expr (pe_bm PySem.F.plainAttrs_list PySem.F.slot_list_append PySem.F.type_list_append mt_append (pv 3) (pa_cons (pe_fld (pv 4) rfl) pa_nil)))
    (pss_one (ps_expr (pe_bm PySem.F.plainAttrs_list PySem.F.slot_list_extend PySem.F.type_list_extend mt_extendT (pv 3) (pa_cons (pe_fld (pv 4) rfl) pa_nil))))))
    (pss_one (ps_ret (pv 3))))))
theorem sc_filters_alone : FnScope N_filters_alone ["groups", "filters"] (defScope s_filters_alone) := ⟨rfl, rfl, rfl, by decide +kernel, rfl, by decide +kernel, by decide +kernel⟩
theorem ok_filters_alone (T : Txt K mg) : Call1 P w K mg base 4 "filters_alone" (sp_filters_alone K) := by
  obtain ⟨fd, F⟩ := T.says.def_ 82 (d := d_filters_alone) rfl
  have b : Binds K fd ["groups", "filters"] [] := FunD.bindsN (ps := ["groups", "filters"]) F fun _ _ _ _ _ _ us hl => match us, hl with | [_, _], _ => rfl
  obtain ⟨_, _, G_rows_passing, m_rows_passing, k_rows_passing, b_rows_passing⟩ := (ok_rows_passing (P := P) (w := w) (base := base) T).ex
  refine ⟨fd, _, FunD.ok (CX := L2.CX P w) (k := 3) F sc_filters_alone (fun vs H Q E h => len_filters_alone h) (fun cdv A outer s H vs Q E hr h => ⟨t_filters_alone K E, ?_, pure_filters_alone T vs H Q E h⟩), g_filters_alone T, F.kp, b⟩
  exact (pss_one (ps_ret (pe_op op_cat (pe_lst (pa_cons (pe_call G_rows_passing (hr.mono (by decide)) rfl m_rows_passing k_rows_passing b_rows_passing .nil passL (pa_cons (pv 0) (pa_cons (pv 1) pa_nil))) (pa_cons (pe_callB call_len (by rfl) (g_len T) PySem.boot_len (pa_cons (pv 1) pa_nil)) pa_nil))) (pe_lc (own := [("sieve", 2)]) (g := (gName 2)) (tt := tYes) rfl sc_filters_alone.nd (pi_list (pv 1)) (blkOk_by (own := [("sieve", 2)]) (N := N_filters_alone) (sc := defScope s_filters_alone) (by decide +kernel)) (fun _ _ _ _ _ => pg_name (i := 2) sc_filters_alone.nd rfl (Or.inl rfl)) (fun _ _ _ _ _ => pts_nil) (fun _ _ _ _ _ => (pe_call G_rows_passing (hr.mono (by decide)) rfl m_rows_passing k_rows_passing b_rows_passing .nil passL (pa_cons (pv 0) (pa_cons (pe_lst (pa_cons (pv 2) pa_nil)) pa_nil))))))))
theorem sc_about_question : FnScope N_about_question ["sheet", "kind", "number"] (defScope s_about_question) := ⟨rfl, rfl, rfl, by decide +kernel, rfl, by decide +kernel, by decide +kernel⟩
theorem ok_about_question (T : Txt K mg) : Call1 P w K mg base 7 "about_question" (sp_about_question K) := by
  obtain ⟨fd, F⟩ := T.says.def_ 80 (d := d_about_question) rfl
  have b : Binds K fd ["sheet", "kind", "number"] [] := FunD.bindsN (ps := ["sheet", "kind", "number"]) F fun _ _ _ _ _ _ us hl => match us, hl with | [_, _, _], _ => rfl
  obtain ⟨_, _, G_question_numbers, m_question_numbers, k_question_numbers, b_question_numbers⟩ := (ok_question_numbers (P := P) (w := w) (base := base) T).ex
  obtain ⟨_, _, G_rows_answered, m_rows_answered, k_rows_answered, b_rows_answered⟩ := (ok_rows_answered (P := P) (w := w) (base := base) T).ex
  obtain ⟨_, _, G_filters_alone, m_filters_alone, k_filters_alone, b_filters_alone⟩ := (ok_filters_alone (P := P) (w := w) (base := base) T).ex
  obtain ⟨_, _, G_indexes_serving, m_indexes_serving, k_indexes_serving, b_indexes_serving⟩ := (ok_indexes_serving (P := P) (w := w) (base := base) T).ex
  refine ⟨fd, _, FunD.ok (CX := L2.CX P w) (k := 6) F sc_about_question (fun vs H Q E h => len_about_question h) (fun cdv A outer s H vs Q E hr h => ⟨t_about_question K E, ?_, pure_about_question T vs H Q E h⟩), g_about_question T, F.kp, b⟩
  exact (pss_cons (ps_if (pt_not (pt_chain op_le op_lt pe_int (pv 2) (pe_callB call_len (by rfl) (g_len T) PySem.boot_len (pa_cons (pe_fld (pv 0) rfl) pa_nil)))) (pss_one (ps_ret (pe_lst (pa_cons (pe_un un_neg pe_int) pa_nil)))) pss_nil)
    (pss_cons (ps_set (i := 3) sc_about_question.nd rfl (Or.inl rfl) (pe_ix ix_list (pe_fld (pv 0) rfl) (pv 2) (fun _ _ => rfl)))
    (pss_cons (ps_if (pt_cmpR op_eq (pv 1) (pe_gk (by rfl) (c_ASK T)) (nomark _)) (pss_one (ps_ret (pe_call G_question_numbers (hr.mono (by decide)) rfl m_question_numbers k_question_numbers b_question_numbers .nil passL (pa_cons (pv 3) pa_nil)))) pss_nil)
    (pss_cons (ps_if (pt_cmpR op_eq (pv 1) (pe_gk (by rfl) (c_ANSWER T)) (nomark _)) (pss_one (ps_ret (pe_call G_rows_answered (hr.mono (by decide)) rfl m_rows_answered k_rows_answered b_rows_answered .nil passL (pa_cons (pe_fld (pv 0) rfl) (pa_cons (pv 3) pa_nil))))) pss_nil)
    (pss_cons (ps_if (pt_cmpR op_eq (pv 1) (pe_gk (by rfl) (c_ALONE T)) (nomark _)) (pss_one (ps_ret (pe_call G_filters_alone (hr.mono (by decide)) rfl m_filters_alone k_filters_alone b_filters_alone .nil passL (pa_cons (pe_fld (pv 0) rfl) (pa_cons (pe_fld (pv 3) rfl) pa_nil))))) pss_nil)
    (pss_one (ps_ret (pe_call G_indexes_serving (hr.mono (by decide)) rfl m_indexes_serving k_indexes_serving b_indexes_serving .nil passL (pa_cons (pe_fld (pv 0) rfl) (pa_cons (pv 3) pa_nil))))))))))
theorem sc_about_index : FnScope N_about_index ["sheet", "kind", "number"] (defScope s_about_index) := ⟨rfl, rfl, rfl, by decide +kernel, rfl, by decide +kernel, by decide +kernel⟩
theorem ok_about_index (T : Txt K mg) : Call1 P w K mg base 6 "about_index" (sp_about_index K) := by
  obtain ⟨fd, F⟩ := T.says.def_ 84 (d := d_about_index) rfl
  have b : Binds K fd ["sheet", "kind", "number"] [] := FunD.bindsN (ps := ["sheet", "kind", "number"]) F fun _ _ _ _ _ _ us hl => match us, hl with | [_, _, _], _ => rfl
  obtain ⟨_, _, G_index_numbers, m_index_numbers, k_index_numbers, b_index_numbers⟩ := (ok_index_numbers (P := P) (w := w) (base := base) T).ex
  obtain ⟨_, _, G_room_of, m_room_of, k_room_of, b_room_of⟩ := (ok_room_of (P := P) (w := w) (base := base) T).ex
  obtain ⟨_, _, G_entries_of, m_entries_of, k_entries_of, b_entries_of⟩ := (ok_entries_of (P := P) (w := w) (base := base) T).ex
  refine ⟨fd, _, FunD.ok (CX := L2.CX P w) (k := 5) F sc_about_index (fun vs H Q E h => len_about_index h) (fun cdv A outer s H vs Q E hr h => ⟨t_about_index K E, ?_, pure_about_index T vs H Q E h⟩), g_about_index T, F.kp, b⟩
  exact (pss_cons (ps_if (pt_not (pt_chain op_le op_lt pe_int (pv 2) (pe_callB call_len (by rfl) (g_len T) PySem.boot_len (pa_cons (pe_fld (pv 0) rfl) pa_nil)))) (pss_one (ps_ret (pe_lst (pa_cons (pe_un un_neg pe_int) pa_nil)))) pss_nil)
    (pss_cons (ps_set (i := 3) sc_about_index.nd rfl (Or.inl rfl) (pe_ix ix_list (pe_fld (pv 0) rfl) (pv 2) (fun _ _ => rfl)))
    (pss_cons (ps_if (pt_cmpR op_eq (pv 1) (pe_gk (by rfl) (c_INDEX T)) (nomark _)) (pss_one (ps_ret (pe_call G_index_numbers (hr.mono (by decide)) rfl m_index_numbers k_index_numbers b_index_numbers .nil passL (pa_cons (pv 3) pa_nil)))) pss_nil)
    (pss_one (ps_ret (pe_lst (pa_cons (pe_call G_entries_of (hr.mono (by decide)) rfl m_entries_of k_entries_of b_entries_of .nil passL (pa_cons (pv 3) (pa_cons (pe_fld (pv 0) rfl) pa_nil))) (pa_cons (pe_call G_room_of (hr.mono (by decide)) rfl m_room_of k_room_of b_room_of .nil passL (pa_cons (pv 3) (pa_cons (pe_fld (pv 0) rfl) pa_nil))) pa_nil))))))))
theorem sc_column_split : FnScope N_column_split ["sheet", "column"] (defScope s_column_split) := ⟨rfl, rfl, rfl, by decide +kernel, rfl, by decide +kernel, by decide +kernel⟩
theorem ok_column_split (T : Txt K mg) : Call1 P w K mg base 5 "column_split" (sp_column_split K) := by
  obtain ⟨fd, F⟩ := T.says.def_ 85 (d := d_column_split) rfl
  have b : Binds K fd ["sheet", "column"] [] := FunD.bindsN (ps := ["sheet", "column"]) F fun _ _ _ _ _ _ us hl => match us, hl with | [_, _], _ => rfl
  obtain ⟨_, _, G_rows_split, m_rows_split, k_rows_split, b_rows_split⟩ := (ok_rows_split (P := P) (w := w) (base := base) T).ex
  refine ⟨fd, _, FunD.ok (CX := L2.CX P w) (k := 4) F sc_column_split (fun vs H Q E h => len_column_split h) (fun cdv A outer s H vs Q E hr h => ⟨t_column_split K E, ?_, pure_column_split T vs H Q E h⟩), g_column_split T, F.kp, b⟩
  exact (pss_cons (ps_if (pt_not (pt_chain op_le op_lt pe_int (pv 1) (pe_callB call_len (by rfl) (g_len T) PySem.boot_len (pa_cons (pe_fld (pv 0) rfl) pa_nil)))) (pss_one (ps_ret (pe_lst (pa_cons (pe_un un_neg pe_int) pa_nil)))) pss_nil)
    (pss_one (ps_ret (pe_call G_rows_split (hr.mono (by decide)) rfl m_rows_split k_rows_split b_rows_split .nil passL (pa_cons (pe_fld (pv 0) rfl) (pa_cons (pv 1) pa_nil))))))
theorem sc_answer_from : FnScope N_answer_from ["sheet", "call"] (defScope s_answer_from) := ⟨rfl, rfl, rfl, by decide +kernel, rfl, by decide +kernel, by decide +kernel⟩
theorem ok_answer_from (T : Txt K mg) : Call1 P w K mg base 8 "answer_from" (sp_answer_from K) := by
  obtain ⟨fd, F⟩ := T.says.def_ 77 (d := d_answer_from) rfl
  have b : Binds K fd ["sheet", "call"] [] := FunD.bindsN (ps := ["sheet", "call"]) F fun _ _ _ _ _ _ us hl => match us, hl with | [_, _], _ => rfl
  obtain ⟨_, _, G_shown, m_shown, k_shown, b_shown⟩ := (ok_shown (P := P) (w := w) (base := base) T).ex
  obtain ⟨_, _, G_table_numbers, m_table_numbers, k_table_numbers, b_table_numbers⟩ := (ok_table_numbers (P := P) (w := w) (base := base) T).ex
  obtain ⟨_, _, G_about_question, m_about_question, k_about_question, b_about_question⟩ := (ok_about_question (P := P) (w := w) (base := base) T).ex
  obtain ⟨_, _, G_about_index, m_about_index, k_about_index, b_about_index⟩ := (ok_about_index (P := P) (w := w) (base := base) T).ex
  obtain ⟨_, _, G_column_split, m_column_split, k_column_split, b_column_split⟩ := (ok_column_split (P := P) (w := w) (base := base) T).ex
  obtain ⟨_, _, G_about_filters, m_about_filters, k_about_filters, b_about_filters⟩ := (ok_about_filters (P := P) (w := w) (base := base) T).ex
  refine ⟨fd, _, FunD.ok (CX := L2.CX P w) (k := 7) F sc_answer_from (fun vs H Q E h => len_answer_from h) (fun cdv A outer s H vs Q E hr h => ⟨t_answer_from K E, ?_, pure_answer_from T vs H Q E h⟩), g_answer_from T, F.kp, b⟩
  exact (pss_cons (ps_if (pt_cmpR op_eq (pe_fld (pv 1) rfl) (pe_gk (by rfl) (c_SHOWN T)) (nomark _)) (pss_one (ps_ret (pe_call G_shown (hr.mono (by decide)) rfl m_shown k_shown b_shown .nil passL (pa_cons (pv 0) pa_nil)))) pss_nil)
    (pss_cons (ps_if (pt_cmpR op_eq (pe_fld (pv 1) rfl) (pe_gk (by rfl) (c_TABLE T)) (nomark _)) (pss_one (ps_ret (pe_call G_table_numbers (hr.mono (by decide)) rfl m_table_numbers k_table_numbers b_table_numbers .nil passL (pa_cons (pv 0) pa_nil)))) pss_nil)
    (pss_cons (ps_if (pt_cmpR op_in_seq (pe_fld (pv 1) rfl) (pe_tup (pa_cons (pe_gk (by rfl) (c_ASK T)) (pa_cons (pe_gk (by rfl) (c_ANSWER T)) (pa_cons (pe_gk (by rfl) (c_ALONE T)) (pa_cons (pe_gk (by rfl) (c_SERVES T)) pa_nil))))) rfl) (pss_one (ps_ret (pe_call G_about_question (hr.mono (by decide)) rfl m_about_question k_about_question b_about_question .nil passL (pa_cons (pv 0) (pa_cons (pe_fld (pv 1) rfl) (pa_cons (pe_ix ix_list (pe_fld (pv 1) rfl) pe_int (fun _ _ => rfl)) pa_nil)))))) pss_nil)
    (pss_cons (ps_if (pt_cmpR op_in_seq (pe_fld (pv 1) rfl) (pe_tup (pa_cons (pe_gk (by rfl) (c_INDEX T)) (pa_cons (pe_gk (by rfl) (c_ROOM T)) pa_nil))) rfl) (pss_one (ps_ret (pe_call G_about_index (hr.mono (by decide)) rfl m_about_index k_about_index b_about_index .nil passL (pa_cons (pv 0) (pa_cons (pe_fld (pv 1) rfl) (pa_cons (pe_ix ix_list (pe_fld (pv 1) rfl) pe_int (fun _ _ => rfl)) pa_nil)))))) pss_nil)
    (pss_cons (ps_if (pt_cmpR op_eq (pe_fld (pv 1) rfl) (pe_gk (by rfl) (c_SPLIT T)) (nomark _)) (pss_one (ps_ret (pe_call G_column_split (hr.mono (by decide)) rfl m_column_split k_column_split b_column_split .nil passL (pa_cons (pv 0) (pa_cons (pe_ix ix_list (pe_fld (pv 1) rfl) pe_int (fun _ _ => rfl)) pa_nil))))) pss_nil)
    (pss_one (ps_ret (pe_call G_about_filters (hr.mono (by decide)) rfl m_about_filters k_about_filters b_about_filters .nil passL (pa_cons (pv 0) (pa_cons (pv 1) pa_nil))))))))))
theorem sc_load : FnScope N_load ["desk", "text"] (defScope s_load) := ⟨rfl, rfl, rfl, by decide +kernel, rfl, by decide +kernel, by decide +kernel⟩
theorem ok_load (T : Txt K mg) : Call1 P w K mg base 9 "load" (sp_load K) := by
  obtain ⟨fd, F⟩ := T.says.def_ 78 (d := d_load) rfl
  have b : Binds K fd ["desk", "text"] [] := FunD.bindsN (ps := ["desk", "text"]) F fun _ _ _ _ _ _ us hl => match us, hl with | [_, _], _ => rfl
  obtain ⟨_, _, G_sheet_of, m_sheet_of, k_sheet_of, b_sheet_of⟩ := (ok_sheet_of (P := P) (w := w) (base := base) T).ex
  refine ⟨fd, _, FunD.ok (CX := L2.CX P w) (k := 8) F sc_load (fun vs H Q E h => len_load h) (fun cdv A outer s H vs Q E hr h => ⟨t_load K E, ?_, pure_load T vs H Q E h⟩), g_load T, F.kp, b⟩
  exact (pss_cons (ps_if (pt_cmpR op_gt (pe_callB call_len (by rfl) (g_len T) PySem.boot_len (pa_cons (pv 1) pa_nil)) (pe_gk (by rfl) (c_LONGEST_TEXT T)) (nomark _)) (pss_one (ps_ret (pe_lst (pa_cons (pe_un un_neg pe_int) pa_nil)))) pss_nil)
    (pss_cons (ps_try_as (i := 3) (tb := (fun W => tAsg (tCallS (sp_sheet_of K) (WE W) (tCons (tVar 1) tNil)) (gName 2))) (ts := (fun a cls d => tRet (tLst (tCons (tC (.int 1)) (tCons (tXf a cls d (He.ga K "Fault") "kind" (tVar 3)) (tCons (tXf a cls d (He.ga K "Fault") "place" (tVar 3)) tNil)))))) (Wout := fun _ _ _ _ => False) rfl rfl sc_load.nd rfl rfl ⟨rfl, by decide, Or.inl (g_Fault T)⟩ takes0 (fun W pn xe tk _ => pss_one (ps_set (i := 2) sc_load.nd rfl (Or.inl rfl) (pe_callS G_sheet_of (hr.mono (by decide)) rfl m_sheet_of k_sheet_of b_sheet_of (fun σ => passAt tk σ) (pa_cons (pv 1) pa_nil)))) (fun a oe cls d pn hz hf => pss_one (ps_ret (pe_lst (pa_cons pe_int (pa_cons (pe_xf (f_Fault T) (n_Fault_kind T) hz hf (pv 3)) (pa_cons (pe_xf (f_Fault T) (n_Fault_place T) hz hf (pv 3)) pa_nil)))))))
    (pss_cons (ps_fld (pv 0) (pv 2) rfl)
    (pss_one (ps_ret (pe_lst (pa_cons pe_int (pa_cons (pe_callB call_len (by rfl) (g_len T) PySem.boot_len (pa_cons (pe_fld (pv 2) rfl) pa_nil)) (pa_cons (pe_callB call_len (by rfl) (g_len T) PySem.boot_len (pa_cons (pe_fld (pv 2) rfl) pa_nil)) (pa_cons (pe_callB call_len (by rfl) (g_len T) PySem.boot_len (pa_cons (pe_fld (pv 2) rfl) pa_nil)) (pa_cons (pe_callB call_len (by rfl) (g_len T) PySem.boot_len (pa_cons (pe_fld (pv 2) rfl) pa_nil)) pa_nil)))))))))))
theorem sc_answer_to : FnScope N_answer_to ["desk", "call"] (defScope s_answer_to) := ⟨rfl, rfl, rfl, by decide +kernel, rfl, by decide +kernel, by decide +kernel⟩
theorem ok_answer_to (T : Txt K mg) : Call1 P w K mg base 10 "answer_to" (sp_answer_to K) := by
  obtain ⟨fd, F⟩ := T.says.def_ 76 (d := d_answer_to) rfl
  have b : Binds K fd ["desk", "call"] [] := FunD.bindsN (ps := ["desk", "call"]) F fun _ _ _ _ _ _ us hl => match us, hl with | [_, _], _ => rfl
  obtain ⟨_, _, G_load, m_load, k_load, b_load⟩ := (ok_load (P := P) (w := w) (base := base) T).ex
  obtain ⟨_, _, G_answer_from, m_answer_from, k_answer_from, b_answer_from⟩ := (ok_answer_from (P := P) (w := w) (base := base) T).ex
  refine ⟨fd, _, FunD.ok (CX := L2.CX P w) (k := 9) F sc_answer_to (fun vs H Q E h => len_answer_to h) (fun cdv A outer s H vs Q E hr h => ⟨t_answer_to K E, ?_, pure_answer_to T vs H Q E h⟩), g_answer_to T, F.kp, b⟩
  exact (pss_cons (ps_if (pt_cmpR op_eq (pe_fld (pv 1) rfl) (pe_gk (by rfl) (c_LOAD T)) (nomark _)) (pss_one (ps_ret (pe_call G_load (hr.mono (by decide)) rfl m_load k_load b_load .nil passL (pa_cons (pv 0) (pa_cons (pe_ix ix_list (pe_fld (pv 1) rfl) pe_int (fun _ _ => rfl)) pa_nil))))) pss_nil)
    (pss_cons (ps_if (pt_cmpR op_isN (pe_fld (pv 0) rfl) pe_non (nomark _)) (pss_one (ps_ret (pe_lst (pa_cons (pe_un un_neg pe_int) pa_nil)))) pss_nil)
    (pss_one (ps_ret (pe_call G_answer_from (hr.mono (by decide)) rfl m_answer_from k_answer_from b_answer_from .nil passL (pa_cons (pe_fld (pv 0) rfl) (pa_cons (pv 1) pa_nil)))))))
theorem sc_answers : FnScope N_answers ["calls"] (defScope s_answers) := ⟨rfl, rfl, rfl, by decide +kernel, rfl, by decide +kernel, by decide +kernel⟩
theorem okF_answers (T : Txt K mg) {fd : FuncData} (F : FunD K d_answers.name d_answers.qual d_answers.params d_answers.body d_answers.scope (d_answers.dvs K) (d_answers.kws K) (He.fAd K d_answers.at_) fd) : FnOk P w K mg base (L2.CX P w) 11 (He.fAd K d_answers.at_) fd ["calls"] (sp_answers K) := by
  obtain ⟨_, _, _, M_Desk_init, G_Desk_init, m_Desk_init, b_Desk_init⟩ := (ok_Desk_init (P := P) (w := w) (base := base) T).ex
  obtain ⟨_, _, _, M_Line_init, G_Line_init, m_Line_init, b_Line_init⟩ := (ok_Line_init (P := P) (w := w) (base := base) T).ex
  obtain ⟨_, _, _, c_Line_has_more, m_Line_has_more, G_Line_has_more, b_Line_has_more⟩ := (ok_Line_has_more (P := P) (w := w) (base := base) T).ex
  obtain ⟨_, _, G_answer_to, m_answer_to, k_answer_to, b_answer_to⟩ := (ok_answer_to (P := P) (w := w) (base := base) T).ex
  obtain ⟨_, _, _, c_Line_next_call, m_Line_next_call, G_Line_next_call, b_Line_next_call⟩ := (ok_Line_next_call (P := P) (w := w) (base := base) T).ex
  refine FunD.ok (CX := L2.CX P w) (k := 10) F sc_answers (fun vs H Q E h => len_answers h) (fun cdv A outer s H vs Q E hr h => ⟨t_answers K E, ?_, pure_answers T (shapes_ok K) vs H Q E h⟩)
  exact (pss_cons (ps_set (i := 1) sc_answers.nd rfl (Or.inl rfl) (pe_make0 M_Desk_init G_Desk_init (hr.mono (by decide)) rfl m_Desk_init b_Desk_init .nil passL))
    (pss_cons (ps_set (i := 2) sc_answers.nd rfl (Or.inl rfl) (pe_make M_Line_init G_Line_init (hr.mono (by decide)) rfl m_Line_init b_Line_init .nil passL (pa_cons (pv 0) pa_nil)))
    (pss_cons (ps_set (i := 3) sc_answers.nd rfl (Or.inl rfl) (pe_lst pa_nil))
    (pss_cons (ps_while (passes_of rfl) (pt_val (pe_meth0 (pv 2) c_Line_has_more m_Line_has_more G_Line_has_more (hr.mono (by decide)) b_Line_has_more .nil passL)) (pss_cons (ps_set (i := 4) sc_answers.nd rfl (Or.inl rfl) (pe_call G_answer_to (hr.mono (by decide)) rfl m_answer_to k_answer_to b_answer_to .nil passL (pa_cons (pv 1) (pa_cons (pe_meth0 (pv 2) c_Line_next_call m_Line_next_call G_Line_next_call (hr.mono (by decide)) b_Line_next_call .nil passL) pa_nil))))
    (pss_cons (ps_expr (pe_bm PySem.F.plainAttrs_list PySem.F.slot_list_append PySem.F.type_list_append mt_append (pv 3) (pa_cons (pe_callB call_len (by rfl) (g_len T) PySem.boot_len (pa_cons (pv 4) pa_nil)) pa_nil)))
    (pss_one (ps_expr (pe_bm PySem.F.plainAttrs_list PySem.F.slot_list_extend PySem.F.type_list_extend mt_extend (pv 3) (pa_cons (pv 4) pa_nil)))))))
    (pss_one (ps_ret (pv 3)))))))
end
end Ix
-- part IxH
set_option maxHeartbeats 0
namespace Ix
open PySem PySem.Spec PyProof.Rows L2
def nm0 : List PySem.Str := ["NO_TOKEN", "MISPLACED", "OUT_OF_RANGE", "WRONG_WORD", "TOO_MANY", "Fault", "table_numbers", "question_numbers", "index_numbers", "filter_numbers", "counted", "HIGHEST_VALUE", "Sheet", "Group", "Filter"]
def nm1 : List PySem.Str := ["Question", "Index", "filters_of", "filter_of", "is_sound", "rows_passing", "rows_split", "passes_all", "passes", "say", "lets_all_pass", "is_within", "say_in_table", "one_form", "table_line"]
def nm2 : List PySem.Str := ["group_line", "question_line", "index_line", "ended", "column_words", "filter_words", "WORD", "NUMBER", "SIGN", "END", "LETTERS", "LETTER_A", "LETTER_Z", "DIGIT_0", "DIGIT_9"]
def nm3 : List PySem.Str := ["BLANKS", "SIGNS", "LONGEST_RUN", "Token", "tokens_of", "token_at", "word_at", "number_at", "run_end", "RESERVED", "Reader", "MOST_COLUMNS", "MOST_GROUPS", "MOST_QUESTIONS", "MOST_INDEXES"]
def nm4 : List PySem.Str := ["MOST_ROWS", "HIGHEST_LIMIT", "MOST_TIMES", "sheet_of", "check_room", "read_table", "read_new_name", "read_group", "read_cells", "read_question", "read_index", "read_columns", "read_column", "read_filters", "read_filter"]
def nm5 : List PySem.Str := ["SHAPES", "Call", "Line", "Part", "answered_parts", "ordered_parts", "found_by_cells", "up_to_limit", "serves", "covers", "columns_of", "needs_of", "is_free_by", "entries_of", "room_of"]
def nm6 : List PySem.Str := ["LOAD", "SHOWN", "TABLE", "ASK", "INDEX", "COUNT", "SPLIT", "ANSWER", "ALONE", "SERVES", "ROOM", "LONGEST_TEXT", "Desk", "answer_to", "answer_from"]
def nm7 : List PySem.Str := ["load", "shown", "about_question", "rows_answered", "filters_alone", "indexes_serving", "about_index", "column_split", "about_filters", "one_if"]
def names : List PySem.Str := nm0 ++ nm1 ++ nm2 ++ nm3 ++ nm4 ++ nm5 ++ nm6 ++ nm7
abbrev R : PySem.W.OpenSpec := PySem.Challenge.rw_indexneeds_s01_answers
abbrev qv : Program := PySem.W.view R.prog [115]
/-! ### what the head looks at -/
/-- what lies behind the top, by the globals -/
def ad0 : List Addr := [3, 6, 4, 31, 41, 48, 55, 62, 69, 86, 107, 128, 149, 170, 179, 186, 193, 198, 203, 208, 215, 220, 227, 234, 239, 244, 251, 256, 261, 268, 275, 280, 287, 288, 289, 306, 317, 324, 329, 336, 343, 344, 410, 421, 428, 435, 442, 449, 454, 459, 464, 471, 478, 483, 490, 491, 520, 569, 590, 601, 606, 611, 618, 623, 628, 635, 640, 645, 652, 659, 676, 687, 694, 701, 708, 715, 722, 727, 732, 737, 744, 751, 758, 765, 0, 30, 40, 47, 54, 61, 68, 85, 106, 127, 148, 169, 178, 185, 192, 197]
def ad1 : List Addr := [202, 207, 214, 219, 226, 233, 238, 243, 250, 255, 260, 267, 274, 279, 286, 305, 316, 323, 328, 335, 342, 409, 420, 427, 434, 441, 448, 453, 458, 463, 470, 477, 482, 489, 492, 493, 494, 495, 496, 497, 498, 499, 500, 501, 502, 503, 519, 568, 589, 600, 605, 610, 617, 622, 627, 634, 639, 644, 651, 658, 675, 686, 693, 700, 707, 714, 721, 726, 731, 736, 743, 750, 757, 764, 28, 29, 32, 35, 36, 37, 38, 39, 42, 43, 44, 45, 46, 49, 50, 51, 52, 53, 56, 57, 58, 59, 60, 63, 64, 65]
def ad2 : List Addr := [66, 67, 83, 84, 87, 88, 104, 105, 108, 109, 125, 126, 129, 130, 146, 147, 150, 151, 167, 168, 171, 172, 175, 176, 177, 180, 181, 182, 183, 184, 187, 188, 189, 190, 191, 194, 195, 196, 199, 200, 201, 204, 205, 206, 209, 210, 211, 212, 213, 216, 217, 218, 221, 222, 223, 224, 225, 228, 229, 230, 231, 232, 235, 236, 237, 240, 241, 242, 245, 246, 247, 248, 249, 252, 253, 254, 257, 258, 259, 262, 263, 264, 265, 266, 269, 270, 271, 272, 273, 276, 277, 278, 281, 282, 283, 284, 285, 303, 304, 307]
def ad3 : List Addr := [308, 311, 312, 313, 314, 315, 318, 319, 320, 321, 322, 325, 326, 327, 330, 331, 332, 333, 334, 337, 338, 339, 340, 341, 358, 365, 372, 379, 386, 393, 400, 407, 408, 411, 412, 415, 416, 417, 418, 419, 422, 423, 424, 425, 426, 429, 430, 431, 432, 433, 436, 437, 438, 439, 440, 443, 444, 445, 446, 447, 450, 451, 452, 455, 456, 457, 460, 461, 462, 465, 466, 467, 468, 469, 472, 473, 474, 475, 476, 479, 480, 481, 484, 485, 486, 487, 488, 517, 518, 521, 522, 538, 545, 552, 559, 566, 567, 570, 571, 587]
def ad4 : List Addr := [588, 591, 592, 595, 596, 597, 598, 599, 602, 603, 604, 607, 608, 609, 612, 613, 614, 615, 616, 619, 620, 621, 624, 625, 626, 629, 630, 631, 632, 633, 636, 637, 638, 641, 642, 643, 646, 647, 648, 649, 650, 653, 654, 655, 656, 657, 673, 674, 677, 678, 681, 682, 683, 684, 685, 688, 689, 690, 691, 692, 695, 696, 697, 698, 699, 702, 703, 704, 705, 706, 709, 710, 711, 712, 713, 716, 717, 718, 719, 720, 723, 724, 725, 728, 729, 730, 733, 734, 735, 738, 739, 740, 741, 742, 745, 746, 747, 748, 749, 752]
def ad5 : List Addr := [753, 754, 755, 756, 759, 760, 761, 762, 763, 27, 82, 103, 124, 145, 166, 302, 357, 364, 371, 378, 385, 392, 399, 406, 516, 537, 544, 551, 558, 565, 586, 672, 22, 23, 24, 25, 26, 77, 78, 79, 80, 81, 98, 99, 100, 101, 102, 119, 120, 121, 122, 123, 140, 141, 142, 143, 144, 161, 162, 163, 164, 165, 297, 298, 299, 300, 301, 352, 353, 354, 355, 356, 359, 360, 361, 362, 363, 366, 367, 368, 369, 370, 373, 374, 375, 376, 377, 380, 381, 382, 383, 384, 387, 388, 389, 390, 391, 394, 395, 396]
def ad6 : List Addr := [397, 398, 401, 402, 403, 404, 405, 511, 512, 513, 514, 515, 532, 533, 534, 535, 536, 539, 540, 541, 542, 543, 546, 547, 548, 549, 550, 553, 554, 555, 556, 557, 560, 561, 562, 563, 564, 581, 582, 583, 584, 585, 667, 668, 669, 670, 671]
def ads : List Addr := ad0 ++ (ad1 ++ (ad2 ++ (ad3 ++ (ad4 ++ (ad5 ++ (ad6))))))
def frs (look : Addr → Option Obj) : PySem.W.Frag := He.frG look ads
def seen (look : Addr → Option Obj) : He.AlD × Bool := (He.obsD fa fn (frs look), exB (frs look))
theorem seen_ok {look : Addr → Option Obj} (e : seen look = (He.valD fn, true)) : He.SaysD fa fn (frs look) ∧ exB (frs look) = true := by
  unfold seen at e
  exact ⟨(Prod.mk.inj e).1, (Prod.mk.inj e).2⟩
def hk : PySem.W.Hook where
  α := He.AlD × Bool
  obs := fun st => seen st.heap.get?
  val := fun _ => (He.valD fn, true)
  says := fun _ hp => ∃ F : PySem.W.Frag, F.In hp ∧ He.SaysD fa fn F ∧ exB F = true
  of := fun _ st e => ⟨frs st.heap.get?, He.frG_in, seen_ok e⟩
  keeps := fun _ _ _ says more => by
    obtain ⟨F, inF, rest⟩ := says
    exact ⟨F, inF.keeps more, rest⟩
def ob (st : PySem.W.SharedT) : He.AlD × Bool := seen (HandSHeadRun.getT st)
theorem ob_eq (st : PySem.W.SharedT) : ob st = hk.obs st.abs := congrArg seen (funext fun a => HandSHeadRun.getT_eq st a)
def runs (w : World) : Prop := HandSHeadRun.RunEqS R qv hk ob 20000 names w
/-! ### the top's run, look by look -/
abbrev wAt (w : World) (b : Bool) : World := w.withFollow "special-get-raises" b
noncomputable abbrev endAt (w : World) (os : OsState) : Option PySem.W.SharedT := HandSHeadRun.endF (HandSHeadRun.stepQ (HandSHeadRun.denQ HandSHeadRun.tabQ) R.prog w) 20000 R.prog w os
def frT (s : PySem.W.SharedT) : PySem.W.Frag := frs (HandSHeadRun.getT s)
def eqA (w : World) (os : OsState) : Prop := (endAt w os).map (fun s => (HandSHeadRun.looksF R.prog (PySem.W.boot_heap w.params) s.abs, HandSHeadRun.seenQ qv names (PySem.importedModules R.prog.main.body) (fun s => PySem.W.xlAt qv [] s && PySem.W.recOk [] s) s.abs)) = some (true, PySem.W.openGood qv names)
def eqB (w : World) (os : OsState) : Prop := (endAt w os).map (fun s => ((fa.all fun f => f.ok (frT s)), exB (frT s))) = some (true, true)
def eqC (w : World) (os : OsState) : Prop := (endAt w os).map (fun s => ((fn.all fun d => d.ok (frT s)), fn.map fun d => He.fnW (frT s) d.at_)) = some (true, fn.map He.DefD.val)
theorem join3 {S α β γ δ : Type} {o : Option S} {f : S → α} {g : S → β} {h : S → γ} {k : S → δ} {a : α} {b : β} {c : γ} {d : δ} (p1 : o.map f = some a) (p2 : o.map g = some b) (p3 : o.map h = some c) (q : ∀ s, f s = a → g s = b → h s = c → k s = d) : o.map k = some d := by
  cases o with
  | none => cases p1
  | some s => exact congrArg some (q s (Option.some.inj p1) (Option.some.inj p2) (Option.some.inj p3))
theorem ob_of {s : PySem.W.SharedT} (h1 : (fa.all fun f => f.ok (frT s)) = true) (h2 : (fn.all fun d => d.ok (frT s)) = true) (h3 : (fn.map fun d => He.fnW (frT s) d.at_) = fn.map He.DefD.val) (h4 : exB (frT s) = true) : ob s = (He.valD fn, true) := by
  show ((((fa.all fun f => f.ok (frT s)) && fn.all fun d => d.ok (frT s)), fn.map fun d => He.fnW (frT s) d.at_), exB (frT s)) = _
  rw [h1, h2, h3, h4]
  rfl
theorem runs_of {w : World} (a : ∀ os, eqA w os) (b : ∀ os, eqB w os) (c : ∀ os, eqC w os) : runs w := fun os => by
  refine join3 (a os) (b os) (c os) fun s e1 e2 e3 => ?_
  obtain ⟨l1, l2⟩ := Prod.mk.inj e1
  obtain ⟨l3, l4⟩ := Prod.mk.inj e2
  obtain ⟨l5, l6⟩ := Prod.mk.inj e3
  exact Prod.ext l1 (Prod.ext l2 (ob_of l3 l5 l6 l4))
theorem runA_no (w : World) (os : OsState) : eqA (wAt w false) os := by unfold eqA; kernel_rfl
theorem runB_no (w : World) (os : OsState) : eqB (wAt w false) os := by unfold eqB; kernel_rfl
theorem runC_no (w : World) (os : OsState) : eqC (wAt w false) os := by unfold eqC; kernel_rfl
theorem runA_yes (w : World) (os : OsState) : eqA (wAt w true) os := by unfold eqA; kernel_rfl
theorem runB_yes (w : World) (os : OsState) : eqB (wAt w true) os := by unfold eqB; kernel_rfl
theorem runC_yes (w : World) (os : OsState) : eqC (wAt w true) os := by unfold eqC; kernel_rfl
theorem run_all (w : World) : runs w := PySem.W.byRow2 "special-get-raises" (P := runs) (fun w => runs_of (runA_no w) (runB_no w) (runC_no w)) (fun w => runs_of (runA_yes w) (runB_yes w) (runC_yes w)) w
/-! ### the end -/
theorem facts {w : World} {F : PySem.W.Frag} {hp : Heap} {mg : Str → Option Value} {f : Addr} (inF : F.In hp) (G : hp.Ns mainGlobals mg) (hf : mg ("answers" : Str) = some (.ref f)) (says : He.SaysD fa fn F ∧ exB F = true) :
    ∃ fd : FuncData, (∀ (s : Shared) (us : List Value), us.length = 1 → BindsTo s fd ⟨us, []⟩ ((["calls"] : List Str).zip us)) ∧ ∀ base : Heap, F.In base → base.Ns mainGlobals mg → FnOk R.prog w F mg base (L2.CX R.prog w) 11 f fd ["calls"] (sp_answers F) := by
  have T : Txt F mg := ⟨⟨hp, inF, G⟩, says.1, says.2⟩
  obtain ⟨fd, D⟩ := T.says.def_ 75 (d := d_answers) rfl
  have e := hf.symm.trans (g_answers T)
  cases e
  exact ⟨fd, FunD.bindsA (ps := ["calls"]) D fun _ _ _ _ _ _ us hl => match us, hl with | [_], _ => rfl, fun base _ _ => okF_answers T D⟩
theorem walks : PySem.W.WalkOS qv names (PySem.W.XL qv []) hk.says R (HandSHeadRun.topDef R.prog 115) [] (fun f vs => PySem.call f vs) := by
  intro w s₀ s₁ mg mb G Y
  obtain ⟨F, says⟩ := Y
  refine L2.walk_spec (r := R) (k := 11) (K := fun _ => F) (CX := fun w => L2.CX R.prog w) (ps := ["calls"]) (sp := fun _ => sp_answers F) (YP := fun _ hp => F.In hp ∧ He.SaysD fa fn F ∧ exB F = true) (by decide +kernel) (by kernel_rfl) rfl ⟨rfl, by decide, by decide⟩ (fun _ _ Y => Y.1) ?_ ?_ ?_ w s₀ s₁ mg mb G says
  · intro w mg f hp Y inF G hmg0
    have hmg : mg ("answers" : Str) = some (.ref f) := by
      have e : (HandSHeadRun.topDef R.prog 115).name = ("answers" : Str) := by kernel_rfl
      rw [← e]
      exact hmg0
    exact facts inF G hmg Y.2
  · intro w H xs a hO hwi hask hx
    cases hx with
    | cons h1 h2 =>
      cases h2
      cases h1 with
      | lst hs ha =>
        have e := L2.ints_dw a.1 _ ha
        subst e
        exact ⟨_, a.1, rfl, hs, hask, fun p H' hp _ => .lst (L2.SqL.of hp) (L2.dw_ints _)⟩
  · rintro w H s e s' ⟨_, _, _, _, _, _, _, _, _, _, _, _, z⟩
    exact z
end Ix
open PySem PySem.W PySem.Calls PyProof.Rows
theorem PySem.Challenge.cw_indexneeds_s01_answers_holds : PySem.Challenge.rw_indexneeds_s01_answers.Holds :=
  HandSHeadRun.head_spec (r := Ix.R) (q := Ix.qv) (H := Ix.hk) (ob := Ix.ob) (M := 20000) (loose := Ix.names) (d := HandSHeadRun.topDef Ix.R.prog 115) (kwd := []) Ix.ob_eq
    (by kernel_rfl) (fun s => by kernel_rfl) Ix.run_all (by kernel_rfl) (by kernel_rfl) (by kernel_rfl) (fun as h => PySem.W.OpenSpec.pre_hasAll (by decide +kernel) h) (by decide +kernel) (by decide +kernel) ⟨rfl, rfl, rfl, rfl, rfl, by decide +kernel⟩ ⟨[.list [.int 1]], by decide +kernel, by decide +kernel⟩ Ix.walks
